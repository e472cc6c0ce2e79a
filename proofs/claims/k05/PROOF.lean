import PyProof.Rows.All
import Wide.All
import OpenK.AllK
import Wide.FinOn
import Lean
import PyProof.EqAt
import PyProof.EqKinds
import PyProof.TupleCall
import PySem.Challenge.RW_timecourt_k05_texts_that_write_no_world
set_option Elab.async false
set_option linter.all false
set_option maxRecDepth 100000
namespace L2
open PySem PySem.Spec PyProof.Rows
abbrev Key := Sum Int Str
def WU : Key → Value → Bool
 | .inl k, v => Value.isInt k v
 | .inr x, v => Value.isStrOf x v
def keyH (w : World) : Key → Int
 | .inl k => hashInt k
 | .inr x => hashStr w x
theorem Yz : ∀ {k : Key} {v : Value}, WU k v = true → (∃ i t, k = Sum.inl i ∧ v = Value.int i t) ∨ (∃ x t, k = Sum.inr x ∧ v = Value.str x t)
 | .inl i, v, h => by
  obtain ⟨t, e⟩ := Value.isInt_shape (k := i) (v := v) h
  exact .inl ⟨i, t, rfl, e⟩
 | .inr x, v, h => by
  obtain ⟨t, e⟩ := Value.isStrOf_shape (x := x) (v := v) h
  exact .inr ⟨x, t, rfl, e⟩
theorem keyIs_int (i : Int) (t : Tok) : WU (.inl i) (.int i t) = true := by simp [WU, Value.isInt]
theorem Ve (x : Str) (t : Tok) : WU (.inr x) (.str x t) = true := by simp [WU, Value.isStrOf]
theorem key_ll (a b : Int) : decide ((Sum.inl a : Key) = Sum.inl b) = (a == b) := by
 by_cases e : a = b
 ·subst e; simp
 ·have h : ¬ (Sum.inl a : Key) = Sum.inl b := fun q => e (Sum.inl.inj q)
  rw [decide_eq_false h]
  exact (beq_eq_false_iff_ne.mpr e).symm
theorem key_rr (a b : Str) : decide ((Sum.inr a : Key) = Sum.inr b) = decide (a = b) := by
 by_cases e : a = b
 ·subst e; simp
 ·have h : ¬ (Sum.inr a : Key) = Sum.inr b := fun q => e (Sum.inr.inj q)
  rw [decide_eq_false h, decide_eq_false e]
theorem key_lr (a : Int) (b : Str) : decide ((Sum.inl a : Key) = Sum.inr b) = false := decide_eq_false (fun q => nomatch q)
theorem key_rl (a : Str) (b : Int) : decide ((Sum.inr a : Key) = Sum.inl b) = false := decide_eq_false (fun q => nomatch q)
def Z5 (prog : Program) (w : World) : PySem.KeyKind prog w Key where
 is := WU
 hash := keyH w
 inj := fun v a b ha hb => by
  rcases Yz ha with ⟨i, t, rfl, rfl⟩ | ⟨x, t, rfl, rfl⟩
  ·rcases Yz hb with ⟨j, u, rfl, e⟩ | ⟨y, u, rfl, e⟩
   ·injection e with e1 _; rw [e1]
   ·exact nomatch e
  ·rcases Yz hb with ⟨j, u, rfl, e⟩ | ⟨y, u, rfl, e⟩
   ·exact nomatch e
   ·injection e with e1 _; rw [e1]
 byValue := fun k v h => by
  rcases Yz h with ⟨i, t, rfl, rfl⟩ | ⟨x, t, rfl, rfl⟩ <;> rfl
 pyHash := fun hv h => by
  rcases Yz hv with ⟨i, t, rfl, rfl⟩ | ⟨x, t, rfl, rfl⟩
  ·exact wpAny_pyHash_int h
  ·exact wpAny_pyHash_str h
 eqBool := fun hu hv h => by
  rcases Yz hu with ⟨i, t, rfl, rfl⟩ | ⟨x, t, rfl, rfl⟩
  ·rcases Yz hv with ⟨j, u, rfl, rfl⟩ | ⟨y, u, rfl, rfl⟩
   ·rw [key_ll] at h; exact wpAny_eqBool_int h
   ·rw [key_lr] at h; exact SeqAt.EqAt.int_str i t y u _ _ _ _ h
  ·rcases Yz hv with ⟨j, u, rfl, rfl⟩ | ⟨y, u, rfl, rfl⟩
   ·rw [key_rl] at h; exact SeqAt.EqAt.str_int x t j u _ _ _ _ h
   ·rw [key_rr] at h; exact wpAny_eqBool_str h
 «strs» := fun k x t v h => by
  rcases Yz h with ⟨i, u, rfl, e⟩ | ⟨y, u, rfl, e⟩
  ·exact nomatch e
  ·injection e with e1 _
   subst e1
   cases v <;> rfl
inductive V where
 | non | bl (b : Bool) | int (i : Int) | str (x : Str) | byt (b : Array UInt8) | flt (b : UInt64) | ref (a : Addr) | ty (n : String)
 deriving DecidableEq
def Z8 : V → Value → Prop
 | .non, u => u = Value.none
 | .bl b, u => u = Value.bool b
 | .int i, u => ∃ t, u = Value.int i t
 | .str x, u => ∃ t, u = Value.str x t
 | .byt b, u => ∃ t, u = Value.bytes b t
 | .flt b, u => ∃ t, u = Value.float b t
 | .ref a, u => u = Value.ref a
 | .ty n, u => u = Value.type n
abbrev Zx : List V → List Value → Prop := Paired Z8
theorem Zx.length {xs : List V} {us : List Value} (r : Zx xs us) : xs.length = us.length := Paired.length r
theorem Zx.get : ∀ {xs : List V} {us : List Value} {i : Nat} {x : V}, Zx xs us → xs[i]? = some x → ∃ u, us[i]? = some u ∧ Z8 x u
 | _, _, _, _, .nil, e => by simp at e
 | _, _, 0, _, .cons r _, e => by simp at e; subst e; exact ⟨_, rfl, r⟩
 | _, _, i + 1, x, .cons _ t, e => by
  obtain ⟨u, h1, h2⟩ := Zx.get (i := i) (x := x) t (by simpa using e)
  exact ⟨u, by simpa using h1, h2⟩
theorem Zx.set {x : V} {u : Value} (r : Z8 x u) : ∀ {xs : List V} {us : List Value} (i : Nat), Zx xs us → Zx (xs.set i x) (us.set i u)
 | _, _, _, .nil => .nil
 | _, _, 0, .cons _ t => .cons r t
 | _, _, i + 1, .cons q t => .cons q (Zx.set r i t)
theorem Zx.append : ∀ {xs ys : List V} {us ws : List Value}, Zx xs us → Zx ys ws → Zx (xs ++ ys) (us ++ ws)
 | _, _, _, _, .nil, s => s
 | _, _, _, _, .cons r t, s => .cons r (Zx.append t s)
theorem Zx.take : ∀ {xs : List V} {us : List Value} (n : Nat), Zx xs us → Zx (xs.take n) (us.take n)
 | _, _, 0, _ => .nil
 | _, _, _ + 1, .nil => .nil
 | _, _, n + 1, .cons r t => .cons r (Zx.take n t)
theorem Zx.drop : ∀ {xs : List V} {us : List Value} (n : Nat), Zx xs us → Zx (xs.drop n) (us.drop n)
 | _, _, 0, r => r
 | _, _, _ + 1, .nil => .nil
 | _, _, n + 1, .cons _ t => Zx.drop n t
def RelO : Option V → Option Value → Prop
 | some v, some u => Z8 v u
 | none, none => True
 | _, _ => False
def KV {κ : Type} : List (κ × V) → List (κ × Value) → Prop := Paired fun (p : κ × V) (q : κ × Value) => p.1 = q.1 ∧ Z8 p.2 q.2
def kV : Key → V
 | .inl i => .int i
 | .inr x => .str x
inductive HO where
 | lst (xs : List V)
 | tup (xs : List V)
 | dK (kvs : List (Key × V)) | dT (kvs : List (List Key × V))
 | set (S : Int → Bool) (n : Nat)
 | ins (C dx : Addr) (fs : List (Str × V))
 | own (x : Addr)
 | xd (fs : List (Str × V))
 | met (f x : Addr)
 | rng (lo hi : Int)
 | frz (o : Obj) (u : HO)
 | tbl (ps : Array Value)
 | ext (φ : Heap → Prop)
abbrev Hp := Addr → Option HO
def upd (H : Hp) (a : Addr) (o : HO) : Hp := fun b => if b = a then some o else H b
theorem Zd {H : Hp} {a : Addr} {o : HO} : upd H a o a = some o := by unfold upd; rw [if_pos rfl]
theorem Zv {H : Hp} {a b : Addr} {o : HO} (h : b ≠ a) : upd H a o b = H b := by unfold upd; rw [if_neg h]
theorem ne_of {H : Hp} {a b : Addr} {o u : HO} (h : H a = some o) (h' : H b = some u) (d : o ≠ u) : a ≠ b := by
 intro e; subst e; rw [h] at h'; exact d (Option.some.inj h')
theorem Yg {H : Hp} {a b : Addr} {o : HO} (h : H a = some o) (h' : H b = none) : a ≠ b := by
 intro e; subst e; rw [h] at h'; cases h'
section
variable (P : Program) (w : World)
def Y6 (H : Hp) (h : Heap) (a : Addr) : HO → Prop
 | .lst xs => xs.length ≤ sizeLine ∧ ∃ (its : List Value) (n : Nat), Zx xs its ∧ h.get? a = some { cls := .type "list", data := .seq its.toArray n }
 | .tup xs => xs.length ≤ sizeLine ∧ ∃ its : List Value, Zx xs its ∧ IsTup h a its.toArray
 | .dK kvs => kvs.length ≤ sizeLine ∧ (a == sysModules) = false ∧ ∃ vs, KV kvs vs ∧ h.DictOf (Z5 P w) a vs
 | .dT kvs => kvs.length ≤ sizeLine ∧ (a == sysModules) = false ∧ ∃ xs : List (List Key × Addr × Value),
   Paired (fun (p : List Key × V) (q : List Key × Addr × Value) => p.1 = q.1 ∧ H q.2.1 = some (.tup (p.1.map kV)) ∧ Z8 p.2 q.2.2) kvs xs ∧
   ∃ o es ep, h.get? a = some o ∧ o.ExactDict ∧ o.data = .dict es ep ∧ es.toList = xs.map (entryOfKey (tupleKind (Z5 P w))) ∧ (xs.map (·.1)).Nodup
 | .set S n => h.SetOf (intKind P w) a S n
 | .ins C dx fs => H dx = some (.own a) ∧ fs.length ≤ 1000 ∧ dx ≠ a ∧ h.get? a = some (PySem.W.instObj C dx) ∧
   ∃ mA, h.Ns1 dx mA ∧ (∀ f, RelO (fs.lookup f) (mA f)) ∧ PySem.Within mA (fs.map (·.1))
 | .own _ => ∃ o, h.get? a = some o
 | .xd fs => ∃ mA, h.Ns1 a mA ∧ ∀ f, RelO (fs.lookup f) (mA f)
 | .rng lo hi => ∃ t u v, h.get? a = some { cls := .type "range", data := .fields #[.int lo t, .int hi u, .int 1 v] }
 | .frz o u => h.get? a = some o ∧ Y6 H h a u
 | .tbl ps => h.get? a = some { cls := .none, data := .fields ps }
 | .met f x => h.get? a = some (PySem.W.methodObj (.ref f) (.ref x))
 | .ext φ => φ h ∧ (∃ o, h.get? a = some o) ∧ ∀ h1 h2 : Heap, φ h1 → (∀ o, h1.get? a = some o → h2.get? a = some o) → φ h2
def HOk (H : Hp) (h : Heap) : Prop := ∀ a o, H a = some o → Y6 P w H h a o
end
section
variable {P : Program} {w : World} {H H' : Hp} {h h' : Heap} {a : Addr} {o : HO}
theorem Y6.lt (x : Y6 P w H h a o) : a < h.objs.size := by
 cases o with
 | lst xs => obtain ⟨_, _, _, _, e⟩ := x; exact Heap.lt_size e
 | tup xs => obtain ⟨_, _, _, p⟩ := x; exact p.lt
 | dK kvs => obtain ⟨_, _, _, _, o, _, _, e, _⟩ := x; exact Heap.lt_size e
 | dT kvs => obtain ⟨_, _, _, _, o, _, _, e, _⟩ := x; exact Heap.lt_size e
 | set S n => obtain ⟨o, _, _, _, e, _⟩ := x; exact Heap.lt_size e
 | ins C dx fs => obtain ⟨_, _, _, e, _⟩ := x; exact Heap.lt_size e
 | own y => obtain ⟨_, e⟩ := x; exact Heap.lt_size e
 | xd fs => obtain ⟨_, ⟨_, _, _, e, _⟩, _⟩ := x; exact Heap.lt_size e
 | rng lo hi => obtain ⟨_, _, _, e⟩ := x; exact Heap.lt_size e
 | frz ob u => obtain ⟨e, _⟩ := x; exact Heap.lt_size e
 | tbl ps => exact Heap.lt_size (show h.get? a = some _ from x)
 | met f y => exact Heap.lt_size (show h.get? a = some _ from x)
 | ext φ => obtain ⟨_, ⟨_, e⟩, _⟩ := x; exact Heap.lt_size e
theorem Paired.mapP {α β : Type} {F G : α → β → Prop} : ∀ {l₁ : List α} {l₂ : List β}, Paired F l₁ l₂ → (∀ a b, F a b → G a b) → Paired G l₁ l₂
 | _, _, .nil, _ => .nil
 | _, _, .cons r t, f => .cons (f _ _ r) (Paired.mapP t f)
theorem Y6.stay (x : Y6 P w H h a o) (k : ∀ b u, (b = a ∨ H b = some (.own a)) → h.get? b = some u → h'.get? b = some u)
  (ho : ∀ b, H b = some (.own a) → H' b = some (.own a)) (ht : ∀ b xs, H b = some (.tup xs) → H' b = some (.tup xs)) : Y6 P w H' h' a o := by
 induction o with
 | lst xs => obtain ⟨z, its, n, r, e⟩ := x; exact ⟨z, its, n, r, k _ _ (.inl rfl) e⟩
 | tup xs => obtain ⟨z, its, r, ob, e, c⟩ := x; exact ⟨z, its, r, ob, k _ _ (.inl rfl) e, c⟩
 | dK kvs => obtain ⟨z, y, vs, r, ob, es, ep, e, c⟩ := x; exact ⟨z, y, vs, r, ob, es, ep, k _ _ (.inl rfl) e, c⟩
 | dT kvs =>
  obtain ⟨z, y, xs, r, ob, es, ep, e, c⟩ := x
  exact ⟨z, y, xs, Paired.mapP r fun p q z => ⟨z.1, ht _ _ z.2.1, z.2.2⟩, ob, es, ep, k _ _ (.inl rfl) e, c⟩
 | set S n => obtain ⟨ob, es, ep, t, e, c⟩ := x; exact ⟨ob, es, ep, t, k _ _ (.inl rfl) e, c⟩
 | ins C dx fs =>
  obtain ⟨d, z, ne, e, mA, ⟨od, es, ep, e2, c⟩, r⟩ := x
  exact ⟨ho _ d, z, ne, k _ _ (.inl rfl) e, mA, ⟨od, es, ep, k _ _ (.inr d) e2, c⟩, r⟩
 | own y => obtain ⟨ob, e⟩ := x; exact ⟨ob, k _ _ (.inl rfl) e⟩
 | xd fs => obtain ⟨mA, ⟨od, es, ep, e, c⟩, r⟩ := x; exact ⟨mA, ⟨od, es, ep, k _ _ (.inl rfl) e, c⟩, r⟩
 | rng lo hi => obtain ⟨t, u, v, e⟩ := x; exact ⟨t, u, v, k _ _ (.inl rfl) e⟩
 | frz ob u ih => obtain ⟨e, q⟩ := x; exact ⟨k _ _ (.inl rfl) e, ih q⟩
 | tbl ps =>
  have e : h.get? a = some { cls := .none, data := .fields ps } := x
  show h'.get? a = some { cls := .none, data := .fields ps }
  exact k a _ (.inl rfl) e
 | met f y =>
  have e : h.get? a = some (PySem.W.methodObj (.ref f) (.ref y)) := x
  show h'.get? a = some (PySem.W.methodObj (.ref f) (.ref y))
  exact k a _ (.inl rfl) e
 | ext φ => obtain ⟨p, ⟨o, e⟩, st⟩ := x; exact ⟨st _ _ p fun o q => k _ _ (.inl rfl) q, ⟨o, k _ _ (.inl rfl) e⟩, st⟩
theorem HOk.lt (x : HOk P w H h) (e : H a = some o) : a < h.objs.size := (x a o e).lt
theorem HOk.fresh (x : HOk P w H h) (e : h.objs.size ≤ a) : H a = none := by
 cases q : H a with
 | none => rfl
 | some u => exact absurd (Nat.lt_of_lt_of_le (x.lt q) e) (Nat.lt_irrefl _)
theorem HOk.kept (x : HOk P w H h) (k : ∀ b u, h.get? b = some u → h'.get? b = some u) : HOk P w H h' := fun a o e =>
 (x a o e).stay (fun b u _ q => k b u q) (fun _ q => q) fun _ _ q => q
theorem HOk.laid (x : HOk P w H h) (k : ∀ b u, h.get? b = some u → h'.get? b = some u) (hp : h.objs.size ≤ a) (new : Y6 P w (upd H a o) h' a o) : HOk P w (upd H a o) h' := fun b u e => by
 have hn := x.fresh hp
 by_cases hb : b = a
 ·subst hb; rw [Zd] at e; cases e; exact new
 ·rw [Zv hb] at e
  exact (x b u e).stay (fun c v _ q => k c v q) (fun c q => by rw [Zv (Yg q hn)]; exact q) fun c xs q => by rw [Zv (Yg q hn)]; exact q
end
def Rd (H : Hp) (a : Addr) (u : HO) : Prop := H a = some u ∨ ∃ o, H a = some (.frz o u)
theorem Rd.ok {P : Program} {w : World} {H : Hp} {h : Heap} {a : Addr} {u : HO} (r : Rd H a u) (x : HOk P w H h) : Y6 P w H h a u := by
 rcases r with r | ⟨o, r⟩
 ·exact x a u r
 ·obtain ⟨_, q⟩ := x a _ r
  exact q
def Mut : Option HO → Prop
 | some (.lst _) => True
 | some (.dK _) => True
 | some (.dT _) => True
 | some (.set _ _) => True
 | some (.ins _ _ _) => True
 | some (.ext _) => True
 | _ => False
section
variable {P : Program} {w : World} {H : Hp} {h h' : Heap} {x e : Addr} {o' : HO}
theorem HOk.write (ok : HOk P w H h) (mu : Mut (H x)) (he : e = x ∨ H e = some (.own x)) (k : ∀ b u, b ≠ e → h.get? b = some u → h'.get? b = some u) (heo : ∃ u, h'.get? e = some u)
  (new : Y6 P w (upd H x o') h' x o') : HOk P w (upd H x o') h' := fun b u q => by
 have nown : ∀ c y, H c = some (.own y) → c ≠ x := fun c y r z => by subst z; rw [r] at mu; exact mu
 have ntup : ∀ c xs, H c = some (.tup xs) → c ≠ x := fun c xs r z => by subst z; rw [r] at mu; exact mu
 by_cases hb : b = x
 ·subst hb; rw [Zd] at q; cases q; exact new
 ·rw [Zv hb] at q
  by_cases hbe : b = e
  ·have q' : H b = some (.own x) := by
    rcases he with z | z
    ·exact absurd (hbe.trans z) hb
    ·rw [hbe]; exact z
   rw [q] at q'; cases q'
   obtain ⟨v, hv⟩ := heo
   exact ⟨v, by rw [hbe]; exact hv⟩
  ·refine (ok b u q).stay (fun c v hc r => k c v ?_ r) (fun c r => by rw [Zv (nown c b r)]; exact r) fun c xs r => by rw [Zv (ntup c xs r)]; exact r
   rcases hc with rfl | hc
   ·exact hbe
   ·rintro rfl
    rcases he with z | z
    ·exact nown c b hc z
    ·rw [hc] at z; cases z; exact hb rfl
end
structure Un (fs ex : List Addr) (H H' : Hp) (h h' : Heap) : Prop where
 keep : ∀ b o, h.get? b = some o → H b = none → b ∉ fs → b ∉ ex → h'.get? b = some o
 slot : ∀ b o, h.get? b = some o → H b = none → b ∈ fs → b ∉ ex → ∃ sl, h'.get? b = some { o with slots := sl }
 free : ∀ b o, h.get? b = some o → H b = none → b ∉ ex → H' b = none
 there : ∀ b o, h.get? b = some o → b ∉ ex → ∃ o', h'.get? b = some o'
 tups : ∀ b xs, H b = some (.tup xs) → H' b = some (.tup xs)
 frzs : ∀ b o u, H b = some (.frz o u) → H' b = some (.frz o u)
 tbls : ∀ b ps, H b = some (.tbl ps) → ∃ more, H' b = some (.tbl (ps ++ more))
section
variable {fs fs' ex ex' : List Addr} {H H1 H2 : Hp} {h h1 h2 h' : Heap} {a x e : Addr} {o : HO}
theorem Un.any (u : Un fs ex H H1 h h1) {b : Addr} {ob : Obj} (q : h.get? b = some ob) (n : H b = none) (hx : b ∉ ex) : ∃ sl, h1.get? b = some { ob with slots := sl } := by
 by_cases hb : b ∈ fs
 ·exact u.slot b ob q n hb hx
 ·exact ⟨ob.slots, u.keep b ob q n hb hx⟩
theorem Un.kept (k : ∀ b u, h.get? b = some u → h'.get? b = some u) : Un fs ex H H h h' :=
 ⟨fun b ob q _ _ _ => k b ob q, fun b ob q _ _ _ => ⟨ob.slots, k b ob q⟩, fun _ _ _ n _ => n, fun b ob q _ => ⟨ob, k b ob q⟩, fun _ _ q => q, fun _ _ _ q => q, fun _ ps q => ⟨#[], by rw [q]; simp⟩⟩
theorem Un.refl : Un fs ex H H h h := Un.kept fun _ _ q => q
theorem Un.laid (k : ∀ b u, h.get? b = some u → h'.get? b = some u) (hp : h.objs.size ≤ a) (hn : H a = none) : Un fs ex H (upd H a o) h h' where
 keep := fun b u q _ _ _ => k b u q
 slot := fun b u q _ _ _ => ⟨u.slots, k b u q⟩
 free := fun b u q n _ => by rw [Zv (Nat.ne_of_lt (Nat.lt_of_lt_of_le (Heap.lt_size q) hp))]; exact n
 there := fun b u q _ => ⟨u, k b u q⟩
 tups := fun b xs q => by rw [Zv (Yg q hn)]; exact q
 frzs := fun b u xs q => by rw [Zv (Yg q hn)]; exact q
 tbls := fun b ps q => ⟨#[], by rw [Zv (Yg q hn), q]; simp⟩
theorem Un.write (mu : Mut (H x)) (he : e = x ∨ H e = some (.own x)) (k : ∀ b u, b ≠ e → h.get? b = some u → h'.get? b = some u) (heo : ∃ u, h'.get? e = some u) : Un fs ex H (upd H x o) h h' := by
 have hx : ∀ b, H b = none → b ≠ x := fun b n z => by subst z; rw [n] at mu; exact mu
 have hb : ∀ b, H b = none → b ≠ e := fun b n z => by
  subst z
  rcases he with r | r
  ·exact hx b n r
  ·rw [n] at r; cases r
 have hm : ∀ b u, H b = some u → ¬ Mut (some u) → b ≠ x := fun b u q nm z => by subst z; rw [q] at mu; exact nm mu
 refine ⟨fun b u q n _ _ => k b u (hb b n) q, fun b u q n _ _ => ⟨u.slots, k b u (hb b n) q⟩, fun b u q n _ => by rw [Zv (hx b n)]; exact n, fun b u q _ => ?_,
  fun b xs q => by rw [Zv (hm b _ q fun z => z)]; exact q, fun b u xs q => by rw [Zv (hm b _ q fun z => z)]; exact q, fun b ps q => ⟨#[], by rw [Zv (hm b _ q fun z => z), q]; simp⟩⟩
 by_cases hbe : b = e
 ·subst hbe; exact heo
 ·exact ⟨u, k b u hbe q⟩
end
def trk (h : Heap) (H : Hp) : List Addr := (List.range h.objs.size).filter fun a => (H a).isSome
def hidT (h : Heap) (H : Hp) : Heap := PySem.W.hideAll h (trk h H)
theorem hidT_size (h : Heap) (H : Hp) : (hidT h H).objs.size = h.objs.size := PySem.W.hideAll_size _ _
theorem hidT_get {h : Heap} {H : Hp} {b : Addr} {o : Obj} (e : h.get? b = some o) (n : H b = none) : (hidT h H).get? b = some o :=
 PySem.W.hideAll_get _ e fun hm => by
  have q : (H b).isSome = true := (List.mem_filter.mp hm).2
  rw [n] at q; simp at q
theorem of_hidT {h : Heap} {H : Hp} {b : Addr} {o : Obj} (e : (hidT h H).get? b = some o) : h.get? b = some o ∧ H b = none := by
 have e' : h.get? b = some o := PySem.W.of_hideAll (trk h H) e
 refine ⟨e', ?_⟩
 cases q : H b with
 | none => rfl
 | some x =>
  have hm : b ∈ trk h H := List.mem_filter.mpr ⟨List.mem_range.mpr (Heap.lt_size e'), by simp [q]⟩
  have z : (hidT h H).get? b = none := PySem.W.hideAll_none (trk h H) hm
  rw [z] at e; cases e
def allNews (g h : Heap) (L : Addr) : List (Addr × Obj) := (List.range h.objs.size).filterMap fun a => if a = L ∨ (g.get? a).isSome = true then none else (h.get? a).map fun o => (a, o)
def X5 (g h : Heap) (L d : Addr) : List (Addr × Obj) := (allNews g h L).filter fun p => decide (p.1 ≠ d)
structure Mod (K : PySem.W.Frag) (mg : Str → Option Value) (base : Heap) : Prop where
 kin : K.In base
 glob : base.Ns mainGlobals mg
 blt : ∃ mb, base.Ns builtinsNs mb ∧ ∀ x : Str, x ≠ "__name__" → mb x = bootBuiltins x
 nolimit : base.NoLimit
structure Cx where
 prog : Program
 w : World
 K : PySem.W.Frag
 mg : Str → Option Value
 base : Heap
 A : Around
 N : List Str
 s₀ : Shared
 H₀ : Hp
 env : Env
 outer : List Env
 stack : List Env
 ex : List Addr
 fn : Str → Bool
 calm : Bool
 pn : List (Addr × Obj)
 xe : Value → Shared → Prop
def frs (l : List Env) : List Addr := l.filterMap (·.frame)
abbrev Cx.fs (X : Cx) : List Addr := frs X.outer
def Vis (sc : Scope) (x : Str) : Prop := sc.names.lookup x = some .local ∨ sc.names.lookup x = some .cell ∨ sc.names.lookup x = some .free
def Loc (sc : Scope) (x : Str) : Prop := sc.names.lookup x = some .local ∨ sc.names.lookup x = some .cell
def Look (env : Env) (h : Heap) (m : Str → Option Value) (x : Str) (u : Value) : Prop :=
 (env.kindOf x = some .local ∧ m x = some u) ∨ ((env.kindOf x = some .cell ∨ env.kindOf x = some .free) ∧ ∃ c, env.cells.lookup x = some c ∧ h.IsCell c (some u))
structure Cx.Ok (X : Cx) : Prop where
 mod : Mod X.K X.mg X.base
 kind : X.env.scope.kind = .function
 glob : X.env.globals = mainGlobals
 blt : X.env.builtins = builtinsNs
 above : X.s₀.heap.objs.size ≤ X.env.locals
 inj : ∀ x y c, X.env.cells.lookup x = some c → X.env.cells.lookup y = some c → x = y
 has : ∀ x, (X.env.kindOf x = some .cell ∨ X.env.kindOf x = some .free) → ∃ c, X.env.cells.lookup x = some c
 cab : ∀ x c, X.fn x = true → X.env.cells.lookup x = some c → X.s₀.heap.objs.size ≤ c
 hd : X.calm = true → X.A.handled = none
 frames : X.A.frames = some X.stack
 stk : X.stack = X.outer ∨ (X.stack = X.env :: X.outer ∧ X.env.frame = some X.env.locals)
 exf : ∀ b ∈ X.ex, b ≠ X.env.locals ∧ ∀ x c, X.env.cells.lookup x = some c → c ≠ b
 bs : ∀ b o, X.base.get? b = some o → X.s₀.heap.get? b = some o ∧ X.H₀ b = none
 bsz : X.base.objs.size ≤ X.s₀.heap.objs.size
 noex : ∀ b o, X.base.get? b = some o → b ∉ X.ex
 exfs : ∀ b ∈ X.ex, b ∉ X.fs
 funs : X.s₀.heap.FunFrames X.base X.outer
 frf : ∀ b ∈ X.fs, X.H₀ b = none
structure Inv (X : Cx) (pins : List (Addr × Obj)) (σ : List (Option V)) (H : Hp) (s : Shared) : Prop where
 ok : X.Ok
 os : s.os = X.s₀.os
 bare : AllBare s.gens
 base : Un X.fs X.ex X.H₀ H X.s₀.heap s.heap
 loc : ∃ m, s.heap.Ns X.env.locals m ∧ ∀ (i : Nat) (x : Str) (v : V), X.N[i]? = some x → σ[i]? = some (some v) → Vis X.env.scope x → ∃ u, Z8 v u ∧ Look X.env s.heap m x u
 cell : ∀ x c, X.env.cells.lookup x = some c → ∃ v, s.heap.IsCell c v
 free : H X.env.locals = none
 freeC : ∀ x c, X.env.cells.lookup x = some c → H c = none
 pin : ∀ p ∈ X.pn ++ pins, s.heap.get? p.1 = some p.2 ∧ H p.1 = none ∧ p.1 ≠ X.env.locals ∧ p.1 ∉ X.fs ∧ ∀ v, p.2.data ≠ .cell v
 hok : HOk X.prog X.w H s.heap
 len : σ.length = X.N.length
section
variable {X : Cx} {pins : List (Addr × Obj)} {σ : List (Option V)} {H H' : Hp} {s : Shared} {h' : Heap}
theorem Cx.Ok.nofr (ok : X.Ok) {b : Addr} {o : Obj} (e : X.base.get? b = some o) : b ∉ X.fs := fun hb => by
 have := (ok.funs.mem hb).1
 rw [e] at this; cases this
theorem Inv.bs (I : Inv X pins σ H s) : ∀ b o, X.base.get? b = some o → s.heap.get? b = some o ∧ H b = none := fun b o e =>
 ⟨I.base.keep b o (I.ok.bs b o e).1 (I.ok.bs b o e).2 (I.ok.nofr e) (I.ok.noex b o e), I.base.free b o (I.ok.bs b o e).1 (I.ok.bs b o e).2 (I.ok.noex b o e)⟩
theorem Inv.bk (I : Inv X pins σ H s) : ∀ b o, X.base.get? b = some o → s.heap.get? b = some o := fun b o e => (I.bs b o e).1
theorem Inv.mod (I : Inv X pins σ H s) : Mod X.K X.mg X.base := I.ok.mod
theorem Inv.kIn (I : Inv X pins σ H s) : X.K.In s.heap := I.ok.mod.kin.keeps I.bk
theorem Inv.lt (I : Inv X pins σ H s) : X.env.locals < s.heap.objs.size := let ⟨_, hn, _⟩ := I.loc; hn.lt
theorem Inv.sz (I : Inv X pins σ H s) : X.s₀.heap.objs.size ≤ s.heap.objs.size := Nat.le_trans I.ok.above (Nat.le_of_lt I.lt)
theorem Inv.nofs (I : Inv X pins σ H s) {a : Addr} (h : s.heap.objs.size ≤ a) : a ∉ X.fs := fun hb => by
 obtain ⟨_, o, ho, _⟩ := I.ok.funs.mem hb
 exact absurd (Nat.lt_of_lt_of_le (Heap.lt_size ho) (Nat.le_trans I.sz h)) (Nat.lt_irrefl _)
theorem Inv.cne (I : Inv X pins σ H s) : ∀ x c, X.env.cells.lookup x = some c → c ≠ X.env.locals := fun x c e z => by
 obtain ⟨v, o, ho, hd⟩ := I.cell x c e
 obtain ⟨m, ⟨o', es, ep, ho', hd', _⟩, _⟩ := I.loc
 rw [z, ho'] at ho; cases ho; rw [hd'] at hd; cases hd
theorem Inv.funs (I : Inv X pins σ H s) : s.heap.FunFrames X.base X.outer := by
 have all : ∀ (l : List Env), (∀ b ∈ frs l, b ∈ X.fs) → X.s₀.heap.FunFrames X.base l → s.heap.FunFrames X.base l := by
  intro l
  induction l with
  | nil => intro _ _; trivial
  | cons env r ih =>
   intro hs hl
   obtain ⟨hk, ⟨L, o, hf, hn, ho, hd⟩, hr⟩ := hl
   have hL : L ∈ X.fs := hs L (by unfold frs; rw [List.filterMap_cons, hf]; exact List.mem_cons_self)
   obtain ⟨sl, e⟩ := I.base.slot L o ho (I.ok.frf L hL) hL fun z => I.ok.exfs L z hL
   exact ⟨hk, ⟨L, _, hf, hn, e, hd⟩, ih (fun b hb => hs b (by unfold frs; rw [List.filterMap_cons, hf]; exact List.mem_cons_of_mem _ hb)) hr⟩
 exact all X.outer (fun _ hb => hb) I.ok.funs
theorem Inv.stack (I : Inv X pins σ H s) : s.heap.FunFrames X.base X.stack := by
 rcases I.ok.stk with e | ⟨e, hf⟩
 ·rw [e]; exact I.funs
 ·rw [e]
  obtain ⟨m, hn, _⟩ := I.loc
  refine .cons (by rw [I.ok.kind]; decide) hf hn ?_ I.funs
  exact Heap.get?_none_of_le (Nat.le_trans I.ok.bsz I.ok.above)
theorem Inv.stkSub (I : Inv X pins σ H s) : ∀ b ∈ frs X.stack, b ∈ X.env.locals :: X.fs := fun b hb => by
 rcases I.ok.stk with e | ⟨e, hf⟩
 ·rw [e] at hb; exact List.mem_cons_of_mem _ hb
 ·rw [e] at hb
  unfold frs at hb
  rw [List.filterMap_cons, hf] at hb
  exact hb
theorem Inv.stkFree (I : Inv X pins σ H s) : ∀ b ∈ frs X.stack, H b = none := fun b hb => by
 rcases List.mem_cons.mp (I.stkSub b hb) with e | hb
 ·rw [e]; exact I.free
 ·obtain ⟨_, o, ho, _⟩ := I.ok.funs.mem hb
  exact I.base.free b o ho (I.ok.frf b hb) fun z => I.ok.exfs b z hb
theorem Inv.step {g' : Array GenState} {t' : Nat} {d' : Drawn} {ch : List Addr} (I : Inv X pins σ H s)
  (hch : ∀ b ∈ ch, (b ∈ X.ex ∨ X.s₀.heap.objs.size ≤ b) ∧ b ≠ X.env.locals ∧ (∀ x c, X.env.cells.lookup x = some c → c ≠ b) ∧ ∀ p ∈ X.pn ++ pins, p.1 ≠ b)
  (keep : ∀ b o, b ≠ X.env.locals → b ∉ X.fs → b ∉ ch → s.heap.get? b = some o → H b = none → h'.get? b = some o)
  (slot : ∀ b o, b ≠ X.env.locals → b ∈ X.fs → b ∉ ch → s.heap.get? b = some o → H b = none → ∃ sl, h'.get? b = some { o with slots := sl }) (free : ∀ b o, b ∉ ch → s.heap.get? b = some o → H b = none → H' b = none)
  (there : ∀ b o, b ∉ ch → s.heap.get? b = some o → ∃ o', h'.get? b = some o')
  (tups : ∀ b xs, H b = some (.tup xs) → H' b = some (.tup xs)) (frzs : ∀ b o u, H b = some (.frz o u) → H' b = some (.frz o u)) (tbls : ∀ b ps, H b = some (.tbl ps) → ∃ more, H' b = some (.tbl (ps ++ more)))
  (ns : ∀ m, s.heap.Ns X.env.locals m → h'.Ns X.env.locals m) (hok : HOk X.prog X.w H' h') (hg : AllBare g') :
  Inv X pins σ H' { s with heap := h', gens := g', drawn := d', toks := t' } := by
 have neL : ∀ b o, X.s₀.heap.get? b = some o → b ≠ X.env.locals := fun b o e => Nat.ne_of_lt (Nat.lt_of_lt_of_le (Heap.lt_size e) I.ok.above)
 have neC : ∀ b o, X.s₀.heap.get? b = some o → b ∉ X.ex → b ∉ ch := fun b o e hx hb => by
  rcases (hch b hb).1 with z | z
  ·exact hx z
  ·exact absurd (Nat.lt_of_lt_of_le (Heap.lt_size e) z) (Nat.lt_irrefl _)
 have cellK : ∀ x c, X.env.cells.lookup x = some c → ∀ v, s.heap.IsCell c v → h'.IsCell c v := fun x c e v ⟨o, ho, hd⟩ => by
  have nch : c ∉ ch := fun z => (hch c z).2.2.1 x c e rfl
  by_cases hc : c ∈ X.fs
  ·obtain ⟨sl, q⟩ := slot c o (I.cne x c e) hc nch ho (I.freeC x c e)
   exact ⟨_, q, hd⟩
  ·exact ⟨o, keep c o (I.cne x c e) hc nch ho (I.freeC x c e), hd⟩
 refine ⟨I.ok, I.os, hg, ⟨fun b o e n hb hx => ?_, fun b o e n hb hx => ?_, fun b o e n hx => ?_, fun b o e hx => ?_, fun b xs e => tups b xs (I.base.tups b xs e), fun b o xs e => frzs b o xs (I.base.frzs b o xs e), fun b ps e => ?_⟩, ?_, fun x c e => ?_, ?_, fun x c e => ?_, fun p hp => ?_, hok, I.len⟩
 ·exact keep b o (neL b o e) hb (neC b o e hx) (I.base.keep b o e n hb hx) (I.base.free b o e n hx)
 ·obtain ⟨sl, e1⟩ := I.base.slot b o e n hb hx
  obtain ⟨sl', e2⟩ := slot b _ (neL b o e) hb (neC b o e hx) e1 (I.base.free b o e n hx)
  exact ⟨sl', e2⟩
 ·obtain ⟨o', e1⟩ := I.base.there b o e hx
  exact free b o' (neC b o e hx) e1 (I.base.free b o e n hx)
 ·obtain ⟨o', e1⟩ := I.base.there b o e hx
  exact there b o' (neC b o e hx) e1
 ·obtain ⟨m1, e1⟩ := I.base.tbls b ps e
  obtain ⟨m2, e2⟩ := tbls b _ e1
  exact ⟨m1 ++ m2, by rw [e2, Array.append_assoc]⟩
 ·obtain ⟨m, hn, hl⟩ := I.loc
  refine ⟨m, ns m hn, fun i x v e1 e2 e3 => ?_⟩
  obtain ⟨u, r, l⟩ := hl i x v e1 e2 e3
  refine ⟨u, r, ?_⟩
  rcases l with l | ⟨k, c, e, z⟩
  ·exact .inl l
  ·exact .inr ⟨k, c, e, cellK x c e _ z⟩
 ·obtain ⟨v, z⟩ := I.cell x c e
  exact ⟨v, cellK x c e v z⟩
 ·obtain ⟨m, ⟨o, _, _, ho, _⟩, _⟩ := I.loc
  exact free _ o (fun z => (hch _ z).2.1 rfl) ho I.free
 ·obtain ⟨v, o, ho, hd⟩ := I.cell x c e
  exact free c o (fun z => (hch c z).2.2.1 x c e rfl) ho (I.freeC x c e)
 ·obtain ⟨e, n, ne, nf, d⟩ := I.pin p hp
  have nch : p.1 ∉ ch := fun z => (hch p.1 z).2.2.2 p hp rfl
  exact ⟨keep p.1 p.2 ne nf nch e n, free p.1 p.2 nch e n, ne, nf, d⟩
theorem Inv.un {t' : Nat} (I : Inv X pins σ H s) (u : Un X.fs [] H H' s.heap h') (hok : HOk X.prog X.w H' h') : Inv X pins σ H' { s with heap := h', toks := t' } := by
 obtain ⟨m, ⟨o, es, ep, ho, r⟩, _⟩ := id I.loc
 obtain ⟨sl, hL⟩ := u.any ho I.free (by simp)
 exact I.step (g' := s.gens) (d' := s.drawn) (ch := []) (fun _ z => nomatch z) (fun b o _ hb _ e n => u.keep b o e n hb (by simp)) (fun b o _ hb _ e n => u.slot b o e n hb (by simp)) (fun b o _ e n => u.free b o e n (by simp)) (fun b o _ e => u.there b o e (by simp)) u.tups u.frzs u.tbls (fun m' hm => by
  obtain ⟨o', es', ep', ho', r'⟩ := hm
  rw [ho] at ho'; cases ho'
  exact ⟨_, es', ep', hL, r'⟩) hok I.bare
theorem Inv.call {g' : Array GenState} {t' : Nat} {d' : Drawn} {ch : List Addr} (I : Inv X pins σ H s) (u : Un (frs X.stack) ch H H' s.heap h') (hok : HOk X.prog X.w H' h') (hg : AllBare g')
  (hch : ∀ b ∈ ch, (b ∈ X.ex ∨ X.s₀.heap.objs.size ≤ b) ∧ b ≠ X.env.locals ∧ (∀ x c, X.env.cells.lookup x = some c → c ≠ b) ∧ ∀ p ∈ X.pn ++ pins, p.1 ≠ b) :
  Inv X pins σ H' { s with heap := h', gens := g', drawn := d', toks := t' } := by
 obtain ⟨m, ⟨o, es, ep, ho, r⟩, _⟩ := id I.loc
 obtain ⟨sl, hL⟩ := u.any ho I.free fun z => (hch _ z).2.1 rfl
 exact I.step (ch := ch) hch (fun b o hL hb hc e n => u.keep b o e n (fun z => (List.mem_cons.mp (I.stkSub b z)).elim hL hb) hc) (fun b o _ _ hc e n => u.any e n hc) (fun b o hc e n => u.free b o e n hc) (fun b o hc e => u.there b o e hc) u.tups u.frzs u.tbls (fun m' hm => by
  obtain ⟨o', es', ep', ho', r'⟩ := hm
  rw [ho] at ho'; cases ho'
  exact ⟨_, es', ep', hL, r'⟩) hok hg
theorem Inv.turned {t' : Nat} {it : Addr} (I : Inv X pins σ H s) (k : ∀ b o, b ≠ it → s.heap.get? b = some o → h'.get? b = some o) (hn : H it = none) (hL : it ≠ X.env.locals)
  (h1 : it ∈ X.ex ∨ X.s₀.heap.objs.size ≤ it) (h2 : ∀ x c, X.env.cells.lookup x = some c → c ≠ it) (h3 : ∀ p ∈ X.pn ++ pins, p.1 ≠ it) : Inv X pins σ H { s with heap := h', toks := t' } := by
 have nit : ∀ b u, H b = some u → b ≠ it := fun b u e z => by rw [z, hn] at e; cases e
 refine I.step (g' := s.gens) (d' := s.drawn) (ch := [it]) (fun b hb => ?_) (fun b o _ _ hc e _ => k b o (fun z => hc (by simp [z])) e) (fun b o _ _ hc e _ => ⟨o.slots, k b o (fun z => hc (by simp [z])) e⟩) (fun _ _ _ _ n => n)
  (fun b o hc e => ⟨o, k b o (fun z => hc (by simp [z])) e⟩) (fun _ _ e => e) (fun _ _ _ e => e) (fun b ps e => ⟨#[], by rw [e]; simp⟩) (fun m hm => ?_) (fun b u e => ?_) I.bare
 ·have e : b = it := by simpa using hb
  subst e
  exact ⟨h1, hL, h2, h3⟩
 ·obtain ⟨o, es, ep, ho, r⟩ := hm
  exact ⟨o, es, ep, k _ o (Ne.symm hL) ho, r⟩
 ·refine (I.hok b u e).stay (fun c v hc q => k c v ?_ q) (fun _ q => q) fun _ _ q => q
  rcases hc with z | z
  ·rw [z]; exact nit b u e
  ·exact nit c _ z
theorem Inv.tok (I : Inv X pins σ H s) (t : Nat) : Inv X pins σ H { s with toks := t } := I.un (h' := s.heap) (t' := t) Un.refl I.hok
theorem Inv.kept {t' : Nat} (I : Inv X pins σ H s) (k : ∀ b u, s.heap.get? b = some u → h'.get? b = some u) : Inv X pins σ H { s with heap := h', toks := t' } := I.un (Un.kept k) (I.hok.kept k)
theorem Inv.laid {a : Addr} {o : HO} {t' : Nat} (I : Inv X pins σ H s) (k : ∀ b u, s.heap.get? b = some u → h'.get? b = some u) (hp : s.heap.objs.size ≤ a) (new : Y6 X.prog X.w (upd H a o) h' a o) :
  Inv X pins σ (upd H a o) { s with heap := h', toks := t' } := I.un (Un.laid k hp (I.hok.fresh hp)) (I.hok.laid k hp new)
theorem Inv.write {x e : Addr} {o : HO} {t' : Nat} (I : Inv X pins σ H s) (mu : Mut (H x)) (he : e = x ∨ H e = some (.own x)) (k : ∀ b u, b ≠ e → s.heap.get? b = some u → h'.get? b = some u) (heo : ∃ u, h'.get? e = some u)
  (new : Y6 X.prog X.w (upd H x o) h' x o) : Inv X pins σ (upd H x o) { s with heap := h', toks := t' } := I.un (Un.write mu he k heo) (I.hok.write mu he k heo new)
theorem Inv.pins_of {pins' : List (Addr × Obj)} (I : Inv X pins σ H s) (h : ∀ p ∈ pins', s.heap.get? p.1 = some p.2 ∧ H p.1 = none ∧ p.1 ≠ X.env.locals ∧ p.1 ∉ X.fs ∧ ∀ v, p.2.data ≠ .cell v) : Inv X pins' σ H s :=
 ⟨I.ok, I.os, I.bare, I.base, I.loc, I.cell, I.free, I.freeC, fun p hp => (List.mem_append.mp hp).elim (fun z => I.pin p (List.mem_append_left _ z)) (h p), I.hok, I.len⟩
theorem qu {N : List Str} (hN : N.Nodup) {i j : Nat} {x : Str} (a : N[i]? = some x) (b : N[j]? = some x) : i = j := by
 obtain ⟨h1, e1⟩ := List.getElem?_eq_some_iff.mp a
 obtain ⟨h2, e2⟩ := List.getElem?_eq_some_iff.mp b
 exact (List.getElem_inj hN).mp (e1.trans e2.symm)
theorem Uc {M : Model} {A : Around} {E : Value → Shared → Prop} {i : Nat} {x : Str} {v : V} {u : Value} {Q : Unit → Shared → Prop} (I : Inv X pins σ H s) (hN : X.N.Nodup) (hi : X.N[i]? = some x) (hx : Loc X.env.scope x) (r : Z8 v u)
  (h : ∀ s', Inv X pins (σ.set i (some v)) H s' → (∃ a, Heap.SameBut a s.heap s'.heap ∧ (a = X.env.locals ∨ X.env.cells.lookup x = some a)) → Q () s') (hf : X.fn x = true ∨ X.env.scope.names.lookup x = some .local := by first | exact .inl rfl | exact .inr rfl | assumption) : wpAny M A (storeName X.env x u) Q E s := by
 obtain ⟨m, hn, hl⟩ := id I.loc
 have hcls : (X.env.scope.kind == .class || (X.env.scope.kind == .module && X.env.locals != X.env.globals)) = false := by rw [I.ok.kind]; rfl
 have hiσ : i < σ.length := by rw [I.len]; exact (List.getElem?_eq_some_iff.mp hi).1
 have cne := I.cne
 have tracked : ∀ {a : Addr} {h' : Heap}, (∃ o, s.heap.get? a = some o ∧ H a = none) → Heap.SameBut a s.heap h' → HOk X.prog X.w H h' := fun {a h'} ha hs b ob e => by
  obtain ⟨_, _, hfree⟩ := ha
  refine (I.hok b ob e).stay (fun c w' hc q => (hs.2 c ?_).trans q) (fun _ q => q) fun _ _ q => q
  rintro rfl
  rcases hc with rfl | hc
  ·rw [hfree] at e; cases e
  ·rw [hfree] at hc; cases hc
 rcases hx with hk | hk
 ·refine wpAny_storeName_local hk hn (fun h' hn' hs => ?_) hcls
  obtain ⟨oL, _, _, hoL, _⟩ := id hn
  refine h _ ⟨I.ok, I.os, I.bare, ⟨fun b o e n hb hx => ?_, fun b o e n hb hx => ?_, I.base.free, fun b o e hx => ?_, I.base.tups, I.base.frzs, I.base.tbls⟩, ⟨_, hn', fun j y v' e1 e2 e3 => ?_⟩, fun y c e => ?_, I.free, I.freeC, fun p hp => ?_, tracked ⟨oL, hoL, I.free⟩ hs, by simpa using I.len⟩ ⟨_, hs, .inl rfl⟩
  ·exact (hs.2 b (Nat.ne_of_lt (Nat.lt_of_lt_of_le (Heap.lt_size e) I.ok.above))).trans (I.base.keep b o e n hb hx)
  ·obtain ⟨sl, e1⟩ := I.base.slot b o e n hb hx
   exact ⟨sl, (hs.2 b (Nat.ne_of_lt (Nat.lt_of_lt_of_le (Heap.lt_size e) I.ok.above))).trans e1⟩
  ·obtain ⟨o', e1⟩ := I.base.there b o e hx
   exact ⟨o', (hs.2 b (Nat.ne_of_lt (Nat.lt_of_lt_of_le (Heap.lt_size e) I.ok.above))).trans e1⟩
  ·by_cases hj : j = i
   ·subst hj
    rw [hi] at e1; cases e1
    rw [List.getElem?_set_self hiσ] at e2
    cases e2
    exact ⟨u, r, .inl ⟨hk, by simp⟩⟩
   ·rw [List.getElem?_set_ne (Ne.symm hj)] at e2
    obtain ⟨u', r', q⟩ := hl j y v' e1 e2 e3
    refine ⟨u', r', ?_⟩
    rcases q with ⟨k, e⟩ | ⟨k, c, e, z⟩
    ·refine .inl ⟨k, ?_⟩
     have : y ≠ x := fun e => hj (qu hN e1 (e ▸ hi))
     simp [this, e]
    ·exact .inr ⟨k, c, e, z.sameBut hs (cne y c e)⟩
  ·obtain ⟨w', z⟩ := I.cell y c e
   exact ⟨w', z.sameBut hs (cne y c e)⟩
  ·obtain ⟨e, n, ne, nf, d⟩ := I.pin p hp
   exact ⟨(hs.2 p.1 ne).trans e, n, ne, nf, d⟩
 ·have hfn : X.fn x = true := by
   rcases hf with z | z
   ·exact z
   ·rw [z] at hk; cases hk
  obtain ⟨c, hc⟩ := I.ok.has x (.inl hk)
  obtain ⟨w', z⟩ := I.cell x c hc
  refine wpAny_storeName_cell I.ok.kind hk hc z (fun h' hc' hs => ?_)
  obtain ⟨oc, hoc, hocd⟩ := id z
  refine h { s with heap := h' } ⟨I.ok, I.os, I.bare, ⟨fun b o e n hb hx => ?_, fun b o e n hb hx => ?_, I.base.free, fun b o e hx => ?_, I.base.tups, I.base.frzs, I.base.tbls⟩, ⟨m, hn.sameBut hs (Ne.symm (cne x c hc)), fun j y v' e1 e2 e3 => ?_⟩, fun y c' e => ?_, I.free, I.freeC, fun p hp => ?_, tracked ⟨oc, hoc, I.freeC x c hc⟩ hs, by simpa using I.len⟩ ⟨c, hs, .inr hc⟩
  ·exact (hs.2 b (Nat.ne_of_lt (Nat.lt_of_lt_of_le (Heap.lt_size e) (I.ok.cab x c hfn hc)))).trans (I.base.keep b o e n hb hx)
  ·obtain ⟨sl, e1⟩ := I.base.slot b o e n hb hx
   exact ⟨sl, (hs.2 b (Nat.ne_of_lt (Nat.lt_of_lt_of_le (Heap.lt_size e) (I.ok.cab x c hfn hc)))).trans e1⟩
  ·obtain ⟨o', e1⟩ := I.base.there b o e hx
   exact ⟨o', (hs.2 b (Nat.ne_of_lt (Nat.lt_of_lt_of_le (Heap.lt_size e) (I.ok.cab x c hfn hc)))).trans e1⟩
  ·by_cases hj : j = i
   ·subst hj
    rw [hi] at e1; cases e1
    rw [List.getElem?_set_self hiσ] at e2
    cases e2
    exact ⟨u, r, .inr ⟨.inl hk, c, hc, hc'⟩⟩
   ·rw [List.getElem?_set_ne (Ne.symm hj)] at e2
    obtain ⟨u', r', q⟩ := hl j y v' e1 e2 e3
    refine ⟨u', r', ?_⟩
    rcases q with q | ⟨k, c', e, z'⟩
    ·exact .inl q
    ·refine .inr ⟨k, c', e, z'.sameBut hs ?_⟩
     rintro rfl
     exact hj (qu hN e1 (I.ok.inj _ _ _ e hc ▸ hi))
  ·by_cases hcc : c' = c
   ·subst hcc; exact ⟨_, hc'⟩
   ·obtain ⟨w2, z2⟩ := I.cell y c' e
    exact ⟨w2, z2.sameBut hs hcc⟩
  ·obtain ⟨e, n, ne, nf, d⟩ := I.pin p hp
   refine ⟨(hs.2 p.1 ?_).trans e, n, ne, nf, d⟩
   intro q
   rw [q, hoc] at e
   have q' : oc = p.2 := Option.some.inj e
   exact d w' (by rw [← q']; exact hocd)
theorem VE {M : Model} {A : Around} {E : Value → Shared → Prop} {i : Nat} {x : Str} {v : V} {u : Value} {Q : Unit → Shared → Prop} (I : Inv X pins σ H s) (hN : X.N.Nodup) (hi : X.N[i]? = some x) (hx : Loc X.env.scope x) (r : Z8 v u)
  (h : ∀ s', Inv X pins (σ.set i (some v)) H s' → Q () s') (hf : X.fn x = true ∨ X.env.scope.names.lookup x = some .local := by first | exact .inl rfl | exact .inr rfl | assumption) : wpAny M A (storeName X.env x u) Q E s :=
 Uc I hN hi hx r (fun s' I' _ => h s' I') hf
theorem Inv.call' {s' : Shared} {ch : List Addr} (I : Inv X pins σ H s) (ho : s'.os = s.os) (u : Un (frs X.stack) ch H H' s.heap s'.heap) (hok : HOk X.prog X.w H' s'.heap) (hg : AllBare s'.gens)
  (hch : ∀ b ∈ ch, (b ∈ X.ex ∨ X.s₀.heap.objs.size ≤ b) ∧ b ≠ X.env.locals ∧ (∀ x c, X.env.cells.lookup x = some c → c ≠ b) ∧ ∀ p ∈ X.pn ++ pins, p.1 ≠ b) : Inv X pins σ H' s' := by
 obtain ⟨h', g', d', t', o'⟩ := s'
 have e : o' = s.os := ho
 subst e
 exact I.call (g' := g') (t' := t') (d' := d') u hok hg hch
end
abbrev XK := Value → Option Addr → Hp → Prop
abbrev St := List (Option V)
abbrev VK := V → Hp → Prop
abbrev TE := St → Hp → VK → Prop
abbrev TT := St → Hp → (Bool → Hp → Prop) → Prop
abbrev TA := St → Hp → (List V → Hp → Prop) → Prop
structure Ends where
 nx : St → Hp → Prop
 rt : VK
 bk : St → Hp → Prop := fun _ _ => False
 ct : St → Hp → Prop := fun _ _ => False
abbrev TS := Ends → St → Hp → Prop
def EP (X : Cx) (pins : List (Addr × Obj)) (σ : St) (Q : VK) (u : Value) (s' : Shared) : Prop := ∃ v H', Inv X pins σ H' s' ∧ Z8 v u ∧ Q v H'
def TP (X : Cx) (pins : List (Addr × Obj)) (σ : St) (Q : Bool → Hp → Prop) (b : Bool) (s' : Shared) : Prop := ∃ H', Inv X pins σ H' s' ∧ Q b H'
def AP (X : Cx) (pins : List (Addr × Obj)) (σ : St) (Q : List V → Hp → Prop) (us : List Value) (s' : Shared) : Prop := ∃ vs H', Inv X pins σ H' s' ∧ Zx vs us ∧ Q vs H'
def SP (X : Cx) (pins : List (Addr × Obj)) (D : Ends) (f : Flow) (s' : Shared) : Prop :=
 match f with
 | .next => ∃ σ' H', Inv X pins σ' H' s' ∧ D.nx σ' H'
 | .brk => ∃ σ' H', Inv X pins σ' H' s' ∧ D.bk σ' H'
 | .cont => ∃ σ' H', Inv X pins σ' H' s' ∧ D.ct σ' H'
 | .ret u => ∃ v σ' H', Inv X pins σ' H' s' ∧ Z8 v u ∧ D.rt v H'
def PE (X : Cx) (e : Expr) (t : TE) : Prop :=
 ∀ (pins : List (Addr × Obj)) (s : Shared) (σ : St) (H : Hp) (Q : VK), Inv X pins σ H s → t σ H Q → wpAny (model X.prog X.w) X.A (eval e X.env) (EP X pins σ Q) X.xe s
def PT (X : Cx) (e : Expr) (t : TT) : Prop :=
 ∀ (pins : List (Addr × Obj)) (s : Shared) (σ : St) (H : Hp) (Q : Bool → Hp → Prop), Inv X pins σ H s → t σ H Q → wpAny (model X.prog X.w) X.A (isTrue e X.env (eval e X.env)) (TP X pins σ Q) X.xe s
def PW (X : Cx) (e : Expr) (t : TT) : Prop :=
 ∀ (whole : Sem Value) (pins : List (Addr × Obj)) (s : Shared) (σ : St) (H : Hp) (Q : Bool → Hp → Prop), Inv X pins σ H s → t σ H Q → wpAny (model X.prog X.w) X.A (isTrue e X.env whole) (TP X pins σ Q) X.xe s
theorem PW.pt {X : Cx} {e : Expr} {t : TT} (h : PW X e t) : PT X e t := h _
def PA (X : Cx) (es : List Expr) (t : TA) : Prop :=
 ∀ (pos : Pos) (pins : List (Addr × Obj)) (s : Shared) (σ : St) (H : Hp) (Q : List V → Hp → Prop), Inv X pins σ H s → t σ H Q → wpAny (model X.prog X.w) X.A (spliced (backTo pos (starEach es X.env))) (AP X pins σ Q) X.xe s
def PS (X : Cx) (st : Stmt) (t : TS) : Prop :=
 ∀ (pins : List (Addr × Obj)) (s : Shared) (σ : St) (H : Hp) (D : Ends), Inv X pins σ H s → t D σ H → wpAny (model X.prog X.w) X.A (exec st X.env) (SP X pins D) X.xe s
def PSs (X : Cx) (st : List Stmt) (t : TS) : Prop :=
 ∀ (pins : List (Addr × Obj)) (s : Shared) (σ : St) (H : Hp) (D : Ends), Inv X pins σ H s → t D σ H → wpAny (model X.prog X.w) X.A (execs st X.env) (SP X pins D) X.xe s
theorem thn {α : Type} {t : Sem α} {Q Q' : α → Shared → Prop} {M : Model} {A : Around} {E : Value → Shared → Prop} {s : Shared} (h : wpAny M A t Q E s) (hQ : ∀ a s, Q a s → Q' a s) : wpAny M A t Q' E s := wpAny_mono h hQ fun _ _ x => x
section
variable {X : Cx}
theorem bin {a b : Expr} {ta tb : TE} (ha : PE X a ta) (hb : PE X b tb) {pins : List (Addr × Obj)} {s : Shared} {σ : St} {H : Hp} {R : V → V → Hp → Prop} (I : Inv X pins σ H s) (h : ta σ H fun x H1 => tb σ H1 fun y H2 => R x y H2)
  {α : Type} {Q : α → Shared → Prop} {f : Value → Value → Sem α}
  (hf : ∀ v u s2 x y H2, Inv X pins σ H2 s2 → Z8 x v → Z8 y u → R x y H2 → wpAny (model X.prog X.w) X.A (f v u) Q X.xe s2) :
  wpAny (model X.prog X.w) X.A (eval a X.env) (fun v s₁ => wpAny (model X.prog X.w) X.A (eval b X.env) (fun u s₂ => wpAny (model X.prog X.w) X.A (f v u) Q X.xe s₂) X.xe s₁) X.xe s := by
 refine thn (ha pins s σ H _ I h) fun v s1 ⟨x, H1, I1, r1, q1⟩ => ?_
 refine thn (hb pins s1 σ H1 _ I1 q1) fun u s2 ⟨y, H2, I2, r2, q2⟩ => ?_
 exact hf v u s2 x y H2 I2 r1 r2 q2
inductive VarR (i : Nat) (σ : St) (H : Hp) (Q : VK) : Prop
 | mk (v : V) (h : σ[i]? = some (some v)) (k : Q v H) : VarR i σ H Q
def tVar (i : Nat) : TE := fun σ H Q => VarR i σ H Q
def tC (v : V) : TE := fun _ H Q => Q v H
theorem pe_var {i : Nat} {x : Str} {pos : Pos} (hN : X.N[i]? = some x) (hv : Vis X.env.scope x) (hd : (x == ("__debug__" : Str)) = false := by decide) (hcd : (x == ("__classdict__" : Str)) = false := by decide) : PE X (.Name x pos) (tVar i) := by
 intro pins s σ H Q I h
 obtain ⟨v, e, h⟩ := h
 obtain ⟨m, hn, hl⟩ := I.loc
 obtain ⟨u, r, l⟩ := hl i x v hN e hv
 have fin : EP X pins σ Q u s := ⟨v, H, I, r, h⟩
 rcases l with ⟨hk, hm⟩ | ⟨hk, c, hc, hcell⟩
 ·exact wpAny_Name (wpAny_loadName_local I.ok.kind hk hn hm fin) hd
 ·rcases hk with hk | hk
  ·exact wpAny_Name (wpAny_loadName_cell I.ok.kind hk hc hcell fin) hd
  ·exact wpAny_Name (wpAny_loadName_free I.ok.kind hk hc hcell fin hcd) hd
theorem Zh {i j pos} : PE X (.Constant (.int i) j pos) (tC (.int i)) := fun _ _ _ H _ I h => wpAny_Constant_int ⟨.int i, H, I.tok _, ⟨_, rfl⟩, h⟩
theorem XN {b j pos} : PE X (.Constant (.bool b) j pos) (tC (.bl b)) := fun _ _ _ H _ I h => Constant_bool ⟨.bl b, H, I, rfl, h⟩
theorem qi {j pos} : PE X (.Constant .none j pos) (tC .non) := fun _ _ _ H _ I h => Constant_none ⟨.non, H, I, rfl, h⟩
theorem Zl {x j pos} : PE X (.Constant (.str x) j pos) (tC (.str x)) := fun _ _ _ H _ I h => Calls.Constant_str ⟨.str x, H, I.tok _, ⟨_, rfl⟩, h⟩
def Gl (X : Cx) (x : Str) : Prop := X.env.kindOf x = some .globalImplicit
theorem W7 {E : Value → Shared → Prop} {pins : List (Addr × Obj)} {s : Shared} {σ : St} {H : Hp} {x : Str} {u : Value} {pos : Pos} {Q : Value → Shared → Prop} (I : Inv X pins σ H s) (hg : Gl X x) (hm : X.mg x = some u) (h : Q u s)
  (hd : (x == ("__debug__" : Str)) = false := by decide) : wpAny (model X.prog X.w) X.A (eval (.Name x pos) X.env) Q E s :=
 Calls.Name_function_global I.ok.kind hg (Calls.loadGlobal_global (by rw [I.ok.glob]; exact I.mod.glob.keeps I.bk) hm h) hd
theorem Vu {E : Value → Shared → Prop} {pins : List (Addr × Obj)} {s : Shared} {σ : St} {H : Hp} {x : Str} {u : Value} {pos : Pos} {Q : Value → Shared → Prop} (I : Inv X pins σ H s) (hg : Gl X x) (hm : X.mg x = none) (hv : bootBuiltins x = some u) (h : Q u s)
  (hn : x ≠ "__name__" := by decide) (hd : (x == ("__debug__" : Str)) = false := by decide) : wpAny (model X.prog X.w) X.A (eval (.Name x pos) X.env) Q E s := by
 obtain ⟨mb, h1, h2⟩ := I.mod.blt
 exact Calls.Name_function_global I.ok.kind hg (Calls.loadGlobal_builtin (by rw [I.ok.glob]; exact I.mod.glob.keeps I.bk) hm (by rw [I.ok.blt]; exact h1.keeps I.bk) ((h2 x hn).trans hv) h) hd
theorem pe_glob {x : Str} {v : V} {u : Value} {pos : Pos} (hg : Gl X x) (hm : X.mg x = some u) (r : Z8 v u) (hd : (x == ("__debug__" : Str)) = false := by decide) : PE X (.Name x pos) (tC v) :=
 fun _ _ _ H _ I h => W7 I hg hm ⟨v, H, I, r, h⟩ hd
theorem X0 {x : Str} {v : V} {u : Value} {pos : Pos} (hg : Gl X x) (hm : X.mg x = none) (hv : bootBuiltins x = some u) (r : Z8 v u) (hn : x ≠ "__name__" := by decide) (hd : (x == ("__debug__" : Str)) = false := by decide) : PE X (.Name x pos) (tC v) :=
 fun _ _ _ H _ I h => Vu I hg hm hv ⟨v, H, I, r, h⟩ hn hd
variable {a b : Expr} {ta tb : TE} {pos : Pos}
def PC (X : Cx) (op : CmpOp) (a b : Expr) (t : TE) : Prop :=
 ∀ (pins : List (Addr × Obj)) (s : Shared) (σ : St) (H : Hp) (Q : VK), Inv X pins σ H s → t σ H Q →
  wpAny (model X.prog X.w) X.A (eval a X.env) (fun v s₁ => wpAny (model X.prog X.w) X.A (eval b X.env) (fun u s₂ => wpAny (model X.prog X.w) X.A (compareOp op v u) (EP X pins σ Q) X.xe s₂) X.xe s₁) X.xe s
theorem nobehind (b : Expr) {op : CmpOp} (h : op ≠ .In) (h2 : op ≠ .NotIn) : behindInMarks op b = false := by
 have e1 : (op == CmpOp.In) = false := by cases op <;> first | rfl | exact absurd rfl h
 have e2 : (op == CmpOp.NotIn) = false := by cases op <;> first | rfl | exact absurd rfl h2
 cases b <;> simp [behindInMarks, e1, e2]
inductive BoolR (x : V) (H : Hp) (Q : Bool → Hp → Prop) : Prop
 | mk (c : Bool) (h : x = .bl c) (k : Q c H) : BoolR x H Q
def tB (t : TE) : TT := fun σ H Q => t σ H fun x H1 => BoolR x H1 Q
theorem pt_cmp {op : CmpOp} {t : TE} (h : PC X op a b t) (h1 : behindInMarks op b = false := by first | exact nobehind _ (by decide) (by decide) | rfl) : PT X (.Compare a [op] [b] pos) (tB t) := by
 intro pins s σ H Q I hw
 refine wpAny_isTrue_Compare1 (thn (h pins s σ H _ I hw) fun v s1 h1 => thn h1 fun u s2 h2 => thn h2 fun c s3 ⟨x, H1, I1, r1, q1⟩ => ?_) h1
 obtain ⟨d, rfl, q⟩ := q1
 cases r1
 exact wpAny_truthy_bool ⟨H1, I1, q⟩
theorem Xf {e : Expr} {t : TE} (h : PE X e t) (he : ∀ whole, isTrue e X.env whole = (do let v ← whole; standAt e.pos; holding [v] (truthy v)) := by intro _; rfl) : PT X e (tB t) := by
 intro pins s σ H Q I hw
 refine isTrue_plain (thn (h pins s σ H _ I hw) fun v s1 ⟨x, H1, I1, r1, q1⟩ => ?_) (he _)
 obtain ⟨d, rfl, q⟩ := q1
 cases r1
 exact wpAny_truthy_bool ⟨H1, I1, q⟩
variable {tA tB' : TT} {X5 : List Expr}
def tAnd (t u : TT) : TT := fun σ H Q => t σ H fun c H1 => if c = true then u σ H1 Q else Q false H1
def tOr (t u : TT) : TT := fun σ H Q => t σ H fun c H1 => if c = true then Q true H1 else u σ H1 Q
def tNot (t : TT) : TT := fun σ H Q => t σ H fun c H1 => Q (!c) H1
theorem UT (ha : PT X a tA) : PW X (.BoolOp .And [a] pos) tA := by
 intro wh pins s σ H Q I h
 refine isTrue_and (thn (ha pins s σ H Q I h) fun c s1 e => ?_)
 cases c with
 | true => exact isTrue_and_nil e
 | false => exact e
theorem Wu (ha : PT X a tA) : PW X (.BoolOp .Or [a] pos) tA := by
 intro wh pins s σ H Q I h
 refine isTrue_or (thn (ha pins s σ H Q I h) fun c s1 e => ?_)
 cases c with
 | false => exact isTrue_or_nil e
 | true => exact e
theorem qa (ha : PT X a tA) (hb : PW X (.BoolOp .And (b :: X5) pos) tB') : PW X (.BoolOp .And (a :: b :: X5) pos) (tAnd tA tB') := by
 intro wh pins s σ H Q I h
 refine isTrue_and (thn (ha pins s σ H _ I h) fun c s1 ⟨H1, I1, q1⟩ => ?_)
 cases c with
 | true => exact hb wh pins s1 σ H1 Q I1 q1
 | false => exact ⟨H1, I1, q1⟩
theorem WJ (ha : PT X a tA) (hb : PW X (.BoolOp .Or (b :: X5) pos) tB') : PW X (.BoolOp .Or (a :: b :: X5) pos) (tOr tA tB') := by
 intro wh pins s σ H Q I h
 refine isTrue_or (thn (ha pins s σ H _ I h) fun c s1 ⟨H1, I1, q1⟩ => ?_)
 cases c with
 | true => exact ⟨H1, I1, q1⟩
 | false => exact hb wh pins s1 σ H1 Q I1 q1
theorem YT (ha : PT X a tA) : PT X (.UnaryOp .Not a pos) (tNot tA) := by
 intro pins s σ H Q I h
 exact isTrue_not (ha pins s σ H (fun c H1 => Q (!c) H1) I h)
def tAndV (ta tb : TE) : TE := fun σ H Q => ta σ H fun x H1 => ∃ c, x = .bl c ∧ if c = true then tb σ H1 Q else Q (.bl false) H1
def tOrV (ta tb : TE) : TE := fun σ H Q => ta σ H fun x H1 => ∃ c, x = .bl c ∧ if c = true then Q (.bl true) H1 else tb σ H1 Q
def tNotV (ta : TE) : TE := fun σ H Q => ta σ H fun x H1 => ∃ c, x = .bl c ∧ Q (.bl (!c)) H1
theorem Vy {op} {t : TE} (h : PE X a t) : PE X (.BoolOp op [a] pos) t := fun pins s σ H Q I hw => BoolOp_one (h pins s σ H Q I hw)
theorem Vs (ha : PE X a ta) (hb : PE X (.BoolOp .And (b :: X5) pos) tb) : PE X (.BoolOp .And (a :: b :: X5) pos) (tAndV ta tb) := by
 intro pins s σ H Q I h
 refine BoolOp_and (thn (ha pins s σ H _ I h) fun v s1 ⟨x, H1, I1, r1, q1⟩ => ?_)
 obtain ⟨c, rfl, q1⟩ := q1
 cases r1
 refine wpAny_truthy_bool ?_
 cases c with
 | true => exact hb pins s1 σ H1 Q I1 q1
 | false => exact ⟨.bl false, H1, I1, rfl, q1⟩
theorem pe_or (ha : PE X a ta) (hb : PE X (.BoolOp .Or (b :: X5) pos) tb) : PE X (.BoolOp .Or (a :: b :: X5) pos) (tOrV ta tb) := by
 intro pins s σ H Q I h
 refine BoolOp_or (thn (ha pins s σ H _ I h) fun v s1 ⟨x, H1, I1, r1, q1⟩ => ?_)
 obtain ⟨c, rfl, q1⟩ := q1
 cases r1
 refine wpAny_truthy_bool ?_
 cases c with
 | false => exact hb pins s1 σ H1 Q I1 q1
 | true => exact ⟨.bl true, H1, I1, rfl, q1⟩
theorem pe_not (ha : PE X a ta) : PE X (.UnaryOp .Not a pos) (tNotV ta) := by
 intro pins s σ H Q I h
 refine UnaryOp_ (thn (ha pins s σ H _ I h) fun v s1 ⟨x, H1, I1, r1, q1⟩ => ?_)
 obtain ⟨c, rfl, q1⟩ := q1
 cases r1
 exact not_of (wpAny_truthy_bool ⟨.bl (!c), H1, I1, rfl, q1⟩)
end
def SqL (K : PySem.W.Frag) (H : Hp) (a : Addr) (xs : List V) : Prop :=
 Rd H a (.lst xs) ∨
  ∃ (o : Obj) (its : Array Value) (n : Nat), K.lookup a = some o ∧ o.cls = .type "list" ∧ o.dict = none ∧ o.data = .seq its n ∧ its.size ≤ sizeLine ∧ Zx xs its.toList
def SqT (K : PySem.W.Frag) (H : Hp) (a : Addr) (xs : List V) : Prop :=
 Rd H a (.tup xs) ∨
  ∃ (o : Obj) (its : Array Value) (n : Nat), K.lookup a = some o ∧ o.cls = .type "tuple" ∧ o.data = .seq its n ∧ its.size ≤ sizeLine ∧ Zx xs its.toList
def absV : Value → Option V
 | .none => some .non
 | .bool b => some (.bl b)
 | .int i _ => some (.int i)
 | .str x _ => some (.str x)
 | .bytes b _ => some (.byt b)
 | .float b _ => some (.flt b)
 | .ref a => some (.ref a)
 | .type n => some (.ty n)
 | _ => none
theorem Z8.abs {x : V} {u : Value} (r : Z8 x u) : absV u = some x := by
 cases x with
 | non => cases r; rfl
 | bl _ => cases r; rfl
 | int _ => obtain ⟨t, rfl⟩ := r; rfl
 | str _ => obtain ⟨t, rfl⟩ := r; rfl
 | byt _ => obtain ⟨t, rfl⟩ := r; rfl
 | flt _ => obtain ⟨t, rfl⟩ := r; rfl
 | ref _ => cases r; rfl
 | ty _ => cases r; rfl
theorem Z8.inj {x y : V} {u : Value} (r : Z8 x u) (q : Z8 y u) : x = y := Option.some.inj (r.abs.symm.trans q.abs)
theorem Zx.inj : ∀ {xs ys : List V} {us : List Value}, Zx xs us → Zx ys us → xs = ys
 | _, _, _, .nil, .nil => rfl
 | _, _, _, .cons r t, .cons r' t' => by rw [r.inj r', Zx.inj t t']
section
variable {X : Cx} {pins : List (Addr × Obj)} {σ : St} {H : Hp} {s : Shared} {a : Addr} {xs ys : List V}
theorem SqL.of {K : PySem.W.Frag} (h : H a = some (.lst xs)) : SqL K H a xs := .inl (.inl h)
theorem SqT.of {K : PySem.W.Frag} (h : H a = some (.tup xs)) : SqT K H a xs := .inl (.inl h)
theorem Inv.list (I : Inv X pins σ H s) (h : SqL X.K H a xs) : ∃ its : List Value, Zx xs its ∧ PlainL s.heap a its.toArray ∧ xs.length ≤ sizeLine := by
 rcases h with h | ⟨o, its, n, hk, hc, hd, hs, hz, r⟩
 ·obtain ⟨z, its, n, r, e⟩ := h.ok I.hok
  exact ⟨its, r, ⟨_, n, e, rfl, rfl, rfl⟩, z⟩
 ·refine ⟨its.toList, r, ⟨o, n, I.kIn a o hk, hc, hd, by simpa using hs⟩, ?_⟩
  have e := r.length
  simp only [Array.length_toList] at e
  omega
theorem Inv.tuple (I : Inv X pins σ H s) (h : SqT X.K H a xs) : ∃ its : List Value, Zx xs its ∧ IsTup s.heap a its.toArray ∧ xs.length ≤ sizeLine := by
 rcases h with h | ⟨o, its, n, hk, hc, hs, hz, r⟩
 ·obtain ⟨z, its, r, p⟩ := h.ok I.hok
  exact ⟨its, r, p, z⟩
 ·refine ⟨its.toList, r, ⟨o, I.kIn a o hk, hc, n, by simpa using hs⟩, ?_⟩
  have e := r.length
  simp only [Array.length_toList] at e
  omega
theorem Inv.list_inj (I : Inv X pins σ H s) (h : SqL X.K H a xs) (h' : SqL X.K H a ys) : xs = ys := by
 obtain ⟨its, r, ⟨o, n, e, _, _, d⟩, _⟩ := I.list h
 obtain ⟨its', r', ⟨o', n', e', _, _, d'⟩, _⟩ := I.list h'
 rw [e] at e'; cases e'
 rw [d] at d'
 injection d' with d1 _
 have : its = its' := by simpa using congrArg Array.toList d1
 subst this
 exact r.inj r'
end
abbrev Cx.wish (X : Cx) (E : Value → Shared → Prop) : Cx := { X with xe := E }
abbrev Cx.nox (X : Cx) : Cx := X.wish fun _ _ => False
theorem Cx.Ok.wish {X : Cx} (ok : X.Ok) (E : Value → Shared → Prop) : (X.wish E).Ok :=
 ⟨ok.mod, ok.kind, ok.glob, ok.blt, ok.above, ok.inj, ok.has, ok.cab, ok.hd, ok.frames, ok.stk, ok.exf, ok.bs, ok.bsz, ok.noex, ok.exfs, ok.funs, ok.frf⟩
theorem Cx.Ok.unwish {X : Cx} {E : Value → Shared → Prop} (ok : (X.wish E).Ok) : X.Ok :=
 ⟨ok.mod, ok.kind, ok.glob, ok.blt, ok.above, ok.inj, ok.has, ok.cab, ok.hd, ok.frames, ok.stk, ok.exf, ok.bs, ok.bsz, ok.noex, ok.exfs, ok.funs, ok.frf⟩
section
variable {X : Cx} {pins : List (Addr × Obj)} {σ : St} {H : Hp} {s : Shared} {E : Value → Shared → Prop}
theorem Inv.wish (I : Inv X pins σ H s) (E : Value → Shared → Prop) : Inv (X.wish E) pins σ H s := ⟨I.ok.wish E, I.os, I.bare, I.base, I.loc, I.cell, I.free, I.freeC, I.pin, I.hok, I.len⟩
theorem Inv.unwish (I : Inv (X.wish E) pins σ H s) : Inv X pins σ H s := ⟨I.ok.unwish, I.os, I.bare, I.base, I.loc, I.cell, I.free, I.freeC, I.pin, I.hok, I.len⟩
theorem SP.unwish {D : Ends} {f : Flow} {s' : Shared} (h : SP (X.wish E) pins D f s') : SP X pins D f s' := by
 cases f with
 | next => obtain ⟨σ', H', I, q⟩ := h; exact ⟨σ', H', I.unwish, q⟩
 | brk => obtain ⟨σ', H', I, q⟩ := h; exact ⟨σ', H', I.unwish, q⟩
 | cont => obtain ⟨σ', H', I, q⟩ := h; exact ⟨σ', H', I.unwish, q⟩
 | ret u => obtain ⟨v, σ', H', I, r, q⟩ := h; exact ⟨v, σ', H', I.unwish, r, q⟩
theorem PT.nox {e : Expr} {t : TT} (h : PT X.nox e t) : PT X e t := fun pins s σ H Q I hw =>
 wpAny_mono (h pins s σ H Q (I.wish _) hw) (fun _ _ ⟨H', I', q⟩ => ⟨H', I'.unwish, q⟩) fun _ _ z => False.elim z
theorem PSs.nox {st : List Stmt} {t : TS} (h : PSs X.nox st t) : PSs X st t := fun pins s σ H D I hw =>
 wpAny_mono (h pins s σ H D (I.wish _) hw) (fun _ _ q => q.unwish) fun _ _ z => False.elim z
end
section
variable {X : Cx} {st : Stmt} {X5 : List Stmt} {t u : TS} {e : Expr} {te : TE} {pos : Pos}
def tNext : TS := fun D σ H => D.nx σ H
def tSeq (t u : TS) : TS := fun D σ H => t { D with nx := u D } σ H
theorem Zz : PSs X [] tNext := fun _ _ σ H _ I h => wpAny_execs_nil ⟨σ, H, I, h⟩
theorem Ze (h1 : PS X st t) (h2 : PSs X X5 u) : PSs X (st :: X5) (tSeq t u) := by
 intro pins s σ H D I h
 refine wpAny_execs_cons (thn (h1 pins s σ H { D with nx := u D } I h) fun f s1 q => ?_)
 cases f with
 | next =>
  obtain ⟨σ', H', I', q⟩ := q
  exact h2 pins s1 σ' H' D I' q
 | ret v => exact q
 | brk => exact q
 | cont => exact q
theorem Zg (h1 : PS X st t) : PSs X [st] t := by
 intro pins s σ H D I h
 refine wpAny_execs_cons (thn (h1 pins s σ H D I h) fun f s1 q => ?_)
 cases f with
 | next => exact wpAny_execs_nil q
 | ret v => exact q
 | brk => exact q
 | cont => exact q
theorem Inv.quiet {pins : List (Addr × Obj)} {σ : St} {H : Hp} {s : Shared} (I : Inv X pins σ H s) : interactive X.env = false := by simp [interactive, I.ok.kind]
def tDrop (te : TE) : TS := fun D σ H => te σ H fun _ H1 => D.nx σ H1
theorem Wp (he : PE X e te) (hs : swapsWith e none pos.line X.env = pure false := by rfl) : PS X (.Expr e pos) (tDrop te) := by
 intro pins s σ H D I h
 exact wpAny_Expr_any (thn (he pins s σ H _ I h) fun v s1 ⟨x, H1, I1, r1, q1⟩ => ⟨σ, H1, I1, q1⟩) I.quiet hs
def tRet (te : TE) : TS := fun D σ H => te σ H D.rt
theorem Zt (he : PE X e te) : PS X (.Return (some e) pos) (tRet te) := by
 intro pins s σ H D I h
 exact wpAny_Return_some (thn (he pins s σ H _ I h) fun v s1 ⟨x, H1, I1, r1, q1⟩ => ⟨x, σ, H1, I1, r1, q1⟩)
def tIfS (c : TT) (t u : TS) : TS := fun D σ H => c σ H fun b H1 => if b = true then t D σ H1 else u D σ H1
theorem Z4 {c : Expr} {a b : List Stmt} {tc : TT} (hc : PT X c tc) (ha : PSs X a t) (hb : PSs X b u) : PS X (.If c a b pos) (tIfS tc t u) := by
 intro pins s σ H D I h
 refine wpAny_If (thn (hc pins s σ H _ I h) fun d s1 ⟨H1, I1, q1⟩ => ?_)
 cases d with
 | true => exact ha pins s1 σ H1 D I1 q1
 | false => exact hb pins s1 σ H1 D I1 q1
def tNever : TS := fun _ _ _ => False
theorem ps_never : PS X st tNever := fun _ _ _ _ _ _ h => h.elim
theorem pss_never {sts : List Stmt} : PSs X sts tNever := fun _ _ _ _ _ _ h => h.elim
end
abbrev TG := V → St → Hp → (St → Hp → Prop) → Prop
abbrev TGs := List V → St → Hp → (St → Hp → Prop) → Prop
def PG (X : Cx) (target : Expr) (t : TG) : Prop :=
 ∀ (pins : List (Addr × Obj)) (s : Shared) (σ : St) (H : Hp) (v : V) (u : Value) (Q : St → Hp → Prop), Inv X pins σ H s → Z8 v u → t v σ H Q →
  wpAny (model X.prog X.w) X.A (assign target X.env u) (fun _ s' => ∃ σ' H', Inv X pins σ' H' s' ∧ Q σ' H') X.xe s
def PGs (X : Cx) (ts : List Expr) (t : TGs) : Prop :=
 ∀ (pins : List (Addr × Obj)) (s : Shared) (σ : St) (H : Hp) (vs : List V) (us : List Value) (Q : St → Hp → Prop), Inv X pins σ H s → Zx vs us → t vs σ H Q →
  wpAny (model X.prog X.w) X.A (assignInOrder ((assignEach ts X.env).map (·.2)) us) (fun _ s' => ∃ σ' H', Inv X pins σ' H' s' ∧ Q σ' H') X.xe s
abbrev TIp := V → V → Hp → VK → Prop
def PIp (X : Cx) (op : Operator) (t : TIp) : Prop :=
 ∀ (pins : List (Addr × Obj)) (s : Shared) (σ : St) (H : Hp) (x y : V) (v u : Value) (Q : VK), Inv X pins σ H s → Z8 x v → Z8 y u → t x y H Q →
  wpAny (model X.prog X.w) X.A (inplaceOp op v u) (EP X pins σ Q) X.xe s
section
variable {X : Cx} {pos : Pos}
def Wi (i : Nat) : TG := fun v σ H Q => Q (σ.set i (some v)) H
theorem Zu {i : Nat} {x : Str} (hN : X.N.Nodup) (hi : X.N[i]? = some x) (hx : Loc X.env.scope x) (hf : X.fn x = true ∨ X.env.scope.names.lookup x = some .local := by first | exact .inl rfl | exact .inr rfl | assumption) : PG X (.Name x pos) (Wi i) := by
 intro pins s σ H v u Q I r h
 exact wpAny_assign_Name (VE I hN hi hx r (fun s' I' => ⟨_, H, I', h⟩) hf)
def gNil : TGs := fun vs σ H Q => vs = [] ∧ Q σ H
def gCons (t : TG) (u : TGs) : TGs := fun vs σ H Q => ∃ v r, vs = v :: r ∧ t v σ H fun σ' H' => u r σ' H' Q
theorem yO : PGs X [] gNil := by
 intro pins s σ H vs us Q I r h
 obtain ⟨e, h⟩ := h
 subst e
 cases r
 exact assignInOrder_nil ⟨σ, H, I, h⟩
theorem XQ {e : Expr} {es : List Expr} {t : TG} {u : TGs} (h1 : PG X e t) (h2 : PGs X es u)
  (hs : (assignEach (e :: es) X.env).map (·.2) = assign e X.env :: (assignEach es X.env).map (·.2) := by rfl) : PGs X (e :: es) (gCons t u) := by
 intro pins s σ H vs us Q I r h
 obtain ⟨v, vr, e1, h⟩ := h
 subst e1
 cases r with
 | cons r rr =>
  rw [hs]
  refine assignInOrder_cons (thn (h1 pins s σ H _ _ _ I r h) fun _ s1 ⟨σ1, H1, I1, q1⟩ => ?_)
  exact h2 pins s1 σ1 H1 _ _ Q I1 rr q1
def gTup (K : PySem.W.Frag) (n : Nat) (t : TGs) : TG := fun v σ H Q => ∃ a xs, v = .ref a ∧ SqT K H a xs ∧ xs.length = n ∧ t xs σ H Q
theorem pg_tup {es : List Expr} {k : Nat} {t : TGs} {n : Nat} (hc : X.calm = true) (h : PGs X es t)
  (hn : (assignEach es X.env).length = n := by rfl) (hst : (assignEach es X.env).findIdx? (·.1) = none := by rfl) : PG X (.Tuple es k pos) (gTup X.K n t) := by
 intro pins s σ H v u Q I r hw
 obtain ⟨a, xs, e1, hq, hl, hw⟩ := hw
 subst e1
 cases r
 obtain ⟨its, rv, ht, hz⟩ := I.tuple hq
 refine assign_Tuple_tuple (I.ok.hd hc) ht (by simp [hn, ← hl, rv.length]) hst fun h' hx => ?_
 have I1 : Inv X pins σ H { s with heap := h' } := I.kept (t' := s.toks) fun b o e => hx b o (Nat.ne_of_lt (Heap.lt_size e)) e
 exact h pins _ σ H xs _ Q I1 (by simpa using rv) hw
def tAsg (te : TE) (g : TG) : TS := fun D σ H => te σ H fun x H1 => g x σ H1 D.nx
theorem ps_asg {tg e : Expr} {te : TE} {g : TG} (he : PE X e te) (hg : PG X tg g) (hs : swapsWithSole [tg] e pos.line X.env = pure false := by rfl) (hw : swappedStores [tg] e X.env = pure none := by rfl)
  (h1 : (assignEach [tg] X.env).map (·.2) = [assign tg X.env] := by rfl) : PS X (.Assign [tg] e pos) (tAsg te g) := by
 intro pins s σ H D I h
 refine wpAny_Assign_stores (thn (he pins s σ H _ I h) fun v s1 ⟨x, H1, I1, r1, q1⟩ => ?_) hs hw
 rw [h1]
 exact thn (hg pins s1 σ H1 x v _ I1 r1 q1) fun _ s2 q => q
theorem ZE {i : Nat} {x : Str} {e : Expr} {te : TE} {pos' : Pos} (hN : X.N.Nodup) (hi : X.N[i]? = some x) (hx : Loc X.env.scope x) (he : PE X e te) (hs : swapsWith e (some (.Name x pos')) pos.line X.env = pure false := by rfl) (hf : X.fn x = true ∨ X.env.scope.names.lookup x = some .local := by first | exact .inl rfl | exact .inr rfl | assumption) :
  PS X (.Assign [.Name x pos'] e pos) (tAsg te (Wi i)) := by
 intro pins s σ H D I h
 refine wpAny_Assign_Name (thn (he pins s σ H _ I h) fun v s1 ⟨y, H1, I1, r1, q1⟩ => ?_) hs
 exact VE I1 hN hi hx r1 (fun s2 I2 => ⟨_, H1, I2, q1⟩) hf
def tAug (i : Nat) (te : TE) (ti : TIp) : TS := fun D σ H => ∃ x, σ[i]? = some (some x) ∧ te σ H fun y H1 => ti x y H1 fun z H2 => D.nx (σ.set i (some z)) H2
theorem ps_aug {i : Nat} {x : Str} {e : Expr} {te : TE} {op : Operator} {ti : TIp} {pos' : Pos} (hN : X.N.Nodup) (hi : X.N[i]? = some x) (hx : Loc X.env.scope x) (he : PE X e te) (ho : PIp X op ti) (hf : X.fn x = true ∨ X.env.scope.names.lookup x = some .local := by first | exact .inl rfl | exact .inr rfl | assumption) :
  PS X (.AugAssign (.Name x pos') op e pos) (tAug i te ti) := by
 intro pins s σ H D I h
 obtain ⟨v, e1, h⟩ := h
 obtain ⟨m, hn, hl⟩ := I.loc
 have vis : Vis X.env.scope x := by rcases hx with k | k; exact .inl k; exact .inr (.inl k)
 obtain ⟨u, r, l⟩ := hl i x v hi e1 vis
 refine wpAny_AugAssign_Name ?_
 have go : wpAny (model X.prog X.w) X.A (eval e X.env) (fun w s₂ => wpAny (model X.prog X.w) X.A (inplaceOp op u w) (fun r s₃ => wpAny (model X.prog X.w) X.A (storeName X.env x r) (fun _ => SP X pins D .next) X.xe s₃) X.xe s₂) X.xe s := by
  refine thn (he pins s σ H _ I h) fun w s1 ⟨y, H1, I1, r1, q1⟩ => ?_
  refine thn (ho pins s1 σ H1 v y u w _ I1 r r1 q1) fun z s2 ⟨zv, H2, I2, r2, q2⟩ => ?_
  exact VE I2 hN hi hx r2 (fun s3 I3 => ⟨_, H2, I3, q2⟩) hf
 rcases l with ⟨hk, hm⟩ | ⟨hk, c, hc, hcell⟩
 ·exact wpAny_loadName_local I.ok.kind hk hn hm go
 ·rcases hk with hk | hk
  ·exact wpAny_loadName_cell I.ok.kind hk hc hcell go
  ·rcases hx with k | k
   ·have : X.env.scope.names.lookup x = some .free := hk
    rw [k] at this; cases this
   ·have : X.env.scope.names.lookup x = some .free := hk
    rw [k] at this; cases this
end
section
variable {X : Cx} {pos : Pos}
def tWhile (c : TT) (tb : TS) : TS := fun D σ H => ∃ W : Nat → St → Hp → Prop, (∃ m, W m σ H) ∧ ∀ m σ H, W m σ H →
 c σ H fun b H1 => if b = true then ∃ N : St → Hp → Prop, (∀ σ' H', N σ' H' → ∃ m', m' < m ∧ W m' σ' H') ∧ tb { D with nx := N, ct := N, bk := D.nx } σ H1 else D.nx σ H1
theorem qD {c : Expr} {body : List Stmt} {tc : TT} {tb : TS} (hp : PassesOwn (model X.prog X.w) X.A X.env X.xe) (hc : PT X c tc) (hb : PSs X body tb) : PS X (.While c body [] pos) (tWhile tc tb) := by
 intro pins s σ H D I h
 obtain ⟨W, ⟨m0, w0⟩, turn⟩ := h
 refine wpAny_While (codeAny_whileLoop (fun n s' => ∃ σ' H', Inv X pins σ' H' s' ∧ W n σ' H') ?_ m0 ⟨σ, H, I, w0⟩)
 rintro n s1 ⟨σ1, H1, I1, w1⟩
 refine wpAny_passesOwn hp (thn (hc pins s1 σ1 H1 _ I1 (turn n σ1 H1 w1)) fun b s2 ⟨H2, I2, q2⟩ => ?_)
 cases b with
 | true =>
  obtain ⟨N, hN, q2⟩ := q2
  rw [if_pos rfl]
  refine wpAny_passesOwn hp (thn (hb pins s2 σ1 H2 _ I2 q2) fun f s3 q3 => ?_)
  cases f with
  | next =>
   obtain ⟨σ3, H3, I3, n3⟩ := q3
   obtain ⟨m', hm, w3⟩ := hN σ3 H3 n3
   exact ⟨m', hm, σ3, H3, I3, w3⟩
  | cont =>
   obtain ⟨σ3, H3, I3, n3⟩ := q3
   obtain ⟨m', hm, w3⟩ := hN σ3 H3 n3
   exact ⟨m', hm, σ3, H3, I3, w3⟩
  | brk => exact q3
  | ret v => exact q3
 | false =>
  rw [if_neg Bool.false_ne_true]
  exact wpAny_execs_nil ⟨σ1, H2, I2, q2⟩
end
structure It where
 go : Nat → Hp → Prop
 yld : Nat → Hp → V → Hp → Prop
 stop : Nat → Hp → Prop
def WS (X : Cx) (pins : List (Addr × Obj)) (H : Hp) (b : Addr) : Prop :=
 H b = none ∧ b ≠ X.env.locals ∧ b ∉ X.fs ∧ (b ∈ X.ex ∨ X.s₀.heap.objs.size ≤ b) ∧ (∀ x c, X.env.cells.lookup x = some c → c ≠ b) ∧ ∀ p ∈ X.pn ++ pins, p.1 ≠ b
theorem Inv.fpOk {X : Cx} {pins : List (Addr × Obj)} {σ : St} {H H' : Hp} {s : Shared} {b : Addr} (I : Inv X pins σ H s) (hb : s.heap.objs.size ≤ b) (hn : H' b = none) : WS X pins H' b := by
 refine ⟨hn, Nat.ne_of_gt (Nat.lt_of_lt_of_le I.lt hb), I.nofs hb, .inr (Nat.le_trans I.sz hb), fun x c e z => ?_, fun p hp z => ?_⟩
 ·obtain ⟨v, q⟩ := I.cell x c e
  exact absurd (Nat.lt_of_lt_of_le q.lt (by rw [z]; exact hb)) (Nat.lt_irrefl _)
 ·exact absurd (Nat.lt_of_lt_of_le (Heap.lt_size (I.pin p hp).1) (by rw [z]; exact hb)) (Nat.lt_irrefl _)
structure Turn (P : Program) (w : World) (K : PySem.W.Frag) (tg : Expr) (J : It) (fp : List Addr) (it : Addr) (tn : Nat → Heap → Prop) : Prop where
 mem : it ∈ fp
 obj : ∀ i h, tn i h → ∀ b ∈ fp, ∃ o, h.get? b = some o ∧ ∀ v, o.data ≠ .cell v
 keep : ∀ i h h', tn i h → (∀ b ∈ fp, ∀ o, h.get? b = some o → h'.get? b = some o) → tn i h'
 item : ∀ (X : Cx), X.prog = P → X.w = w → X.K = K → X.calm = true → ∀ (i : Nat) (pins : List (Addr × Obj)) (s : Shared) (σ : St) (H : Hp) (E : Value → Shared → Prop), Inv X pins σ H s → (∀ b ∈ fp, WS X pins H b) → tn i s.heap → J.go i H →
  wpAny (model P w) X.A (pyNext (.ref it)) (fun r s1 => ∃ u, r = some u ∧
   wpAny (model P w) X.A (letOwnedTupleGo tg (.ref it) u) (fun _ s2 => ∃ x H', Inv X pins σ H' s2 ∧ Z8 x u ∧ J.yld i H x H' ∧ tn (i + 1) s2.heap ∧ ∀ b ∈ fp, H' b = none) E s1) E s
 done : ∀ (X : Cx), X.prog = P → X.w = w → X.K = K → X.calm = true → ∀ (i : Nat) (pins : List (Addr × Obj)) (s : Shared) (σ : St) (H : Hp) (E : Value → Shared → Prop), Inv X pins σ H s → (∀ b ∈ fp, WS X pins H b) → tn i s.heap → J.stop i H →
  wpAny (model P w) X.A (pyNext (.ref it)) (fun r s1 => r = none ∧ Inv X pins σ H s1) E s
 self : ∀ (A : Around) (i : Nat) (s : Shared) (Q : Value → Shared → Prop) (E : Value → Shared → Prop), tn i s.heap → Q (.ref it) s → wpAny (model P w) A (pyIter (.ref it)) Q E s
abbrev TI := St → Hp → (It → Hp → Prop) → Prop
def PIE (X : Cx) (pins : List (Addr × Obj)) (σ : St) (tg : Expr) (R : It → Hp → Prop) (itv : Value) (s2 : Shared) : Prop :=
 ∃ (it : Addr) (fp : List Addr) (tn : Nat → Heap → Prop) (J : It) (H' : Hp), itv = .ref it ∧ Inv X pins σ H' s2 ∧ Turn X.prog X.w X.K tg J fp it tn ∧ tn 0 s2.heap ∧ (∀ b ∈ fp, WS X pins H' b) ∧ R J H'
def PI (X : Cx) (tg iter : Expr) (wi : TI) : Prop :=
 ∀ (pins : List (Addr × Obj)) (s : Shared) (σ : St) (H : Hp) (R : It → Hp → Prop), Inv X pins σ H s → wi σ H R →
  wpAny (model X.prog X.w) X.A (eval iter X.env) (fun v s1 => wpAny (model X.prog X.w) X.A (pyIter v) (PIE X pins σ tg R) X.xe s1) X.xe s
theorem go_of {M : Model} {A : Around} {E : Value → Shared → Prop} {s : Shared} {tg : Expr} {it : Addr} {u : Value} {o : Obj} {n : String} {vs : Array Value} {Q : Unit → Shared → Prop} (ho : s.heap.get? it = some o) (hc : o.cls = .type n) (hd : o.data = .fields vs)
    (hn : ["enumerate", "zip", "dict_itemiterator", "dict_reverseitemiterator", "odict_iterator", "itertools.zip_longest", "itertools.pairwise"].contains n = false) (hQ : Q () s) : wpAny M A (letOwnedTupleGo tg (.ref it) u) Q E s := by
  unfold letOwnedTupleGo
  cases tg <;> first
    | exact wpAny_pure hQ
    | (cases u <;> first
        | exact wpAny_pure hQ
        | (refine wpAny_bind (wpAny_load ho ?_)
           rw [hc, hd]
           show wpAny M A (if (["enumerate", "zip", "dict_itemiterator", "dict_reverseitemiterator", "odict_iterator", "itertools.zip_longest", "itertools.pairwise"].contains n && vs[0]? == some (rawInt _)) = true then _ else _) Q E s
           rw [if_neg (by intro h; rw [hn, Bool.false_and] at h; cases h)]
           exact wpAny_pure hQ))
def Itl (K : PySem.W.Frag) (a : Addr) : It :=
 ⟨fun i H => ∃ xs x, SqL K H a xs ∧ xs[i]? = some x, fun i H x H' => H' = H ∧ ∀ xs, SqL K H a xs → xs[i]? = some x, fun i H => ∃ xs, SqL K H a xs ∧ xs.length ≤ i⟩
def Itr (lo : Int) (n : Nat) : It := ⟨fun i _ => i < n, fun i H x H' => H' = H ∧ x = .int (lo + i), fun i _ => n ≤ i⟩
theorem turn_list {P : Program} {w : World} {K : PySem.W.Frag} {tg : Expr} (a it : Addr) : Turn P w K tg (Itl K a) [it] it (fun i h => h.IsListIter it a i) where
 mem := by simp
 obj := fun i h st b hb => by
  have e : b = it := by simpa using hb
  subst e
  obtain ⟨o, e, c, d⟩ := st
  exact ⟨o, e, fun v z => by rw [d] at z; cases z⟩
 keep := fun i h h' st k => st.at fun o e => k it (by simp) o e
 item := by
  intro X hP hw hK hc i pins s σ H E I hf st hg
  subst hP hw hK
  obtain ⟨xs, x, hq, hx⟩ := hg
  obtain ⟨its, rv, p, hz⟩ := I.list hq
  obtain ⟨u, hu, ru⟩ := rv.get hx
  obtain ⟨f0, f1, f2, f3, f4, f5⟩ := hf it (by simp)
  refine wpAny_pyNext_list_item st p.isList (x := u) (by simpa using hu) fun h' st' sb => ?_
  have I1 : Inv X pins σ H { s with heap := h' } := I.turned (t' := s.toks) (fun b o hb e => (sb.2 b hb).trans e) f0 f1 f3 f4 f5
  obtain ⟨o, e, c, d⟩ := id st'
  exact ⟨u, rfl, go_of (s := { s with heap := h' }) e c d (by decide) ⟨x, H, I1, ru, ⟨rfl, fun ys hy => by rw [I.list_inj hy hq]; exact hx⟩, st', fun b hb => (hf b hb).1⟩⟩
 done := by
  intro X hP hw hK hc i pins s σ H E I hf st hg
  subst hP hw hK
  obtain ⟨xs, hq, hx⟩ := hg
  obtain ⟨its, rv, p, hz⟩ := I.list hq
  obtain ⟨f0, f1, f2, f3, f4, f5⟩ := hf it (by simp)
  have hl := rv.length
  exact wpAny_pyNext_list_end (I.ok.hd hc) st p.isList (by simp; omega) fun h' eb => ⟨rfl, I.turned (t' := s.toks) (fun b o hb e => eb b o hb e) f0 f1 f3 f4 f5⟩
 self := fun _ _ _ _ _ st h => wpAny_pyIter_listiter st h
theorem vi {P : Program} {w : World} {K : PySem.W.Frag} {tg : Expr} (it : Addr) (lo : Int) (n : Nat) : Turn P w K tg (Itr lo n) [it] it (fun i h => IsRangeIter h it (lo + (i : Nat) * 1) ((n : Int) - (i : Nat)) 1) where
 mem := by simp
 obj := fun i h st b hb => by
  have e : b = it := by simpa using hb
  subst e
  exact ⟨_, st, fun v z => by
   have z' : Data.fields _ = Data.cell v := z
   cases z'⟩
 keep := fun i h h' st k => k it (by simp) _ st
 item := by
  intro X hP hw hK hc i pins s σ H E I hf st hg
  subst hP hw hK
  obtain ⟨f0, f1, f2, f3, f4, f5⟩ := hf it (by simp)
  have W := Walks.range (prog := X.prog) (w := X.w) (I.ok.hd hc) it lo 1 n
  refine W.item i s _ _ hg st fun v h' tk hv st' kk => ?_
  obtain ⟨t, rfl⟩ := hv
  have I1 : Inv X pins σ H { s with heap := h', toks := tk } := I.turned (fun b o hb e => kk b o (by simpa using hb) e) f0 f1 f3 f4 f5
  refine ⟨_, rfl, go_of (s := { s with heap := h', toks := tk }) (n := "range_iterator") st' rfl rfl (by decide) ⟨.int (lo + i), H, I1, ⟨t, ?_⟩, ⟨rfl, rfl⟩, st', fun b hb => (hf b hb).1⟩⟩
  rw [Int.mul_one]
 done := by
  intro X hP hw hK hc i pins s σ H E I hf st hg
  subst hP hw hK
  obtain ⟨f0, f1, f2, f3, f4, f5⟩ := hf it (by simp)
  exact wpAny_pyNext_range_end (I.ok.hd hc) st (by have : n ≤ i := hg; omega) fun h' eb => ⟨rfl, I.turned (t' := s.toks) (fun b o hb e => eb b o hb e) f0 f1 f3 f4 f5⟩
 self := fun _ _ _ _ _ st h => wpAny_pyIter_rangeiter st h
section
variable {X : Cx} {tg : Expr}
inductive ItlR (K : PySem.W.Frag) (x : V) (H : Hp) (R : It → Hp → Prop) : Prop
 | mk (a : Addr) (h : x = .ref a) (h2 : ∃ xs, SqL K H a xs) (k : R (Itl K a) H) : ItlR K x H R
def iList (K : PySem.W.Frag) (tl : TE) : TI := fun σ H R => tl σ H fun x H1 => ItlR K x H1 R
theorem pi_list {l : Expr} {tl : TE} (hl : PE X l tl) : PI X tg l (iList X.K tl) := by
 intro pins s σ H R I h
 refine thn (hl pins s σ H _ I h) fun v s1 ⟨x, H1, I1, r1, q1⟩ => ?_
 obtain ⟨a, e, ⟨xs, hq⟩, q⟩ := q1
 subst e
 cases r1
 obtain ⟨its, rv, p, hz⟩ := I1.list hq
 refine wpAny_pyIter_list p.isList ?_
 refine ⟨s1.heap.objs.size, [s1.heap.objs.size], _, _, H1, rfl, I1.kept (t' := s1.toks) fun b o e => Heap.get?_push_of_some _ e, turn_list a _, ⟨_, Heap.get?_push_size _ rfl, rfl, rfl⟩, fun b hb => ?_, q⟩
 have e : b = s1.heap.objs.size := by simpa using hb
 subst e
 exact I1.fpOk (Nat.le_refl _) (I1.hok.fresh (Nat.le_refl _))
theorem yY {pins : List (Addr × Obj)} {σ : St} {H : Hp} {s : Shared} {R : It → Hp → Prop} {E : Value → Shared → Prop} {lo hi : Int} {t u v : Tok} {tk : Nat} (I : Inv X pins σ H s) (h1 : -(2 ^ 62) ≤ lo) (h2 : lo < 2 ^ 62) (h3 : -(2 ^ 62) ≤ hi) (h4 : hi < 2 ^ 62)
  (q : R (Itr lo (hi - lo).toNat) H) : wpAny (model X.prog X.w) X.A (pyIter (.ref s.heap.objs.size)) (PIE X pins σ tg R) E { s with heap := s.heap.push { cls := .type "range", data := .fields #[.int lo t, .int hi u, .int 1 v] }, toks := tk } := by
 refine wpAny_pyIter_range (IsRange.new ..) (small_one h1 h2 h3 h4) ?_
 have I1 : Inv X pins σ H { s with heap := s.heap.push { cls := .type "range", data := .fields #[.int lo t, .int hi u, .int 1 v] }, toks := tk } := I.kept fun b o e => Heap.get?_push_of_some _ e
 refine ⟨(s.heap.push { cls := .type "range", data := .fields #[.int lo t, .int hi u, .int 1 v] }).objs.size, [(s.heap.push { cls := .type "range", data := .fields #[.int lo t, .int hi u, .int 1 v] }).objs.size], _, _, H, rfl,
  I1.kept (t' := tk) fun b o e => Heap.get?_push_of_some _ e, vi _ lo (hi - lo).toNat, ?_, fun b hb => ?_, q⟩
 ·have e1 : lo + ((0 : Nat) : Int) * 1 = lo := by simp
  have e2 : (((hi - lo).toNat : Nat) : Int) - ((0 : Nat) : Int) = Builtin.Range.rangeSize lo hi 1 := by rw [rangeSize_one]; split <;> omega
  show IsRangeIter _ _ (lo + ((0 : Nat) : Int) * 1) ((((hi - lo).toNat : Nat) : Int) - ((0 : Nat) : Int)) 1
  rw [e1, e2]
  exact Heap.get?_push_size _ rfl
 ·have e : b = (s.heap.push { cls := .type "range", data := .fields #[.int lo t, .int hi u, .int 1 v] }).objs.size := by simpa using hb
  subst e
  exact I1.fpOk (Nat.le_refl _) (I1.hok.fresh (Nat.le_refl _))
def iRng1 (ta : TA) : TI := fun σ H R => ta σ H fun vs H1 => ∃ j : Int, vs = [.int j] ∧ -(2 ^ 62) ≤ j ∧ j < 2 ^ 62 ∧ R (Itr 0 j.toNat) H1
def iRng2 (ta : TA) : TI := fun σ H R => ta σ H fun vs H1 => ∃ i j : Int, vs = [.int i, .int j] ∧ (-(2 ^ 62) ≤ i ∧ i < 2 ^ 62 ∧ -(2 ^ 62) ≤ j ∧ j < 2 ^ 62) ∧ R (Itr i (j - i).toNat) H1
theorem Wn {a : Expr} {ta : TA} {p pos : Pos} (hg : Gl X "range") (hm : X.mg "range" = none) (ha : PA X [a] ta) (hs : starEach [a] X.env = [(false, eval a X.env)] := by rfl) : PI X tg (.Call (.Name "range" p) [a] [] pos) (iRng1 ta) := by
 intro pins s σ H R I h
 refine Call_ (Vu I hg hm boot_range (PyProof.Rows.callWith_type1 (thn (ha pos pins s σ H _ I h) fun us s1 ⟨vs, H1, I1, r1, q1⟩ => ?_) hs rfl))
 obtain ⟨j, e, q1, q2, q⟩ := q1
 subst e
 cases r1 with
 | cons r rr =>
  cases rr
  obtain ⟨t, rfl⟩ := r
  exact call_range_1 (yY I1 (by omega) (by omega) q1 q2 (by simpa using q))
theorem pi_range2 {a b : Expr} {ta : TA} {p pos : Pos} (hg : Gl X "range") (hm : X.mg "range" = none) (ha : PA X [a, b] ta) (hs : starEach [a, b] X.env = [(false, eval a X.env), (false, eval b X.env)] := by rfl) (hs2 : starEach [b] X.env = [(false, eval b X.env)] := by rfl) :
  PI X tg (.Call (.Name "range" p) [a, b] [] pos) (iRng2 ta) := by
 intro pins s σ H R I h
 refine Call_ (Vu I hg hm boot_range (PyProof.Rows.callWith_type1 (thn (ha pos pins s σ H _ I h) fun us s1 ⟨vs, H1, I1, r1, q1⟩ => ?_) (by rw [hs, hs2]) (by rw [hs2]; rfl)))
 obtain ⟨i, j, e, ⟨q1, q2, q3, q4⟩, q⟩ := q1
 subst e
 cases r1 with
 | cons r rr =>
  cases rr with
  | cons r' rr =>
   cases rr
   obtain ⟨t, rfl⟩ := r
   obtain ⟨t', rfl⟩ := r'
   exact call_range_2 (yY I1 q1 q2 q3 q4 q)
def tFor (wi : TI) (g : TG) (tb : TS) : TS := fun D σ H => wi σ H fun J H1 => ∃ W : Nat → Nat → St → Hp → Prop, (∃ m, W 0 m σ H1) ∧ ∀ i m σ H, W i m σ H →
 (J.stop i H ∧ D.nx σ H) ∨ (J.go i H ∧ ∃ N : St → Hp → Prop, (∀ σ' H', N σ' H' → ∃ m', m' < m ∧ W (i + 1) m' σ' H') ∧ ∀ x H', J.yld i H x H' → g x σ H' fun σ2 H2 => tb { D with nx := N, ct := N, bk := D.nx } σ2 H2)
def Uo (fp : List Addr) (h : Heap) : List (Addr × Obj) := fp.filterMap fun b => (h.get? b).map fun o => (b, o)
theorem Ww {fp : List Addr} {h : Heap} {b : Addr} {o : Obj} (hb : b ∈ fp) (e : h.get? b = some o) : (b, o) ∈ Uo fp h := List.mem_filterMap.mpr ⟨b, hb, by rw [e]; rfl⟩
theorem of_pinsAt {fp : List Addr} {h : Heap} {p : Addr × Obj} (hp : p ∈ Uo fp h) : p.1 ∈ fp ∧ h.get? p.1 = some p.2 := by
 obtain ⟨b, hb, e⟩ := List.mem_filterMap.mp hp
 cases q : h.get? b with
 | none => rw [q] at e; cases e
 | some o =>
  rw [q] at e
  have e' : (b, o) = p := Option.some.inj e
  subst e'
  exact ⟨hb, q⟩
theorem Inv.pinned {pins : List (Addr × Obj)} {σ : St} {H : Hp} {s : Shared} {fp : List Addr} (I : Inv X pins σ H s) (hf : ∀ b ∈ fp, WS X pins H b) (ho : ∀ b ∈ fp, ∃ o, s.heap.get? b = some o ∧ ∀ v, o.data ≠ .cell v) : Inv X (pins ++ Uo fp s.heap) σ H s :=
 I.pins_of fun p hp => (List.mem_append.mp hp).elim (fun z => I.pin p (List.mem_append_right _ z)) fun z => by
  obtain ⟨hb, e⟩ := of_pinsAt z
  obtain ⟨f0, f1, f2, _⟩ := hf p.1 hb
  obtain ⟨o, e', d⟩ := ho p.1 hb
  rw [e] at e'; cases e'
  exact ⟨e, f0, f1, f2, d⟩
theorem Inv.unpinned {pins pl : List (Addr × Obj)} {σ : St} {H : Hp} {s : Shared} (I : Inv X (pins ++ pl) σ H s) : Inv X pins σ H s := I.pins_of fun p hp => I.pin p (List.mem_append_right _ (List.mem_append_left _ hp))
theorem VB {iter : Expr} {body : List Stmt} {wi : TI} {g : TG} {tb : TS} {pos : Pos} (hp : PassesOwn (model X.prog X.w) X.A X.env X.xe) (hc : X.calm = true) (hi : PI X tg iter wi) (hg : PG X tg g) (hb : PSs X body tb)
  (hs : ∀ x, foldedSetIterable iter X.env x = pure x := by intro _; rfl) : PS X (.For tg iter body [] pos) (tFor wi g tb) := by
 intro pins s σ H D I h
 refine wpAny_For (thn (hi pins s σ H _ I h) fun v s1 h1 => thn h1 fun itv s2 h2 => ?_) hs
 obtain ⟨it, fp, tn, J, H2, e, I2, T, st2, f2, W, ⟨m0, w0⟩, turn⟩ := h2
 subst e
 have stat : ∀ {H' : Hp}, (∀ b ∈ fp, H' b = none) → ∀ b ∈ fp, WS X pins H' b := fun hn b hb => ⟨hn b hb, (f2 b hb).2⟩
 refine codeAny_forLoop_any (fun n s' => ∃ i σ' H', Inv X pins σ' H' s' ∧ tn i s'.heap ∧ (∀ b ∈ fp, H' b = none) ∧ W i n σ' H') ?_ m0 ⟨0, σ, H2, I2, st2, fun b hb => (f2 b hb).1, w0⟩
 rintro n s3 ⟨i, σ3, H3, I3, st3, fr3, w3⟩
 rcases turn i n σ3 H3 w3 with ⟨stop, qn⟩ | ⟨go, N, hN, step⟩
 ·refine wpAny_passesOwn hp (thn (T.done X rfl rfl rfl hc i pins s3 σ3 H3 X.xe I3 (stat fr3) st3 stop) fun r s4 ⟨hr, I4⟩ => ?_)
  subst hr
  exact wpAny_execs_nil ⟨σ3, H3, I4, qn⟩
 ·refine wpAny_passesOwn hp (thn (T.item X rfl rfl rfl hc i pins s3 σ3 H3 X.xe I3 (stat fr3) st3 go) fun r s4 ⟨u, hr, h4⟩ => ?_)
  subst hr
  refine wpAny_passesOwn hp (thn h4 fun _ s5 ⟨x, H5, I5, r5, y5, st5, fr5⟩ => ?_)
  have I5' := I5.pinned (stat fr5) (T.obj _ _ st5)
  refine wpAny_passesOwn hp (thn (hg _ s5 σ3 H5 x u _ I5' r5 (step x H5 y5)) fun _ s6 ⟨σ6, H6, I6, q6⟩ => ?_)
  refine wpAny_passesOwn hp (thn (hb _ s6 σ6 H6 _ I6 q6) fun f s7 q7 => ?_)
  have again : ∀ {σ7 : St} {H7 : Hp}, Inv X (pins ++ Uo fp s5.heap) σ7 H7 s7 → N σ7 H7 → ∃ m, m < n ∧ ∃ i σ' H', Inv X pins σ' H' s7 ∧ tn i s7.heap ∧ (∀ b ∈ fp, H' b = none) ∧ W i m σ' H' := fun {σ7 H7} I7 n7 => by
   obtain ⟨m', hm, w7⟩ := hN σ7 H7 n7
   refine ⟨m', hm, i + 1, σ7, H7, I7.unpinned, T.keep _ _ _ st5 fun b hb o e => (I7.pin (b, o) (List.mem_append_right _ (List.mem_append_right _ (Ww hb e)))).1, fun b hb => ?_, w7⟩
   obtain ⟨o, e, d⟩ := T.obj _ _ st5 b hb
   exact (I7.pin (b, o) (List.mem_append_right _ (List.mem_append_right _ (Ww hb e)))).2.1
  cases f with
  | next => obtain ⟨σ7, H7, I7, n7⟩ := q7; exact again I7 n7
  | cont => obtain ⟨σ7, H7, I7, n7⟩ := q7; exact again I7 n7
  | brk => obtain ⟨σ7, H7, I7, q7⟩ := q7; exact ⟨σ7, H7, I7.unpinned, q7⟩
  | ret v => obtain ⟨x7, σ7, H7, I7, r7, q7⟩ := q7; exact ⟨x7, σ7, H7, I7.unpinned, r7, q7⟩
end
theorem qP {K : PySem.W.Frag} {a : Addr} {xs : List V} {g : TG} {tb : TS} {D : Ends} {σ : St} {H : Hp} (Pv : Nat → St → Hp → Prop) (h0 : Pv 0 σ H) (hl : ∀ i σ H, i ≤ xs.length → Pv i σ H → SqL K H a xs)
  (hs : ∀ i x σ H, xs[i]? = some x → Pv i σ H → g x σ H fun σ2 H2 => tb { D with nx := Pv (i + 1), ct := Pv (i + 1), bk := D.nx } σ2 H2) (hd : ∀ σ H, Pv xs.length σ H → D.nx σ H) :
  ∃ W : Nat → Nat → St → Hp → Prop, (∃ m, W 0 m σ H) ∧ ∀ i m σ H, W i m σ H →
   ((Itl K a).stop i H ∧ D.nx σ H) ∨ ((Itl K a).go i H ∧ ∃ N : St → Hp → Prop, (∀ σ' H', N σ' H' → ∃ m', m' < m ∧ W (i + 1) m' σ' H') ∧ ∀ x H', (Itl K a).yld i H x H' → g x σ H' fun σ2 H2 => tb { D with nx := N, ct := N, bk := D.nx } σ2 H2) := by
 refine ⟨fun i m σ H => m = xs.length - i ∧ i ≤ xs.length ∧ Pv i σ H, ⟨xs.length, by simp, Nat.zero_le _, h0⟩, ?_⟩
 rintro i m σ H ⟨rfl, hi, p⟩
 have q := hl i σ H hi p
 by_cases hlt : i < xs.length
 ·refine .inr ⟨⟨xs, xs[i], q, by simp [hlt]⟩, Pv (i + 1), fun σ' H' p' => ⟨xs.length - (i + 1), by omega, rfl, hlt, p'⟩, fun x H' y => ?_⟩
  obtain ⟨e, y⟩ := y
  subst e
  exact hs i x σ _ (y xs q) p
 ·have e : i = xs.length := by omega
  subst e
  exact .inl ⟨⟨xs, q, Nat.le_refl _⟩, hd σ H p⟩
theorem Uf {lo : Int} {n : Nat} {g : TG} {tb : TS} {D : Ends} {σ : St} {H : Hp} (Pv : Nat → St → Hp → Prop) (h0 : Pv 0 σ H)
  (hs : ∀ i σ H, i < n → Pv i σ H → g (.int (lo + i)) σ H fun σ2 H2 => tb { D with nx := Pv (i + 1), ct := Pv (i + 1), bk := D.nx } σ2 H2) (hd : ∀ σ H, Pv n σ H → D.nx σ H) :
  ∃ W : Nat → Nat → St → Hp → Prop, (∃ m, W 0 m σ H) ∧ ∀ i m σ H, W i m σ H →
   ((Itr lo n).stop i H ∧ D.nx σ H) ∨ ((Itr lo n).go i H ∧ ∃ N : St → Hp → Prop, (∀ σ' H', N σ' H' → ∃ m', m' < m ∧ W (i + 1) m' σ' H') ∧ ∀ x H', (Itr lo n).yld i H x H' → g x σ H' fun σ2 H2 => tb { D with nx := N, ct := N, bk := D.nx } σ2 H2) := by
 refine ⟨fun i m σ H => m = n - i ∧ i ≤ n ∧ Pv i σ H, ⟨n, by simp, Nat.zero_le _, h0⟩, ?_⟩
 rintro i m σ H ⟨rfl, hi, p⟩
 by_cases hlt : i < n
 ·refine .inr ⟨hlt, Pv (i + 1), fun σ' H' p' => ⟨n - (i + 1), by omega, rfl, hlt, p'⟩, fun x H' y => ?_⟩
  obtain ⟨e, y⟩ := y
  subst e y
  exact hs i σ _ hlt p
 ·have e : i = n := by omega
  subst e
  exact .inl ⟨Nat.le_refl _, hd σ H p⟩
abbrev R2 := V → V → Hp → VK → Prop
def OpR (X : Cx) (f : Value → Value → Sem Value) (r : R2) : Prop :=
 ∀ (pins : List (Addr × Obj)) (s : Shared) (σ : St) (H : Hp) (x y : V) (v u : Value) (Q : VK), Inv X pins σ H s → Z8 x v → Z8 y u → r x y H Q →
  wpAny (model X.prog X.w) X.A (f v u) (EP X pins σ Q) X.xe s
def UnR (X : Cx) (f : Value → Sem Value) (r : V → Hp → VK → Prop) : Prop :=
 ∀ (pins : List (Addr × Obj)) (s : Shared) (σ : St) (H : Hp) (x : V) (v : Value) (Q : VK), Inv X pins σ H s → Z8 x v → r x H Q →
  wpAny (model X.prog X.w) X.A (f v) (EP X pins σ Q) X.xe s
def Yy (X : Cx) (f : Value) (r : List V → Hp → VK → Prop) : Prop :=
 ∀ (pins : List (Addr × Obj)) (s : Shared) (σ : St) (H : Hp) (xs : List V) (us : List Value) (Q : VK), Inv X pins σ H s → Zx xs us → r xs H Q →
  wpAny (model X.prog X.w) X.A (call f us) (EP X pins σ Q) X.xe s
def TruR (X : Cx) (r : V → Hp → (Bool → Hp → Prop) → Prop) : Prop :=
 ∀ (pins : List (Addr × Obj)) (s : Shared) (σ : St) (H : Hp) (x : V) (v : Value) (Q : Bool → Hp → Prop), Inv X pins σ H s → Z8 x v → r x H Q →
  wpAny (model X.prog X.w) X.A (truthy v) (TP X pins σ Q) X.xe s
def tOp (r : R2) (ta tb : TE) : TE := fun σ H Q => ta σ H fun x H1 => tb σ H1 fun y H2 => r x y H2 Q
def tUn (r : V → Hp → VK → Prop) (ta : TE) : TE := fun σ H Q => ta σ H fun x H1 => r x H1 Q
inductive rI_R (C : Int → Int → Prop) (g : Int → Int → V) (x : V) (y : V) (H : Hp) (Q : VK) : Prop
 | mk (i : _) (j : _) (h0 : x = .int i) (h1 : y = .int j) (h2 : C i j) (h3 : Q (g i j) H) : rI_R C g x y H Q
def rI (C : Int → Int → Prop) (g : Int → Int → V) : R2 := fun x y H Q => rI_R C g x y H Q
inductive rI0_R (g : Int → Int → V) (x : V) (y : V) (H : Hp) (Q : VK) : Prop
 | mk (i : _) (j : _) (h0 : x = .int i) (h1 : y = .int j) (h2 : Q (g i j) H) : rI0_R g x y H Q
def rI0 (g : Int → Int → V) : R2 := fun x y H Q => rI0_R g x y H Q
inductive rU_R (g : Int → V) (x : V) (H : Hp) (Q : VK) : Prop
 | mk (i : _) (h0 : x = .int i) (h1 : Q (g i) H) : rU_R g x H Q
def rU (g : Int → V) : V → Hp → VK → Prop := fun x H Q => rU_R g x H Q
section
variable {X : Cx} {a b c : Expr} {ta tb tc : TE} {pos : Pos}
theorem binT (ha : PE X a ta) (hb : PE X b tb) {pins : List (Addr × Obj)} {s : Shared} {σ : St} {H : Hp} {R : V → V → Hp → Prop} (I : Inv X pins σ H s)
  (h : ta σ H fun x H1 => tb σ H1 fun y H2 => R x y H2) {Q : Value → Shared → Prop} {f : Value → Value → Sem Value}
  (hf : ∀ v u s2 x y H2, Inv X pins σ H2 s2 → Z8 x v → Z8 y u → R x y H2 → wpAny (model X.prog X.w) X.A (f v u) Q X.xe s2) :
  wpAny (model X.prog X.w) X.A (eval a X.env) (fun v s₁ => wpAny (model X.prog X.w) X.A (eval b X.env) (fun u s₂ => wpAny (model X.prog X.w) X.A (f v u) Q X.xe s₂) X.xe s₁) X.xe s := by
 refine thn (ha pins s σ H _ I h) fun v s1 ⟨x, H1, I1, r1, q1⟩ => ?_
 refine thn (hb pins s1 σ H1 _ I1 q1) fun u s2 ⟨y, H2, I2, r2, q2⟩ => ?_
 exact hf v u s2 x y H2 I2 r1 r2 q2
theorem Zq {op : Operator} {r : R2} (ho : OpR X (binaryOp op) r) (ha : PE X a ta) (hb : PE X b tb) : PE X (.BinOp a op b pos) (tOp r ta tb) := by
 intro pins s σ H Q I h
 exact wpAny_BinOp (binT ha hb I h fun v u s2 x y H2 I2 rx ry q => ho pins s2 σ H2 x y v u Q I2 rx ry q)
theorem Vo {op : UnaryOp} {r : V → Hp → VK → Prop} (ho : UnR X (unaryOp op) r) (ha : PE X a ta) : PE X (.UnaryOp op a pos) (tUn r ta) := by
 intro pins s σ H Q I h
 exact UnaryOp_ (thn (ha pins s σ H _ I h) fun v s1 ⟨x, H1, I1, r1, q1⟩ => ho pins s1 σ H1 x v Q I1 r1 q1)
theorem opI {f : Value → Value → Sem Value} {C : Int → Int → Prop} {g : Int → Int → Int}
  (rule : ∀ (i j : Int) (t u : Tok) (s : Shared) (Q : Value → Shared → Prop) (E : Value → Shared → Prop), C i j → Q (.int (g i j) s.toks) { s with toks := s.toks + 1 } → wpAny (model X.prog X.w) X.A (f (.int i t) (.int j u)) Q E s) :
  OpR X f (rI C fun i j => .int (g i j)) := by
 intro pins s σ H x y v u Q I rx ry h
 obtain ⟨i, j, rfl, rfl, hc, q⟩ := h
 obtain ⟨t, rfl⟩ := rx
 obtain ⟨t', rfl⟩ := ry
 exact rule i j t t' s _ _ hc ⟨.int (g i j), H, I.tok _, ⟨_, rfl⟩, q⟩
theorem opI0 {f : Value → Value → Sem Value} {g : Int → Int → Int}
  (rule : ∀ (i j : Int) (t u : Tok) (s : Shared) (Q : Value → Shared → Prop) (E : Value → Shared → Prop), Q (.int (g i j) s.toks) { s with toks := s.toks + 1 } → wpAny (model X.prog X.w) X.A (f (.int i t) (.int j u)) Q E s) :
  OpR X f (rI0 fun i j => .int (g i j)) := by
 intro pins s σ H x y v u Q I rx ry h
 obtain ⟨i, j, rfl, rfl, q⟩ := h
 obtain ⟨t, rfl⟩ := rx
 obtain ⟨t', rfl⟩ := ry
 exact rule i j t t' s _ _ ⟨.int (g i j), H, I.tok _, ⟨_, rfl⟩, q⟩
theorem opB0 {f : Value → Value → Sem Value} {g : Int → Int → Bool}
  (rule : ∀ (i j : Int) (t u : Tok) (s : Shared) (Q : Value → Shared → Prop) (E : Value → Shared → Prop), Q (.bool (g i j)) s → wpAny (model X.prog X.w) X.A (f (.int i t) (.int j u)) Q E s) :
  OpR X f (rI0 fun i j => .bl (g i j)) := by
 intro pins s σ H x y v u Q I rx ry h
 obtain ⟨i, j, rfl, rfl, q⟩ := h
 obtain ⟨t, rfl⟩ := rx
 obtain ⟨t', rfl⟩ := ry
 exact rule i j t t' s _ _ ⟨.bl (g i j), H, I, rfl, q⟩
def CDiv (i j : Int) : Prop := 0 < j ∧ j < 1073741824
def CPow (i j : Int) : Prop := 0 ≤ j ∧ j ≤ 1000000 ∧ i.natAbs < 2 ^ 64
def CMul (i j : Int) : Prop := (-(2 ^ 64) < i ∧ i < 2 ^ 64) ∨ (-(2 ^ 64) < j ∧ j < 2 ^ 64)
theorem CMul.ok {i j : Int} (h : CMul i j) : IntMulOk i j := by
 rcases h with ⟨h1, h2⟩ | ⟨h1, h2⟩
 ·exact .of_left (intBits_le_64 h1 h2)
 ·exact .of_right (intBits_le_64 h1 h2)
theorem xX (k : Nat) : (0 : Int) ≤ 2 ^ k := by
 rw [two_pow_cast]
 exact Int.natCast_nonneg _
theorem Xz : OpR X (binaryOp .Add) (rI0 fun i j => .int (i + j)) := opI0 fun _ _ _ _ _ _ _ q => add_int q
theorem op_sub : OpR X (binaryOp .Sub) (rI0 fun i j => .int (i - j)) := opI0 fun _ _ _ _ _ _ _ q => sub_int q
theorem qQ : OpR X (binaryOp .Mult) (rI CMul fun i j => .int (i * j)) := opI fun _ _ _ _ _ _ _ hc q => mul_int q hc.ok
theorem VI : OpR X (binaryOp .FloorDiv) (rI CDiv fun i j => .int (i / j)) := opI fun i j _ _ _ _ _ hc q => by
 have h1 : (0 : Int) < j := hc.1
 have h2 : j < 1073741824 := hc.2
 exact floordiv_int (by omega) (by rw [Int.fdiv_eq_ediv_of_nonneg i (by omega)]; exact q) (.inl (PyProof.noPylong_small (by omega)))
theorem Xg : OpR X (binaryOp .Mod) (rI (fun _ j => 0 < j) fun i j => .int (i % j)) := opI fun i j _ _ _ _ _ hc q => by
 have h1 : (0 : Int) < j := hc
 exact mod_int' (by omega) (by rw [Int.fmod_eq_emod_of_nonneg i (by omega)]; exact q)
theorem op_pow : OpR X (binaryOp .Pow) (rI CPow fun i j => .int (i ^ j.toNat)) := opI fun _ _ _ _ _ _ _ hc q => pow_int_small hc.1 hc.2.1 hc.2.2 q
theorem op_shr : OpR X (binaryOp .RShift) (rI (fun _ j => 0 ≤ j) fun i j => .int (i / 2 ^ j.toNat)) := opI fun i j _ _ _ _ _ hc q =>
 rshift_int hc (by rw [Int.fdiv_eq_ediv_of_nonneg i (xX _)]; exact q)
theorem op_and : OpR X (binaryOp .BitAnd) (rI0 fun i j => .int (Builtin.bitAnd i j)) := opI0 fun _ _ _ _ _ _ _ q => and_int q
theorem unI {f : Value → Sem Value} {g : Int → Int}
  (rule : ∀ (i : Int) (t : Tok) (s : Shared) (Q : Value → Shared → Prop) (E : Value → Shared → Prop), Q (.int (g i) s.toks) { s with toks := s.toks + 1 } → wpAny (model X.prog X.w) X.A (f (.int i t)) Q E s) :
  UnR X f (rU fun i => .int (g i)) := by
 intro pins s σ H x v Q I rx h
 obtain ⟨i, rfl, q⟩ := h
 obtain ⟨t, rfl⟩ := rx
 exact rule i t s _ _ ⟨.int (g i), H, I.tok _, ⟨_, rfl⟩, q⟩
theorem Wd : UnR X (unaryOp .USub) (rU fun i => .int (-i)) := unI fun _ _ _ _ _ q => neg_int q
end
def scal : V → V → Bool
 | .non, .non => true | .non, .int _ => true | .int _, .non => true | .non, .bl _ => true | .bl _, .non => true | .non, .str _ => true | .str _, .non => true
 | .int _, .int _ => true | .bl _, .bl _ => true | .str _, .str _ => true | .byt _, .byt _ => true
 | .int _, .str _ => true | .str _, .int _ => true | .bl _, .str _ => true | .str _, .bl _ => true
 | _, _ => false
inductive rEq_R (x y : V) (H : Hp) (Q : VK) : Prop
 | mk (h : scal x y = true) (k : Q (.bl (decide (x = y))) H) : rEq_R x y H Q
inductive rNe_R (x y : V) (H : Hp) (Q : VK) : Prop
 | mk (h : scal x y = true) (k : Q (.bl (!decide (x = y))) H) : rNe_R x y H Q
def rEq : R2 := fun x y H Q => rEq_R x y H Q
def rNe : R2 := fun x y H Q => rNe_R x y H Q
theorem dec_int {i j : Int} : decide (V.int i = V.int j) = (i == j) := by
 rw [Bool.eq_iff_iff]
 simp
theorem dec_bl {i j : Bool} : decide (V.bl i = V.bl j) = (i == j) := by
 rw [Bool.eq_iff_iff]
 simp
theorem dec_str {i j : Str} : decide (V.str i = V.str j) = (i == j) := by
 rw [Bool.eq_iff_iff]
 simp
theorem dec_byt {i j : Array UInt8} : decide (V.byt i = V.byt j) = (i.toList == j.toList) := by
 rw [Bool.eq_iff_iff]
 cases i
 cases j
 simp
section
variable {X : Cx} {a b c : Expr} {ta tb tc : TE} {pos : Pos}
theorem Yh {pins : List (Addr × Obj)} {σ : St} {H : Hp} {s : Shared} {Q : VK} {k k' : Bool} (I : Inv X pins σ H s) (q : Q (.bl k) H) (e : k = k') : EP X pins σ Q (.bool k') s := by
 subst e
 exact ⟨.bl k, H, I, rfl, q⟩
theorem Xl : OpR X (compareOp .Eq) rEq := by
 intro pins s σ H x y v u Q I rx ry h
 obtain ⟨hs, q⟩ := h
 cases x with
 | non =>
  cases rx
  cases y with
  | non => cases ry; exact PySem.EqNone.eq_none_none (Yh I q (by simp))
  | bl j => cases ry; exact PySem.EqNone.eq_none_bool (Yh I q (by simp))
  | int j => obtain ⟨t', rfl⟩ := ry; exact PySem.EqNone.eq_none_int (Yh I q (by simp))
  | str j => obtain ⟨t', rfl⟩ := ry; exact PySem.EqNone.eq_none_str (Yh I q (by simp))
  | _ => exact absurd (show false = true from hs) Bool.false_ne_true
 | bl i =>
  cases rx
  cases y with
  | non => cases ry; exact PySem.EqNone.eq_bool_none (Yh I q (by simp))
  | bl j => cases ry; exact eq_bool (Yh I q dec_bl)
  | str j => obtain ⟨t', rfl⟩ := ry; exact PySem.EqMixed.eq_bool_str (Yh I q (by simp))
  | _ => exact absurd (show false = true from hs) Bool.false_ne_true
 | int i =>
  obtain ⟨t, rfl⟩ := rx
  cases y with
  | non => cases ry; exact PySem.EqNone.eq_int_none (Yh I q (by simp))
  | int j => obtain ⟨t', rfl⟩ := ry; exact eq_int (Yh I q dec_int)
  | str j => obtain ⟨t', rfl⟩ := ry; exact PySem.EqMixed.eq_int_str (Yh I q (by simp))
  | _ => exact absurd (show false = true from hs) Bool.false_ne_true
 | str i =>
  obtain ⟨t, rfl⟩ := rx
  cases y with
  | non => cases ry; exact PySem.EqNone.eq_str_none (Yh I q (by simp))
  | bl j => cases ry; exact PySem.EqMixed.eq_str_bool (Yh I q (by simp))
  | int j => obtain ⟨t', rfl⟩ := ry; exact PySem.EqMixed.eq_str_int (Yh I q (by simp))
  | str j => obtain ⟨t', rfl⟩ := ry; exact eq_str (Yh I q dec_str)
  | _ => exact absurd (show false = true from hs) Bool.false_ne_true
 | byt i =>
  obtain ⟨t, rfl⟩ := rx
  cases y with
  | byt j => obtain ⟨t', rfl⟩ := ry; exact PySem.W.eq_bytes (Yh I q dec_byt)
  | _ => exact absurd (show false = true from hs) Bool.false_ne_true
 | _ => cases y <;> exact absurd (show false = true from hs) Bool.false_ne_true
theorem qy : OpR X (compareOp .NotEq) rNe := by
 intro pins s σ H x y v u Q I rx ry h
 obtain ⟨hs, q⟩ := h
 cases x with
 | non =>
  cases rx
  cases y with
  | non => cases ry; exact PySem.EqNone.ne_none_none (Yh I q (by simp))
  | bl j => cases ry; exact PySem.EqNone.ne_none_bool (Yh I q (by simp))
  | int j => obtain ⟨t', rfl⟩ := ry; exact PySem.EqNone.ne_none_int (Yh I q (by simp))
  | str j => obtain ⟨t', rfl⟩ := ry; exact PySem.EqNone.ne_none_str (Yh I q (by simp))
  | _ => exact absurd (show false = true from hs) Bool.false_ne_true
 | bl i =>
  cases rx
  cases y with
  | non => cases ry; exact PySem.EqNone.ne_bool_none (Yh I q (by simp))
  | bl j => cases ry; exact ne_bool (Yh I q (congrArg not dec_bl))
  | str j => obtain ⟨t', rfl⟩ := ry; exact PySem.EqMixed.ne_bool_str (Yh I q (by simp))
  | _ => exact absurd (show false = true from hs) Bool.false_ne_true
 | int i =>
  obtain ⟨t, rfl⟩ := rx
  cases y with
  | non => cases ry; exact PySem.EqNone.ne_int_none (Yh I q (by simp))
  | int j => obtain ⟨t', rfl⟩ := ry; exact ne_int (Yh I q (congrArg not dec_int))
  | str j => obtain ⟨t', rfl⟩ := ry; exact PySem.EqMixed.ne_int_str (Yh I q (by simp))
  | _ => exact absurd (show false = true from hs) Bool.false_ne_true
 | str i =>
  obtain ⟨t, rfl⟩ := rx
  cases y with
  | non => cases ry; exact PySem.EqNone.ne_str_none (Yh I q (by simp))
  | bl j => cases ry; exact PySem.EqMixed.ne_str_bool (Yh I q (by simp))
  | int j => obtain ⟨t', rfl⟩ := ry; exact PySem.EqMixed.ne_str_int (Yh I q (by simp))
  | str j => obtain ⟨t', rfl⟩ := ry; exact ne_str (Yh I q (congrArg not dec_str))
  | _ => exact absurd (show false = true from hs) Bool.false_ne_true
 | byt i =>
  obtain ⟨t, rfl⟩ := rx
  cases y with
  | byt j => obtain ⟨t', rfl⟩ := ry; exact PySem.W.ne_bytes (Yh I q (congrArg not dec_byt))
  | _ => exact absurd (show false = true from hs) Bool.false_ne_true
 | _ => cases y <;> exact absurd (show false = true from hs) Bool.false_ne_true
theorem qg : OpR X (compareOp .Lt) (rI0 fun i j => .bl (decide (i < j))) := opB0 fun _ _ _ _ _ _ _ q => lt_int q
theorem Wc : OpR X (compareOp .LtE) (rI0 fun i j => .bl (decide (i ≤ j))) := opB0 fun _ _ _ _ _ _ _ q => le_int q
theorem op_gt : OpR X (compareOp .Gt) (rI0 fun i j => .bl (decide (j < i))) := opB0 fun _ _ _ _ _ _ _ q => gt_int q
theorem op_ge : OpR X (compareOp .GtE) (rI0 fun i j => .bl (decide (j ≤ i))) := opB0 fun _ _ _ _ _ _ _ q => ge_int q
theorem zK : OpR X (compareOp .In) (fun x y H Q => ∃ i j, x = .str i ∧ y = .str j ∧ Q (.bl (!(Builtin.Str.occurrences j i 0 j.length 1).isEmpty)) H) := by
 intro pins s σ H x y v u Q I rx ry h
 obtain ⟨i, j, rfl, rfl, q⟩ := h
 obtain ⟨t, rfl⟩ := rx
 obtain ⟨t', rfl⟩ := ry
 exact in_str (Yh I q rfl)
theorem OpR.or {f : Value → Value → Sem Value} {r r' : R2} (h : OpR X f r) (h' : OpR X f r') : OpR X f (fun x y H Q => r x y H Q ∨ r' x y H Q) := by
 intro pins s σ H x y v u Q I rx ry q
 rcases q with q | q
 ·exact h pins s σ H x y v u Q I rx ry q
 ·exact h' pins s σ H x y v u Q I rx ry q
theorem Zw (b : Expr) {op : CmpOp} (h : op ≠ .In := by decide) (h2 : op ≠ .NotIn := by decide) : behindInMarks op b = false := by
 have e1 : (op == CmpOp.In) = false := by cases op <;> first | rfl | exact absurd rfl h
 have e2 : (op == CmpOp.NotIn) = false := by cases op <;> first | rfl | exact absurd rfl h2
 cases b <;> simp [behindInMarks, e1, e2]
theorem XM {op : CmpOp} {r : R2} (ho : OpR X (compareOp op) r) (ha : PE X a ta) (hb : PE X b tb) (hm : behindInMarks op b = false) : PE X (.Compare a [op] [b] pos) (tOp r ta tb) := by
 intro pins s σ H Q I h
 exact wpAny_Compare1 (binT ha hb I h fun v u s2 x y H2 I2 rx ry q => ho pins s2 σ H2 x y v u Q I2 rx ry q) hm
def tTest (t : TE) : TT := fun σ H Q => t σ H fun x H' => BoolR x H' Q
theorem Zs {op : CmpOp} {r : R2} (ho : OpR X (compareOp op) r) (ha : PE X a ta) (hb : PE X b tb) (hm : behindInMarks op b = false) : PT X (.Compare a [op] [b] pos) (tTest (tOp r ta tb)) := by
 intro pins s σ H Q I h
 refine wpAny_isTrue_Compare1 (thn (ha pins s σ H _ I h) fun v s1 ⟨x, H1, I1, r1, q1⟩ => thn (hb pins s1 σ H1 _ I1 q1) fun u s2 ⟨y, H2, I2, r2, q2⟩ =>
  thn (ho pins s2 σ H2 x y v u _ I2 r1 r2 q2) fun c s3 ⟨z, H3, I3, r3, k, e, q3⟩ => ?_) hm
 subst e
 cases r3
 exact wpAny_truthy_bool ⟨H3, I3, q3⟩
def tChain (r r' : R2) (ta tb tc : TE) : TE := fun σ H Q => ta σ H fun x H1 => tb σ H1 fun y H2 => r x y H2 fun z H3 => ∃ k, z = .bl k ∧
 (if k = true then tc σ H3 fun w' H4 => r' y w' H4 Q else Q (.bl false) H3)
theorem xi {op op' : CmpOp} {r r' : R2} (ho : OpR X (compareOp op) r) (ho' : OpR X (compareOp op') r') (ha : PE X a ta) (hb : PE X b tb) (hc : PE X c tc)
  (hm : lastMarks [op, op'] [b, c] = false := by with_unfolding_all rfl) : PE X (.Compare a [op, op'] [b, c] pos) (tChain r r' ta tb tc) := by
 intro pins s σ H Q I h
 refine Compare_chain (thn (ha pins s σ H _ I h) fun v s1 ⟨x, H1, I1, r1, q1⟩ => chain_link (thn (hb pins s1 σ H1 _ I1 q1) fun u s2 ⟨y, H2, I2, r2, q2⟩ =>
  thn (ho pins s2 σ H2 x y v u _ I2 r1 r2 q2) fun d s3 ⟨z, H3, I3, r3, k, e, q3⟩ => ?_)) hm
 subst e
 cases r3
 refine wpAny_truthy_bool ?_
 cases k with
 | false => exact ite_ff ⟨.bl false, H3, I3, rfl, q3⟩
 | true => exact ite_tt (chain_last (thn (hc pins s3 σ H3 _ I3 q3) fun w' s4 ⟨z', H4, I4, r4, q4⟩ => ho' pins s4 σ H4 y z' u w' Q I4 r2 r4 q4))
theorem WQ {op op' : CmpOp} {r r' : R2} (ho : OpR X (compareOp op) r) (ho' : OpR X (compareOp op') r') (ha : PE X a ta) (hb : PE X b tb) (hc : PE X c tc)
  (hm : lastMarks [op, op'] [b, c] = false := by with_unfolding_all rfl) : PT X (.Compare a [op, op'] [b, c] pos) (tTest (tChain r r' ta tb tc)) := by
 intro pins s σ H Q I h
 refine isTrue_chain (thn (ha pins s σ H _ I h) fun v s1 ⟨x, H1, I1, r1, q1⟩ => test_link (thn (hb pins s1 σ H1 _ I1 q1) fun u s2 ⟨y, H2, I2, r2, q2⟩ =>
  thn (ho pins s2 σ H2 x y v u _ I2 r1 r2 q2) fun d s3 ⟨z, H3, I3, r3, k, e, q3⟩ => ?_)) hm
 subst e
 cases r3
 refine wpAny_truthy_bool ?_
 cases k with
 | false =>
  obtain ⟨k', e', q'⟩ := q3
  cases e'
  exact ite_ff ⟨H3, I3, q'⟩
 | true =>
  refine ite_tt (test_last (thn (hc pins s3 σ H3 _ I3 q3) fun w' s4 ⟨z', H4, I4, r4, q4⟩ => thn (ho' pins s4 σ H4 y z' u w' _ I4 r2 r4 q4) fun d' s5 ⟨z2, H5, I5, r5, k2, e2, q5⟩ => ?_))
  subst e2
  cases r5
  exact wpAny_truthy_bool ⟨H5, I5, q5⟩
def TruV (K : PySem.W.Frag) (x : V) (H : Hp) (k : Bool) : Prop :=
 match x with
 | .non => k = false
 | .bl b => k = b
 | .int i => k = (i != 0)
 | .str y => y.length ≤ sizeLine ∧ k = ((y.length : Int) != 0)
 | .byt y => y.size ≤ sizeLine ∧ k = ((y.size : Int) != 0)
 | .ref p => (∃ xs, SqL K H p xs ∧ k = !xs.isEmpty) ∨ (∃ xs, SqT K H p xs ∧ k = !xs.isEmpty) ∨ ∃ kvs, H p = some (.dK kvs) ∧ k = !kvs.isEmpty
 | _ => False
theorem vL {κ : Type} {kvs : List (κ × V)} {vs : List (κ × Value)} (r : KV kvs vs) : (!vs.isEmpty) = !kvs.isEmpty := by
 cases r <;> rfl
theorem qI {xs : List V} {its : List Value} (r : Zx xs its) : (!its.toArray.isEmpty) = !xs.isEmpty := by
 cases r <;> simp
theorem V9 : (sizeLine : Nat) < 2 ^ 63 := by rw [sizeLine_eq]; decide
theorem tru_ok : TruR X (fun x H Q => ∃ k, TruV X.K x H k ∧ Q k H) := by
 intro pins s σ H x v Q I rx h
 obtain ⟨k, e, q⟩ := h
 have hl := V9
 have hs : sizeLine = 16777216 := sizeLine_eq
 cases x with
 | non =>
  cases rx
  have e' : k = false := e
  subst e'
  exact truthy_none ⟨H, I, q⟩
 | bl b =>
  cases rx
  have e' : k = b := e
  subst e'
  exact wpAny_truthy_bool ⟨H, I, q⟩
 | int i =>
  obtain ⟨t, rfl⟩ := rx
  have e' : k = (i != 0) := e
  subst e'
  exact PySem.P.truthy_int ⟨H, I, q⟩
 | str y =>
  obtain ⟨t, rfl⟩ := rx
  obtain ⟨hy, e'⟩ : y.length ≤ sizeLine ∧ k = ((y.length : Int) != 0) := e
  subst e'
  exact PySem.P.truthy_str (by omega) ⟨H, I.tok _, q⟩
 | byt y =>
  obtain ⟨t, rfl⟩ := rx
  obtain ⟨hy, e'⟩ : y.size ≤ sizeLine ∧ k = ((y.size : Int) != 0) := e
  subst e'
  exact PySem.W.truthy_bytes (by omega) ⟨H, I.tok _, q⟩
 | ref p =>
  cases rx
  have e' : (∃ xs, SqL X.K H p xs ∧ k = !xs.isEmpty) ∨ (∃ xs, SqT X.K H p xs ∧ k = !xs.isEmpty) ∨ ∃ kvs, H p = some (.dK kvs) ∧ k = !kvs.isEmpty := e
  rcases e' with ⟨xs, hx, e'⟩ | ⟨xs, hx, e'⟩ | ⟨kvs, hx, e'⟩
  ·subst e'
   obtain ⟨its, r, pl, hz⟩ := I.list hx
   have hlen := r.length
   exact wpAny_truthy_list pl.isList (by simp only [List.size_toArray]; omega) ⟨H, I.tok _, by rw [qI r]; exact q⟩
  ·subst e'
   obtain ⟨its, r, pl, hz⟩ := I.tuple hx
   have hlen := r.length
   exact truthy_tuple pl (by simp only [List.size_toArray]; omega) ⟨H, I.tok _, by rw [qI r]; exact q⟩
  ·subst e'
   obtain ⟨hz, hS, vs, r, m⟩ : kvs.length ≤ sizeLine ∧ (p == sysModules) = false ∧ ∃ vs, KV kvs vs ∧ s.heap.DictOf (Z5 X.prog X.w) p vs := I.hok p _ hx
   have hlen : kvs.length = vs.length := Paired.length r
   exact wpAny_truthy_dict hS m (by omega) ⟨H, I.tok _, by rw [vL r]; exact q⟩
 | _ => exact (show False from e).elim
theorem pt_truth (ha : PE X a ta) (he : ∀ whole, isTrue a X.env whole = (do let v ← whole; standAt a.pos; holding [v] (truthy v))) :
  PT X a (fun σ H Q => ta σ H fun x H' => ∃ k, TruV X.K x H' k ∧ Q k H') := by
 intro pins s σ H Q I h
 exact isTrue_plain (thn (ha pins s σ H _ I h) fun v s1 ⟨x, H1, I1, r1, q1⟩ => tru_ok pins s1 σ H1 x v Q I1 r1 q1) (he _)
theorem Xo : OpR X (binaryOp .Add) (fun x y H Q => ∃ i j, x = .str i ∧ y = .str j ∧ i.length + j.length ≤ sizeLine ∧ Q (.str (i ++ j)) H) := by
 intro pins s σ H x y v u Q I rx ry h
 obtain ⟨i, j, rfl, rfl, hz, q⟩ := h
 obtain ⟨t, rfl⟩ := rx
 obtain ⟨t', rfl⟩ := ry
 exact add_str (fun t' tk => ⟨.str (i ++ j), H, I.tok _, ⟨_, rfl⟩, q⟩) hz
theorem XU {x : V} {us : List Value} (r : Zx [x] us) : ∃ u, us = [u] ∧ Z8 x u := by
 cases r with
 | cons r1 r2 => cases r2; exact ⟨_, rfl, r1⟩
theorem vals2 {x y : V} {us : List Value} (r : Zx [x, y] us) : ∃ u w', us = [u, w'] ∧ Z8 x u ∧ Z8 y w' := by
 cases r with
 | cons r1 r2 =>
  cases r2 with
  | cons r3 r4 => cases r4; exact ⟨_, _, rfl, r1, r3⟩
theorem yK : Yy X (.type "str") (fun xs H Q => ∃ i, xs = [.int i] ∧ i.natAbs.log2 < 1920 ∧ Q (.str (toString i)) H) := by
 intro pins s σ H xs us Q I r h
 obtain ⟨i, rfl, hz, q⟩ := h
 obtain ⟨u, rfl, t, rfl⟩ := XU r
 exact PySem.P.str_of_int hz ⟨.str _, H, I.tok _, ⟨_, rfl⟩, q⟩
end
structure ObjM (h : Heap) (x dx C : Addr) (mA : Str → Option Value) : Prop where
 obj : h.get? x = some (PySem.W.instObj C dx)
 ns : h.Ns1 dx mA
 ne : dx ≠ x
theorem lookIn_ns {h : Heap} {dx : Addr} {mA : Str → Option Value} (n : h.Ns1 dx mA) : ∃ od, h.get? dx = some od ∧ ∀ name, PySem.W.lookIn name od = some (mA name) := by
 obtain ⟨o, es, ep, ho, hd, hk, _, hm⟩ := n
 refine ⟨o, ho, fun name => ?_⟩
 have e := hm name
 unfold nsFind findBy at e
 rw [← Array.find?_toList] at e
 unfold PySem.W.lookIn
 rw [hd]
 dsimp only
 split
 ·rename_i y q
  rw [q] at e
  exact congrArg some e
 ·rename_i q
  rw [q] at e
  have a : es.toList.any (·.refKey) = false := by
   rw [List.any_eq_false]
   intro y hy
   obtain ⟨z, t, hkey⟩ := hk y (Array.mem_toList_iff.mp hy)
   simp [DictEntry.refKey, hkey]
  have a' : ¬ es.toList.any (·.refKey) = true := by rw [a]; exact Bool.false_ne_true
  rw [if_neg a']
  exact congrArg some e
theorem ObjM.look {h : Heap} {x dx C : Addr} {mA : Str → Option Value} (I : ObjM h x dx C mA) : ∃ od, PySem.W.InstAt h x (PySem.W.instObj C dx) C (some od) ∧ ∀ name, PySem.W.lookIn name od = some (mA name) :=
 let ⟨od, ho, hl⟩ := lookIn_ns I.ns
 ⟨od, ⟨I.obj, rfl, rfl, ho⟩, hl⟩
section
variable {prog : Program} {w : World} {A : Around} {E : Value → Shared → Prop} {s : Shared} {K : PySem.W.Frag} {x dx C f : Addr} {mA : Str → Option Value} {name : Str} {v : Value}
theorem get_map {expr : Bool} {Q : Value → Shared → Prop} (X : K.In s.heap) (I : ObjM s.heap x dx C mA) (hg : PySem.W.plainGet K C name = true) (hh : PySem.W.hasDictIn K C = true)
  (ha : PySem.W.findIn K (.ref C) name = some none) (hv : mA name = some v) (hv' : PySem.W.handedIn v = true) (h : Q v { s with toks := s.toks + 1 }) :
  wpAny (model prog w) A (getAttr (.ref x) name expr) Q E s := by
 obtain ⟨od, J, hl⟩ := I.look
 exact PySem.W.get_value X J (PySem.W.plainGet_of hg).1 (PySem.W.findObj_own hh ha rfl (by rw [hl, hv])) hv' h
theorem get_meth {pl : Sem Bool} {Q : Value × List Value → Shared → Prop} (X : K.In s.heap) (I : ObjM s.heap x dx C mA) (hg : PySem.W.plainGet K C name = true)
  (hf : PySem.W.findIn K (.ref C) name = some (some (.ref f))) (ht : PySem.W.isFn K (.ref f) = true) (hv : mA name = none) (h : Q (.ref f, [.ref x]) s) :
  wpAny (model prog w) A (getMethod (.ref x) name pl) Q E s := by
 obtain ⟨od, J, hl⟩ := I.look
 exact PySem.W.method_fn X J (PySem.W.plainGet_of hg).1 (PySem.W.plainGet_of hg).2 hf (beq_iff_eq.mp ht) (by show (PySem.W.lookIn name od).map (·.isSome) = some false; rw [hl, hv]; rfl) h
theorem set_map {ns : List Str} {Q : Unit → Shared → Prop} (X : K.In s.heap) (I : ObjM s.heap x dx C mA)
  (hs : PySem.W.findIn K (.ref C) "__setattr__" = some (some (.builtin "object.__setattr__"))) (hp : PySem.W.plainOver K C = true) (ht : PySem.W.takerIn K C name = some none) (hh : PySem.W.hasDictIn K C = true)
  (hw : PySem.Within mA ns) (hsz : ns.length ≤ sizeLine)
  (h : ∀ h', ObjM h' x dx C (fun y => if y = name then some v else mA y) → Heap.SameBut dx s.heap h' → Q () { s with heap := h', toks := s.toks + 2 }) :
  wpAny (model prog w) A (setAttr (.ref x) name v) Q E s := by
 obtain ⟨od, J, hl⟩ := I.look
 refine PySem.W.set_plain X J hs (PySem.W.osa_open (s := { s with toks := s.toks + 1 }) (r := none) X J hp ht fun b => ?_)
 obtain ⟨cd, hc, hd'⟩ := PySem.W.any_some hh
 have hx : s.heap.get? x = some ⟨.ref C, some dx, .plain, #[]⟩ := I.obj
 refine wpAny_bind (wpAny_pure (wpAny_bind (wpAny_bind (wpAny_loadPart hx (wpAny_bind (PySem.W.Looks.here (s := { s with toks := s.toks + 1 }) (PySem.W.looks_clsIn X hc) ?_))))))
 rw [hd']
 refine wpAny_pure (a := some dx) (wpAny_bind (wpAny_pure (wpAny_bind ?_)))
 refine wpAny_nsSet1 (s := { s with toks := s.toks + 1 }) I.ns fun h' hn2 hs2 => ?_
 obtain ⟨oD, esD, epD, hoD, hdD, hcD⟩ := hn2.count (PySem.Within.cons name v hw)
 refine wpAny_bind (wpAny_lookBehind hoD (by rw [hdD]; exact pastItsLine_dict (Nat.le_trans hcD (by rw [List.length_cons]; omega))) ?_)
 exact wpAny_pure (h _ ⟨(hs2.2 _ (Ne.symm I.ne)).trans I.obj, hn2, I.ne⟩ hs2)
theorem make_map {R : Result → Shared → Prop} {vs : List Value} {kw : List (Str × Value)} (X : K.In s.heap) (hm : PySem.W.makesIn K C = true)
  (hi : PySem.W.findIn K (.ref C) "__init__" = some (some (.ref f))) (hf : PySem.W.typeIn K (.ref f) = some (.type "function"))
  (h : codeAny (model prog w) (A.under (.builtin "type.__call__" ⟨.ref C :: vs, kw⟩)) (.call (.ref f) ⟨.ref (s.heap.objs.size + 1) :: vs, kw⟩) (PySem.W.InitBack (s.heap.objs.size + 1) R)
   { s with heap := (s.heap.push PySem.W.emptyDict).push (PySem.W.instObj C s.heap.objs.size) }) :
  codeAny (model prog w) A (.call (.ref C) ⟨vs, kw⟩) R s := by
 obtain ⟨hh, g, d, t, os⟩ := s
 exact PySem.W.make_core (PySem.W.makes_of X hm) (PySem.W.looks_findIn X hi) (fun self => PySem.W.bind_fn X self hf) (.inl rfl) h
end
def Y8 (f : Str) (v : V) : List (Str × V) → List (Str × V)
 | [] => [(f, v)]
 | (g, x) :: r => if g = f then (g, v) :: r else (g, x) :: Y8 f v r
theorem UC (f g : Str) (v : V) : ∀ fs : List (Str × V), (Y8 f v fs).lookup g = if g = f then some v else fs.lookup g
 | [] => by
  show List.lookup g [(f, v)] = _
  by_cases h : g = f
  ·have hb : (g == f) = true := beq_iff_eq.mpr h
   simp only [List.lookup, hb, if_pos h]
  ·have hb : (g == f) = false := beq_eq_false_iff_ne.mpr h
   simp only [List.lookup, hb, if_neg h]
 | (k, x) :: r => by
  have ih := UC f g v r
  rw [show Y8 f v ((k, x) :: r) = (if k = f then (k, v) :: r else (k, x) :: Y8 f v r) from rfl]
  by_cases hk : k = f
  ·rw [if_pos hk]
   by_cases h : g = k
   ·have hb : (g == k) = true := beq_iff_eq.mpr h
    simp only [List.lookup, hb, if_pos (h.trans hk)]
   ·have hb : (g == k) = false := beq_eq_false_iff_ne.mpr h
    simp only [List.lookup, hb, if_neg (fun e : g = f => h (e.trans hk.symm))]
  ·rw [if_neg hk]
   by_cases h : g = k
   ·have hb : (g == k) = true := beq_iff_eq.mpr h
    simp only [List.lookup, hb, if_neg (fun e : g = f => hk (h.symm.trans e))]
   ·have hb : (g == k) = false := beq_eq_false_iff_ne.mpr h
    simp only [List.lookup, hb]
    exact ih
theorem Uk (f : Str) (v : V) : ∀ fs : List (Str × V), f ∈ (Y8 f v fs).map (·.1) ∧ ∀ g, g ∈ fs.map (·.1) → g ∈ (Y8 f v fs).map (·.1)
 | [] => ⟨by simp [Y8], fun g h => by simp at h⟩
 | (k, x) :: r => by
  obtain ⟨i1, i2⟩ := Uk f v r
  rw [show Y8 f v ((k, x) :: r) = (if k = f then (k, v) :: r else (k, x) :: Y8 f v r) from rfl]
  by_cases hk : k = f
  ·rw [if_pos hk]
   subst hk
   exact ⟨by simp, fun g h => by simpa using h⟩
  ·rw [if_neg hk]
   refine ⟨?_, fun g h => ?_⟩
   ·rw [List.map_cons]
    exact List.mem_cons_of_mem _ i1
   ·rw [List.map_cons] at h ⊢
    rcases List.mem_cons.mp h with e | e
    ·exact List.mem_cons.mpr (.inl e)
    ·exact List.mem_cons_of_mem _ (i2 g e)
theorem UE (f : Str) (v : V) : ∀ fs : List (Str × V), (Y8 f v fs).length ≤ fs.length + 1
 | [] => by simp [Y8]
 | (k, x) :: r => by
  have ih := UE f v r
  rw [show Y8 f v ((k, x) :: r) = (if k = f then (k, v) :: r else (k, x) :: Y8 f v r) from rfl]
  by_cases hk : k = f
  ·rw [if_pos hk, List.length_cons, List.length_cons]; omega
  ·rw [if_neg hk, List.length_cons, List.length_cons]; omega
theorem RelO.some_of {v : V} {o : Option Value} (r : RelO (some v) o) : ∃ u, o = some u ∧ Z8 v u := by
 cases o with
 | none => exact (show False from r).elim
 | some u => exact ⟨u, rfl, r⟩
theorem RelO.none_of {o : Option Value} (r : RelO none o) : o = none := by
 cases o with
 | none => rfl
 | some u => exact (show False from r).elim
theorem handed_of {v : V} {u : Value} (r : Z8 v u) : PySem.W.handedIn u = true := by
 cases v with
 | non => cases (show u = Value.none from r); rfl
 | bl b => cases (show u = Value.bool b from r); rfl
 | int i => obtain ⟨t, e⟩ := (show ∃ t, u = Value.int i t from r); cases e; rfl
 | str x => obtain ⟨t, e⟩ := (show ∃ t, u = Value.str x t from r); cases e; rfl
 | byt b => obtain ⟨t, e⟩ := (show ∃ t, u = Value.bytes b t from r); cases e; rfl
 | flt b => obtain ⟨t, e⟩ := (show ∃ t, u = Value.float b t from r); cases e; rfl
 | ref a => cases (show u = Value.ref a from r); rfl
 | ty n => cases (show u = Value.type n from r); rfl
section
variable {P : Program} {w : World} {H H' : Hp} {h h' : Heap} {a C dx : Addr} {fs fs' : List (Str × V)}
theorem UU (hok : HOk P w H h) (e : H a = some (.ins C dx fs)) : ∃ mA, ObjM h a dx C mA ∧ (∀ f, RelO (fs.lookup f) (mA f)) ∧ PySem.Within mA (fs.map (·.1)) ∧ fs.length ≤ 1000 ∧ H dx = some (.own a) := by
 obtain ⟨d, z, ne, ob, mA, n, r, q⟩ := (show Y6 P w H h a (.ins C dx fs) from hok a _ e)
 exact ⟨mA, ⟨ob, n, ne⟩, r, q, z, d⟩
end
structure Cls (K : PySem.W.Frag) (C : Addr) : Prop where
 pg : PySem.W.plainGet K C Str.empty = true
 hd : PySem.W.hasDictIn K C = true
 po : PySem.W.plainOver K C = true
 sa : PySem.W.findIn K (.ref C) "__setattr__" = some (some (.builtin "object.__setattr__"))
theorem Cls.get {K : PySem.W.Frag} {C : Addr} (c : Cls K C) (f : Str) : PySem.W.plainGet K C f = true := c.pg
def Wf (K : PySem.W.Frag) (C : Addr) (f : Str) : Prop := PySem.W.findIn K (.ref C) f = some none
theorem Wf.taker {K : PySem.W.Frag} {C : Addr} {f : Str} (n : Wf K C f) : PySem.W.takerIn K C f = some none := by
 unfold PySem.W.takerIn
 rw [show PySem.W.findIn K (.ref C) f = some none from n]
 rfl
structure Con (K : PySem.W.Frag) (C : Addr) (f : Str) (v : V) (u : Value) : Prop where
 at_ : PySem.W.findIn K (.ref C) f = some (some u)
 rel : Z8 v u
 get : PySem.W.specialIn K u "__get__" = some none
 cp : PySem.W.copiedNames.contains f = false
structure Meth (K : PySem.W.Frag) (C : Addr) (m : Str) (f : Addr) : Prop where
 at_ : PySem.W.findIn K (.ref C) m = some (some (.ref f))
 fn : PySem.W.isFn K (.ref f) = true
 kp : PySem.W.keepIn K (.ref f) = true
section
variable {X : Cx} {pins : List (Addr × Obj)} {σ : St} {H : Hp} {s : Shared} {a C dx : Addr} {fs : List (Str × V)} {f : Str} {v : V} {A : Around} {E : Value → Shared → Prop}
theorem vg {b : Bool} {Q : Value → Shared → Prop} (I : Inv X pins σ H s) (e : H a = some (.ins C dx fs)) (c : Cls X.K C) (n : Wf X.K C f) (l : fs.lookup f = some v)
  (h : ∀ u s', Inv X pins σ H s' → Z8 v u → Q u s') : wpAny (model X.prog X.w) A (getAttr (.ref a) f b) Q E s := by
 obtain ⟨mA, O, r, _, _, _⟩ := UU I.hok e
 obtain ⟨u, hu, ru⟩ := RelO.some_of (v := v) (o := mA f) (by rw [← l]; exact r f)
 exact get_map I.kIn O (c.get f) c.hd n hu (handed_of ru) (h u _ (I.tok _) ru)
theorem Vt {m : Str} {g : Addr} {pl : Sem Bool} {Q : Value × List Value → Shared → Prop} (I : Inv X pins σ H s) (e : H a = some (.ins C dx fs)) (c : Cls X.K C) (k : Meth X.K C m g) (l : fs.lookup m = none)
  (h : Q (.ref g, [.ref a]) s) : wpAny (model X.prog X.w) A (getMethod (.ref a) m pl) Q E s := by
 obtain ⟨mA, O, r, _, _, _⟩ := UU I.hok e
 have hn : mA m = none := RelO.none_of (by rw [← l]; exact r m)
 exact get_meth I.kIn O (c.get m) k.at_ k.fn hn h
theorem vm {y : V} {u : Value} {Q : Unit → Shared → Prop} (I : Inv X pins σ H s) (e : H a = some (.ins C dx fs)) (c : Cls X.K C) (n : Wf X.K C f) (hl : fs.length < 1000) (ry : Z8 y u)
  (h : ∀ s', Inv X pins σ (upd H a (.ins C dx (Y8 f y fs))) s' → Q () s') : wpAny (model X.prog X.w) A (setAttr (.ref a) f u) Q E s := by
 obtain ⟨mA, O, r, wi, _, ho⟩ := UU I.hok e
 have hz : (fs.map (·.1)).length ≤ sizeLine := by rw [List.length_map, sizeLine_eq]; omega
 refine set_map I.kIn O c.sa c.po n.taker c.hd wi hz fun h' O' sb => h _ ?_
 have hd : ∃ o, h'.get? dx = some o := let ⟨o, _, _, e', _⟩ := O'.ns; ⟨o, e'⟩
 refine I.write (x := a) (e := dx) (by rw [e]; exact True.intro) (.inr ho) (fun b q hb z => (sb.2 b hb).trans z) hd ?_
 refine ⟨by rw [Zv O.ne]; exact ho, ?_, O.ne, O'.obj, _, O'.ns, fun g => ?_, fun g hg => ?_⟩
 ·have := UE f y fs; omega
 ·show RelO ((Y8 f y fs).lookup g) (if g = f then some u else mA g)
  rw [UC]
  by_cases q : g = f
  ·rw [if_pos q, if_pos q]; exact ry
  ·rw [if_neg q, if_neg q]; exact r g
 ·by_cases q : g = f
  ·rw [q]; exact (Uk f y fs).1
  ·refine (Uk f y fs).2 g (wi g fun z => hg ?_)
   show (if g = f then some u else mA g) = none
   rw [if_neg q]; exact z
theorem Inv.made (I : Inv X pins σ H s) : Inv X pins σ (upd (upd H s.heap.objs.size (.own (s.heap.objs.size + 1))) (s.heap.objs.size + 1) (.ins C s.heap.objs.size []))
  { s with heap := (s.heap.push PySem.W.emptyDict).push (PySem.W.instObj C s.heap.objs.size) } := by
 have e1 : (s.heap.push PySem.W.emptyDict).get? s.heap.objs.size = some PySem.W.emptyDict := Heap.get?_push_size s.heap rfl
 have e2 : ((s.heap.push PySem.W.emptyDict).push (PySem.W.instObj C s.heap.objs.size)).get? (s.heap.objs.size + 1) = some (PySem.W.instObj C s.heap.objs.size) := by
  have := Heap.get?_push_size (s.heap.push PySem.W.emptyDict) (o := PySem.W.instObj C s.heap.objs.size) rfl
  rwa [Heap.size_push] at this
 have e3 : (s.heap.push PySem.W.emptyDict).Ns s.heap.objs.size (fun _ => none) := ⟨PySem.W.emptyDict, #[], _, e1, rfl, (fun e he => absurd he (by simp)), fun _ => rfl⟩
 have I1 := I.laid (a := s.heap.objs.size) (o := .own (s.heap.objs.size + 1)) (h' := s.heap.push PySem.W.emptyDict) (t' := s.toks) (fun b u q => Heap.get?_push_of_some _ q) (Nat.le_refl _) ⟨_, e1⟩
 refine I1.laid (a := s.heap.objs.size + 1) (o := .ins C s.heap.objs.size []) (t' := s.toks) (fun b u q => Heap.get?_push_of_some _ q) (Nat.le_of_eq (Heap.size_push _ _)) ?_
 have ne : s.heap.objs.size ≠ s.heap.objs.size + 1 := Nat.ne_of_lt (Nat.lt_succ_self _)
 refine ⟨by rw [Zv ne, Zd], Nat.zero_le _, ne, e2, fun _ => none, (Heap.Ns1.of_empty e3).at fun o q => Heap.get?_push_of_some _ q, fun _ => True.intro, fun y hy => absurd rfl hy⟩
theorem attr_of {prog : Program} {w : World} {env : Env} {e : Expr} {f : Str} {pos : Pos} {s : Shared} {Q : Value → Shared → Prop} (hb : attributeBase e f env (eval e env) = eval e env)
  (h : wpAny (model prog w) A (eval e env) (fun o s₁ => wpAny (model prog w) A (getAttr o f true) Q E s₁) E s) : wpAny (model prog w) A (eval (.Attribute e f pos) env) Q E s :=
 Attribute_any_ h (by rw [arm_eval_Attribute, hb])
end
inductive FldR (K : PySem.W.Frag) (f : Str) (x : V) (H : Hp) (Q : VK) : Prop
 | mk (a C dx : Addr) (fs : List (Str × V)) (v : V) (h1 : x = .ref a) (h2 : H a = some (.ins C dx fs)) (h3 : Cls K C) (h4 : Wf K C f) (h5 : fs.lookup f = some v) (k : Q v H) : FldR K f x H Q
def tFld (K : PySem.W.Frag) (ta : TE) (f : Str) : TE := fun σ H Q => ta σ H fun x H1 => FldR K f x H1 Q
def sFld (K : PySem.W.Frag) (ta tv : TE) (f : Str) : TS := fun D σ H => tv σ H fun y H1 => ta σ H1 fun x H2 => ∃ a C dx fs, x = .ref a ∧ H2 a = some (.ins C dx fs) ∧ Cls K C ∧ Wf K C f ∧ fs.length < 1000 ∧
 D.nx σ (upd H2 a (.ins C dx (Y8 f y fs)))
section
variable {X : Cx} {o e value : Expr} {f : Str} {pos pos' tpos : Pos} {ta tv : TE}
theorem pe_fld (he : PE X e ta) (hb : attributeBase e f X.env (eval e X.env) = eval e X.env) : PE X (.Attribute e f pos) (tFld X.K ta f) := by
 intro pins s σ H Q I h
 refine attr_of hb (thn (he pins s σ H _ I h) fun u s1 ⟨x, H1, I1, rx, a, C, dx, fs, v, ex, ea, c, n, l, q⟩ => ?_)
 subst ex
 obtain rfl : u = Value.ref a := rx
 exact vg I1 ea c n l fun u' s2 I2 ru => ⟨v, H1, I2, ru, q⟩
theorem yn (ha : PE X o ta) (hv : PE X value tv) (hs : swapsWith value (some (.Attribute o f pos')) pos.line X.env = pure false) : PS X (.Assign [.Attribute o f pos'] value pos) (sFld X.K ta tv f) := by
 intro pins s σ H D I h
 refine plainObj_wpAny_Assign_Attribute (thn (hv pins s σ H _ I h) fun u s1 ⟨y, H1, I1, ry, q⟩ => thn (ha pins s1 σ H1 _ I1 q) fun ov s2 ⟨x, H2, I2, rx, a, C, dx, fs, ex, ea, c, n, l, q2⟩ => ?_) hs
 subst ex
 obtain rfl : ov = Value.ref a := rx
 exact vm I2 ea c n l ry fun s3 I3 => ⟨σ, _, I3, q2⟩
theorem methcall_of {pl : Sem Bool} {m : Str} {apos : Pos} {args : List Expr} {pins : List (Addr × Obj)} {s : Shared} {σ : St} {H : Hp} {Q : Value → Shared → Prop} {te : TE} (he : PE X e te) (I : Inv X pins σ H s)
  (h : te σ H fun x H1 => ∃ a C dx fs g, x = .ref a ∧ H1 a = some (.ins C dx fs) ∧ Cls X.K C ∧ Meth X.K C m g ∧ fs.lookup m = none ∧
   ∀ s1, Inv X pins σ H1 s1 → wpAny (model X.prog X.w) X.A (callWith pos (.ref g) [.ref a] (backTo pos (starEach args X.env)) (backToKw pos (keywordEach [] X.env))) Q X.xe s1)
  (ht : eval (.Call (.Attribute e m apos) args [] pos) X.env = (do
   let ov ← eval e X.env
   standAt apos.atName
   let (f, first) ← holding [ov] (getMethod ov m pl)
   callWith pos f first (backTo pos (starEach args X.env)) (backToKw pos (keywordEach [] X.env)))) :
  wpAny (model X.prog X.w) X.A (eval (.Call (.Attribute e m apos) args [] pos) X.env) Q X.xe s := by
 refine PySem.W.methodCall_KW (pl := pl) (thn (he pins s σ H _ I h) fun u s1 ⟨x, H1, I1, rx, a, C, dx, fs, g, ex, ea, c, k, l, q⟩ => ?_) ht
 subst ex
 obtain rfl : u = Value.ref a := rx
 exact Vt I1 ea c k l (q s1 I1)
end
section
variable {X : Cx} {pins : List (Addr × Obj)} {σ : St} {H : Hp} {s : Shared} {A : Around} {E : Value → Shared → Prop} {Q : Value → Shared → Prop} {c : Value} {b : Bool}
inductive Vw (K : PySem.W.Frag) (H : Hp) : V → Value → Prop where
 | non : Vw K H .non (.type "NoneType")
 | bl (x : Bool) : Vw K H (.bl x) (.type "bool")
 | int (i : Int) : Vw K H (.int i) (.type "int")
 | str (x : Str) : Vw K H (.str x) (.type "str")
 | flt (x : UInt64) : Vw K H (.flt x) (.type "float")
 | lst {a : Addr} {xs : List V} (e : H a = some (.lst xs)) : Vw K H (.ref a) (.type "list")
 | frz {a : Addr} {o : Obj} {xs : List V} (e : H a = some (.frz o (.lst xs))) : Vw K H (.ref a) (.type "list")
 | tup {a : Addr} {xs : List V} (e : H a = some (.tup xs)) : Vw K H (.ref a) (.type "tuple")
 | dK {a : Addr} {kvs : List (Key × V)} (e : H a = some (.dK kvs)) : Vw K H (.ref a) (.type "dict")
 | dT {a : Addr} {kvs : List (List Key × V)} (e : H a = some (.dT kvs)) : Vw K H (.ref a) (.type "dict")
 | ins {a C dx : Addr} {fs : List (Str × V)} (e : H a = some (.ins C dx fs)) (cl : Cls K C) (ha : PySem.W.findIn K (.ref C) "__class__" = some (some (.builtin "object.__class__")))
   (hn : PySem.W.specialIn K (.builtin "object.__class__") "__get__" = some (some (.builtin "getset_descriptor.__get__"))) (htk : PySem.W.takesIn K (.builtin "object.__class__") = some true)
   (hm : PySem.W.mroIn K C (.type "object") = some true) : Vw K H (.ref a) (.ref C)
theorem isinst_ok {x : V} {u t : Value} (I : Inv X pins σ H s) (rx : Z8 x u) (ty : Vw X.K H x t) (e : PySem.W.kitOne X.K t c = some b) (h : ∀ tk, Q (.bool b) { s with toks := tk }) :
  wpAny (model X.prog X.w) A (call (.builtin "isinstance") [u, c]) Q E s := by
 cases ty with
 | non => cases (show u = Value.none from rx); exact PySem.W.kia_one PySem.W.kitx_none I.kIn True.intro e (fun z => nomatch z) h
 | bl y => cases (show u = Value.bool y from rx); exact PySem.W.kia_one PySem.W.kitx_bool I.kIn True.intro e (fun z => nomatch z) h
 | int i => obtain ⟨t, q⟩ := (show ∃ t, u = Value.int i t from rx); cases q; exact PySem.W.kia_one PySem.W.kitx_int I.kIn True.intro e (fun z => nomatch z) h
 | str y => obtain ⟨t, q⟩ := (show ∃ t, u = Value.str y t from rx); cases q; exact PySem.W.kia_one PySem.W.kitx_str I.kIn True.intro e (fun z => nomatch z) h
 | flt y => obtain ⟨t, q⟩ := (show ∃ t, u = Value.float y t from rx); cases q; exact PySem.W.kia_one PySem.W.kitx_float I.kIn True.intro e (fun z => nomatch z) h
 | @lst a xs ea =>
  cases (show u = Value.ref a from rx)
  obtain ⟨_, _, n, _, h1⟩ := (show Y6 X.prog X.w H s.heap a (.lst xs) from I.hok a _ ea)
  exact PySem.W.kia_one PySem.W.kitx_list I.kIn ⟨_, h1, rfl⟩ e (fun z => nomatch z) h
 | @frz a ob xs ea =>
  cases (show u = Value.ref a from rx)
  obtain ⟨_, _, _, n, _, h1⟩ := (show Y6 X.prog X.w H s.heap a (.frz ob (.lst xs)) from I.hok a _ ea)
  exact PySem.W.kia_one PySem.W.kitx_list I.kIn ⟨_, h1, rfl⟩ e (fun z => nomatch z) h
 | @tup a xs ea =>
  cases (show u = Value.ref a from rx)
  obtain ⟨_, _, _, p⟩ := (show Y6 X.prog X.w H s.heap a (.tup xs) from I.hok a _ ea)
  obtain ⟨o, h1, h2, _⟩ := p
  exact PySem.W.kia_one PySem.W.kitx_tuple I.kIn ⟨o, h1, h2⟩ e (fun z => nomatch z) h
 | @dK a kvs ea =>
  cases (show u = Value.ref a from rx)
  obtain ⟨_, _, vs, _, p⟩ := (show Y6 X.prog X.w H s.heap a (.dK kvs) from I.hok a _ ea)
  obtain ⟨o, es, ep, h1, h2, _⟩ := p
  exact PySem.W.kia_one PySem.W.kitx_dict I.kIn ⟨o, h1, h2.1⟩ e (fun z => nomatch z) h
 | @dT a kvs ea =>
  cases (show u = Value.ref a from rx)
  obtain ⟨_, _, xs, _, o, es, ep, h1, h2, _⟩ := (show Y6 X.prog X.w H s.heap a (.dT kvs) from I.hok a _ ea)
  exact PySem.W.kia_one PySem.W.kitx_dict I.kIn ⟨o, h1, h2.1⟩ e (fun z => nomatch z) h
 | @ins a C dx fs ea cl ha hn htk hm =>
  cases (show u = Value.ref a from rx)
  obtain ⟨mA, O, _⟩ := UU I.hok ea
  obtain ⟨od, J, _⟩ := O.look
  exact PySem.W.kia_one (PySem.W.kitx_own (cl.get _) cl.hd ha hn htk hm) I.kIn J e (fun z => nomatch z) h
end
structure Y0 (k : Nat) (A : Around) : Prop where
 hd : A.handled = none
 dp : A.depth + 3 * k + 5 < recursionLimit
 un : A.units + 16 * k + 200 < cLine
theorem Y0.mono {j k : Nat} {A : Around} (r : Y0 k A) (h : j ≤ k) : Y0 j A := ⟨r.hd, by have := r.dp; omega, by have := r.un; omega⟩
theorem Y0.deeper {k : Nat} {A : Around} (r : Y0 (k + 1) A) (env : Env) : Y0 k (A.deeper env) :=
 ⟨r.hd, by have := r.dp; show A.depth + 1 + 3 * k + 5 < _; omega, by have := r.un; show A.units + 3 + 16 * k + 200 < _; omega⟩
theorem vo {A : Around} {C : Addr} {us : List Value} {kw : List (Str × Value)} : (A.under (.builtin "type.__call__" ⟨.ref C :: us, kw⟩)).depth = A.depth + 1 := by
 first | rfl | simp [Around.under, Code.weight, Code.isCreation, Code.isGuard, Code.isCaller, Code.frames, Code.isFrame, guardIds]
theorem xZ {A : Around} {C : Addr} {us : List Value} {kw : List (Str × Value)} : (A.under (.builtin "type.__call__" ⟨.ref C :: us, kw⟩)).units = A.units + 1 := by
 first | rfl | simp [Around.under, Code.cUnits, Code.frames, Code.isFrame]
theorem Y0.make {k : Nat} {A : Around} (r : Y0 (k + 1) A) (C : Addr) (us : List Value) (kw : List (Str × Value)) : Y0 k (A.under (.builtin "type.__call__" ⟨.ref C :: us, kw⟩)) :=
 ⟨r.hd, by have := r.dp; rw [vo]; omega, by have := r.un; rw [xZ]; omega⟩
theorem Y0.depth {k : Nat} {A : Around} (r : Y0 k A) : A.depth < recursionLimit := by have := r.dp; omega
theorem Y0.units {k : Nat} {A : Around} (r : Y0 k A) : A.units + 64 < cLine := by have := r.un; omega
def tNil : TA := fun _ H Q => Q [] H
def tCons (ta : TE) (tr : TA) : TA := fun σ H Q => ta σ H fun x H1 => tr σ H1 fun xs H2 => Q (x :: xs) H2
section
variable {X : Cx} {e : Expr} {es : List Expr} {te : TE} {t : TA} {pos : Pos}
theorem Zc : PA X [] tNil := fun _ _ _ _ H Q I h => Calls.spliced_nil ⟨[], H, I, .nil, h⟩
theorem Za (ha : PE X e te) (hr : PA X es t) (hs : starEach (e :: es) X.env = (false, eval e X.env) :: starEach es X.env := by rfl) : PA X (e :: es) (tCons te t) := by
 intro pos pins s σ H Q I h
 rw [hs]
 show wpAny _ _ (spliced ((false, eval e X.env) :: backTo pos (starEach es X.env))) _ _ s
 refine Calls.spliced_cons (thn (ha pins s σ H _ I h) fun u s1 ⟨x, H1, I1, r1, q1⟩ => ?_)
 exact thn (hr pos pins s1 σ H1 _ I1 q1) fun us s2 ⟨xs, H2, I2, r2, q2⟩ => ⟨x :: xs, H2, I2, .cons r1 r2, q2⟩
inductive NewR (xs : List V) (o : HO) (H : Hp) (Q : VK) : Prop
 | mk (z : xs.length ≤ sizeLine) (k : ∀ p, H p = none → Q (.ref p) (upd H p o)) : NewR xs o H Q
def tTup (t : TA) : TE := fun σ H Q => t σ H fun xs H1 => NewR xs (.tup xs) H1 Q
def tLst (t : TA) : TE := fun σ H Q => t σ H fun xs H1 => NewR xs (.lst xs) H1 Q
theorem pe_tup {x1} (h : PA X es t) : PE X (.Tuple es x1 pos) (tTup t) := by
 intro pins s σ H Q I hq
 refine wpAny_Tuple_spliced (thn (h pos pins s σ H _ I hq) fun us s1 ⟨xs, H1, I1, r, z, q⟩ => ⟨by rw [← r.length]; exact z, ?_⟩)
 have hf : H1 s1.heap.objs.size = none := I1.hok.fresh (Nat.le_refl _)
 refine ⟨.ref s1.heap.objs.size, upd H1 s1.heap.objs.size (.tup xs), I1.laid (t' := s1.toks) (fun b u e => Heap.get?_push_of_some _ e) (Nat.le_refl _) ?_, rfl, q _ hf⟩
 exact ⟨z, us, r, ⟨_, Heap.get?_push_size _ rfl, rfl, _, rfl⟩⟩
theorem Z0 (h : PA X es t) : PE X (.List es pos) (tLst t) := by
 intro pins s σ H Q I hq
 refine wpAny_List_spliced (thn (h pos pins s σ H _ I hq) fun us s1 ⟨xs, H1, I1, r, z, q⟩ => ⟨by rw [← r.length]; exact z, ?_⟩)
 have hf : H1 s1.heap.objs.size = none := I1.hok.fresh (Nat.le_refl _)
 refine ⟨.ref s1.heap.objs.size, upd H1 s1.heap.objs.size (.lst xs), I1.laid (t' := s1.toks) (fun b u e => Heap.get?_push_of_some _ e) (Nat.le_refl _) ?_, rfl, q _ hf⟩
 exact ⟨z, us, 0, r, Heap.get?_push_size _ rfl⟩
end
abbrev Sp := List V → Hp → VK → XK → Prop
abbrev CXT := List Env → Hp → Shared → XK → Value → Shared → Prop
structure Env0 (P : Program) (w : World) (K : PySem.W.Frag) (mg : Str → Option Value) (base : Heap) (A : Around) (outer : List Env) (s : Shared) (H : Hp) : Prop where
 frames : A.frames = some outer
 mod : Mod K mg base
 bs : ∀ b o, base.get? b = some o → s.heap.get? b = some o ∧ H b = none
 bsz : base.objs.size ≤ s.heap.objs.size
 funs : s.heap.FunFrames base outer
 frf : ∀ b ∈ frs outer, H b = none
 hok : HOk P w H s.heap
 bare : AllBare s.gens
def CE (outer : List Env) (P : Program) (w : World) (H : Hp) (s : Shared) (Q : VK) (u : Value) (s' : Shared) : Prop :=
 ∃ v H', s'.os = s.os ∧ AllBare s'.gens ∧ Un (frs outer) [] H H' s.heap s'.heap ∧ HOk P w H' s'.heap ∧ Z8 v u ∧ Q v H'
def CR (CX : CXT) (outer : List Env) (P : Program) (w : World) (H : Hp) (s : Shared) (Q : VK) (E : XK) (r : Result) (s' : Shared) : Prop :=
 match r with
 | .ok (.ret u) => CE outer P w H s Q u s'
 | .ok _ => False
 | .error e => CX outer H s E e s'
structure Yr (P : Program) (w : World) (K : PySem.W.Frag) (mg : Str → Option Value) (base : Heap) (CX : CXT) (k : Nat) (f : Addr) (fd : FuncData) (ps : List Str) (sp : Sp) : Prop where
 len : ∀ vs H Q E, sp vs H Q E → vs.length = ps.length
 run : ∀ (A : Around) (outer : List Env) (s : Shared) (H : Hp) (args : Args) (us : List Value) (vs : List V) (Q : VK) (E : XK), Y0 k A → Env0 P w K mg base A outer s H → BindsTo s fd args (ps.zip us) → Zx vs us → sp vs H Q E →
  codeAny (model P w) A (.call (.ref f) args) (CR CX outer P w H s Q E) s
theorem Env0.make {P : Program} {w : World} {K : PySem.W.Frag} {mg : Str → Option Value} {base : Heap} {A : Around} {outer : List Env} {s : Shared} {H : Hp} (e : Env0 P w K mg base A outer s H) (C : Addr) (us : List Value) (kw : List (Str × Value)) :
  Env0 P w K mg base (A.under (.builtin "type.__call__" ⟨.ref C :: us, kw⟩)) outer s H := ⟨by first | exact e.frames | (simpa [Around.under, Code.envs, Code.isFrame, pushEnvs] using e.frames), e.mod, e.bs, e.bsz, e.funs, e.frf, e.hok, e.bare⟩
section
variable {X : Cx} {pins : List (Addr × Obj)} {σ : St} {H : Hp} {s s' : Shared}
theorem Inv.env0 (I : Inv X pins σ H s) : Env0 X.prog X.w X.K X.mg X.base X.A X.stack s H :=
 ⟨I.ok.frames, I.ok.mod, I.bs, Nat.le_trans I.ok.bsz I.sz, I.stack, I.stkFree, I.hok, I.bare⟩
theorem Inv.after {Q : VK} {u : Value} (I : Inv X pins σ H s) (h : CE X.stack X.prog X.w H s Q u s') : EP X pins σ Q u s' := by
 obtain ⟨v, H', os, bare, un, hok, r, q⟩ := h
 obtain ⟨hh, g, d, t, os'⟩ := s'
 obtain rfl : os' = s.os := os
 exact ⟨v, H', I.call (h' := hh) (g' := g) (d' := d) (t' := t) (ch := []) un hok bare (fun b z => absurd z (by simp)), r, q⟩
end
def tCall (sp : Sp) (dvs : List V) (E : XK) (t : TA) : TE := fun σ H Q => t σ H fun vs H1 => sp (vs ++ dvs) H1 Q E
inductive MethR (C : Addr) (m : Str) (x : V) (H : Hp) (B : Prop) : Prop
 | mk (a dx : Addr) (fs : List (Str × V)) (h1 : x = .ref a) (h2 : H a = some (.ins C dx fs)) (h3 : fs.lookup m = none) (k : B) : MethR C m x H B
def tMeth (C : Addr) (m : Str) (sp : Sp) (dvs : List V) (E : XK) (ta : TE) (t : TA) : TE := fun σ H Q => ta σ H fun x H1 => MethR C m x H1 (t σ H1 fun vs H2 => sp (x :: (vs ++ dvs)) H2 Q E)
def tMake (C : Addr) (sp : Sp) (dvs : List V) (E : XK) (t : TA) : TE := fun σ H Q => t σ H fun vs H1 => ∀ x dx, H1 x = none → H1 dx = none → dx ≠ x →
 sp (.ref x :: (vs ++ dvs)) (upd (upd H1 dx (.own x)) x (.ins C dx [])) (fun v H2 => v = .non ∧ Q (.ref x) H2) E
def Z6 (K : PySem.W.Frag) (fd : FuncData) (ps : List Str) (ds : List Value) : Prop :=
 ∀ (s : Shared) (us : List Value), K.In s.heap → (us ++ ds).length = ps.length → BindsTo s fd ⟨us, []⟩ (ps.zip (us ++ ds))
theorem Z6.all {K : PySem.W.Frag} {fd : FuncData} {ps : List Str} (h : ∀ us : List Value, us.length = ps.length → bindArgs fd ⟨us, []⟩ = pure (ps.zip us)) : Z6 K fd ps [] := fun s us _ hl => by
 rw [List.append_nil] at hl ⊢
 exact .of_eq (h us hl)
def Wr (CX : CXT) (X : Cx) (E : XK) : Prop := ∀ (pins : List (Addr × Obj)) (σ : St) (H : Hp) (s : Shared) (e : Value) (s' : Shared), Inv X pins σ H s → CX X.stack H s E e s' → X.xe e s'
section
variable {X : Cx} {CX : CXT} {k : Nat} {f C : Addr} {fd : FuncData} {ps : List Str} {sp : Sp} {dvs : List V} {ds : List Value} {E : XK} {x m : Str} {p pos apos : Pos} {e o : Expr} {es : List Expr} {ta : TE} {t : TA}
theorem run_fn {pins : List (Addr × Obj)} {σ : St} {H : Hp} {s : Shared} {Q : VK} {us : List Value} {vs : List V} (F : Yr X.prog X.w X.K X.mg X.base CX k f fd ps sp) (hr : Y0 k X.A) (hb : Z6 X.K fd ps ds) (hd : Zx dvs ds) (hx : Wr CX X E)
  (I : Inv X pins σ H s) (r : Zx vs us) (h : sp (vs ++ dvs) H Q E) : wpAny (model X.prog X.w) X.A (call (.ref f) us) (EP X pins σ Q) X.xe s := by
 have r2 : Zx (vs ++ dvs) (us ++ ds) := r.append hd
 have hl : (us ++ ds).length = ps.length := by rw [← r2.length]; exact F.len _ _ _ _ h
 refine wpAny_call (codeAny_mono (F.run X.A X.stack s H ⟨us, []⟩ (us ++ ds) (vs ++ dvs) Q E hr I.env0 (hb s us I.kIn hl) r2 h) fun r s' hq => ?_)
 cases r with
 | error e => exact hx pins σ H s e s' I hq
 | ok fl =>
  cases fl with
  | ret u => exact I.after hq
  | next => exact False.elim hq
  | brk => exact False.elim hq
  | cont => exact False.elim hq
theorem Zm (F : Yr X.prog X.w X.K X.mg X.base CX k f fd ps sp) (hr : Y0 k X.A) (hg : Gl X x) (hm : X.mg x = some (.ref f)) (hk : PySem.W.keepIn X.K (.ref f) = true) (hb : Z6 X.K fd ps ds) (hd : Zx dvs ds) (hx : Wr CX X E)
  (ha : PA X (e :: es) t) (hdb : (x == ("__debug__" : Str)) = false := by decide) (he : starEach (e :: es) X.env = (false, eval e X.env) :: starEach es X.env := by rfl) (hpl : (backTo pos (starEach es X.env)).any (·.1) = false := by rfl) :
  PE X (.Call (.Name x p) (e :: es) [] pos) (tCall sp dvs E t) := by
 intro pins s σ H Q I h
 refine wpAny_Call_Name_kw (W7 I hg hm ?_ hdb)
 refine PySem.W.callWith_K (h₀ := X.base) I.ok.mod.kin hk (thn (ha pos pins s σ H _ I h) fun us s1 ⟨vs, H1, I1, r, q⟩ => ⟨I1.kIn, ?_⟩) he hpl
 exact run_fn F hr hb hd hx I1 r q
theorem pe_meth {pl : Sem Bool} (he : PE X o ta) (c : Cls X.K C) (hm : Meth X.K C m f) (F : Yr X.prog X.w X.K X.mg X.base CX k f fd ps sp) (hr : Y0 k X.A) (hb : Z6 X.K fd ps ds) (hd : Zx dvs ds) (hx : Wr CX X E) (ha : PA X (e :: es) t)
  (hst : starEach (e :: es) X.env = (false, eval e X.env) :: starEach es X.env := by rfl) (hpl : (backTo pos (starEach es X.env)).any (·.1) = false := by rfl)
  (ht : eval (.Call (.Attribute o m apos) (e :: es) [] pos) X.env = (do
   let ov ← eval o X.env
   standAt apos.atName
   let (f, first) ← holding [ov] (getMethod ov m pl)
   callWith pos f first (backTo pos (starEach (e :: es) X.env)) (backToKw pos (keywordEach [] X.env))) := by rfl) :
  PE X (.Call (.Attribute o m apos) (e :: es) [] pos) (tMeth C m sp dvs E ta t) := by
 intro pins s σ H Q I h
 refine PySem.W.methodCall_KW (pl := pl) (thn (he pins s σ H _ I h) fun u s1 ⟨x, H1, I1, rx, a, dx, fs, ex, ea, l, q⟩ => ?_) ht
 subst ex
 obtain rfl : u = Value.ref a := rx
 refine Vt I1 ea c hm l ?_
 refine PySem.W.callWith_K (first := [.ref a]) (h₀ := X.base) I.ok.mod.kin hm.kp (thn (ha pos pins s1 σ H1 _ I1 q) fun us s2 ⟨vs, H2, I2, r, q2⟩ => ⟨I2.kIn, ?_⟩) hst hpl
 exact run_fn (us := .ref a :: us) (vs := .ref a :: vs) F hr hb hd hx I2 (.cons rfl r) q2
theorem VN {pl : Sem Bool} (he : PE X o ta) (c : Cls X.K C) (hm : Meth X.K C m f) (F : Yr X.prog X.w X.K X.mg X.base CX k f fd ps sp) (hr : Y0 k X.A) (hb : Z6 X.K fd ps ds) (hd : Zx dvs ds) (hx : Wr CX X E)
  (ht : eval (.Call (.Attribute o m apos) [] [] pos) X.env = (do
   let ov ← eval o X.env
   standAt apos.atName
   let (f, first) ← holding [ov] (getMethod ov m pl)
   callWith pos f first (backTo pos (starEach [] X.env)) (backToKw pos (keywordEach [] X.env))) := by rfl) :
  PE X (.Call (.Attribute o m apos) [] [] pos) (tMeth C m sp dvs E ta tNil) := by
 intro pins s σ H Q I h
 refine PySem.W.methodCall_KW (pl := pl) (thn (he pins s σ H _ I h) fun u s1 ⟨x, H1, I1, rx, a, dx, fs, ex, ea, l, q⟩ => ?_) ht
 subst ex
 obtain rfl : u = Value.ref a := rx
 refine Vt I1 ea c hm l ?_
 exact PySem.W.callWith_K0 (first := [.ref a]) I1.kIn hm.kp (run_fn (us := [.ref a]) (vs := [.ref a]) F hr hb hd hx I1 (.cons rfl .nil) q)
structure Mk (K : PySem.W.Frag) (C f : Addr) : Prop where
 makes : PySem.W.makesIn K C = true
 init : PySem.W.findIn K (.ref C) "__init__" = some (some (.ref f))
 fn : PySem.W.isFn K (.ref f) = true
 kp : PySem.W.keepIn K (.ref C) = true
theorem run_make {pins : List (Addr × Obj)} {σ : St} {H : Hp} {s : Shared} {Q : VK} {us : List Value} {vs : List V} (M : Mk X.K C f) (F : Yr X.prog X.w X.K X.mg X.base CX k f fd ps sp) (hr : Y0 (k + 1) X.A) (hb : Z6 X.K fd ps ds) (hd : Zx dvs ds)
  (hx : Wr CX X E) (I : Inv X pins σ H s) (r : Zx vs us)
  (h : ∀ x dx, H x = none → H dx = none → dx ≠ x → sp (.ref x :: (vs ++ dvs)) (upd (upd H dx (.own x)) x (.ins C dx [])) (fun v H2 => v = .non ∧ Q (.ref x) H2) E) :
  wpAny (model X.prog X.w) X.A (call (.ref C) us) (EP X pins σ Q) X.xe s := by
 have hq := h (s.heap.objs.size + 1) s.heap.objs.size (I.hok.fresh (Nat.le_succ _)) (I.hok.fresh (Nat.le_refl _)) (Nat.ne_of_lt (Nat.lt_succ_self _))
 have I2 := Inv.made (C := C) I
 have r2 : Zx (V.ref (s.heap.objs.size + 1) :: (vs ++ dvs)) (Value.ref (s.heap.objs.size + 1) :: (us ++ ds)) := .cons rfl (r.append hd)
 have hl : (Value.ref (s.heap.objs.size + 1) :: us ++ ds).length = ps.length := by
  have e := r2.length
  rw [F.len _ _ _ _ hq] at e
  exact e.symm
 refine wpAny_call (make_map (f := f) I.kIn M.makes M.init (beq_iff_eq.mp M.fn) (codeAny_mono (F.run _ X.stack _ _ ⟨Value.ref (s.heap.objs.size + 1) :: us, []⟩ (Value.ref (s.heap.objs.size + 1) :: (us ++ ds)) _ _ E (hr.make C us [])
  (I2.env0.make C us []) (hb _ (Value.ref (s.heap.objs.size + 1) :: us) I2.kIn hl) r2 hq) fun r s' hq' => ?_))
 cases r with
 | error e => exact hx pins σ _ _ e s' I2 hq'
 | ok fl =>
  cases fl with
  | ret u =>
   obtain ⟨v, H', I3, rv, ev, q3⟩ := I2.after hq'
   subst ev
   exact ⟨rv, ⟨V.ref (s.heap.objs.size + 1), H', I3, rfl, q3⟩⟩
  | next => exact False.elim hq'
  | brk => exact False.elim hq'
  | cont => exact False.elim hq'
theorem pe_make (M : Mk X.K C f) (F : Yr X.prog X.w X.K X.mg X.base CX k f fd ps sp) (hr : Y0 (k + 1) X.A) (hg : Gl X x) (hm : X.mg x = some (.ref C)) (hb : Z6 X.K fd ps ds) (hd : Zx dvs ds) (hx : Wr CX X E)
  (ha : PA X (e :: es) t) (hdb : (x == ("__debug__" : Str)) = false := by decide) (he : starEach (e :: es) X.env = (false, eval e X.env) :: starEach es X.env := by rfl) (hpl : (backTo pos (starEach es X.env)).any (·.1) = false := by rfl) :
  PE X (.Call (.Name x p) (e :: es) [] pos) (tMake C sp dvs E t) := by
 intro pins s σ H Q I h
 refine wpAny_Call_Name_kw (W7 I hg hm ?_ hdb)
 refine PySem.W.callWith_K (h₀ := X.base) I.ok.mod.kin M.kp (thn (ha pos pins s σ H _ I h) fun us s1 ⟨vs, H1, I1, r, q⟩ => ⟨I1.kIn, ?_⟩) he hpl
 exact run_make M F hr hb hd hx I1 r q
end
section
variable {X : Cx} {CX : CXT} {k : Nat} {f C : Addr} {fd : FuncData} {ps ks : List Str} {sp : Sp} {E : XK} {x m : Str} {p pos apos kpos : Pos} {e o : Expr} {es : List Expr} {kws : List Keyword} {te ta : TE} {t tk : TA} {nm : Option Str}
structure KBinds (K : PySem.W.Frag) (fd : FuncData) (ps ks : List Str) (g : List Value → List Value → List Value) (gV : List V → List V → List V) : Prop where
 to : ∀ (s : Shared) (us ws : List Value), K.In s.heap → (g us ws).length = ps.length → BindsTo s fd ⟨us, ks.zip ws⟩ (ps.zip (g us ws))
 rel : ∀ {vs : List V} {us : List Value} {zs : List V} {ws : List Value}, Zx vs us → Zx zs ws → Zx (gV vs zs) (g us ws)
variable {g : List Value → List Value → List Value} {gV : List V → List V → List V}
end
structure ZD (N P : List Str) (sc : Scope) : Prop where
 kind : sc.kind = .function
 co : sc.isCoroutine = false
 gen : sc.isGenerator = false
 nd : N.Nodup
 pre : N.take P.length = P
 par : ∀ x ∈ P, sc.names.lookup x = some .local ∨ sc.names.lookup x = some .cell
 nofree : ∀ y ∈ sc.names, y.2 ≠ .free
theorem zI {kindOf : Str → Option NameKind} {x : Str} : ∀ {binds : List (Str × Value)} {m : Str → Option Value}, (∀ v, (x, v) ∉ binds) → bindL kindOf binds m x = m x
 | [], _, _ => rfl
 | (n, v) :: r, m, h => by
  unfold bindL
  rw [zI fun w hw => h w (List.mem_cons_of_mem _ hw)]
  split
  ·have : x ≠ n := by rintro rfl; exact h v List.mem_cons_self
   simp [this]
  ·rfl
theorem zt {kindOf : Str → Option NameKind} {x : Str} : ∀ {binds : List (Str × Value)} {m : Str → Option Value}, (∀ v, (x, v) ∉ binds) → bindC kindOf binds m x = m x
 | [], _, _ => rfl
 | (n, v) :: r, m, h => by
  unfold bindC
  rw [zt fun w hw => h w (List.mem_cons_of_mem _ hw)]
  split
  ·rfl
  ·have : x ≠ n := by rintro rfl; exact h v List.mem_cons_self
   simp [this]
theorem zx {kindOf : Str → Option NameKind} {x : Str} {v : Value} : ∀ {P : List Str} {vs : List Value} {i : Nat} {m : Str → Option Value}, P.Nodup → P[i]? = some x → vs[i]? = some v → kindOf x = some .local →
  bindL kindOf (P.zip vs) m x = some v
 | [], _, _, _, _, h, _, _ => by simp at h
 | _ :: _, [], _, _, _, _, h, _ => by simp at h
 | p :: P, w :: vs, 0, m, nd, h1, h2, hk => by
  simp at h1 h2; subst h1; subst h2
  show bindL kindOf ((p, w) :: P.zip vs) m p = _
  unfold bindL
  rw [zI fun v hv => (List.nodup_cons.mp nd).1 (List.of_mem_zip hv).1, if_pos hk]
  simp
 | p :: P, w :: vs, i + 1, m, nd, h1, h2, hk => by
  show bindL kindOf ((p, w) :: P.zip vs) m x = _
  unfold bindL
  exact zx (i := i) (List.nodup_cons.mp nd).2 (by simpa using h1) (by simpa using h2) hk
theorem zy {kindOf : Str → Option NameKind} {x : Str} {v : Value} : ∀ {P : List Str} {vs : List Value} {i : Nat} {m : Str → Option Value}, P.Nodup → P[i]? = some x → vs[i]? = some v → kindOf x ≠ some .local →
  bindC kindOf (P.zip vs) m x = some v
 | [], _, _, _, _, h, _, _ => by simp at h
 | _ :: _, [], _, _, _, _, h, _ => by simp at h
 | p :: P, w :: vs, 0, m, nd, h1, h2, hk => by
  simp at h1 h2; subst h1; subst h2
  show bindC kindOf ((p, w) :: P.zip vs) m p = _
  unfold bindC
  rw [zt fun v hv => (List.nodup_cons.mp nd).1 (List.of_mem_zip hv).1, if_neg hk]
  simp
 | p :: P, w :: vs, i + 1, m, nd, h1, h2, hk => by
  show bindC kindOf ((p, w) :: P.zip vs) m x = _
  unfold bindC
  exact zy (i := i) (List.nodup_cons.mp nd).2 (by simpa using h1) (by simpa using h2) hk
def V3 (N : List Str) (vs : List V) : St := vs.map some ++ List.replicate (N.length - vs.length) none
def VL (CX : CXT) (P : Program) (w : World) (K : PySem.W.Frag) (mg : Str → Option Value) (base : Heap) (N : List Str) (qual : Str) (scope : Scope) (f : Addr) (cd : Value) (A : Around) (outer : List Env) (s : Shared) (H : Hp) (E : XK) : Cx where
 prog := P
 w := w
 K := K
 mg := mg
 base := base
 A := A.deeper (envOfC qual scope s.heap.objs.size f cd)
 N := N
 s₀ := s
 H₀ := H
 env := envOfC qual scope s.heap.objs.size f cd
 outer := outer
 stack := envOfC qual scope s.heap.objs.size f cd :: outer
 ex := []
 calm := true
 fn := fun _ => true
 pn := []
 xe := fun e s' => wpAny (model P w) (A.deeper (envOfC qual scope s.heap.objs.size f cd)) (leaving (envOfC qual scope s.heap.objs.size f cd) e) (fun _ s'' => CX outer H s E e s'') (fun e' s'' => CX outer H s E e' s'') s'
theorem xk {sc : Scope} {n : Nat} {x : Str} (h : sc.names.lookup x = some .cell) : ∃ c, (cellsFrom n sc.names []).lookup x = some c := by
 have q := PySem.W.cellsFrom_some sc.names n [] (.inl h)
 exact Option.isSome_iff_exists.mp q
theorem inv_start {CX : CXT} {P : Program} {w : World} {K : PySem.W.Frag} {mg : Str → Option Value} {base : Heap} {N ps : List Str} {qual : Str} {scope : Scope} {f : Addr} {cd : Value} {A : Around} {outer : List Env} {s s1 : Shared} {H : Hp} {E : XK} {us : List Value} {vs : List V}
  (S : ZD N ps scope) (hd : A.handled = none) (e0 : Env0 P w K mg base A outer s H) (hl : vs.length = ps.length) (r : Zx vs us)
  (x : InCallC s s.heap.objs.size (bindL (envOfC qual scope s.heap.objs.size f cd).kindOf (ps.zip us) fun _ => none) (cellsFrom (s.heap.objs.size + 1) scope.names []) (bindC (envOfC qual scope s.heap.objs.size f cd).kindOf (ps.zip us) fun _ => none) s1) :
  Inv (VL CX P w K mg base N qual scope f cd A outer s H E) [] (V3 N vs) H s1 := by
 have hpl : ps.length ≤ N.length := by have := congrArg List.length S.pre; rw [List.length_take] at this; omega
 obtain ⟨h1, tk, rfl, hk⟩ := x.done
 have noA : ∀ b : Addr, b ∉ (VL CX P w K mg base N qual scope f cd A outer s H E).ex := fun b z => absurd (show b ∈ ([] : List Addr) from z) (by simp)
 refine ⟨⟨e0.mod, S.kind, rfl, rfl, Nat.le_refl _, fun y z c h1 h2 => ?_, fun y hy => ?_, fun y c _ h => ?_, fun _ => hd, Around.frames_deeper e0.frames, .inr ⟨rfl, rfl⟩, fun b z => absurd z (noA b), e0.bs, e0.bsz, fun b _ _ => noA b, fun b z => absurd z (noA b), e0.funs, e0.frf⟩,
  rfl, e0.bare, Un.kept hk, ⟨_, x.toInCall.ns, fun i y v h1 h2 h3 => ?_⟩, fun y c h => ⟨_, x.cell y c h⟩, e0.hok.fresh (Nat.le_refl _), fun y c h => ?_, fun p hp => absurd (show p ∈ ([] : List (Addr × Obj)) from hp) (by simp), e0.hok.kept hk, ?_⟩
 ·exact name_of_addr x.apart (PySem.mem_of_lookup h1) (PySem.mem_of_lookup h2)
 ·have hy : scope.names.lookup y = some .cell ∨ scope.names.lookup y = some .free := hy
  rcases hy with hy | hy
  ·exact xk hy
  ·exact absurd rfl (S.nofree _ (PySem.mem_of_lookup hy))
 ·exact Nat.le_of_lt (x.above y c (PySem.mem_of_lookup h))
 ·have hi : i < vs.length := by
   unfold V3 at h2
   by_cases hi : i < vs.length
   ·exact hi
   ·rw [List.getElem?_append_right (by simpa using hi)] at h2
    rw [List.getElem?_replicate] at h2
    split at h2 <;> cases h2
  have ha : vs[i]? = some v := by
   unfold V3 at h2
   rw [List.getElem?_append_left (by simpa using hi), List.getElem?_map] at h2
   cases e : vs[i]? with
   | none => rw [e] at h2; cases h2
   | some a => rw [e] at h2; cases h2; rfl
  obtain ⟨u, hu, rv⟩ := r.get ha
  have hp : ps[i]? = some y := by
   rw [← S.pre, List.getElem?_take_of_lt (by omega)]; exact h1
  have ndP : ps.Nodup := by rw [← S.pre]; exact S.nd.sublist (List.take_sublist _ _)
  refine ⟨u, rv, ?_⟩
  rcases S.par y (List.mem_of_getElem? hp) with k | k
  ·exact .inl ⟨k, zx ndP hp hu k⟩
  ·obtain ⟨c, e⟩ := xk (n := s.heap.objs.size + 1) k
   refine .inr ⟨.inl k, c, e, ?_⟩
   have q := x.cell y c e
   rw [zy ndP hp hu (by show scope.names.lookup y ≠ _; rw [k]; decide)] at q
   exact q
 ·exact e0.hok.fresh (Nat.le_of_lt (x.above y c (PySem.mem_of_lookup h)))
 ·unfold V3
  show _ = N.length
  rw [List.length_append, List.length_map, List.length_replicate]
  omega
theorem fn_of {CX : CXT} {P : Program} {w : World} {K : PySem.W.Frag} {mg : Str → Option Value} {base : Heap} {k : Nat} {f : Addr} {name qual : Str} {params : Arguments} {body : List Stmt} {scope : Scope} {dV kV doc pm cdv ct oc : Value} {an od : Option Addr}
  {osl : Array (Option Value)} {N ps : List Str} {sp : Sp} (lk : K.lookup f = some ⟨oc, od, .func (PySem.W.fnOf name qual params body scope dV kV doc pm an cdv ct), osl⟩) (hcd : PySem.W.codeIn K cdv qual = true) (S : ZD N ps scope)
  (len : ∀ vs H Q E, sp vs H Q E → vs.length = ps.length)
  (hbody : ∀ (A : Around) (outer : List Env) (s : Shared) (H : Hp) (vs : List V) (Q : VK) (E : XK), Y0 k (A.deeper (envOfC qual scope s.heap.objs.size f cdv)) → sp vs H Q E →
   ∃ t, PSs (VL CX P w K mg base N qual scope f cdv A outer s H E) body t ∧ t { nx := fun _ H' => Q .non H', rt := Q } (V3 N vs) H) :
  Yr P w K mg base CX (k + 1) f (PySem.W.fnOf name qual params body scope dV kV doc pm an cdv ct) ps sp := by
 refine ⟨len, fun A outer s H args us vs Q E hr e0 hb r hsp => ?_⟩
 have hl := len _ _ _ _ hsp
 have KX : K.In s.heap := e0.mod.kin.keeps fun b o e => (e0.bs b o e).1
 have lim : s.heap.NoLimit := e0.mod.nolimit.keeps fun b o e => (e0.bs b o e).1
 have hkind : ∀ y ∈ ps.zip us, scope.names.lookup y.1 = some .local ∨ (scope.names.lookup y.1 = some .cell ∧ ((cellsFrom (s.heap.objs.size + 1) scope.names []).lookup y.1).isSome = true) := fun ⟨n, v⟩ hy => by
  rcases S.par n (List.of_mem_zip hy).1 with q | q
  ·exact .inl q
  ·exact .inr ⟨q, PySem.W.cellsFrom_some _ _ _ (.inl q)⟩
 refine codeAny_call_function hr.depth (KX _ _ lk) rfl S.co S.gen rfl (PySem.W.codeRec_of KX hcd) (hb _ _ _ _ ?_)
 refine wpAny_newFunctionEnv_cells S.kind hkind fun env he s1 x => ?_
 subst he
 refine ⟨lim.keeps x.toInCall.keep, codeAny_func ?_⟩
 obtain ⟨t, ht, hq⟩ := hbody A outer s H vs Q E (hr.deeper _) hsp
 have I : Inv (VL CX P w K mg base N qual scope f cdv A outer s H E) [] (V3 N vs) H s1 := inv_start S hr.hd e0 hl r x
 refine wpAny_mono (ht [] s1 (V3 N vs) H _ I hq) (fun fl s' hs => ?_) fun e s' hs => hs
 have fin : ∀ {σ' : St} {H' : Hp} {v : V} {u : Value}, Inv (VL CX P w K mg base N qual scope f cdv A outer s H E) [] σ' H' s' → Z8 v u → Q v H' → CE outer P w H s Q u s' :=
  fun {σ' H' v u} J rv q => ⟨v, H', J.os, J.bare, J.base, J.hok, rv, q⟩
 cases fl with
 | ret u =>
  obtain ⟨v, σ', H', J, rv, q⟩ := hs
  exact fin J rv q
 | next =>
  obtain ⟨σ', H', J, q⟩ := hs
  exact fin (v := V.non) (u := Value.none) J rfl q
 | brk =>
  obtain ⟨_, _, _, q⟩ := hs
  exact False.elim q
 | cont =>
  obtain ⟨_, _, _, q⟩ := hs
  exact False.elim q
section
variable {X : Cx} {x : Str} {p pos : Pos} {e : Expr} {es : List Expr} {t : TA} {id T : String} {r : List V → Hp → VK → Prop}
def tCB (r : List V → Hp → VK → Prop) (t : TA) : TE := fun σ H Q => t σ H fun vs H1 => r vs H1 Q
theorem Zk (hc : Yy X (.builtin id) r) (hg : Gl X x) (hm : X.mg x = none) (hv : bootBuiltins x = some (.builtin id)) (ha : PA X (e :: es) t) (hn : x ≠ "__name__" := by decide) (hdb : (x == ("__debug__" : Str)) = false := by decide)
  (he : starEach (e :: es) X.env = (false, eval e X.env) :: starEach es X.env := by rfl) (hpl : (backTo pos (starEach es X.env)).any (·.1) = false := by rfl) : PE X (.Call (.Name x p) (e :: es) [] pos) (tCB r t) := by
 intro pins s σ H Q I h
 refine wpAny_Call_Name_kw (Vu I hg hm hv ?_ hn hdb)
 exact PyProof.Rows.callWith_builtin1 (thn (ha pos pins s σ H _ I h) fun us s1 ⟨vs, H1, I1, r1, q1⟩ => hc pins s1 σ H1 vs us Q I1 r1 q1) he hpl
theorem ZZ (hc : Yy X (.type T) r) (hg : Gl X x) (hm : X.mg x = none) (hv : bootBuiltins x = some (.type T)) (ha : PA X (e :: es) t) (hn : x ≠ "__name__" := by decide) (hdb : (x == ("__debug__" : Str)) = false := by decide)
  (he : starEach (e :: es) X.env = (false, eval e X.env) :: starEach es X.env := by rfl) (hpl : (backTo pos (starEach es X.env)).any (·.1) = false := by rfl) : PE X (.Call (.Name x p) (e :: es) [] pos) (tCB r t) := by
 intro pins s σ H Q I h
 refine wpAny_Call_Name_kw (Vu I hg hm hv ?_ hn hdb)
 exact PyProof.Rows.callWith_type1 (thn (ha pos pins s σ H _ I h) fun us s1 ⟨vs, H1, I1, r1, q1⟩ => hc pins s1 σ H1 vs us Q I1 r1 q1) he hpl
end
end L2
namespace HT
open PySem PyProof.Rows
section
open PySem.SeqAt
open PySem.AutoSeq1 (wpAny_loadPart')
open PySem.MeetsSeq PySem.MeetsSeq2 PySem.MeetsSeq3
end
section
variable {prog : Program} {w : World} {A : Around} {E : Value → Shared → Prop} {s : Shared}
def sIx (n d : Nat) : Option Int → Nat
 | none => d
 | some v => if v < 0 then (v + (n : Int)).toNat else min v.toNat n
theorem sIx_none (n d : Nat) : sIx n d none = d := rfl
theorem sIx_nat (n d k : Nat) : sIx n d (some (k : Int)) = min k n := by
 show (if (k : Int) < 0 then ((k : Int) + (n : Int)).toNat else min (k : Int).toNat n) = min k n
 rw [if_neg (by omega), Int.toNat_natCast]
end
end HT
namespace L2
open PySem PySem.Spec PyProof.Rows
abbrev TO := St → Hp → (Option Int → Hp → Prop) → Prop
def PO (X : Cx) (e : Option Expr) (t : TO) : Prop :=
 ∀ (pins : List (Addr × Obj)) (s : Shared) (σ : St) (H : Hp) (Q : Option Int → Hp → Prop), Inv X pins σ H s → t σ H Q →
  wpAny (model X.prog X.w) X.A (evalPart e X.env) (fun u s' => ∃ o H', Inv X pins σ H' s' ∧ IsPart u o ∧ Q o H') X.xe s
def tNoPart : TO := fun _ H Q => Q none H
inductive PartR (x : V) (H : Hp) (Q : Option Int → Hp → Prop) : Prop
 | mk (i : Int) (h : x = .int i) (k : Q (some i) H) : PartR x H Q
def tPart (t : TE) : TO := fun σ H Q => t σ H fun x H1 => PartR x H1 Q
theorem vp {ns : List Int} : ∀ {us : List Value}, Zx (ns.map V.int) us → IntsAre us ns := by
 induction ns with
 | nil => intro us r; rw [List.map_nil] at r; cases r; exact .nil
 | cons n ns ih =>
  intro us r
  rw [List.map_cons] at r
  cases r with
  | cons r1 r2 =>
   obtain ⟨t, e⟩ := r1
   subst e
   exact .cons n t (ih r2)
section
variable {X : Cx} {e : Expr} {te : TE} {lo hi : Option Expr} {tl th : TO} {pos p2 : Pos}
theorem ZT : PO X none tNoPart := by
 intro pins s σ H Q I h
 rw [evalPart_none]
 exact wpAny_pure ⟨none, H, I, .none, h⟩
theorem ZC (h : PE X e te) : PO X (some e) (tPart te) := by
 intro pins s σ H Q I hw
 rw [evalPart_some]
 refine thn (h pins s σ H _ I hw) fun u s1 ⟨x, H1, I1, r1, q1⟩ => ?_
 obtain ⟨i, rfl, q⟩ := q1
 obtain ⟨t, rfl⟩ := r1
 exact ⟨some i, H1, I1, .int i t, q⟩
def SlR (X : Cx) (r : V → Option Int → Option Int → Hp → VK → Prop) : Prop :=
 ∀ (pins : List (Addr × Obj)) (s : Shared) (σ : St) (H : Hp) (x : V) (v vl vu : Value) (lo hi : Option Int) (sl : Addr) (Q : VK), Inv X pins σ H s → Z8 x v → s.heap.IsSliceOf sl vl vu .none → IsPart vl lo → IsPart vu hi → r x lo hi H Q →
  ∃ T id, typeLookup (.type T) "__getitem__" = pure (some (.builtin id)) ∧ s.TypeIs v T ∧ wpAny (model X.prog X.w) X.A (getItem v (.ref sl)) (EP X pins σ Q) X.xe s
def tSl (r : V → Option Int → Option Int → Hp → VK → Prop) (te : TE) (tl th : TO) : TE := fun σ H Q => te σ H fun x H1 => tl σ H1 fun l H2 => th σ H2 fun u H3 => r x l u H3 Q
theorem ZB {r : V → Option Int → Option Int → Hp → VK → Prop} (hr : SlR X r) (he : PE X e te) (hl : PO X lo tl) (hu : PO X hi th) : PE X (.Subscript e (.Slice lo hi none p2) pos) (tSl r te tl th) := by
 intro pins s σ H Q I h
 refine Subscript_ (thn (he pins s σ H _ I h) fun v s1 ⟨x, H1, I1, r1, q1⟩ => ?_)
 refine wpAny_Slice (thn (hl pins s1 σ H1 _ I1 q1) fun vl s2 ⟨l, H2, I2, pl, q2⟩ => thn (hu pins s2 σ H2 _ I2 q2) fun vu s3 ⟨u, H3, I3, pu, q3⟩ => ?_)
 rw [evalPart_none]
 refine wpAny_pure ?_
 have I4 : Inv X pins σ H3 { s3 with heap := s3.heap.push { cls := .type "slice", data := .fields #[vl, vu, .none] } } := I3.kept (t' := s3.toks) fun b ob q => Heap.get?_push_of_some _ q
 obtain ⟨T, id, hT, ht, hg⟩ := hr pins { s3 with heap := s3.heap.push { cls := .type "slice", data := .fields #[vl, vu, .none] } } σ H3 x v vl vu l u s3.heap.objs.size Q I4 r1 (Heap.IsSliceOf.new ..) pl pu q3
 show wpAny (model X.prog X.w) X.A (subscriptTail e (.Slice lo hi none p2) v (.ref s3.heap.objs.size)) (EP X pins σ Q) X.xe { s3 with heap := s3.heap.push { cls := .type "slice", data := .fields #[vl, vu, .none] } }
 exact tail_any (ops := [.ref s3.heap.objs.size, v]) ht hT hg (by with_unfolding_all rfl)
def X9 (xs : List V) (lo hi : Option Int) : List V := (xs.drop (HT.sIx xs.length 0 lo)).take (HT.sIx xs.length xs.length hi - HT.sIx xs.length 0 lo)
theorem xN (xs : List V) (lo hi : Option Int) : (X9 xs lo hi).length ≤ xs.length := by
 unfold X9
 rw [List.length_take, List.length_drop]
 omega
end
def ixN (n : Nat) (i : Int) : Option Nat := if 0 ≤ i then (if i < n then some i.toNat else none) else if -(n : Int) ≤ i then some (i + n).toNat else none
def atI {α : Type} (xs : List α) (i : Int) : Option α := (ixN xs.length i).bind fun j => xs[j]?
theorem ixN_seq {n : Nat} {i : Int} {j : Nat} (h : ixN n i = some j) : seqIndex? i n = some j ∧ j < n ∧ -(n : Int) ≤ i ∧ i < n := by
 unfold ixN at h
 by_cases h0 : 0 ≤ i
 ·rw [if_pos h0] at h
  by_cases h1 : i < n
  ·rw [if_pos h1] at h
   have e : i.toNat = j := Option.some.inj h
   exact ⟨by rw [seqIndex_of h0 h1, e], by omega, by omega, h1⟩
  ·rw [if_neg h1] at h; cases h
 ·rw [if_neg h0] at h
  by_cases h1 : -(n : Int) ≤ i
  ·rw [if_pos h1] at h
   have e : (i + n).toNat = j := Option.some.inj h
   exact ⟨by rw [seqIndex_neg (by omega) h1, e], by omega, h1, by omega⟩
  ·rw [if_neg h1] at h; cases h
theorem z6 {α : Type} {xs : List α} {i : Int} {v : α} (h : atI xs i = some v) : ∃ j, seqIndex? i xs.length = some j ∧ xs[j]? = some v ∧ j < xs.length ∧ -(xs.length : Int) ≤ i ∧ i < xs.length := by
 unfold atI at h
 cases e : ixN xs.length i with
 | none => rw [e] at h; cases h
 | some j =>
  rw [e] at h
  obtain ⟨h1, h2, h3, h4⟩ := ixN_seq e
  exact ⟨j, h1, h, h2, h3, h4⟩
theorem Yo {α : Type} {xs : List α} {j : Nat} {v : α} (h : xs[j]? = some v) : atI xs (j : Int) = some v := by
 have hj : j < xs.length := (List.getElem?_eq_some_iff.mp h).1
 have e : ixN xs.length (j : Int) = some j := by
  unfold ixN
  rw [if_pos (by omega), if_pos (by omega)]; simp
 unfold atI; rw [e]; exact h
theorem atI_last {α : Type} (xs : List α) (v : α) : atI (xs ++ [v]) (-1) = some v := by
 have hl : (xs ++ [v]).length = xs.length + 1 := by simp
 have e : ixN (xs ++ [v]).length (-1) = some xs.length := by
  unfold ixN
  rw [hl, if_neg (by decide), if_pos (by omega)]
  congr 1
  omega
 unfold atI
 rw [e]
 show (xs ++ [v])[xs.length]? = some v
 simp
def PlainIx (b : Expr) : Prop := ∀ o i, subscripted b false o i = operate [o, i] (getItem o i)
def IxR (X : Cx) (r : R2) : Prop :=
 ∀ (value slice : Expr) (pins : List (Addr × Obj)) (s : Shared) (σ : St) (H : Hp) (x y : V) (v u : Value) (Q : VK), Inv X pins σ H s → Z8 x v → Z8 y u → r x y H Q →
  subscripted slice false v u = operate [v, u] (getItem v u) → wpAny (model X.prog X.w) X.A (subscriptTail value slice v u) (EP X pins σ Q) X.xe s
def MtR (X : Cx) (id : String) (r : V → List V → Hp → VK → Prop) : Prop :=
 ∀ (pins : List (Addr × Obj)) (s : Shared) (σ : St) (H : Hp) (x : V) (xs : List V) (v : Value) (us : List Value) (Q : VK), Inv X pins σ H s → Z8 x v → Zx xs us → r x xs H Q →
  wpAny (model X.prog X.w) X.A (call (.builtin id) (v :: us)) (EP X pins σ Q) X.xe s
section
variable {X : Cx} {a b : Expr} {ta tb : TE} {pos : Pos}
theorem Y2 {r : R2} (hr : IxR X r) (ha : PE X a ta) (hb : PE X b tb) (hs : PlainIx b) : PE X (.Subscript a b pos) (tOp r ta tb) := by
 intro pins s σ H Q I h
 exact Subscript_ (binT ha hb I h fun v u s2 x y H2 I2 rx ry q => hr a b pins s2 σ H2 x y v u Q I2 rx ry q (hs _ _))
inductive rIxL_R (K : PySem.W.Frag) (x : V) (y : V) (H : Hp) (Q : VK) : Prop
 | mk (p : _) (xs : _) (i : _) (v : _) (h0 : x = .ref p) (h1 : y = .int i) (h2 : SqL K H p xs) (h3 : atI xs i = some v) (h4 : Q v H) : rIxL_R K x y H Q
def rIxL (K : PySem.W.Frag) : R2 := fun x y H Q => rIxL_R K x y H Q
inductive rIxT_R (K : PySem.W.Frag) (x : V) (y : V) (H : Hp) (Q : VK) : Prop
 | mk (p : _) (xs : _) (i : _) (v : _) (h0 : x = .ref p) (h1 : y = .int i) (h2 : SqT K H p xs) (h3 : atI xs i = some v) (h4 : Q v H) : rIxT_R K x y H Q
def rIxT (K : PySem.W.Frag) : R2 := fun x y H Q => rIxT_R K x y H Q
inductive rIxS_R (x : V) (y : V) (H : Hp) (Q : VK) : Prop
 | mk (z : _) (i : _) (c : _) (h0 : x = .str z) (h1 : y = .int i) (h2 : z.length ≤ sizeLine) (h3 : atI z.cps.toList i = some c) (h4 : Q (.str ⟨#[c]⟩) H) : rIxS_R x y H Q
def rIxS : R2 := fun x y H Q => rIxS_R x y H Q
theorem ix_list : IxR X (rIxL X.K) := by
 intro value slice pins s σ H x y v u Q I rx ry h hs
 obtain ⟨p, xs, i, z, rfl, rfl, hq, he, q⟩ := h
 cases rx
 obtain ⟨t, rfl⟩ := ry
 obtain ⟨its, r, pl, hz⟩ := I.list hq
 obtain ⟨j, h1, h2, h3, h4, h5⟩ := z6 he
 obtain ⟨w, ew, rw'⟩ := r.get h2
 have hl := r.length
 have hn := V9
 have fin : EP X pins σ Q w s := ⟨z, H, I, rw', q⟩
 by_cases h0 : 0 ≤ i
 ·have hj : i.toNat = j := by
   rw [seqIndex_of h0 h5] at h1
   exact Option.some.inj h1
  exact item_listR pl.isList h0 (by omega) (by rw [hj]; simpa using ew) fin hs
 ·have hj : (i + (its.toArray.size : Int)).toNat = j := by
   rw [seqIndex_neg (by omega) h4] at h1
   rw [List.size_toArray, ← hl]
   exact Option.some.inj h1
  exact subscriptTail_builtinR (x := w) pl.isList.typeIs slot_list_getitem.lookup
   (wpAny_getItem_list_neg (Q := fun r s' => r = w ∧ EP X pins σ Q r s') pl.isList (by omega) (by rw [List.size_toArray] <;> omega) (by omega) (by rw [hj]; simpa using ew) ⟨rfl, fin⟩) hs
theorem ix_tup : IxR X (rIxT X.K) := by
 intro value slice pins s σ H x y v u Q I rx ry h hs
 obtain ⟨p, xs, i, z, rfl, rfl, hq, he, q⟩ := h
 cases rx
 obtain ⟨t, rfl⟩ := ry
 obtain ⟨its, r, pl, hz⟩ := I.tuple hq
 obtain ⟨j, h1, h2, h3, h4, h5⟩ := z6 he
 obtain ⟨w, ew, rw'⟩ := r.get h2
 have hl := r.length
 have hn := V9
 have fin : EP X pins σ Q w s := ⟨z, H, I, rw', q⟩
 exact subscriptTail_builtinR (x := w) pl.typeIs slot_tuple_getitem.lookup
  (getItem_tuple (j := j) (Q := fun r s' => r = w ∧ EP X pins σ Q r s') pl (by omega) (by omega) (by rw [List.size_toArray, ← hl]; exact h1) (by simpa using ew) ⟨rfl, fin⟩) hs
theorem ix_str : IxR X rIxS := by
 intro value slice pins s σ H x y v u Q I rx ry h hs
 obtain ⟨z, i, c, rfl, rfl, hz, he, q⟩ := h
 obtain ⟨t, rfl⟩ := rx
 obtain ⟨t', rfl⟩ := ry
 obtain ⟨j, h1, h2, h3, h4, h5⟩ := z6 he
 have hl : z.cps.toList.length = z.length := by simp [Str.length]
 rw [hl] at h1 h4 h5
 have hn := V9
 exact tail_any (typeIs_str s z t) slot_str_getitem.lookup (getItem_str (c := c) (by
  have e1 : decide (i < -(2 ^ 63 : Int)) = false := decide_eq_false (by omega)
  have e2 : decide (i ≥ 2 ^ 63) = false := decide_eq_false (by omega)
  rw [e1, e2, Bool.or_false]) (by rw [h1]; simpa using h2) ⟨.str ⟨#[c]⟩, H, I.tok _, ⟨_, rfl⟩, q⟩) hs
theorem yM (lo hi : Option Int) (n : Nat) : (sliceBounds lo hi none n).1 = ((HT.sIx n 0 lo : Nat) : Int) ∧ (sliceBounds lo hi none n).2.1 = ((HT.sIx n n hi : Nat) : Int) ∧ (sliceBounds lo hi none n).2.2 = 1 := by
 refine ⟨?_, ?_, rfl⟩
 ·cases lo with
  | none => simp [sliceBounds, HT.sIx]
  | some i =>
   simp only [sliceBounds, HT.sIx, Option.getD_none, show (1 : Int) > 0 by decide, if_true]
   by_cases h : i < 0
   ·simp only [h, if_true] <;> omega
   ·simp only [h, if_false] <;> omega
 ·cases hi with
  | none => simp [sliceBounds, HT.sIx]
  | some i =>
   simp only [sliceBounds, HT.sIx, Option.getD_none, show (1 : Int) > 0 by decide, if_true]
   by_cases h : i < 0
   ·simp only [h, if_true] <;> omega
   ·simp only [h, if_false] <;> omega
theorem zn (its : List Value) (lo hi : Option Int) : slicePick its.toArray lo hi none = ((its.drop (HT.sIx its.length 0 lo)).take (HT.sIx its.length its.length hi - HT.sIx its.length 0 lo)).toArray := by
 obtain ⟨h1, h2, h3⟩ := yM lo hi its.toArray.size
 unfold slicePick
 rw [h1, h2, h3]
 simp only [sliceRange_one, pick_run, List.size_toArray] <;> rfl
inductive rSlL_R (K : PySem.W.Frag) (x : V) (lo : Option Int) (hi : Option Int) (H : Hp) (Q : VK) : Prop
 | mk (a : _) (xs : _) (h0 : x = .ref a) (h1 : SqL K H a xs) (h2 : ∀ p, H p = none → Q (.ref p) (upd H p (.lst (X9 xs lo hi)))) : rSlL_R K x lo hi H Q
def rSlL (K : PySem.W.Frag) : V → Option Int → Option Int → Hp → VK → Prop := fun x lo hi H Q => rSlL_R K x lo hi H Q
theorem sl_list : SlR X (rSlL X.K) := by
 intro pins s σ H x v vl vu lo hi sl Q I rx hs pl pu h
 obtain ⟨a, xs, rfl, hx, q⟩ := h
 cases rx
 obtain ⟨its, r, ht, hz⟩ := I.list hx
 have hlen := r.length
 refine ⟨"list", _, slot_list_getitem.lookup, ht.isList.typeIs, ?_⟩
 refine wpAny_getItem_list_slice ht.isList hs pl pu .none (by simp) ?_ (by rw [List.size_toArray] <;> omega)
 rw [zn, ← hlen]
 refine ⟨.ref s.heap.objs.size, _, I.laid (t' := s.toks) (o := .lst (X9 xs lo hi)) (fun b ob q => Heap.get?_push_of_some _ q) (Nat.le_refl _) ?_, rfl, q _ (I.hok.fresh (Nat.le_refl _))⟩
 exact ⟨Nat.le_trans (xN xs lo hi) hz, _, 0, (r.drop (HT.sIx xs.length 0 lo)).take (HT.sIx xs.length xs.length hi - HT.sIx xs.length 0 lo), Heap.get?_push_size _ rfl⟩
def WI : V → Bool
 | .non => true
 | .bl _ => true
 | .int _ => true
 | .str _ => true
 | _ => false
def eqV : V → V → Bool
 | .non, .non => true
 | .bl a, .bl b => a == b
 | .bl a, .int b => (if a then 1 else 0) == b
 | .int a, .bl b => a == (if b then 1 else 0)
 | .int a, .int b => a == b
 | .str a, .str b => a == b
 | _, _ => false
theorem eqAt_V {A : Around} {s : Shared} {y x : V} {u v : Value} (ry : Z8 y u) (rx : Z8 x v) (fy : WI y = true) (fx : WI x = true) : SeqAt.EqAt A s u v (eqV y x) := by
 cases y with
 | non =>
  cases ry
  cases x with
  | non => cases rx; exact SeqAt.EqAt.same _
  | bl b => cases rx; exact SeqAt.EqAt.none_bool b
  | int b => obtain ⟨t, rfl⟩ := rx; exact SeqAt.EqAt.none_int b t
  | str b => obtain ⟨t, rfl⟩ := rx; exact SeqAt.EqAt.none_str b t
  | _ => exact absurd (show false = true from fx) Bool.false_ne_true
 | bl a =>
  cases ry
  cases x with
  | non => cases rx; exact SeqAt.EqAt.bool_none a
  | bl b => cases rx; exact SeqAt.EqAt.bool_bool a b
  | int b => obtain ⟨t, rfl⟩ := rx; exact SeqAt.EqAt.bool_int a b t
  | str b => obtain ⟨t, rfl⟩ := rx; exact SeqAt.EqAt.bool_str a b t
  | _ => exact absurd (show false = true from fx) Bool.false_ne_true
 | int a =>
  obtain ⟨t', rfl⟩ := ry
  cases x with
  | non => cases rx; exact SeqAt.EqAt.int_none a t'
  | bl b => cases rx; exact SeqAt.EqAt.int_bool a t' b
  | int b => obtain ⟨t, rfl⟩ := rx; exact SeqAt.EqAt.int_int a t' b t
  | str b => obtain ⟨t, rfl⟩ := rx; exact SeqAt.EqAt.int_str a t' b t
  | _ => exact absurd (show false = true from fx) Bool.false_ne_true
 | str a =>
  obtain ⟨t', rfl⟩ := ry
  cases x with
  | non => cases rx; exact SeqAt.EqAt.str_none a t'
  | bl b => cases rx; exact SeqAt.EqAt.str_bool a t' b
  | int b => obtain ⟨t, rfl⟩ := rx; exact SeqAt.EqAt.str_int a t' b t
  | str b => obtain ⟨t, rfl⟩ := rx; exact SeqAt.EqAt.str_str a t' b t
  | _ => exact absurd (show false = true from fx) Bool.false_ne_true
 | _ => exact absurd (show false = true from fy) Bool.false_ne_true
def eqU (x : V) (u : Value) : Bool := match u with
 | .none => eqV .non x
 | .bool b => eqV (.bl b) x
 | .int i _ => eqV (.int i) x
 | .str z _ => eqV (.str z) x
 | _ => false
theorem yI {x y : V} {u : Value} (r : Z8 y u) (f : WI y = true) : eqU x u = eqV y x := by
 cases y with
 | non => cases r; rfl
 | bl b => cases r; rfl
 | int i => obtain ⟨t, rfl⟩ := r; rfl
 | str z => obtain ⟨t, rfl⟩ := r; rfl
 | _ => exact absurd (show false = true from f) Bool.false_ne_true
theorem yA {x : V} : ∀ {xs : List V} {us : List Value}, Zx xs us → xs.all WI = true → us.any (eqU x) = xs.any fun y => eqV y x
 | _, _, .nil, _ => rfl
 | y :: xs, u :: us, .cons r t, f => by
  rw [List.all_cons, Bool.and_eq_true] at f
  rw [List.any_cons, List.any_cons, yI r f.1, yA t f.2]
theorem VJ {A : Around} {s : Shared} {x : V} {v : Value} (rx : Z8 x v) (fx : WI x = true) : ∀ {xs : List V} {us : List Value}, Zx xs us → xs.all WI = true → ∀ u ∈ us, SeqAt.EqAt A s u v (eqU x u)
 | _, _, .nil, _ => fun u hu => by cases hu
 | y :: xs, u :: us, .cons r t, f => fun u' hu => by
  rw [List.all_cons, Bool.and_eq_true] at f
  rcases List.mem_cons.mp hu with rfl | hu
  ·rw [yI r f.1]; exact eqAt_V r rx f.1 fx
  ·exact VJ rx fx t f.2 u' hu
def inV (x : V) (xs : List V) : Bool := xs.any fun y => eqV y x
inductive rIn_R (K : PySem.W.Frag) (neg : Bool) (x : V) (y : V) (H : Hp) (Q : VK) : Prop
 | mk (p : _) (xs : _) (h0 : y = .ref p) (h1 : (SqL K H p xs ∨ SqT K H p xs)) (h2 : WI x = true) (h3 : xs.all WI = true) (h4 : Q (.bl (if neg then !inV x xs else inV x xs)) H) : rIn_R K neg x y H Q
def rIn (K : PySem.W.Frag) (neg : Bool) : R2 := fun x y H Q => rIn_R K neg x y H Q
theorem yq : OpR X (compareOp .NotIn) (rIn X.K true) := by
 intro pins s σ H x y v u Q I rx ry h
 obtain ⟨p, xs, rfl, hq, fx, fs, q⟩ := h
 cases ry
 rcases hq with hq | hq
 ·obtain ⟨its, r, pl, hz⟩ := I.list hq
  refine SeqAt.notIn_listAt (eqU x) pl.isList (fun w hw => VJ rx fx r fs w (by simpa using hw)) ⟨.bl _, H, I, rfl, ?_⟩
  rw [show its.toArray.any (eqU x) = its.any (eqU x) by simp, yA r fs]
  exact q
 ·obtain ⟨its, r, pl, hz⟩ := I.tuple hq
  refine SeqAt.notIn_tupleAt (eqU x) pl (fun w hw => VJ rx fx r fs w (by simpa using hw)) ⟨.bl _, H, I, rfl, ?_⟩
  rw [show its.toArray.any (eqU x) = its.any (eqU x) by simp, yA r fs]
  exact q
theorem VH : OpR X (compareOp .NotIn) (fun x y H Q => ∃ i j, x = .str i ∧ y = .str j ∧ Q (.bl (!(!(Builtin.Str.occurrences j i 0 j.length 1).isEmpty))) H) := by
 intro pins s σ H x y v u Q I rx ry h
 obtain ⟨i, j, rfl, rfl, q⟩ := h
 obtain ⟨t, rfl⟩ := rx
 obtain ⟨t', rfl⟩ := ry
 exact notIn_str ⟨.bl _, H, I, rfl, q⟩
theorem zZ : Yy X (.builtin "len") (fun xs H Q => ∃ p ys, xs = [.ref p] ∧ (SqL X.K H p ys ∨ SqT X.K H p ys) ∧ Q (.int ys.length) H) := by
 intro pins s σ H xs us Q I r h
 obtain ⟨p, ys, rfl, hq, q⟩ := h
 obtain ⟨u, rfl, rx⟩ := XU r
 cases rx
 have hn := V9
 rcases hq with hq | hq
 ·obtain ⟨its, r', pl, hz⟩ := I.list hq
  have hlen := r'.length
  exact Calls.call_len_list pl.isList (by simp only [List.size_toArray] <;> omega) ⟨.int ys.length, H, I.tok _, ⟨s.toks + 1, by rw [List.size_toArray, hlen]⟩, q⟩
 ·obtain ⟨its, r', pl, hz⟩ := I.tuple hq
  have hlen := r'.length
  exact len_tuple pl (by simp only [List.size_toArray] <;> omega) ⟨.int ys.length, H, I.tok _, ⟨s.toks + 1, by rw [List.size_toArray, hlen]⟩, q⟩
theorem yv : Yy X (.builtin "len") (fun xs H Q => ∃ z, xs = [.str z] ∧ z.length ≤ sizeLine ∧ Q (.int z.length) H) := by
 intro pins s σ H xs us Q I r h
 obtain ⟨z, rfl, hz, q⟩ := h
 obtain ⟨u, rfl, t, rfl⟩ := XU r
 have hn := V9
 exact len_str (by omega) ⟨.int z.length, H, I.tok _, ⟨_, rfl⟩, q⟩
theorem Yy.or {f : Value} {r r' : List V → Hp → VK → Prop} (h : Yy X f r) (h' : Yy X f r') : Yy X f (fun xs H Q => r xs H Q ∨ r' xs H Q) := by
 intro pins s σ H xs us Q I rs q
 rcases q with q | q
 ·exact h pins s σ H xs us Q I rs q
 ·exact h' pins s σ H xs us Q I rs q
theorem yR : Yy X (.type "list") (fun xs H Q => ∃ p ys, xs = [.ref p] ∧ (SqL X.K H p ys ∨ SqT X.K H p ys) ∧ ∀ l, H l = none → Q (.ref l) (upd H l (.lst ys))) := by
 intro pins s σ H xs us Q I r h
 obtain ⟨p, ys, rfl, hq, q⟩ := h
 obtain ⟨u, rfl, rx⟩ := XU r
 cases rx
 have fin : ∀ (its : List Value), Zx ys its → ys.length ≤ sizeLine → ∀ (h' : Heap) (c' : Nat), (∀ b o', s.heap.get? b = some o' → h'.get? b = some o') →
   h'.get? s.heap.objs.size = some { cls := .type "list", dict := none, data := .seq its.toArray c', slots := #[] } → EP X pins σ Q (.ref s.heap.objs.size) { s with heap := h' } := fun its r' hz h' c' kp e =>
  ⟨.ref s.heap.objs.size, _, I.laid (t' := s.toks) kp (Nat.le_refl _) (show Y6 X.prog X.w _ h' _ (.lst ys) from ⟨hz, its, c', r', e⟩), rfl, q _ (I.hok.fresh (Nat.le_refl _))⟩
 rcases hq with hq | hq
 ·obtain ⟨its, r', pl, hz⟩ := I.list hq
  have hlen := r'.length
  obtain ⟨o, ho, hc, n, hd⟩ := pl.isList
  exact call_list_seq p (.inl rfl) ho hc hd (fun h' c' kp e => fin its r' hz h' c' kp e) (by simp only [List.size_toArray] <;> omega)
 ·obtain ⟨its, r', pl, hz⟩ := I.tuple hq
  have hlen := r'.length
  obtain ⟨o, ho, hc, n, hd⟩ := pl
  exact call_list_seq p (.inr rfl) ho hc hd (fun h' c' kp e => fin its r' hz h' c' kp e) (by simp only [List.size_toArray] <;> omega)
theorem zp : Yy X (.type "tuple") (fun xs H Q => ∃ p ys, xs = [.ref p] ∧ ((SqL X.K H p ys ∧ ∀ l, H l = none → Q (.ref l) (upd H l (.tup ys))) ∨ (SqT X.K H p ys ∧ Q (.ref p) H))) := by
 intro pins s σ H xs us Q I r h
 obtain ⟨p, ys, rfl, h⟩ := h
 obtain ⟨u, rfl, rx⟩ := XU r
 cases rx
 rcases h with ⟨hq, q⟩ | ⟨hq, q⟩
 ·obtain ⟨its, r', pl, hz⟩ := I.list hq
  have hlen := r'.length
  refine call_tuple_list pl.isList (fun h' kp => ?_) (by simp only [List.size_toArray] <;> omega)
  have I1 : Inv X pins σ H { s with heap := h' } := I.kept (t' := s.toks) kp
  have I2 : Inv X pins σ (upd H h'.objs.size (.tup ys)) { s with heap := h'.push { cls := .type "tuple", data := .seq its.toArray } } :=
   I1.laid (t' := s.toks) (fun b o e => Heap.get?_push_of_some _ e) (Nat.le_refl _) (show Y6 X.prog X.w _ _ _ (.tup ys) from ⟨hz, its, r', IsTup.new _ _⟩)
  exact ⟨.ref h'.objs.size, _, I2, rfl, q _ (I1.hok.fresh (Nat.le_refl _))⟩
 ·obtain ⟨its, r', pl, hz⟩ := I.tuple hq
  exact call_tuple_same pl ⟨.ref p, H, I, rfl, q⟩
def tyV (K : PySem.W.Frag) (T : String) (x : V) (H : Hp) : Prop := match x with
 | .str _ => T = "str"
 | .int _ => T = "int"
 | .ref p => (T = "list" ∧ ∃ xs, SqL K H p xs) ∨ (T = "tuple" ∧ ∃ o, K.lookup p = some o ∧ o.cls = .type "tuple" ∧ o.dict = none) ∨
   (T = "dict" ∧ ((∃ kvs, H p = some (.dK kvs)) ∨ ∃ kvs, H p = some (.dT kvs))) ∨ (T = "set" ∧ ∃ S n, H p = some (.set S n))
 | _ => False
theorem tyV_is {pins : List (Addr × Obj)} {σ : St} {H : Hp} {s : Shared} {T : String} {x : V} {v : Value} (I : Inv X pins σ H s) (r : Z8 x v) (ty : tyV X.K T x H) :
  s.TypeIs v T ∧ ∀ a, v = .ref a → ∃ ob, s.heap.get? a = some ob ∧ ob.dict = none := by
 cases x with
 | str z =>
  obtain ⟨t, rfl⟩ := r
  cases (show T = "str" from ty)
  exact ⟨typeIs_str s z t, fun _ e => nomatch e⟩
 | int i =>
  obtain ⟨t, rfl⟩ := r
  cases (show T = "int" from ty)
  exact ⟨typeIs_int s i t, fun _ e => nomatch e⟩
 | ref p =>
  cases r
  rcases ty with ⟨rfl, xs, hq⟩ | ⟨rfl, o, hk, hc, hd⟩ | ⟨rfl, hk⟩ | ⟨rfl, S, n, hk⟩
  ·obtain ⟨its, _, pl, _⟩ := I.list hq
   refine ⟨pl.isList.typeIs, fun a e => ?_⟩
   cases e
   obtain ⟨o, n, e, c, hd, _⟩ := pl
   exact ⟨o, e, hd⟩
  ·refine ⟨⟨o, I.kIn p o hk, hc⟩, fun a e => ?_⟩
   cases e
   exact ⟨o, I.kIn _ o hk, hd⟩
  ·have z : ∃ o, s.heap.get? p = some o ∧ o.ExactDict := by
    rcases hk with ⟨kvs, hk⟩ | ⟨kvs, hk⟩
    ·obtain ⟨_, _, _, _, o, _, _, e, ex, _⟩ := I.hok p _ hk
     exact ⟨o, e, ex⟩
    ·obtain ⟨_, _, _, _, o, _, _, e, ex, _⟩ := I.hok p _ hk
     exact ⟨o, e, ex⟩
   obtain ⟨o, e, ex⟩ := z
   refine ⟨⟨o, e, ex.1⟩, fun a e2 => ?_⟩
   cases e2
   exact ⟨o, e, ex.2.1⟩
  ·obtain ⟨o, _, _, _, e, ex, _⟩ := I.hok p _ hk
   refine ⟨⟨o, e, ex.1⟩, fun a e2 => ?_⟩
   cases e2
   exact ⟨o, e, ex.2.1⟩
 | _ => exact False.elim ty
def tBM0 (K : PySem.W.Frag) (T : String) (r : V → List V → Hp → VK → Prop) (to : TE) : TE := fun σ H Q => to σ H fun x H1 => tyV K T x H1 ∧ r x [] H1 Q
def tBM (K : PySem.W.Frag) (T : String) (r : V → List V → Hp → VK → Prop) (to : TE) (t : TA) : TE := fun σ H Q => to σ H fun x H1 => tyV K T x H1 ∧ t σ H1 fun xs H2 => r x xs H2 Q
variable {o e : Expr} {es : List Expr} {to : TE} {t : TA} {name : Str} {apos cpos : Pos} {T id : String} {r : V → List V → Hp → VK → Prop}
theorem pe_bm0 (pa : PlainAttrs T) (slot : Slot T name id) (hty : typeOf (.builtin id) = pure (.type "method_descriptor")) (hm : MtR X id r) (ho : PE X o to)
  (hbase : attributeBase o name X.env (eval o X.env) = eval o X.env := by rfl) (hline : (apos.endLine == cpos.line) = true := by rfl) : PE X (.Call (.Attribute o name apos) [] [] cpos) (tBM0 X.K T r to) := by
 intro pins s σ H Q I h
 refine wpAny_Call_method0_late hbase hline (thn (ho pins s σ H _ I h) fun v s1 ⟨x, H1, I1, r1, ty, q1⟩ => ?_)
 obtain ⟨h1, h2⟩ := tyV_is I1 r1 ty
 exact ⟨T, id, pa, slot, hty, h1, h2, Calls.callWith_builtin rfl (PySem.evalArgs_none (hm pins s1 σ H1 x [] v [] Q I1 r1 .nil q1))⟩
theorem Xi (pa : PlainAttrs T) (slot : Slot T name id) (hty : typeOf (.builtin id) = pure (.type "method_descriptor")) (hm : MtR X id r) (ho : PE X o to) (ha : PA X (e :: es) t)
  (hbase : attributeBase o name X.env (eval o X.env) = eval o X.env := by rfl)
  (hfew : ((backTo cpos (starEach (e :: es) X.env)).all (fun x => !x.1) && (backToKw cpos (keywordEach [] X.env)).all (fun x => x.1.isSome)
   && decide ((e :: es).length + ([] : List Keyword).length + (if ([] : List Keyword).isEmpty then 0 else 1) < 30)) = true := by rfl)
  (hline : (apos.endLine == cpos.line) = true := by rfl) (hs : starEach (e :: es) X.env = (false, eval e X.env) :: starEach es X.env := by rfl) (hplain : (backTo cpos (starEach es X.env)).any (·.1) = false := by rfl) :
  PE X (.Call (.Attribute o name apos) (e :: es) [] cpos) (tBM X.K T r to t) := by
 intro pins s σ H Q I h
 refine wpAny_Call_method_late hbase hfew hline rfl (thn (ho pins s σ H _ I h) fun v s1 ⟨x, H1, I1, r1, ty, q1⟩ => ?_)
 obtain ⟨h1, h2⟩ := tyV_is I1 r1 ty
 refine ⟨T, id, pa, slot, hty, h1, h2, ?_⟩
 have hA := ha cpos pins s1 σ H1 _ I1 q1
 rw [hs] at hA ⊢
 refine Calls.callWith_builtin (by show (false || (backTo cpos (starEach es X.env)).any (·.1)) = false; rw [hplain] <;> rfl) (Calls.evalArgs_plain ?_)
 exact thn hA fun us s2 ⟨vs, H2, I2, r2, q2⟩ => hm pins s2 σ H2 x vs v us Q I2 r1 r2 q2
end
def MtM (X : Cx) (id : String) (r : V → List V → Hp → VK → Prop) : Prop :=
 ∀ (pins : List (Addr × Obj)) (s : Shared) (σ : St) (H : Hp) (x : V) (xs : List V) (v : Value) (us : List Value) (Q : VK), Inv X pins σ H s → Z8 x v → Zx xs us → r x xs H Q →
  wpAny (model X.prog X.w) X.A (call (.builtin id) (v :: us)) (EP X pins σ Q) X.xe s
theorem Zx.one : ∀ {x : V} {us : List Value}, Zx [x] us → ∃ u, us = [u] ∧ Z8 x u
 | _, _, .cons r .nil => ⟨_, rfl, r⟩
theorem Zx.zero : ∀ {us : List Value}, Zx [] us → us = []
 | _, .nil => rfl
theorem Zx.dropLast {xs : List V} {us : List Value} (h : Zx xs us) : Zx xs.dropLast us.dropLast := by
 induction h with
 | nil => exact .nil
 | cons r t ih =>
  cases t with
  | nil => exact .nil
  | cons q t' => exact .cons r ih
theorem Zx.reverse {xs : List V} {us : List Value} (h : Zx xs us) : Zx xs.reverse us.reverse := by
 induction h with
 | nil => exact .nil
 | cons r t ih => rw [List.reverse_cons, List.reverse_cons]; exact Zx.append ih (.cons r .nil)
theorem Zx.rep {xs : List V} {us : List Value} (h : Zx xs us) : ∀ k : Nat, Zx (List.replicate k xs).flatten (List.replicate k us).flatten
 | 0 => .nil
 | k + 1 => by
  rw [List.replicate_succ, List.replicate_succ, List.flatten_cons, List.flatten_cons]
  exact Zx.append h (Zx.rep h k)
theorem vt {α : Type} (l : List α) : l.eraseIdx (l.length - 1) = l.dropLast := by
 induction l with
 | nil => rfl
 | cons a r ih =>
  cases r with
  | nil => rfl
  | cons b r =>
   have e : (a :: b :: r).length - 1 = ((b :: r).length - 1) + 1 := by
    have h1 : (a :: b :: r).length = r.length + 2 := rfl
    have h2 : (b :: r).length = r.length + 1 := rfl
    omega
   rw [e, List.eraseIdx_cons_succ, ih]
   all_goals rfl
theorem zO (its : List Value) : ∀ (k : Nat) (acc : List Value),
  List.foldl (fun x1 x2 => x1 ++ x2) acc.toArray (List.replicate k its.toArray) = (acc ++ (List.replicate k its).flatten).toArray
 | 0, acc => by simp
 | k + 1, acc => by
  have e : acc.toArray ++ its.toArray = (acc ++ its).toArray := by simp
  have e2 : (acc ++ its) ++ (List.replicate k its).flatten = acc ++ (List.replicate (k + 1) its).flatten := by
   rw [List.replicate_succ, List.flatten_cons, List.append_assoc]
  rw [← e2, ← zO its k (acc ++ its), ← e, List.replicate_succ, List.foldl_cons]
section
variable {X : Cx} {pins : List (Addr × Obj)} {σ : St} {H : Hp} {s : Shared} {l b : Addr} {xs ys zs : List V}
theorem Inv.lset {its its' : List Value} {n : Nat} {f : Array Value → Array Value} {t' : Nat} (I : Inv X pins σ H s) (hH : H l = some (.lst xs))
  (e : s.heap.get? l = some { cls := .type "list", data := .seq its.toArray n }) (hf : f its.toArray = its'.toArray) (hv : Zx ys its') (hz : ys.length ≤ sizeLine) :
  Inv X pins σ (upd H l (.lst ys)) { s with heap := s.heap.update l (Obj.mapSeq f), toks := t' } := by
 have q := PySem.IsL.update e f
 rw [hf] at q
 refine I.write (x := l) (e := l) (by rw [hH]; exact trivial) (.inl rfl) (fun b' u hb hu => (Heap.get?_update_other s.heap (Obj.mapSeq f) (Ne.symm hb)).trans hu) ⟨_, q⟩ ?_
 exact ⟨hz, its', _, hv, q⟩
theorem Inv.lnew {its : List Value} {t' : Nat} (I : Inv X pins σ H s) (hv : Zx ys its) (hz : ys.length ≤ sizeLine) :
  Inv X pins σ (upd H s.heap.objs.size (.lst ys)) { s with heap := s.heap.push { cls := .type "list", data := .seq its.toArray }, toks := t' } :=
 I.laid (fun _ _ q => Heap.get?_push_of_some _ q) (Nat.le_refl _) ⟨hz, its, 0, hv, Heap.get?_push_size _ rfl⟩
theorem Inv.fresh (I : Inv X pins σ H s) : H s.heap.objs.size = none := I.hok.fresh (Nat.le_refl _)
theorem Inv.lstM (I : Inv X pins σ H s) (hH : H l = some (.lst xs)) : xs.length ≤ sizeLine ∧ ∃ (its : List Value) (n : Nat), Zx xs its ∧ xs.length = its.length ∧ s.heap.get? l = some { cls := .type "list", data := .seq its.toArray n } := by
 obtain ⟨z, its, n, r, e⟩ := I.hok l _ hH
 exact ⟨z, its, n, r, r.length, e⟩
theorem qA {n : Nat} (h : n ≤ sizeLine) : Builtin.List.listTooLong n = false := by
 unfold Builtin.List.listTooLong
 exact decide_eq_false (by omega)
end
section
variable {X : Cx}
inductive zY (x : V) (vs : List V) (H : Hp) (Q : VK) : Prop
 | mk (l : _) (xs : _) (y : _) (h0 : x = .ref l) (h1 : vs = [y]) (h2 : H l = some (.lst xs)) (h3 : xs.length < sizeLine) (h4 : Q .non (upd H l (.lst (xs ++ [y])))) : zY x vs H Q
def rAppend : V → List V → Hp → VK → Prop := fun x vs H Q => zY x vs H Q
theorem XI : MtM X "list.append" rAppend := by
 intro pins s σ H x vs v us Q I rx rv h
 obtain ⟨l, xs, y, rfl, rfl, hH, hz, q⟩ := h
 cases rx
 obtain ⟨u, rfl, ru⟩ := rv.one
 obtain ⟨z, its, n, r, hl, e⟩ := I.lstM hH
 refine call_meets F.slot_list_append ⟨_, e, rfl⟩ F.entry_list_append (F.args_list_append_2 _ _) (PySem.list_append l its.toArray n u (by rw [List.size_toArray]; omega)) ⟨e, ?_⟩
 refine ⟨.non, _, I.lset (its' := its ++ [u]) hH e (by simp) (r.append (.cons ru .nil)) ?_, rfl, q⟩
 rw [List.length_append, List.length_singleton]
 omega
inductive zE (x : V) (vs : List V) (H : Hp) (Q : VK) : Prop
 | mk (l : _) (b : _) (xs : _) (zs : _) (h0 : x = .ref l) (h1 : vs = [.ref b]) (h2 : H l = some (.lst xs)) (h3 : H b = some (.lst zs)) (h4 : xs.length + zs.length ≤ sizeLine) (h5 : Q .non (upd H l (.lst (xs ++ zs)))) : zE x vs H Q
def rExtend : V → List V → Hp → VK → Prop := fun x vs H Q => zE x vs H Q
theorem mt_extend : MtM X "list.extend" rExtend := by
 intro pins s σ H x vs v us Q I rx rv h
 obtain ⟨l, b, xs, zs, rfl, rfl, hH, hB, hz, q⟩ := h
 cases rx
 obtain ⟨u, rfl, ru⟩ := rv.one
 cases ru
 obtain ⟨z, its, n, r, hl, e⟩ := I.lstM hH
 obtain ⟨z2, its2, n2, r2, hl2, e2⟩ := I.lstM hB
 have hsz : its.toArray.size + its2.toArray.size ≤ sizeLine := by rw [List.size_toArray, List.size_toArray]; omega
 have hlong : ¬ (!its.toArray.isEmpty && Builtin.List.listTooLong (its.toArray.size + its2.toArray.size)) = true := by
  rw [qA hsz, Bool.and_false]
  exact Bool.false_ne_true
 refine call_meets F.slot_list_extend ⟨_, e, rfl⟩ F.entry_list_extend (F.args_list_extend_2 _ _)
  (AutoSeq1.list_extend_list_list_0 l its.toArray n b its2.toArray n2 hlong (by rw [List.size_toArray]; omega) (by omega)) ⟨e, e2, ?_⟩
 refine ⟨.non, _, I.lset (its' := its ++ its2) hH e (by simp) (r.append r2) ?_, rfl, q⟩
 rw [List.length_append]
 omega
inductive rPop_R (x : V) (vs : List V) (H : Hp) (Q : VK) : Prop
 | mk (l : _) (xs : _) (y : _) (h0 : x = .ref l) (h1 : vs = []) (h2 : H l = some (.lst xs)) (h3 : xs[xs.length - 1]? = some y) (h4 : Q y (upd H l (.lst xs.dropLast))) : rPop_R x vs H Q
def rPop : V → List V → Hp → VK → Prop := fun x vs H Q => rPop_R x vs H Q
theorem mt_pop : MtM X "list.pop" rPop := by
 intro pins s σ H x vs v us Q I rx rv h
 obtain ⟨l, xs, y, rfl, rfl, hH, hy, q⟩ := h
 cases rx
 have hus := rv.zero
 subst hus
 obtain ⟨z, its, n, r, hl, e⟩ := I.lstM hH
 obtain ⟨u, hu, ru⟩ := r.get hy
 have hy' : its.toArray[its.toArray.size - 1]? = some u := by
  show its.toArray[its.length - 1]? = some u
  rw [← Array.getElem?_toList, ← hl]
  exact hu
 refine call_meets F.slot_list_pop ⟨_, e, rfl⟩ F.entry_list_pop (F.args_list_pop_1 _) (MeetsSeq.list_pop_last l its.toArray n u hy' (by rw [List.size_toArray]; omega)) ⟨e, ?_⟩
 refine ⟨y, _, I.lset (its' := its.dropLast) hH e ?_ r.dropLast ?_, ru, q⟩
 ·show its.toArray.eraseIdxIfInBounds (its.toArray.size - 1) = its.dropLast.toArray
  rw [List.size_toArray, List.eraseIdxIfInBounds_toArray, vt]
 ·rw [List.length_dropLast]
  omega
inductive U8 (x : V) (vs : List V) (H : Hp) (Q : VK) : Prop
 | mk (l : _) (xs : _) (h0 : x = .ref l) (h1 : vs = []) (h2 : H l = some (.lst xs)) (h3 : Q .non (upd H l (.lst xs.reverse))) : U8 x vs H Q
def rReverse : V → List V → Hp → VK → Prop := fun x vs H Q => U8 x vs H Q
theorem vx : MtM X "list.reverse" rReverse := by
 intro pins s σ H x vs v us Q I rx rv h
 obtain ⟨l, xs, rfl, rfl, hH, q⟩ := h
 cases rx
 have hus := rv.zero
 subst hus
 obtain ⟨z, its, n, r, hl, e⟩ := I.lstM hH
 refine call_meets F.slot_list_reverse ⟨_, e, rfl⟩ F.entry_list_reverse (F.args_list_reverse_1 _) (AutoSeq1.list_reverse_list_0 l its.toArray n (by rw [List.size_toArray]; omega)) ⟨e, ?_⟩
 refine ⟨.non, _, I.lset (its' := its.reverse) hH e (by simp) r.reverse ?_, rfl, q⟩
 rw [List.length_reverse]
 omega
inductive rCat_R (x : V) (y : V) (H : Hp) (Q : VK) : Prop
 | mk (l : _) (b : _) (xs : _) (zs : _) (h0 : x = .ref l) (h1 : y = .ref b) (h2 : H l = some (.lst xs)) (h3 : H b = some (.lst zs)) (h4 : xs.length + zs.length ≤ sizeLine) (h5 : ∀ p, H p = none → Q (.ref p) (upd H p (.lst (xs ++ zs)))) : rCat_R x y H Q
def rCat : R2 := fun x y H Q => rCat_R x y H Q
theorem YK : OpR X (binaryOp .Add) rCat := by
 intro pins s σ H x y v u Q I rx ry h
 obtain ⟨l, b, xs, zs, rfl, rfl, hH, hB, hz, q⟩ := h
 cases rx
 cases ry
 obtain ⟨z, its, n, r, hl, e⟩ := I.lstM hH
 obtain ⟨z2, its2, n2, r2, hl2, e2⟩ := I.lstM hB
 refine PySem.P.add_list e e2 ?_ (by rw [List.size_toArray, List.size_toArray]; omega)
 have ea : its.toArray ++ its2.toArray = (its ++ its2).toArray := by simp
 rw [ea]
 exact ⟨.ref _, _, I.lnew (t' := s.toks) (r.append r2) (by rw [List.length_append]; omega), rfl, q _ I.fresh⟩
inductive rRep_R (x : V) (y : V) (H : Hp) (Q : VK) : Prop
 | mk (l : _) (k : _) (xs : _) (h0 : x = .ref l) (h1 : y = .int k) (h2 : H l = some (.lst xs)) (h3 : -(2 ^ 63) ≤ k) (h4 : k < 2 ^ 63) (h5 : xs.length * k.toNat ≤ sizeLine) (h6 : ∀ p, H p = none → Q (.ref p) (upd H p (.lst (List.replicate k.toNat xs).flatten))) : rRep_R x y H Q
def rRep : R2 := fun x y H Q => rRep_R x y H Q
theorem len_rep {α : Type} (xs : List α) (k : Nat) : (List.replicate k xs).flatten.length = k * xs.length := by
 induction k with
 | zero => simp
 | succ k ih => rw [List.replicate_succ, List.flatten_cons, List.length_append, ih, Nat.succ_mul, Nat.add_comm]
theorem Uj : OpR X (binaryOp .Mult) rRep := by
 intro pins s σ H x y v u Q I rx ry h
 obtain ⟨l, k, xs, rfl, rfl, hH, h1, h2, hz, q⟩ := h
 cases rx
 obtain ⟨t, rfl⟩ := ry
 obtain ⟨z, its, n, r, hl, e⟩ := I.lstM hH
 have hlen : its.toArray.size * k.toNat ≤ sizeLine := by rw [List.size_toArray, ← hl]; exact hz
 have hcap : ¬ its.toArray.size * k.toNat > (2 ^ 63 - 1) / 8 := by
  have : (sizeLine : Nat) ≤ (2 ^ 63 - 1) / 8 := by decide
  omega
 have hfit : ¬ (!Builtin.List.listFitsIndex k) = true := by
  rw [fitsIndex_both h1 h2]
  exact Bool.false_ne_true
 have hlong : ¬ Builtin.List.listTooLong (its.toArray.size * k.toNat) = true := by
  rw [qA hlen]
  exact Bool.false_ne_true
 have hnew : List.foldl (fun x1 x2 => x1 ++ x2) #[] (List.replicate (if its.toArray.isEmpty = true then 0 else k.toNat) its.toArray) = (List.replicate k.toNat its).flatten.toArray := by
  have f0 : ∀ m : Nat, List.foldl (fun x1 x2 => x1 ++ x2) #[] (List.replicate m its.toArray) = (List.replicate m its).flatten.toArray := fun m => by
   have := zO its m []
   rw [List.nil_append] at this
   exact this
  rw [f0]
  cases its with
  | nil => simp
  | cons a r' => rw [if_neg (by simp)]
 refine wpAny_binaryOp_repeat_ref (T := "list") (U := "int") (by decide) ⟨_, e, rfl⟩ (fun s' => typeIs_int s' k t) noFill_list_mul F.fills_int_mul F.slot_int_rmul repeat_list F.slot_int_index.lookup
  (call_meets F.slot_int_rmul (typeIs_int s k t) F.entry_int_rmul (F.args_int_rmul_2 _ _) (int___rmul___int_list k t l its.toArray n)
   ⟨e, rfl, ⟨_, e, rfl⟩, call_meets F.slot_list_mul ⟨_, e, rfl⟩ F.entry_list_mul (F.args_list_mul_2 _ _) (AutoListH.list___mul___list_int_3 l its.toArray n k t hfit hcap hlong) ⟨e, ?_⟩⟩)
 rw [hnew]
 exact ⟨.ref _, _, I.lnew (t' := s.toks) (r.rep k.toNat) (by rw [len_rep, Nat.mul_comm]; exact hz), rfl, q _ I.fresh⟩
end
section
variable {prog : Program} {w : World} {A : Around} {E : Value → Shared → Prop} {s : Shared}
set_option maxRecDepth 100000 in
end
section
variable {X : Cx}
end
end L2
namespace Att
open PySem PySem.W PySem.Calls PyProof.Rows
theorem UM {P : Params} {h : Heap} : ∀ (ns : List Int) (vs : List Value), WellAll P h vs (ns.map WData.int) → IntsAre vs ns := by
 intro ns
 induction ns with
 | nil =>
  intro vs w
  rw [List.map_nil] at w
  cases w
  exact .nil
 | cons n ns ih =>
  intro vs w
  rw [List.map_cons] at w
  cases w with
  | cons a b =>
   cases a
   exact .cons _ _ (ih _ b)
theorem script_of {l : OpenLaw} {n : Nat} (hn : l.most = some n) {P : Params} {h : Heap} {args : List WData} {vals : List Value}
  (hpre : l.row.toRowW.claim.pre args = true) (hwl : WellAll P h vals args) :
  ∃ a vs ns, vals = [Value.ref a] ∧ args = [WData.list (ns.map WData.int)] ∧ h.get? a = some { cls := .type "list", data := .seq vs.toArray } ∧ IntsAre vs ns ∧ ns.length ≤ n := by
 have hsh : WShape.hasAll [] args [.list .int] = true := (pre_splitW hpre).1
 have hc : l.pre.holds [] { args := args } = true := (pre_splitW hpre).2
 obtain ⟨d, r, rfl, h1, h2⟩ := hasAllW_cons hsh
 obtain rfl := hasAllW_nil h2
 obtain ⟨xs, rfl, h3⟩ := hasW_list h1
 obtain ⟨ns, rfl⟩ := items_int h3
 have hlen : ns.length ≤ n := by
  unfold OpenLaw.pre at hc
  have h4 : (WTm.not (.lt (.lit (.int (n : Int))) (.len (.arg 0)))).holds [] { args := [.list (ns.map .int)] } = true := by
   have h4 := (holds_andW hc).1
   rw [hn] at h4
   exact h4
  have h5 := condW_of h4 (w_not (w_lt w_lit (w_len_list (w_arg rfl))))
  rw [List.length_map] at h5
  refine Nat.le_of_not_lt fun q => ?_
  have q' : (n : Int) < ((ns.length : Nat) : Int) := by omega
  first
   | (rw [decide_eq_true q'] at h5; exact absurd h5 (by decide))
   | (simp at h5; omega)
 cases hwl with
 | cons w1 w2 =>
  cases w2
  cases w1 with
  | list ho hall => exact ⟨_, _, ns, rfl, rfl, ho, UM ns _ hall, hlen⟩
theorem post_true (l : OpenLaw) (args : List WData) : l.row.toRowW.claim.post args (.bool true) args = true :=
 postW_of (r := l.row.toRowW) (X := (true == true))
  (show WShape.has [] (.bool true) .bool = true by first | rfl | decide | simp [WShape.has, WShape.arms, WShape.armsAll])
  (show (WTm.eq .res (.lit (.bool true))).value [] { args := args, res := some (.bool true), after := args } = some (.bool (true == true)) from w_eq_bool (w_res rfl) w_lit) rfl
theorem attach_call {l : OpenLaw} {n : Nat} {q : Program} {loose : List Str} {XP : (Str → Option Value) → Heap → Prop} {YP : World → Heap → Prop} {d : DefRec}
  (hn : l.most = some n) (hdf : d.params.defaults = [])
  (call : ∀ (w : World) (s₀ s₁ : Shared) (mg mb : Str → Option Value) (fa : Addr) (o : Obj) (pm cd doc : Value) (a : Addr) (vs : List Value) (ns : List Int),
   Ground q loose [] XP w s₀ mg mb s₁.heap → YP w s₁.heap →
   s₁.heap.get? fa = some o → o.data = .func (docDef d.name d.params d.body d.scope pm cd doc) → s₁.heap.CodeRec cd d.name → mg d.name = some (.ref fa) →
   s₁.heap.get? a = some { cls := .type "list", data := .seq vs.toArray } → IntsAre vs ns → ns.length ≤ n → s₁.gens = #[] →
   codeAny (model l.prog w) callerA (.call (.ref fa) ⟨[.ref a], []⟩) (fun r s' => r = .ok (.ret (.bool true)) ∧ OldK s₁.heap s'.heap ∧ s'.os = s₁.os ∧ AllBare s'.gens) s₁) :
  WalkO q loose XP YP l.row.toRowW d [] (fun f vs => PySem.call f vs) := by
 intro w s₀ s₁ mg mb G Y fa o pm cd doc dV kV ho hd hcd hD hmg hg args vals as hpre hlay hrd hwl hlo
 obtain rfl : dV = .none := Dflts.none hD hdf
 obtain rfl : kV = .none := Dflts.noKw hD
 obtain ⟨a, vs, ns, rfl, rfl, hobj, hints, hlen⟩ := script_of hn hpre hwl
 refine enter_call (codeAny_mono (call w s₀ s₁ mg mb fa o pm cd doc a vs ns G Y ho (fd_plain hd) hcd hmg hobj hints hlen hg) fun r s' hq => ?_)
 obtain ⟨rfl, h2, h3, h4⟩ := hq
 exact ⟨.inl ⟨.bool true, .bool true, [], rfl, fun _ => rfl, .bool true, post_true l _, fun _ => ⟨List.Pairwise.nil, fun _ hm => (nomatch hm)⟩⟩, h2, h3, h4⟩
section
variable {prog : Program} {w : World} {A : Around} {E : Value → Shared → Prop} {s : Shared} {K : Frag}
def ledger (h : Heap) (L d : Addr) : List (Addr × Obj) := (List.range h.objs.size).filterMap fun a => if a = L ∨ a = d then none else (h.get? a).map fun o => (a, o)
end
end Att
namespace L2
open PySem PySem.Spec PyProof.Rows
theorem zW : ∀ {vs : List Value} {ns : List Int}, IntsAre vs ns → Zx (ns.map V.int) vs
 | _, _, .nil => .nil
 | _, _, .cons n t h => .cons ⟨t, rfl⟩ (zW h)
def Only (H : Hp) : Prop := ∀ b, H b = none ∨ ∃ o xs, H b = some (.frz o (.lst xs))
theorem law_call {P : Program} {w : World} {K : PySem.W.Frag} {mg mb : Str → Option Value} {CX : CXT} {k : Nat} {fa a : Addr} {fd : FuncData} {x : Str} {sp : Sp} {s₁ : Shared} {vs : List Value} {ns : List Int}
  (KX : K.In s₁.heap) (hns : s₁.heap.Ns mainGlobals mg) (hb : s₁.heap.Ns builtinsNs mb) (hbb : ∀ x : Str, x ≠ "__name__" → mb x = bootBuiltins x) (hlim : s₁.heap.NoLimit) (hg : s₁.gens = #[])
  (ha : s₁.heap.get? a = some { cls := .type "list", data := .seq vs.toArray }) (hi : IntsAre vs ns) (hl : ns.length ≤ sizeLine) (hr : Y0 k callerA)
  (F : ∀ base : Heap, K.In base → base.Ns mainGlobals mg → Yr P w K mg base CX k fa fd [x] sp) (hbind : ∀ (s : Shared) (u : Value), BindsTo s fd ⟨[u], []⟩ [(x, u)])
  (hsp : ∀ H : Hp, Only H → SqL K H a (ns.map V.int) → sp [.ref a] H (fun v _ => v = .bl true) fun _ _ _ => False)
  (hCX : ∀ H e s', CX [] H s₁ (fun _ _ _ => False) e s' → False) :
  codeAny (model P w) callerA (.call (.ref fa) ⟨[.ref a], []⟩) (fun r s' => r = .ok (.ret (.bool true)) ∧ OldK s₁.heap s'.heap ∧ s'.os = s₁.os ∧ AllBare s'.gens) s₁ := by
 have rv := zW hi
 have lenV := hi.length
 have core : ∀ H : Hp, Only H → SqL K H a (ns.map V.int) → HOk P w H s₁.heap → (∀ b, H b ≠ none → b = a) → (H a ≠ none → K.lookup a = none) →
   codeAny (model P w) callerA (.call (.ref fa) ⟨[.ref a], []⟩) (fun r s' => r = .ok (.ret (.bool true)) ∧ OldK s₁.heap s'.heap ∧ s'.os = s₁.os ∧ AllBare s'.gens) s₁ := by
  intro H hO hS hok hA hK
  have base_of : ∀ {b : Addr} {o : Obj}, s₁.heap.get? b = some o → H b = none → (hidT s₁.heap H).get? b = some o := fun e n => hidT_get e n
  have noA : ∀ {b : Addr} {o : Obj} {es : Array DictEntry} {ep : Nat}, s₁.heap.get? b = some o → o.data = .dict es ep → H b = none := fun {b o es ep} e d => by
   cases q : H b with
   | none => rfl
   | some u =>
    have e' : b = a := hA b (by rw [q]; simp)
    subst e'
    rw [ha] at e; cases e
    have d' : Data.seq vs.toArray _ = Data.dict es ep := d
    cases d'
  have nsK : ∀ {b : Addr} {m : Str → Option Value}, s₁.heap.Ns b m → (hidT s₁.heap H).Ns b m := fun {b m} ⟨o, es, ep, e, d, r⟩ => ⟨o, es, ep, base_of e (noA e d), d, r⟩
  have hKb : K.In (hidT s₁.heap H) := fun b o e => base_of (KX b o e) (by
   cases q : H b with
   | none => rfl
   | some u =>
    have e' : b = a := hA b (by rw [q]; simp)
    subst e'
    rw [hK (by rw [q]; simp)] at e; cases e)
  have hM : Mod K mg (hidT s₁.heap H) := ⟨hKb, nsK hns, ⟨mb, nsK hb, hbb⟩, let ⟨mc, h1, h2⟩ := hlim; ⟨mc, nsK h1, h2⟩⟩
  have e0 : Env0 P w K mg (hidT s₁.heap H) callerA [] s₁ H := ⟨rfl, hM, fun b o e => of_hidT e, Nat.le_of_eq (hidT_size _ _), trivial, fun b hb => absurd (show b ∈ ([] : List Addr) from hb) (by simp), hok, .of_eq hg⟩
  refine codeAny_mono ((F _ hKb (nsK hns)).run callerA [] s₁ H ⟨[.ref a], []⟩ [.ref a] [.ref a] _ _ hr e0 (hbind s₁ (.ref a)) (.cons rfl .nil) (hsp H hO hS)) fun r s' h => ?_
  cases r with
  | error e => exact (hCX H e s' h).elim
  | ok fl =>
   cases fl with
   | next => exact False.elim h
   | brk => exact False.elim h
   | cont => exact False.elim h
   | ret u =>
    obtain ⟨v, H', os, bare, un, hok', r', q⟩ := h
    have q' : v = .bl true := q
    subst q'
    obtain rfl : u = Value.bool true := r'
    refine ⟨rfl, OldK.of_keep fun b o e => ?_, os, bare⟩
    cases q : H b with
    | none => exact un.keep b o e q (by intro z; exact absurd (show b ∈ ([] : List Addr) from z) (by simp)) (by simp)
    | some u =>
     rcases hO b with z | ⟨ob, xs, z⟩
     ·rw [q] at z; cases z
     ·have z2 := un.frzs b ob _ z
      obtain ⟨e1, _⟩ := hok b _ z
      obtain ⟨e2, _⟩ := hok' b _ z2
      rw [e] at e1; cases e1
      exact e2
 cases hk : K.lookup a with
 | some o =>
  have e := KX a o hk
  rw [ha] at e
  cases e
  refine core (fun _ => none) (fun _ => .inl rfl) (.inr ⟨_, vs.toArray, _, hk, rfl, rfl, rfl, by rw [List.size_toArray, lenV]; exact hl, by simpa using rv⟩) (fun b u z => by have z' : (none : Option HO) = some u := z; cases z') (fun b z => absurd rfl z) fun z => absurd rfl z
 | none =>
  refine core (fun b => if b = a then some (.frz { cls := .type "list", data := .seq vs.toArray } (.lst (ns.map V.int))) else none) (fun b => ?_) (.inl (.inr ⟨{ cls := .type "list", data := .seq vs.toArray }, if_pos rfl⟩)) (fun b u z => ?_) (fun b z => ?_) fun _ => hk
  ·by_cases hb : b = a
   ·exact .inr ⟨_, _, if_pos hb⟩
   ·exact .inl (if_neg hb)
  ·by_cases hb : b = a
   ·have z' := (if_pos hb).symm.trans z
    cases z'
    subst hb
    exact ⟨ha, by rw [List.length_map]; exact hl, vs, _, rv, ha⟩
   ·have z' := (if_neg hb).symm.trans z
    cases z'
  ·by_cases hb : b = a
   ·exact hb
   ·exact absurd (if_neg hb) z
theorem walk_of {l : PySem.W.OpenLaw} {n k : Nat} {q : Program} {loose : List Str} {XP : (Str → Option Value) → Heap → Prop} {YP : World → Heap → Prop} {d : DefRec} {K : Params → PySem.W.Frag} {CX : World → CXT} {sp : World → Sp} {x : Str}
  (hn : l.most = some n) (hn2 : n ≤ sizeLine) (hdf : d.params.defaults = []) (hr : Y0 k callerA)
  (hY : ∀ (w : World) (h : Heap), YP w h → (K w.params).In h)
  (F : ∀ (w : World) (mg : Str → Option Value) (fa : Addr) (h : Heap), (K w.params).In h → h.Ns mainGlobals mg → mg d.name = some (.ref fa) →
   ∃ fd : FuncData, (∀ (s : Shared) (u : Value), BindsTo s fd ⟨[u], []⟩ [(x, u)]) ∧
    ∀ base : Heap, (K w.params).In base → base.Ns mainGlobals mg → Yr l.prog w (K w.params) mg base (CX w) k fa fd [x] (sp w))
  (hsp : ∀ (w : World) (H : Hp) (a : Addr) (ns : List Int), ns.length ≤ n → Only H → SqL (K w.params) H a (ns.map V.int) → sp w [.ref a] H (fun v _ => v = .bl true) fun _ _ _ => False)
  (hCX : ∀ (w : World) (H : Hp) (s : Shared) (e : Value) (s' : Shared), CX w [] H s (fun _ _ _ => False) e s' → False) :
  PySem.W.WalkO q loose XP YP l.row.toRowW d [] (fun f vs => PySem.call f vs) := by
 refine Att.attach_call hn hdf fun w s₀ s₁ mg mb fa o pm cd doc a vs ns G Y ho hd hcd hmg hobj hints hlen hg => ?_
 have KX := hY w _ Y
 obtain ⟨fd, hb, hF⟩ := F w mg fa _ KX G.T.g hmg
 exact law_call KX G.T.g G.T.b G.T.builtins G.T.nolimit hg hobj hints (Nat.le_trans hlen hn2) hr hF hb (fun H hO hS => hsp w H a ns hlen hO hS) fun H e s' => hCX w H s₁ e s'
def Vd (s : Stmt) (j : Nat) : Stmt := match s with
 | .ClassDef _ _ _ body _ _ _ _ _ _ _ => body.getD j (.Pass ⟨0, 0, 0, 0⟩)
 | _ => .Pass ⟨0, 0, 0, 0⟩
def Zj (s : Stmt) : Arguments := match s with
 | .FunctionDef _ a _ _ _ _ _ _ _ _ => a
 | _ => { posonlyargs := [], args := [], vararg := none, kwonlyargs := [], kw_defaults := [], kwarg := none, defaults := [] }
def Zi (s : Stmt) : List Stmt := match s with
 | .FunctionDef _ _ b _ _ _ _ _ _ _ => b
 | _ => []
def Zb (s : Stmt) : Scope := match s with
 | .FunctionDef _ _ _ _ _ _ sc _ _ _ => sc
 | _ => { kind := .function, names := [], isGenerator := false, isCoroutine := false }
abbrev CX0 : CXT := fun _ _ _ _ _ _ => False
abbrev E0 : XK := fun _ _ _ => False
theorem ZG {X : Cx} : Wr CX0 X E0 := fun _ _ _ _ _ _ _ h => h.elim
structure Fun (K : PySem.W.Frag) (x qual : Str) (st : Stmt) (f : Addr) (fd : FuncData) : Prop where
 ex : ∃ (oc : Value) (od : Option Addr) (kV doc pm : Value) (an : Option Addr) (cdv ct : Value) (osl : Array (Option Value)),
  fd = PySem.W.fnOf x qual (Zj st) (Zi st) (Zb st) .none kV doc pm an cdv ct ∧ K.lookup f = some ⟨oc, od, .func fd, osl⟩ ∧ PySem.W.codeIn K cdv qual = true
 kp : PySem.W.keepIn K (.ref f) = true
section
variable {P : Program} {w : World} {K : PySem.W.Frag} {mg : Str → Option Value} {base : Heap}
theorem Fun.ok {x qual : Str} {st : Stmt} {f : Addr} {fd : FuncData} {N ps : List Str} {k : Nat} {sp : Sp} (F : Fun K x qual st f fd) (S : ZD N ps (Zb st)) (len : ∀ vs H Q E, sp vs H Q E → vs.length = ps.length)
  (hbody : ∀ (cdv : Value) (A : Around) (outer : List Env) (s : Shared) (H : Hp) (vs : List V) (Q : VK) (E : XK), Y0 k (A.deeper (envOfC qual (Zb st) s.heap.objs.size f cdv)) → sp vs H Q E →
   ∃ t, PSs (VL CX0 P w K mg base N qual (Zb st) f cdv A outer s H E).nox (Zi st) t ∧ t { nx := fun _ H' => Q .non H', rt := Q } (V3 N vs) H) : Yr P w K mg base CX0 (k + 1) f fd ps sp := by
 obtain ⟨oc, od, kV, doc, pm, an, cdv, ct, osl, rfl, lk, hcd⟩ := F.ex
 refine fn_of lk hcd S len fun A outer s H vs Q E hr hsp => ?_
 obtain ⟨t, h, q⟩ := hbody cdv A outer s H vs Q E hr hsp
 exact ⟨t, h.nox, q⟩
theorem Fun.binds {x qual : Str} {st : Stmt} {f : Addr} {fd : FuncData} {ps : List Str} (F : Fun K x qual st f fd)
  (h : ∀ (kV doc pm : Value) (an : Option Addr) (cdv ct : Value) (us : List Value), us.length = ps.length → bindArgs (PySem.W.fnOf x qual (Zj st) (Zi st) (Zb st) .none kV doc pm an cdv ct) ⟨us, []⟩ = pure (ps.zip us)) : Z6 K fd ps [] := by
 obtain ⟨oc, od, kV, doc, pm, an, cdv, ct, osl, rfl, lk, hcd⟩ := F.ex
 exact .all (h kV doc pm an cdv ct)
theorem Zo {x qual : Str} {st : Stmt} {f : Addr} {oc : Value} {od an : Option Addr} {osl : Array (Option Value)} {kV doc pm cdv ct : Value} (l : K.lookup f = some ⟨oc, od, .func (PySem.W.fnOf x qual (Zj st) (Zi st) (Zb st) .none kV doc pm an cdv ct), osl⟩)
  (c : PySem.W.codeIn K cdv qual = true) (k : PySem.W.keepIn K (.ref f) = true) : Fun K x qual st f (PySem.W.fnOf x qual (Zj st) (Zi st) (Zb st) .none kV doc pm an cdv ct) := ⟨⟨oc, od, kV, doc, pm, an, cdv, ct, osl, rfl, l, c⟩, k⟩
end
section
variable {X : Cx}
theorem pv (i : Nat) {x : Str} {pos : Pos} (hN : X.N[i]? = some x := by rfl) (hv : Vis X.env.scope x := by first | exact Or.inl rfl | exact Or.inr (Or.inl rfl) | exact Or.inr (Or.inr rfl)) (hd : (x == ("__debug__" : Str)) = false := by decide)
  (hcd : (x == ("__classdict__" : Str)) = false := by decide) : PE X (.Name x pos) (tVar i) := pe_var hN hv hd hcd
end
theorem YJ {A B : Prop} (h : B) : if false = true then A else B := by
 rw [if_neg Bool.false_ne_true]
 exact h
theorem Z2 {A B : Prop} (h : A) : if true = true then A else B := by
 rw [if_pos rfl]
 exact h
theorem Xj {c A B : Prop} [Decidable c] (h1 : c → A) (h2 : ¬ c → B) : if c then A else B := by
 by_cases h : c
 ·rw [if_pos h]
  exact h1 h
 ·rw [if_neg h]
  exact h2 h
theorem iteNS {c A B : Prop} [Decidable c] (hc : c) (h : B) : if (!decide c) = true then A else B := by
 rw [decide_eq_true hc]
 exact YJ h
def Zn (H H' : Hp) : Prop := ∀ b o, H b = some o → H' b = some o
theorem Zn.refl (H : Hp) : Zn H H := fun _ _ h => h
theorem Zn.trans {H H1 H2 : Hp} (a : Zn H H1) (b : Zn H1 H2) : Zn H H2 := fun c o h => b c o (a c o h)
theorem Zn.free {H H' : Hp} (e : Zn H H') {l : Addr} (h : H' l = Option.none) : H l = Option.none := by
 cases q : H l with
 | none => rfl
 | some o =>
  rw [e l o q] at h
  cases h
theorem Zn.seq {K : PySem.W.Frag} {H H' : Hp} {a : Addr} {xs : List V} (e : Zn H H') (h : SqL K H a xs) : SqL K H' a xs := by
 rcases h with (h | ⟨o, h⟩) | h
 ·exact .inl (.inl (e _ _ h))
 ·exact .inl (.inr ⟨o, e _ _ h⟩)
 ·exact .inr h
end L2
set_option maxHeartbeats 8000000
namespace L3
open PySem PySem.Spec PyProof.Rows L2
abbrev St := L2.St
def sub (ix : List (Option Nat)) (σ : St) : St := ix.map fun o => o.bind fun j => (σ[j]?).join
def PTs (X : Cx) (ifs : List Expr) (t : TT) : Prop :=
 ∀ (pins : List (Addr × Obj)) (s : Shared) (σ : St) (H : Hp) (Q : Bool → Hp → Prop), Inv X pins σ H s → t σ H Q →
  wpAny (model X.prog X.w) X.A (forIn ifs true fun c r => if r = true then do let ok ← isTrue c X.env (eval c X.env); pure (ForInStep.yield ok) else pure (ForInStep.yield r)) (TP X pins σ Q) X.xe s
def tTrue : TT := fun _ H Q => Q true H
theorem Yk {X : Cx} : PTs X [] tTrue := fun _ _ _ H _ I h => wpAny_tests_nil ⟨H, I, h⟩
theorem Wx {X : Cx} {c : Expr} {t : TT} (h : PT X c t) : PTs X [c] t := fun pins s σ H Q I q => wpAny_tests_one (h pins s σ H Q I q)
def YO (scope : Scope) (env : Env) : List (Str × Addr) := (scope.names.filter fun y => y.2 == .free).reverse.map fun y => (y.1, (env.cells.lookup y.1).getD 0)
theorem clos_loop {env : Env} : ∀ (ns : List (Str × NameKind)) (acc : List (Str × Addr)), (∀ y ∈ ns, y.2 = .free → (env.cells.lookup y.1).isSome = true) →
  (forIn ns acc fun (x : Str × NameKind) (r : List (Str × Addr)) => if x.2 == .free then do let a ← cellOf env x.1; pure (ForInStep.yield ((x.1, a) :: r)) else pure (ForInStep.yield r) : Sem (List (Str × Addr))) =
   pure ((ns.filter fun y => y.2 == .free).reverse.map (fun y => (y.1, (env.cells.lookup y.1).getD 0)) ++ acc) := by
 intro ns
 induction ns with
 | nil => intro acc _; rfl
 | cons y r ih =>
  intro acc h
  have hr : ∀ z ∈ r, z.2 = .free → (env.cells.lookup z.1).isSome = true := fun z hz => h z (List.mem_cons_of_mem _ hz)
  rw [List.forIn_cons]
  by_cases hf : (y.2 == NameKind.free) = true
  ·have hs := h y List.mem_cons_self (by simpa using hf)
   obtain ⟨c, hc⟩ := Option.isSome_iff_exists.mp hs
   have e1 : cellOf env y.1 = pure c := by unfold cellOf; rw [hc]
   rw [if_pos hf, e1, pure_bind, pure_bind]
   refine (ih _ hr).trans ?_
   rw [List.filter_cons_of_pos (by simpa using hf), List.reverse_cons, List.map_append]
   simp [hc]
  ·rw [if_neg hf, pure_bind]
   refine (ih _ hr).trans ?_
   rw [List.filter_cons_of_neg (by simpa using hf)]
theorem clos_eq {scope : Scope} {env : Env} (h : ∀ y ∈ scope.names, y.2 = .free → (env.cells.lookup y.1).isSome = true) : closureFor scope env = pure (YO scope env) := by
 have e := clos_loop (env := env) scope.names [] h
 rw [List.append_nil] at e
 unfold closureFor
 rw [show YO scope env = (scope.names.filter fun y => y.2 == .free).reverse.map (fun y => (y.1, (env.cells.lookup y.1).getD 0)) from rfl]
 rw [← pure_bind (m := Sem) ((scope.names.filter fun y => y.2 == .free).reverse.map (fun y => (y.1, (env.cells.lookup y.1).getD 0))) pure, ← e]
theorem WA {β : Type} (f : Str → β) : ∀ (l : List (Str × NameKind)) (x : Str), (l.map fun y => (y.1, f y.1)).lookup x = if x ∈ l.map (·.1) then some (f x) else none
 | [], x => by simp
 | y :: r, x => by
  rw [List.map_cons, List.lookup_cons, WA f r x]
  by_cases e : x = y.1
  ·subst e; simp
  ·have hb : (x == y.1) = false := by simpa using e
   rw [hb]
   by_cases hm : x ∈ r.map (·.1)
   ·rw [if_pos hm, if_pos (by rw [List.map_cons]; exact List.mem_cons_of_mem _ hm)]
   ·rw [if_neg hm, if_neg (by rw [List.map_cons]; intro z; rcases List.mem_cons.mp z with z | z; exact e z; exact hm z)]
theorem XH {scope : Scope} {env : Env} {x : Str} {c : Addr} (h : ∀ y ∈ scope.names, y.2 = .free → (env.cells.lookup y.1).isSome = true) (e : (YO scope env).lookup x = some c) : env.cells.lookup x = some c := by
 unfold YO at e
 rw [WA (fun z => (env.cells.lookup z).getD 0)] at e
 split at e
 ·rename_i hx
  obtain ⟨y, hy, rfl⟩ := List.mem_map.mp hx
  obtain ⟨h1, h2⟩ := List.mem_filter.mp (List.mem_reverse.mp hy)
  obtain ⟨d, hd⟩ := Option.isSome_iff_exists.mp (h y h1 (by simpa using h2))
  have e' := Option.some.inj e
  rw [hd] at e' ⊢
  exact congrArg some e'
 ·cases e
theorem U7 {scope : Scope} {env : Env} {x : Str} (hx : (x, NameKind.free) ∈ scope.names) : ∃ c, (YO scope env).lookup x = some c := by
 unfold YO
 rw [WA (fun z => (env.cells.lookup z).getD 0), if_pos]
 ·exact ⟨_, rfl⟩
 ·exact List.mem_map.mpr ⟨(x, .free), List.mem_reverse.mpr (List.mem_filter.mpr ⟨hx, by simp⟩), rfl⟩
theorem VQ {env : Env} : ∀ {names : List (Str × NameKind)} {x : Str} {k : NameKind},
  (names.map fun (n, k) => if (k == NameKind.free && env.scope.kind == .function && env.kindOf n == some .cell) then (n, NameKind.cell) else (n, k)).lookup x = some k →
   names.lookup x = some k ∨ (k = .cell ∧ names.lookup x = some .free)
 | [], _, _, h => by simp at h
 | (n, k0) :: r, x, k, h => by
  rw [List.map_cons] at h
  dsimp only at h
  cases hx : x == n with
  | true =>
   by_cases hc : (k0 == NameKind.free && env.scope.kind == .function && env.kindOf n == some .cell) = true
   ·rw [if_pos hc] at h
    simp only [List.lookup_cons, hx] at h ⊢
    have : k0 = .free := by
     have h1 := (Bool.and_eq_true _ _ ▸ ((Bool.and_eq_true _ _ ▸ hc).1)).1
     simpa using h1
    exact .inr ⟨(Option.some.inj h).symm, by rw [this]⟩
   ·rw [if_neg hc] at h
    simp only [List.lookup_cons, hx] at h ⊢
    exact .inl h
  | false =>
   have h' : (r.map fun (n, k) => if (k == NameKind.free && env.scope.kind == .function && env.kindOf n == some .cell) then (n, NameKind.cell) else (n, k)).lookup x = some k := by
    by_cases hc : (k0 == NameKind.free && env.scope.kind == .function && env.kindOf n == some .cell) = true
    ·rw [if_pos hc] at h; simpa only [List.lookup_cons, hx] using h
    ·rw [if_neg hc] at h; simpa only [List.lookup_cons, hx] using h
   simp only [List.lookup_cons, hx]
   exact VQ h'
theorem VR {env : Env} : ∀ {names : List (Str × NameKind)} {x : Str}, names.lookup x = some .free →
  (names.map fun (n, k) => if (k == NameKind.free && env.scope.kind == .function && env.kindOf n == some .cell) then (n, NameKind.cell) else (n, k)).lookup x = some .cell ∨
  (names.map fun (n, k) => if (k == NameKind.free && env.scope.kind == .function && env.kindOf n == some .cell) then (n, NameKind.cell) else (n, k)).lookup x = some .free
 | [], _, h => by simp at h
 | (n, k0) :: r, x, h => by
  rw [List.map_cons]
  dsimp only
  cases hx : x == n with
  | true =>
   simp only [List.lookup_cons, hx] at h
   have e : k0 = .free := Option.some.inj h
   by_cases hc : (k0 == NameKind.free && env.scope.kind == .function && env.kindOf n == some .cell) = true
   ·rw [if_pos hc]; exact .inl (by simp only [List.lookup_cons, hx])
   ·rw [if_neg hc]; exact .inr (by simp only [List.lookup_cons, hx]; rw [e])
  | false =>
   simp only [List.lookup_cons, hx] at h
   have ih := VR (env := env) h
   by_cases hc : (k0 == NameKind.free && env.scope.kind == .function && env.kindOf n == some .cell) = true
   ·rw [if_pos hc]; simpa only [List.lookup_cons, hx] using ih
   ·rw [if_neg hc]; simpa only [List.lookup_cons, hx] using ih
structure ZI (sc : Scope) (N Nc : List Str) (ix : List (Option Nat)) (scope : Scope) : Prop where
 kind : scope.kind = .function
 nocell : ∀ y ∈ scope.names, y.2 ≠ .cell
 names : ∀ y ∈ scope.names, y.2 = .local → scope.names.lookup y.1 = some .local
 free : ∀ y ∈ scope.names, y.2 = .free → sc.names.lookup y.1 = some .cell ∨ sc.names.lookup y.1 = some .free
 len : ix.length = Nc.length
 chk : ((ix.zip Nc).all fun p => match p.1 with | none => true | some j => N[j]? == some p.2 && scope.names.lookup p.2 == some .free) = true
theorem ZI.at_ {sc : Scope} {N Nc : List Str} {ix : List (Option Nat)} {scope : Scope} (o : ZI sc N Nc ix scope) {i j : Nat} {x : Str} (h1 : ix[i]? = some (some j)) (h2 : Nc[i]? = some x) : N[j]? = some x ∧ scope.names.lookup x = some .free := by
 have hm : (some j, x) ∈ ix.zip Nc := by
  refine List.mem_of_getElem? (i := i) ?_
  rw [List.getElem?_zip_eq_some]
  exact ⟨h1, h2⟩
 have q := List.all_eq_true.mp o.chk _ hm
 have q' := Bool.and_eq_true _ _ ▸ q
 exact ⟨by simpa using q'.1, by simpa using q'.2⟩
def Xh (X : Cx) (Nc : List Str) (scope : Scope) (cl : List (Str × Addr)) (C : Addr) (s : Shared) (H : Hp) (fp : List Addr) : Cx where
 prog := X.prog
 w := X.w
 K := X.K
 mg := X.mg
 base := X.base
 A := X.A
 N := Nc
 s₀ := s
 H₀ := H
 env := compEnvC scope cl C X.env
 outer := X.stack
 stack := X.stack
 ex := fp
 fn := fun x => (cl.lookup x).isNone
 calm := X.calm
 pn := X.pn
 xe := fun _ _ => False
def WY (X : Cx) (Nc : List Str) (scope : Scope) (cl : List (Str × Addr)) (C : Addr) (s : Shared) (H : Hp) (fp : List Addr) (xf : List (Str × Addr) → Addr → Shared → Hp → List Addr → Value → Shared → Prop) : Cx :=
 { Xh X Nc scope cl C s H fp with xe := xf cl C s H fp }
def zu (J : It) (D : Addr) (g : TG) (tt : TT) (te : TE) (σ0 : St) (H1 : Hp) (Q : VK) : Prop :=
 ∃ W : Nat → Nat → St → Hp → Prop, (∃ m, W 0 m σ0 (upd H1 D (.lst []))) ∧ ∀ i m σ' H', W i m σ' H' → (J.stop i H' ∧ Q (.ref D) H') ∨
  (J.go i H' ∧ ∃ (N : V → St → Hp → Prop) (N0 : St → Hp → Prop), (∀ v σ2 H5, N v σ2 H5 → ∃ xs, H5 D = some (.lst xs) ∧ xs.length < sizeLine ∧ ∃ m', m' < m ∧ W (i + 1) m' σ2 (upd H5 D (.lst (xs ++ [v])))) ∧
   (∀ σ2 H4, N0 σ2 H4 → ∃ m', m' < m ∧ W (i + 1) m' σ2 H4) ∧ ∀ x H2, J.yld i H' x H2 → g x σ' H2 fun σ2 H3 => tt σ2 H3 fun c H4 => if c = true then te σ2 H4 fun v H5 => N v σ2 H5 else N0 σ2 H4)
def zJ (wi : TI) (ix : List (Option Nat)) (g : TG) (tt : TT) (te : TE) : TE := fun σ H Q => wi σ H fun J H1 => ∀ D, H1 D = none → zu J D g tt te (sub ix σ) H1 Q
def qR (M : Model) (A : Around) (E : Value → Shared → Prop) (use : Option (Value → Sem Unit)) (Q : Value → Shared → Prop) (acc : Value) (ce : Env) (r : Result) (s' : Shared) : Prop :=
 match r with
 | .ok f => compPost M A E use Q acc ce.locals (.ok f) s'
 | .error x => ∃ m, s'.heap.Ns ce.locals m ∧ ∀ g, Heap.SameBut ce.locals s'.heap g → wpAny M A (passOn "comprehension.variables-let-go" x ce : Sem Value) (fun _ _ => False) E { s' with heap := g }
theorem vn {M : Model} {A : Around} {E : Value → Shared → Prop} {s : Shared} {env : Env} {e : Expr} {scope : Scope} {pos : Pos} {nA fi : Sem Value} {g : Comprehension} {gs : List Comprehension} {cl : List (Str × Addr)}
  {use : Option (Value → Sem Unit)} {Q : Value → Shared → Prop} (c1 : clausesOf e = g :: gs) (c2 : ∀ x, foldedSetIterable g.iter env x = pure x) (c3 : closureFor scope env = pure cl)
  (c4 : scope.kind = .function) (c5 : ∀ x ∈ scope.names, x.2 = .local → scope.names.lookup x.1 = some .local)
  (h : wpAny M A fi (fun x s1 => wpAny M A (pyIter x) (fun it s2 => wpAny M A nA (fun acc s3 => wpAny M A (newFunctionEnv scope env.globals cl [] env.qual none .none (some env)) (fun ce s4 =>
    codeAny M A (.compStart e 0 it acc { ce with scope := relabel scope env }) (qR M A E use Q acc { ce with scope := relabel scope env }) s4) E s3) E s2) E s1) E s) :
  wpAny M A (comprehension e scope env pos nA false fi use) Q E s := by
 unfold comprehension
 rw [c3, c1]
 refine wpAny_bind (wpAny_mono h (fun x s1 h1 => ?_) fun _ _ q => q)
 refine wpAny_bind (wpAny_standAt (wpAny_bind (wpAny_of_eq (c2 x) (wpAny_bind (wpAny_holding (wpAny_mono h1 (fun it s2 h2 => ?_) fun _ _ q => q))))))
 refine wpAny_standIf (wpAny_bind (wpAny_mono h2 (fun acc s3 h3 => ?_) fun _ _ q => q))
 refine wpAny_bind (wpAny_pure (wpAny_bind (wpAny_mono h3 (fun ce s4 h4 => ?_) fun _ _ q => q)))
 dsimp only
 have v1 : ∀ x ∈ (scope.names.filter fun x => (x.2 == .local || x.2 == .cell) && x.1 != (".0" : Str)).reverse, x.2 = .local →
   Env.kindOf { ce with scope := relabel scope env } x.1 = some .local := fun x hx hl => by
  refine lookup_relabel_local (c5 x ?_ hl)
  exact (List.mem_filter.mp (List.mem_reverse.mp hx)).1
 have v2 : ∀ x ∈ (scope.names.filter fun x => (x.2 == .local || x.2 == .cell) && x.1 != (".0" : Str)).reverse.drop 1 ++ (scope.names.filter fun x => (x.2 == .local || x.2 == .cell) && x.1 != (".0" : Str)).reverse.take 1,
   x.2 = .local → Env.kindOf { ce with scope := relabel scope env } x.1 = some .local := fun x hx hl => by
  rcases List.mem_append.mp hx with q | q
  ·exact v1 x (List.mem_of_mem_drop q) hl
  ·exact v1 x (List.mem_of_mem_take q) hl
 refine wpAny_holding (wpAny_bind (wpAny_attempt (wpAny_holding (wpAny_run (codeAny_mono h4 fun r s' hr => ?_)))))
 cases r with
 | ok f =>
  cases use with
  | none =>
   obtain ⟨m, hn, hr⟩ := hr
   refine wpAny_bind (wpAny_holding (wpAny_comp_letGo (cenv := { ce with scope := relabel scope env }) c4 _ s' m v1 hn fun g' m' _ q => ?_))
   exact wpAny_pure (hr g' q)
  | some u =>
   refine wpAny_bind (wpAny_rule (wpAny_bind (wpAny_holding (wpAny_mono hr (fun _ s5 q5 => ?_) fun _ _ q => q))))
   obtain ⟨m, hn, q5⟩ := q5
   refine wpAny_bind (wpAny_comp_letGo (cenv := { ce with scope := relabel scope env }) c4 _ s5 m v2 hn fun g' m' _ q => ?_)
   exact wpAny_pure (q5 g' q)
 | error x =>
  obtain ⟨m, hn, hr⟩ := hr
  refine wpAny_bind (wpAny_holding (wpAny_comp_letGo (cenv := { ce with scope := relabel scope env }) c4 _ s' m v1 hn fun g' m' _ q => ?_))
  exact wpAny_mono (hr g' q) (fun _ _ f => f.elim) fun _ _ y => y
theorem loop_ofX {prog : Program} {w : World} {A : Around} {R : Result → Shared → Prop} {s : Shared} {elt target iter : Expr} {ifs : List Expr} {scope : Scope} {pos : Pos} {it acc : Value} {env : Env} {F : Value → Shared → Prop} (J : Nat → Shared → Prop)
  (hF : ∀ e s', F e s' → notedBy (model prog w) A env (fun e s' => R (.error e) s') e s')
  (turn : ∀ n s, J n s → wpAny (model prog w) A (pyNext it) (fun r s1 => match r with
   | none => R (.ok .next) s1
   | some v => wpAny (model prog w) A (letOwnedTupleGo target it v) (fun _ s2 => wpAny (model prog w) A (assign target env v) (fun _ s3 =>
     wpAny (model prog w) A (forIn ifs true fun c r => if r = true then do let ok ← isTrue c env (eval c env); pure (ForInStep.yield ok) else pure (ForInStep.yield r)) (fun ok s4 =>
      if ok = true then wpAny (model prog w) A (eval elt env) (fun x s5 => wpAny (model prog w) A (call (.builtin "list.append") [acc, x]) (fun _ s6 => ∃ m, m < n ∧ J m s6) F s5) F s4
      else ∃ m, m < n ∧ J m s4) F s3) F s2) F s1) F s)
  (n : Nat) (h : J n s) : codeAny (model prog w) A (.compLoop (.ListComp elt [⟨target, iter, ifs, 0⟩] scope pos) 0 it acc env) R s := by
 refine codeAny_loop rfl J (fun k t hJ => ?_) n h
 show wpAny _ A ((compTurn (.ListComp elt [⟨target, iter, ifs, 0⟩] scope pos) 0 it acc env).onRaise _) _ _ t
 refine wpAny_noted ?_
 rw [compTurn_list]
 refine wpAny_bind (wpAny_standAt (wpAny_bind (wpAny_mono (turn k t hJ) (fun r s1 h1 => ?_) hF)))
 cases r with
 | none => exact wpAny_pure h1
 | some v =>
  refine wpAny_bind (wpAny_mono h1 (fun _ s2 h2 => wpAny_bind (wpAny_mono h2 (fun _ s3 h3 => wpAny_bind (wpAny_mono h3 (fun ok s4 h4 => ?_) hF)) hF)) hF)
  cases ok with
  | false => exact wpAny_pure ⟨rfl, h4⟩
  | true => exact wpAny_bind (wpAny_bind (wpAny_mono h4 (fun x s5 h5 => wpAny_bind (wpAny_mono h5 (fun _ s6 h6 => wpAny_pure (wpAny_pure ⟨rfl, h6⟩)) hF)) hF))
section
variable {X : Cx} {pins : List (Addr × Obj)} {σ : St} {H : Hp} {s : Shared} {Nc : List Str} {ix : List (Option Nat)} {scope : Scope}
theorem V5 (I : Inv X pins σ H s) (ok : ZI X.env.scope X.N Nc ix scope) : ∀ y ∈ scope.names, y.2 = .free → (X.env.cells.lookup y.1).isSome = true := fun y hy hf => by
 obtain ⟨c, hc⟩ := I.ok.has y.1 (ok.free y hy hf)
 rw [hc]; rfl
theorem vM {fp : List Addr} {h1 : Heap} {t' : Nat} (I : Inv X pins σ H s) (ok : ZI X.env.scope X.N Nc ix scope) (hf : ∀ b ∈ fp, WS X pins H b) (hob : ∀ b ∈ fp, ∃ o, s.heap.get? b = some o)
  {m : Str → Option Value} (hn : h1.Ns s.heap.objs.size m) (hk : ∀ b o, s.heap.get? b = some o → h1.get? b = some o) :
  Inv (Xh X Nc scope (YO scope X.env) s.heap.objs.size s H fp) pins (sub ix σ) H { s with heap := h1, toks := t' } := by
 have ac := V5 I ok
 have old : ∀ {b : Addr} {o : Obj}, s.heap.get? b = some o → b ≠ s.heap.objs.size := fun e => Nat.ne_of_lt (Heap.lt_size e)
 refine ⟨⟨I.ok.mod, ?_, I.ok.glob, I.ok.blt, Nat.le_refl _, ?_, ?_, ?_, I.ok.hd, I.ok.frames, .inl rfl, ?_, I.bs, Nat.le_trans I.ok.bsz I.sz, ?_, ?_, I.stack, I.stkFree⟩, rfl, I.bare, Un.kept hk, ⟨m, hn, ?_⟩, ?_, ?_, ?_, ?_, I.hok.kept hk, ?_⟩
 ·exact ok.kind
 ·intro x y c e1 e2
  exact I.ok.inj x y c (XH ac e1) (XH ac e2)
 ·intro x hx
  have key : ∀ k, (relabel scope X.env).names.lookup x = some k → (k = .cell ∨ k = .free) → ∃ c, (YO scope X.env).lookup x = some c := fun k e hkk => by
   rcases VQ e with q | ⟨_, q⟩
   ·rcases hkk with rfl | rfl
    ·exact absurd rfl (ok.nocell _ (PySem.mem_of_lookup q))
    ·exact U7 (PySem.mem_of_lookup q)
   ·exact U7 (PySem.mem_of_lookup q)
  rcases hx with e | e
  ·exact key _ e (.inl rfl)
  ·exact key _ e (.inr rfl)
 ·intro x c hfn e
  have e' : (YO scope X.env).lookup x = some c := e
  have hfn' : ((YO scope X.env).lookup x).isNone = true := hfn
  rw [e'] at hfn'; cases hfn'
 ·intro b hb
  obtain ⟨o, e⟩ := hob b hb
  obtain ⟨f0, f1, f2, f3, f4, f5⟩ := hf b hb
  exact ⟨old e, fun x c q => f4 x c (XH ac q)⟩
 ·intro b o e hb
  obtain ⟨f0, f1, f2, f3, f4, f5⟩ := hf b hb
  rcases f3 with z | z
  ·exact I.ok.noex b o e z
  ·exact absurd (Nat.lt_of_lt_of_le (Nat.lt_of_lt_of_le (Heap.lt_size e) I.ok.bsz) z) (Nat.lt_irrefl _)
 ·intro b hb hz
  obtain ⟨f0, f1, f2, f3, f4, f5⟩ := hf b hb
  rcases List.mem_cons.mp (I.stkSub b hz) with z | z
  ·exact f1 z
  ·exact f2 z
 ·intro i x v e1 e2 e3
  have e1 : Nc[i]? = some x := e1
  unfold sub at e2
  rw [List.getElem?_map] at e2
  cases hi : ix[i]? with
  | none => rw [hi] at e2; cases e2
  | some o =>
   cases o with
   | none => rw [hi] at e2; cases e2
   | some j =>
    obtain ⟨hN, hfree⟩ := ok.at_ hi e1
    have e4 : σ[j]? = some (some v) := by
     rw [hi] at e2
     have e2' : some ((σ[j]?).join) = some (some v) := e2
     have e5 := Option.some.inj e2'
     cases hj : σ[j]? with
     | none => rw [hj] at e5; cases e5
     | some z => rw [hj] at e5; exact congrArg some e5
    have hvis : Vis X.env.scope x := by
     rcases ok.free (x, .free) (PySem.mem_of_lookup hfree) rfl with q | q
     ·exact .inr (.inl q)
     ·exact .inr (.inr q)
    obtain ⟨m0, hn0, hl⟩ := I.loc
    obtain ⟨u, r, lk⟩ := hl j x v hN e4 hvis
    refine ⟨u, r, .inr ⟨VR hfree, ?_⟩⟩
    rcases lk with ⟨q, _⟩ | ⟨_, c, hc, z⟩
    ·rcases ok.free (x, .free) (PySem.mem_of_lookup hfree) rfl with q2 | q2
     ·exact absurd (q.symm.trans q2) (by decide)
     ·exact absurd (q.symm.trans q2) (by decide)
    ·obtain ⟨d, hd⟩ := U7 (env := X.env) (PySem.mem_of_lookup hfree)
     have := XH ac hd
     rw [hc] at this; cases this
     obtain ⟨oc, e5, e6⟩ := z
     exact ⟨c, hd, oc, hk c oc e5, e6⟩
 ·intro x c e
  obtain ⟨v, oc, e5, e6⟩ := I.cell x c (XH ac e)
  exact ⟨v, oc, hk c oc e5, e6⟩
 ·exact I.hok.fresh (Nat.le_refl _)
 ·intro x c e
  exact I.freeC x c (XH ac e)
 ·intro p hp
  obtain ⟨e, n, ne, nf, d⟩ := I.pin p hp
  refine ⟨hk _ _ e, n, old e, fun z => ?_, d⟩
  rcases List.mem_cons.mp (I.stkSub p.1 z) with q | q
  ·exact ne q
  ·exact nf q
 ·unfold sub
  rw [List.length_map]
  exact ok.len
theorem xv {fp : List Addr} {cl : List (Str × Addr)} {C : Addr} {σ' : St} {H' : Hp} {s' : Shared} {h' : Heap} (I : Inv X pins σ H s) (hf : ∀ b ∈ fp, WS X pins H b) (hC : s.heap.get? C = none)
  (J : Inv (Xh X Nc scope cl C s H fp) pins σ' H' s') (sb : Heap.SameBut C s'.heap h') : Inv X pins σ H' { s' with heap := h' } := by
 have u : Un (frs X.stack) fp H H' s.heap s'.heap := J.base
 have hCf : H' C = none := J.free
 have hCn : ∀ {b : Addr} {o : Obj}, s.heap.get? b = some o → b ≠ C := fun e z => by rw [z, hC] at e; cases e
 refine I.call' (s' := { s' with heap := h' }) (ch := fp) J.os ⟨fun b o e n h1 h2 => ?_, fun b o e n h1 h2 => ?_, u.free, fun b o e h2 => ?_, u.tups, u.frzs, u.tbls⟩ ?_ J.bare fun b hb => ?_
 ·exact (sb.2 b (hCn e)).trans (u.keep b o e n h1 h2)
 ·obtain ⟨sl, q⟩ := u.slot b o e n h1 h2
  exact ⟨sl, (sb.2 b (hCn e)).trans q⟩
 ·obtain ⟨o', q⟩ := u.there b o e h2
  exact ⟨o', (sb.2 b (hCn e)).trans q⟩
 ·intro b o e
  refine (J.hok b o e).stay (fun c v hc q => (sb.2 c ?_).trans q) (fun _ q => q) fun _ _ q => q
  rintro rfl
  rcases hc with z | z
  ·rw [← z, hCf] at e; cases e
  ·rw [hCf] at z; cases z
 ·obtain ⟨f0, f1, f2, f3, f4, f5⟩ := hf b hb
  exact ⟨f3, f1, f4, f5⟩
theorem zz {xf : List (Str × Addr) → Addr → Shared → Hp → List Addr → Value → Shared → Prop} {elt tg iter : Expr} {ifs : List Expr} {pos pos2 : Pos} {wi : TI} {g : TG} {tt : TT} {te : TE} {use : Option (Value → Sem Unit)} {QV : Value → Shared → Prop} {Q : VK}
  (flies : ∀ (B D : Addr) (s3 : Shared) (H3 : Hp) (fp : List Addr), L2.Inv X pins σ H3 s3 → (∀ b ∈ fp, WS X pins H3 b) → s3.heap.get? B = none → ∀ e s', xf (YO scope X.env) B s3 H3 fp e s' →
   notedBy (model X.prog X.w) X.A (compEnvC scope (YO scope X.env) B X.env) (fun e s' => qR (model X.prog X.w) X.A X.xe use QV (.ref D) (compEnvC scope (YO scope X.env) B X.env) (.error e) s') e s') (I : L2.Inv X pins σ H s) (h : zJ wi ix g tt te σ H Q)
  (fin : ∀ (D C : Addr) (H' : Hp) (s' : Shared) (m : Str → Option Value), L2.Inv X pins σ H' s' → WS X pins H' C → s'.heap.Ns C m → Q (.ref D) H' → compPost (model X.prog X.w) X.A X.xe use QV (.ref D) C (.ok .next) s')
  (ok : ZI X.env.scope X.N Nc ix scope) (hc : X.calm = true) (hi : PI X tg iter wi)
  (hg : ∀ cl C s H fp, PG (WY X Nc scope cl C s H fp xf) tg g) (ht : ∀ cl C s H fp, PTs (WY X Nc scope cl C s H fp xf) ifs tt) (he : ∀ cl C s H fp, PE (WY X Nc scope cl C s H fp xf) elt te)
  (hs : ∀ x, foldedSetIterable iter X.env x = pure x := by intro _; rfl) : wpAny (model X.prog X.w) X.A (comprehension (.ListComp elt [⟨tg, iter, ifs, 0⟩] scope pos) scope X.env pos2 (newList []) false (eval iter X.env) use) QV X.xe s := by
 refine vn (use := use) (cl := YO scope X.env) rfl hs (clos_eq (V5 I ok)) ok.kind ok.names (thn (hi pins s σ H _ I h) fun v s1 q1 => thn q1 fun itv s2 q2 => ?_)
 obtain ⟨it, fp, tn, J, H1, e, I2, T, st2, f2, q⟩ := q2
 subst e
 have hD : H1 s2.heap.objs.size = none := I2.hok.fresh (Nat.le_refl _)
 obtain ⟨W, ⟨m0, w0⟩, turn⟩ := q _ hD
 refine wpAny_newObj_type ?_
 have I3 : Inv X pins σ (upd H1 s2.heap.objs.size (.lst [])) { s2 with heap := s2.heap.push { cls := .type "list", data := .seq ([] : List Value).toArray } } :=
  I2.laid (t' := s2.toks) (fun b u e => Heap.get?_push_of_some _ e) (Nat.le_refl _) ⟨Nat.zero_le _, [], 0, .nil, Heap.get?_push_size _ rfl⟩
 have hob2 := T.obj 0 _ st2
 have f3 : ∀ b ∈ fp, WS X pins (upd H1 s2.heap.objs.size (.lst [])) b := fun b hb => by
  obtain ⟨o, e, _⟩ := hob2 b hb
  obtain ⟨f0, fr⟩ := f2 b hb
  exact ⟨by rw [Zv (Nat.ne_of_lt (Heap.lt_size e))]; exact f0, fr⟩
 have st3 : tn 0 (s2.heap.push { cls := .type "list", data := .seq ([] : List Value).toArray }) := T.keep 0 _ _ st2 fun b _ o e => Heap.get?_push_of_some _ e
 generalize hs3 : ({ s2 with heap := s2.heap.push { cls := .type "list", data := .seq ([] : List Value).toArray } } : Shared) = s3 at I3 ⊢
 have st3' : tn 0 s3.heap := by rw [← hs3]; exact st3
 refine wpAny_newFunctionEnv ok.nocell (by intro y hy; simp at hy) (fun h1 hns hsb => ?_) ok.kind
 have k1 : ∀ b o, s3.heap.get? b = some o → h1.get? b = some o := fun b o e => (hsb.2 b (Nat.ne_of_lt (Heap.lt_size e))).trans (Heap.get?_push_of_some _ e)
 have hob3 : ∀ b ∈ fp, ∃ o, s3.heap.get? b = some o := fun b hb => let ⟨o, e, _⟩ := T.obj 0 _ st3' b hb; ⟨o, e⟩
 have I4 : Inv (WY X Nc scope (YO scope X.env) s3.heap.objs.size s3 (upd H1 s2.heap.objs.size (.lst [])) fp xf) pins (sub ix σ) (upd H1 s2.heap.objs.size (.lst [])) { s3 with heap := h1, toks := s3.toks + ([] : List (Str × Value)).length } :=
  (vM I3 ok f3 hob3 hns k1).wish _
 have st4 : tn 0 h1 := T.keep 0 _ _ st3' fun b _ o e => k1 b o e
 have hC : s3.heap.get? s3.heap.objs.size = none := Heap.get?_none_of_le (Nat.le_refl _)
 have flies' := flies s3.heap.objs.size s2.heap.objs.size s3 _ fp I3 f3 hC
 generalize hX : WY X Nc scope (YO scope X.env) s3.heap.objs.size s3 (upd H1 s2.heap.objs.size (.lst [])) fp xf = Y at I4
 have stat : ∀ {H' : Hp}, (∀ b ∈ fp, H' b = none) → ∀ b ∈ fp, WS Y pins H' b := fun {H'} hn b hb => by
  obtain ⟨o, e⟩ := hob3 b hb
  obtain ⟨f0, f1, ff, f3', f4, f5⟩ := f3 b hb
  have nst : b ∉ frs X.stack := fun z => by
   rcases List.mem_cons.mp (I3.stkSub b z) with z | z
   ·exact f1 z
   ·exact ff z
  subst hX
  exact ⟨hn b hb, Nat.ne_of_lt (Heap.lt_size e), nst, .inl hb, fun x c q => f4 x c (XH (V5 I3 ok) q), f5⟩
 have fin' : ∀ {σ' : L2.St} {H' : Hp} {s' : Shared}, L2.Inv Y pins σ' H' s' → Q (.ref s2.heap.objs.size) H' → compPost (model X.prog X.w) X.A X.xe use QV (.ref s2.heap.objs.size) s3.heap.objs.size (.ok .next) s' := fun {σ' H' s'} J' qq => by
  subst hX
  obtain ⟨m', hn', _⟩ := id J'.loc
  have hCn : H' s3.heap.objs.size = none := J'.free
  have J2 : L2.Inv (Xh X Nc scope (YO scope X.env) s3.heap.objs.size s3 (upd H1 s2.heap.objs.size (.lst [])) fp) pins σ' H' s' := J'.wish _
  exact fin _ _ H' s' m' (xv (h' := s'.heap) I3 f3 hC J2 (.refl ..)) (I3.fpOk (Nat.le_refl _) hCn) hn' qq
 have loop : codeAny (model X.prog X.w) X.A (.compLoop (.ListComp elt [⟨tg, iter, ifs, 0⟩] scope pos) 0 (.ref it) (.ref s2.heap.objs.size) Y.env)
   (qR (model X.prog X.w) X.A X.xe use QV (.ref s2.heap.objs.size) (compEnvC scope (YO scope X.env) s3.heap.objs.size X.env)) { s3 with heap := h1, toks := s3.toks + ([] : List (Str × Value)).length } := by
  have eP : Y.prog = X.prog := by subst hX; rfl
  have eW : Y.w = X.w := by subst hX; rfl
  have eK : Y.K = X.K := by subst hX; rfl
  have eA : Y.A = X.A := by subst hX; rfl
  have eC : Y.calm = true := by subst hX; exact hc
  have eV : Y.env = compEnvC scope (YO scope X.env) s3.heap.objs.size X.env := by subst hX; rfl
  have hFl : ∀ e s', Y.xe e s' → notedBy (model X.prog X.w) X.A Y.env (fun e s' => qR (model X.prog X.w) X.A X.xe use QV (.ref s2.heap.objs.size) (compEnvC scope (YO scope X.env) s3.heap.objs.size X.env) (.error e) s') e s' := by
   subst hX
   exact fun e s' hx => flies' e s' hx
  have hgY : PG Y tg g := by subst hX; exact hg _ _ _ _ _
  have htY : PTs Y ifs tt := by subst hX; exact ht _ _ _ _ _
  have heY : PE Y elt te := by subst hX; exact he _ _ _ _ _
  unfold PG at hgY
  unfold PTs at htY
  unfold PE at heY
  rw [eP, eW, eA] at hgY htY heY
  refine loop_ofX (F := Y.xe) (fun n s' => ∃ i σ' H', Inv Y pins σ' H' s' ∧ tn i s'.heap ∧ (∀ b ∈ fp, H' b = none) ∧ W i n σ' H') hFl ?_ m0 ⟨0, sub ix σ, _, I4, st4, fun b hb => (f3 b hb).1, w0⟩
  rintro n s5 ⟨i, σ5, H5, I5, st5, fr5, w5⟩
  have TI := T.item Y eP eW eK eC i pins s5 σ5 H5 Y.xe I5 (stat fr5) st5
  have TD := T.done Y eP eW eK eC i pins s5 σ5 H5 Y.xe I5 (stat fr5) st5
  rw [eA] at TI TD
  rcases turn i n σ5 H5 w5 with ⟨stop, qn⟩ | ⟨go, N, N0, hN, hN0, step⟩
  ·refine thn (TD stop) fun r s6 ⟨hr, I6⟩ => ?_
   subst hr
   exact fin' I6 qn
  ·refine thn (TI go) fun r s6 ⟨u, hr, h6⟩ => ?_
   subst hr
   refine thn h6 fun _ s7 ⟨x, H7, I7, r7, y7, st7, fr7⟩ => ?_
   have I7' := I7.pinned (stat fr7) (T.obj _ _ st7)
   refine thn (hgY _ s7 σ5 H7 x u _ I7' r7 (step x H7 y7)) fun _ s8 ⟨σ8, H8, I8, q8⟩ => ?_
   refine thn (htY _ s8 σ8 H8 _ I8 q8) fun c s9 ⟨H9, I9, q9⟩ => ?_
   have back : ∀ {σa : L2.St} {Ha : Hp} {sa : Shared}, Inv Y (pins ++ Uo fp s7.heap) σa Ha sa → (∃ m', m' < n ∧ W (i + 1) m' σa Ha) → ∃ m, m < n ∧ ∃ i σ' H', Inv Y pins σ' H' sa ∧ tn i sa.heap ∧ (∀ b ∈ fp, H' b = none) ∧ W i m σ' H' := fun {σa Ha sa} Ia ⟨m', hm, wa⟩ => by
    refine ⟨m', hm, i + 1, σa, Ha, Ia.unpinned, T.keep _ _ _ st7 fun b hb o e => (Ia.pin (b, o) (List.mem_append_right _ (List.mem_append_right _ (Ww hb e)))).1, fun b hb => ?_, wa⟩
    obtain ⟨o, e, d⟩ := T.obj _ _ st7 b hb
    exact (Ia.pin (b, o) (List.mem_append_right _ (List.mem_append_right _ (Ww hb e)))).2.1
   cases c with
   | false => exact back I9 (hN0 _ _ (by simpa using q9))
   | true =>
    rw [if_pos rfl] at q9 ⊢
    refine thn (heY _ s9 σ8 H9 _ I9 q9) fun z s10 ⟨v10, H10, I10, r10, q10⟩ => ?_
    obtain ⟨xs, hx, hz, q10⟩ := hN _ _ _ q10
    have ap := XI (X := Y) (pins ++ Uo fp s7.heap) s10 σ8 H10 (.ref s2.heap.objs.size) [v10] (.ref s2.heap.objs.size) [z] (fun _ Hb => ∃ m', m' < n ∧ W (i + 1) m' σ8 Hb) I10 rfl (.cons r10 .nil) ⟨_, xs, v10, rfl, rfl, hx, hz, q10⟩
    rw [eP, eW, eA] at ap
    exact thn ap fun _ s11 ⟨_, H11, I11, _, q11⟩ => back I11 q11
 have eenv : Y.env = compEnvC scope (YO scope X.env) s3.heap.objs.size X.env := by subst hX; rfl
 rw [eenv] at loop
 exact codeAny_compStart_list loop (T.self X.A 0 _ _ _ st4 loop)
theorem yZ {elt tg iter : Expr} {ifs : List Expr} {pos pos2 : Pos} {wi : TI} {g : TG} {tt : TT} {te : TE} {use : Option (Value → Sem Unit)} {QV : Value → Shared → Prop} {Q : VK} (I : L2.Inv X pins σ H s) (h : zJ wi ix g tt te σ H Q)
  (fin : ∀ (D C : Addr) (H' : Hp) (s' : Shared) (m : Str → Option Value), L2.Inv X pins σ H' s' → WS X pins H' C → s'.heap.Ns C m → Q (.ref D) H' → compPost (model X.prog X.w) X.A X.xe use QV (.ref D) C (.ok .next) s')
  (ok : ZI X.env.scope X.N Nc ix scope) (hc : X.calm = true) (hi : PI X tg iter wi)
  (hg : ∀ cl C s H fp, PG (Xh X Nc scope cl C s H fp) tg g) (ht : ∀ cl C s H fp, PTs (Xh X Nc scope cl C s H fp) ifs tt) (he : ∀ cl C s H fp, PE (Xh X Nc scope cl C s H fp) elt te)
  (hs : ∀ x, foldedSetIterable iter X.env x = pure x := by intro _; rfl) : wpAny (model X.prog X.w) X.A (comprehension (.ListComp elt [⟨tg, iter, ifs, 0⟩] scope pos) scope X.env pos2 (newList []) false (eval iter X.env) use) QV X.xe s :=
 zz (xf := fun _ _ _ _ _ _ _ => False) (fun _ _ _ _ _ _ _ _ _ _ z => z.elim) I h fin ok hc hi hg ht he hs
theorem Ys {elt tg iter : Expr} {ifs : List Expr} {pos : Pos} {wi : TI} {g : TG} {tt : TT} {te : TE} (ok : ZI X.env.scope X.N Nc ix scope) (hc : X.calm = true) (hi : PI X tg iter wi)
  (hg : ∀ cl C s H fp, PG (Xh X Nc scope cl C s H fp) tg g) (ht : ∀ cl C s H fp, PTs (Xh X Nc scope cl C s H fp) ifs tt) (he : ∀ cl C s H fp, PE (Xh X Nc scope cl C s H fp) elt te)
  (hs : ∀ x, foldedSetIterable iter X.env x = pure x := by intro _; rfl) : PE X (.ListComp elt [⟨tg, iter, ifs, 0⟩] scope pos) (zJ wi ix g tt te) := by
 intro pins s σ H Q I h
 rw [eval_ListComp]
 refine yZ (use := none) I h (fun D C H' s' m I' f hn qq => ?_) ok hc hi hg ht he hs
 obtain ⟨f0, f1, f2, f3, f4, f5⟩ := f
 exact ⟨m, hn, fun h' sb => ⟨.ref D, H', I'.turned (t' := s'.toks) (fun b o hb e => (sb.2 b hb).trans e) f0 f1 f3 f4 f5, rfl, qq⟩⟩
theorem Xb {i : Nat} {x : Str} {elt tg iter : Expr} {ifs : List Expr} {pos spos pos' : Pos} {wi : TI} {g : TG} {tt : TT} {te : TE} (hN : X.N.Nodup) (hi : X.N[i]? = some x) (hx : X.env.kindOf x = some .local)
  (ok : ZI X.env.scope X.N Nc ix scope) (hc : X.calm = true) (hit : PI X tg iter wi)
  (hg : ∀ cl C s H fp, PG (Xh X Nc scope cl C s H fp) tg g) (ht : ∀ cl C s H fp, PTs (Xh X Nc scope cl C s H fp) ifs tt) (he : ∀ cl C s H fp, PE (Xh X Nc scope cl C s H fp) elt te)
  (hsw : swapsWith (.ListComp elt [⟨tg, iter, ifs, 0⟩] scope pos) (some (.Name x pos')) spos.line X.env = pure true := by rfl)
  (hs : ∀ x, foldedSetIterable iter X.env x = pure x := by intro _; rfl) : PS X (.Assign [.Name x pos'] (.ListComp elt [⟨tg, iter, ifs, 0⟩] scope pos) spos) (tAsg (zJ wi ix g tt te) (Wi i)) := by
 intro pins s σ H D I h
 rw [exec_Assign_Name_used _ _ _ _ hsw]
 refine wpAny_bind (wpAny_standAt (wpAny_bind ?_))
 show wpAny _ X.A (do let _ ← comprehension (.ListComp elt [⟨tg, iter, ifs, 0⟩] scope pos) scope X.env _ (newList []) false (eval iter X.env) (some (assign (.Name x pos') X.env))) _ _ s
 refine wpAny_bind (thn (yZ (use := some (assign (.Name x pos') X.env)) (QV := fun _ s' => SP X pins D .next s') I h (fun L C H' s' m I' f hn qq => ?_) ok hc hit hg ht he hs) fun _ s' q => wpAny_pure (wpAny_pure q))
 obtain ⟨f0, f1, f2, f3, f4, f5⟩ := f
 refine wpAny_assign_Name (Uc (v := .ref L) I' hN hi (.inl hx) rfl (fun s2 I2 ⟨a, sb, ha⟩ => ?_) (.inr hx))
 have hCa : C ≠ a := by
  rintro rfl
  rcases ha with z | z
  ·exact f1 z
  ·exact f4 _ _ z rfl
 exact ⟨m, hn.sameBut sb hCa, fun h' sb' => ⟨_, H', I2.turned (t' := s2.toks) (fun b o hb e => (sb'.2 b hb).trans e) f0 f1 f3 f4 f5, qq⟩⟩
end
def Vx (k : Key) (l : List Key) : Bool := l.any fun x => decide (x = k)
theorem xa {k : Key} {l : List Key} : Vx k l = true ↔ k ∈ l := by
 unfold Vx
 rw [List.any_eq_true]
 constructor
 ·rintro ⟨x, hx, e⟩
  have := of_decide_eq_true e
  subst this; exact hx
 ·intro h; exact ⟨k, h, by simp⟩
theorem memK_snoc (k' k : Key) (l : List Key) : (Vx k' l || decide (k' = k)) = Vx k' (l ++ [k]) := by
 unfold Vx
 rw [List.any_append]
 by_cases e : k' = k
 ·subst e; simp
 ·have e' : ¬ k = k' := fun z => e z.symm
  simp [e, e']
theorem memK_not {k : Key} {l : List Key} (h : ¬ k ∈ l) : Vx k l = false := by
 cases e : Vx k l with
 | false => rfl
 | true => exact absurd (xa.mp e) h
theorem x9 {k : Key} {v : Value} (h : WU k v = true) : v.scannable = true := by
 rcases Yz h with ⟨i, t, rfl, rfl⟩ | ⟨x, t, rfl, rfl⟩ <;> rfl
theorem VT {prog : Program} {w : World} {h : Heap} {a : Addr} {S S' : Key → Bool} {n n' : Nat} (x : h.SetOf (Z5 prog w) a S n) (e : ∀ k, S k = S' k) (en : n = n') : h.SetOf (Z5 prog w) a S' n' := by
 have : S = S' := funext e
 subst this; subst en; exact x
theorem VD {prog : Program} {w : World} {h h' : Heap} {a : Addr} {S : Key → Bool} {n : Nat} (x : h.SetOf (Z5 prog w) a S n) (k : ∀ o, h.get? a = some o → h'.get? a = some o) : h'.SetOf (Z5 prog w) a S n := by
 obtain ⟨o, es, ep, t, ho, r⟩ := x
 exact ⟨o, es, ep, t, k o ho, r⟩
section
variable {prog : Program} {w : World} {A : Around} {E : Value → Shared → Prop} {R : Result → Shared → Prop}
theorem set_loop {I ax S : Addr} {items : Array Value} {ks : List Key} (hh : A.handled = none) (hne : ax ≠ I) (hSI : S ≠ I) (hSa : S ≠ ax)
  (hv : ∀ (i : Nat) v, items[i]? = some v → ∃ k, ks[i]? = some k ∧ WU k v = true) (hl : ks.length = items.size) (hb : items.size + 1 < scanBound) :
  ∀ (c i : Nat) (s : Shared) (n : Nat), items.size - i = c → i ≤ items.size → s.heap.IsListIter I ax i ∧ s.heap.IsList ax items →
   s.heap.SetOf (Z5 prog w) S (fun k => Vx k (ks.take i)) n → n ≤ i → (n = i ↔ (ks.take i).Nodup) →
   (∀ (h' : Heap) (tk n' : Nat), h'.SetOf (Z5 prog w) S (fun k => Vx k ks) n' → n' ≤ ks.length → (n' = ks.length ↔ ks.Nodup) → (∀ b o, b ≠ S → b ≠ I → s.heap.get? b = some o → h'.get? b = some o) →
    R (.ok (.ret .none)) { s with heap := h', toks := tk }) →
   codeAny (model prog w) A (.builtin "set.update.loop" ⟨[.ref S, .ref I], []⟩) R s := by
 have W := Walks.list (prog := prog) (w := w) (A := A.in1) (by simpa using hh) I ax hne items
 intro c
 induction c with
 | zero =>
  intro i s n hc hi st hS hn hnd hR
  have e : i = items.size := by omega
  subst e
  refine codeAny_builtin PyProof.Rows.F.entry_set_update_loop ?_
  rw [Around.under_plainId PyProof.Rows.F.plain_set_update_loop _]
  show wpAny _ A.in1 (pyNext (.ref I) >>= _) _ _ s
  refine wpAny_bind (W.done s _ _ st fun h' tk hk => ?_)
  show wpAny _ A.in1 (ret Value.none) _ _ _
  have et : ks.take items.size = ks := by rw [← hl]; exact List.take_length
  rw [et] at hnd
  refine wpAny_pure (hR h' tk n (VT (VD hS fun o z => hk S o (by simpa using hSI) z) (fun k => by rw [et]) rfl) (by omega) (by rw [hl]; exact hnd) fun b o _ hbI z => hk b o (by simpa using hbI) z)
 | succ c ih =>
  intro i s n hc hi st hS hn hnd hR
  have hlt : i < items.size := by omega
  refine codeAny_builtin PyProof.Rows.F.entry_set_update_loop ?_
  rw [Around.under_plainId PyProof.Rows.F.plain_set_update_loop _]
  show wpAny _ A.in1 (pyNext (.ref I) >>= _) _ _ s
  refine wpAny_bind (W.item i s _ _ hlt st fun v h1 tk hP st1 hk => ?_)
  obtain ⟨k, hki, kis⟩ := hv i v hP
  have hS1 : h1.SetOf (Z5 prog w) S (fun k => Vx k (ks.take i)) n := VD hS fun o z => hk S o (by simpa using hSI) z
  show wpAny _ A.in1 (holding [v] (setAdd S v) >>= _) _ _ { s with heap := h1, toks := tk }
  refine wpAny_bind (wpAny_holding ?_)
  unfold setAdd
  refine wpAny_holding (wpAny_bind ((Z5 prog w).pyHash (k := k) kis ?_))
  refine wpAny_setAddHashed_of (knd := Z5 prog w) (s := { s with heap := h1, toks := tk + 1 }) kis (x9 kis) hS1 (by omega) fun h2 hsb hS2 => ?_
  have hik : i < ks.length := by omega
  have ek : ks[i] = k := by
   have := List.getElem?_eq_getElem hik
   rw [hki] at this
   exact (Option.some.inj this).symm
  have et : ks.take (i + 1) = ks.take i ++ [k] := by rw [List.take_add_one, hki]; rfl
  have e1 : ∀ k', (Vx k' (ks.take i) || decide (k' = k)) = Vx k' (ks.take (i + 1)) := fun k' => by rw [et]; exact memK_snoc _ _ _
  by_cases hin : k ∈ ks.take i
  ·have hS3 := VT (n' := n) hS2 e1 (by rw [if_pos (xa.mpr hin)])
   refine wpAny_pure ⟨plainId_quiet PyProof.Rows.F.plain_set_update_loop _, ih (i + 1) _ n (by omega) hlt (W.frame _ _ _ st1 fun b hb o z => ?_) hS3 (by omega) ?_ fun h' tk' n' a1 a2 a3 a4 => ?_⟩
   ·rw [hsb.2 b (fun q => by subst q; simp at hb; exact hb.elim hSI hSa)]; exact z
   ·constructor
    ·intro q; omega
    ·intro q
     rw [et] at q
     exact absurd hin (fun z => (List.nodup_append.mp q).2.2 _ z _ (by simp) rfl)
   ·exact hR h' tk' n' a1 a2 a3 fun b o hbS hbI z => a4 b o hbS hbI (by rw [hsb.2 b hbS]; exact hk b o (by simpa using hbI) z)
  ·have hS3 := VT (n' := n + 1) hS2 e1 (by rw [memK_not hin]; rfl)
   refine wpAny_pure ⟨plainId_quiet PyProof.Rows.F.plain_set_update_loop _, ih (i + 1) _ (n + 1) (by omega) hlt (W.frame _ _ _ st1 fun b hb o z => ?_) hS3 (by omega) ?_ fun h' tk' n' a1 a2 a3 a4 => ?_⟩
   ·rw [hsb.2 b (fun q => by subst q; simp at hb; exact hb.elim hSI hSa)]; exact z
   ·rw [et]
    constructor
    ·intro q
     exact List.nodup_append.mpr ⟨hnd.mp (by omega), by simp, fun a ha b hb q2 => by rw [List.mem_singleton.mp hb] at q2; subst q2; exact hin ha⟩
    ·intro q
     have := hnd.mpr (List.nodup_append.mp q).1
     omega
   ·exact hR h' tk' n' a1 a2 a3 fun b o hbS hbI z => a4 b o hbS hbI (by rw [hsb.2 b hbS]; exact hk b o (by simpa using hbI) z)
set_option maxHeartbeats 8000000 in
theorem zi {s : Shared} {l : Addr} {items : Array Value} {ks : List Key} {Q : Value → Shared → Prop} (hh : A.handled = none) (hl : s.heap.IsList l items)
  (hv : ∀ (i : Nat) v, items[i]? = some v → ∃ k, ks[i]? = some k ∧ WU k v = true) (hz : ks.length = items.size) (hb : items.size + 1 < scanBound)
  (h : ∀ (h' : Heap) (tk n : Nat), h'.SetOf (Z5 prog w) s.heap.objs.size (fun k => Vx k ks) n → n ≤ ks.length → (n = ks.length ↔ ks.Nodup) → (∀ b o, s.heap.get? b = some o → h'.get? b = some o) → Q (.ref s.heap.objs.size) { s with heap := h', toks := tk }) :
  wpAny (model prog w) A (call (.type "set") [.ref l]) Q E s := by
 have hmade := PySem.F.called_set.made
 have hsub := PySem.F.called_set.sub
 obtain ⟨c, tl, hmro⟩ := PySem.F.called_set.mro
 refine wpAny_call (codeAny_of_tree (wpAny_pure ⟨Code.quiet_builtin _ (by decide +kernel), codeAny_builtin PySem.F.entry_type_call ?_⟩))
 rw [Around.under_plain (weight_type_call_type "set" [.ref l] []) rfl]
 have g1 := PySem.F.called_set.notType
 have g2 := PySem.F.called_set.canCreate
 have g3 := PySem.F.typeCall_set_1 (.ref l)
 repeat (any_goals (first | assumption | wp_step))
 refine codeAny_mono (code_set_new_1 (.ref l) (E := E) (Q₁ := fun obj t => ∃ led : Bool, obj = .ref s.heap.objs.size ∧ t = { s with heap := s.heap.push { cls := .type "set", dict := none, data := .set #[] 0 (.fresh 0 0 led) } }) fun led => ⟨led, rfl, rfl⟩) fun r t hr => ?_
 cases r with
 | error e => exact hr
 | ok fl =>
  cases fl with
  | ret obj =>
   obtain ⟨led, rfl, rfl⟩ := hr
   have hS : (s.heap.push { cls := .type "set", dict := none, data := .set #[] 0 (.fresh 0 0 led) }).get? s.heap.objs.size = some { cls := .type "set", dict := none, data := .set #[] 0 (.fresh 0 0 led) } := Heap.get?_push_size _ rfl
   have hT : Shared.TypeIs { s with heap := s.heap.push { cls := .type "set", dict := none, data := .set #[] 0 (.fresh 0 0 led) } } (.ref s.heap.objs.size) "set" := ⟨_, hS, rfl⟩
   have hli := PySem.F.called_set.init.lookup
   have hbi := PySem.F.called_set.init.bind (.ref s.heap.objs.size)
   repeat (any_goals (first | assumption | wp_step))
   refine codeAny_mono (codeAny_call_builtin (R := wants (fun r u => r = .none ∧ ∃ h' tk n, u = { s with heap := h', toks := tk } ∧ h'.SetOf (Z5 prog w) s.heap.objs.size (fun k => Vx k ks) n ∧ n ≤ ks.length ∧ (n = ks.length ↔ ks.Nodup) ∧
     (∀ b o, s.heap.get? b = some o → h'.get? b = some o)) E) PySem.F.called_set.init.plain PySem.F.entry_set_init (check_set_init_1 hT ?_)) fun r2 u hr2 => ?_
   ·obtain ⟨ol, hol, hcl, nl, hdl⟩ := hl
    obtain ⟨ocls, odict, odata, oslots⟩ := ol
    simp only at hcl hdl
    subst hcl; subst hdl
    have hol' : (s.heap.push { cls := .type "set", dict := none, data := .set #[] 0 (.fresh 0 0 led) }).get? l = some { cls := .type "list", dict := odict, data := .seq items nl, slots := oslots } := Heap.get?_push_of_some _ hol
    have hsls := PySem.F.sub_list_set
    have hslf := PySem.F.sub_list_frozenset
    have hne : (Value.type "list" == Value.type "dict") = false := by decide
    have hl1 : (s.heap.push { cls := .type "set", dict := none, data := .set #[] 0 (.fresh 0 0 led) }).IsList l items := ⟨_, hol', rfl, nl, rfl⟩
    unfold Builtin.«set.__init__» noKeywords Builtin.Frozenset.updateFrom
    generalize hPI : pyIter = PI
    wp_walk
    subst hPI
    refine wpAny_pyIter_list hl1 ?_
    refine wpAny_bind (wpAny_runValue ?_)
    have hlS : l < s.heap.objs.size := Heap.lt_size hol
    have z1 : (s.heap.push { cls := .type "set", dict := none, data := .set #[] 0 (.fresh 0 0 led) }).objs.size = s.heap.objs.size + 1 := Heap.size_push _ _
    refine set_loop (ks := ks) (items := items) (ax := l) (by simpa using hh) (by rw [z1]; exact Nat.ne_of_lt (Nat.lt_succ_of_lt hlS)) (by rw [z1]; exact Nat.ne_of_lt (Nat.lt_succ_self _)) (Nat.ne_of_gt hlS) hv hz hb (items.size - 0) 0 _ 0 (by omega) (Nat.zero_le _)
     ⟨⟨_, Heap.get?_push_size _ rfl, rfl, rfl⟩, (hl1.push _)⟩ ?hS0 (Nat.le_refl _) (by simp) ?hR
    case hS0 =>
     refine VT (VD (h := s.heap.push { cls := .type "set", dict := none, data := .set #[] 0 (.fresh 0 0 led) }) ?_ fun o z => Heap.get?_push_of_some _ z) (S := fun _ => false) (fun k => rfl) rfl
     exact ⟨_, #[], 0, _, hS, ⟨rfl, rfl, rfl⟩, rfl, (fun e he => by simp at he), (fun k => by simp [Vx]), (by unfold scanBound; decide), rfl, rfl⟩
    case hR =>
     intro h' tk n a1 a2 a3 a4
     show wpAny _ _ _ _ _ _
     refine wpAny_pure ?_
     show wpAny _ _ (ret Value.none) _ _ _
     refine wpAny_pure ⟨rfl, h', tk, n, rfl, a1, a2, a3, fun b o z => ?_⟩
     have hlt := Heap.lt_size z
     exact a4 b o (Nat.ne_of_lt hlt) (by rw [z1]; exact Nat.ne_of_lt (Nat.lt_succ_of_lt hlt)) (Heap.get?_push_of_some _ (Heap.get?_push_of_some _ z))
   ·cases r2 with
    | error e => exact hr2
    | ok fl2 =>
     cases fl2 with
     | ret r =>
      obtain ⟨rfl, h', tk, n, rfl, a1, a2, a3, a4⟩ := hr2
      repeat (any_goals (first | assumption | wp_step))
      exact h _ _ n a1 a2 a3 a4
     | _ => exact hr2.elim
  | _ => exact hr.elim
end
def SetN (a : Addr) (n : Nat) : HO := .ext fun h => ∃ o es ep t, h.get? a = some o ∧ o.ExactSet ∧ o.data = .set es ep t ∧ t.fits es.size = true ∧ es.size = n
section
variable {X : Cx}
theorem zw : ∀ {ks : List Key} {us : List Value}, Zx (ks.map kV) us → ∀ (i : Nat) v, us[i]? = some v → ∃ k, ks[i]? = some k ∧ WU k v = true
 | [], _, .nil, i, v, h => by simp at h
 | k :: r, _, .cons a b, 0, v, h => by
  simp at h; subst h
  refine ⟨k, rfl, ?_⟩
  cases k with
  | inl n => obtain ⟨t, rfl⟩ := a; exact keyIs_int n t
  | inr x => obtain ⟨t, rfl⟩ := a; exact Ve x t
 | k :: r, _, .cons a b, i + 1, v, h => by
  obtain ⟨k', e, q⟩ := zw b i v (by simpa using h)
  exact ⟨k', by simpa using e, q⟩
theorem call_set (hc : X.calm = true) : Yy X (.type "set") (fun xs H Q => ∃ (p : Addr) (ks : List Key), xs = [.ref p] ∧ SqL X.K H p (ks.map kV) ∧ ks.length < 4000 ∧ ∀ n a, n ≤ ks.length → (n = ks.length ↔ ks.Nodup) → H a = none → Q (.ref a) (upd H a (SetN a n))) := by
 intro pins s σ H xs us Q I r h
 obtain ⟨p, ks, rfl, hq, hl, q⟩ := h
 obtain ⟨u, rfl, ru⟩ := XU r
 obtain rfl : u = Value.ref p := ru
 obtain ⟨its, rv, pl, hz⟩ := I.list hq
 have el := rv.length
 rw [List.length_map] at el
 refine zi (I.ok.hd hc) pl.isList (fun i v e => zw rv i v (by simpa using e)) (by simpa using el) (by unfold scanBound; simp; omega) fun h' tk n a1 a2 a3 a4 => ?_
 refine ⟨.ref s.heap.objs.size, _, I.laid a4 (Nat.le_refl _) ?_, rfl, q n _ a2 a3 (I.hok.fresh (Nat.le_refl _))⟩
 obtain ⟨o, es, ep, t, ho, e1, e2, e3, e4, e5, e6, e7⟩ := a1
 refine ⟨⟨o, es, ep, t, ho, e1, e2, e6, e7⟩, ⟨o, ho⟩, ?_⟩
 rintro h1 h2 ⟨o1, es1, ep1, t1, b1, b2⟩ k
 exact ⟨o1, es1, ep1, t1, k _ b1, b2⟩
theorem call_lenS : Yy X (.builtin "len") (fun xs H Q => ∃ a n, xs = [.ref a] ∧ H a = some (SetN a n) ∧ n < 4000 ∧ Q (.int n) H) := by
 intro pins s σ H xs us Q I r h
 obtain ⟨a, n, rfl, ha, hn, q⟩ := h
 obtain ⟨u, rfl, ru⟩ := XU r
 obtain rfl : u = Value.ref a := ru
 obtain ⟨⟨o, es, ep, t, e1, e2, e3, e4, e5⟩, _⟩ := I.hok a _ ha
 refine call_len_set e1 e2 e3 e4 (by omega) ?_
 exact ⟨.int n, H, I.tok _, ⟨_, by rw [e5]⟩, q⟩
end
def ZS (ns : List Int) : List Int := ns.mergeSort fun a b => decide (a ≤ b)
theorem Yi (ns : List Int) : (ZS ns).Perm ns := List.mergeSort_perm _ _
theorem xF (ns : List Int) : (ZS ns).Pairwise (· ≤ ·) := by
 have h := List.pairwise_mergeSort (le := fun a b : Int => decide (a ≤ b)) (fun a b c h1 h2 => by simp at *; omega) (fun a b => by simp; omega) ns
 exact h.imp fun h => by simpa using h
theorem sortI_eq {ns ms : List Int} (hp : ms.Perm ns) (hs : ms.Pairwise (· ≤ ·)) : ms = ZS ns :=
 PySem.W.ksm_same (hp.trans (Yi ns).symm) hs (xF ns)
def leS (a b : Str) : Bool := !decide (b.cps.toList < a.cps.toList)
theorem zB (a b c : Str) (h1 : leS a b = true) (h2 : leS b c = true) : leS a c = true := by
 unfold leS at *
 simp only [Bool.not_eq_true', decide_eq_false_iff_not, List.not_lt] at *
 exact List.le_trans h1 h2
theorem leS_total (a b : Str) : (leS a b || leS b a) = true := by
 unfold leS
 simp only [Bool.or_eq_true, Bool.not_eq_true', decide_eq_false_iff_not, List.not_lt]
 exact List.le_total _ _
theorem U4 {a b : Str} (h1 : leS a b = true) (h2 : leS b a = true) : a = b := by
 unfold leS at *
 simp only [Bool.not_eq_true', decide_eq_false_iff_not, List.not_lt] at *
 have e := List.le_antisymm h1 h2
 cases a; cases b
 simp only [Str.mk.injEq]
 exact Array.toList_inj.mp e
def Y3 (ss : List Str) : List Str := ss.mergeSort leS
theorem YN (ss : List Str) : (Y3 ss).Perm ss := List.mergeSort_perm _ _
theorem xB (ss : List Str) : (Y3 ss).Pairwise (fun a b => leS a b = true) := List.pairwise_mergeSort (le := leS) zB leS_total ss
theorem qh {ss ts : List Str} (hp : ts.Perm ss) (hs : ts.Pairwise fun a b => leS a b = true) : ts = Y3 ss :=
 (hp.trans (YN ss).symm).eq_of_pairwise (fun x y _ _ h1 h2 => U4 h1 h2) hs (xB ss)
theorem zR : ∀ (l : List Str) (p : Str), risingS p l = true → (∀ y ∈ l, leS p y = true) ∧ l.Pairwise fun a b => leS a b = true
 | [], _, _ => ⟨fun _ h => (nomatch h), .nil⟩
 | x :: r, p, h => by
  have h' : (!ltCps x.cps.toList p.cps.toList && risingS x r) = true := h
  rw [Bool.and_eq_true] at h'
  have hx : leS p x = true := by
   have := h'.1
   rw [ltCps_eq] at this
   exact this
  obtain ⟨a, b⟩ := zR r x h'.2
  refine ⟨fun y hy => ?_, .cons (fun y hy => a y hy) b⟩
  rcases List.mem_cons.mp hy with rfl | hy
  ·exact hx
  ·exact zB _ _ _ hx (a y hy)
theorem qv {l : List Str} (h : sortedS l = true) : l.Pairwise fun a b => leS a b = true := by
 cases l with
 | nil => exact .nil
 | cons x r =>
  obtain ⟨a, b⟩ := zR r x h
  exact .cons a b
theorem qS : ∀ {ss : List Str} {us : List Value}, Zx (ss.map V.str) us → StrsAre us ss
 | [], _, .nil => .nil
 | x :: r, _, .cons a b => by
  obtain ⟨t, rfl⟩ := a
  exact .cons x t (qS b)
theorem Vb : ∀ {ss : List Str} {us : List Value}, StrsAre us ss → Zx (ss.map V.str) us
 | _, _, .nil => .nil
 | _, _, .cons y t r => .cons ⟨t, rfl⟩ (Vb r)
theorem qJ : ∀ {ns : List Int} {us : List Value}, IntsAre us ns → Zx (ns.map V.int) us
 | _, _, .nil => .nil
 | _, _, .cons n t r => .cons ⟨t, rfl⟩ (qJ r)
theorem qm : ∀ {bs : List Bool} {us : List Value}, Zx (bs.map V.bl) us → ∀ (i : Nat) v, us[i]? = some v → ∃ b, bs[i]? = some b ∧ v = .bool b
 | [], _, .nil, i, v, h => by simp at h
 | b :: r, _, .cons a c, 0, v, h => by simp at h; subst h; exact ⟨b, rfl, a⟩
 | b :: r, _, .cons a c, i + 1, v, h => by
  obtain ⟨b', e, q⟩ := qm c i v (by simpa using h)
  exact ⟨b', by simpa using e, q⟩
section
variable {X : Cx}
theorem ya : Yy X (.builtin "sorted") (fun xs H Q => ∃ (p : Addr) (ns : List Int), xs = [.ref p] ∧ SqL X.K H p (ns.map V.int) ∧ ns.length < 64 ∧ ∀ l, H l = none → Q (.ref l) (upd H l (.lst ((ZS ns).map V.int)))) := by
 intro pins s σ H xs us Q I r h
 obtain ⟨p, ns, rfl, hq, hl, q⟩ := h
 obtain ⟨u, rfl, ru⟩ := XU r
 obtain rfl : u = Value.ref p := ru
 obtain ⟨its, rv, pl, hz⟩ := I.list hq
 have el := rv.length
 rw [List.length_map] at el
 refine sorted_ints pl.isList (vp rv) (by omega) fun out ms a1 a2 a3 => ?_
 obtain rfl := sortI_eq a2 a3
 obtain ⟨e, he⟩ := sortedAll_at s.heap its out
 have hlen : ((ZS ns).map V.int).length ≤ sizeLine := by rw [List.length_map, (Yi ns).length_eq, ← List.length_map (f := V.int)]; exact hz
 have ne : H (s.heap.objs.size + 1) = none := I.hok.fresh (Nat.le_succ _)
 exact ⟨.ref (s.heap.objs.size + 1), _, I.laid (o := .lst ((ZS ns).map V.int)) (t' := s.toks) (fun b o z => sortedAll_old z) (Nat.le_succ _) ⟨hlen, out.toList, e, qJ a1, by simpa using he⟩, rfl, q _ ne⟩
theorem yh : Yy X (.builtin "sorted") (fun xs H Q => ∃ (p : Addr) (ss : List Str), xs = [.ref p] ∧ SqL X.K H p (ss.map V.str) ∧ ss.length < 64 ∧ ∀ l, H l = none → Q (.ref l) (upd H l (.lst ((Y3 ss).map V.str)))) := by
 intro pins s σ H xs us Q I r h
 obtain ⟨p, ns, rfl, hq, hl, q⟩ := h
 obtain ⟨u, rfl, ru⟩ := XU r
 obtain rfl : u = Value.ref p := ru
 obtain ⟨its, rv, pl, hz⟩ := I.list hq
 have el := rv.length
 rw [List.length_map] at el
 refine sorted_strs pl.isList (qS rv) (by omega) fun out ms a1 a2 a3 => ?_
 obtain rfl := qh a2 (qv a3)
 obtain ⟨e, he⟩ := sortedAll_at s.heap its out
 have hlen : ((Y3 ns).map V.str).length ≤ sizeLine := by rw [List.length_map, (YN ns).length_eq, ← List.length_map (f := V.str)]; exact hz
 have ne : H (s.heap.objs.size + 1) = none := I.hok.fresh (Nat.le_succ _)
 exact ⟨.ref (s.heap.objs.size + 1), _, I.laid (o := .lst ((Y3 ns).map V.str)) (t' := s.toks) (fun b o z => sortedAll_old z) (Nat.le_succ _) ⟨hlen, out.toList, e, Vb a1, by simpa using he⟩, rfl, q _ ne⟩
def rSorted (K : PySem.W.Frag) : List V → Hp → VK → Prop := fun xs H Q => (∃ (p : Addr) (ss : List Str), xs = [.ref p] ∧ SqL K H p (ss.map V.str) ∧ ss.length < 64 ∧ ∀ l, H l = none → Q (.ref l) (upd H l (.lst ((Y3 ss).map V.str)))) ∨ (∃ (p : Addr) (ns : List Int), xs = [.ref p] ∧ SqL K H p (ns.map V.int) ∧ ns.length < 64 ∧ ∀ l, H l = none → Q (.ref l) (upd H l (.lst ((ZS ns).map V.int))))
theorem xA : Yy X (.builtin "sorted") (rSorted X.K) := yh.or ya
theorem range_all {bs : List Bool} : ((List.range bs.length).all fun i => (bs[i]?).getD true) = bs.all id := by
 induction bs with
 | nil => rfl
 | cons b r ih =>
  rw [List.length_cons, List.range_succ_eq_map, List.all_cons, List.all_map, List.all_cons, ← ih]
  rfl
theorem call_all (hc : X.calm = true) : Yy X (.builtin "all") (fun xs H Q => ∃ (p : Addr) (bs : List Bool), xs = [.ref p] ∧ SqL X.K H p (bs.map V.bl) ∧ Q (.bl (bs.all id)) H) := by
 intro pins s σ H xs us Q I r h
 obtain ⟨p, bs, rfl, hq, q⟩ := h
 obtain ⟨u, rfl, ru⟩ := XU r
 obtain rfl : u = Value.ref p := ru
 obtain ⟨its, rv, pl, hz⟩ := I.list hq
 have el := rv.length
 rw [List.length_map] at el
 have hlt : p < s.heap.objs.size := by obtain ⟨_, e, _⟩ := pl.isList; exact Heap.lt_size e
 refine call_all_walk (wpAny_pyIter_list pl.isList ?_)
 refine ⟨s.heap.objs.size, [s.heap.objs.size, p], [s.heap.objs.size], its.toArray.size, _, _, fun i => (bs[i]?).getD true, rfl, Walks.list (A := X.A.in1) (by simpa using I.ok.hd hc) _ p (Nat.ne_of_lt hlt) its.toArray,
  ⟨⟨_, Heap.get?_push_size _ rfl, rfl, rfl⟩, pl.isList.push _⟩, fun i v s' Q' E' hP hQ => ?_, fun h' tk hk => ?_⟩
 ·obtain ⟨b, e, rfl⟩ := qm rv i v (by simpa using hP)
  simp only [e, Option.getD_some] at hQ
  exact wpAny_truthy_bool hQ
 ·rw [List.size_toArray, ← el, range_all]
  exact ⟨.bl _, H, I.kept fun b o e => hk b o (by simpa using Nat.ne_of_lt (Heap.lt_size e)) (Heap.get?_push_of_some _ e), rfl, q⟩
theorem call_rng : Yy X (.type "range") (fun xs H Q => ∃ j : Int, xs = [.int j] ∧ ∀ p, H p = none → Q (.ref p) (upd H p (.rng 0 j))) := by
 intro pins s σ H xs us Q I r h
 obtain ⟨j, rfl, q⟩ := h
 obtain ⟨u, rfl, ru⟩ := XU r
 obtain ⟨t, rfl⟩ := (show ∃ t, u = Value.int j t from ru)
 refine call_range_1 ?_
 exact ⟨.ref s.heap.objs.size, _, I.laid (o := .rng 0 j) (fun b o e => Heap.get?_push_of_some _ e) (Nat.le_refl _) ⟨_, _, _, Heap.get?_push_size _ rfl⟩, rfl, q _ (I.hok.fresh (Nat.le_refl _))⟩
def upTo (n : Int) : List Int := (List.range n.toNat).map fun (k : Nat) => (k : Int)
theorem xS {its : List Value} {n : Nat} {lo : Int} (h : ItemsOf (fun i v => ∃ t, v = .int (lo + i * 1) t) its.toArray n) : Zx ((List.range n).map fun (k : Nat) => V.int (lo + (k : Int))) its := by
 obtain ⟨h1, h2⟩ := h
 rw [List.size_toArray] at h1
 induction its generalizing n lo with
 | nil => simp at h1; subst h1; exact .nil
 | cons u r ih =>
  cases n with
  | zero => simp at h1
  | succ n =>
   rw [List.range_succ_eq_map, List.map_cons, List.map_map]
   obtain ⟨t, e⟩ := h2 0 u (by simp)
   refine .cons ⟨t, by rw [e]; simp⟩ ?_
   have := ih (n := n) (lo := lo + 1) (by simpa using h1) (fun j v hj => by
    obtain ⟨t, e⟩ := h2 (j + 1) v (by simpa using hj)
    exact ⟨t, by rw [e]; congr 1; push_cast; omega⟩)
   refine (show Zx _ r from ?_)
   have e2 : (List.range n).map (fun (k : Nat) => V.int (lo + 1 + (k : Int))) = (List.range n).map ((fun (k : Nat) => V.int (lo + (k : Int))) ∘ Nat.succ) := by
    apply List.map_congr_left
    intro k _
    simp only [Function.comp]
    congr 1
    push_cast
    omega
   rw [← e2]; exact this
theorem zh (hc : X.calm = true) : Yy X (.type "list") (fun xs H Q => ∃ (p : Addr) (j : Int), xs = [.ref p] ∧ H p = some (.rng 0 j) ∧ 0 ≤ j ∧ j ≤ 1000000 ∧ ∀ l, H l = none → Q (.ref l) (upd H l (.lst ((upTo j).map V.int)))) := by
 intro pins s σ H xs us Q I r h
 obtain ⟨p, j, rfl, hp, h0, h1, q⟩ := h
 obtain ⟨u, rfl, ru⟩ := XU r
 obtain rfl : u = Value.ref p := ru
 obtain ⟨t, u, v, e⟩ := I.hok p _ hp
 refine call_list_range (a := 0) (b := j) (c := 1) (n := j.toNat) (I.ok.hd hc) e (small_one (by omega) (by omega) (by omega) (by omega)) (by rw [rangeSize_one]; split <;> omega) (by omega) fun h' tk acc c' hk he hi => ?_
 have hv : Zx ((upTo j).map V.int) acc.toList := by
  have := xS (its := acc.toList) (n := j.toNat) (lo := 0) (by simpa using hi)
  unfold upTo
  rw [List.map_map]
  have e2 : (List.range j.toNat).map (fun (k : Nat) => V.int (0 + (k : Int))) = (List.range j.toNat).map (V.int ∘ fun (k : Nat) => (k : Int)) := by
   apply List.map_congr_left
   intro k _
   simp
  rw [← e2]; exact this
 have hz : ((upTo j).map V.int).length ≤ sizeLine := by unfold upTo; rw [List.length_map, List.length_map, List.length_range, sizeLine_eq]; omega
 exact ⟨.ref s.heap.objs.size, _, I.laid (o := .lst ((upTo j).map V.int)) hk (Nat.le_refl _) ⟨hz, acc.toList, c', hv, by simpa using he⟩, rfl, q _ (I.hok.fresh (Nat.le_refl _))⟩
def tRev (K : PySem.W.Frag) (te : TE) (ts : TO) : TE := fun σ H Q => te σ H fun x H1 => ts σ H1 fun k H2 => ∃ a xs, x = .ref a ∧ k = some (-1) ∧ SqL K H2 a xs ∧ ∀ p, H2 p = none → Q (.ref p) (upd H2 p (.lst xs.reverse))
theorem pe_rev {e st : Expr} {te : TE} {ts : TO} {pos p2 : Pos} (he : PE X e te) (hs : PO X (some st) ts) : PE X (.Subscript e (.Slice none none (some st) p2) pos) (tRev X.K te ts) := by
 intro pins s σ H Q I h
 refine Subscript_ (thn (he pins s σ H _ I h) fun v s1 ⟨x, H1, I1, r1, q1⟩ => ?_)
 refine wpAny_Slice ?_
 rw [evalPart_none]
 refine wpAny_pure (wpAny_pure (thn (hs pins s1 σ H1 _ I1 q1) fun vk s3 ⟨k, H3, I3, pk, q3⟩ => ?_))
 obtain ⟨a, xs, rfl, rfl, hq, q⟩ := q3
 obtain rfl : v = Value.ref a := r1
 obtain ⟨its, r, ht, hz⟩ := I3.list hq
 have hlen := r.length
 have I4 : Inv X pins σ H3 { s3 with heap := s3.heap.push { cls := .type "slice", data := .fields #[.none, .none, vk] } } := I3.kept (t' := s3.toks) fun b ob q => Heap.get?_push_of_some _ q
 obtain ⟨its4, r4, ht4, hz4⟩ := I4.list hq
 have hlen4 := r4.length
 show wpAny (model X.prog X.w) X.A (subscriptTail e (.Slice none none (some st) p2) (.ref a) (.ref s3.heap.objs.size)) (EP X pins σ Q) X.xe { s3 with heap := s3.heap.push { cls := .type "slice", data := .fields #[.none, .none, vk] } }
 refine tail_any (ops := [.ref a, .ref s3.heap.objs.size]) ht4.isList.typeIs slot_list_getitem.lookup ?_ (by with_unfolding_all rfl)
 refine wpAny_getItem_list_slice ht4.isList (Heap.IsSliceOf.new ..) .none .none pk (by simp) ?_ (by rw [List.size_toArray] <;> omega)
 rw [PySem.W.krv_pick]
 refine ⟨.ref _, _, I4.laid (t' := s3.toks) (o := .lst xs.reverse) (fun b ob q => Heap.get?_push_of_some _ q) (Nat.le_refl _) ?_, rfl, q _ (I4.hok.fresh (Nat.le_refl _))⟩
 exact ⟨by rw [List.length_reverse]; exact hz, its4.reverse, 0, r4.reverse, Heap.get?_push_size _ rfl⟩
end
mutual
inductive Dp (K : PySem.W.Frag) (H : Hp) : V → PyData → Prop
 | non : Dp K H .non .none
 | bl (b) : Dp K H (.bl b) (.bool b)
 | int (i) : Dp K H (.int i) (.int i)
 | str (x) : Dp K H (.str x) (.str x)
 | lst {a xs ds} : SqL K H a xs → WF K H xs ds → Dp K H (.ref a) (.list ds)
 | tup {a xs ds} : SqT K H a xs → WF K H xs ds → Dp K H (.ref a) (.tuple ds)
inductive WF (K : PySem.W.Frag) (H : Hp) : List V → List PyData → Prop
 | nil : WF K H [] []
 | cons {v d vs ds} : Dp K H v d → WF K H vs ds → WF K H (v :: vs) (d :: ds)
end
section
variable {X : Cx} {pins : List (Addr × Obj)} {σ : St} {H : Hp} {s : Shared}
mutual
theorem Dp.reads (I : Inv X pins σ H s) : ∀ {v : V} {d : PyData} {u : Value}, Dp X.K H v d → Z8 v u → ∃ as, Reads s.heap u d as
 | _, _, u, .non, r => by cases (show u = Value.none from r); exact ⟨_, .none⟩
 | _, _, u, .bl b, r => by cases (show u = Value.bool b from r); exact ⟨_, .bool b⟩
 | _, _, u, .int i, r => by obtain ⟨t, e⟩ := (show ∃ t, u = Value.int i t from r); cases e; exact ⟨_, .int i t⟩
 | _, _, u, .str x, r => by obtain ⟨t, e⟩ := (show ∃ t, u = Value.str x t from r); cases e; exact ⟨_, .str x t⟩
 | _, _, u, .lst (a := a) h hs, r => by
  cases (show u = Value.ref a from r)
  obtain ⟨its, rv, pl, _⟩ := I.list h
  obtain ⟨o, ho, hc, n, hd⟩ := pl.isList
  obtain ⟨as, q⟩ := WF.reads I hs rv
  exact ⟨_, .list ho hc hd (by simpa using q)⟩
 | _, _, u, .tup (a := a) h hs, r => by
  cases (show u = Value.ref a from r)
  obtain ⟨its, rv, ⟨o, ho, hc, n, hd⟩, _⟩ := I.tuple h
  obtain ⟨as, q⟩ := WF.reads I hs rv
  exact ⟨_, .tuple ho hc hd (by simpa using q)⟩
theorem WF.reads (I : Inv X pins σ H s) : ∀ {vs : List V} {ds : List PyData} {us : List Value}, WF X.K H vs ds → Zx vs us → ∃ as, ReadsAll s.heap us ds as
 | _, _, _, .nil, .nil => ⟨_, .nil⟩
 | _, _, _, .cons h hs, .cons r rs => by
  obtain ⟨as, a⟩ := h.reads I r
  obtain ⟨bs, b⟩ := hs.reads I rs
  exact ⟨_, .cons a b⟩
end
inductive rEqD_R (K : PySem.W.Frag) (neg : Bool) (x : V) (y : V) (H : Hp) (Q : VK) : Prop
 | mk (d : _) (e : _) (h0 : Dp K H x d) (h1 : Dp K H y e) (h2 : d.canLay0 = true) (h3 : e.canLay0 = true) (h4 : d.depth ≤ 60) (h5 : Q (.bl (if neg then !PyData.eqv d e else PyData.eqv d e)) H) : rEqD_R K neg x y H Q
def rEqD (K : PySem.W.Frag) (neg : Bool) : R2 := fun x y H Q => rEqD_R K neg x y H Q
theorem op_eqD (hu : X.A.units + 64 < cLine) : OpR X (compareOp .Eq) (rEqD X.K false) := by
 intro pins s σ H x y u v Q I rx ry h
 obtain ⟨d, e, hx, hy, c1, c2, dp, q⟩ := h
 obtain ⟨as, a⟩ := hx.reads I rx
 obtain ⟨bs, b⟩ := hy.reads I ry
 exact SeqAt.compareEq_reads a b c1 c2 (by omega) ⟨.bl _, H, I, rfl, q⟩
theorem op_neD (hu : X.A.units + 64 < cLine) : OpR X (compareOp .NotEq) (rEqD X.K true) := by
 intro pins s σ H x y u v Q I rx ry h
 obtain ⟨d, e, hx, hy, c1, c2, dp, q⟩ := h
 obtain ⟨as, a⟩ := hx.reads I rx
 obtain ⟨bs, b⟩ := hy.reads I ry
 exact SeqAt.compareNe_reads a b c1 c2 (by omega) ⟨.bl _, H, I, rfl, q⟩
inductive rIsi_R (K : PySem.W.Frag) (T : String) (xs : List V) (H : Hp) (Q : VK) : Prop
 | mk (x : _) (t : _) (b : _) (h0 : xs = [x, .ty T]) (h1 : Vw K H x t) (h2 : PySem.W.kitOne K t (.type T) = some b) (h3 : Q (.bl b) H) : rIsi_R K T xs H Q
def rIsi (K : PySem.W.Frag) (T : String) : List V → Hp → VK → Prop := fun xs H Q => rIsi_R K T xs H Q
theorem call_isi (T : String) : Yy X (.builtin "isinstance") (rIsi X.K T) := by
 intro pins s σ H xs us Q I r h
 obtain ⟨x, t, b, rfl, ht, hk, q⟩ := h
 obtain ⟨u, v, rfl, ru, rv⟩ := vals2 r
 obtain rfl : v = Value.type T := rv
 exact isinst_ok I ru ht hk fun tk => ⟨.bl b, H, I.tok _, rfl, q⟩
end
example (K : PySem.W.Frag) : PySem.W.kitOne K (.type "int") (.type "list") = some false := by rfl
example (K : PySem.W.Frag) : PySem.W.kitOne K (.type "bool") (.type "int") = some true := by rfl
section
variable {X : Cx} {pins : List (Addr × Obj)} {σ : St} {H : Hp} {s : Shared} {h' : Heap}
theorem Inv.turnedLaid {ch : List Addr} {p : Addr} {o : HO} {t' : Nat} (I : L2.Inv X pins σ H s) (k : ∀ b u, b ∉ ch → s.heap.get? b = some u → h'.get? b = some u) (hob : ∀ b ∈ ch, ∃ u, h'.get? b = some u) (hf : ∀ b ∈ ch, WS X pins H b) (hp : s.heap.objs.size ≤ p)
  (new : Y6 X.prog X.w (upd H p o) h' p o) : L2.Inv X pins σ (upd H p o) { s with heap := h', toks := t' } := by
 have hn : H p = none := I.hok.fresh hp
 have old : ∀ {b : Addr} {u : Obj}, s.heap.get? b = some u → b ≠ p := fun e => Nat.ne_of_lt (Nat.lt_of_lt_of_le (Heap.lt_size e) hp)
 refine I.step (g' := s.gens) (d' := s.drawn) (ch := ch) (fun b hb => ?_) (fun b u _ _ hc e _ => k b u hc e) (fun b u _ _ hc e _ => ⟨u.slots, k b u hc e⟩) (fun b u _ e n => by rw [Zv (old e)]; exact n)
  (fun b u hc e => ⟨u, k b u hc e⟩) (fun b xs e => by rw [Zv (Yg e hn)]; exact e) (fun b u xs e => by rw [Zv (Yg e hn)]; exact e) (fun b ps e => ⟨#[], by rw [Zv (Yg e hn), e]; simp⟩)
  (fun m hm => ?_) (fun b u e => ?_) I.bare
 ·obtain ⟨f0, f1, f2, f3, f4, f5⟩ := hf b hb
  exact ⟨f3, f1, f4, f5⟩
 ·obtain ⟨ob, es, ep, ho, r⟩ := hm
  exact ⟨ob, es, ep, k _ ob (fun z => (hf _ z).2.1 rfl) ho, r⟩
 ·by_cases hb : b = p
  ·subst hb; rw [Zd] at e; cases e; exact new
  ·rw [Zv hb] at e
   have nch : ∀ c v, H c = some v → c ∉ ch := fun c v q z => by rw [(hf c z).1] at q; cases q
   refine (I.hok b u e).stay (fun c v hc q => k c v ?_ q) (fun c q => by rw [Zv (Yg q hn)]; exact q) fun c xs q => by rw [Zv (Yg q hn)]; exact q
   rcases hc with rfl | hc
   ·exact nch _ _ e
   ·exact nch _ _ hc
end
def Ite (K : PySem.W.Frag) (a : Addr) : It :=
 ⟨fun i H => ∃ xs x, SqL K H a xs ∧ xs[i]? = some x, fun i H x H' => ∃ p v, x = .ref p ∧ H p = none ∧ H' = upd H p (.tup [.int i, v]) ∧ ∀ xs, SqL K H a xs → xs[i]? = some v, fun i H => ∃ xs, SqL K H a xs ∧ xs.length ≤ i⟩
theorem turn_enum {P : Program} {w : World} {K : PySem.W.Frag} {elts : List Expr} {k1 : Nat} {pt : Pos} (a it e : Addr) (hne : e ≠ it) :
  Turn P w K (.Tuple elts k1 pt) (Ite K a) [e, it] e (fun i h => ∃ old, IsEnum h e it (i : Nat) old ∧ h.IsListIter it a i) where
 mem := by simp
 obj := fun i h st b hb => by
  obtain ⟨old, h1, o, h2, c, d⟩ := st
  rcases (by simpa using hb : b = e ∨ b = it) with rfl | rfl
  ·exact ⟨_, h1, fun v z => by
    have z' : Data.fields _ = Data.cell v := z
    cases z'⟩
  ·exact ⟨o, h2, fun v z => by rw [d] at z; cases z⟩
 keep := fun i h h' st k => by
  obtain ⟨old, h1, h2⟩ := st
  exact ⟨old, k e (by simp) _ h1, h2.at fun o z => k it (by simp) o z⟩
 item := by
  intro X hP hw hK hc i pins s σ H E I hf st hg
  subst hP hw hK
  obtain ⟨xs, x, hq, hx⟩ := hg
  obtain ⟨its, rv, p, hz⟩ := I.list hq
  obtain ⟨u, hu, ru⟩ := rv.get hx
  obtain ⟨old, he, hi⟩ := st
  refine wpAny_pyNext_enum_item he hi p.isList (x := u) (by simpa using hu) hne fun h1 b1 b2 b3 b4 b5 => ?_
  refine ⟨_, rfl, wpAny_letOwnedTupleGo_enum b1 fun h2 c1 c2 => ?_⟩
  have c2' : Heap.SameBut e h1 h2 := c2
  have lte : e < s.heap.objs.size := Heap.lt_size he
  have hit2 : h2.IsListIter it a (i + 1) := b2.at fun o z => (c2'.2 it (Ne.symm hne)).trans z
  have ht : h2.get? s.heap.objs.size = some { cls := .type "tuple", data := .seq #[.int (i : Nat) s.toks, u] } := (c2'.2 _ (Nat.ne_of_gt lte)).trans b3
  have I2 : L2.Inv X pins σ (upd H s.heap.objs.size (.tup [.int (i : Nat), x])) { s with heap := h2, toks := s.toks + 1 } := by
   refine Inv.turnedLaid (ch := [e, it]) I (fun b o hb z => ?_) (fun b hb => ?_) hf (Nat.le_refl _) ?_
   ·have hb' : b ≠ e ∧ b ≠ it := by simpa using hb
    exact (c2'.2 b hb'.1).trans (b5 b o hb'.1 hb'.2 z)
   ·rcases (by simpa using hb : b = e ∨ b = it) with rfl | rfl
    ·exact ⟨_, c1⟩
    ·obtain ⟨o, z, _⟩ := hit2; exact ⟨o, z⟩
   ·exact ⟨by show 2 ≤ sizeLine; decide, [.int (i : Nat) s.toks, u], .cons ⟨_, rfl⟩ (.cons ru .nil), ⟨_, ht, rfl, _, rfl⟩⟩
  have hn := I.hok.fresh (Nat.le_refl s.heap.objs.size)
  refine ⟨.ref s.heap.objs.size, _, I2, rfl, ⟨_, x, rfl, hn, rfl, fun ys hy => by rw [I.list_inj hy hq]; exact hx⟩, ⟨u, by simpa using c1, hit2⟩, fun b hb => ?_⟩
  have lb : b < s.heap.objs.size := by
   rcases (by simpa using hb : b = e ∨ b = it) with rfl | rfl
   ·exact lte
   ·obtain ⟨o, z, _⟩ := hi; exact Heap.lt_size z
  rw [Zv (Nat.ne_of_lt lb)]
  exact (hf b hb).1
 done := by
  intro X hP hw hK hc i pins s σ H E I hf st hg
  subst hP hw hK
  obtain ⟨xs, hq, hx⟩ := hg
  obtain ⟨its, rv, p, hz⟩ := I.list hq
  obtain ⟨old, he, hi⟩ := st
  have hl := rv.length
  obtain ⟨f0, f1, f2, f3, f4, f5⟩ := hf it (by simp)
  exact wpAny_pyNext_enum_end (I.ok.hd hc) he hi p.isList (by simp; omega) fun h' eb => ⟨rfl, I.turned (t' := s.toks) (fun b o hb z => eb b o hb z) f0 f1 f3 f4 f5⟩
 self := fun _ _ _ _ _ st h => by
  obtain ⟨old, he, _⟩ := st
  exact wpAny_pyIter_enum he h
section
variable {X : Cx}
def iEnum (K : PySem.W.Frag) (ta : TA) : TI := fun σ H R => ta σ H fun vs H1 => ∃ a xs, vs = [.ref a] ∧ Rd H1 a (.lst xs) ∧ R (Ite K a) H1
theorem pi_enum {elts : List Expr} {k1 : Nat} {pt : Pos} {a : Expr} {ta : TA} {p pos : Pos} (hg : Gl X "enumerate") (hm : X.mg "enumerate" = none) (ha : PA X [a] ta) (hs : starEach [a] X.env = [(false, eval a X.env)] := by rfl) :
  PI X (.Tuple elts k1 pt) (.Call (.Name "enumerate" p) [a] [] pos) (iEnum X.K ta) := by
 intro pins s σ H R I h
 refine Call_ (Vu I hg hm PyProof.Rows.boot_enumerate (PyProof.Rows.callWith_type1 (thn (ha pos pins s σ H _ I h) fun us s1 ⟨vs, H1, I1, r1, q1⟩ => ?_) hs rfl))
 obtain ⟨l, xs, rfl, hq, q⟩ := q1
 obtain ⟨u, rfl, ru⟩ := XU r1
 obtain rfl : u = Value.ref l := ru
 obtain ⟨z, its, n, rv, e⟩ := hq.ok I1.hok
 refine call_enumerate_1 e fun h' a1 a2 a3 a4 => wpAny_pyIter_enum a1 ?_
 have I2 : L2.Inv X pins σ H1 { s1 with heap := h' } := I1.kept (t' := s1.toks) a4
 refine ⟨s1.heap.objs.size + 1, [s1.heap.objs.size + 1, s1.heap.objs.size], _, _, H1, rfl, I2, turn_enum l s1.heap.objs.size (s1.heap.objs.size + 1) (Nat.ne_of_gt (Nat.lt_succ_self _)), ⟨_, a1, a2⟩, fun b hb => ?_, q⟩
 have lb : s1.heap.objs.size ≤ b := by
  rcases (by simpa using hb : b = s1.heap.objs.size + 1 ∨ b = s1.heap.objs.size) with rfl | rfl
  ·exact Nat.le_succ _
  ·exact Nat.le_refl _
 exact I1.fpOk lb (I1.hok.fresh lb)
end
def New (H H' : Hp) : Hp := fun b => if (H b).isSome = true then none else H' b
def hide (D : Addr) (H : Hp) : Hp := fun b => if b = D then none else H b
theorem New.of {H H' : Hp} {b : Addr} {o : HO} (h : New H H' b = some o) : H b = none ∧ H' b = some o := by
 unfold New at h
 split at h
 ·cases h
 ·rename_i q
  refine ⟨?_, h⟩
  cases e : H b with
  | none => rfl
  | some u => rw [e] at q; exact absurd rfl q
theorem New.mk {H H' : Hp} {b : Addr} {o : HO} (h : H b = none) (h' : H' b = some o) : New H H' b = some o := by
 unfold New
 rw [h]
 exact h'
theorem New.sub {H H' : Hp} : Zn (New H H') H' := fun _ _ h => (New.of h).2
theorem Zf {H : Hp} {p : Addr} {o : HO} (h : H p = none) : Zn H (upd H p o) := fun b u e => by rw [Zv (Yg e h)]; exact e
theorem Xw {D : Addr} {H : Hp} : Zn (hide D H) H := fun b o h => by
 unfold hide at h
 split at h
 ·cases h
 ·exact h
theorem W8 {D b : Addr} {H : Hp} {o : HO} (h : hide D H b = some o) : b ≠ D ∧ H b = some o := by
 unfold hide at h
 split at h
 ·cases h
 ·rename_i q; exact ⟨q, h⟩
theorem Y7 {D b : Addr} {H : Hp} {o : HO} (n : b ≠ D) (h : H b = some o) : hide D H b = some o := by
 unfold hide
 rw [if_neg n]; exact h
def ZF (D : Addr) (H H' : Hp) : Prop := ∀ b o, b ≠ D → H b = some o → H' b = some o
theorem Zn.x {D : Addr} {H H' : Hp} (h : Zn H H') : ZF D H H' := fun b o _ e => h b o e
theorem ZF.refl {D : Addr} (H : Hp) : ZF D H H := fun _ _ _ e => e
theorem ZF.trans {D : Addr} {H H1 H2 : Hp} (a : ZF D H H1) (b : ZF D H1 H2) : ZF D H H2 := fun c o n e => b c o n (a c o n e)
theorem ZF.upd {D : Addr} {H H' : Hp} {o : HO} (a : ZF D H H') : ZF D H (upd H' D o) := fun c u n e => by rw [Zv n]; exact a c u n e
theorem ZF.same {D : Addr} {H H' : Hp} (a : ZF D H H') (h : H D = none) : Zn H H' := fun c u e => a c u (Yg e h) e
theorem XE {J : It} {n : Nat} {D : Addr} {g : TG} {tt : TT} {te : TE} {σ0 : St} {H0 : Hp} {Q : VK} (Pv : Nat → St → Hp → Prop) (h0 : Pv 0 σ0 (upd H0 D (.lst [])))
  (hgo : ∀ i σ H, i < n → Pv i σ H → J.go i H) (hst : ∀ σ H, Pv n σ H → J.stop n H)
  (hs : ∀ i x σ H H2, i < n → Pv i σ H → J.yld i H x H2 → ∀ (N : V → St → Hp → Prop) (N0 : St → Hp → Prop), (∀ v σ2 H5 ys, H5 D = some (.lst ys) → ys.length < sizeLine → Pv (i + 1) σ2 (upd H5 D (.lst (ys ++ [v]))) → N v σ2 H5) → (∀ σ2 H4, Pv (i + 1) σ2 H4 → N0 σ2 H4) →
   g x σ H2 fun σ2 H3 => tt σ2 H3 fun c H4 => if c = true then te σ2 H4 fun v H5 => N v σ2 H5 else N0 σ2 H4)
  (hd : ∀ σ H, Pv n σ H → Q (.ref D) H) :
  zu J D g tt te σ0 H0 Q := by
 refine ⟨fun i m σ H => m = n - i ∧ i ≤ n ∧ Pv i σ H, ⟨n, by simp, Nat.zero_le _, h0⟩, ?_⟩
 rintro i m σ H ⟨rfl, hi, p⟩
 by_cases hlt : i < n
 ·refine .inr ⟨hgo i σ H hlt p, fun v σ2 H5 => ∃ ys, H5 D = some (.lst ys) ∧ ys.length < sizeLine ∧ Pv (i + 1) σ2 (upd H5 D (.lst (ys ++ [v]))), fun σ2 H4 => Pv (i + 1) σ2 H4, ?_, ?_, ?_⟩
  ·rintro v σ2 H5 ⟨ys, a, b, c⟩
   exact ⟨ys, a, b, n - (i + 1), by omega, rfl, hlt, c⟩
  ·intro σ2 H4 q
   exact ⟨n - (i + 1), by omega, rfl, hlt, q⟩
  ·intro x H2 y
   exact hs i x σ H H2 hlt p y _ _ (fun v σ2 H5 ys a b c => ⟨ys, a, b, c⟩) fun _ _ q => q
 ·have e : i = n := by omega
  subst e
  exact .inl ⟨hst σ H p, hd σ H p⟩
theorem Yp {K : PySem.W.Frag} {a D : Addr} {xs : List V} {te : TE} {τ : St} {H0 : Hp} {Q : VK} (hD : H0 D = none) (hq : SqL K H0 a xs) (hz : xs.length ≤ sizeLine) (R : Nat → V → Hp → Prop) (mono : ∀ i v H H', Zn H H' → R i v H → R i v H')
  (step : ∀ i x H (N : V → Hp → Prop), xs[i]? = some x → Zn H0 H → (∀ v H4, Zn H H4 → R i v (New H H4) → N v H4) → te (some x :: τ) H N)
  (fin : ∀ H' ys, H' D = some (.lst ys) → Zn H0 H' → ys.length = xs.length → (∀ i v, ys[i]? = some v → R i v (New H0 H')) → Q (.ref D) H') :
  zu (Itl K a) D (Wi 0) tTrue te (none :: τ) H0 Q := by
 refine XE (n := xs.length) (fun i σ H => ∃ z ys, σ = z :: τ ∧ H D = some (.lst ys) ∧ ys.length = i ∧ Zn H0 H ∧ ∀ j v, ys[j]? = some v → R j v (hide D (New H0 H))) ?_ ?_ ?_ ?_ ?_
 ·exact ⟨none, [], rfl, Zd, rfl, Zf hD, fun j v e => by simp at e⟩
 ·rintro i σ H hi ⟨z, ys, rfl, _, _, s, _⟩
  exact ⟨xs, xs[i], s.seq hq, by simp [hi]⟩
 ·rintro σ H ⟨z, ys, rfl, _, _, s, _⟩
  exact ⟨xs, s.seq hq, Nat.le_refl _⟩
 ·rintro i x σ H H2 hi ⟨z, ys, rfl, hy, hl, s, r⟩ ⟨rfl, hx⟩ N N0 hN hN0
  show te (some x :: τ) H2 _
  refine step i x H2 _ (hx xs (s.seq hq)) s fun v H4 s4 r4 => ?_
  refine hN v _ H4 ys (s4 _ _ hy) (by omega) ⟨some x, ys ++ [v], rfl, Zd, by rw [List.length_append, List.length_singleton, hl], ?_, ?_⟩
  ·exact (ZF.upd (Zn.x (s.trans s4))).same hD
  ·intro j w e
   by_cases hj : j < ys.length
   ·rw [List.getElem?_append_left hj] at e
    refine mono j w _ _ ?_ (r j w e)
    intro b o hb
    obtain ⟨nb, hb⟩ := W8 hb
    obtain ⟨h1, h2⟩ := New.of hb
    exact Y7 nb (New.mk h1 (by rw [Zv nb]; exact s4 _ _ h2))
   ·have ej : j = ys.length := by
     have := (List.getElem?_eq_some_iff.mp e).1
     rw [List.length_append, List.length_singleton] at this
     omega
    subst ej
    simp at e
    subst e
    rw [hl]
    refine mono i v _ _ ?_ r4
    intro b o hb
    obtain ⟨h1, h2⟩ := New.of hb
    have nb : b ≠ D := fun z => by subst z; rw [hy] at h1; cases h1
    exact Y7 nb (New.mk (s.free h1) (by rw [Zv nb]; exact h2))
 ·rintro σ H ⟨z, ys, rfl, hy, hl, s, r⟩
  exact fin H ys hy s hl fun i v e => mono i v _ _ Xw (r i v e)
section
variable {X : Cx}
def rLen (K : PySem.W.Frag) : List V → Hp → VK → Prop := fun xs H Q => (∃ p ys, xs = [.ref p] ∧ (SqL K H p ys ∨ SqT K H p ys) ∧ Q (.int ys.length) H) ∨ ((∃ z, xs = [.str z] ∧ z.length ≤ sizeLine ∧ Q (.int z.length) H) ∨ ∃ a n, xs = [.ref a] ∧ H a = some (SetN a n) ∧ n < 4000 ∧ Q (.int n) H)
theorem call_lenA : Yy X (.builtin "len") (rLen X.K) := zZ.or (yv.or call_lenS)
def rListA (K : PySem.W.Frag) : List V → Hp → VK → Prop := fun xs H Q => (∃ p ys, xs = [.ref p] ∧ (SqL K H p ys ∨ SqT K H p ys) ∧ ∀ l, H l = none → Q (.ref l) (upd H l (.lst ys))) ∨ (∃ (p : Addr) (j : Int), xs = [.ref p] ∧ H p = some (.rng 0 j) ∧ 0 ≤ j ∧ j ≤ 1000000 ∧ ∀ l, H l = none → Q (.ref l) (upd H l (.lst ((upTo j).map V.int))))
theorem xY (hc : X.calm = true) : Yy X (.type "list") (rListA X.K) := yR.or (zh hc)
theorem WH {x : Str} {v : V} {pos : Pos} (hg : Gl X x) (h : ∃ u, X.mg x = some u ∧ Z8 v u) (hd : (x == ("__debug__" : Str)) = false := by decide) : PE X (.Name x pos) (tC v) := by
 obtain ⟨u, hm, r⟩ := h
 exact pe_glob hg hm r hd
end
def ZL (sc : Scope) (N Nc : List Str) (ix : List (Option Nat)) (scope : Scope) : Bool :=
 decide (scope.kind = .function) && scope.names.all (fun y => decide (y.2 ≠ .cell)) && scope.names.all (fun y => decide (y.2 = .local → scope.names.lookup y.1 = some .local)) &&
 scope.names.all (fun y => decide (y.2 = .free → sc.names.lookup y.1 = some .cell ∨ sc.names.lookup y.1 = some .free)) && decide (ix.length = Nc.length) &&
 (ix.zip Nc).all fun p => match p.1 with | none => true | some j => N[j]? == some p.2 && scope.names.lookup p.2 == some .free
theorem ZI.of {sc : Scope} {N Nc : List Str} {ix : List (Option Nat)} {scope : Scope} (h : ZL sc N Nc ix scope = true) : ZI sc N Nc ix scope := by
 unfold ZL at h
 simp only [Bool.and_eq_true] at h
 obtain ⟨⟨⟨⟨⟨h1, h2⟩, h3⟩, h4⟩, h5⟩, h6⟩ := h
 exact ⟨of_decide_eq_true h1, fun y hy => of_decide_eq_true (List.all_eq_true.mp h2 y hy), fun y hy => of_decide_eq_true (List.all_eq_true.mp h3 y hy), fun y hy => of_decide_eq_true (List.all_eq_true.mp h4 y hy), of_decide_eq_true h5, h6⟩
def Its (x : Str) : It := ⟨fun i _ => i < x.cps.size, fun i H v H' => H' = H ∧ ∃ c, x.cps[i]? = some c ∧ v = .str ⟨#[c]⟩, fun i _ => x.cps.size ≤ i⟩
theorem turn_str {P : Program} {w : World} {K : PySem.W.Frag} {tg : Expr} {it : Addr} {x : Str} {t : Tok} {ty : String}
  (hty : ["enumerate", "zip", "dict_itemiterator", "dict_reverseitemiterator", "odict_iterator", "itertools.zip_longest", "itertools.pairwise"].contains ty = false)
  (W : ∀ A' : Around, A'.handled = none → Walks P w A' it [it] [it] x.cps.size (SignAt x) (fun i h => h.IsStrIter it ty x t i))
  (self : ∀ (A : Around) (i : Nat) (s : Shared) (Q : Value → Shared → Prop) (E : Value → Shared → Prop), s.heap.IsStrIter it ty x t i → Q (.ref it) s → wpAny (model P w) A (pyIter (.ref it)) Q E s) :
  Turn P w K tg (Its x) [it] it (fun i h => i ≤ x.cps.size ∧ h.IsStrIter it ty x t i) where
 mem := by simp
 obj := fun i h st b hb => by
  have e : b = it := by simpa using hb
  subst e
  obtain ⟨_, o, e, c, d⟩ := st
  exact ⟨o, e, fun v z => by rw [d] at z; cases z⟩
 keep := fun i h h' st k => by
  obtain ⟨l, o, e, c, d⟩ := st
  exact ⟨l, o, k it (by simp) o e, c, d⟩
 item := by
  intro X hP hw hK hc i pins s σ H E I hf st hg
  subst hP hw hK
  obtain ⟨f0, f1, f2, f3, f4, f5⟩ := hf it (by simp)
  refine (W X.A (I.ok.hd hc)).item i s _ _ hg st.2 fun v h' tk hv st' kk => ?_
  obtain ⟨c, u, hcx, rfl⟩ := hv
  have I1 : L2.Inv X pins σ H { s with heap := h', toks := tk } := I.turned (fun b o hb e => kk b o (by simpa using hb) e) f0 f1 f3 f4 f5
  obtain ⟨o, e, oc, od⟩ := id st'
  exact ⟨_, rfl, go_of (s := { s with heap := h', toks := tk }) e oc od hty ⟨.str ⟨#[c]⟩, H, I1, ⟨u, rfl⟩, ⟨rfl, c, hcx, rfl⟩, ⟨hg, st'⟩, fun b hb => (hf b hb).1⟩⟩
 done := by
  intro X hP hw hK hc i pins s σ H E I hf st hg
  subst hP hw hK
  obtain ⟨f0, f1, f2, f3, f4, f5⟩ := hf it (by simp)
  have e : i = x.cps.size := Nat.le_antisymm st.1 hg
  subst e
  exact (W X.A (I.ok.hd hc)).done s _ _ st.2 fun h' tk kk => ⟨rfl, I.turned (fun b o hb e => kk b o (by simpa using hb) e) f0 f1 f3 f4 f5⟩
 self := fun A i s Q E st h => self A i s Q E st.2 h
section
variable {X : Cx} {tg : Expr}
def iStr (tl : TE) : TI := fun σ H R => tl σ H fun v H1 => ∃ x, v = .str x ∧ R (Its x) H1
theorem z0 {l : Expr} {tl : TE} (hl : PE X l tl) : PI X tg l (iStr tl) := by
 intro pins s σ H R I h
 refine thn (hl pins s σ H _ I h) fun v s1 ⟨y, H1, I1, r1, x, e, q⟩ => ?_
 subst e
 obtain ⟨t, rfl⟩ := (show ∃ t, v = Value.str x t from r1)
 have fin : ∀ (ty : String), ["enumerate", "zip", "dict_itemiterator", "dict_reverseitemiterator", "odict_iterator", "itertools.zip_longest", "itertools.pairwise"].contains ty = false →
   (∀ A' : Around, A'.handled = none → Walks X.prog X.w A' s1.heap.objs.size [s1.heap.objs.size] [s1.heap.objs.size] x.cps.size (SignAt x) (fun i h => h.IsStrIter s1.heap.objs.size ty x t i)) →
   (∀ (A : Around) (i : Nat) (s : Shared) (Q : Value → Shared → Prop) (E : Value → Shared → Prop), s.heap.IsStrIter s1.heap.objs.size ty x t i → Q (.ref s1.heap.objs.size) s → wpAny (model X.prog X.w) A (pyIter (.ref s1.heap.objs.size)) Q E s) →
   PIE X pins σ tg R (.ref s1.heap.objs.size) { s1 with heap := s1.heap.push { cls := .type ty, data := .fields #[.str x t, .int 0 0] } } := fun ty h1 h2 h3 => by
  refine ⟨s1.heap.objs.size, [s1.heap.objs.size], _, _, H1, rfl, I1.kept (t' := s1.toks) fun b o e => Heap.get?_push_of_some _ e, turn_str h1 h2 h3, ⟨Nat.zero_le _, _, Heap.get?_push_size _ rfl, rfl, rfl⟩, fun b hb => ?_, q⟩
  have e : b = s1.heap.objs.size := by simpa using hb
  subst e
  exact I1.fpOk (Nat.le_refl _) (I1.hok.fresh (Nat.le_refl _))
 cases ha : x.cps.all (· < 128)
 ·exact wpAny_pyIter_wide ha (fin "str_iterator" (by decide) (fun A' hA => Walks.strWide hA _ x t) fun _ _ _ _ _ st h => wpAny_pyIter_striter_wide st h)
 ·exact wpAny_pyIter_ascii ha (fin "str_ascii_iterator" (by decide) (fun A' hA => Walks.strAscii hA _ x t) fun _ _ _ _ _ st h => wpAny_pyIter_striter_ascii st h)
end
section
variable {X : Cx} {K : PySem.W.Frag}
theorem Zy (hK : X.K = K) : Yy X (.builtin "len") (rLen K) := by subst hK; exact call_lenA
theorem Wv (hK : X.K = K) : Yy X (.builtin "sorted") (rSorted K) := by subst hK; exact xA
def rAll (K : PySem.W.Frag) : List V → Hp → VK → Prop := fun xs H Q => ∃ (p : Addr) (bs : List Bool), xs = [.ref p] ∧ SqL K H p (bs.map V.bl) ∧ Q (.bl (bs.all id)) H
theorem Xr (hK : X.K = K) (hc : X.calm = true) : Yy X (.builtin "all") (rAll K) := by subst hK; exact call_all hc
theorem X8 (hK : X.K = K) (hc : X.calm = true) : Yy X (.type "list") (rListA K) := by subst hK; exact xY hc
def rTupleA (K : PySem.W.Frag) : List V → Hp → VK → Prop := fun xs H Q => ∃ p ys, xs = [.ref p] ∧ ((SqL K H p ys ∧ ∀ l, H l = none → Q (.ref l) (upd H l (.tup ys))) ∨ (SqT K H p ys ∧ Q (.ref p) H))
theorem Xt (hK : X.K = K) : Yy X (.type "tuple") (rTupleA K) := by subst hK; exact zp
def rSetA (K : PySem.W.Frag) : List V → Hp → VK → Prop := fun xs H Q => ∃ (p : Addr) (ks : List Key), xs = [.ref p] ∧ SqL K H p (ks.map kV) ∧ ks.length < 4000 ∧ ∀ n a, n ≤ ks.length → (n = ks.length ↔ ks.Nodup) → H a = none → Q (.ref a) (upd H a (SetN a n))
theorem Ud (hK : X.K = K) (hc : X.calm = true) : Yy X (.type "set") (rSetA K) := by subst hK; exact call_set hc
theorem Xq (hK : X.K = K) (T : String) : Yy X (.builtin "isinstance") (rIsi K T) := by subst hK; exact call_isi T
theorem Yj (hK : X.K = K) : IxR X (rIxL K) := by subst hK; exact ix_list
theorem ix_tupK (hK : X.K = K) : IxR X (rIxT K) := by subst hK; exact ix_tup
theorem ZA (hK : X.K = K) : SlR X (rSlL K) := by subst hK; exact sl_list
theorem op_notInK (hK : X.K = K) : OpR X (compareOp .NotIn) (rIn K true) := by subst hK; exact yq
theorem yr (hK : X.K = K) (hu : X.A.units + 64 < cLine) : OpR X (compareOp .Eq) (rEqD K false) := by subst hK; exact op_eqD hu
theorem Wa (hK : X.K = K) (hu : X.A.units + 64 < cLine) : OpR X (compareOp .NotEq) (rEqD K true) := by subst hK; exact op_neD hu
theorem ZO {tg l : Expr} {tl : TE} (hK : X.K = K) (hl : PE X l tl) : PI X tg l (iList K tl) := by subst hK; exact pi_list hl
theorem pi_enumK {elts : List Expr} {k1 : Nat} {pt : Pos} {a : Expr} {ta : TA} {p pos : Pos} (hK : X.K = K) (hg : Gl X "enumerate") (hm : X.mg "enumerate" = none) (ha : PA X [a] ta) (hs : starEach [a] X.env = [(false, eval a X.env)] := by rfl) :
  PI X (.Tuple elts k1 pt) (.Call (.Name "enumerate" p) [a] [] pos) (iEnum K ta) := by subst hK; exact pi_enum hg hm ha hs
theorem yQ {es : List Expr} {k : Nat} {t : TGs} {n : Nat} {pos : Pos} (hK : X.K = K) (hc : X.calm = true) (h : PGs X es t)
  (hn : (assignEach es X.env).length = n := by rfl) (hst : (assignEach es X.env).findIdx? (·.1) = none := by rfl) : PG X (.Tuple es k pos) (gTup K n t) := by subst hK; exact pg_tup hc h hn hst
theorem VY {e : Expr} {f : Str} {pos : Pos} {ta : TE} (hK : X.K = K) (he : PE X e ta) (hb : attributeBase e f X.env (eval e X.env) = eval e X.env) : PE X (.Attribute e f pos) (tFld K ta f) := by subst hK; exact pe_fld he hb
theorem ye {e st : Expr} {te : TE} {ts : TO} {pos p2 : Pos} (hK : X.K = K) (he : PE X e te) (hs : PO X (some st) ts) : PE X (.Subscript e (.Slice none none (some st) p2) pos) (tRev K te ts) := by subst hK; exact pe_rev he hs
end
end L3
namespace L3
open PySem PySem.Spec L2
inductive Kd (H : Hp) : V → Prop
 | non : Kd H .non
 | bl (b : Bool) : Kd H (.bl b)
 | int (i : Int) : Kd H (.int i)
 | str (z : Str) (hz : z.length ≤ 1000) : Kd H (.str z)
 | lst {a : Addr} {xs : List V} (e : H a = some (.lst xs)) : Kd H (.ref a)
 | tup {a : Addr} {xs : List V} (e : H a = some (.tup xs)) : Kd H (.ref a)
 | dK {a : Addr} {kvs : List (Key × V)} (e : H a = some (.dK kvs)) : Kd H (.ref a)
theorem Kd.mono {H H' : Hp} {x : V} (s : Zn H H') (h : Kd H x) : Kd H' x := by
 cases h with
 | non => exact .non
 | bl b => exact .bl b
 | int i => exact .int i
 | str z hz => exact .str z hz
 | lst e => exact .lst (s _ _ e)
 | tup e => exact .tup (s _ _ e)
 | dK e => exact .dK (s _ _ e)
def XB (H : Hp) (T : String) : V → Bool
 | .bl _ => T == "bool" || T == "int"
 | .int _ => T == "int"
 | .str _ => T == "str"
 | .ref a => match H a with
  | some (.lst _) => T == "list"
  | some (.tup _) => T == "tuple"
  | some (.dK _) => T == "dict"
  | _ => false
 | _ => false
theorem isi_rd {K : PySem.W.Frag} {T : String} {x : V} {H : Hp} {Q : VK} (hT : T = "int" ∨ T = "bool" ∨ T = "str" ∨ T = "list" ∨ T = "tuple") (h : Kd H x) (q : Q (.bl (XB H T x)) H) : rIsi K T [x, .ty T] H Q := by
 rcases hT with rfl | rfl | rfl | rfl | rfl
 all_goals
  cases h with
  | non => exact ⟨_, _, _, rfl, .non, rfl, q⟩
  | bl b => exact ⟨_, _, _, rfl, .bl b, rfl, q⟩
  | int i => exact ⟨_, _, _, rfl, .int i, rfl, q⟩
  | str z hz => exact ⟨_, _, _, rfl, .str z, rfl, q⟩
  | lst e => first | exact ⟨_, _, false, rfl, .lst e, rfl, by simpa [XB, e] using q⟩ | exact ⟨_, _, true, rfl, .lst e, rfl, by simpa [XB, e] using q⟩
  | tup e => first | exact ⟨_, _, false, rfl, .tup e, rfl, by simpa [XB, e] using q⟩ | exact ⟨_, _, true, rfl, .tup e, rfl, by simpa [XB, e] using q⟩
  | dK e => first | exact ⟨_, _, false, rfl, .dK e, rfl, by simpa [XB, e] using q⟩ | exact ⟨_, _, true, rfl, .dK e, rfl, by simpa [XB, e] using q⟩
def Xs (c : Nat) : Bool := decide (97 ≤ c ∧ c ≤ 122)
def Zr (z : Str) : Bool := decide (1 ≤ z.length) && decide (z.length ≤ 8) && z.cps.toList.all Xs
def Y1 : V → Bool
 | .str z => Zr z
 | _ => false
def isIntV : V → Bool
 | .int _ => true
 | _ => false
def YM (n : Int) : V → Bool
 | .int i => decide (0 ≤ i) && decide (i < n)
 | _ => false
def XD (H : Hp) : V → Option (List V)
 | .ref a => match H a with
  | some (.lst xs) => some xs
  | _ => none
 | _ => none
theorem Z1 {H : Hp} {a : Addr} {xs : List V} (h : H a = some (.lst xs)) : XD H (.ref a) = some xs := by simp [XD, h]
theorem Vv {H H' : Hp} {x : V} (s : Zn H H') (k : Kd H x) : XD H' x = XD H x := by
 cases k with
 | non => rfl
 | bl b => rfl
 | int i => rfl
 | str z hz => rfl
 | lst e => rw [Z1 e, Z1 (s _ _ e)]
 | tup e => simp [XD, e, s _ _ e]
 | dK e => simp [XD, e, s _ _ e]
def Z9 (H : Hp) (x : V) : Bool := match XD H x with
 | some xs => xs.all Y1 && decide xs.Nodup
 | none => false
def Xy (H : Hp) (n : Int) (x : V) : Bool := match XD H x with
 | some xs => xs.all (YM n)
 | none => false
def ZR (H : Hp) (n : Int) (x : V) : Bool := match XD H x with
 | some xs => xs.all (YM n) && !xs.isEmpty && decide xs.Nodup
 | none => false
def KdL (H : Hp) (x : V) : Prop := Kd H x ∧ ∀ xs, XD H x = some xs → xs.length ≤ 1000 ∧ ∀ y ∈ xs, Kd H y
def KdLL (H : Hp) (x : V) : Prop := Kd H x ∧ ∀ xs, XD H x = some xs → xs.length ≤ 1000 ∧ ∀ y ∈ xs, KdL H y
theorem KdL.mono {H H' : Hp} {x : V} (s : Zn H H') (h : KdL H x) : KdL H' x :=
 ⟨h.1.mono s, fun xs e => by
  rw [Vv s h.1] at e
  exact ⟨(h.2 xs e).1, fun y hy => ((h.2 xs e).2 y hy).mono s⟩⟩
theorem Vp {H H' : Hp} {x : V} (s : Zn H H') (k : Kd H x) : Z9 H' x = Z9 H x := by unfold Z9; rw [Vv s k]
theorem WR {H H' : Hp} {x : V} {n : Int} (s : Zn H H') (k : Kd H x) : ZR H' n x = ZR H n x := by unfold ZR; rw [Vv s k]
def few3 : Option (List V) → Bool
 | some fs => decide (fs.length ≤ 3)
 | none => false
def Xv (H : Hp) (s w st f : V) : Bool := match XD H s, XD H w with
 | some ss, some ws => decide (1 ≤ ss.length) && decide (ss.length ≤ 20) && decide (ws.length = ss.length) && ss.all (Z9 H) && ws.all (ZR H ss.length) && (ZR H ss.length st && (Z9 H f && few3 (XD H f)))
 | _, _ => false
theorem kV_ne {a b : Key} : kV a ≠ kV b ↔ a ≠ b := by
 constructor
 ·intro h e; exact h (by rw [e])
 ·intro h e
  apply h
  cases a <;> cases b <;> simp [kV] at e <;> simp [e]
theorem nodup_kV (ks : List Key) : (ks.map kV).Nodup ↔ ks.Nodup := by
 unfold List.Nodup
 rw [List.pairwise_map]
 exact ⟨fun h => h.imp fun q => kV_ne.mp q, fun h => h.imp fun q => kV_ne.mpr q⟩
theorem qU : ∀ {xs : List V}, xs.all Y1 = true → ∃ ks : List Key, xs = ks.map kV
 | [], _ => ⟨[], rfl⟩
 | x :: r, h => by
  rw [List.all_cons, Bool.and_eq_true] at h
  obtain ⟨ks, rfl⟩ := qU h.2
  cases x with
  | str z => exact ⟨.inr z :: ks, rfl⟩
  | _ => exact absurd h.1 (by simp [Y1])
theorem U0 {n : Int} : ∀ {xs : List V}, xs.all (YM n) = true → ∃ ks : List Key, xs = ks.map kV
 | [], _ => ⟨[], rfl⟩
 | x :: r, h => by
  rw [List.all_cons, Bool.and_eq_true] at h
  obtain ⟨ks, rfl⟩ := U0 h.2
  cases x with
  | int z => exact ⟨.inl z :: ks, rfl⟩
  | _ => exact absurd h.1 (by simp [YM])
theorem dec_len {n m : Nat} {ks : List Key} (hm : m = (ks.map kV).length) (h : n = ks.length ↔ ks.Nodup) : decide (V.int (n : Nat) = V.int (m : Nat)) = decide (ks.map kV).Nodup := by
 have e : (V.int (n : Nat) = V.int (m : Nat)) ↔ (ks.map kV).Nodup := by
  rw [nodup_kV, ← h]
  constructor
  ·intro q
   have q' : ((n : Nat) : Int) = ((m : Nat) : Int) := V.int.inj q
   rw [List.length_map] at hm
   omega
  ·intro q
   rw [List.length_map] at hm
   rw [q, hm]
 exact decide_eq_decide.mpr e
theorem Xp {α : Type} {f : α → Bool} : ∀ {xs : List α} {ys : List V}, ys.length = xs.length → (∀ (i : Nat) v x, ys[i]? = some v → xs[i]? = some x → v = .bl (f x)) → ys = (xs.map f).map V.bl
 | [], ys, hl, _ => by simp at hl; subst hl; rfl
 | x :: r, [], hl, _ => by simp at hl
 | x :: r, y :: ys, hl, h => by
  have e := h 0 y x rfl rfl
  subst e
  rw [List.map_cons, List.map_cons, Xp (xs := r) (ys := ys) (f := f) (by simpa using hl) fun i v z h1 h2 => h (i + 1) v z (by simpa using h1) (by simpa using h2)]
theorem WN {α : Type} (f : α → Bool) (xs : List α) : (xs.map f).all id = xs.all f := by
 rw [List.all_map]; rfl
theorem WM (c : Nat) : decide (c ∈ ("abcdefghijklmnopqrstuvwxyz" : Str).cps.toList) = Xs c := by
 have e : ("abcdefghijklmnopqrstuvwxyz" : Str).cps.toList = (List.range 26).map (· + 97) := by decide +kernel
 rw [e]
 unfold Xs
 refine decide_eq_decide.mpr ?_
 rw [List.mem_map]
 constructor
 ·rintro ⟨k, hk, rfl⟩
  have := List.mem_range.mp hk
  omega
 ·rintro ⟨h1, h2⟩
  exact ⟨c - 97, List.mem_range.mpr (by omega), by omega⟩
theorem Wb (K : PySem.W.Frag) {T : String} {x : V} {H : Hp} {b : Bool} (hT : T = "int" ∨ T = "bool" ∨ T = "str" ∨ T = "list" ∨ T = "tuple") (h : Kd H x) (hb : XB H T x = b) : ∃ t, Vw K H x t ∧ PySem.W.kitOne K t (.type T) = some b := by
 obtain ⟨y, t, c, e, h1, h2, q⟩ := isi_rd (K := K) (Q := fun v _ => v = .bl b) hT h (by rw [hb])
 have e1 : x = y := (List.cons.inj e).1
 have e2 : c = b := V.bl.inj q
 subst e1; subst e2
 exact ⟨t, h1, h2⟩
theorem kd_str {H : Hp} {x : V} (h : Kd H x) : (XB H "str" x = true ∧ ∃ z, x = .str z ∧ z.length ≤ 1000) ∨ (XB H "str" x = false ∧ Y1 x = false) := by
 cases h with
 | str z hz => exact .inl ⟨rfl, z, rfl, hz⟩
 | non => exact .inr ⟨rfl, rfl⟩
 | bl b => exact .inr ⟨rfl, rfl⟩
 | int i => exact .inr ⟨rfl, rfl⟩
 | lst e => exact .inr ⟨by simp [XB, e], rfl⟩
 | tup e => exact .inr ⟨by simp [XB, e], rfl⟩
 | dK e => exact .inr ⟨by simp [XB, e], rfl⟩
theorem WW {H : Hp} {x : V} (h : Kd H x) : (XB H "list" x = true ∧ ∃ a xs, x = .ref a ∧ H a = some (.lst xs) ∧ XD H x = some xs) ∨ (XB H "list" x = false ∧ XD H x = none) := by
 cases h with
 | str z hz => exact .inr ⟨rfl, rfl⟩
 | non => exact .inr ⟨rfl, rfl⟩
 | bl b => exact .inr ⟨rfl, rfl⟩
 | int i => exact .inr ⟨rfl, rfl⟩
 | lst e => exact .inl ⟨by simp [XB, e], _, _, rfl, e, Z1 e⟩
 | tup e => exact .inr ⟨by simp [XB, e], by simp [XD, e]⟩
 | dK e => exact .inr ⟨by simp [XB, e], by simp [XD, e]⟩
def LS (H : Hp) (v : V) (ss : List Str) : Prop := ∃ a, v = .ref a ∧ H a = some (.lst (ss.map V.str))
def LI (H : Hp) (v : V) (ns : List Int) : Prop := ∃ a, v = .ref a ∧ H a = some (.lst (ns.map V.int))
def TS (H : Hp) (v : V) (ss : List Str) : Prop := ∃ a, v = .ref a ∧ H a = some (.tup (ss.map V.str))
def TIn (H : Hp) (v : V) (ns : List Int) : Prop := ∃ a, v = .ref a ∧ H a = some (.tup (ns.map V.int))
def LL {α : Type} (r : Hp → V → α → Prop) (H : Hp) (v : V) (xs : List α) : Prop := ∃ a vs, v = .ref a ∧ H a = some (.lst vs) ∧ vs.length = xs.length ∧ ∀ (i : Nat) v x, vs[i]? = some v → xs[i]? = some x → r H v x
def LT {α : Type} (r : Hp → V → α → Prop) (H : Hp) (v : V) (xs : List α) : Prop := ∃ a vs, v = .ref a ∧ H a = some (.tup vs) ∧ vs.length = xs.length ∧ ∀ (i : Nat) v x, vs[i]? = some v → xs[i]? = some x → r H v x
def Mon {α : Type} (r : Hp → V → α → Prop) : Prop := ∀ H H' v x, Zn H H' → r H v x → r H' v x
theorem LS.mono : Mon LS := fun _ _ _ _ s ⟨a, e, h⟩ => ⟨a, e, s _ _ h⟩
theorem LI.mono : Mon LI := fun _ _ _ _ s ⟨a, e, h⟩ => ⟨a, e, s _ _ h⟩
theorem TS.mono : Mon TS := fun _ _ _ _ s ⟨a, e, h⟩ => ⟨a, e, s _ _ h⟩
theorem TIn.mono : Mon TIn := fun _ _ _ _ s ⟨a, e, h⟩ => ⟨a, e, s _ _ h⟩
theorem LL.mono {α : Type} {r : Hp → V → α → Prop} (m : Mon r) : Mon (LL r) := fun _ _ _ _ s ⟨a, vs, e, h, l, q⟩ => ⟨a, vs, e, s _ _ h, l, fun i v x h1 h2 => m _ _ _ _ s (q i v x h1 h2)⟩
theorem LT.mono {α : Type} {r : Hp → V → α → Prop} (m : Mon r) : Mon (LT r) := fun _ _ _ _ s ⟨a, vs, e, h, l, q⟩ => ⟨a, vs, e, s _ _ h, l, fun i v x h1 h2 => m _ _ _ _ s (q i v x h1 h2)⟩
theorem ZF.hide {p : Addr} {H H' : Hp} (s : ZF p H H') : Zn (hide p H) (hide p H') := fun b o h =>
 let ⟨n, e⟩ := W8 h
 Y7 n (s b o n e)
structure WD where
 signs : List (List Str)
 ways : List (List Int)
 starts : List Int
 fair : List Str
structure Y9 (H : Hp) (s w st f : V) (d : WD) : Prop where
 s : LL LS H s d.signs
 w : LL LI H w d.ways
 st : LI H st d.starts
 f : LS H f d.fair
theorem Y9.mono {H H' : Hp} {s w st f : V} {d : WD} (e : Zn H H') (h : Y9 H s w st f d) : Y9 H' s w st f d :=
 ⟨LL.mono LS.mono _ _ _ _ e h.s, LL.mono LI.mono _ _ _ _ e h.w, LI.mono _ _ _ _ e h.st, LS.mono _ _ _ _ e h.f⟩
structure Xu (d : WD) : Prop where
 n1 : 1 ≤ d.signs.length
 n20 : d.signs.length ≤ 20
 wl : d.ways.length = d.signs.length
 sn : ∀ ss ∈ d.signs, ss.Nodup ∧ (∀ x ∈ ss, Zr x = true) ∧ ss.length ≤ 30
 wn : ∀ ns ∈ d.ways, ns.Nodup ∧ ns ≠ [] ∧ (∀ x ∈ ns, 0 ≤ x ∧ x < d.signs.length) ∧ ns.length ≤ 20
 stn : d.starts.Nodup ∧ d.starts ≠ [] ∧ (∀ x ∈ d.starts, 0 ≤ x ∧ x < d.signs.length) ∧ d.starts.length ≤ 20
 fn : d.fair.Nodup ∧ (∀ x ∈ d.fair, Zr x = true) ∧ d.fair.length ≤ 3
theorem X2 {α β : Type} {f : α → β} (hf : ∀ a b, f a = f b → a = b) {l : List α} (h : l.Nodup) : (l.map f).Nodup := by
 unfold List.Nodup at *
 rw [List.pairwise_map]
 exact h.imp fun q e => q (hf _ _ e)
theorem str_inj (a b : Str) (h : V.str a = V.str b) : a = b := V.str.inj h
theorem int_inj (a b : Int) (h : V.int a = V.int b) : a = b := V.int.inj h
theorem XL {z : Str} (h : Zr z = true) : z.length ≤ 8 := by
 unfold Zr at h
 simp only [Bool.and_eq_true, decide_eq_true_eq] at h
 exact h.1.2
theorem LS.kd {H : Hp} {v : V} {ss : List Str} (h : LS H v ss) (hl : ss.length ≤ 1000) (hn : ∀ x ∈ ss, Zr x = true) : KdL H v := by
 obtain ⟨a, rfl, e⟩ := h
 refine ⟨.lst e, fun xs q => ?_⟩
 rw [Z1 e] at q
 cases q
 refine ⟨by rw [List.length_map]; exact hl, fun y hy => ?_⟩
 obtain ⟨z, hz, rfl⟩ := List.mem_map.mp hy
 exact .str z (Nat.le_trans (XL (hn z hz)) (by decide))
theorem LI.kd {H : Hp} {v : V} {ns : List Int} (h : LI H v ns) (hl : ns.length ≤ 1000) : KdL H v := by
 obtain ⟨a, rfl, e⟩ := h
 refine ⟨.lst e, fun xs q => ?_⟩
 rw [Z1 e] at q
 cases q
 refine ⟨by rw [List.length_map]; exact hl, fun y hy => ?_⟩
 obtain ⟨z, hz, rfl⟩ := List.mem_map.mp hy
 exact .int z
theorem LS.names {H : Hp} {v : V} {ss : List Str} (h : LS H v ss) (nd : ss.Nodup) (hn : ∀ x ∈ ss, Zr x = true) : Z9 H v = true := by
 obtain ⟨a, rfl, e⟩ := h
 unfold Z9
 rw [Z1 e]
 simp only [Bool.and_eq_true, decide_eq_true_eq]
 refine ⟨List.all_eq_true.mpr fun y hy => ?_, X2 str_inj nd⟩
 obtain ⟨z, hz, rfl⟩ := List.mem_map.mp hy
 exact hn z hz
theorem LI.rooms {H : Hp} {v : V} {ns : List Int} {n : Nat} (h : LI H v ns) (nd : ns.Nodup) (ne : ns ≠ []) (hn : ∀ x ∈ ns, 0 ≤ x ∧ x < (n : Int)) : ZR H n v = true := by
 obtain ⟨a, rfl, e⟩ := h
 unfold ZR
 rw [Z1 e]
 simp only [Bool.and_eq_true, decide_eq_true_eq]
 refine ⟨⟨List.all_eq_true.mpr fun y hy => ?_, ?_⟩, X2 int_inj nd⟩
 ·obtain ⟨z, hz, rfl⟩ := List.mem_map.mp hy
  have := hn z hz
  simp [YM, this.1, this.2]
 ·cases ns with
  | nil => exact absurd rfl ne
  | cons y r => rfl
theorem LL.kd {α : Type} {r : Hp → V → α → Prop} {H : Hp} {v : V} {xs : List α} (h : LL r H v xs) (hl : xs.length ≤ 1000) (q : ∀ v x, r H v x → x ∈ xs → KdL H v) : KdLL H v := by
 obtain ⟨a, vs, rfl, e, l, k⟩ := h
 refine ⟨.lst e, fun ys z => ?_⟩
 rw [Z1 e] at z
 cases z
 refine ⟨by omega, fun y hy => ?_⟩
 obtain ⟨i, hi, rfl⟩ := List.getElem_of_mem hy
 have hx : i < xs.length := by omega
 exact q _ xs[i] (k i _ _ (List.getElem?_eq_getElem hi) (List.getElem?_eq_getElem hx)) (List.getElem_mem hx)
theorem LL.all {α : Type} {r : Hp → V → α → Prop} {H : Hp} {vs : List V} {xs : List α} {p : V → Bool} (l : vs.length = xs.length) (k : ∀ (i : Nat) v x, vs[i]? = some v → xs[i]? = some x → r H v x) (q : ∀ v x, r H v x → x ∈ xs → p v = true) : vs.all p = true := by
 refine List.all_eq_true.mpr fun y hy => ?_
 obtain ⟨i, hi, rfl⟩ := List.getElem_of_mem hy
 have hx : i < xs.length := by omega
 exact q _ xs[i] (k i _ _ (List.getElem?_eq_getElem hi) (List.getElem?_eq_getElem hx)) (List.getElem_mem hx)
theorem Y9.kd {H : Hp} {s w st f : V} {d : WD} (h : Y9 H s w st f d) (g : Xu d) : KdLL H s ∧ KdLL H w ∧ KdL H st ∧ KdL H f := by
 refine ⟨h.s.kd (by have := g.n20; omega) fun v x r m => ?_, h.w.kd (by have := g.n20; have := g.wl; omega) fun v x r m => ?_, h.st.kd (by have := g.stn.2.2.2; omega), h.f.kd (by have := g.fn.2.2; omega) g.fn.2.1⟩
 ·have := g.sn x m
  exact r.kd (by omega) this.2.1
 ·have := g.wn x m
  exact r.kd (by omega)
theorem Y9.makes {H : Hp} {s w st f : V} {d : WD} (h : Y9 H s w st f d) (g : Xu d) : Xv H s w st f = true := by
 have hst := h.st.rooms (n := d.signs.length) g.stn.1 g.stn.2.1 g.stn.2.2.1
 have hf := h.f.names g.fn.1 g.fn.2.1
 obtain ⟨a, vs, rfl, e, l, k⟩ := h.s
 obtain ⟨b, ws, rfl, e2, l2, k2⟩ := h.w
 obtain ⟨c, rfl, e3⟩ := h.f
 unfold Xv
 rw [Z1 e, Z1 e2, Z1 e3]
 dsimp only
 rw [l]
 have h1 : vs.all (Z9 H) = true := LL.all l k fun v x r m => r.names (g.sn x m).1 (g.sn x m).2.1
 have h2 : ws.all (ZR H d.signs.length) = true := LL.all l2 k2 fun v x r m => r.rooms (g.wn x m).1 (g.wn x m).2.1 (g.wn x m).2.2.1
 have := g.n1
 have := g.n20
 have := g.wl
 have := g.fn.2.2
 simp only [few3, Bool.and_eq_true, decide_eq_true_eq, List.length_map]
 refine ⟨⟨⟨⟨⟨by omega, by omega⟩, by omega⟩, h1⟩, h2⟩, hst, hf, by omega⟩
def wfs (t1 t2 t3 t4 : V) : List (Str × V) := [("room_signs", t1), ("room_ways", t2), ("start_rooms", t3), ("fair_names", t4)]
theorem n12 : ¬ (("room_signs" : Str) = "room_ways") := by decide +kernel
theorem n13 : ¬ (("room_signs" : Str) = "start_rooms") := by decide +kernel
theorem n14 : ¬ (("room_signs" : Str) = "fair_names") := by decide +kernel
theorem n23 : ¬ (("room_ways" : Str) = "start_rooms") := by decide +kernel
theorem n24 : ¬ (("room_ways" : Str) = "fair_names") := by decide +kernel
theorem n34 : ¬ (("start_rooms" : Str) = "fair_names") := by decide +kernel
theorem put1 (t1 : V) : Y8 "room_signs" t1 [] = ([("room_signs", t1)] : List (Str × V)) := rfl
theorem put2 (t1 t2 : V) : Y8 "room_ways" t2 ([("room_signs", t1)] : List (Str × V)) = ([("room_signs", t1), ("room_ways", t2)] : List (Str × V)) := by simp only [Y8, if_neg n12]
theorem put3 (t1 t2 t3 : V) : Y8 "start_rooms" t3 ([("room_signs", t1), ("room_ways", t2)] : List (Str × V)) = ([("room_signs", t1), ("room_ways", t2), ("start_rooms", t3)] : List (Str × V)) := by simp only [Y8, if_neg n13, if_neg n23]
theorem put4 (t1 t2 t3 t4 : V) : Y8 "fair_names" t4 ([("room_signs", t1), ("room_ways", t2), ("start_rooms", t3)] : List (Str × V)) = wfs t1 t2 t3 t4 := by simp only [Y8, if_neg n14, if_neg n24, if_neg n34, wfs]
structure YL (C : Addr) (H : Hp) (p : Addr) (d : WD) : Prop where
 ex : ∃ dx t1 t2 t3 t4, H p = some (.ins C dx (wfs t1 t2 t3 t4)) ∧ LT TS H t1 (d.signs.map Y3) ∧ LT TIn H t2 (d.ways.map ZS) ∧ TIn H t3 (ZS d.starts) ∧ TS H t4 d.fair
theorem YL.mono {C : Addr} {H H' : Hp} {p : Addr} {d : WD} (s : Zn H H') (h : YL C H p d) : YL C H' p d := by
 obtain ⟨dx, t1, t2, t3, t4, e, h1, h2, h3, h4⟩ := h.ex
 exact ⟨dx, t1, t2, t3, t4, s _ _ e, LT.mono TS.mono _ _ _ _ s h1, LT.mono TIn.mono _ _ _ _ s h2, TIn.mono _ _ _ _ s h3, TS.mono _ _ _ _ s h4⟩
theorem beqF {a b : Str} (h : ¬ a = b) : (a == b) = false := by simpa using h
theorem xC (t1 t2 t3 t4 : V) : (wfs t1 t2 t3 t4).lookup ("room_signs" : Str) = some t1 := by simp [wfs, List.lookup_cons]
theorem lk_ways (t1 t2 t3 t4 : V) : (wfs t1 t2 t3 t4).lookup ("room_ways" : Str) = some t2 := by simp [wfs, List.lookup_cons, beqF (fun e => n12 e.symm)]
theorem lk_starts (t1 t2 t3 t4 : V) : (wfs t1 t2 t3 t4).lookup ("start_rooms" : Str) = some t3 := by simp [wfs, List.lookup_cons, beqF (fun e => n13 e.symm), beqF (fun e => n23 e.symm)]
theorem lk_fair (t1 t2 t3 t4 : V) : (wfs t1 t2 t3 t4).lookup ("fair_names" : Str) = some t4 := by simp [wfs, List.lookup_cons, beqF (fun e => n14 e.symm), beqF (fun e => n24 e.symm), beqF (fun e => n34 e.symm)]
theorem lk_no (t1 t2 t3 t4 : V) {m : Str} (h1 : ¬ m = "room_signs") (h2 : ¬ m = "room_ways") (h3 : ¬ m = "start_rooms") (h4 : ¬ m = "fair_names") : (wfs t1 t2 t3 t4).lookup m = none := by simp [wfs, List.lookup_cons, beqF h1, beqF h2, beqF h3, beqF h4]
theorem New.hidden {H H' : Hp} {p : Addr} {o : HO} (h : H p = some o) : Zn (New H H') (hide p H') := fun b u e =>
 let ⟨h1, h2⟩ := New.of e
 Y7 (fun z => by subst z; rw [h] at h1; cases h1) h2
theorem LS.hid {H : Hp} {p C dx : Addr} {fs : List (Str × V)} {v : V} {ss : List Str} (hp : H p = some (.ins C dx fs)) (h : LS H v ss) : LS (hide p H) v ss := by
 obtain ⟨a, rfl, e⟩ := h
 exact ⟨a, rfl, Y7 (ne_of e hp (by intro z; cases z)) e⟩
theorem LI.hid {H : Hp} {p C dx : Addr} {fs : List (Str × V)} {v : V} {ss : List Int} (hp : H p = some (.ins C dx fs)) (h : LI H v ss) : LI (hide p H) v ss := by
 obtain ⟨a, rfl, e⟩ := h
 exact ⟨a, rfl, Y7 (ne_of e hp (by intro z; cases z)) e⟩
theorem LL.hid {α : Type} {r : Hp → V → α → Prop} {H : Hp} {p C dx : Addr} {fs : List (Str × V)} {v : V} {xs : List α} (hp : H p = some (.ins C dx fs)) (m : ∀ v x, r H v x → r (hide p H) v x) (h : LL r H v xs) : LL r (hide p H) v xs := by
 obtain ⟨a, vs, rfl, e, l, q⟩ := h
 exact ⟨a, vs, rfl, Y7 (ne_of e hp (by intro z; cases z)) e, l, fun i v x h1 h2 => m _ _ (q i v x h1 h2)⟩
theorem Y9.hid {H : Hp} {p C dx : Addr} {fs : List (Str × V)} {s w st f : V} {d : WD} (hp : H p = some (.ins C dx fs)) (h : Y9 H s w st f d) : Y9 (hide p H) s w st f d :=
 ⟨h.s.hid hp fun _ _ r => r.hid hp, h.w.hid hp fun _ _ r => r.hid hp, h.st.hid hp, h.f.hid hp⟩
theorem zF {α β : Type} {r : Hp → V → β → Prop} {H : Hp} {f : α → β} {a : Addr} {ys : List V} {xs : List α} (h : H a = some (.tup ys)) (l : ys.length = xs.length) (q : ∀ (i : Nat) v, ys[i]? = some v → ∀ x, xs[i]? = some x → r H v (f x)) : LT r H (.ref a) (xs.map f) := by
 refine ⟨a, ys, rfl, h, by rw [List.length_map, l], fun i v x h1 h2 => ?_⟩
 rw [List.getElem?_map] at h2
 cases e : xs[i]? with
 | none => rw [e] at h2; cases h2
 | some y =>
  rw [e] at h2
  cases h2
  exact q i v h1 y e
def dI (ns : List Int) : PyData := .list (ns.map PyData.int)
def dS (ss : List Str) : PyData := .list (ss.map PyData.str)
def VV (n : Nat) (d : PyData) : Prop := d.canLay0 = true ∧ d.depth ≤ n
theorem fineAll {α : Type} {f : α → PyData} {n : Nat} {xs : List α} (h : ∀ x ∈ xs, VV n (f x)) : PyData.canLayAll0 (xs.map f) = true ∧ PyData.depthAll (xs.map f) ≤ n := by
 induction xs with
 | nil => exact ⟨by simp [PyData.canLayAll0], by simp [PyData.depthAll]⟩
 | cons x r ih =>
  obtain ⟨a, b⟩ := ih fun y hy => h y (List.mem_cons_of_mem _ hy)
  obtain ⟨c, d⟩ := h x List.mem_cons_self
  rw [List.map_cons]
  exact ⟨by rw [PyData.canLayAll0, c, a]; rfl, by rw [PyData.depthAll]; exact Nat.max_le.mpr ⟨d, b⟩⟩
theorem zU {α : Type} {f : α → PyData} {n : Nat} {xs : List α} (h : ∀ x ∈ xs, VV n (f x)) : VV (n + 1) (.list (xs.map f)) := by
 obtain ⟨a, b⟩ := fineAll h
 exact ⟨by rw [PyData.canLay0]; exact a, by rw [PyData.depth]; omega⟩
theorem Uv (ns : List Int) : VV 1 (dI ns) := zU fun x _ => ⟨by simp [PyData.canLay0], by simp [PyData.depth]⟩
theorem xR {z : Str} (h : Zr z = true) : PyData.strOk z = true := by
 unfold Zr at h
 rw [Bool.and_eq_true] at h
 have h2 := List.all_eq_true.mp h.2
 unfold PyData.strOk
 rw [Array.all_eq_true_iff_forall_mem]
 intro x hx
 have := h2 x (Array.mem_toList_iff.mpr hx)
 unfold Xs at this
 have := of_decide_eq_true this
 exact decide_eq_true (by omega)
theorem VV.up {n m : Nat} {d : PyData} (h : VV n d) (l : n ≤ m) : VV m d := ⟨h.1, Nat.le_trans h.2 l⟩
section
variable {K : PySem.W.Frag} {H : Hp}
theorem Uh {α : Type} {g : α → V} {f : α → PyData} (h : ∀ x, Dp K H (g x) (f x)) : ∀ xs : List α, WF K H (xs.map g) (xs.map f)
 | [] => .nil
 | x :: r => .cons (h x) (Uh h r)
theorem LI.dp {v : V} {ns : List Int} (h : LI H v ns) : Dp K H v (dI ns) := by
 obtain ⟨a, rfl, e⟩ := h
 exact .lst (SqL.of e) (Uh (fun x => .int x) ns)
theorem LS.dp {v : V} {ss : List Str} (h : LS H v ss) : Dp K H v (dS ss) := by
 obtain ⟨a, rfl, e⟩ := h
 exact .lst (SqL.of e) (Uh (fun x => .str x) ss)
end
theorem eqD_nil {K : PySem.W.Frag} {H : Hp} {a b : Addr} {ns : List Int} {Q : VK} (h1 : H a = some (.lst (ns.map V.int))) (h2 : H b = some (.lst [])) (q : ∀ c : Bool, (c = true ↔ ns = []) → Q (.bl c) H) : rEqD K false (.ref a) (.ref b) H Q := by
 refine ⟨dI ns, .list [], LI.dp ⟨a, rfl, h1⟩, .lst (SqL.of h2) .nil, (Uv ns).1, by simp [PyData.canLay0, PyData.canLayAll0], Nat.le_trans (Uv ns).2 (by decide), ?_⟩
 refine q _ ?_
 cases ns with
 | nil => simp [dI, PyData.eqv, PyData.eqvAll]
 | cons x r => simp [dI, PyData.eqv, PyData.eqvAll]
theorem ZF.updN {p D : Addr} {H H' : Hp} {o : HO} (s : ZF p H H') (h : H D = none) : ZF p H (L2.upd H' D o) := fun b u n e => by
 rw [Zv (Yg e h)]
 exact s b u n e
theorem ZF.free {p D : Addr} {H H' : Hp} (s : ZF p H H') (np : D ≠ p) (h : H' D = none) : H D = none := by
 cases e : H D with
 | none => rfl
 | some o => rw [s D o np e] at h; cases h
theorem letter_at (n : Int) : ∃ c, atI ("abcdefghijklmnopqrstuvwxyz" : Str).cps.toList (n % 26) = some c ∧ Xs c = true := by
 have h0 := Int.emod_nonneg n (show (26 : Int) ≠ 0 by decide)
 have h1 := Int.emod_lt_of_pos n (show (0 : Int) < 26 by decide)
 obtain ⟨j, e⟩ := Int.eq_ofNat_of_zero_le h0
 rw [e] at h1 ⊢
 have hl : ("abcdefghijklmnopqrstuvwxyz" : Str).cps.toList.length = 26 := by decide +kernel
 have hj : j < ("abcdefghijklmnopqrstuvwxyz" : Str).cps.toList.length := by rw [hl]; omega
 refine ⟨_, Yo (List.getElem?_eq_getElem hj), ?_⟩
 rw [← WM]
 exact decide_eq_true (List.getElem_mem hj)
theorem yN {z : Str} {c : Nat} (h : z.cps.toList.all Xs = true) (hc : Xs c = true) : (z ++ (⟨#[c]⟩ : Str)).cps.toList.all Xs = true := by
 have e : (z ++ (⟨#[c]⟩ : Str)).cps.toList = z.cps.toList ++ [c] := by
  show (z.cps ++ #[c]).toList = _
  simp
 rw [e, List.all_append, h]
 simp [hc]
theorem yk (z : Str) (c : Nat) : (z ++ (⟨#[c]⟩ : Str)).length = z.length + 1 := by
 show (z.cps ++ #[c]).size = z.cps.size + 1
 simp
theorem name_of {z : Str} (h1 : 1 ≤ z.length) (h2 : z.length ≤ 8) (h : z.cps.toList.all Xs = true) : Zr z = true := by
 unfold Zr
 simp [h1, h2, h]
theorem inV_str {z : Str} {ss : List Str} : inV (.str z) (ss.map V.str) = true ↔ z ∈ ss := by
 unfold inV
 rw [List.any_map, List.any_eq_true]
 constructor
 ·rintro ⟨y, hy, e⟩
  have e' : (y == z) = true := e
  rw [beq_iff_eq] at e'
  exact e' ▸ hy
 ·intro hz
  exact ⟨z, hz, by show (z == z) = true; simp⟩
theorem flat_strs (ss : List Str) : (ss.map V.str).all WI = true := by
 rw [List.all_map]
 exact List.all_eq_true.mpr fun _ _ => rfl
theorem vA {α : Type} {l : List α} {x : α} (h : l.Nodup) (n : x ∉ l) : (l ++ [x]).Nodup := by
 rw [List.nodup_append]
 refine ⟨h, by simp, ?_⟩
 intro a ha b hb e
 have : b = x := by simpa using hb
 subst this; subst e
 exact n ha
theorem at_mod {ts : List V} (n : Int) (h : ts ≠ []) : (0 : Int) < ts.length ∧ ∃ v, atI ts (n % (ts.length : Int)) = some v ∧ v ∈ ts := by
 have hl := List.length_pos_iff.mpr h
 have hp : (0 : Int) < ts.length := by omega
 refine ⟨hp, ?_⟩
 have h0 := Int.emod_nonneg n (Int.ne_of_gt hp)
 have h1 := Int.emod_lt_of_pos n hp
 obtain ⟨j, e⟩ := Int.eq_ofNat_of_zero_le h0
 rw [e] at h1 ⊢
 have hj : j < ts.length := by omega
 exact ⟨_, Yo (List.getElem?_eq_getElem hj), List.getElem_mem hj⟩
theorem updK {H : Hp} {p F : Addr} {o o' : HO} (h : H p = some o) (n : p ≠ F) : upd H F o' p = some o := by rw [Zv n]; exact h
theorem ne_new {H : Hp} {p D : Addr} {o : HO} (h : H p = some o) (n : H D = none) : p ≠ D := fun e => by rw [e, n] at h; cases h
theorem take_push {α : Type} {ys ts : List α} {i : Nat} {v : α} (h : ys.Sublist (ts.take i)) (e : ts[i]? = some v) : (ys ++ [v]).Sublist (ts.take (i + 1)) := by
 rw [List.take_add_one, e]
 exact h.append (List.Sublist.refl _)
theorem take_keep {α : Type} {ys ts : List α} {i : Nat} (h : ys.Sublist (ts.take i)) : ys.Sublist (ts.take (i + 1)) := by
 rw [List.take_add_one]
 exact h.trans (List.sublist_append_left _ _)
end L3
namespace L3
theorem nodup_rev {α : Type} {l : List α} (h : l.Nodup) : l.reverse.Nodup := by
 unfold List.Nodup at *
 rw [List.pairwise_reverse]
 exact h.imp fun q => Ne.symm q
end L3
namespace L3
open PySem PySem.Spec L2
theorem New.monoX {p : Addr} {H H1 H2 H3 : Hp} {o' : HO} (a : ZF p H H1) (hp : H1 p = some o') (b : ZF p H2 H3) : Zn (New H1 H2) (New H H3) := fun c o h =>
 let ⟨h1, h2⟩ := New.of h
 have nc : c ≠ p := fun e => by rw [e, hp] at h1; cases h1
 New.mk (a.free nc h1) (b c o nc h2)
theorem zD {K : PySem.W.Frag} {a D p : Addr} {ns : List Int} {xs : List V} {te : TE} {τ : St} {H0 : Hp} {Q : VK} (hD : H0 D = none) (hp : H0 p = some (.lst (ns.map V.int))) (ha : H0 a = some (.lst xs)) (nap : a ≠ p) (hz : xs.length ≤ sizeLine) (R : Nat → V → Hp → Prop) (mono : ∀ i v H H', Zn H H' → R i v H → R i v H')
  (step : ∀ i x H (ns' : List Int) (N : V → Hp → Prop), xs[i]? = some x → ZF p H0 H → H p = some (.lst (ns'.map V.int)) → (∀ v H4 (ns4 : List Int), ZF p H H4 → H4 p = some (.lst (ns4.map V.int)) → R i v (New H H4) → N v H4) → te (some x :: τ) H N)
  (fin : ∀ H' ys (ns' : List Int), H' D = some (.lst ys) → ZF p H0 H' → H' p = some (.lst (ns'.map V.int)) → ys.length = xs.length → (∀ i v, ys[i]? = some v → R i v (New H0 H')) → Q (.ref D) H') :
  zu (Itl K a) D (Wi 0) tTrue te (none :: τ) H0 Q := by
 have npD : p ≠ D := ne_new hp hD
 refine XE (n := xs.length) (fun i σ H => ∃ (z : Option V) (ys : List V) (ns' : List Int), σ = z :: τ ∧ H D = some (.lst ys) ∧ ys.length = i ∧ ZF p H0 H ∧ H p = some (.lst (ns'.map V.int)) ∧ ∀ j v, ys[j]? = some v → R j v (hide D (New H0 H))) ?_ ?_ ?_ ?_ ?_
 ·exact ⟨none, [], ns, rfl, Zd, rfl, Zn.x (Zf hD), updK hp npD, fun j v e => by simp at e⟩
 ·rintro i σ H hi ⟨z, ys, ns', rfl, _, _, s, _, _⟩
  exact ⟨xs, xs[i], SqL.of (s _ _ nap ha), by simp [hi]⟩
 ·rintro σ H ⟨z, ys, ns', rfl, _, _, s, _, _⟩
  exact ⟨xs, SqL.of (s _ _ nap ha), Nat.le_refl _⟩
 ·rintro i x σ H H2 hi ⟨z, ys, ns', rfl, hy, hl, s, hp2, r⟩ ⟨rfl, hx⟩ N N0 hN hN0
  show te (some x :: τ) H2 _
  refine step i x H2 ns' _ (hx xs (SqL.of (s _ _ nap ha))) s hp2 fun v H4 ns4 s4 hp4 r4 => ?_
  refine hN v _ H4 ys (s4 _ _ (Ne.symm npD) hy) (by omega) ⟨some x, ys ++ [v], ns4, rfl, Zd, by rw [List.length_append, List.length_singleton, hl], ?_, updK hp4 npD, ?_⟩
  ·exact (s.trans s4).updN hD
  ·intro j w e
   by_cases hj : j < ys.length
   ·rw [List.getElem?_append_left hj] at e
    refine mono j w _ _ ?_ (r j w e)
    intro b o hb
    obtain ⟨nb, hb⟩ := W8 hb
    obtain ⟨h1, h2⟩ := New.of hb
    have nbp : b ≠ p := fun e => by rw [e, hp] at h1; cases h1
    exact Y7 nb (New.mk h1 (by rw [Zv nb]; exact s4 _ _ nbp h2))
   ·have ej : j = ys.length := by
     have := (List.getElem?_eq_some_iff.mp e).1
     rw [List.length_append, List.length_singleton] at this
     omega
    subst ej
    simp at e
    subst e
    rw [hl]
    refine mono i v _ _ ?_ r4
    intro b o hb
    obtain ⟨h1, h2⟩ := New.of hb
    have nb : b ≠ D := fun z => by subst z; rw [hy] at h1; cases h1
    have nbp : b ≠ p := fun e => by rw [e, hp2] at h1; cases h1
    exact Y7 nb (New.mk (s.free nbp h1) (by rw [Zv nb]; exact h2))
 ·rintro σ H ⟨z, ys, ns', rfl, hy, hl, s, hp2, r⟩
  exact fin H ys ns' hy s hp2 hl fun i v e => mono i v _ _ Xw (r i v e)
theorem WV {α : Type} {P : V → α → Prop} : ∀ {ys : List V}, (∀ (i : Nat) v, ys[i]? = some v → ∃ x, P v x) → ∃ xs : List α, ys.length = xs.length ∧ ∀ (i : Nat) v x, ys[i]? = some v → xs[i]? = some x → P v x
 | [], _ => ⟨[], rfl, fun i v x h => by simp at h⟩
 | y :: r, h => by
  obtain ⟨x, hx⟩ := h 0 y rfl
  obtain ⟨xs, l, q⟩ := WV (ys := r) fun i v e => h (i + 1) v (by simpa using e)
  refine ⟨x :: xs, by simp [l], fun i v z h1 h2 => ?_⟩
  cases i with
  | zero =>
   simp at h1 h2
   subst h1; subst h2
   exact hx
  | succ i => exact q i v z (by simpa using h1) (by simpa using h2)
theorem unmap {α : Type} {f : α → V} {ss : List α} : ∀ {ys : List V}, (∀ y ∈ ys, y ∈ ss.map f) → ∃ zs : List α, ys = zs.map f ∧ ∀ z ∈ zs, z ∈ ss
 | [], _ => ⟨[], rfl, fun z h => by cases h⟩
 | y :: r, h => by
  obtain ⟨x, hx, e⟩ := List.mem_map.mp (h y List.mem_cons_self)
  obtain ⟨zs, e2, q⟩ := unmap (ys := r) fun z hz => h z (List.mem_cons_of_mem _ hz)
  refine ⟨x :: zs, by rw [List.map_cons, e, ← e2], fun z hz => ?_⟩
  rcases List.mem_cons.mp hz with rfl | hz
  ·exact hx
  ·exact q z hz
theorem XT {α β : Type} {f : α → β} {l : List α} (h : (l.map f).Nodup) : l.Nodup := by
 unfold List.Nodup at *
 rw [List.pairwise_map] at h
 exact h.imp fun q e => q (congrArg f e)
theorem qd {j : Int} (h1 : 1 ≤ j) (h2 : j ≤ 20) : (upTo j).Nodup ∧ 1 ≤ (upTo j).length ∧ (upTo j).length ≤ 20 ∧ ∀ x ∈ upTo j, 0 ≤ x ∧ x < (upTo j).length := by
 have hl : (upTo j).length = j.toNat := by unfold upTo; rw [List.length_map, List.length_range]
 refine ⟨X2 (fun a b e => by omega) List.nodup_range, by omega, by omega, fun x hx => ?_⟩
 unfold upTo at hx
 obtain ⟨k, hk, rfl⟩ := List.mem_map.mp hx
 have := List.mem_range.mp hk
 omega
theorem cut3 (xs : List V) : X9 xs none (some 3) = xs.take 3 := by
 unfold X9
 have e1 : HT.sIx xs.length 0 none = 0 := rfl
 rw [e1]
 simp only [List.drop_zero, Nat.sub_zero]
 by_cases h : 3 ≤ xs.length
 ·have e2 : HT.sIx xs.length xs.length (some 3) = 3 := by unfold HT.sIx; simp; omega
  rw [e2]
 ·have e2 : HT.sIx xs.length xs.length (some 3) = xs.length := by unfold HT.sIx; simp; omega
  rw [e2, List.take_of_length_le (by omega), List.take_of_length_le (by omega)]
def sortW (d : WD) : WD := ⟨d.signs.map Y3, d.ways.map ZS, ZS d.starts, d.fair⟩
theorem YL.at {C : Addr} {H : Hp} {p : Addr} {d : WD} (h : YL C H p d) {m : Str} (h1 : ¬ m = "room_signs") (h2 : ¬ m = "room_ways") (h3 : ¬ m = "start_rooms") (h4 : ¬ m = "fair_names") : ∃ dx fs, H p = some (.ins C dx fs) ∧ fs.lookup m = none := by
 obtain ⟨dx, t1, t2, t3, t4, e, _⟩ := h.ex
 exact ⟨dx, _, e, lk_no _ _ _ _ h1 h2 h3 h4⟩
theorem at_many {C : Addr} {H : Hp} {p : Addr} {d : WD} (h : YL C H p d) : ∃ dx fs, H p = some (.ins C dx fs) ∧ fs.lookup ("many" : Str) = none := h.at (by decide +kernel) (by decide +kernel) (by decide +kernel) (by decide +kernel)
theorem xM {C : Addr} {H : Hp} {p : Addr} {d : WD} (h : YL C H p d) : ∃ dx fs, H p = some (.ins C dx fs) ∧ fs.lookup ("signs_of" : Str) = none := h.at (by decide +kernel) (by decide +kernel) (by decide +kernel) (by decide +kernel)
theorem vf {C : Addr} {H : Hp} {p : Addr} {d : WD} (h : YL C H p d) : ∃ dx fs, H p = some (.ins C dx fs) ∧ fs.lookup ("ways_on" : Str) = none := h.at (by decide +kernel) (by decide +kernel) (by decide +kernel) (by decide +kernel)
theorem at_begins {C : Addr} {H : Hp} {p : Addr} {d : WD} (h : YL C H p d) : ∃ dx fs, H p = some (.ins C dx fs) ∧ fs.lookup ("begins" : Str) = none := h.at (by decide +kernel) (by decide +kernel) (by decide +kernel) (by decide +kernel)
theorem zb {C : Addr} {H : Hp} {p : Addr} {d : WD} (h : YL C H p d) : ∃ dx fs, H p = some (.ins C dx fs) ∧ fs.lookup ("fair_signs" : Str) = none := h.at (by decide +kernel) (by decide +kernel) (by decide +kernel) (by decide +kernel)
end L3
namespace L3
open PySem PySem.Spec PyProof.Rows L2
section
variable {X : Cx} {pins : List (Addr × Obj)} {σ : St} {H : Hp} {s : Shared} {h' : Heap}
theorem Inv.turnedM {ch : List Addr} {t' : Nat} (I : L2.Inv X pins σ H s) (k : ∀ b u, b ∉ ch → s.heap.get? b = some u → h'.get? b = some u) (hf : ∀ b ∈ ch, WS X pins H b) : L2.Inv X pins σ H { s with heap := h', toks := t' } := by
 have nch : ∀ c v, H c = some v → c ∉ ch := fun c v q z => by rw [(hf c z).1] at q; cases q
 refine I.step (g' := s.gens) (d' := s.drawn) (ch := ch) (fun b hb => ?_) (fun b u _ _ hc e _ => k b u hc e) (fun b u _ _ hc e _ => ⟨u.slots, k b u hc e⟩) (fun _ _ _ _ n => n)
  (fun b u hc e => ⟨u, k b u hc e⟩) (fun _ _ e => e) (fun _ _ _ e => e) (fun b ps e => ⟨#[], by rw [e]; simp⟩) (fun m hm => ?_) (fun b u e => ?_) I.bare
 ·obtain ⟨f0, f1, f2, f3, f4, f5⟩ := hf b hb
  exact ⟨f3, f1, f4, f5⟩
 ·obtain ⟨ob, es, ep, ho, r⟩ := hm
  exact ⟨ob, es, ep, k _ ob (fun z => (hf _ z).2.1 rfl) ho, r⟩
 ·refine (I.hok b u e).stay (fun c v hc q => k c v ?_ q) (fun _ q => q) fun _ _ q => q
  rcases hc with rfl | hc
  ·exact nch _ _ e
  ·exact nch _ _ hc
end
def Itz (K : PySem.W.Frag) (a b : Addr) : It :=
 ⟨fun i H => ∃ xs ys x y, SqL K H a xs ∧ SqL K H b ys ∧ xs[i]? = some x ∧ ys[i]? = some y, fun i H x H' => ∃ p v w, x = .ref p ∧ H p = none ∧ H' = upd H p (.tup [v, w]) ∧ (∀ xs, SqL K H a xs → xs[i]? = some v) ∧ ∀ ys, SqL K H b ys → ys[i]? = some w, fun i H => ∃ xs ys, SqL K H a xs ∧ SqL K H b ys ∧ (xs.length ≤ i ∨ ys.length ≤ i)⟩
theorem neA {a b : Nat} (h : a < b ∨ b < a) : (a : Addr) ≠ b := fun e => by subst e; omega
theorem apart_of (I l1 l2 : Nat) (h1 : l1 < I) (h2 : l2 < I) : ZipApart (I + 4) (I + 2) (I + 3) I (I + 1) l1 l2 := by
 constructor <;> (refine neA ?_; omega)
theorem turn_zip {P : Program} {w : World} {K : PySem.W.Frag} {elts : List Expr} {k1 : Nat} {pt : Pos} (a b z TI TO i1 i2 : Addr) (D : ZipApart z TI TO i1 i2 a b) :
  Turn P w K (.Tuple elts k1 pt) (Itz K a b) [z, TI, TO, i1, i2] z (fun i h => IsZip h z TI TO .none ∧ IsPair h TI (.ref i1) (.ref i2) ∧ (∃ u v, IsPair h TO u v) ∧ h.IsListIter i1 a i ∧ h.IsListIter i2 b i) where
 mem := by simp
 obj := fun i h st c hb => by
  obtain ⟨hz, hTI, ⟨u, v, hTO⟩, ⟨o1, e1, c1, d1⟩, ⟨o2, e2, c2, d2⟩⟩ := st
  rcases (by simpa using hb : c = z ∨ c = TI ∨ c = TO ∨ c = i1 ∨ c = i2) with rfl | rfl | rfl | rfl | rfl
  ·exact ⟨_, hz, fun v q => by
    have q' : Data.fields _ = Data.cell v := q
    cases q'⟩
  ·exact ⟨_, hTI, fun v q => by
    have q' : Data.seq _ _ = Data.cell v := q
    cases q'⟩
  ·exact ⟨_, hTO, fun v q => by
    have q' : Data.seq _ _ = Data.cell v := q
    cases q'⟩
  ·exact ⟨o1, e1, fun v q => by rw [d1] at q; cases q⟩
  ·exact ⟨o2, e2, fun v q => by rw [d2] at q; cases q⟩
 keep := fun i h h' st k => by
  obtain ⟨hz, hTI, ⟨u, v, hTO⟩, h1, h2⟩ := st
  exact ⟨k z (by simp) _ hz, k TI (by simp) _ hTI, ⟨u, v, k TO (by simp) _ hTO⟩, h1.at fun o q => k i1 (by simp) o q, h2.at fun o q => k i2 (by simp) o q⟩
 item := by
  intro X hP hw hK hc i pins s σ H E I hf st hg
  subst hP hw hK
  obtain ⟨xs, ys, x, y, hq1, hq2, hx, hy⟩ := hg
  obtain ⟨its1, rv1, p1, hz1⟩ := I.list hq1
  obtain ⟨its2, rv2, p2, hz2⟩ := I.list hq2
  obtain ⟨u1, hu1, ru1⟩ := rv1.get hx
  obtain ⟨u2, hu2, ru2⟩ := rv2.get hy
  obtain ⟨hz, hTI, ⟨tu, tv, hTO⟩, hi1, hi2⟩ := st
  refine wpAny_pyNext_zip_item D hz hTI hTO hi1 hi2 p1.isList p2.isList (x := u1) (y := u2) (by simpa using hu1) (by simpa using hu2) fun h1 b1 b2 b3 b4 b5 b6 b7 => ?_
  refine ⟨_, rfl, wpAny_letOwnedTupleGo_zip b1 fun h2 c1 c2 => ?_⟩
  have c2' : Heap.SameBut z h1 h2 := c2
  have ltz : z < s.heap.objs.size := Heap.lt_size hz
  have hit1 : h2.IsListIter i1 a (i + 1) := b3.at fun o q => (c2'.2 i1 D.i1z).trans q
  have hit2 : h2.IsListIter i2 b (i + 1) := b4.at fun o q => (c2'.2 i2 D.i2z).trans q
  have hTO2 : IsPair h2 TO u1 u2 := (c2'.2 TO D.TOz).trans b2
  have hTI2 : IsPair h2 TI (.ref i1) (.ref i2) := (c2'.2 TI D.TIz).trans (b7 TI _ D.TIz D.TITO D.TIi1 D.TIi2 hTI)
  have ht : h2.get? s.heap.objs.size = some { cls := .type "tuple", data := .seq #[u1, u2] } := (c2'.2 _ (Nat.ne_of_gt ltz)).trans b5
  have I2 : L2.Inv X pins σ (upd H s.heap.objs.size (.tup [x, y])) { s with heap := h2, toks := s.toks } := by
   refine Inv.turnedLaid (ch := [z, TI, TO, i1, i2]) I (fun c o hb q => ?_) (fun c hb => ?_) hf (Nat.le_refl _) ?_
   ·have hb' : c ≠ z ∧ c ≠ TI ∧ c ≠ TO ∧ c ≠ i1 ∧ c ≠ i2 := by simpa using hb
    exact (c2'.2 c hb'.1).trans (b7 c o hb'.1 hb'.2.2.1 hb'.2.2.2.1 hb'.2.2.2.2 q)
   ·rcases (by simpa using hb : c = z ∨ c = TI ∨ c = TO ∨ c = i1 ∨ c = i2) with rfl | rfl | rfl | rfl | rfl
    ·exact ⟨_, c1⟩
    ·exact ⟨_, hTI2⟩
    ·exact ⟨_, hTO2⟩
    ·obtain ⟨o, q, _⟩ := hit1; exact ⟨o, q⟩
    ·obtain ⟨o, q, _⟩ := hit2; exact ⟨o, q⟩
   ·exact ⟨by show 2 ≤ sizeLine; decide, [u1, u2], .cons ru1 (.cons ru2 .nil), ⟨_, ht, rfl, _, rfl⟩⟩
  have hn := I.hok.fresh (Nat.le_refl s.heap.objs.size)
  refine ⟨.ref s.heap.objs.size, _, I2, rfl, ⟨_, x, y, rfl, hn, rfl, fun zs q => by rw [I.list_inj q hq1]; exact hx, fun zs q => by rw [I.list_inj q hq2]; exact hy⟩, ⟨c1, hTI2, ⟨_, _, hTO2⟩, hit1, hit2⟩, fun c hb => ?_⟩
  have lb : c < s.heap.objs.size := by
   rcases (by simpa using hb : c = z ∨ c = TI ∨ c = TO ∨ c = i1 ∨ c = i2) with rfl | rfl | rfl | rfl | rfl
   ·exact ltz
   ·exact Heap.lt_size hTI
   ·exact Heap.lt_size hTO
   ·obtain ⟨o, q, _⟩ := hi1; exact Heap.lt_size q
   ·obtain ⟨o, q, _⟩ := hi2; exact Heap.lt_size q
  rw [Zv (Nat.ne_of_lt lb)]
  exact (hf c hb).1
 done := by
  intro X hP hw hK hc i pins s σ H E I hf st hg
  subst hP hw hK
  obtain ⟨xs, ys, hq1, hq2, hx⟩ := hg
  obtain ⟨its1, rv1, p1, hz1⟩ := I.list hq1
  obtain ⟨its2, rv2, p2, hz2⟩ := I.list hq2
  obtain ⟨hz, hTI, ⟨tu, tv, hTO⟩, hi1, hi2⟩ := st
  have l1 := rv1.length
  have l2 := rv2.length
  have hend : its1.toArray[i]? = none ∨ its2.toArray[i]? = none := by
   rcases hx with hx | hx
   ·exact .inl (by simp; omega)
   ·exact .inr (by simp; omega)
  refine wpAny_pyNext_zip_end (I.ok.hd hc) D hz hTI hTO hi1 hi2 p1.isList p2.isList hend fun h' eb => ⟨rfl, ?_⟩
  exact Inv.turnedM (ch := [z, TI, TO, i1, i2]) (t' := s.toks) I (fun c o hb q => by
   have hb' : c ≠ z ∧ c ≠ TI ∧ c ≠ TO ∧ c ≠ i1 ∧ c ≠ i2 := by simpa using hb
   exact eb c o hb'.1 hb'.2.2.1 hb'.2.2.2.1 hb'.2.2.2.2 q) hf
 self := fun _ _ _ _ _ st h => wpAny_pyIter_zip st.1 h
section
variable {X : Cx}
def iZip (K : PySem.W.Frag) (ta : TA) : TI := fun σ H R => ta σ H fun vs H1 => ∃ a b xs ys, vs = [.ref a, .ref b] ∧ SqL K H1 a xs ∧ SqL K H1 b ys ∧ R (Itz K a b) H1
theorem pi_zip {elts : List Expr} {k1 : Nat} {pt : Pos} {a b : Expr} {ta : TA} {p pos : Pos} (hg : Gl X "zip") (hm : X.mg "zip" = none) (ha : PA X [a, b] ta) (hs : starEach [a, b] X.env = [(false, eval a X.env), (false, eval b X.env)] := by rfl) (hs2 : starEach [b] X.env = [(false, eval b X.env)] := by rfl) :
  PI X (.Tuple elts k1 pt) (.Call (.Name "zip" p) [a, b] [] pos) (iZip X.K ta) := by
 intro pins s σ H R I h
 refine Call_ (Vu I hg hm PyProof.Rows.boot_zip (PyProof.Rows.callWith_type1 (thn (ha pos pins s σ H _ I h) fun us s1 ⟨vs, H1, I1, r1, q1⟩ => ?_) (by rw [hs, hs2]) (by rw [hs2]; rfl)))
 obtain ⟨l1, l2, xs, ys, rfl, hq1, hq2, q⟩ := q1
 obtain ⟨u, v, rfl, ru, rv⟩ := vals2 r1
 obtain rfl : u = Value.ref l1 := ru
 obtain rfl : v = Value.ref l2 := rv
 obtain ⟨its1, rv1, p1, hz1⟩ := I1.list hq1
 obtain ⟨its2, rv2, p2, hz2⟩ := I1.list hq2
 have lt1 : l1 < s1.heap.objs.size := by obtain ⟨_, e, _⟩ := p1.isList; exact Heap.lt_size e
 have lt2 : l2 < s1.heap.objs.size := by obtain ⟨_, e, _⟩ := p2.isList; exact Heap.lt_size e
 refine call_zip_2 p1.isList p2.isList fun h' a1 a2 a3 a4 a5 a6 a7 => wpAny_pyIter_zip a1 ?_
 have I2 : L2.Inv X pins σ H1 { s1 with heap := h' } := I1.kept (t' := s1.toks) a7
 refine ⟨s1.heap.objs.size + 4, [s1.heap.objs.size + 4, s1.heap.objs.size + 2, s1.heap.objs.size + 3, s1.heap.objs.size, s1.heap.objs.size + 1], _, _, H1, rfl, I2, turn_zip l1 l2 _ _ _ _ _ (apart_of _ _ _ lt1 lt2), ⟨a1, a2, ⟨_, _, a3⟩, a4, a5⟩, fun c hb => ?_, q⟩
 have lb : s1.heap.objs.size ≤ c := by
  rcases (by simpa using hb : c = s1.heap.objs.size + 4 ∨ c = s1.heap.objs.size + 2 ∨ c = s1.heap.objs.size + 3 ∨ c = s1.heap.objs.size ∨ c = s1.heap.objs.size + 1) with rfl | rfl | rfl | rfl | rfl <;> first | exact Nat.le_add_right _ _ | exact Nat.le_refl _
 exact I1.fpOk lb (I1.hok.fresh lb)
theorem pi_zipK {elts : List Expr} {k1 : Nat} {pt : Pos} {a b : Expr} {ta : TA} {p pos : Pos} {K : PySem.W.Frag} (hK : X.K = K) (hg : Gl X "zip") (hm : X.mg "zip" = none) (ha : PA X [a, b] ta) (hs : starEach [a, b] X.env = [(false, eval a X.env), (false, eval b X.env)] := by rfl) (hs2 : starEach [b] X.env = [(false, eval b X.env)] := by rfl) :
  PI X (.Tuple elts k1 pt) (.Call (.Name "zip" p) [a, b] [] pos) (iZip K ta) := by subst hK; exact pi_zip hg hm ha hs hs2
end
section
variable {X : Cx}
inductive xm (x : V) (vs : List V) (H : Hp) (Q : VK) : Prop
 | mk (l : _) (xs : _) (y : _) (j : _) (h0 : x = .ref l) (h1 : vs = [y]) (h2 : H l = some (.lst xs)) (h3 : WI y = true) (h4 : xs.all WI = true) (h5 : (∃ w, xs[j]? = some w ∧ eqV w y = true)) (h6 : (∀ (m : Nat) w, m < j → xs[m]? = some w → eqV w y = false)) (h7 : Q (.int (j : Nat)) H) : xm x vs H Q
def rIndex : V → List V → Hp → VK → Prop := fun x vs H Q => xm x vs H Q
theorem mt_index : MtM X "list.index" rIndex := by
 intro pins s σ H x vs v us Q I rx rv h
 obtain ⟨l, xs, y, j, rfl, rfl, hH, fy, fx, ⟨w, hw, ew⟩, hno, q⟩ := h
 cases rx
 obtain ⟨u, rfl, ru⟩ := rv.one
 obtain ⟨z, its, n, r, hl, e⟩ := I.lstM hH
 have hfl : ∀ (m : Nat) (a : V), xs[m]? = some a → WI a = true := fun m a h => List.all_eq_true.mp fx a (List.mem_of_getElem? h)
 obtain ⟨uj, huj, ruj⟩ := r.get hw
 have hjl : j < its.length := (List.getElem?_eq_some_iff.mp huj).1
 have ej : its[j] = uj := (List.getElem?_eq_some_iff.mp huj).2
 refine call_meets F.slot_list_index ⟨_, e, rfl⟩ F.entry_list_index (F.args_list_index_2 _ _) (SeqAt.list_indexAt l its.toArray n none #[] u (eqU y) j (by simpa using hjl) (by rw [sizeLine_eq] at z; omega) ?_ ?_) ⟨e, ?_, ?_⟩
 ·show eqU y its[j] = true
  rw [ej, yI ruj (hfl j w hw)]
  exact ew
 ·intro m hm hmj
  have hm' : m < its.length := by simpa using hm
  have hmx : m < xs.length := by omega
  have g : xs[m]? = some xs[m] := List.getElem?_eq_getElem hmx
  obtain ⟨um, hum, rum⟩ := r.get g
  have em : its[m] = um := (List.getElem?_eq_some_iff.mp hum).2
  show eqU y its[m] = false
  rw [em, yI rum (hfl m _ g)]
  exact hno m _ hmj g
 ·intro b hb
  exact VJ ru fy r fx b (by simpa using hb)
 ·exact ⟨.int (j : Nat), H, I.tok _, ⟨_, rfl⟩, q⟩
theorem Zx.take {xs : List V} {us : List Value} (h : Zx xs us) (k : Nat) : Zx (xs.take k) (us.take k) := by
 induction k generalizing xs us with
 | zero => exact .nil
 | succ k ih =>
  cases h with
  | nil => exact .nil
  | cons r t => exact .cons r (ih t)
theorem Zx.drop {xs : List V} {us : List Value} (h : Zx xs us) (k : Nat) : Zx (xs.drop k) (us.drop k) := by
 induction k generalizing xs us with
 | zero => exact h
 | succ k ih =>
  cases h with
  | nil => exact .nil
  | cons r t => exact ih t
theorem Zx.set {xs : List V} {us : List Value} {y : V} {u : Value} (h : Zx xs us) (ry : Z8 y u) (k : Nat) : Zx (xs.set k y) (us.set k u) := by
 induction k generalizing xs us with
 | zero =>
  cases h with
  | nil => exact .nil
  | cons r t => exact .cons ry t
 | succ k ih =>
  cases h with
  | nil => exact .nil
  | cons r t => exact .cons r (ih t)
end
section
variable {prog : Program} {w : World} {A : Around} {E : Value → Shared → Prop} {s : Shared}
theorem UQ {l : Addr} {items : Array Value} {n : Nat} {k : Int} {t : Tok} {v : Value} {Q : Unit → Shared → Prop} (e : s.heap.get? l = some { cls := .type "list", data := .seq items n })
  (h0 : 0 ≤ k) (hfit : k < 2 ^ 63) (hn : k < items.size) (hQ : Q () { s with heap := s.heap.update l (Obj.mapSeq (·.setIfInBounds k.toNat v)) }) :
  wpAny (model prog w) A (setItem (.ref l) (.int k t) v) Q E s := by
 have hl : s.heap.IsList l items := ⟨_, e, rfl, n, rfl⟩
 obtain ⟨o, ho, hc, ne, hd⟩ := id hl
 have eo : o = { cls := .type "list", data := .seq items n } := Option.some.inj (ho.symm.trans e)
 unfold setItem
 try with_reducible refine wpAny_holding ?_
 first | refine wpAny_bind (wpAny_pure ?_) | skip
 refine wpAny_bind (wpAny_sequenceKey hl.typeIs (by decide) ?_)
 refine wpAny_bind (wpAny_callSpecial?_slot (name := Str.ofString "__setitem__") hl.typeIs slot_list_setitem
  (wpAny_call_entry slot_list_setitem hl.typeIs entry_list_setitem ?_ (args_list_setitem _ _ _)))
 show wpAny _ _ (Builtin.List.listSubscript? (.int k t) >>= _) _ _ s
 refine wpAny_bind (wpAny_listSubscript_int (fitsIndex_of h0 hfit) ?_)
 clear hfit
 obtain ⟨j, rfl⟩ := Int.eq_ofNat_of_zero_le h0
 have hj : j < items.size := by omega
 have hx' : items[j]? = some items[j] := Array.getElem?_eq_getElem hj
 show wpAny _ _ ((seqItemAt l j >>= fun r => pure (r.map (j, ·))) >>= _) _ _ s
 refine wpAny_bind (wpAny_bind (wpAny_seqItemAt ho hd (wpAny_pure ?_)))
 rw [hx']
 show wpAny _ _ (setSeqItemAt l j v >>= _) _ _ s
 refine wpAny_bind (wpAny_setSeqItemAt ho hd ?_)
 first
  | exact wpAny_bind (wpAny_pure (wpAny_pure ⟨.none, rfl, wpAny_pure hQ⟩))
  | exact wpAny_pure ⟨.none, rfl, wpAny_pure hQ⟩
end
section
variable {X : Cx}
def tSetL (tv to ti : TE) : L2.TS := fun D σ H => tv σ H fun y H1 => to σ H1 fun x H2 => ti σ H2 fun k H3 => ∃ l xs j, x = .ref l ∧ k = .int (j : Nat) ∧ H3 l = some (.lst xs) ∧ j < xs.length ∧ D.nx σ (upd H3 l (.lst (xs.set j y)))
theorem ps_setL {o i e : Expr} {to ti tv : TE} {pos pos' : Pos} (hv : PE X e tv) (ho : PE X o to) (hi : PE X i ti) (hs : swapsWith e (some (.Subscript o i pos')) pos.line X.env = pure false := by rfl) : PS X (.Assign [.Subscript o i pos'] e pos) (tSetL tv to ti) := by
 intro pins s σ H D I h
 refine wpAny_Assign_Subscript (thn (hv pins s σ H _ I h) fun v s1 ⟨y, H1, I1, r1, q1⟩ => thn (ho pins s1 σ H1 _ I1 q1) fun ov s2 ⟨x, H2, I2, r2, q2⟩ => thn (hi pins s2 σ H2 _ I2 q2) fun iv s3 ⟨k, H3, I3, r3, q3⟩ => ?_) hs
 obtain ⟨l, xs, j, rfl, rfl, hH, hj, q⟩ := q3
 cases r2
 obtain ⟨t, rfl⟩ := (show ∃ t, iv = Value.int (j : Nat) t from r3)
 obtain ⟨z, its, n, r, hl, e⟩ := I3.lstM hH
 refine UQ e (Int.natCast_nonneg j) (by rw [sizeLine_eq] at z; omega) (by rw [List.size_toArray]; omega) ?_
 refine ⟨σ, _, I3.lset (its' := its.set j v) (t' := s3.toks) hH e (by simp) (Zx.set r r1 j) (by rw [List.length_set]; exact z), q⟩
end
section
variable {prog : Program} {w : World} {A : Around} {R : Result → Shared → Prop} {I : Addr} {fp wr : List Addr} {n : Nat} {P : Nat → Value → Prop} {St : Nat → Heap → Prop}
end
section
variable {X : Cx}
end
end L3
namespace L3
open PySem PySem.Spec L2
section
variable {X : Cx} {K : PySem.W.Frag}
theorem pt_truthK {a : Expr} {ta : TE} (hK : X.K = K) (ha : PE X a ta) (he : ∀ whole, isTrue a X.env whole = (do let v ← whole; standAt a.pos; holding [v] (truthy v))) :
  PT X a (fun σ H Q => ta σ H fun x H' => ∃ k, TruV K x H' k ∧ Q k H') := by subst hK; exact pt_truth ha he
end
theorem for_gen {J : It} {n : Nat} {g : TG} {tb : L2.TS} {D : Ends} {σ : St} {H : Hp} (Pv : Nat → St → Hp → Prop) (h0 : Pv 0 σ H) (hgo : ∀ i σ H, i < n → Pv i σ H → J.go i H) (hst : ∀ σ H, Pv n σ H → J.stop n H)
  (hs : ∀ i x σ H H2, i < n → Pv i σ H → J.yld i H x H2 → g x σ H2 fun σ2 H3 => tb { D with nx := Pv (i + 1), ct := Pv (i + 1), bk := D.nx } σ2 H3) (hd : ∀ σ H, Pv n σ H → D.nx σ H) :
  ∃ W : Nat → Nat → St → Hp → Prop, (∃ m, W 0 m σ H) ∧ ∀ i m σ H, W i m σ H →
   (J.stop i H ∧ D.nx σ H) ∨ (J.go i H ∧ ∃ N : St → Hp → Prop, (∀ σ' H', N σ' H' → ∃ m', m' < m ∧ W (i + 1) m' σ' H') ∧ ∀ x H', J.yld i H x H' → g x σ H' fun σ2 H2 => tb { D with nx := N, ct := N, bk := D.nx } σ2 H2) := by
 refine ⟨fun i m σ H => m = n - i ∧ i ≤ n ∧ Pv i σ H, ⟨n, by simp, Nat.zero_le _, h0⟩, ?_⟩
 rintro i m σ H ⟨rfl, hi, p⟩
 by_cases hlt : i < n
 ·exact .inr ⟨hgo i σ H hlt p, Pv (i + 1), fun σ' H' p' => ⟨n - (i + 1), by omega, rfl, hlt, p'⟩, fun x H' y => hs i x σ H H' hlt p y⟩
 ·have e : i = n := by omega
  subst e
  exact .inl ⟨hst σ H p, hd σ H p⟩
theorem W4 {xs : List Int} {i : Nat} {x : Int} (h : xs[i]? = some x) : xs.getD i 0 = x := by simp [List.getD, h]
theorem at_of {xs : List Int} {i : Nat} (h : i < xs.length) : (xs.map V.int)[i]? = some (.int (xs.getD i 0)) := by
 simp [List.getD, h]
theorem XG (xs : List V) (k : Nat) (h : k ≤ xs.length) : X9 xs (some (k : Int)) none = xs.drop k := by
 unfold X9
 rw [HT.sIx_nat, HT.sIx_none, Nat.min_eq_left h]
 exact List.take_of_length_le (by rw [List.length_drop]; omega)
theorem Xx (xs : List V) (k : Nat) (h : k ≤ xs.length) : X9 xs none (some (k : Int)) = xs.take k := by
 unfold X9
 rw [HT.sIx_nat, HT.sIx_none, Nat.min_eq_left h]
 simp
theorem XA (xs : List V) : X9 xs (some 1) none = xs.drop 1 := by
 cases xs with
 | nil => rfl
 | cons x r => exact XG (x :: r) 1 (by simp)
theorem cut_head (xs : List V) : X9 xs none (some 1) = xs.take 1 := by
 cases xs with
 | nil => rfl
 | cons x r => exact Xx (x :: r) 1 (by simp)
theorem Ut : ∀ (n : Nat) (l : List Int), l.Nodup → (∀ x ∈ l, 0 ≤ x ∧ x < (n : Int)) → l.length ≤ n
 | 0, l, _, h => by
  cases l with
  | nil => simp
  | cons x r => have := h x List.mem_cons_self; omega
 | n + 1, l, hd, h => by
  have ih := Ut n (l.erase (n : Int)) (hd.erase _) fun x hx => by
   have hm := List.mem_of_mem_erase hx
   have := h x hm
   have ne : x ≠ (n : Int) := (List.Nodup.mem_erase_iff hd).mp hx |>.1
   omega
  by_cases hm : (n : Int) ∈ l
  ·rw [List.length_erase_of_mem hm] at ih
   omega
  ·rw [List.erase_of_not_mem hm] at ih
   omega
theorem snoc_of {α : Type} {l : List α} (h : l ≠ []) : ∃ i z, l = i ++ [z] := ⟨l.dropLast, l.getLast h, (List.dropLast_concat_getLast h).symm⟩
theorem qT {X : Cx} {st : Stmt} {X5 : List Stmt} {t u : L2.TS} (h1 : PS X st t) (h2 : PSs X X5 u) : PSs X (st :: X5) (fun D σ H => ∃ J : St → Hp → Prop, t { D with nx := J } σ H ∧ ∀ σ' H', J σ' H' → u D σ' H') := by
 intro pins s σ H D I h
 obtain ⟨J, h, hj⟩ := h
 refine wpAny_execs_cons (thn (h1 pins s σ H { D with nx := J } I h) fun f s1 q => ?_)
 cases f with
 | next =>
  obtain ⟨σ', H', I', q⟩ := q
  exact h2 pins s1 σ' H' D I' (hj _ _ q)
 | ret v => exact q
 | brk => exact q
 | cont => exact q
theorem neD_nil {K : PySem.W.Frag} {H : Hp} {a b : Addr} {ns : List Int} {Q : VK} (h1 : H a = some (.lst (ns.map V.int))) (h2 : H b = some (.lst [])) (q : ∀ c : Bool, (c = true ↔ ns ≠ []) → Q (.bl c) H) : rEqD K true (.ref a) (.ref b) H Q := by
 refine ⟨dI ns, .list [], LI.dp ⟨a, rfl, h1⟩, .lst (SqL.of h2) .nil, (Uv ns).1, by simp [PyData.canLay0, PyData.canLayAll0], Nat.le_trans (Uv ns).2 (by decide), ?_⟩
 refine q _ ?_
 cases ns with
 | nil => simp [dI, PyData.eqv, PyData.eqvAll]
 | cons x r => simp [dI, PyData.eqv, PyData.eqvAll]
end L3
namespace L3
open PySem PySem.Spec PyProof.Rows L2
theorem U5 : ∀ {ss : List Str} {us : List Value}, Zx (ss.map V.str) us → ∃ l : List (Str × Tok), us = strValues l ∧ l.map (·.1) = ss
 | [], _, .nil => ⟨[], rfl, rfl⟩
 | x :: r, _, .cons a b => by
  obtain ⟨t, rfl⟩ := a
  obtain ⟨l, e1, e2⟩ := U5 b
  exact ⟨(x, t) :: l, by rw [e1]; rfl, by rw [List.map_cons, e2]⟩
theorem qt : ∀ (l : List (Str × Tok)), Zx ((l.map (·.1)).map V.str) (strValues l)
 | [] => .nil
 | (x, t) :: r => .cons ⟨t, rfl⟩ (qt r)
theorem X7 (sep : Str) : ∀ ss : List Str, (Str.join sep ss).length ≤ (ss.map (·.length)).sum + ss.length * sep.length
 | [] => by show Str.empty.length ≤ _; exact Nat.zero_le _
 | [x] => by show x.length ≤ _; simp
 | x :: y :: r => by
  have h := X7 sep (y :: r)
  show (x ++ sep ++ Str.join sep (y :: r)).length ≤ _
  rw [Str.length_append, Str.length_append, List.map_cons, List.sum_cons, List.length_cons, Nat.succ_mul]
  omega
section
variable {X : Cx}
inductive rJoin_R (K : PySem.W.Frag) (x : V) (vs : List V) (H : Hp) (Q : VK) : Prop
 | mk (sep : _) (p : _) (ss : _) (B : _) (h0 : x = .str sep) (h1 : vs = [.ref p]) (h2 : SqL K H p (ss.map V.str)) (h3 : (∀ y ∈ ss, y.length ≤ B)) (h4 : ss.length * B + ss.length * sep.length ≤ 16777216) (h5 : Q (.str (Str.join sep ss)) H) : rJoin_R K x vs H Q
def rJoin (K : PySem.W.Frag) : V → List V → Hp → VK → Prop := fun x vs H Q => rJoin_R K x vs H Q
theorem mt_join : MtM X "str.join" (rJoin X.K) := by
 intro pins s σ H x vs v us Q I rx rv h
 obtain ⟨sep, p, ss, B, rfl, rfl, hq, hB, hz, q⟩ := h
 obtain ⟨t, rfl⟩ := (show ∃ t, v = Value.str sep t from rx)
 obtain ⟨u, rfl, ru⟩ := rv.one
 obtain rfl : u = Value.ref p := ru
 obtain ⟨its, r, pl, _⟩ := I.list hq
 obtain ⟨l, rfl, el⟩ := U5 r
 refine call_meets F.slot_str_join (typeIs_str _ _ _) F.entry_str_join (F.args_str_join_2 _ _) (meets_str_join_list sep t p l ?_) ⟨pl.isList, ?_⟩
 ·rw [el]
  exact StrLaws.joinFits hB hz
 ·have hlen : (Str.join sep ss).length ≤ sizeLine := by
   have h1 := X7 sep ss
   have h2 := StrLaws.sumLen_le ss hB
   rw [sizeLine_eq]
   omega
  have fin : (Builtin.Str.glued sep (l.map (·.1))).length ≤ sizeLine ∧ EP X pins σ Q (.str (Builtin.Str.glued sep (l.map (·.1))) s.toks) { s with toks := s.toks + 1 } := by
   rw [StrLaws.glued_eq_join, el]
   exact ⟨hlen, .str _, H, I.tok _, ⟨_, rfl⟩, q⟩
  match l, el, fin with
  | [], _, fin => exact fin
  | [(y, ty)], el, _ =>
   have e2 : ss = [y] := el.symm
   subst e2
   exact ⟨.str y, H, I, ⟨_, rfl⟩, q⟩
  | _ :: _ :: _, _, fin => exact fin
theorem XO {K : PySem.W.Frag} (hK : X.K = K) : MtM X "str.join" (rJoin K) := by subst hK; exact mt_join
inductive xc (x : V) (vs : List V) (H : Hp) (Q : VK) : Prop
 | mk (z : _) (sep : _) (h0 : x = .str z) (h1 : vs = [.str sep]) (h2 : 1 ≤ sep.length) (h3 : z.length ≤ 1000000) (h4 : ∀ p, H p = none → Q (.ref p) (upd H p (.lst ((Txt.split z sep).map V.str)))) : xc x vs H Q
def rSplit : V → List V → Hp → VK → Prop := fun x vs H Q => xc x vs H Q
theorem Wl : MtM X "str.split" rSplit := by
 intro pins s σ H x vs v us Q I rx rv h
 obtain ⟨z, sep, rfl, rfl, h1, hz, q⟩ := h
 obtain ⟨t, rfl⟩ := (show ∃ t, v = Value.str z t from rx)
 obtain ⟨u, rfl, ru⟩ := rv.one
 obtain ⟨u, rfl⟩ := (show ∃ t, _ = Value.str sep t from ru)
 have hy : (sep.length == 0) = false := by simp; omega
 have hlen : (Builtin.Str.partsBetween z (Builtin.Str.occurrences z sep 0 z.length (z.length + 1)) sep.length).length ≤ 1000002 := by
  have h2 := StrLaws.occ_length_le z sep 0 z.length (z.length + 1)
  unfold Builtin.Str.partsBetween
  simp
  omega
 have slot : ∀ {l : List (Str × Tok)} {tk : Nat}, l.map (·.1) = Txt.split z sep → (l.length ≤ 1000002) → EP X pins σ Q (.ref s.heap.objs.size) { s with heap := s.heap.push { cls := .type "list", data := .seq (strValues l).toArray }, toks := tk } := fun {l tk} el hl =>
  ⟨.ref _, _, I.lnew (t' := tk) (by rw [← el]; exact qt l) (by rw [List.length_map, ← el, List.length_map, sizeLine_eq]; omega), rfl, q _ I.fresh⟩
 cases h1' : (decide (z.length < sep.length) || decide (Builtin.Str.strKind z < Builtin.Str.strKind sep))
 ·cases hf : (Builtin.Str.occurrences z sep 0 z.length (z.length + 1)).isEmpty
  ·refine call_meets F.slot_str_split (typeIs_str _ _ _) F.entry_str_split (F.args_str_split_2 _ _) (meets_str_split_sep z sep t u h1' hy hf (by rw [sizeLine_eq]; omega) (by rw [sizeLine_eq]; omega)) ?_
   show EP X pins σ Q (.ref s.heap.objs.size) { s with toks := _, heap := s.heap.push { cls := .type "list", data := .seq (strsFrom s.toks (Builtin.Str.partsBetween z (Builtin.Str.occurrences z sep 0 z.length (z.length + 1)) sep.length)).toArray } }
   rw [strsFrom_eq]
   exact slot ((numbered_texts _ _).trans ((if_neg (ne_true_of_eq_false h1')).trans (if_neg (ne_true_of_eq_false hf))).symm) (by have := congrArg List.length (numbered_texts s.toks (Builtin.Str.partsBetween z (Builtin.Str.occurrences z sep 0 z.length (z.length + 1)) sep.length)); rw [List.length_map] at this; omega)
  ·refine call_meets F.slot_str_split (typeIs_str _ _ _) F.entry_str_split (F.args_str_split_2 _ _) (meets_str_split_not_found z sep t u h1' hy hf) ?_
   exact slot (l := [(z, t)]) (tk := s.toks) ((if_neg (ne_true_of_eq_false h1')).trans (if_pos hf)).symm (by simp)
 ·refine call_meets F.slot_str_split (typeIs_str _ _ _) F.entry_str_split (F.args_str_split_2 _ _) (meets_str_split_cannot_occur z sep t u h1') ?_
  exact slot (l := [(z, t)]) (tk := s.toks) (if_pos h1').symm (by simp)
theorem VM : Yy X (.type "int") (fun xs H Q => ∃ z n, xs = [.str z] ∧ intText? z = some n ∧ z.length ≤ 640 ∧ Q (.int n) H) := by
 intro pins s σ H xs us Q I r h
 obtain ⟨z, n, rfl, hn, hl, q⟩ := h
 obtain ⟨u, rfl, ru⟩ := XU r
 obtain ⟨t, rfl⟩ := (show ∃ t, u = Value.str z t from ru)
 exact PySem.W.KIN.call_text hn hl ⟨.int n, H, I.tok _, ⟨_, rfl⟩, q⟩
theorem yT : Yy X (.type "str") (fun xs H Q => (∃ i, xs = [.int i] ∧ i.natAbs.log2 < 1920 ∧ Q (.str (toString i)) H) ∨ ∃ z, xs = [.str z] ∧ Q (.str z) H) := by
 refine yK.or ?_
 intro pins s σ H xs us Q I r h
 obtain ⟨z, rfl, q⟩ := h
 obtain ⟨u, rfl, ru⟩ := XU r
 obtain ⟨t, rfl⟩ := (show ∃ t, u = Value.str z t from ru)
 exact PySem.P.str_of_str ⟨.str z, H, I, ⟨_, rfl⟩, q⟩
theorem op_ge_str : OpR X (compareOp .GtE) (fun x y H Q => ∃ i j, x = .str i ∧ y = .str j ∧ Q (.bl (!decide (i.cps.toList < j.cps.toList))) H) := by
 intro pins s σ H x y v u Q I rx ry h
 obtain ⟨i, j, rfl, rfl, q⟩ := h
 obtain ⟨t, rfl⟩ := rx
 obtain ⟨t', rfl⟩ := ry
 exact PySem.P.ge_str ⟨.bl _, H, I, rfl, q⟩
def rGe : R2 := fun x y H Q => rI0 (fun i j => .bl (decide (j ≤ i))) x y H Q ∨ ∃ i j, x = .str i ∧ y = .str j ∧ Q (.bl (!decide (i.cps.toList < j.cps.toList))) H
theorem op_geA : OpR X (compareOp .GtE) rGe := op_ge.or op_ge_str
end
section
variable {prog : Program} {w : World} {A : Around} {E : Value → Shared → Prop} {s : Shared}
theorem xO : fillsInplaceSlot (.type "list") "add" (Operator.Add == .Add) = pure false := by
 unfold fillsInplaceSlot
 show (typeLookup (.type "list") (dunderI "add") >>= fun fi => pure (fi.isSome && !isSeqSlot fi)) = pure false
 rw [F.slot_list_iadd.lookup]; rfl
theorem seqI_list : seqSlot? (.type "list") (dunderI "add") = pure (some (.builtin "list.__iadd__")) := by
 unfold seqSlot?
 rw [F.slot_list_iadd.lookup]; rfl
theorem vc {l b : Addr} {items items2 : Array Value} {n n2 : Nat} {Q : Value → Shared → Prop} (hl : s.heap.get? l = some { cls := .type "list", data := .seq items n }) (hb : s.heap.get? b = some { cls := .type "list", data := .seq items2 n2 })
  (hz : items.size + items2.size ≤ 10000) (h : Q (.ref l) { s with heap := s.heap.update l (Obj.mapSeq fun x => x ++ items2) }) : wpAny (model prog w) A (inplaceOp .Add (.ref l) (.ref b)) Q E s := by
 have ha : s.TypeIs (.ref l) "list" := ⟨_, hl, rfl⟩
 have hbt : s.TypeIs (.ref b) "list" := ⟨_, hb, rfl⟩
 unfold inplaceOp
 refine wpAny_holding ?_
 refine wpAny_bind (wpAny_typeOf ha (wpAny_bind (wpAny_of_eq xO ?_)))
 show wpAny _ A (if false = true then _ else _) Q E s
 rw [if_neg Bool.false_ne_true]
 refine wpAny_bind (wpAny_binaryOp1_none (nm := "add") ha hbt noFill_list_add ?_)
 refine wpAny_bind (wpAny_of_eq seqI_list ?_)
 refine wpAny_bind (wpAny_rule ?_)
 have hno : ¬ (!items.isEmpty && Builtin.List.listTooLong (items.size + items2.size)) = true := by
  rw [qA (by rw [sizeLine_eq]; omega), Bool.and_false]
  exact Bool.false_ne_true
 refine call_meets F.slot_list_iadd ha F.entry_list_iadd (F.args_list_iadd_2 _ _) (AutoSeq1.list___iadd___list_list_0 l items n b items2 n2 hno (by rw [sizeLine_eq]; omega) (by rw [sizeLine_eq]; omega)) ⟨hl, hb, ?_⟩
 exact h
end
section
variable {X : Cx}
inductive ipCat_R (x : V) (y : V) (H : Hp) (Q : VK) : Prop
 | mk (l : _) (b : _) (xs : _) (zs : _) (h0 : x = .ref l) (h1 : y = .ref b) (h2 : H l = some (.lst xs)) (h3 : H b = some (.lst zs)) (h4 : xs.length + zs.length ≤ 10000) (h5 : Q (.ref l) (upd H l (.lst (xs ++ zs)))) : ipCat_R x y H Q
def ipCat : V → V → Hp → VK → Prop := fun x y H Q => ipCat_R x y H Q
theorem ip_cat : PIp X .Add ipCat := by
 intro pins s σ H x y v u Q I rx ry h
 obtain ⟨l, b, xs, zs, rfl, rfl, hH, hB, hz, q⟩ := h
 cases rx
 cases ry
 obtain ⟨z, its, n, r, hl, e⟩ := I.lstM hH
 obtain ⟨z2, its2, n2, r2, hl2, e2⟩ := I.lstM hB
 refine vc e e2 (by rw [List.size_toArray, List.size_toArray]; omega) ?_
 exact ⟨.ref l, _, I.lset (its' := its ++ its2) (t' := s.toks) hH e (by simp) (r.append r2) (by rw [List.length_append, sizeLine_eq]; omega), rfl, q⟩
end
section
variable {prog : Program} {w : World} {A : Around} {E : Value → Shared → Prop} {s : Shared}
end
section
variable {X : Cx}
end
def free (c : Nat) (z : Str) : Prop := c ∉ z.cps.toList
theorem zS {α : Type} [DecidableEq α] {c : α} : ∀ {a b r s : List α}, c ∉ a → c ∉ b → a ++ c :: r = b ++ c :: s → a = b ∧ r = s
 | [], [], r, s, _, _, h => ⟨rfl, by simpa using h⟩
 | [], y :: b, r, s, _, hb, h => by
  have e : c = y := by simpa using (List.cons.inj h).1
  exact absurd (by rw [e]; simp) hb
 | x :: a, [], r, s, ha, _, h => by
  have e : x = c := by simpa using (List.cons.inj h).1
  exact absurd (by rw [e]; simp) ha
 | x :: a, y :: b, r, s, ha, hb, h => by
  obtain ⟨e1, e2⟩ := List.cons.inj h
  obtain ⟨q1, q2⟩ := zS (fun z => ha (List.mem_cons_of_mem _ z)) (fun z => hb (List.mem_cons_of_mem _ z)) e2
  exact ⟨by rw [e1, q1], q2⟩
theorem XC (c : Nat) (x y : Str) (r : List Str) : (Str.join ⟨#[c]⟩ (x :: y :: r)).cps.toList = x.cps.toList ++ c :: (Str.join ⟨#[c]⟩ (y :: r)).cps.toList := by
 show (x ++ (⟨#[c]⟩ : Str) ++ Str.join ⟨#[c]⟩ (y :: r)).cps.toList = _
 rw [Str.cps_append, Str.cps_append]
 simp
theorem W0 {a b : Str} (h : a.cps.toList = b.cps.toList) : a = b := Str.ext' (Array.toList_inj.mp h)
theorem xG {c : Nat} : ∀ {ws vs : List Str}, ws ≠ [] → vs ≠ [] → (∀ w ∈ ws, free c w) → (∀ v ∈ vs, free c v) → Str.join ⟨#[c]⟩ ws = Str.join ⟨#[c]⟩ vs → ws = vs
 | [], _, h, _, _, _, _ => absurd rfl h
 | _ :: _, [], _, h, _, _, _ => absurd rfl h
 | [x], [y], _, _, _, _, h => by rw [show x = y from h]
 | [x], y :: z :: s, _, _, hx, _, h => by
  have e := congrArg (fun q : Str => q.cps.toList) h
  rw [XC] at e
  have e2 : x.cps.toList = y.cps.toList ++ c :: (Str.join ⟨#[c]⟩ (z :: s)).cps.toList := e
  exact absurd (by rw [e2]; simp) (hx x (by simp))
 | x :: y :: r, [z], _, _, _, hz, h => by
  have e := congrArg (fun q : Str => q.cps.toList) h
  rw [XC] at e
  have e2 : x.cps.toList ++ c :: (Str.join ⟨#[c]⟩ (y :: r)).cps.toList = z.cps.toList := e
  exact absurd (by rw [← e2]; simp) (hz z (by simp))
 | x :: y :: r, z :: v :: s, _, _, hx, hz, h => by
  have e := congrArg (fun q : Str => q.cps.toList) h
  rw [XC, XC] at e
  obtain ⟨q1, q2⟩ := zS (hx x (by simp)) (hz z (by simp)) e
  rw [W0 q1, xG (ws := y :: r) (vs := v :: s) (by simp) (by simp) (fun w hw => hx w (List.mem_cons_of_mem _ hw)) (fun w hw => hz w (List.mem_cons_of_mem _ hw)) (W0 q2)]
theorem yX (x y : Str) : Txt.split x y ≠ [] := by
 unfold Txt.split
 split
 ·simp
 ·split
  ·simp
  ·rw [StrLaws.partsBetween_eq]
   obtain ⟨p, r, e⟩ := StrLaws.partsFrom_ne x y.length 0 (Builtin.Str.occurrences x y 0 x.length (x.length + 1))
   rw [e]
   simp
theorem Wz {c : Nat} {ws : List Str} (h : ws ≠ []) (hf : ∀ w ∈ ws, free c w) : Txt.split (Str.join ⟨#[c]⟩ ws) ⟨#[c]⟩ = ws :=
 xG (yX _ _) h (StrLaws.split_free _ c) hf (StrLaws.join_split _ _)
theorem Ub {c k : Nat} (hk : k ≠ c) : ∀ {ws : List Str}, (∀ w ∈ ws, free k w) → free k (Str.join ⟨#[c]⟩ ws)
 | [], _ => by show k ∉ (Str.empty).cps.toList; simp [Str.empty]
 | [x], h => h x (by simp)
 | x :: y :: r, h => by
  show k ∉ (Str.join ⟨#[c]⟩ (x :: y :: r)).cps.toList
  rw [XC]
  intro hm
  rcases List.mem_append.mp hm with hm | hm
  ·exact h x (by simp) hm
  ·rcases List.mem_cons.mp hm with e | hm
   ·exact hk e
   ·exact Ub hk (ws := y :: r) (fun w hw => h w (List.mem_cons_of_mem _ hw)) hm
def Yc (n : Int) : Str := toString n
def Zp (head : Str) (ws : List Str) : Str := Str.join " " (head :: ws)
def YC (d : WD) : List Str := d.signs.map (Zp "room") ++ d.ways.map (fun ns => Zp "ways" (ns.map Yc)) ++ [Zp "starts" (d.starts.map Yc), Zp "fair" d.fair]
def UA (d : WD) : Str := Str.join "\n" (YC d)
theorem sp32 : (" " : Str) = ⟨#[32]⟩ := by decide +kernel
theorem nl10 : ("\n" : Str) = ⟨#[10]⟩ := by decide +kernel
theorem qp {z : Str} {c : Nat} (h : z.cps.toList.all Xs = true) (hc : Xs c = false) : free c z := fun hm => by
 have := List.all_eq_true.mp h c hm
 rw [hc] at this; cases this
theorem VX {z : Str} (h : Zr z = true) : z.cps.toList.all Xs = true := by
 unfold Zr at h
 rw [Bool.and_eq_true] at h
 exact h.2
theorem num_tab : ∀ k : Nat, k < 20 → (Yc (k : Int)).length ≤ 2 ∧ 1 ≤ (Yc (k : Int)).length ∧ ((Yc (k : Int)).cps.toList.all fun c => decide (48 ≤ c ∧ c ≤ 57)) = true ∧ (Yc (k : Int) = "0" ∨ (Yc (k : Int)).cps.toList[0]? ≠ some 48) := by
 decide +kernel
theorem X4 {n : Int} (h0 : 0 ≤ n) (h1 : n < 20) : (Yc n).length ≤ 2 ∧ 1 ≤ (Yc n).length ∧ ((Yc n).cps.toList.all fun c => decide (48 ≤ c ∧ c ≤ 57)) = true ∧ (Yc n = "0" ∨ (Yc n).cps.toList[0]? ≠ some 48) := by
 obtain ⟨k, rfl⟩ := Int.eq_ofNat_of_zero_le h0
 exact num_tab k (by omega)
theorem qc {n : Int} {c : Nat} (h0 : 0 ≤ n) (h1 : n < 20) (hc : ¬ (48 ≤ c ∧ c ≤ 57)) : free c (Yc n) := fun hm => by
 have := List.all_eq_true.mp (X4 h0 h1).2.2.1 c hm
 exact hc (of_decide_eq_true this)
theorem num_read {n : Int} (h0 : 0 ≤ n) (h1 : n < 20) : intText? (Yc n) = some n := PySem.W.KIN.num_reads h0 (by omega)
theorem Wy {head : Str} {ws : List Str} (hh : free 32 head) (hw : ∀ w ∈ ws, free 32 w) : Txt.split (Zp head ws) " " = head :: ws := by
 unfold Zp
 rw [sp32]
 exact Wz (by simp) fun w hm => by
  rcases List.mem_cons.mp hm with rfl | hm
  ·exact hh
  ·exact hw w hm
theorem WX {head : Str} {ws : List Str} (hh : free 10 head) (hw : ∀ w ∈ ws, free 10 w) : free 10 (Zp head ws) := by
 unfold Zp
 rw [sp32]
 exact Ub (by decide) fun w hm => by
  rcases List.mem_cons.mp hm with rfl | hm
  ·exact hh
  ·exact hw w hm
theorem heads : (free 32 "room" ∧ free 10 "room") ∧ (free 32 "ways" ∧ free 10 "ways") ∧ (free 32 "starts" ∧ free 10 "starts") ∧ (free 32 "fair" ∧ free 10 "fair") := by
 unfold free
 decide +kernel
theorem zN {n : Nat} {D : Addr} {te : TE} {τ : St} {H0 : Hp} {Q : VK} (hD : H0 D = none) (hz : n ≤ sizeLine) (R : Nat → V → Hp → Prop) (mono : ∀ i v H H', Zn H H' → R i v H → R i v H')
  (step : ∀ i H (N : V → Hp → Prop), i < n → Zn H0 H → (∀ v H4, Zn H H4 → R i v (New H H4) → N v H4) → te (some (.int (i : Nat)) :: τ) H N)
  (fin : ∀ H' ys, H' D = some (.lst ys) → Zn H0 H' → ys.length = n → (∀ i v, ys[i]? = some v → R i v (New H0 H')) → Q (.ref D) H') :
  zu (Itr 0 n) D (Wi 0) tTrue te (none :: τ) H0 Q := by
 refine XE (n := n) (fun i σ H => ∃ z ys, σ = z :: τ ∧ H D = some (.lst ys) ∧ ys.length = i ∧ Zn H0 H ∧ ∀ j v, ys[j]? = some v → R j v (hide D (New H0 H))) ?_ ?_ ?_ ?_ ?_
 ·exact ⟨none, [], rfl, Zd, rfl, Zf hD, fun j v e => by simp at e⟩
 ·rintro i σ H hi _
  exact hi
 ·rintro σ H _
  exact Nat.le_refl _
 ·rintro i x σ H H2 hi ⟨z, ys, rfl, hy, hl, s, r⟩ ⟨rfl, rfl⟩ N N0 hN hN0
  show te (some (.int (0 + i)) :: τ) H2 _
  rw [Int.zero_add]
  refine step i H2 _ hi s fun v H4 s4 r4 => ?_
  refine hN v _ H4 ys (s4 _ _ hy) (by omega) ⟨_, ys ++ [v], rfl, Zd, by rw [List.length_append, List.length_singleton, hl], ?_, ?_⟩
  ·exact (ZF.upd (Zn.x (s.trans s4))).same hD
  ·intro j w e
   by_cases hj : j < ys.length
   ·rw [List.getElem?_append_left hj] at e
    refine mono j w _ _ ?_ (r j w e)
    intro b o hb
    obtain ⟨nb, hb⟩ := W8 hb
    obtain ⟨h1, h2⟩ := New.of hb
    exact Y7 nb (New.mk h1 (by rw [Zv nb]; exact s4 _ _ h2))
   ·have ej : j = ys.length := by
     have := (List.getElem?_eq_some_iff.mp e).1
     rw [List.length_append, List.length_singleton] at this
     omega
    subst ej
    simp at e
    subst e
    rw [hl]
    refine mono i v _ _ ?_ r4
    intro b o hb
    obtain ⟨h1, h2⟩ := New.of hb
    have nb : b ≠ D := fun z => by subst z; rw [hy] at h1; cases h1
    exact Y7 nb (New.mk (s.free h1) (by rw [Zv nb]; exact h2))
 ·rintro σ H ⟨z, ys, rfl, hy, hl, s, r⟩
  exact fin H ys hy s hl fun i v e => mono i v _ _ Xw (r i v e)
def dT (d : WD) : PyData := .list (d.signs.map dS ++ d.ways.map dI ++ [dI d.starts, dS d.fair])
def upI (ns : List Int) : Prop := ns.Pairwise (· < ·)
def upS (ss : List Str) : Prop := ss.Pairwise fun a b => a.cps.toList < b.cps.toList
theorem xh {ns : List Int} (h : ns.Nodup) : upI (ZS ns) := by
 have hd : (ZS ns).Nodup := (Yi ns).nodup_iff.mpr h
 exact List.Pairwise.imp₂ (fun a b (h1 : a ≤ b) (h2 : a ≠ b) => by omega) (xF ns) hd
theorem upS_sort {ss : List Str} (h : ss.Nodup) : upS (Y3 ss) := by
 have hd : (Y3 ss).Nodup := (YN ss).nodup_iff.mpr h
 refine List.Pairwise.imp₂ (fun a b (h1 : leS a b = true) (h2 : a ≠ b) => ?_) (xB ss) hd
 refine Classical.byContradiction fun hn => h2 (U4 h1 ?_)
 unfold leS
 simp [hn]
theorem sortS_up {ss : List Str} (h : upS ss) : Y3 ss = ss := by
 refine (qh (.refl _) (h.imp fun {a b} q => ?_)).symm
 unfold leS
 have : ¬ b.cps.toList < a.cps.toList := fun z => absurd (List.lt_trans q z) (List.lt_irrefl _)
 simp [this]
theorem Xa {α : Type} {f : α → V} : ∀ {xs : List α} {ys : List V}, ys.length = xs.length → (∀ (i : Nat) v, ys[i]? = some v → ∀ x, xs[i]? = some x → v = f x) → ys = xs.map f
 | [], ys, l, _ => by simp at l; subst l; rfl
 | x :: r, [], l, _ => by simp at l
 | x :: r, y :: ys, l, h => by
  rw [List.map_cons, h 0 y rfl x rfl, Xa (xs := r) (ys := ys) (by simpa using l) fun i v e z e2 => h (i + 1) v (by simpa using e) z (by simpa using e2)]
theorem qj {head : Str} {ws : List Str} (hh : head.length ≤ 8) (hw : ∀ w ∈ ws, w.length ≤ 8) (hl : ws.length ≤ 20) : (Zp head ws).length ≤ 200 := by
 have h1 := X7 " " (head :: ws)
 have h2 := StrLaws.sumLen_le (B := 8) (head :: ws) (fun y hy => by
  rcases List.mem_cons.mp hy with rfl | hy
  ·exact hh
  ·exact hw y hy)
 have h3 : (" " : Str).length = 1 := by decide +kernel
 rw [h3] at h1
 rw [List.length_cons] at h1 h2
 unfold Zp
 omega
theorem XR : ("room" : Str).length ≤ 8 ∧ ("ways" : Str).length ≤ 8 ∧ ("starts" : Str).length ≤ 8 ∧ ("fair" : Str).length ≤ 8 ∧ ("ways" : Str).length = 4 := by decide +kernel
structure Writ (d : WD) : Prop where
 gd : Xu d
 rm : ∀ n : Int, n < d.signs.length → n < 20 ∨ d.signs.length ≤ 20
theorem Xu.num {d : WD} (g : Xu d) {ns : List Int} (h : ns ∈ d.ways ∨ ns = d.starts) : ∀ n ∈ ns, 0 ≤ n ∧ n < 20 := fun n hn => by
 have := g.n20
 rcases h with h | rfl
 ·have := (g.wn ns h).2.2.1 n hn; omega
 ·have := g.stn.2.2.1 n hn; omega
theorem Ul {d : WD} (g : Xu d) : (YC d).length = 2 * d.signs.length + 2 := by
 unfold YC
 have := g.wl
 simp
 omega
def Few (d : WD) : Prop := ∀ ss ∈ d.signs, ss.length ≤ 5
theorem UB {d : WD} (g : Xu d) (fw : Few d) : ∀ y ∈ YC d, y.length ≤ 200 := fun y hy => by
 have hnum : ∀ ns : List Int, (ns ∈ d.ways ∨ ns = d.starts) → ns.length ≤ 20 → ∀ head : Str, head.length ≤ 8 → (Zp head (ns.map Yc)).length ≤ 200 := fun ns h hl head hh => qj hh (fun w hw => by
  obtain ⟨n, hn, rfl⟩ := List.mem_map.mp hw
  have b := g.num h n hn
  have := (X4 b.1 b.2).1
  omega) (by rw [List.length_map]; exact hl)
 unfold YC at hy
 rcases List.mem_append.mp hy with hy | hy
 ·rcases List.mem_append.mp hy with hy | hy
  ·obtain ⟨ss, hs, rfl⟩ := List.mem_map.mp hy
   exact qj XR.1 (fun w hw => XL ((g.sn ss hs).2.1 w hw)) (by have := fw ss hs; omega)
  ·obtain ⟨ns, hs, rfl⟩ := List.mem_map.mp hy
   exact hnum ns (.inl hs) (g.wn ns hs).2.2.2 _ XR.2.1
 ·rcases (by simpa using hy : y = Zp "starts" (d.starts.map Yc) ∨ y = Zp "fair" d.fair) with rfl | rfl
  ·exact hnum d.starts (.inr rfl) g.stn.2.2.2 _ XR.2.2.1
  ·exact qj XR.2.2.2.1 (fun w hw => XL (g.fn.2.1 w hw)) (by have := g.fn.2.2; omega)
theorem Xu.sortW {d : WD} (g : Xu d) : Xu (sortW d) := by
 have e : (L3.sortW d).signs.length = d.signs.length := by show (d.signs.map Y3).length = _; rw [List.length_map]
 refine ⟨by rw [e]; exact g.n1, by rw [e]; exact g.n20, by rw [e]; show (d.ways.map ZS).length = _; rw [List.length_map]; exact g.wl, ?_, ?_, ?_, g.fn⟩
 ·intro ss hs
  obtain ⟨zs, hz, rfl⟩ := List.mem_map.mp hs
  have := g.sn zs hz
  exact ⟨(YN zs).nodup_iff.mpr this.1, fun x hx => this.2.1 x ((YN zs).mem_iff.mp hx), by rw [(YN zs).length_eq]; exact this.2.2⟩
 ·intro ns hs
  rw [e]
  obtain ⟨zs, hz, rfl⟩ := List.mem_map.mp hs
  have := g.wn zs hz
  exact ⟨(Yi zs).nodup_iff.mpr this.1, fun q => this.2.1 (by have := (Yi zs).length_eq; rw [q] at this; exact List.eq_nil_of_length_eq_zero this.symm), fun x hx => this.2.2.1 x ((Yi zs).mem_iff.mp hx), by rw [(Yi zs).length_eq]; exact this.2.2.2⟩
 ·rw [e]
  have := g.stn
  exact ⟨(Yi _).nodup_iff.mpr this.1, fun q => this.2.1 (by have := (Yi d.starts).length_eq; rw [show ZS d.starts = [] from q] at this; exact List.eq_nil_of_length_eq_zero this.symm), fun x hx => this.2.2.1 x ((Yi _).mem_iff.mp hx), by show (ZS d.starts).length ≤ 20; rw [(Yi _).length_eq]; exact this.2.2.2⟩
theorem text_len {d : WD} (g : Xu d) (fw : Few d) : (UA d).length ≤ 10000 ∧ (YC d).length * 200 + (YC d).length * ("\n" : Str).length ≤ 16777216 := by
 have h1 := X7 "\n" (YC d)
 have h2 := StrLaws.sumLen_le (YC d) (UB g fw)
 have h3 : ("\n" : Str).length = 1 := by decide +kernel
 have h4 := Ul g
 have h5 := g.n20
 rw [h3] at h1 ⊢
 unfold UA
 omega
section
variable {X : Cx} {K : PySem.W.Frag}
theorem PE.bmK {e : Expr} {T : String} {r : V → List V → Hp → VK → Prop} {to : TE} {t : TA} (hK : X.K = K) (h : PE X e (tBM X.K T r to t)) : PE X e (tBM K T r to t) := by subst hK; exact h
end
def Y5 (d : WD) : List (List Str) := d.signs.map (fun ss => ("room" : Str) :: ss) ++ d.ways.map (fun ns => ("ways" : Str) :: ns.map Yc) ++ [("starts" : Str) :: d.starts.map Yc, ("fair" : Str) :: d.fair]
theorem numF {d : WD} (gd : Xu d) {ns : List Int} (h : ns ∈ d.ways ∨ ns = d.starts) {c : Nat} (hc : ¬ (48 ≤ c ∧ c ≤ 57)) : ∀ w ∈ ns.map Yc, free c w := fun w hw => by
 obtain ⟨n, hn, rfl⟩ := List.mem_map.mp hw
 have b := gd.num h n hn
 exact qc b.1 b.2 hc
theorem namF {ss : List Str} (h : ∀ x ∈ ss, Zr x = true) {c : Nat} (hc : Xs c = false) : ∀ w ∈ ss, free c w := fun w hw => qp (VX (h w hw)) hc
theorem vO {d : WD} (gd : Xu d) : ∀ y ∈ YC d, free 10 y := fun y hy => by
 unfold YC at hy
 rcases List.mem_append.mp hy with hy | hy
 ·rcases List.mem_append.mp hy with hy | hy
  ·obtain ⟨ss, hs, rfl⟩ := List.mem_map.mp hy
   exact WX heads.1.2 (namF (gd.sn ss hs).2.1 (by decide))
  ·obtain ⟨ns, hs, rfl⟩ := List.mem_map.mp hy
   exact WX heads.2.1.2 (numF gd (.inl hs) (by decide))
 ·rcases (by simpa using hy : y = Zp "starts" (d.starts.map Yc) ∨ y = Zp "fair" d.fair) with rfl | rfl
  ·exact WX heads.2.2.1.2 (numF gd (.inr rfl) (by decide))
  ·exact WX heads.2.2.2.2 (namF gd.fn.2.1 (by decide))
theorem vH {d : WD} (gd : Xu d) : Txt.split (UA d) "\n" = YC d := by
 unfold UA
 rw [nl10]
 exact Wz (fun e => by have := congrArg List.length e; rw [Ul gd] at this; simp at this) (vO gd)
theorem words_of {d : WD} (gd : Xu d) : (YC d).map (fun y => Txt.split y " ") = Y5 d := by
 unfold YC Y5
 rw [List.map_append, List.map_append, List.map_map, List.map_map]
 have h1 : d.signs.map ((fun y => Txt.split y " ") ∘ Zp "room") = d.signs.map (fun ss => ("room" : Str) :: ss) := List.map_congr_left fun ss hs => Wy heads.1.1 (namF (gd.sn ss hs).2.1 (by decide))
 have h2 : d.ways.map ((fun y => Txt.split y " ") ∘ fun ns => Zp "ways" (ns.map Yc)) = d.ways.map (fun ns => ("ways" : Str) :: ns.map Yc) := List.map_congr_left fun ns hs => Wy heads.2.1.1 (numF gd (.inl hs) (by decide))
 rw [h1, h2]
 show _ ++ _ ++ [Txt.split _ _, Txt.split _ _] = _
 rw [Wy heads.2.2.1.1 (numF gd (.inr rfl) (by decide)), Wy heads.2.2.2.1 (namF gd.fn.2.1 (by decide))]
def YV (n : Nat) : List Str := List.replicate n ("room" : Str) ++ List.replicate n ("ways" : Str) ++ (["starts", "fair"] : List Str)
theorem xr {d : WD} (gd : Xu d) : (Y5 d).map (fun ws => ws.getD 0 Str.empty) = YV d.signs.length := by
 unfold Y5 YV
 rw [List.map_append, List.map_append, List.map_map, List.map_map]
 have h1 : d.signs.map ((fun ws : List Str => ws.getD 0 Str.empty) ∘ fun ss => ("room" : Str) :: ss) = List.replicate d.signs.length ("room" : Str) := by
  rw [List.eq_replicate_iff]
  refine ⟨by rw [List.length_map], fun b hb => ?_⟩
  obtain ⟨_, _, rfl⟩ := List.mem_map.mp hb
  rfl
 have h2 : d.ways.map ((fun ws : List Str => ws.getD 0 Str.empty) ∘ fun ns : List Int => ("ways" : Str) :: ns.map Yc) = List.replicate d.signs.length ("ways" : Str) := by
  rw [List.eq_replicate_iff]
  refine ⟨by rw [List.length_map, gd.wl], fun b hb => ?_⟩
  obtain ⟨_, _, rfl⟩ := List.mem_map.mp hb
  rfl
 rw [h1, h2]
 rfl
theorem xz (n : Nat) : ∀ x ∈ YV n, Zr x = true := fun x hx => by
 unfold YV at hx
 rcases List.mem_append.mp hx with h | h
 ·rcases List.mem_append.mp h with h | h
  ·rw [(List.mem_replicate.mp h).2]; decide +kernel
  ·rw [(List.mem_replicate.mp h).2]; decide +kernel
 ·rcases (by simpa using h : x = "starts" ∨ x = "fair") with rfl | rfl
  ·decide +kernel
  ·decide +kernel
theorem W9 (x : V) (m : Nat) : (List.replicate m [x]).flatten = List.replicate m x := by
 induction m with
 | zero => rfl
 | succ m ih => rw [List.replicate_succ, List.flatten_cons, ih, List.replicate_succ]; rfl
theorem xT {d : WD} {i : Nat} (h : i < d.signs.length) : (Y5 d)[i]? = some (("room" : Str) :: d.signs[i]) := by
 unfold Y5
 rw [List.append_assoc, List.getElem?_append_left (by rw [List.length_map]; exact h), List.getElem?_map, List.getElem?_eq_getElem h]
 rfl
theorem words_way {d : WD} (gd : Xu d) {i : Nat} (h : i < d.ways.length) : (Y5 d)[d.signs.length + i]? = some (("ways" : Str) :: d.ways[i].map Yc) := by
 unfold Y5
 rw [List.append_assoc, List.getElem?_append_right (by rw [List.length_map]; omega), List.length_map, Nat.add_sub_cancel_left, List.getElem?_append_left (by rw [List.length_map]; exact h), List.getElem?_map, List.getElem?_eq_getElem h]
 rfl
theorem yf {d : WD} (gd : Xu d) : (Y5 d)[2 * d.signs.length]? = some (("starts" : Str) :: d.starts.map Yc) := by
 have := gd.wl
 unfold Y5
 rw [List.getElem?_append_right (by simp; omega)]
 have e : 2 * d.signs.length - (d.signs.map (fun ss => ("room" : Str) :: ss) ++ d.ways.map (fun ns => ("ways" : Str) :: ns.map Yc)).length = 0 := by simp; omega
 rw [e]
 rfl
theorem Vz {d : WD} (gd : Xu d) : (Y5 d)[2 * d.signs.length + 1]? = some (("fair" : Str) :: d.fair) := by
 have := gd.wl
 unfold Y5
 rw [List.getElem?_append_right (by simp; omega)]
 have e : 2 * d.signs.length + 1 - (d.signs.map (fun ss => ("room" : Str) :: ss) ++ d.ways.map (fun ns => ("ways" : Str) :: ns.map Yc)).length = 1 := by simp; omega
 rw [e]
 rfl
theorem qG {α : Type} {xs : List α} {k : Nat} (h1 : 1 ≤ k) (h2 : k ≤ xs.length) : atI xs (-(k : Int)) = xs[xs.length - k]? := by
 have e : ixN xs.length (-(k : Int)) = some (xs.length - k) := by
  unfold ixN
  rw [if_neg (by omega), if_pos (by omega)]
  congr 1
  omega
 unfold atI
 rw [e]
 rfl
theorem cutV_mid2 (vs : List V) (n : Nat) (h : vs.length = 2 * n + 2) : X9 vs (some (n : Int)) (some (-2)) = (vs.drop n).take n := by
 unfold X9
 have e1 : HT.sIx vs.length 0 (some (n : Int)) = n := by rw [HT.sIx_nat]; omega
 have e2 : HT.sIx vs.length vs.length (some (-2)) = 2 * n := by
  unfold HT.sIx
  simp
  omega
 rw [e1, e2]
 congr 1
 omega
def TrV (h base : Heap) (e : Addr) (cls fl : Value) : Prop :=
 ∃ oe vs T oT ts a0, h.get? e = some oe ∧ oe.cls = cls ∧ oe.data = .fields vs ∧ vs[0]? = some a0 ∧ vs[2]? = some .none ∧ vs[1]? = some (.ref T) ∧ base.get? T = none ∧ T ≠ e ∧ h.get? T = some oT ∧ oT.data = .fields ts ∧ ts[3]? = some fl
def FlV (base : Heap) (l : List Env) (e : Addr) (cls fl : Value) (h : Heap) : Prop := base.StaysIn h ∧ base.get? e = none ∧ h.FunFrames base l ∧ TrV h base e cls fl
section
variable {M : Model} {A : Around} {E : Value → Shared → Prop} {s : Shared} {base : Heap} {env : Env} {outer : List Env} {L e : Addr} {cls fl : Value} {Q : Unit → Shared → Prop}
theorem entryV {oe : Obj} {vs : Array Value} {head a0 : Value} {hadNext : Bool} (hfr : A.frames = some (env :: outer)) (hl : s.heap.FunFrames base (env :: outer)) (hf : env.frame = some L)
  (he : s.heap.get? e = some oe) (hkb : base.StaysIn s.heap) (hen : base.get? e = none) (hd : oe.data = .fields vs) (hsz : 1 < vs.size) (h0 : vs[0]? = some a0) (h2 : vs[2]? = some .none)
  (h : ∀ h', FlV base (env :: outer) e oe.cls (rawInt L) h' → s.heap.UpToSlots h' → Q () { s with heap := h' }) :
  wpAny M A (do let a ← frameOf env; let pl ← entryPlaceOf L hadNext; let b ← EntryCells.newEntry head a .none (rawInt L) .none pl; setField (.ref e) 1 b) Q E s := by
 have out : e ∉ (env :: outer).filterMap (·.frame) := fun hm => by
  obtain ⟨_, o, ho, hnf⟩ := hl.mem hm
  rw [he] at ho
  cases ho
  exact hnf vs hd
 refine wpAny_bind (wpAny_frameOf_fun hfr hl hf fun h₁ hs₁ => wpAny_bind (wpAny_entryPlaceOf fun pl hpl => ?_))
 unfold EntryCells.newEntry newFields
 refine wpAny_bind (wpAny_newObj_type ?_ (hpl.sizeOk5 _ _ _ _ _))
 have he₁ : h₁.get? e = some oe := (hs₁.2.1 e out).trans he
 have kb : base.StaysIn h₁ := fun b o q => (hs₁.2.1 b fun hm => by rw [(hl.mem hm).1] at q; cases q).trans (hkb b o q)
 generalize hob : ({ cls := .type "traceback", dict := none, data := .fields ([head, .ref L, .none, rawInt L, .none] ++ (if pl.isEmpty then List.replicate 6 Value.none else pl)).toArray } : Obj) = ob
 have he₂ := Heap.get?_push_of_some (h := h₁) ob he₁
 have hnew : (h₁.push ob).get? h₁.objs.size = some ob := Heap.get?_push_size h₁ (by rw [← hob]; rfl)
 refine wpAny_setField he₂ hd hsz ?_
 have hTe : h₁.objs.size ≠ e := Nat.ne_of_gt (Heap.lt_size he₁)
 have hd₃ := Obj.data_mapFields hd (·.setIfInBounds 1 (Value.ref h₁.objs.size))
 have he₃ := Heap.get?_update_self (Obj.mapFields (·.setIfInBounds 1 (Value.ref h₁.objs.size))) he₂ (Obj.isFreed_of_fields hd₃)
 have hT₃ := (Heap.get?_update_other (h₁.push ob) (Obj.mapFields (·.setIfInBounds 1 (Value.ref h₁.objs.size))) (Ne.symm hTe)).trans hnew
 have stay : ∀ b o, b ≠ e → h₁.get? b = some o → ((h₁.push ob).update e (Obj.mapFields (·.setIfInBounds 1 (Value.ref h₁.objs.size)))).get? b = some o := fun b o hbe q => by
  rw [Heap.get?_update_other _ _ (Ne.symm hbe)]
  exact Heap.get?_push_of_some _ q
 have plain : ∀ b o, s.heap.get? b = some o → (∀ vs, o.data ≠ .fields vs) → b ≠ e := fun b o q hnf z => by
  rw [z, he] at q
  cases q
  exact hnf vs hd
 refine h _ ⟨fun b o q => stay b o (fun z => by rw [z, hen] at q; cases q) (kb b o q), hen, hl.of_keeps fun b o q hnf => ?_, ?_⟩ fun b o q hnf => ?_
 ·obtain ⟨sl, hs⟩ := hs₁.2.2 b o q
  exact ⟨_, stay b _ (plain b o q hnf) hs, rfl⟩
 ·refine ⟨_, _, h₁.objs.size, ob, ([head, .ref L, .none, rawInt L, .none] ++ (if pl.isEmpty then List.replicate 6 Value.none else pl)).toArray, a0, he₃, Obj.cls_mapFields _ _, hd₃, ?_, ?_, by simp [hsz], kb.fresh, hTe, hT₃, by rw [← hob], ?_⟩
  ·rw [Array.getElem?_setIfInBounds_ne (by decide)]; exact h0
  ·rw [Array.getElem?_setIfInBounds_ne (by decide)]; exact h2
  ·simp
 ·obtain ⟨sl, hs⟩ := hs₁.2.2 b o q
  exact ⟨sl, stay b _ (plain b o q hnf) hs⟩
theorem xb {oe : Obj} {vs : Array Value} {a0 : Value} (hfr : A.frames = some (env :: outer)) (hl : s.heap.FunFrames base (env :: outer)) (hf : env.frame = some L)
  (he : s.heap.get? e = some oe) (hkb : base.StaysIn s.heap) (hen : base.get? e = none) (hd : oe.data = .fields vs) (h0 : vs[0]? = some a0) (h1 : vs[1]? = some .none) (h2 : vs[2]? = some .none)
  (h : ∀ h', FlV base (env :: outer) e oe.cls (rawInt L) h' → s.heap.UpToSlots h' → Q () { s with heap := h' }) : wpAny M A (noteFrame (.ref e) env) Q E s := by
 unfold noteFrame
 simp only [hf]
 refine wpAny_bind (wpAny_field he hd h1 ?_)
 rw [if_neg (by decide)]
 exact entryV hfr hl hf he hkb hen hd (Array.getElem?_eq_some_iff.mp h1).1 h0 h2 h
theorem qk (hfr : A.frames = some (env :: outer)) (hf : env.frame = some L) (x : FlV base (env :: outer) e cls .none s.heap)
  (h : ∀ h', FlV base (env :: outer) e cls (rawInt L) h' → s.heap.UpToSlots h' → Q () { s with heap := h' }) : wpAny M A (noteFrame (.ref e) env) Q E s := by
 obtain ⟨hkb, hen, hl, oe, vs, T, oT, ts, a0, he, hc, hd, h0, h2, h1, hnT, hTe, hT, hdT, h3⟩ := x
 subst hc
 unfold noteFrame
 simp only [hf]
 refine wpAny_bind (wpAny_field he hd h1 ?_)
 rw [if_pos (show (Value.ref T != Value.none) = true from by simp)]
 refine wpAny_bind (wpAny_field hT hdT h3 ?_)
 rw [if_neg (show ¬ ((Value.none == rawInt L) = true) from by simp [rawInt])]
 refine wpAny_bind (wpAny_setField hT hdT (Array.getElem?_eq_some_iff.mp h3).1 ?_)
 have other : ∀ b, b ≠ T → (s.heap.update T (Obj.mapFields (·.setIfInBounds 3 Value.none))).get? b = s.heap.get? b := fun b hb => Heap.get?_update_other _ _ (Ne.symm hb)
 have plain : ∀ b o, s.heap.get? b = some o → (∀ vs, o.data ≠ .fields vs) → b ≠ T := fun b o q hnf z => by
  rw [z, hT] at q
  cases q
  exact hnf ts hdT
 refine entryV hfr (hl.of_keeps fun b o q hnf => ⟨o, (other b (plain b o q hnf)).trans q, rfl⟩) hf ((other e (Ne.symm hTe)).trans he)
  (fun b o q => (other b fun z => by rw [z, hnT] at q; cases q).trans (hkb b o q)) hen hd (Array.getElem?_eq_some_iff.mp h1).1 h0 h2
  fun h' x' up => h h' x' fun b o q hnf => up b o ((other b (plain b o q hnf)).trans q) hnf
theorem landV {l : List Env} (x : FlV base l e cls fl s.heap) (h : ∀ h', FlV base l e cls .none h' → s.heap.UpToSlots h' → Q () { s with heap := h' }) : wpAny M A (setFlight (.ref e) none) Q E s := by
 obtain ⟨hkb, hen, hl, oe, vs, T, oT, ts, a0, he, hc, hd, h0, h2, h1, hnT, hTe, hT, hdT, h3⟩ := x
 have hsz3 : 3 < ts.size := (Array.getElem?_eq_some_iff.mp h3).1
 have other : ∀ b, b ≠ T → (s.heap.update T (Obj.mapFields (·.setIfInBounds 3 ((none : Option Addr).elim Value.none fun f => rawInt f)))).get? b = s.heap.get? b := fun b hb => Heap.get?_update_other _ _ (Ne.symm hb)
 have plain : ∀ b o, s.heap.get? b = some o → (∀ vs, o.data ≠ .fields vs) → b ≠ T := fun b o q hnf z => by
  rw [z, hT] at q
  cases q
  exact hnf ts hdT
 unfold setFlight
 refine wpAny_bind (wpAny_field he hd h1 ?_)
 rw [if_pos (show (Value.ref T != Value.none) = true from by simp)]
 refine wpAny_setField hT hdT hsz3 (h _ ⟨fun b o q => (other b fun z => by rw [z, hnT] at q; cases q).trans (hkb b o q), hen,
  hl.of_keeps fun b o q hnf => ⟨o, (other b (plain b o q hnf)).trans q, rfl⟩,
  oe, vs, T, _, _, a0, (other e (Ne.symm hTe)).trans he, hc, hd, h0, h2, h1, hnT, hTe, Heap.get?_update_self _ hT (Obj.isFreed_of_fields (Obj.data_mapFields hdT _)), Obj.data_mapFields hdT _, by simp [hsz3]⟩
  fun b o q hnf => ⟨o.slots, (other b (plain b o q hnf)).trans q⟩)
theorem yJ {h : Heap} {args : List Value} (hfr : A.frames = some (env :: outer)) (hf : env.frame = some L) (hkb : base.StaysIn h) (hl : h.FunFrames base (env :: outer)) (hx : Heap.MadeExcOf h s.heap e cls args)
  (hQ : ∀ h', FlV base outer e cls .none h' → s.heap.UpToSlots h' → Q () { s with heap := h' }) : wpAny M A (leaving env (.ref e)) Q E s := by
 obtain ⟨t, he, htn, ht⟩ := hx.there
 have fresh : ∀ b, h.get? b = none → base.get? b = none := fun b hb => by
  cases q : base.get? b with
  | none => rfl
  | some o' => rw [hkb b o' q] at hb; cases hb
 unfold leaving
 refine wpAny_bind (xb (a0 := .ref t) hfr (hl.of_keeps fun b o q _ => ⟨o, hx.keeps b o q, rfl⟩) hf he (fun b o q => hx.keeps b o (hkb b o q)) (fresh e hx.new) rfl rfl rfl rfl fun h' x' up => ?_)
 refine landV (s := { s with heap := h' }) x' fun h'' ⟨y1, y2, ⟨_, _, y3⟩, y4⟩ up' => hQ h'' ⟨y1, y2, y3, y4⟩ (up.trans up')
theorem vN (hfr : A.frames = some (env :: outer)) (hf : env.frame = some L) (x : FlV base (env :: outer) e cls .none s.heap)
  (hQ : ∀ h', FlV base outer e cls .none h' → s.heap.UpToSlots h' → Q () { s with heap := h' }) : wpAny M A (leaving env (.ref e)) Q E s := by
 unfold leaving
 refine wpAny_bind (qk hfr hf x fun h' x' up => ?_)
 refine landV (s := { s with heap := h' }) x' fun h'' ⟨y1, y2, ⟨_, _, y3⟩, y4⟩ up' => hQ h'' ⟨y1, y2, y3, y4⟩ (up.trans up')
end
def FlyN (h0 : Heap) (H : Hp) (h : Heap) (a C T : Addr) : Prop :=
 h0.get? a = none ∧ h0.get? T = none ∧ H a = none ∧ H T = none ∧ T ≠ a ∧
 ∃ oe vs oT ts a0, h.get? a = some oe ∧ oe.cls = .ref C ∧ oe.data = .fields vs ∧ vs[0]? = some a0 ∧ vs[1]? = some (.ref T) ∧ h.get? T = some oT ∧ oT.data = .fields ts ∧ ts[3]? = some .none ∧ vs[2]? = some .none
def CXe (P : Program) (w : World) : CXT := fun outer H s E e s' =>
 ∃ a C T H', e = .ref a ∧ s'.os = s.os ∧ AllBare s'.gens ∧ Un (frs outer) [] H H' s.heap s'.heap ∧ HOk P w H' s'.heap ∧ FlyN s.heap H' s'.heap a C T ∧ E e (some C) H'
theorem qM {P : Program} {w : World} {H : Hp} {h h' : Heap} (x : HOk P w H h) (k : ∀ b o, (H b).isSome = true → h.get? b = some o → h'.get? b = some o) : HOk P w H h' := fun a o e =>
 (x a o e).stay (fun b u hb q => k b u (by rcases hb with rfl | hb <;> simp [*]) q) (fun _ q => q) fun _ _ q => q
theorem zX {P : Program} {w : World} {H : Hp} {h : Heap} {a : Addr} (x : HOk P w H h) (e : h.get? a = none) : H a = none := by
 cases q : H a with
 | none => rfl
 | some o =>
  exfalso
  have z := x a o q
  obtain ⟨o', z'⟩ : ∃ o', h.get? a = some o' := by
   cases o with
   | lst xs => obtain ⟨_, _, _, _, e⟩ := z; exact ⟨_, e⟩
   | tup xs => obtain ⟨_, _, _, _, e, _⟩ := z; exact ⟨_, e⟩
   | dK kvs => obtain ⟨_, _, _, _, _, _, _, e, _⟩ := z; exact ⟨_, e⟩
   | dT kvs => obtain ⟨_, _, _, _, _, _, _, e, _⟩ := z; exact ⟨_, e⟩
   | set S n => obtain ⟨_, _, _, _, e, _⟩ := z; exact ⟨_, e⟩
   | ins C dx fs => obtain ⟨_, _, _, e, _⟩ := z; exact ⟨_, e⟩
   | own y => obtain ⟨_, e⟩ := z; exact ⟨_, e⟩
   | xd fs => obtain ⟨_, ⟨_, _, _, e, _⟩, _⟩ := z; exact ⟨_, e⟩
   | rng lo hi => obtain ⟨_, _, _, e⟩ := z; exact ⟨_, e⟩
   | frz ob u => obtain ⟨e, _⟩ := z; exact ⟨_, e⟩
   | tbl ps => exact ⟨_, z⟩
   | met f y => exact ⟨_, z⟩
   | ext φ => obtain ⟨_, ⟨o, e⟩, _⟩ := z; exact ⟨_, e⟩
  rw [e] at z'
  cases z'
section
variable {P : Program} {w : World} {K : PySem.W.Frag} {mg : Str → Option Value} {base : Heap} {N : List Str} {qual : Str} {scope : Scope} {f : Addr} {cd : Value} {A : Around} {outer : List Env} {s₀ : Shared} {H₀ : Hp} {E : XK}
theorem V2 {l : List Env} {b : Addr} {env : Env} (he : env ∈ l) (hb : env.frame = some b) : b ∈ frs l := List.mem_filterMap.mpr ⟨env, he, hb⟩
theorem yG {pins : List (Addr × Obj)} {σ : St} {H : Hp} {s : Shared} {a C T B : Addr} {h₂ : Heap} (I : Inv (VL (CXe P w) P w K mg base N qual scope f cd A outer s₀ H₀ E) pins σ H s)
  (n1 : s₀.heap.get? a = none) (n2 : s₀.heap.get? T = none) (n3 : H a = none) (n4 : H T = none) (hB1 : H B = none) (hB2 : s₀.heap.get? B = none)
  (f1 : (PySem.W.hideAll s.heap (B :: a :: T :: frs (envOfC qual scope s₀.heap.objs.size f cd :: outer))).StaysIn h₂) (slot : ∀ b o, s.heap.get? b = some o → b ∈ frs (envOfC qual scope s₀.heap.objs.size f cd :: outer) → ∃ sl, h₂.get? b = some { o with slots := sl })
  (f4 : TrV h₂ (PySem.W.hideAll s.heap (B :: a :: T :: frs (envOfC qual scope s₀.heap.objs.size f cd :: outer))) a (.ref C) .none) (hE : E (.ref a) (some C) H) : CXe P w outer H₀ s₀ E (.ref a) { s with heap := h₂ } := by
 have hst := I.stack
 have hfree := I.stkFree
 have hok := I.hok
 have hsub : ∀ b ∈ frs outer, b ∈ frs (envOfC qual scope s₀.heap.objs.size f cd :: outer) := fun b hb => by
  obtain ⟨env, he, hf⟩ := List.mem_filterMap.mp hb
  exact List.mem_filterMap.mpr ⟨env, List.mem_cons_of_mem _ he, hf⟩
 have hown : ∀ b ∈ frs (envOfC qual scope s₀.heap.objs.size f cd :: outer), b = s₀.heap.objs.size ∨ b ∈ frs outer := fun b hb => by
  obtain ⟨env, he, hf⟩ := List.mem_filterMap.mp hb
  rcases List.mem_cons.mp he with rfl | he
  ·exact .inl (Option.some.inj hf).symm
  ·exact .inr (List.mem_filterMap.mpr ⟨env, he, hf⟩)
 have out : ∀ {b : Addr}, b ≠ a → b ≠ T → b ≠ B → b ∉ frs (envOfC qual scope s₀.heap.objs.size f cd :: outer) → b ∉ B :: a :: T :: frs (envOfC qual scope s₀.heap.objs.size f cd :: outer) := fun {b} z1 z2 z4 z3 z => by
  rcases List.mem_cons.mp z with z | z
  ·exact z4 z
  ·rcases List.mem_cons.mp z with z | z
   ·exact z1 z
   ·rcases List.mem_cons.mp z with z | z
    ·exact z2 z
    ·exact z3 z
 have keep : ∀ b o, s.heap.get? b = some o → b ≠ a → b ≠ T → b ≠ B → b ∉ frs (envOfC qual scope s₀.heap.objs.size f cd :: outer) → h₂.get? b = some o := fun b o q z1 z2 z4 z3 => f1 b o (PySem.W.hideAll_get _ q (out z1 z2 z4 z3))
 have ne : ∀ {c : Addr}, s₀.heap.get? c = none → ∀ b o, s₀.heap.get? b = some o → b ≠ c := fun {c} hc b o q z => by rw [z, hc] at q; cases q
 have neL : ∀ b o, s₀.heap.get? b = some o → b ≠ s₀.heap.objs.size := fun b o z => Nat.ne_of_lt (Heap.lt_size z)
 obtain ⟨oe', vs', T', oT', ts', a0', he', hcls', hd', h0', h2', h1', hnT', hTe', hT', hdT', h3'⟩ := f4
 have far : ∀ o, s.heap.get? T' = some o → T' ≠ a → T' ≠ T → T' ≠ B → False := fun o q z1 z2 z4 => by
  by_cases n : T' ∈ frs (envOfC qual scope s₀.heap.objs.size f cd :: outer)
  ·obtain ⟨_, o', ho', hdn⟩ := Heap.FunFrames.mem hst n
   rw [q] at ho'
   cases ho'
   obtain ⟨sl, z⟩ := slot T' o q n
   rw [hT'] at z
   cases z
   exact hdn ts' hdT'
  ·rw [PySem.W.hideAll_get _ q (out z1 z2 z4 n)] at hnT'
   cases hnT'
 have e1 : s₀.heap.get? T' = none := by
  cases q : s₀.heap.get? T' with
  | none => rfl
  | some o =>
   obtain ⟨o', z'⟩ := I.base.there T' o q (fun y => nomatch y)
   exact (far o' z' (ne n1 _ _ q) (ne n2 _ _ q) (ne hB2 _ _ q)).elim
 have e2 : H T' = none := by
  cases q : H T' with
  | none => rfl
  | some u =>
   cases z : s.heap.get? T' with
   | none => rw [zX hok z] at q; cases q
   | some o => exact (far o z (fun y => by rw [y, n3] at q; cases q) (fun y => by rw [y, n4] at q; cases q) (fun y => by rw [y, hB1] at q; cases q)).elim
 refine ⟨a, C, T', H, rfl, I.os, I.bare, ⟨fun b o q n hb hx => ?_, fun b o q n hb hx => ?_, fun b o q n hx => I.base.free b o q n (fun y => nomatch y), fun b o q hx => ?_, I.base.tups, I.base.frzs, I.base.tbls⟩, ?_,
  ⟨n1, e1, n3, e2, hTe', oe', vs', oT', ts', _, he', hcls', hd', h0', h1', hT', hdT', h3', h2'⟩, hE⟩
 ·exact keep b o (I.base.keep b o q n hb (fun y => nomatch y)) (ne n1 _ _ q) (ne n2 _ _ q) (ne hB2 _ _ q) fun z => (hown b z).elim (neL b o q) hb
 ·obtain ⟨sl, q1⟩ := I.base.slot b o q n hb (fun y => nomatch y)
  obtain ⟨sl2, q2⟩ := slot b _ q1 (hsub b hb)
  exact ⟨sl2, q2⟩
 ·obtain ⟨o', q1⟩ := I.base.there b o q (fun y => nomatch y)
  by_cases n : b ∈ frs (envOfC qual scope s₀.heap.objs.size f cd :: outer)
  ·obtain ⟨sl, q2⟩ := slot b o' q1 n
   exact ⟨_, q2⟩
  ·exact ⟨o', keep b o' q1 (ne n1 _ _ q) (ne n2 _ _ q) (ne hB2 _ _ q) n⟩
 ·refine qM hok fun b o hb q => keep b o q (fun z => ?_) (fun z => ?_) (fun z => ?_) fun z => ?_
  ·rw [z, n3] at hb; cases hb
  ·rw [z, n4] at hb; cases hb
  ·rw [z, hB1] at hb; cases hb
  ·rw [hfree b z] at hb; cases hb
theorem xH {h : Heap} {l : List Addr} : (PySem.W.hideAll h l).StaysIn h := fun b o q => PySem.W.of_hideAll _ q
theorem slot_of {h h1 h2 base : Heap} {l : List Env} (hst : h.FunFrames base l) (k : ∀ b o, h.get? b = some o → (∀ vs, o.data ≠ .fields vs) → ∃ sl, h1.get? b = some { o with slots := sl }) (up : h1.UpToSlots h2) :
  ∀ b o, h.get? b = some o → b ∈ frs l → ∃ sl, h2.get? b = some { o with slots := sl } := fun b o q n => by
 obtain ⟨_, o', ho', hdn⟩ := Heap.FunFrames.mem hst n
 rw [q] at ho'
 cases ho'
 obtain ⟨sl, q1⟩ := k b o q hdn
 obtain ⟨sl2, q2⟩ := up b _ q1 hdn
 exact ⟨sl2, q2⟩
theorem vd {pins : List (Addr × Obj)} {σ : St} {H : Hp} {s : Shared} {h' : Heap} {e C : Addr} {vs : List Value} (I : Inv (VL (CXe P w) P w K mg base N qual scope f cd A outer s₀ H₀ E) pins σ H s)
  (hm : Heap.MadeExcOf s.heap h' e (.ref C) vs) (hE : E (.ref e) (some C) H) : (VL (CXe P w) P w K mg base N qual scope f cd A outer s₀ H₀ E).xe (.ref e) { s with heap := h' } := by
 show wpAny (model P w) (A.deeper (envOfC qual scope s₀.heap.objs.size f cd)) (leaving (envOfC qual scope s₀.heap.objs.size f cd) (.ref e)) _ _ _
 have hst := I.stack
 have ne0 : s₀.heap.get? e = none := by
  cases z : s₀.heap.get? e with
  | none => rfl
  | some o =>
   obtain ⟨o', z'⟩ := I.base.there e o z (by exact (fun y => nomatch y))
   rw [hm.new] at z'
   cases z'
 refine yJ (base := PySem.W.hideAll s.heap (e :: e :: e :: frs (envOfC qual scope s₀.heap.objs.size f cd :: outer))) (h := s.heap) (outer := outer) (L := s₀.heap.objs.size) I.ok.frames rfl xH
  (PySem.W.funFrames_hide hst fun env he b hb => .tail _ (.tail _ (.tail _ (V2 he hb)))) hm fun h₂ ⟨f1, f2, f3, f4⟩ hup => ?_
 have hH := zX I.hok hm.new
 show CXe P w outer H₀ s₀ E (.ref e) { s with heap := h₂ }
 exact yG (s := s) I ne0 ne0 hH hH hH ne0 f1 (slot_of hst (fun b o q _ => ⟨o.slots, hm.keeps b o q⟩) hup) f4 hE
end
section
variable {K : PySem.W.Frag} {mg : Str → Option Value} {base : Heap} {x : Str} {C : Addr} {bmB : List Value} {newId : String}
theorem exc_own (M : Mod K mg base) (hm : mg x = some (.ref C)) (q : PySem.W.excIn K C bmB newId = true) : OwnCls x C bmB newId mg base := by
 refine ⟨hm, ?_⟩
 have X := M.kin
 unfold PySem.W.excIn at q
 split at q
 case h_2 => cases q
 case h_1 dd cd sl ho =>
  split at q
  case h_2 => cases q
  case h_1 C' bm k0 k1 k2 k3 n k5 hmro hs =>
   simp only [Bool.and_eq_true, beq_iff_eq, Bool.not_eq_true'] at q
   obtain ⟨⟨⟨⟨⟨e1, e2⟩, e3⟩, e4⟩, e5⟩, e6⟩ := q
   subst e1 e2
   cases cd with
   | mk nm bs mro ns qn hdc sn sub ab col del =>
    dsimp only at hmro e3 e5 e6
    subst hmro e3
    cases sl with
    | mk l =>
     dsimp only at hs
     subst hs
     exact ⟨bm, ns, nm, qn, bs, hdc, sn, sub, ab, col, dd, k0, k1, k2, k3, k5, _, X _ _ ho, .of_isNs (PySem.W.isNs_of_in X e5), PySem.W.nsMap_none_of_in X e5 e6, PySem.W.tail_of_in X e4⟩
end
def Raises (X : Cx) (E : XK) : Prop := ∀ (pins : List (Addr × Obj)) (σ : St) (H : Hp) (s : Shared) (h' : Heap) (e C : Addr) (vs : List Value), Inv X pins σ H s → Heap.MadeExcOf s.heap h' e (.ref C) vs → E (.ref e) (some C) H → X.xe (.ref e) { s with heap := h' }
section
variable {X : Cx} {x : Str} {C : Addr} {e : Expr} {es : List Expr} {t : TA} {E : XK} {B newId initId : String} {bmB : List Value} {np cpos pos : Pos}
def tRaise (C : Addr) (E : XK) (t : TA) : L2.TS := fun _ σ H => t σ H fun vs H1 => vs.length ≤ 1000 ∧ ∀ a, E (.ref a) (some C) H1
theorem Wm (hr : Raises X E) (hh : X.calm = true) (hg : Gl X x) (hm : X.mg x = some (.ref C)) (q : PySem.W.excIn X.K C bmB newId = true) (FB : ExcBaseFacts B newId initId bmB) (ha : PA X (e :: es) t)
  (hdb : (x == ("__debug__" : Str)) = false := by decide) (he : starEach (e :: es) X.env = (false, eval e X.env) :: starEach es X.env := by rfl) (hpl : (backTo cpos (starEach es X.env)).any (·.1) = false := by rfl) :
  PS X (.Raise (some (.Call (.Name x np) (e :: es) [] cpos)) none pos) (tRaise C E t) := by
 intro pins s σ H D I h
 have OC : OwnCls x C bmB newId X.mg X.base := exc_own I.ok.mod hm q
 obtain ⟨tl, N, nm, qn, bs, hdct, sn, sub, ab, col, dd, k0, k1, k2, k3, k5, mN, hC, hN, hni, T⟩ := OC.obj
 refine wpAny_Raise_call_subT (C := C) (nm := nm) (q := qn) (N := N) (bs := bs) (bm := tl) (hdct := hdct) (sn := sn) (sub := sub) (ab := ab) (col := col) (dd := dd) (k0 := k0) (k1 := k1) (k2 := k2) (k3 := k3) (k5 := k5)
  FB (mN := mN) (T.hasType FB.hasBase) (I.ok.hd hh) (by rw [he]; show (false || (backTo cpos (starEach es X.env)).any (·.1)) = false; rw [hpl]; rfl) hni (W7 I hg hm ⟨rfl, ?_⟩ hdb)
 have h2 := ha cpos pins s σ H _ I h
 rw [he] at h2 ⊢
 refine Calls.evalArgs_plain (wpAny_mono h2 (fun us s2 h3 => ?_) fun _ _ y => y)
 obtain ⟨vs, H1, I1, r, hl, hE⟩ := h3
 refine ⟨rfl, by rw [← r.length, sizeLine_eq]; omega, I1.bk _ _ hC, hN.keeps I1.bk, T.keeps I1.bk, fun h' a hma => hr pins σ H1 s2 h' a C us I1 hma (hE a)⟩
end
abbrev XS := Value → Option Addr → L2.St → Hp → Prop
def XP (X : Cx) (pins : List (Addr × Obj)) (E : XS) (e : Value) (s' : Shared) : Prop := ∃ σ H s, L2.Inv X pins σ H s ∧ CXe X.prog X.w X.stack H s (fun e c H' => E e c σ H') e s'
def PEx (X : Cx) (ex : Expr) (t : L2.St → Hp → VK → XK → Prop) : Prop :=
 ∀ (pins : List (Addr × Obj)) (s : Shared) (σ : L2.St) (H : Hp) (Q : VK) (E : XK), L2.Inv X pins σ H s → t σ H Q E → wpAny (model X.prog X.w) X.A (eval ex X.env) (EP X pins σ Q) (XP X pins fun e c σ' H' => σ' = σ ∧ E e c H') s
def PSx (X : Cx) (b : List Stmt) (t : L2.Ends → XS → L2.St → Hp → Prop) : Prop :=
 ∀ (pins : List (Addr × Obj)) (s : Shared) (σ : L2.St) (H : Hp) (D : L2.Ends) (E : XS), L2.Inv X pins σ H s → t D E σ H → wpAny (model X.prog X.w) X.A (execs b X.env) (SP X pins D) (XP X pins E) s
section
variable {X : Cx} {k : Nat} {f C : Addr} {fd : FuncData} {ps : List Str} {sp : Sp} {x : Str} {p pos : Pos} {e : Expr} {es : List Expr} {t : TA}
theorem xp_mono {pins : List (Addr × Obj)} {E E' : XS} (h : ∀ e c σ H, E e c σ H → E' e c σ H) {v : Value} {s' : Shared} (x : XP X pins E v s') : XP X pins E' v s' := by
 obtain ⟨σ, H, s, I, a, C, T, H', e1, e2, e3, e4, e5, e6, e7⟩ := x
 exact ⟨σ, H, s, I, a, C, T, H', e1, e2, e3, e4, e5, e6, h _ _ _ _ e7⟩
end
section
variable {X : Cx} {pins : List (Addr × Obj)} {σ : L2.St} {H : Hp} {s : Shared}
abbrev _root_.L2.Cx.caught (X : Cx) (a : Addr) : Cx := { X with A := X.A.mark (some (.ref a)), calm := false, xe := fun _ _ => False }
theorem U1 (I : L2.Inv X pins σ H s) (a : Addr) : L2.Inv (X.caught a) pins σ H s :=
 ⟨⟨I.ok.mod, I.ok.kind, I.ok.glob, I.ok.blt, I.ok.above, I.ok.inj, I.ok.has, I.ok.cab, fun z => (nomatch z), I.ok.frames, I.ok.stk, I.ok.exf, I.ok.bs, I.ok.bsz, I.ok.noex, I.ok.exfs, I.ok.funs, I.ok.frf⟩, I.os, I.bare, I.base, I.loc, I.cell, I.free, I.freeC, I.pin, I.hok, I.len⟩
theorem Va {M : Model} {A : Around} {E : Value → Shared → Prop} {i : Nat} {n : Str} {pos : Pos} {Q : Unit → Shared → Prop} (I : L2.Inv X pins σ H s) (hN : X.N.Nodup) (hi : X.N[i]? = some n) (hl : X.env.scope.names.lookup n = some .local)
  (h : ∀ s', L2.Inv X pins (σ.set i none) H s' → Q () s') : wpAny M A (do bindName X.env n .none; unbindBehindTheSuite X.env n pos) Q E s := by
 obtain ⟨m, hn, hlk⟩ := id I.loc
 have hcls : (X.env.scope.kind == .class || (X.env.scope.kind == .module && X.env.locals != X.env.globals)) = false := by rw [I.ok.kind]; rfl
 refine wpAny_nameGoes_keeps hl hn hcls fun h' v hn' hs => ?_
 have hnone : H X.env.locals = none := I.free
 have up : ∀ b o, X.s₀.heap.get? b = some o → h'.get? b = s.heap.get? b := fun b o e => hs.2 b (Nat.ne_of_lt (Nat.lt_of_lt_of_le (Heap.lt_size e) I.ok.above))
 refine h _ ⟨I.ok, I.os, I.bare, ⟨fun b o e z hb hx => ?_, fun b o e z hb hx => ?_, I.base.free, fun b o e hx => ?_, I.base.tups, I.base.frzs, I.base.tbls⟩, ⟨_, hn', fun j y v' e1 e2 e3 => ?_⟩, fun y c e => ?_, I.free, I.freeC, fun p hp => ?_, ?_, ?_⟩
 ·exact (up b o e).trans (I.base.keep b o e z hb hx)
 ·obtain ⟨sl, e1⟩ := I.base.slot b o e z hb hx
  exact ⟨sl, (up b o e).trans e1⟩
 ·obtain ⟨o', e1⟩ := I.base.there b o e hx
  exact ⟨o', (up b o e).trans e1⟩
 ·by_cases hj : j = i
  ·subst hj
   rw [List.getElem?_set] at e2
   split at e2
   ·split at e2 <;> cases e2
   ·exact absurd rfl ‹_›
  ·rw [List.getElem?_set_ne (Ne.symm hj)] at e2
   obtain ⟨u', r', q⟩ := hlk j y v' e1 e2 e3
   refine ⟨u', r', ?_⟩
   rcases q with ⟨k, e⟩ | ⟨k, c, e, z⟩
   ·refine .inl ⟨k, ?_⟩
    have : y ≠ n := fun e => hj (qu hN e1 (e ▸ hi))
    simp [this, e]
   ·exact .inr ⟨k, c, e, z.sameBut hs (I.cne y c e)⟩
 ·obtain ⟨w', z⟩ := I.cell y c e
  exact ⟨w', z.sameBut hs (I.cne y c e)⟩
 ·obtain ⟨e, z, ne, nf, d⟩ := I.pin p hp
  exact ⟨(hs.2 p.1 ne).trans e, z, ne, nf, d⟩
 ·refine qM I.hok fun b o hb q => (hs.2 b fun z => ?_).trans q
  rw [z, hnone] at hb
  cases hb
 ·rw [List.length_set]
  exact I.len
end
def XcAt (a C : Addr) (h : Heap) : Prop := ∃ o vs, h.get? a = some o ∧ o.cls = .ref C ∧ o.data = .fields vs ∧ vs[2]? = some .none
def XcO (a C : Addr) : HO := .ext (XcAt a C)
theorem xc_ok {P : Program} {w : World} {H : Hp} {h : Heap} {a C : Addr} (x : XcAt a C h) : Y6 P w H h a (XcO a C) := by
 obtain ⟨o, vs, e, c, d, z⟩ := x
 exact ⟨⟨o, vs, e, c, d, z⟩, ⟨o, e⟩, fun h1 h2 ⟨o', vs', e', c', d'⟩ k => ⟨o', vs', k _ e', c', d'⟩⟩
section
variable {X : Cx} {pins : List (Addr × Obj)} {σ : L2.St} {H H' : Hp} {s s' : Shared} {a C T : Addr}
theorem landed_un {h₅ : Heap} (I : L2.Inv X pins σ H s) (hos : s'.os = s.os) (hba : AllBare s'.gens) (hun : Un (frs X.stack) [] H H' s.heap s'.heap) (hok : HOk X.prog X.w H' s'.heap) (fly : FlyN s.heap H' s'.heap a C T)
  (fl : FlV (PySem.W.hideAll s'.heap (a :: T :: frs X.stack)) X.stack a (.ref C) .none h₅) (up : s'.heap.UpToSlots h₅) :
  Un (frs X.stack) [] H H' s.heap h₅ ∧ HOk X.prog X.w H' h₅ := by
 have I' : L2.Inv X pins σ H' s' := I.call' hos hun hok hba (fun b z => nomatch z)
 obtain ⟨f1, f2, f3, f4⟩ := fl
 obtain ⟨n1, n2, n3, n4, _, _⟩ := fly
 have keep : ∀ b o, s'.heap.get? b = some o → b ≠ a → b ≠ T → b ∉ frs X.stack → h₅.get? b = some o := fun b o q z1 z2 z3 => f1 b o (PySem.W.hideAll_get _ q fun z => by
  rcases List.mem_cons.mp z with z | z
  ·exact z1 z
  ·rcases List.mem_cons.mp z with z | z
   ·exact z2 z
   ·exact z3 z)
 have slot : ∀ b o, s'.heap.get? b = some o → b ∈ frs X.stack → ∃ sl, h₅.get? b = some { o with slots := sl } := fun b o q n => by
  obtain ⟨_, o', ho', hd⟩ := Heap.FunFrames.mem I'.stack n
  rw [q] at ho'
  cases ho'
  exact up b o q hd
 have na : ∀ b o, s.heap.get? b = some o → b ≠ a := fun b o q z => by rw [z, n1] at q; cases q
 have nT : ∀ b o, s.heap.get? b = some o → b ≠ T := fun b o q z => by rw [z, n2] at q; cases q
 refine ⟨⟨fun b o q n hb hx => ?_, fun b o q n hb hx => ?_, fun b o q n hx => hun.free b o q n hx, fun b o q hx => ?_, hun.tups, hun.frzs, hun.tbls⟩, ?_⟩
 ·exact keep b o (hun.keep b o q n hb hx) (na b o q) (nT b o q) hb
 ·obtain ⟨sl, q1⟩ := hun.slot b o q n hb hx
  obtain ⟨sl2, q2⟩ := slot b _ q1 hb
  exact ⟨sl2, q2⟩
 ·obtain ⟨o', q1⟩ := hun.there b o q hx
  by_cases n : b ∈ frs X.stack
  ·obtain ⟨sl, q2⟩ := slot b o' q1 n
   exact ⟨_, q2⟩
  ·exact ⟨o', keep b o' q1 (na b o q) (nT b o q) n⟩
 ·refine qM hok fun b o hb q => keep b o q (fun z => ?_) (fun z => ?_) fun z => ?_
  ·rw [z, n3] at hb; cases hb
  ·rw [z, n4] at hb; cases hb
  ·rw [I'.stkFree b z] at hb; cases hb
theorem qF {h₅ : Heap} {tk : Nat} (I : L2.Inv X pins σ H s) (hos : s'.os = s.os) (hba : AllBare s'.gens) (hun : Un (frs X.stack) [] H H' s.heap s'.heap) (hok : HOk X.prog X.w H' s'.heap) (fly : FlyN s.heap H' s'.heap a C T)
  (fl : FlV (PySem.W.hideAll s'.heap (a :: T :: frs X.stack)) X.stack a (.ref C) .none h₅) (up : s'.heap.UpToSlots h₅) : L2.Inv X pins σ (upd H' a (XcO a C)) { s' with heap := h₅ } := by
 obtain ⟨u, hk⟩ := landed_un I hos hba hun hok fly fl up
 obtain ⟨n1, n2, n3, n4, _, _⟩ := fly
 obtain ⟨_, _, _, oe, vs, _, _, _, _, he, hc, hd, _, h2, _⟩ := id fl
 have ne : ∀ b u, H' b = some u → b ≠ a := fun b u q z => by rw [z, n3] at q; cases q
 have hk2 : HOk X.prog X.w (upd H' a (XcO a C)) h₅ := fun b o q => by
  by_cases hb : b = a
  ·subst hb
   rw [Zd] at q
   cases q
   exact xc_ok ⟨oe, vs, he, hc, hd, h2⟩
  ·rw [Zv hb] at q
   exact (hk b o q).stay (fun c u _ z => z) (fun c z => by rw [Zv (ne c _ z)]; exact z) fun c xs z => by rw [Zv (ne c _ z)]; exact z
 refine I.call' (s' := { s' with heap := h₅ }) hos ⟨u.keep, u.slot, fun b o q n hx => ?_, u.there, fun b xs q => ?_, fun b o w q => ?_, fun b ps q => ?_⟩ hk2 hba (fun b z => nomatch z)
 ·have : b ≠ a := fun z => by rw [z, n1] at q; cases q
  rw [Zv this]
  exact u.free b o q n hx
 ·have z := u.tups b xs q
  rw [Zv (ne b _ z)]
  exact z
 ·have z := u.frzs b o w q
  rw [Zv (ne b _ z)]
  exact z
 ·obtain ⟨more, z⟩ := u.tbls b ps q
  exact ⟨more, by rw [Zv (ne b _ z)]; exact z⟩
end
section
variable {X : Cx} {i : Nat} {n cn : Str} {D : Addr} {b₀ : Stmt} {body suite : List Stmt} {np hpos pos : Pos}
def tTry (K : PySem.W.Frag) (D : Addr) (i : Nat) (tb : L2.Ends → XS → L2.St → Hp → Prop) (th : Addr → L2.TS) : L2.TS := fun Ds σ H =>
 tb Ds (fun e c σ1 H1 => ∃ a C, e = .ref a ∧ c = some C ∧ PySem.W.exmOne K (.ref C) (.ref D) = some true ∧ (H1 a = none →
  th a { nx := fun σ2 H2 => Ds.nx (σ2.set i none) H2, rt := Ds.rt, bk := fun σ2 H2 => Ds.bk (σ2.set i none) H2, ct := fun σ2 H2 => Ds.ct (σ2.set i none) H2 } (σ1.set i (some (.ref a))) (upd H1 a (XcO a C)))) σ H
theorem ps_try {tb : L2.Ends → XS → L2.St → Hp → Prop} {th : Addr → L2.TS} (hst : X.stack = X.env :: X.outer) (hfr : X.env.frame = some X.env.locals) (hN : X.N.Nodup) (hi : X.N[i]? = some n) (hl : X.env.scope.names.lookup n = some .local)
  (hg : Gl X cn) (hm : X.mg cn = some (.ref D)) (hb : PSx X body tb) (hs : ∀ a, PSs (X.caught a) (b₀ :: suite) (th a)) (hdb : (cn == ("__debug__" : Str)) = false := by decide) :
  PS X (.Try body [.ExceptHandler (some (.Name cn np)) (some n) (b₀ :: suite) hpos] [] [] pos) (tTry X.K D i tb th) := by
 intro pins s σ H Ds I h
 refine wpAny_Try_except (wpAny_mono (hb pins s σ H Ds _ I h) (fun f s1 h1 => ?_) fun v s1 h1 => ?_)
 ·cases f with
  | next => exact wpAny_execs_nil h1
  | ret u => exact h1
  | brk => exact h1
  | cont => exact h1
 ·obtain ⟨σ1, H0, s0, I0, a, C, T, H', rfl, hos, hba, hun, hok, fly, a', C', ea, ec, hx, hE⟩ := h1
  cases ea
  cases ec
  have I' : L2.Inv X pins σ1 H' s1 := I0.call' hos hun hok hba (fun b z => nomatch z)
  obtain ⟨n1, n2, n3, n4, nTa, oe, vs, oT, ts, a0, he, hc, hd, h0, hT1, hT, hdT, h3, h2⟩ := id fly
  have fl1 : FlV (PySem.W.hideAll s1.heap (a :: T :: frs X.stack)) X.stack a (.ref C) .none s1.heap :=
   ⟨fun b o q => PySem.W.of_hideAll _ q, PySem.W.hideAll_none _ (.head _), PySem.W.funFrames_hide I'.stack fun env hev b hbv => .tail _ (.tail _ (V2 hev hbv)),
    oe, vs, T, oT, ts, a0, he, hc, hd, h0, h2, hT1, PySem.W.hideAll_none _ (.tail _ (.head _)), nTa, hT, hdT, h3⟩
  rw [hst] at fl1
  refine qk (L := X.env.locals) (by rw [I.ok.frames, hst]) hfr fl1 fun h₄ hl₄ up₄ => ?_
  refine landV (s := { s1 with heap := h₄ }) hl₄ fun h₅ fl₅ up₅ => ?_
  have up5 := up₄.trans up₅
  rw [← hst] at fl₅
  have J5 : L2.Inv (X.caught a) pins σ1 (upd H' a (XcO a C)) { s1 with heap := h₅ } := U1 (qF (tk := 0) I0 hos hba hun hok fly fl₅ up5) a
  refine wpAny_handleBy_cons (codeAny_handlers_test (W7 (X := X.caught a) J5 hg hm ?_ hdb)) (by intro q; cases q)
  obtain ⟨_, _, _, ob, _, _, _, _, _, hob, hobc, _⟩ := id fl₅
  have LT : PySem.W.Looks (model X.prog X.w) h₅ (typeOf (.ref a)) (.ref C) := hobc ▸ (PySem.W.Looks.ld hob).andThen .now
  refine (PySem.W.exm_one (K := X.K) J5.kIn LT hx).here ?_
  refine codeAny_handlers_suite_as ?_
  rw [hst] at fl₅
  refine landV (s := { s1 with heap := h₅ }) fl₅ fun h₆ fl₆ up₆ => ?_
  rw [← hst] at fl₆
  have J6 : L2.Inv (X.caught a) pins σ1 (upd H' a (XcO a C)) { s1 with heap := h₆ } := U1 (qF (tk := 0) I0 hos hba hun hok fly fl₆ (up5.trans up₆)) a
  refine VE (X := X.caught a) J6 hN hi (.inl hl) (show Z8 (.ref a) (.ref a) from rfl) (fun s7 J7 => ?_) (.inr hl)
  refine wpAny_mono (hs a pins s7 _ _ _ J7 (hE n3)) (fun f s8 h8 => ?_) fun _ _ z => False.elim z
  have back : ∀ {σ2 : L2.St} {H2 : Hp}, L2.Inv (X.caught a) pins σ2 H2 s8 → L2.Inv X pins σ2 H2 s8 := fun J =>
   ⟨I.ok, J.os, J.bare, J.base, J.loc, J.cell, J.free, J.freeC, J.pin, J.hok, J.len⟩
  cases f with
  | next =>
   obtain ⟨σ2, H2, J, q⟩ := h8
   exact Va (back J) hN hi hl fun s9 J9 => ⟨_, _, J9, q⟩
  | brk =>
   obtain ⟨σ2, H2, J, q⟩ := h8
   exact Va (back J) hN hi hl fun s9 J9 => ⟨_, _, J9, q⟩
  | cont =>
   obtain ⟨σ2, H2, J, q⟩ := h8
   exact Va (back J) hN hi hl fun s9 J9 => ⟨_, _, J9, q⟩
  | ret u =>
   obtain ⟨v, σ2, H2, J, rv, q⟩ := h8
   exact Va (back J) hN hi hl fun s9 J9 => ⟨v, _, _, J9, rv, q⟩
end
end L3
namespace L3
open PySem PySem.Spec PySem.Calls PyProof.Rows PySem.W L2 Builtin Builtin.ObjectAttr Builtin.Getset_descriptor
section
variable {prog : Program} {w : PySem.World} {A : Around} {E : Value → Shared → Prop} {h : Heap} {g : Array GenState} {d : Drawn} {t : Nat} {os : OsState} {K : Frag} {a C : Addr}
theorem zf {tp : Value} {R : Result → Shared → Prop} (X : K.In h) (LT : Looks (model prog w) h (typeOf (.ref a)) (.ref C)) (hm : mroIn K C (.type "object") = some true)
  (hq : R (.ok (.ret (.ref C))) ⟨h, g, d, t, os⟩) : codeAny (model prog w) A (.call (.builtin "getset_descriptor.__get__") ⟨[.builtin "object.__class__", .ref a, tp], []⟩) R ⟨h, g, d, t, os⟩ := by
 have L1 := looks_mroIn (M := model prog w) X hm
 refine codeAny_call_builtin KF.slot_gs.plain KF.entry_gs (KF.slot_gs.check _ _ _ _ _ _ _ _ KF.type_class (KF.args_gs _ _ _) ?_)
 unfold Builtin.«getset_descriptor.__get__» descrGet
 rw [dga_obj]
 refine wpAny_bind (wpAny_pure ?_)
 unfold descrGetter descrCheckInstance descrNameAndClass isInstance
 simp only [KF.owner_class]
 repeat lk
 refine ⟨Code.quiet_builtin _ (by decide +kernel), codeAny_builtin KF.entry_class ?_⟩
 unfold Builtin.«object.__class__» shownTypeOf
 repeat lk
 exact hq
theorem U6 (X : K.In h) (ha : findIn K (.ref C) "__class__" = some (some (.builtin "object.__class__"))) (hn : specialIn K (.builtin "object.__class__") "__get__" = some (some (.builtin "getset_descriptor.__get__")))
  (htk : takesIn K (.builtin "object.__class__") = some true) : Looks (model prog w) h (find (.ref a) (.ref C) "__class__") (.bind (.builtin "getset_descriptor.__get__") (.builtin "object.__class__")) := by
 have L1 := looks_findIn (M := model prog w) X ha
 have L2 : Looks (model prog w) h (getOf (some (.builtin "object.__class__"))) (some (.builtin "getset_descriptor.__get__")) := looks_specialIn X hn
 have L3 := looks_takesIn (M := model prog w) X htk
 refine L1.andThen (L2.andThen ?_)
 exact (show Looks (model prog w) h (dataDescriptor? (some (.builtin "object.__class__")) (some (.builtin "getset_descriptor.__get__"))) (some (.builtin "getset_descriptor.__get__", .builtin "object.__class__")) from L3.andThen .now).andThen (Looks.tag .now)
theorem UH {tk : Tok} {Q : Fin → Shared → Prop} (X : K.In h) (LT : Looks (model prog w) h (typeOf (.ref a)) (.ref C)) (hm : mroIn K C (.type "object") = some true)
  (ha : findIn K (.ref C) "__class__" = some (some (.builtin "object.__class__"))) (hn : specialIn K (.builtin "object.__class__") "__get__" = some (some (.builtin "getset_descriptor.__get__"))) (htk : takesIn K (.builtin "object.__class__") = some true)
  (hq : Q (.done (.ret (.ref C))) ⟨h, g, d, t, os⟩) : wpAny (model prog w) A (Builtin.«object.__getattribute__» ⟨[.ref a, .str "__class__" tk], []⟩) Q E ⟨h, g, d, t, os⟩ := by
 have LF := U6 (prog := prog) (w := w) (a := a) X ha hn htk
 refine wpAny_bind (wpAny_pure (wpAny_bind (wpAny_pure (wpAny_bind (LT.at (wpAny_bind (LF.at ?_)))))))
 show wpAny _ _ (holding [_] (call (.builtin "getset_descriptor.__get__") [.builtin "object.__class__", .ref a, .ref C]) >>= ret) _ _ _
 exact wpAny_bind (wpAny_holding (wpAny_call (zf X LT hm (wpAny_pure hq))))
theorem qV {tk : Tok} {R : Result → Shared → Prop} (X : K.In h) (LT : Looks (model prog w) h (typeOf (.ref a)) (.ref C)) (hm : mroIn K C (.type "object") = some true) (hbe : mroIn K C (.type "BaseException") = some true)
  (ha : findIn K (.ref C) "__class__" = some (some (.builtin "object.__class__"))) (hn : specialIn K (.builtin "object.__class__") "__get__" = some (some (.builtin "getset_descriptor.__get__"))) (htk : takesIn K (.builtin "object.__class__") = some true)
  (hq : R (.ok (.ret (.ref C))) ⟨h, g, d, t, os⟩) : codeAny (model prog w) A (.call (.builtin "BaseException.__getattribute__") ⟨[.ref a, .str "__class__" tk], []⟩) R ⟨h, g, d, t, os⟩ := by
 have hk : builtinKind "BaseException.__getattribute__" = some .slot := by decide +kernel
 have hsplit : splitId "BaseException.__getattribute__" = some ("BaseException", "__getattribute__") := by decide +kernel
 have LB : Looks (model prog w) h (isInstance (.ref a) (.type "BaseException")) true := LT.andThen (looks_mroIn (M := model prog w) X hbe)
 have hargs := F.args_bexc_ga (.ref a) (.str "__class__" tk)
 refine codeAny_call_builtin F.excAttr_ValueError.ga.plain F.entry_bexc_ga ?_
 simp only [checkBuiltinCall, hk, hsplit]
 refine wpAny_bind (LB.at ?_)
 refine wpAny_of_eq (a := ()) (by first | exact hargs | simpa using hargs) ?_
 exact UH X LT hm ha hn htk hq
theorem qK {Q : Option Value → Shared → Prop} (X : K.In h) (LT : Looks (model prog w) h (typeOf (.ref a)) (.ref C)) (hga : findIn K (.ref C) "__getattribute__" = some (some (.builtin "BaseException.__getattribute__")))
  (hgh : findIn K (.ref C) "__getattr__" = some none) (hm : mroIn K C (.type "object") = some true) (hbe : mroIn K C (.type "BaseException") = some true)
  (ha : findIn K (.ref C) "__class__" = some (some (.builtin "object.__class__"))) (hn : specialIn K (.builtin "object.__class__") "__get__" = some (some (.builtin "getset_descriptor.__get__"))) (htk : takesIn K (.builtin "object.__class__") = some true)
  (hq : Q (some (.ref C)) ⟨h, g, d, t + 1, os⟩) : wpAny (model prog w) A (getAttr? (.ref a) "__class__") Q E ⟨h, g, d, t, os⟩ := by
 have L1 := looks_findIn (M := model prog w) X hga
 have L2 := looks_findIn (M := model prog w) X hgh
 have hbs := F.excAttr_ValueError.ga.bind (.ref a)
 have hx2 : (Value.builtin "BaseException.__getattribute__" == Value.builtin "object.__getattribute__") = false := by decide +kernel
 unfold getAttr? getAttrBy? getAttrBy
 refine wpAny_bind (wpAny_mkText (wpAny_bind (wpAny_attempt (wpAny_holding (wpAny_bind (LT.at (wpAny_bind (L1.at ?_))))))))
 dsimp only
 rw [hx2, Bool.and_false, if_neg Bool.false_ne_true]
 unfold getAttrByItsOwn hookBefore
 rw [if_pos (show onTheHeap (.ref C) = true from rfl)]
 refine wpAny_bind (L2.at (wpAny_bind (wpAny_attempt (wpAny_holding ?_))))
 unfold callGetattribute boundAndCalled
 rw [Bool.false_and, if_neg Bool.false_ne_true, hbs]
 refine wpAny_bind (wpAny_pure ?_)
 refine wpAny_call (qV X LT hm hbe ha hn htk ?_)
 exact wpAny_pure (wpAny_pure hq)
structure ExcK (K : Frag) (C : Addr) : Prop where
 ga : findIn K (.ref C) "__getattribute__" = some (some (.builtin "BaseException.__getattribute__"))
 gh : findIn K (.ref C) "__getattr__" = some none
 ob : mroIn K C (.type "object") = some true
 be : mroIn K C (.type "BaseException") = some true
 cl : findIn K (.ref C) "__class__" = some (some (.builtin "object.__class__"))
 gt : specialIn K (.builtin "object.__class__") "__get__" = some (some (.builtin "getset_descriptor.__get__"))
 tk : takesIn K (.builtin "object.__class__") = some true
 hd : hasDictIn K C = true
theorem xc_type {M : Model} (x : XcAt a C h) : Looks M h (typeOf (.ref a)) (.ref C) := by
 obtain ⟨o, vs, e, c, dd⟩ := x
 exact c ▸ (Looks.ld e).andThen .now
theorem xE (B : ExcK K C) : KitX K (.ref a) (.ref C) (XcAt a C) where
 ty := fun _ _ _ x => xc_type x
 it := fun _ _ X _ => by
  obtain ⟨cdD, hcD, _⟩ := any_some B.hd
  unfold clsIn at hcD
  split at hcD
  ·rename_i c' d' cd' sl' ho
   intro A' Q' E' s' k q
   unfold isType loadHead
   exact wpAny_bind (wpAny_loadPart (k _ _ (X _ _ ho)) (wpAny_pure q))
  ·cases hcD
 ne := fun h tp dd its n sl X htp => by
  obtain ⟨cdD, hcD, _⟩ := any_some B.hd
  refine Bool.eq_false_iff.mpr fun q => ?_
  have e : C = tp := Value.ref.inj (beq_iff_eq.mp q)
  subst e
  unfold clsIn at hcD
  split at hcD
  ·rename_i c' d' cd' sl' ho
   have z := (X _ _ ho).symm.trans htp
   cases z
  ·cases hcD
 ca := fun {prog w A E Q s} X x k => by
  obtain ⟨hh, g, d, t, os⟩ := s
  exact qK X (xc_type x) B.ga B.gh B.ob B.be B.cl B.gt B.tk k
end
section
variable {X : Cx}
inductive rIsX_R (K : Frag) (c : V) (xs : List V) (H : Hp) (Q : VK) : Prop
 | mk (p : _) (C : _) (u : _) (b : _) (h0 : xs = [.ref p, c]) (h1 : H p = some (XcO p C)) (h2 : ExcK K C) (h3 : Z8 c u) (h4 : kitOne K (.ref C) u = some b) (h5 : Q (.bl b) H) : rIsX_R K c xs H Q
def rIsX (K : Frag) (c : V) : List V → Hp → VK → Prop := fun xs H Q => rIsX_R K c xs H Q
theorem relV_cls {c : V} {u v : Value} (h : Z8 c u) (h2 : Z8 c v) (hc : (∃ C, c = .ref C) ∨ ∃ n, c = .ty n) : u = v := by
 rcases hc with ⟨C, rfl⟩ | ⟨n, rfl⟩
 ·exact (show u = Value.ref C from h).trans (show v = Value.ref C from h2).symm
 ·exact (show u = Value.type n from h).trans (show v = Value.type n from h2).symm
theorem qH {K : Frag} (hK : X.K = K) {c : V} (hc : (∃ C, c = .ref C) ∨ ∃ n, c = .ty n) : Yy X (.builtin "isinstance") (rIsX K c) := by
 subst hK
 intro pins s σ H xs us Q I r h
 obtain ⟨p, C, u', b, rfl, hp, B, rc, hk, q⟩ := h
 obtain ⟨u, v, rfl, ru, rv⟩ := vals2 r
 cases (show u = Value.ref p from ru)
 obtain rfl := relV_cls rc rv hc
 have x : XcAt p C s.heap := (I.hok p _ hp).1
 exact kia_one (xE (a := p) B) I.kIn x hk (fun z => nomatch z) fun tk => ⟨.bl b, H, I.tok _, rfl, q⟩
theorem zQ : ∀ {cs : List V} {us ws : List Value}, (∀ c ∈ cs, ∃ C, c = V.ref C) → Zx cs us → Zx cs ws → us = ws
 | [], _, _, _, .nil, .nil => rfl
 | c :: r, _, _, h, .cons a b, .cons a' b' => by
  obtain ⟨C, rfl⟩ := h c (.head _)
  have e1 := (show _ = Value.ref C from a).trans (show _ = Value.ref C from a').symm
  rw [e1, zQ (fun c hc => h c (.tail _ hc)) b b']
inductive rIsXT_R (K : Frag) (cs : List V) (us : List Value) (xs : List V) (H : Hp) (Q : VK) : Prop
 | mk (p : _) (C : _) (t : _) (b : _) (h0 : xs = [.ref p, .ref t]) (h1 : H p = some (XcO p C)) (h2 : ExcK K C) (h3 : H t = some (.tup cs)) (h4 : kitAny K (.ref C) us = some b) (h5 : Q (.bl b) H) : rIsXT_R K cs us xs H Q
def rIsXT (K : Frag) (cs : List V) (us : List Value) : List V → Hp → VK → Prop := fun xs H Q => rIsXT_R K cs us xs H Q
theorem call_isXT {K : Frag} (hK : X.K = K) {cs : List V} {ws : List Value} (hc : ∀ c ∈ cs, ∃ C, c = V.ref C) (rw' : Zx cs ws) : Yy X (.builtin "isinstance") (rIsXT K cs ws) := by
 subst hK
 intro pins s σ H xs us Q I r h
 obtain ⟨p, C, t, b, rfl, hp, B, ht, hk, q⟩ := h
 obtain ⟨u, v, rfl, ru, rv⟩ := vals2 r
 cases (show u = Value.ref p from ru)
 cases (show v = Value.ref t from rv)
 have x : XcAt p C s.heap := (I.hok p _ hp).1
 obtain ⟨_, its, rt, ⟨oc, od, oda, osl⟩, e1, e2, n, e3⟩ := (show Y6 X.prog X.w H s.heap t (.tup cs) from I.hok t _ ht)
 dsimp only at e2 e3
 subst e2 e3
 obtain rfl := zQ hc rw' rt
 exact kia_tup (xE (a := p) B) I.kIn x e1 hk (fun z => nomatch z) fun tk => ⟨.bl b, H, I.tok _, rfl, q⟩
end
end L3
namespace L3
open PySem PySem.Spec PyProof.Rows L2
theorem pss_never {X : Cx} {sts : List Stmt} : PSs X sts (fun _ _ _ => False) := fun _ _ _ _ _ _ h => False.elim h
theorem fn_up {P : Program} {w : World} {K : PySem.W.Frag} {mg : Str → Option Value} {base : Heap} {CX : CXT} {k : Nat} {f : Addr} {fd : FuncData} {ps : List Str} {sp : Sp} (F : Yr P w K mg base CX0 k f fd ps sp) : Yr P w K mg base CX k f fd ps sp :=
 ⟨F.len, fun A outer s H args us vs Q E hr e0 hb r h => codeAny_mono (F.run A outer s H args us vs Q E hr e0 hb r h) fun res s' q => by
  cases res with
  | error e => exact False.elim q
  | ok fl => cases fl <;> exact q⟩
section
variable {P : Program} {w : World} {K : PySem.W.Frag} {mg : Str → Option Value} {base : Heap}
theorem V1 {x qual : Str} {st : Stmt} {f : Addr} {fd : FuncData} {N ps : List Str} {k : Nat} {sp : Sp} (F : Fun K x qual st f fd) (S : ZD N ps (Zb st)) (len : ∀ vs H Q E, sp vs H Q E → vs.length = ps.length)
  (hbody : ∀ (cdv : Value) (A : Around) (outer : List Env) (s : Shared) (H : Hp) (vs : List V) (Q : VK) (E : XK), Y0 k (A.deeper (envOfC qual (Zb st) s.heap.objs.size f cdv)) → sp vs H Q E →
   ∃ t, PSs (VL (CXe P w) P w K mg base N qual (Zb st) f cdv A outer s H E) (Zi st) t ∧ t { nx := fun _ H' => Q .non H', rt := Q } (V3 N vs) H) : Yr P w K mg base (CXe P w) (k + 1) f fd ps sp := by
 obtain ⟨oc, od, kV, doc, pm, an, cdv, ct, osl, rfl, lk, hcd⟩ := F.ex
 exact fn_of lk hcd S len fun A outer s H vs Q E hr hsp => hbody cdv A outer s H vs Q E hr hsp
end
section
variable {P : Program} {w : World} {K : PySem.W.Frag} {mg : Str → Option Value} {base : Heap} {N : List Str} {qual : Str} {scope : Scope} {f : Addr} {cd : Value} {A : Around} {outer : List Env} {s₀ : Shared} {H₀ : Hp} {E : XK}
theorem X3 : Raises (VL (CXe P w) P w K mg base N qual scope f cd A outer s₀ H₀ E) E := fun pins σ H s h' e C vs I hm hE => vd I hm hE
theorem W6 : Wr (CXe P w) (VL (CXe P w) P w K mg base N qual scope f cd A outer s₀ H₀ E) E := by
 intro pins σ H s e s' I hx
 obtain ⟨a, C, T, H', rfl, hos, hba, hun, hok, fly, hE⟩ := hx
 have I' : L2.Inv (VL (CXe P w) P w K mg base N qual scope f cd A outer s₀ H₀ E) pins σ H' s' := I.call' hos hun hok hba (fun b z => nomatch z)
 obtain ⟨n1, n2, n3, n4, nTa, oe, vs, oT, ts, a0, he, hc, hd, h0, hT1, hT, hdT, h3, h2⟩ := id fly
 show wpAny (model P w) (A.deeper (envOfC qual scope s₀.heap.objs.size f cd)) (leaving (envOfC qual scope s₀.heap.objs.size f cd) (.ref a)) _ _ _
 have hst := I'.stack
 have old : ∀ b, s.heap.get? b = none → s₀.heap.get? b = none := fun b q => by
  cases z : s₀.heap.get? b with
  | none => rfl
  | some o =>
   obtain ⟨o', z'⟩ := I.base.there b o z (fun y => nomatch y)
   rw [q] at z'
   cases z'
 have fl1 : FlV (PySem.W.hideAll s'.heap (a :: a :: T :: frs (envOfC qual scope s₀.heap.objs.size f cd :: outer))) (envOfC qual scope s₀.heap.objs.size f cd :: outer) a (.ref C) .none s'.heap :=
  ⟨xH, PySem.W.hideAll_none _ (.head _), PySem.W.funFrames_hide hst fun env hev b hbv => .tail _ (.tail _ (.tail _ (V2 hev hbv))),
   oe, vs, T, oT, ts, a0, he, hc, hd, h0, h2, hT1, PySem.W.hideAll_none _ (.tail _ (.tail _ (.head _))), nTa, hT, hdT, h3⟩
 refine vN (outer := outer) (L := s₀.heap.objs.size) I.ok.frames rfl fl1 fun h₂ fl₂ up => ?_
 obtain ⟨f1, f2, f3, f4⟩ := fl₂
 exact yG I' (old a n1) (old T n2) n3 n4 n3 (old a n1) f1 (slot_of hst (fun b o q _ => ⟨o.slots, q⟩) up) f4 hE
end
section
variable {X : Cx} {k : Nat} {f C : Addr} {fd : FuncData} {ps : List Str} {sp : Sp} {x : Str} {p pos : Pos} {e : Expr} {es : List Expr} {t : TA}
def tCallX (sp : Sp) (t : TA) : L2.St → Hp → VK → XK → Prop := fun σ H Q E => t σ H fun vs H1 => sp vs H1 Q E
theorem pex_call (F : Yr X.prog X.w X.K X.mg X.base (CXe X.prog X.w) k f fd ps sp) (hr : Y0 k X.A) (hg : Gl X x) (hm : X.mg x = some (.ref f)) (hk : PySem.W.keepIn X.K (.ref f) = true) (hb : Z6 X.K fd ps []) (ha : PA X.nox (e :: es) t)
  (hdb : (x == ("__debug__" : Str)) = false := by decide) (he : starEach (e :: es) X.env = (false, eval e X.env) :: starEach es X.env := by rfl) (hpl : (backTo pos (starEach es X.env)).any (·.1) = false := by rfl) :
  PEx X (.Call (.Name x p) (e :: es) [] pos) (tCallX sp t) := by
 intro pins s σ H Q E I h
 refine wpAny_Call_Name_kw (W7 I hg hm ?_ hdb)
 refine PySem.W.callWith_K (h₀ := X.base) I.ok.mod.kin hk (wpAny_mono (ha pos pins s σ H _ (I.wish _) h) (fun us s1 h1 => ?_) fun _ _ z => False.elim z) he hpl
 obtain ⟨vs, H1, I1', r, q⟩ := h1
 have I1 : L2.Inv X pins σ H1 s1 := I1'.unwish
 refine ⟨I1.kIn, ?_⟩
 have hl : (us ++ []).length = ps.length := by rw [List.append_nil, ← r.length]; exact F.len _ _ _ _ q
 have hbd := hb s1 us I1.kIn hl
 rw [List.append_nil] at hbd
 refine wpAny_call (codeAny_mono (F.run X.A X.stack s1 H1 ⟨us, []⟩ us vs Q E hr I1.env0 hbd r q) fun res s' hq => ?_)
 cases res with
 | error v =>
  obtain ⟨a, C', T, H', e1, e2, e3, e4, e5, e6, e7⟩ := hq
  exact ⟨σ, _, _, I1, a, C', T, H', e1, e2, e3, e4, e5, e6, rfl, e7⟩
 | ok fl =>
  cases fl with
  | ret u => exact I1.after hq
  | next => exact False.elim hq
  | brk => exact False.elim hq
  | cont => exact False.elim hq
end
section
variable {X : Cx} {i j1 j2 : Nat} {pos p1 p2 : Pos}
end
section
variable {X : Cx} {e : Expr} {es : List Expr} {v : V} {vs : List V} {t : TA}
end
def starB : Expr → Bool
 | .Starred _ _ => true
 | _ => false
theorem star_c {e : Expr} {es : List Expr} {env : Env} (h : starB e = false) : starEach (e :: es) env = (false, eval e env) :: starEach es env := by
 cases e <;> first | rfl | cases h
theorem YB {X : Cx} {e : Expr} {es : List Expr} {te : TE} {t : TA} (ha : PE X e te) (hr : PA X es t) (h : starB e = false := by rfl) : PA X (e :: es) (tCons te t) := Za ha hr (star_c h)
structure QA (X : Cx) (es : List Expr) (t : TA) : Prop where
 h : PA X es t
theorem Uu {h h' base : Heap} : ∀ {l : List Env}, (∀ b ∈ frs l, ∀ o, h.get? b = some o → ∃ o', h'.get? b = some o' ∧ o'.data = o.data) → h.FunFrames base l → h'.FunFrames base l
 | [], _, _ => trivial
 | env :: r, k, ⟨hk, ⟨L, o, hf, hn, ho, hd⟩, hr⟩ => by
  obtain ⟨o', e1, e2⟩ := k L (by unfold frs; rw [List.filterMap_cons, hf]; exact .head _) o ho
  refine ⟨hk, ⟨L, o', hf, hn, e1, fun vs => by rw [e2]; exact hd vs⟩, Uu (fun b hb => k b ?_) hr⟩
  unfold frs
  rw [List.filterMap_cons, hf]
  exact .tail _ hb
def UX (X : Cx) (E : XK) : Prop := ∀ (σ : L2.St) (H : Hp) (s : Shared) (a C T B : Addr) (h2 : Heap), L2.Inv X [] σ H s → FlyN X.s₀.heap H s.heap a C T → H B = none → X.s₀.heap.get? B = none → B ∉ frs X.stack →
 (∀ b o, s.heap.get? b = some o → b ≠ a → b ≠ T → b ≠ B → b ∉ frs X.stack → h2.get? b = some o) → (∀ b o, s.heap.get? b = some o → b ∈ frs X.stack → ∃ sl, h2.get? b = some { o with slots := sl }) →
 TrV h2 (PySem.W.hideAll s.heap (B :: a :: T :: frs X.stack)) a (.ref C) (rawInt X.env.locals) → E (.ref a) (some C) H → X.xe (.ref a) { s with heap := h2 }
section
variable {P : Program} {w : World} {K : PySem.W.Frag} {mg : Str → Option Value} {base : Heap} {N : List Str} {qual : Str} {scope : Scope} {f : Addr} {cd : Value} {A : Around} {outer : List Env} {s₀ : Shared} {H₀ : Hp} {E : XK}
theorem qs : UX (VL (CXe P w) P w K mg base N qual scope f cd A outer s₀ H₀ E) E := by
 intro σ H s a C T B h2 I' fly hB1 hB2 hB3 keep slot tr hE
 obtain ⟨n1, n2, n3, n4, nTa, oe, vs, oT, ts, a0, he, hc, hd, h0, hT1, hT, hdT, h3, h20⟩ := id fly
 show wpAny (model P w) (A.deeper (envOfC qual scope s₀.heap.objs.size f cd)) (leaving (envOfC qual scope s₀.heap.objs.size f cd) (.ref a)) _ _ _
 have hst := I'.stack
 have hid : ∀ b, b ∈ (B :: a :: T :: frs (envOfC qual scope s₀.heap.objs.size f cd :: outer)) → (PySem.W.hideAll s.heap (B :: a :: T :: frs (envOfC qual scope s₀.heap.objs.size f cd :: outer))).get? b = none := fun b hb => PySem.W.hideAll_none _ hb
 have fl1 : FlV (PySem.W.hideAll s.heap (B :: a :: T :: frs (envOfC qual scope s₀.heap.objs.size f cd :: outer))) (envOfC qual scope s₀.heap.objs.size f cd :: outer) a (.ref C) (rawInt s₀.heap.objs.size) h2 := by
  refine ⟨fun b o q => ?_, hid a (.tail _ (.head _)), ?_, tr⟩
  ·refine keep b o (PySem.W.of_hideAll _ q) (fun z => ?_) (fun z => ?_) (fun z => ?_) fun z => ?_
   ·rw [z, hid a (.tail _ (.head _))] at q; cases q
   ·rw [z, hid T (.tail _ (.tail _ (.head _)))] at q; cases q
   ·rw [z, hid B (.head _)] at q; cases q
   ·rw [hid b (.tail _ (.tail _ (.tail _ z)))] at q; cases q
  ·refine Uu (h := s.heap) (fun b hb o q => ?_) (PySem.W.funFrames_hide hst fun env hev b hbv => .tail _ (.tail _ (.tail _ (V2 hev hbv))))
   obtain ⟨sl, z⟩ := slot b o q hb
   exact ⟨_, z, rfl⟩
 unfold leaving
 have note : ∀ {Q : Unit → Shared → Prop} {E' : Value → Shared → Prop}, Q () { s with heap := h2 } → wpAny (model P w) (A.deeper (envOfC qual scope s₀.heap.objs.size f cd)) (noteFrame (.ref a) (envOfC qual scope s₀.heap.objs.size f cd)) Q E' { s with heap := h2 } := fun {Q E'} q => by
  obtain ⟨oe', vs', T', oT', ts', a0', he', hcls', hd', h0', h2', h1', hnT', hTe', hT', hdT', h3'⟩ := tr
  have hf : (envOfC qual scope s₀.heap.objs.size f cd).frame = some s₀.heap.objs.size := rfl
  unfold noteFrame
  simp only [hf]
  refine wpAny_bind (wpAny_field he' hd' h1' ?_)
  rw [if_pos (show (Value.ref T' != Value.none) = true from by simp)]
  have h3n : ts'[3]? = some (rawInt s₀.heap.objs.size) := h3'
  refine wpAny_bind (wpAny_field hT' hdT' h3n ?_)
  rw [if_pos (show ((rawInt s₀.heap.objs.size == rawInt s₀.heap.objs.size) = true) from by simp)]
  exact wpAny_pure q
 refine wpAny_bind (note ?_)
 refine landV (s := { s with heap := h2 }) fl1 fun h₂ fl₂ up => ?_
 obtain ⟨f1, f2, f3, f4⟩ := fl₂
 show CXe P w outer H₀ s₀ E (.ref a) { s with heap := h₂ }
 exact yG (s := s) I' n1 n2 n3 n4 hB1 hB2 f1 (fun b o q n => by
  obtain ⟨sl, q2⟩ := slot b o q n
  obtain ⟨_, o', ho', hdn⟩ := Heap.FunFrames.mem hst n
  rw [q] at ho'
  cases ho'
  obtain ⟨sl2, q3⟩ := up b _ q2 hdn
  exact ⟨sl2, q3⟩) f4 hE
end
abbrev xfX (X : Cx) (Nc : List Str) (scope : Scope) (E : XK) : List (Str × Addr) → Addr → Shared → Hp → List Addr → Value → Shared → Prop :=
 fun cl C s H fp e s' => ∃ σ1 H1 s1, L2.Inv (Xh X Nc scope cl C s H fp) [] σ1 H1 s1 ∧ CXe X.prog X.w X.stack H1 s1 E e s'
abbrev Wq (X : Cx) (Nc : List Str) (scope : Scope) (cl : List (Str × Addr)) (C : Addr) (s : Shared) (H : Hp) (fp : List Addr) (E : XK) : Cx := WY X Nc scope cl C s H fp (xfX X Nc scope E)
theorem qe {X : Cx} {pins : List (Addr × Obj)} {σ : L2.St} {H : Hp} {s : Shared} (I : L2.Inv X pins σ H s) : L2.Inv X [] σ H s :=
 I.pins_of fun p hp => nomatch hp
theorem X1 {X : Cx} {Nc : List Str} {scope : Scope} {cl : List (Str × Addr)} {C : Addr} {s : Shared} {H : Hp} {fp : List Addr} {E : XK} : Wr (CXe X.prog X.w) (Wq X Nc scope cl C s H fp E) E :=
 fun pins σ1 H1 s1 e s' I h => ⟨σ1, H1, s1, qe (I.wish _), h⟩
section
variable {X : Cx} {σ : L2.St} {H : Hp} {s : Shared} {Nc : List Str} {ix : List (Option Nat)} {scope : Scope}
theorem xL {h h' : Heap} {B : Addr} {m : Str → Option Value} (hn : h.Ns B m) (hu : h.UpToSlots h') : h'.Ns B m := by
 obtain ⟨o, es, ep, ho, hd, r⟩ := hn
 obtain ⟨sl, e⟩ := hu B o ho (fun vs z => by rw [hd] at z; cases z)
 exact ⟨{ o with slots := sl }, es, ep, e, hd, r⟩
theorem vF {E : XK} {fp : List Addr} {cl : List (Str × Addr)} {B : Addr} {use : Option (Value → Sem Unit)} {QV : Value → Shared → Prop} {acc : Value} (hM : UX X E) (hst : X.stack = X.env :: X.outer) (hfr : X.env.frame = some X.env.locals) (hex : X.ex = [])
  (I : L2.Inv X [] σ H s) (hf : ∀ b ∈ fp, WS X [] H b) (hB : s.heap.get? B = none) (e : Value) (s' : Shared)
  (hx : ∃ σ1 H1 s1, L2.Inv (Xh X Nc scope cl B s H fp) [] σ1 H1 s1 ∧ CXe X.prog X.w X.stack H1 s1 E e s') :
  notedBy (model X.prog X.w) X.A (compEnvC scope cl B X.env) (fun e s' => qR (model X.prog X.w) X.A X.xe use QV acc (compEnvC scope cl B X.env) (.error e) s') e s' := by
 obtain ⟨σ1, H1, s1, I1, a, C, T, H', rfl, hos, hba, hun, hok, fly, hE⟩ := hx
 have I2 : L2.Inv (Xh X Nc scope cl B s H fp) [] σ1 H' s' := I1.call' hos hun hok hba (fun b z => nomatch z)
 have IX : L2.Inv X [] σ H' s' := xv (h' := s'.heap) I hf hB I2 (.refl ..)
 obtain ⟨n1, n2, n3, n4, nTa, oe, vs, oT, ts, a0, he, hc, hd, h0, hT1, hT, hdT, h3, h20⟩ := id fly
 have old0 : ∀ b, s.heap.get? b = none → X.s₀.heap.get? b = none := fun b q => by
  cases z : X.s₀.heap.get? b with
  | none => rfl
  | some o =>
   obtain ⟨o', z'⟩ := I.base.there b o z (by rw [hex]; exact fun y => nomatch y)
   rw [q] at z'
   cases z'
 have old : ∀ b, s1.heap.get? b = none → X.s₀.heap.get? b = none := fun b q => by
  cases z : X.s₀.heap.get? b with
  | none => rfl
  | some o =>
   obtain ⟨o', z'⟩ := I.base.there b o z (by rw [hex]; exact fun y => nomatch y)
   have nf : b ∉ fp := fun y => by
    obtain ⟨_, _, _, g3, _⟩ := hf b y
    rcases g3 with g3 | g3
    ·rw [hex] at g3; cases g3
    ·exact absurd (Nat.lt_of_lt_of_le (Heap.lt_size z) g3) (Nat.lt_irrefl _)
   obtain ⟨o2, z2⟩ := I1.base.there b o' z' nf
   rw [q] at z2
   cases z2
 have fly0 : FlyN X.s₀.heap H' s'.heap a C T := ⟨old a n1, old T n2, n3, n4, nTa, oe, vs, oT, ts, a0, he, hc, hd, h0, hT1, hT, hdT, h3, h20⟩
 obtain ⟨m, hns, _⟩ := id I2.loc
 have hns : s'.heap.Ns B m := hns
 have hB1 : H' B = none := I2.free
 have hBs : B ∉ frs X.stack := fun z => by
  obtain ⟨_, o, ho, _⟩ := Heap.FunFrames.mem I.stack z
  rw [hB] at ho
  cases ho
 have hstk := IX.stack
 have fl1 : FlV (PySem.W.hideAll s'.heap (B :: a :: T :: frs X.stack)) (X.env :: X.outer) a (.ref C) .none s'.heap := by
  refine ⟨fun b o q => PySem.W.of_hideAll _ q, PySem.W.hideAll_none _ (.tail _ (.head _)), ?_, oe, vs, T, oT, ts, a0, he, hc, hd, h0, h20, hT1, PySem.W.hideAll_none _ (.tail _ (.tail _ (.head _))), nTa, hT, hdT, h3⟩
  rw [← hst]
  exact PySem.W.funFrames_hide hstk fun env hev b hbv => .tail _ (.tail _ (.tail _ (V2 hev hbv)))
 show wpAny (model X.prog X.w) X.A (noteFrame (.ref a) X.env) _ _ s'
 refine qk (by rw [← hst]; exact IX.ok.frames) hfr fl1 fun h' fl2 up => ?_
 refine ⟨m, xL hns up, fun g sb => ?_⟩
 obtain ⟨f1, f2, f3, oe', vs', T', oT', ts', a0', he', hcls', hd', h0', h2', h1', hnT', hTe', hT', hdT', h3'⟩ := fl2
 have dictB : ∀ o v, h'.get? B = some o → o.data = .fields v → False := fun o v q z => by
  obtain ⟨o2, es, ep, ho, hd2, r⟩ := xL hns up
  rw [q] at ho
  cases ho
  rw [hd2] at z
  cases z
 have aB : a ≠ B := fun z => dictB oe' vs' (z ▸ he') hd'
 have TB : T' ≠ B := fun z => dictB oT' ts' (z ▸ hT') hdT'
 have sbo : ∀ b, b ≠ B → g.get? b = h'.get? b := fun b hb => sb.2 b hb
 have he2 : g.get? a = some oe' := (sbo a aB).trans he'
 have hT2 : g.get? T' = some oT' := (sbo T' TB).trans hT'
 have hsz3 : 3 < ts'.size := (Array.getElem?_eq_some_iff.mp h3').1
 unfold PySem.passOn
 refine wpAny_bind (wpAny_field he2 hd' h1' ?_)
 rw [if_neg (show ¬ ((Value.ref T' == Value.none) = true) from by simp)]
 refine wpAny_bind ?_
 unfold setFlight
 refine wpAny_bind (wpAny_field he2 hd' h1' ?_)
 rw [if_pos (show (Value.ref T' != Value.none) = true from by simp)]
 refine wpAny_setField hT2 hdT' hsz3 (wpAny_throw ?_)
 have ef : (compEnvC scope cl B X.env).frame = some X.env.locals := hfr
 have other : ∀ b (v : Value), b ≠ T' → (g.update T' (Obj.mapFields (·.setIfInBounds 3 v))).get? b = g.get? b := fun b v hb => Heap.get?_update_other _ _ (Ne.symm hb)
 refine hM σ H' s' a C T B _ IX fly0 hB1 (old0 B hB) hBs (fun b o q z1 z2 z3 z4 => ?_) (fun b o q z => ?_) ?_ hE
 ·have qb : (PySem.W.hideAll s'.heap (B :: a :: T :: frs X.stack)).get? b = some o := PySem.W.hideAll_get _ q fun y => by
   rcases List.mem_cons.mp y with y | y
   ·exact z3 y
   ·rcases List.mem_cons.mp y with y | y
    ·exact z1 y
    ·rcases List.mem_cons.mp y with y | y
     ·exact z2 y
     ·exact z4 y
  have q1 : h'.get? b = some o := f1 b o qb
  have bT : b ≠ T' := fun y => by
   rw [y, hnT'] at qb
   cases qb
  exact (other b _ bT).trans ((sbo b z3).trans q1)
 ·obtain ⟨_, o', ho', hdn⟩ := Heap.FunFrames.mem hstk z
  rw [q] at ho'
  cases ho'
  obtain ⟨sl, q2⟩ := up b o q hdn
  have bT : b ≠ T' := fun y => by
   rw [y, hT'] at q2
   cases q2
   exact hdn ts' hdT'
  have bB : b ≠ B := fun y => hBs (y ▸ z)
  exact ⟨sl, (other b _ bT).trans ((sbo b bB).trans q2)⟩
 ·refine ⟨oe', vs', T', _, _, a0', (other a _ (Ne.symm hTe')).trans he2, hcls', hd', h0', h2', h1', hnT', hTe', Heap.get?_update_self _ hT2 (Obj.isFreed_of_fields (Obj.data_mapFields hdT' _)), Obj.data_mapFields hdT' _, ?_⟩
  rw [ef]
  simp [hsz3]
theorem comp_runX {pins : List (Addr × Obj)} {E : XK} {elt tg iter : Expr} {ifs : List Expr} {pos pos2 : Pos} {wi : TI} {g : TG} {tt : TT} {te : TE} {use : Option (Value → Sem Unit)} {QV : Value → Shared → Prop} {Q : VK}
  (hM : UX X E) (hst : X.stack = X.env :: X.outer) (hfr : X.env.frame = some X.env.locals) (hex : X.ex = []) (I : L2.Inv X pins σ H s) (h : zJ wi ix g tt te σ H Q)
  (fin : ∀ (D C : Addr) (H' : Hp) (s' : Shared) (m : Str → Option Value), L2.Inv X pins σ H' s' → WS X pins H' C → s'.heap.Ns C m → Q (.ref D) H' → compPost (model X.prog X.w) X.A X.xe use QV (.ref D) C (.ok .next) s')
  (ok : ZI X.env.scope X.N Nc ix scope) (hc : X.calm = true) (hi : PI X tg iter wi)
  (hg : ∀ cl C s H fp, PG (Wq X Nc scope cl C s H fp E) tg g) (ht : ∀ cl C s H fp, PTs (Wq X Nc scope cl C s H fp E) ifs tt) (he : ∀ cl C s H fp, PE (Wq X Nc scope cl C s H fp E) elt te)
  (hs : ∀ x, foldedSetIterable iter X.env x = pure x := by intro _; rfl) : wpAny (model X.prog X.w) X.A (comprehension (.ListComp elt [⟨tg, iter, ifs, 0⟩] scope pos) scope X.env pos2 (newList []) false (eval iter X.env) use) QV X.xe s :=
 zz (xf := xfX X Nc scope E) (fun B D s3 H3 fp I3 f3 hC e s' hx => vF hM hst hfr hex (qe I3) (fun b hb => by
  obtain ⟨g0, g1, g2, g3, g4, g5⟩ := f3 b hb
  exact ⟨g0, g1, g2, g3, g4, fun p hp => g5 p (by rw [List.append_nil] at hp; exact List.mem_append_left _ hp)⟩) hC e s' hx) I h fin ok hc hi hg ht he hs
theorem Uy {E : XK} {i : Nat} {x : Str} {elt tg iter : Expr} {ifs : List Expr} {pos spos pos' : Pos} {wi : TI} {g : TG} {tt : TT} {te : TE} (hM : UX X E) (hN : X.N.Nodup) (hi : X.N[i]? = some x) (hx : X.env.kindOf x = some .local)
  (ok : ZI X.env.scope X.N Nc ix scope) (hc : X.calm = true) (hit : PI X tg iter wi)
  (hg : ∀ cl C s H fp, PG (Wq X Nc scope cl C s H fp E) tg g) (ht : ∀ cl C s H fp, PTs (Wq X Nc scope cl C s H fp E) ifs tt) (he : ∀ cl C s H fp, PE (Wq X Nc scope cl C s H fp E) elt te)
  (hsw : swapsWith (.ListComp elt [⟨tg, iter, ifs, 0⟩] scope pos) (some (.Name x pos')) spos.line X.env = pure true := by rfl)
  (hs : ∀ x, foldedSetIterable iter X.env x = pure x := by intro _; rfl) (hst : X.stack = X.env :: X.outer := by rfl) (hfr : X.env.frame = some X.env.locals := by rfl) (hex : X.ex = [] := by rfl) :
  PS X (.Assign [.Name x pos'] (.ListComp elt [⟨tg, iter, ifs, 0⟩] scope pos) spos) (tAsg (zJ wi ix g tt te) (Wi i)) := by
 intro pins s σ H D I h
 rw [exec_Assign_Name_used _ _ _ _ hsw]
 refine wpAny_bind (wpAny_standAt (wpAny_bind ?_))
 show wpAny _ X.A (do let _ ← comprehension (.ListComp elt [⟨tg, iter, ifs, 0⟩] scope pos) scope X.env _ (newList []) false (eval iter X.env) (some (assign (.Name x pos') X.env))) _ _ s
 refine wpAny_bind (thn (comp_runX (use := some (assign (.Name x pos') X.env)) (QV := fun _ s' => SP X pins D .next s') hM hst hfr hex I h (fun L C H' s' m I' f hn qq => ?_) ok hc hit hg ht he hs) fun _ s' q => wpAny_pure (wpAny_pure q))
 obtain ⟨f0, f1, f2, f3, f4, f5⟩ := f
 refine wpAny_assign_Name (Uc (v := .ref L) I' hN hi (.inl hx) rfl (fun s2 I2 ⟨a, sb, ha⟩ => ?_) (.inr hx))
 have hCa : C ≠ a := by
  rintro rfl
  rcases ha with z | z
  ·exact f1 z
  ·exact f4 _ _ z rfl
 exact ⟨m, hn.sameBut sb hCa, fun h' sb' => ⟨_, H', I2.turned (t' := s2.toks) (fun b o hb e => (sb'.2 b hb).trans e) f0 f1 f3 f4 f5, qq⟩⟩
end
end L3
namespace L3
open PySem PySem.Spec PyProof.Rows
structure PBase (k : SortKind) (a₀ : Array Keyed) (st : SortSt) : Prop where
 perm : (arrOf st).Perm a₀
 kind : kindOf st = k
 failed : failedOf st = none
 pend : pendingOf st = #[]
section
variable {prog : Program} {w : World} {A : Around} {E : Value → Shared → Prop} {s : Shared} {a₀ : Array Keyed} {k : SortKind}
end
def EqAny (prog : Program) (w : World) (n : Nat) (s : Shared) (x y : Value) : Prop :=
 ∀ (A : Around) (E : Value → Shared → Prop) (Q : Bool → Shared → Prop), A.units + n < cLine → (∀ b, Q b s) → wpAny (model prog w) A (eqBool x y) Q E s
section
variable {prog : Program} {w : World} {n : Nat} {s : Shared} {A : Around} {E : Value → Shared → Prop}
end
end L3
namespace L3
open PySem PySem.SetTable
section
variable {t : SetTable} {hashAt : Nat → Int} {h : Int}
end
structure Lay (mask : Nat) (owner : Array (Option Nat)) (k : Nat) : Prop where
 size : owner.size = mask + 1
 perm : (owner.toList.filterMap id).Perm (List.range k)
end L3
namespace L3
open PySem PySem.Spec PyProof.Rows PySem.SetTable
section
variable {t : SetTable} {hashAt : Nat → Int} {h : Int}
end
section
variable {prog : Program} {w : World} {n : Nat} {s : Shared} {A : Around} {E : Value → Shared → Prop} {a : Addr} {o : Obj} {es : Array (Int × Value)} {ep : Nat} {t : SetTable} {x : Value} {h : Int} {Q : SetFound → Shared → Prop}
end
section
variable {prog : Program} {w : World} {n : Nat} {s : Shared} {A : Around} {E : Value → Shared → Prop} {a : Addr} {x : Value} {h : Int} {Q : Bool → Shared → Prop}
theorem zP {hp : Heap} {o : Obj} {es es' : Array (Int × Value)} {ep : Nat} {t t' : SetTable} (ho : hp.get? a = some o) (hd : o.data = .set es ep t) :
  (hp.update a (Obj.putSet es' t')).get? a = some { o with data := .set es' (ep + 1) t' } := by
 have := Heap.get?_update_self (Obj.putSet es' t') ho (by rw [putSet_of es' t' hd]; rfl)
 rw [putSet_of es' t' hd] at this; exact this
end
end L3
namespace L3
open PySem PySem.Spec PyProof.Rows
def HbAny (prog : Program) (w : World) (f : Nat) (s : Shared) (x : Value) : Prop := ∀ (A : Around) (E : Value → Shared → Prop) (Q : Bool → Shared → Prop), (∀ b, Q b s) → wpAny (model prog w) A (hashByValue f x) Q E s
def OaNo (prog : Program) (w : World) (f : Nat) (s : Shared) (x : Value) : Prop := ∀ (A : Around) (E : Value → Shared → Prop) (Q : Bool → Shared → Prop), Q false s → wpAny (model prog w) A (ofAClassStatement f x) Q E s
def Quiet (prog : Program) (w : World) (f : Nat) (s : Shared) (x : Value) : Prop := ∀ (A : Around) (E : Value → Shared → Prop) (Q : Bool → Shared → Prop), Q true s → wpAny (model prog w) A (eqIsQuiet f x) Q E s
section
variable {prog : Program} {w : World} {f : Nat} {s : Shared} {a : Addr} {xs : List Value} {x : Value}
end
theorem ZM : Slot "set_iterator" "__next__" "set_iterator.__next__" :=
 .of (owner := "set_iterator") (n := "__next__") (by rw [typeLookup_type, builtinLookup_eq_fast]; kernel_rfl) (by decide +kernel) (by decide +kernel) (by decide +kernel)
  (by first | exact .inl (by decide +kernel) | exact .inr (by decide +kernel)) (by rw [isSubtype_type]; kernel_rfl)
theorem Xn : Slot "set_iterator" "__iter__" "set_iterator.__iter__" :=
 .of (owner := "set_iterator") (n := "__iter__") (by rw [typeLookup_type, builtinLookup_eq_fast]; kernel_rfl) (by decide +kernel) (by decide +kernel) (by decide +kernel)
  (by first | exact .inl (by decide +kernel) | exact .inr (by decide +kernel)) (by rw [isSubtype_type]; kernel_rfl)
theorem Xd : entryFor table "set_iterator.__next__" = some Builtin.«set_iterator.__next__» := entryFor_of_tree (by kernel_rfl)
theorem Wj : entryFor table "set_iterator.__iter__" = some Builtin.«dict_keyiterator.__iter__» :=
 entryFor_alias (id' := "dict_keyiterator.__iter__") (by kernel_rfl) rfl (by decide +kernel) (by kernel_rfl)
theorem Uz : Manifest.owners.lookup (String.ofList ['r', 'o', 't', 'a', 'r', 'e', 't', 'i', '_', 't', 'e', 's'].reverse) = some Manifest.sig_set_iterator := by kernel_rfl
theorem Xm (a : Value) : argsOk "set_iterator.__next__" ⟨[a], []⟩ := by
 unfold argsOk; rw [signature?_of (id := "set_iterator.__next__") (n := ['_', '_', 't', 'x', 'e', 'n', '_', '_']) (o := ['r', 'o', 't', 'a', 'r', 'e', 't', 'i', '_', 't', 'e', 's']) (by kernel_rfl) Uz]; kernel_rfl
theorem WE (a : Value) : argsOk "set_iterator.__iter__" ⟨[a], []⟩ := by
 unfold argsOk; rw [signature?_of (id := "set_iterator.__iter__") (n := ['_', '_', 'r', 'e', 't', 'i', '_', '_']) (o := ['r', 'o', 't', 'a', 'r', 'e', 't', 'i', '_', 't', 'e', 's']) (by kernel_rfl) Uz]; kernel_rfl
theorem ql : entryFor table "set.__iter__" = some Builtin.«frozenset.__iter__» :=
 entryFor_alias (id' := "frozenset.__iter__") (by kernel_rfl) rfl (by decide +kernel) (by kernel_rfl)
theorem yH : typeLookup (.type "set") "__len__" = pure (some (.builtin "set.__len__")) := by rw [typeLookup_type, builtinLookup_eq_fast]; kernel_rfl
open SetTable in
theorem Us {xs : Array Nat} : ∀ (f hi : Nat), below.go xs 0 f 0 hi = 0
 | 0, hi => rfl
 | f + 1, hi => by
  unfold below.go
  split
  ·simp only
   rw [if_neg (by omega)]
   exact Us f _
  ·rfl
open SetTable in
def XF (h : Heap) (a : Addr) (es : Array (Int × Value)) (ep : Nat) (t : SetTable) : Prop := ∃ o, h.get? a = some o ∧ o.ExactSet ∧ o.data = .set es ep t
def Wg (h : Heap) (I a : Addr) (first : Value) (i : Nat) (n ep : Nat) : Prop := ∃ o t1 t2 t3, h.get? I = some o ∧ o.cls = .type "set_iterator" ∧ o.data = .fields #[first, .int i t1, .ref a, .int n t2, .int ep t3]
theorem Wg.typeIs {s : Shared} {I a : Addr} {f : Value} {i n ep : Nat} (x : Wg s.heap I a f i n ep) : s.TypeIs (.ref I) "set_iterator" := let ⟨o, _, _, _, ho, hc, _⟩ := x; ⟨o, ho, hc⟩
theorem Wg.at {h h' : Heap} {I a : Addr} {f : Value} {i n ep : Nat} (x : Wg h I a f i n ep) (e : ∀ o, h.get? I = some o → h'.get? I = some o) : Wg h' I a f i n ep := let ⟨o, t1, t2, t3, ho, r⟩ := x; ⟨o, t1, t2, t3, e _ ho, r⟩
theorem XF.at {h h' : Heap} {a : Addr} {es ep t} (x : XF h a es ep t) (e : ∀ o, h.get? a = some o → h'.get? a = some o) : XF h' a es ep t := let ⟨o, ho, r⟩ := x; ⟨o, e _ ho, r⟩
section
variable {prog : Program} {w : World} {A : Around} {E : Value → Shared → Prop} {s : Shared}
theorem XF.typeIs {a : Addr} {es ep t} (x : XF s.heap a es ep t) : s.TypeIs (.ref a) "set" := let ⟨o, ho, hc, _⟩ := x; ⟨o, ho, hc.1⟩
def Wh (byText : Bool) (pick es : Array (Int × Value)) (place : Array Nat) (slot given : Nat) : Option (Value × Nat) :=
 if byText = true then (pick[given]?).map fun e => (e.2, slot) else
  match es[SetTable.below place slot]?, place[SetTable.below place slot]? with
  | some (_, x), some j => some (x, j + 1)
  | _, _ => none
theorem qo {a : Addr} {es ep t} {slot given : Nat} {Q : Option (Value × Nat) → Shared → Prop} (hS : XF s.heap a es ep t) (hf : t.fits es.size = true)
  (hw : w.params.followText "set-order" = false → t.led = true ∧ (t.plain = true ∨ es.size ≤ 1)) (h : Q (Wh (w.params.followText "set-order") (pickOrder (w.params.setOrder a ep) es) es t.place slot given) s) :
  wpAny (model prog w) A (setNext a slot given ep) Q E s := by
 obtain ⟨o, ho, _, hd⟩ := hS
 unfold setNext
 refine wpAny_bind (wpAny_setState_of ho hd hf ?_)
 dsimp only
 have by_ : ∀ {Q : Bool → Shared → Prop}, Q (w.params.followText "set-order") s → wpAny (model prog w) A setsByText Q E s := fun {Q} hq => by
  unfold setsByText
  exact wpAny_bind (wpAny_askSetting (wpAny_pure hq))
 refine wpAny_bind (by_ ?_)
 cases e : w.params.followText "set-order"
 ·simp only [Bool.false_eq_true, if_false]
  obtain ⟨h1, h2⟩ := hw e
  rw [e] at h
  show wpAny _ _ (if (!t.plain && decide (es.size > 1)) = true then _ else (do (if (!t.led && !es.isEmpty) = true then unsupported "set:maker-not-led" else pure PUnit.unit); pure _)) Q E s
  have c : (!t.plain && decide (es.size > 1)) = false := by
   rcases h2 with h2 | h2
   ·rw [h2]; rfl
   ·rw [decide_eq_false (by omega)]; simp
  rw [c, h1]
  simp only [Bool.false_eq_true, if_false, Bool.not_true, Bool.false_and]
  refine wpAny_bind (wpAny_pure (wpAny_pure ?_))
  exact h
 ·simp only [if_true]
  rw [e] at h
  simp only [bne_self_eq_false, Bool.false_eq_true, if_false]
  unfold setWalk
  refine wpAny_bind (wpAny_bind (wpAny_setState_of ho hd hf ?_))
  dsimp only
  refine wpAny_bind (by_ ?_)
  rw [e]
  simp only [if_true]
  refine wpAny_bind (wpAny_askSetting (wpAny_pure (wpAny_pure ?_)))
  exact h
theorem next_item {I a : Addr} {slot i : Nat} {tk : Tok} {es ep t} {x : Value} {sl' : Nat} {Q : Option Value → Shared → Prop} (hit : Wg s.heap I a (.int slot tk) i es.size ep) (hS : XF s.heap a es ep t) (hf : t.fits es.size = true)
  (hw : w.params.followText "set-order" = false → t.led = true ∧ (t.plain = true ∨ es.size ≤ 1)) (hx : Wh (w.params.followText "set-order") (pickOrder (w.params.setOrder a ep) es) es t.place slot i = some (x, sl'))
  (hQ : ∀ h' tk', Wg h' I a (.int sl' tk') (i + 1) es.size ep → Heap.SameBut I s.heap h' → Q (some x) { s with heap := h' }) : wpAny (model prog w) A (pyNext (.ref I)) Q E s := by
 obtain ⟨o, t1, t2, t3, ho, hc, hd⟩ := id hit
 obtain ⟨os, hos, hcs, hds⟩ := id hS
 unfold pyNext
 refine wpAny_bind (wpAny_attempt (wpAny_callSpecial?_slot (name := Str.ofString "__next__") hit.typeIs ZM
  (wpAny_call_entry ZM hit.typeIs Xd ?_ (Xm _))))
 show wpAny _ _ (fieldsOf (.ref I) >>= _) _ _ s
 refine wpAny_bind (wpAny_fieldsOf ho hd ?_)
 dsimp only
 refine wpAny_bind ?_
 unfold setEntries
 refine wpAny_bind (wpAny_setState_of hos hds hf (wpAny_pure ?_))
 dsimp only
 rw [if_neg (by simp)]
 refine wpAny_bind (qo hS hf hw ?_)
 have e1 : ((slot : Int)).toNat = slot := Int.toNat_natCast _
 have e2 : ((i : Int)).toNat = i := Int.toNat_natCast _
 have e3 : ((ep : Int)).toNat = ep := Int.toNat_natCast _
 rw [e1, e2, e3, hx]
 dsimp only
 refine wpAny_bind (wpAny_setField ho hd (by simp) ?_)
 have ho1 := Heap.get?_update_self (Obj.mapFields (·.setIfInBounds 0 (rawInt (sl' : Int)))) ho (Obj.isFreed_of_fields (Obj.data_mapFields hd _))
 have hd1 := Obj.data_mapFields hd (·.setIfInBounds 0 (rawInt (sl' : Int)))
 refine wpAny_bind (wpAny_setField ho1 hd1 (by simp) ?_)
 have ho2 := Heap.get?_update_self (Obj.mapFields (·.setIfInBounds 1 (rawInt ((i : Int) + 1)))) ho1 (Obj.isFreed_of_fields (Obj.data_mapFields hd1 _))
 have hd2 := Obj.data_mapFields hd1 (·.setIfInBounds 1 (rawInt ((i : Int) + 1)))
 refine wpAny_pure ⟨_, rfl, wpAny_pure (hQ _ 0 ⟨_, 0, t2, t3, ho2, ((Obj.cls_mapFields ..).trans (Obj.cls_mapFields ..)).trans hc, by rw [hd2]; simp [rawInt]⟩ ?_)⟩
 exact ⟨(Heap.size_update _ _ _).trans (Heap.size_update _ _ _), fun b hb => (Heap.get?_update_other _ _ (Ne.symm hb)).trans (Heap.get?_update_other _ _ (Ne.symm hb))⟩
theorem next_end {I a : Addr} {slot i : Nat} {tk : Tok} {es ep t} {Q : Option Value → Shared → Prop} (hh : A.handled = none) (hit : Wg s.heap I a (.int slot tk) i es.size ep) (hS : XF s.heap a es ep t) (hf : t.fits es.size = true)
  (hw : w.params.followText "set-order" = false → t.led = true ∧ (t.plain = true ∨ es.size ≤ 1)) (hx : Wh (w.params.followText "set-order") (pickOrder (w.params.setOrder a ep) es) es t.place slot i = none)
  (hQ : ∀ h', Heap.ExtBut I s.heap h' → Q none { s with heap := h' }) : wpAny (model prog w) A (pyNext (.ref I)) Q E s := by
 obtain ⟨o, t1, t2, t3, ho, hc, hd⟩ := id hit
 obtain ⟨os, hos, hcs, hds⟩ := id hS
 unfold pyNext
 refine wpAny_bind (wpAny_attempt (wpAny_callSpecial?_slot (name := Str.ofString "__next__") hit.typeIs ZM
  (wpAny_call_entry ZM hit.typeIs Xd ?_ (Xm _))))
 show wpAny _ _ (fieldsOf (.ref I) >>= _) _ _ s
 refine wpAny_bind (wpAny_fieldsOf ho hd ?_)
 dsimp only
 refine wpAny_bind ?_
 unfold setEntries
 refine wpAny_bind (wpAny_setState_of hos hds hf (wpAny_pure ?_))
 dsimp only
 rw [if_neg (by simp)]
 refine wpAny_bind (qo hS hf hw ?_)
 have e1 : ((slot : Int)).toNat = slot := Int.toNat_natCast _
 have e2 : ((i : Int)).toNat = i := Int.toNat_natCast _
 have e3 : ((ep : Int)).toNat = ep := Int.toNat_natCast _
 rw [e1, e2, e3, hx]
 dsimp only
 refine wpAny_bind (wpAny_setField ho hd (by simp) ?_)
 refine wpAny_bind ?_
 simp only [newExc, newTuple]
 refine wpAny_bind (wpAny_newObj_type ?_ (by size_fits))
 refine wpAny_bind (m := firstArgMember _ _) (wpAny_of_eq (a := Value.none) (by first | rfl | (simp only [firstArgMember]; rfl)) ?_)
 refine wpAny_newObj_type ?_ (by size_fits)
 simp only [raiseNew]
 refine wpAny_bind (wpAny_handled ?_)
 rw [show A.in1.handled = none from hh]
 refine wpAny_bind (wpAny_pure (wpAny_throw ?_))
 refine wpAny_bind (wpAny_isInstance (T := "StopIteration") (b := true) ⟨_, Heap.get?_push_size _ rfl, rfl⟩ isSubtype_stop ?_)
 exact wpAny_pure (hQ _ (((Heap.SameBut.update ..).extBut.push _).push _))
def yV (h : Heap) (T : Addr) (ps : List Nat) : Prop := ∃ o n, h.get? T = some o ∧ o.data = .seq ((ps.map fun (i : Nat) => rawInt (i : Int)).toArray) n ∧ o.cls = .type "tuple"
theorem va {I a T : Addr} {i p : Nat} {es ep t} {ps : List Nat} {e : Int × Value} {Q : Option Value → Shared → Prop} (hit : Wg s.heap I a (.ref T) i es.size ep) (hS : XF s.heap a es ep t) (hf : t.fits es.size = true)
  (hT : yV s.heap T ps) (hp : ps[i]? = some p) (he : es[p]? = some e)
  (hQ : ∀ h', Wg h' I a (.ref T) (i + 1) es.size ep → Heap.SameBut I s.heap h' → Q (some e.2) { s with heap := h' }) : wpAny (model prog w) A (pyNext (.ref I)) Q E s := by
 obtain ⟨o, t1, t2, t3, ho, hc, hd⟩ := id hit
 obtain ⟨os, hos, hcs, hds⟩ := id hS
 obtain ⟨oT, nT, hoT, hdT, _⟩ := hT
 unfold pyNext
 refine wpAny_bind (wpAny_attempt (wpAny_callSpecial?_slot (name := Str.ofString "__next__") hit.typeIs ZM
  (wpAny_call_entry ZM hit.typeIs Xd ?_ (Xm _))))
 show wpAny _ _ (fieldsOf (.ref I) >>= _) _ _ s
 refine wpAny_bind (wpAny_fieldsOf ho hd ?_)
 dsimp only
 refine wpAny_bind ?_
 unfold setEntries
 refine wpAny_bind (wpAny_setState_of hos hds hf (wpAny_pure ?_))
 dsimp only
 rw [if_neg (by simp)]
 refine wpAny_bind (wpAny_seqItems hoT hdT ?_)
 dsimp only
 have e2 : ((i : Int)).toNat = i := Int.toNat_natCast _
 have hpi : ((ps.map fun (i : Nat) => rawInt (i : Int)).toArray)[i]? = some (rawInt (p : Int)) := by simp [hp]
 rw [e2, hpi]
 show wpAny _ _ (setNextDrawn a ((p : Int)).toNat ((ep : Int)).toNat >>= _) _ _ s
 rw [Int.toNat_natCast, Int.toNat_natCast]
 refine wpAny_bind ?_
 unfold setNextDrawn
 refine wpAny_bind (wpAny_setState_of hos hds hf ?_)
 dsimp only
 simp only [bne_self_eq_false, Bool.false_eq_true, if_false, he]
 refine wpAny_pure ?_
 refine wpAny_bind (wpAny_setField ho hd (by simp) ?_)
 have ho2 := Heap.get?_update_self (Obj.mapFields (·.setIfInBounds 1 (rawInt ((i : Int) + 1)))) ho (Obj.isFreed_of_fields (Obj.data_mapFields hd _))
 have hd2 := Obj.data_mapFields hd (·.setIfInBounds 1 (rawInt ((i : Int) + 1)))
 refine wpAny_pure ⟨_, rfl, wpAny_pure (hQ _ ⟨_, 0, t2, t3, ho2, (Obj.cls_mapFields ..).trans hc, by rw [hd2]; simp [rawInt]⟩ ?_)⟩
 exact ⟨(Heap.size_update _ _ _), fun b hb => (Heap.get?_update_other _ _ (Ne.symm hb))⟩
theorem nextD_end {I a T : Addr} {i : Nat} {es ep t} {ps : List Nat} {Q : Option Value → Shared → Prop} (hh : A.handled = none) (hit : Wg s.heap I a (.ref T) i es.size ep) (hS : XF s.heap a es ep t) (hf : t.fits es.size = true)
  (hT : yV s.heap T ps) (hp : ps[i]? = none)
  (hQ : ∀ h', Heap.ExtBut I s.heap h' → Q none { s with heap := h' }) : wpAny (model prog w) A (pyNext (.ref I)) Q E s := by
 obtain ⟨o, t1, t2, t3, ho, hc, hd⟩ := id hit
 obtain ⟨os, hos, hcs, hds⟩ := id hS
 obtain ⟨oT, nT, hoT, hdT, _⟩ := hT
 unfold pyNext
 refine wpAny_bind (wpAny_attempt (wpAny_callSpecial?_slot (name := Str.ofString "__next__") hit.typeIs ZM
  (wpAny_call_entry ZM hit.typeIs Xd ?_ (Xm _))))
 show wpAny _ _ (fieldsOf (.ref I) >>= _) _ _ s
 refine wpAny_bind (wpAny_fieldsOf ho hd ?_)
 dsimp only
 refine wpAny_bind ?_
 unfold setEntries
 refine wpAny_bind (wpAny_setState_of hos hds hf (wpAny_pure ?_))
 dsimp only
 rw [if_neg (by simp)]
 refine wpAny_bind (wpAny_seqItems hoT hdT ?_)
 dsimp only
 have e2 : ((i : Int)).toNat = i := Int.toNat_natCast _
 have hpi : ((ps.map fun (i : Nat) => rawInt (i : Int)).toArray)[i]? = none := by simpa using hp
 rw [e2, hpi]
 dsimp only
 refine wpAny_bind (wpAny_setField ho hd (by simp) ?_)
 have ho1 := Heap.get?_update_self (Obj.mapFields (·.setIfInBounds 0 (rawInt 0))) ho (Obj.isFreed_of_fields (Obj.data_mapFields hd _))
 have hd1 := Obj.data_mapFields hd (·.setIfInBounds 0 (rawInt 0))
 refine wpAny_bind (wpAny_setField ho1 hd1 (by simp) ?_)
 refine wpAny_bind ?_
 simp only [newExc, newTuple]
 refine wpAny_bind (wpAny_newObj_type ?_ (by size_fits))
 refine wpAny_bind (m := firstArgMember _ _) (wpAny_of_eq (a := Value.none) (by first | rfl | (simp only [firstArgMember]; rfl)) ?_)
 refine wpAny_newObj_type ?_ (by size_fits)
 simp only [raiseNew]
 refine wpAny_bind (wpAny_handled ?_)
 rw [show A.in1.handled = none from hh]
 refine wpAny_bind (wpAny_pure (wpAny_throw ?_))
 refine wpAny_bind (wpAny_isInstance (T := "StopIteration") (b := true) ⟨_, Heap.get?_push_size _ rfl, rfl⟩ isSubtype_stop ?_)
 have sb : Heap.SameBut I s.heap ((s.heap.update I (Obj.mapFields (·.setIfInBounds 0 (rawInt 0)))).update I (Obj.mapFields (·.setIfInBounds 2 .none))) :=
  ⟨(Heap.size_update _ _ _).trans (Heap.size_update _ _ _), fun b hb => (Heap.get?_update_other _ _ (Ne.symm hb)).trans (Heap.get?_update_other _ _ (Ne.symm hb))⟩
 exact wpAny_pure (hQ _ ((sb.extBut.push _).push _))
end
section
variable {prog : Program} {w : World} {A : Around} {E : Value → Shared → Prop} {s : Shared}
theorem xU {src : Source} {n : Nat} {Q : Nat → Shared → Prop} (hn : n ≠ 0) (h : ∀ i dr, i < n → Q i { s with drawn := dr }) : wpAny (model prog w) A (choose src n) Q E s :=
 fun Γ p _ => ⟨hn, h _ _ (Nat.mod_lt _ (Nat.pos_of_ne_zero hn))⟩
theorem vJ (hh : A.handled = none) {I a : Addr} (hne : a ≠ I) {es : Array (Int × Value)} {ep : Nat} {t : SetTable} (hf : t.fits es.size = true)
  (hw : w.params.followText "set-order" = false → t.led = true ∧ (t.plain = true ∨ es.size ≤ 1)) {seq : List Value} {sls : Nat → Nat}
  (h1 : ∀ i x, seq[i]? = some x → Wh (w.params.followText "set-order") (pickOrder (w.params.setOrder a ep) es) es t.place (sls i) i = some (x, sls (i + 1)))
  (h2 : Wh (w.params.followText "set-order") (pickOrder (w.params.setOrder a ep) es) es t.place (sls seq.length) seq.length = none) :
  Walks prog w A I [I, a] [I] seq.length (fun i v => seq[i]? = some v) (fun i h => (∃ tk, Wg h I a (.int (sls i) tk) i es.size ep) ∧ XF h a es ep t) where
 sub := fun b hb => by simp at hb; simp [hb]
 frame := fun i h h' st hk => ⟨let ⟨tk, x⟩ := st.1; ⟨tk, x.at fun o e => hk I (by simp) o e⟩, st.2.at fun o e => hk a (by simp) o e⟩
 item := fun i s Q E hi st hQ => by
  obtain ⟨⟨tk, hit⟩, hS⟩ := st
  have e : seq[i]? = some seq[i] := List.getElem?_eq_getElem hi
  refine next_item hit hS hf hw (h1 i _ e) fun h' tk' hit' sb => ?_
  exact hQ _ h' s.toks e ⟨⟨tk', hit'⟩, hS.at fun o z => by rw [sb.2 a hne]; exact z⟩ fun b o hb z => by rw [sb.2 b (fun h => hb (by simp [h]))]; exact z
 done := fun s Q E st hQ => by
  obtain ⟨⟨tk, hit⟩, hS⟩ := st
  exact next_end hh hit hS hf hw h2 fun h' x => hQ h' s.toks fun b o hb z => x b o (fun h => hb (by simp [h])) z
 self := fun i s Q E st hQ => by
  obtain ⟨⟨tk, hit⟩, hS⟩ := st
  refine wpAny_pyIter_slot hit.typeIs Xn (wpAny_call_entry Xn hit.typeIs Wj ?_ (WE _))
  show wpAny _ _ (ret (.ref I)) _ _ s
  exact wpAny_pure ⟨_, rfl, "set_iterator", _, hit.typeIs, ZM.lookup, hQ⟩
theorem xP (hh : A.handled = none) {I a T : Addr} (hne : a ≠ I) (hnT : T ≠ I) {es : Array (Int × Value)} {ep : Nat} {t : SetTable} (hf : t.fits es.size = true) {ps : List Nat} {seq : List Value} (hl : seq.length = ps.length)
  (h1 : ∀ (i : Nat) x, seq[i]? = some x → ∃ p e, ps[i]? = some p ∧ es[p]? = some e ∧ x = e.2) :
  Walks prog w A I [I, a, T] [I] seq.length (fun i v => seq[i]? = some v) (fun i h => Wg h I a (.ref T) i es.size ep ∧ XF h a es ep t ∧ yV h T ps) where
 sub := fun b hb => by simp at hb; simp [hb]
 frame := fun i h h' st hk => ⟨st.1.at fun o e => hk I (by simp) o e, st.2.1.at fun o e => hk a (by simp) o e, let ⟨o, n, e, r⟩ := st.2.2; ⟨o, n, hk T (by simp) o e, r⟩⟩
 item := fun i s Q E hi st hQ => by
  obtain ⟨hit, hS, hT⟩ := st
  have e : seq[i]? = some seq[i] := List.getElem?_eq_getElem hi
  obtain ⟨p, en, e1, e2, e3⟩ := h1 i _ e
  refine va hit hS hf hT e1 e2 fun h' hit' sb => ?_
  rw [← e3]
  refine hQ _ h' s.toks e ⟨hit', hS.at fun o z => by rw [sb.2 a hne]; exact z, let ⟨o, n, z, r⟩ := hT; ⟨o, n, by rw [sb.2 T hnT]; exact z, r⟩⟩ fun b o hb z => by rw [sb.2 b (fun h => hb (by simp [h]))]; exact z
 done := fun s Q E st hQ => by
  obtain ⟨hit, hS, hT⟩ := st
  exact nextD_end hh hit hS hf hT (List.getElem?_eq_none_iff.mpr (by omega)) fun h' x => hQ h' s.toks fun b o hb z => x b o (fun h => hb (by simp [h])) z
 self := fun i s Q E st hQ => by
  obtain ⟨hit, hS, hT⟩ := st
  refine wpAny_pyIter_slot hit.typeIs Xn (wpAny_call_entry Xn hit.typeIs Wj ?_ (WE _))
  show wpAny _ _ (ret (.ref I)) _ _ s
  exact wpAny_pure ⟨_, rfl, "set_iterator", _, hit.typeIs, ZM.lookup, hQ⟩
end
structure Elts (prog : Program) (w : World) (n : Nat) (vs : List Value) (s : Shared) : Prop where
 ref : ∀ v ∈ vs, ∃ b, v = .ref b
 hash : ∀ v ∈ vs, ∀ (A : Around) (E : Value → Shared → Prop) (Q : Int → Shared → Prop), A.units + n < cLine → (∀ i tk, Q i { s with toks := tk }) → wpAny (model prog w) A (pyHash v) Q E s
 eq : ∀ u ∈ vs, ∀ v ∈ vs, EqAny prog w n s u v
 quiet : ∀ v ∈ vs, Quiet prog w 8 s v
 oa : ∀ v ∈ vs, OaNo prog w 8 s v
 hb : ∀ v ∈ vs, HbAny prog w 8 s v
theorem Ur {h : Heap} {b : Addr} (hb : h.objs.size ≤ b) : h.get? b = none := by
 cases e : h.get? b with
 | none => rfl
 | some o => exact absurd (Heap.lt_size e) (Nat.not_lt.mpr hb)
theorem vD (t : SetTable) (es : Array (Int × Value)) (h : Int) (x : Value) : (layNew t es h x).2.1.led = t.led := by
 unfold layNew
 split
 ·dsimp only
  unfold SetTable.orStandIn
  split <;> rfl
 ·rfl
theorem yd (t : SetTable) (es : Array (Int × Value)) (n : Nat) : (relayAll t es n).2.1.led = t.led := by
 unfold relayAll
 split
 ·rename_i t' order he
  dsimp only
  split
  ·unfold SetTable.relaid SetTable.laid at he
   cases hc : SetTable.layClean (SetTable.sizeAbove n - 1) (es.map (·.1)) with
   | none => rw [hc] at he; cases he
   | some ow => rw [hc] at he; cases he; rfl
  ·rfl
 ·rfl
section
variable {prog : Program} {w : World} {A : Around} {E : Value → Shared → Prop} {R : Result → Shared → Prop} {n : Nat} {h0 : Heap} {s : Shared}
theorem set_loopG {SI : Heap → List Value → Prop} {I ax S : Addr} {items : List Value} (hh : A.handled = none) (hne : ax ≠ I) (hSI : S ≠ I) (hSa : S ≠ ax) (h0S : h0.get? S = none) (h0I : h0.get? I = none)
  (hkeep : ∀ {h h' vs}, SI h vs → (∀ o, h.get? S = some o → h'.get? S = some o) → SI h' vs)
  (hadd : ∀ (s : Shared) (i : Nat) (v : Value), items[i]? = some v → (∀ b o, h0.get? b = some o → s.heap.get? b = some o) → SI s.heap (items.take i) →
   ∀ (E : Value → Shared → Prop) (Q : Bool → Shared → Prop), (∀ h' tk b, Heap.SameBut S s.heap h' → SI h' (items.take i ++ [v]) → Q b { s with heap := h', toks := tk }) → wpAny (model prog w) A.in1 (setAdd S v) Q E s) :
  ∀ (c i : Nat) (s : Shared), items.length - i = c → i ≤ items.length → s.heap.IsListIter I ax i ∧ s.heap.IsList ax items.toArray → (∀ b o, h0.get? b = some o → s.heap.get? b = some o) →
   SI s.heap (items.take i) →
   (∀ (h' : Heap) (tk : Nat), SI h' items → (∀ b o, b ≠ S → b ≠ I → s.heap.get? b = some o → h'.get? b = some o) → R (.ok (.ret .none)) { s with heap := h', toks := tk }) →
   codeAny (model prog w) A (.builtin "set.update.loop" ⟨[.ref S, .ref I], []⟩) R s := by
 have W := Walks.list (prog := prog) (w := w) (A := A.in1) (by simpa using hh) I ax hne items.toArray
 have zs : items.toArray.size = items.length := by simp
 intro c
 induction c with
 | zero =>
  intro i s hc hi st hg hS hR
  have e : i = items.toArray.size := by omega
  subst e
  refine codeAny_builtin PyProof.Rows.F.entry_set_update_loop ?_
  rw [Around.under_plainId PyProof.Rows.F.plain_set_update_loop _]
  show wpAny _ A.in1 (pyNext (.ref I) >>= _) _ _ s
  refine wpAny_bind (W.done s _ _ st fun h' tk hk => ?_)
  show wpAny _ A.in1 (ret Value.none) _ _ _
  have et : items.take items.toArray.size = items := by rw [zs]; exact List.take_length
  rw [et] at hS
  exact wpAny_pure (hR h' tk (hkeep hS fun o z => hk S o (by simpa using hSI) z) fun b o _ hbI z => hk b o (by simpa using hbI) z)
 | succ c ih =>
  intro i s hc hi st hg hS hR
  have hlt : i < items.toArray.size := by omega
  refine codeAny_builtin PyProof.Rows.F.entry_set_update_loop ?_
  rw [Around.under_plainId PyProof.Rows.F.plain_set_update_loop _]
  show wpAny _ A.in1 (pyNext (.ref I) >>= _) _ _ s
  refine wpAny_bind (W.item i s _ _ hlt st fun v h1 tk hP st1 hk => ?_)
  have hvi : items[i]? = some v := by simpa using hP
  have hS1 : SI h1 (items.take i) := hkeep hS fun o z => hk S o (by simpa using hSI) z
  have hg1 : ∀ b o, h0.get? b = some o → h1.get? b = some o := fun b o z => hk b o (by simp; rintro rfl; rw [h0I] at z; cases z) (hg b o z)
  show wpAny _ A.in1 (holding [v] (setAdd S v) >>= _) _ _ { s with heap := h1, toks := tk }
  refine wpAny_bind (wpAny_holding ?_)
  refine hadd { s with heap := h1, toks := tk } i v hvi hg1 hS1 _ _ fun h2 tk2 bb hsb hS2 => ?_
  have et : items.take (i + 1) = items.take i ++ [v] := by rw [List.take_add_one, hvi]; rfl
  rw [← et] at hS2
  refine wpAny_pure ⟨plainId_quiet PyProof.Rows.F.plain_set_update_loop _, ih (i + 1) _ (by omega) (by omega) (W.frame _ _ _ st1 fun b hb o z => ?_) (fun b o z => ?_) hS2 fun h' tk'' a1 a4 => ?_⟩
  ·rw [hsb.2 b (fun q => by subst q; simp at hb; exact hb.elim hSI hSa)]; exact z
  ·show h2.get? b = some o
   rw [hsb.2 b (by rintro rfl; rw [h0S] at z; cases z)]; exact hg1 b o z
  ·exact hR h' tk'' a1 fun b o hbS hbI z => a4 b o hbS hbI (by show h2.get? b = some o; rw [hsb.2 b hbS]; exact hk b o (by simpa using hbI) z)
theorem zc (a : Value) {Q₁ : Value → Shared → Prop}
  (h : Q₁ (.ref s.heap.objs.size) { s with heap := s.heap.push { cls := .type "set", dict := none, data := .set #[] 0 (.fresh 0 0 (!w.params.followText "set-order")) } }) :
  codeAny (model prog w) A (.call (.builtin "set.__new__") ⟨[.type "set", a], []⟩) (wants Q₁ E) s := by
 refine codeAny_of_tree ?_
 show wpAny _ A.in1 (do checkBuiltinCall "set.__new__" ⟨[.type "set", a], []⟩; again (.builtin "set.__new__" ⟨[.type "set", a], []⟩)) _ _ s
 refine wpAny_bind (wpAny_of_eq (PySem.F.newCall_set_1 a) (wpAny_pure ⟨plainId_quiet PySem.F.plain_set_new _, codeAny_builtin PySem.F.entry_set_new ?_⟩))
 rw [Around.under_plainId PySem.F.plain_set_new _]
 unfold Builtin.«set.__new__» Builtin.Frozenset.newClass
 have hsub := sub_set_self
 obtain ⟨hp, g, d, tk, os⟩ := s
 dsimp only
 wp_walk
 refine wpAny_askSetting (wpAny_pure ?_)
 dsimp only
 simp only [newObj]
 refine wpAny_bind (wpAny_alloc (wpAny_pure ?_))
 exact wpAny_pure h
end
section
variable {prog : Program} {w : World} {A : Around} {E : Value → Shared → Prop} {n : Nat}
theorem call_setG {s : Shared} {l : Addr} {items : List Value} {SI : Heap → List Value → Prop} {Q : Value → Shared → Prop} (hh : A.handled = none) (hl : s.heap.IsList l items.toArray)
  (hkeep : ∀ {h h' vs}, SI h vs → (∀ o, h.get? s.heap.objs.size = some o → h'.get? s.heap.objs.size = some o) → SI h' vs)
  (hnew : SI (s.heap.push { cls := .type "set", dict := none, data := .set #[] 0 (.fresh 0 0 (!w.params.followText "set-order")) }) [])
  (hadd : ∀ (A' : Around) (s' : Shared) (i : Nat) (v : Value), A'.units ≤ A.units + 5 → items[i]? = some v → (∀ b o, s.heap.get? b = some o → s'.heap.get? b = some o) → SI s'.heap (items.take i) →
   ∀ (E : Value → Shared → Prop) (Q : Bool → Shared → Prop), (∀ h' tk b, Heap.SameBut s.heap.objs.size s'.heap h' → SI h' (items.take i ++ [v]) → Q b { s' with heap := h', toks := tk }) → wpAny (model prog w) A' (setAdd s.heap.objs.size v) Q E s')
  (h : ∀ (h' : Heap) (tk : Nat), SI h' items → (∀ b o, s.heap.get? b = some o → h'.get? b = some o) → Q (.ref s.heap.objs.size) { s with heap := h', toks := tk }) :
  wpAny (model prog w) A (call (.type "set") [.ref l]) Q E s := by
 have hmade := PySem.F.called_set.made
 have hsub := PySem.F.called_set.sub
 obtain ⟨c, tl, hmro⟩ := PySem.F.called_set.mro
 refine wpAny_call (codeAny_of_tree (wpAny_pure ⟨Code.quiet_builtin _ (by decide +kernel), codeAny_builtin PySem.F.entry_type_call ?_⟩))
 rw [Around.under_plain (weight_type_call_type "set" [.ref l] []) rfl]
 have g1 := PySem.F.called_set.notType
 have g2 := PySem.F.called_set.canCreate
 have g3 := PySem.F.typeCall_set_1 (.ref l)
 repeat (any_goals (first | assumption | wp_step))
 generalize hled : (!w.params.followText "set-order") = led at hnew
 refine codeAny_mono (zc (.ref l) (E := E) (Q₁ := fun obj t => obj = .ref s.heap.objs.size ∧ t = { s with heap := s.heap.push { cls := .type "set", dict := none, data := .set #[] 0 (.fresh 0 0 led) } }) ⟨rfl, by rw [hled]⟩) fun r t hr => ?_
 cases r with
 | error e => exact hr
 | ok fl =>
  cases fl with
  | ret obj =>
   obtain ⟨rfl, rfl⟩ := hr
   have hS : (s.heap.push { cls := .type "set", dict := none, data := .set #[] 0 (.fresh 0 0 led) }).get? s.heap.objs.size = some { cls := .type "set", dict := none, data := .set #[] 0 (.fresh 0 0 led) } := Heap.get?_push_size _ rfl
   have hT : Shared.TypeIs { s with heap := s.heap.push { cls := .type "set", dict := none, data := .set #[] 0 (.fresh 0 0 led) } } (.ref s.heap.objs.size) "set" := ⟨_, hS, rfl⟩
   have hli := PySem.F.called_set.init.lookup
   have hbi := PySem.F.called_set.init.bind (.ref s.heap.objs.size)
   repeat (any_goals (first | assumption | wp_step))
   refine codeAny_mono (codeAny_call_builtin (R := wants (fun r u => r = .none ∧ ∃ h' tk, u = { s with heap := h', toks := tk } ∧ SI h' items ∧
     (∀ b o, s.heap.get? b = some o → h'.get? b = some o)) E) PySem.F.called_set.init.plain PySem.F.entry_set_init (check_set_init_1 hT ?_)) fun r2 u hr2 => ?_
   ·obtain ⟨ol, hol, hcl, nl, hdl⟩ := hl
    obtain ⟨ocls, odict, odata, oslots⟩ := ol
    simp only at hcl hdl
    subst hcl; subst hdl
    have hol' : (s.heap.push { cls := .type "set", dict := none, data := .set #[] 0 (.fresh 0 0 led) }).get? l = some { cls := .type "list", dict := odict, data := .seq items.toArray nl, slots := oslots } := Heap.get?_push_of_some _ hol
    have hsls := PySem.F.sub_list_set
    have hslf := PySem.F.sub_list_frozenset
    have hne : (Value.type "list" == Value.type "dict") = false := by decide
    have hl1 : (s.heap.push { cls := .type "set", dict := none, data := .set #[] 0 (.fresh 0 0 led) }).IsList l items.toArray := ⟨_, hol', rfl, nl, rfl⟩
    unfold Builtin.«set.__init__» noKeywords Builtin.Frozenset.updateFrom
    generalize hPI : pyIter = PI
    wp_walk
    subst hPI
    refine wpAny_pyIter_list hl1 ?_
    refine wpAny_bind (wpAny_runValue ?_)
    have hlS : l < s.heap.objs.size := Heap.lt_size hol
    have z1 : (s.heap.push { cls := .type "set", dict := none, data := .set #[] 0 (.fresh 0 0 led) }).objs.size = s.heap.objs.size + 1 := Heap.size_push _ _
    refine set_loopG (h0 := s.heap) (SI := SI) (items := items) (ax := l) (by simpa using hh) (by rw [z1]; exact Nat.ne_of_lt (Nat.lt_succ_of_lt hlS)) (by rw [z1]; exact Nat.ne_of_lt (Nat.lt_succ_self _)) (Nat.ne_of_gt hlS)
     (Ur (Nat.le_refl _)) (Ur (by rw [z1]; exact Nat.le_succ _)) hkeep (fun s' i v hv hg hS E Q hQ => hadd _ s' i v ?hu hv hg hS E Q hQ) (items.length - 0) 0 _ (by omega) (Nat.zero_le _)
     ⟨⟨_, Heap.get?_push_size _ rfl, rfl, rfl⟩, (hl1.push _)⟩ (fun b o z => Heap.get?_push_of_some _ (Heap.get?_push_of_some _ z)) ?hS0 ?hR
    case hu => simp only [Around.in1_units]; omega
    case hS0 => exact hkeep hnew fun o z => Heap.get?_push_of_some _ z
    case hR =>
     intro h' tk a1 a4
     show wpAny _ _ _ _ _ _
     refine wpAny_pure ?_
     show wpAny _ _ (ret Value.none) _ _ _
     refine wpAny_pure ⟨rfl, h', tk, rfl, a1, fun b o z => ?_⟩
     have hlt := Heap.lt_size z
     exact a4 b o (Nat.ne_of_lt hlt) (by rw [z1]; exact Nat.ne_of_lt (Nat.lt_succ_of_lt hlt)) (Heap.get?_push_of_some _ (Heap.get?_push_of_some _ z))
   ·cases r2 with
    | error e => exact hr2
    | ok fl2 =>
     cases fl2 with
     | ret r =>
      obtain ⟨rfl, h', tk, rfl, a1, a4⟩ := hr2
      repeat (any_goals (first | assumption | wp_step))
      exact h _ _ a1 a4
     | _ => exact hr2.elim
  | _ => exact hr.elim
end
section
variable {prog : Program} {w : World} {n : Nat} {s : Shared} {A : Around} {E : Value → Shared → Prop}
end
section
variable {prog : Program} {w : World} {A : Around} {E : Value → Shared → Prop} {s : Shared}
end
end L3
namespace L3
open PySem PySem.Spec PyProof.Rows L2
def Wt : Value → Str
 | .str x _ => x
 | _ => Str.empty
theorem qE {t : SetTable} (es : Array (Int × Value)) (n : Nat) (h : t.plain = false) : (relayAll t es n).2.1.plain = false := by
 unfold relayAll
 split
 ·rename_i t' order he
  dsimp only
  split
  ·unfold SetTable.relaid SetTable.laid at he
   cases hc : SetTable.layClean (SetTable.sizeAbove n - 1) (es.map (·.1)) with
   | none => rw [hc] at he; cases he
   | some ow => rw [hc] at he; cases he; exact h
  ·rfl
 ·rfl
def SetT (prog : Program) (w : World) (B : Bool) (h : Heap) (a : Addr) (ss : List Str) : Prop :=
 ∃ o es ep t, h.get? a = some o ∧ o.ExactSet ∧ o.data = .set es ep t ∧ t.fits es.size = true ∧ ElemsOf (Z5 prog w) es.toList ∧ (B = false → t.led = true) ∧ (0 < es.size → t.plain = false) ∧
  (∀ e ∈ es.toList, ∃ x k, e.2 = .str x k) ∧ (es.toList.map fun e => Wt e.2).Nodup ∧ (∀ x, x ∈ (es.toList.map fun e => Wt e.2) ↔ x ∈ ss) ∧ es.size ≤ ss.length
theorem SetT.keep {prog : Program} {w : World} {B : Bool} {h h' : Heap} {a : Addr} {ss : List Str} (x : SetT prog w B h a ss) (k : ∀ o, h.get? a = some o → h'.get? a = some o) : SetT prog w B h' a ss := by
 obtain ⟨o, es, ep, t, ho, r⟩ := x
 exact ⟨o, es, ep, t, k o ho, r⟩
section
variable {prog : Program} {w : World} {A : Around} {E : Value → Shared → Prop} {s : Shared}
theorem add_text {B : Bool} {a : Addr} {ss : List Str} {x : Str} {tk : Tok} {Q : Bool → Shared → Prop} (hS : SetT prog w B s.heap a ss) (hroom : ss.length + 1 < scanBound)
  (h : ∀ h' b, Heap.SameBut a s.heap h' → SetT prog w B h' a (ss ++ [x]) → Q b { s with heap := h' }) :
  wpAny (model prog w) A (setAddHashed a (.str x tk) ((Z5 prog w).hash (.inr x))) Q E s := by
 have hkey : (Z5 prog w).is (.inr x) (.str x tk) = true := Ve x tk
 have hsc : (Value.str x tk).scannable = true := rfl
 obtain ⟨o, es, ep, t, ho, hex, hd, hf, hel, hL, hpl, hst, hnd, hin, hle⟩ := hS
 have hb : es.size < scanBound := by omega
 have isx : ∀ e ∈ es.toList, ((Z5 prog w).is (.inr x) e.2 = true ↔ Wt e.2 = x) := fun e m => by
  obtain ⟨y, k, ey⟩ := hst e m
  rw [ey]
  constructor
  ·intro q
   have q2 : WU (.inr x) (.str y k) = true := q
   rcases Yz q2 with ⟨i, t', e1, e2⟩ | ⟨z, t', e1, e2⟩
   ·cases e1
   ·cases e1; cases e2; rfl
  ·intro q
   have q' : y = x := q
   subst q'
   exact Ve y k
 unfold setAddHashed setAddHashedIn
 refine wpAny_holding (wpAny_bind (wpAny_setState_of ho hd hf ?_))
 dsimp only
 rw [byScan_of hsc hb hel]
 simp only [↓reduceIte]
 unfold setAddByScan
 refine wpAny_bind ?_
 refine wpAny_bind (wpAny_rule ?_)
 refine wpAny_bind (wpAny_setScan_of hkey ho hd hf hel ?_)
 cases hr : List.findIdx? (fun e => (Z5 prog w).is (.inr x) e.2) es.toList with
 | some j =>
  dsimp only
  obtain ⟨hj, hpj, _⟩ := List.findIdx?_eq_some_iff_getElem.mp hr
  refine wpAny_pure (wpAny_pure ?_)
  have e : s = { s with heap := s.heap } := by cases s; rfl
  rw [e]
  have hm : x ∈ ss := (hin x).mp (List.mem_map.mpr ⟨es.toList[j], List.getElem_mem hj, (isx _ (List.getElem_mem hj)).mp hpj⟩)
  refine h s.heap false (Heap.SameBut.refl a s.heap) ⟨o, es, ep, t, ho, hex, hd, hf, hel, hL, hpl, hst, hnd, fun y => ?_, by rw [List.length_append]; omega⟩
  rw [hin y, List.mem_append, List.mem_singleton]
  exact ⟨.inl, fun q => q.elim id fun q => q ▸ hm⟩
 | none =>
  dsimp only
  have hnone : ∀ e ∈ es.toList, Wt e.2 ≠ x := fun e m q => by
   have := List.findIdx?_eq_none_iff.mp hr e m
   rw [(isx e m).mpr q] at this
   cases this
  have hgw : ∀ (b : Bool) {s₁ : Shared} {Q' : Unit → Shared → Prop}, Q' () s₁ → wpAny (model prog w) A (match b with | true => rule "set.scan.the-table-gave-way" | false => pure ()) Q' E s₁ :=
   fun b s₁ Q' hq => by cases b <;> first | exact wpAny_pure hq | exact wpAny_rule hq
  have hperm := layNew_perm t es ((Z5 prog w).hash (.inr x)) (.str x tk)
  have hfits := layNew_fits t es ((Z5 prog w).hash (.inr x)) (.str x tk)
  have hled := vD t es ((Z5 prog w).hash (.inr x)) (.str x tk)
  generalize hLn : layNew t es ((Z5 prog w).hash (.inr x)) (.str x tk) = L at hperm hfits hled ⊢
  obtain ⟨es1, t1, wasDummy, gave⟩ := L
  dsimp only at hperm hfits hled ⊢
  rw [Array.toList_push] at hperm
  have hel1 : ElemsOf (Z5 prog w) es1.toList := (hel.push hkey hsc).perm hperm
  have hsz1 : es1.size = es.size + 1 := by rw [← Array.length_toList, hperm.length_eq, List.length_append, Array.length_toList]; rfl
  have good : ∀ (es2 : Array (Int × Value)), es2.toList.Perm es1.toList → (∀ e ∈ es2.toList, ∃ x k, e.2 = .str x k) ∧ (es2.toList.map fun e => Wt e.2).Nodup ∧ (∀ y, y ∈ (es2.toList.map fun e => Wt e.2) ↔ y ∈ ss ++ [x]) := fun es2 hp => by
   have hp2 := hp.trans hperm
   have hm := hp2.map fun e => Wt e.2
   rw [List.map_append] at hm
   refine ⟨fun e m => ?_, hm.nodup_iff.mpr (List.nodup_append.mpr ⟨hnd, by simp, fun u hu v hv => ?_⟩), fun y => ?_⟩
   ·rcases List.mem_append.mp (hp2.mem_iff.mp m) with m | m
    ·exact hst e m
    ·rw [List.mem_singleton] at m; subst m; exact ⟨x, tk, rfl⟩
   ·obtain ⟨e, m, rfl⟩ := List.mem_map.mp hu
    have : v = x := by simpa [Wt] using hv
    rw [this]
    exact hnone e m
   ·rw [hm.mem_iff, List.mem_append, List.mem_append, hin y]
    simp [Wt]
  refine wpAny_bind (hgw _ ?_)
  have X5 : ∀ t2 : SetTable, t2.fits es1.size = true → t2.led = t.led → t2.plain = false → wpAny (model prog w) A (do
    storeSet a es1 t2
    if (!wasDummy && t2.tooFull) = true then do
      (match (relayAll t2 es1 (SetTable.grown es1.size)).2.2 with | true => rule "set.scan.the-table-gave-way" | false => pure ())
      storeSet a (relayAll t2 es1 (SetTable.grown es1.size)).1 (relayAll t2 es1 (SetTable.grown es1.size)).2.1
      pure (some true)
     else pure (some true)) (fun a_1 s' => wpAny (model prog w) A (match a_1 with | some added => pure added | none => setAddHashedIn a (.str x tk) ((Z5 prog w).hash (.inr x)) 99999) Q E s') E s := by
   intro t2 f2 l2 p2
   refine wpAny_bind (wpAny_storeSet_of ho hd ?_ (by rw [sizeLine_eq]; have : scanBound = 4096 := rfl; omega))
   have hg := zP (es' := es1) (t' := t2) ho hd
   have sb := Heap.SameBut.update s.heap a (Obj.putSet es1 t2)
   split
   ·have hp := relayAll_perm t2 es1 (SetTable.grown es1.size)
    have hfr := relayAll_fits t2 es1 (SetTable.grown es1.size)
    have hlr := yd t2 es1 (SetTable.grown es1.size)
    have hpr := qE es1 (SetTable.grown es1.size) p2
    generalize hRl : relayAll t2 es1 (SetTable.grown es1.size) = Rl at hp hfr hlr hpr ⊢
    obtain ⟨es2, t3, gave2⟩ := Rl
    dsimp only at hp hfr hlr hpr ⊢
    have hsz : es2.size = es1.size := by rw [← Array.length_toList, hp.length_eq, Array.length_toList]
    refine wpAny_bind (hgw _ ?_)
    refine wpAny_bind (wpAny_storeSet_of hg rfl ?_ (by rw [sizeLine_eq]; have : scanBound = 4096 := rfl; omega))
    have hg' := zP (es' := es2) (t' := t3) hg rfl
    obtain ⟨g1, g2, g3⟩ := good es2 hp
    exact wpAny_pure (wpAny_pure (h _ true (sb.trans (Heap.SameBut.update _ a _)) ⟨_, es2, _, t3, hg', hex, rfl, hfr, hel1.perm hp, (fun z => by rw [hlr, l2]; exact hL z), fun _ => hpr, g1, g2, g3, by rw [hsz, hsz1, List.length_append]; simp; omega⟩))
   ·obtain ⟨g1, g2, g3⟩ := good es1 (.refl _)
    exact wpAny_pure (wpAny_pure (h _ true sb ⟨_, es1, _, t2, hg, hex, rfl, f2, hel1, (fun z => by rw [l2]; exact hL z), fun _ => p2, g1, g2, g3, by rw [hsz1, List.length_append]; simp; omega⟩))
  cases hp1 : t1.plain with
  | true =>
   simp only [if_true]
   refine wpAny_bind ?_
   rw [hashByValue_scannable 8 hsc]
   refine wpAny_pure ?_
   show wpAny _ _ (do storeSet a es1 { t1 with plain := false }; _) _ _ _
   exact X5 _ (SetTable.fits_plain_off hfits) hled rfl
  | false =>
   simp only [Bool.false_eq_true, if_false]
   refine wpAny_bind (wpAny_pure ?_)
   simp only [↓reduceIte]
   exact X5 t1 hfits hled hp1
theorem call_setX {l : Addr} {ss : List Str} {items : List Value} {Q : Value → Shared → Prop} (hh : A.handled = none) (hl : s.heap.IsList l items.toArray) (hv : Zx (ss.map V.str) items) (hb : ss.length < 1000)
  (h : ∀ (h' : Heap) (tk : Nat), SetT prog w (w.params.followText "set-order") h' s.heap.objs.size ss → (∀ b o, s.heap.get? b = some o → h'.get? b = some o) → Q (.ref s.heap.objs.size) { s with heap := h', toks := tk }) :
  wpAny (model prog w) A (call (.type "set") [.ref l]) Q E s := by
 have len : items.length = ss.length := by rw [← hv.length, List.length_map]
 have hmap : items.map Wt = ss := by
  clear h hb len hl
  induction ss generalizing items with
  | nil => cases hv; rfl
  | cons y r ih =>
   cases hv with
   | cons h1 h2 =>
    obtain ⟨t, rfl⟩ := h1
    rw [List.map_cons, ih h2]
    rfl
 have hstr : ∀ v ∈ items, ∃ x k, v = .str x k := by
  clear h hb len hl hmap
  induction ss generalizing items with
  | nil => cases hv; intro v h; cases h
  | cons y r ih =>
   cases hv with
   | cons h1 h2 =>
    obtain ⟨t, rfl⟩ := h1
    intro v hm
    rcases List.mem_cons.mp hm with rfl | hm
    ·exact ⟨_, _, rfl⟩
    ·exact ih h2 v hm
 refine call_setG (SI := fun h vs => SetT prog w (w.params.followText "set-order") h s.heap.objs.size (vs.map Wt)) hh hl (fun x k => x.keep k) ?_ ?_ fun h' tk a b => h h' tk (by rw [hmap] at a; exact a) b
 ·exact ⟨_, #[], 0, _, Heap.get?_push_size _ rfl, ⟨rfl, rfl, rfl⟩, rfl, by rfl, (fun e he => by simp at he), (fun z => by show (!_) = true; rw [z]; rfl), (fun z => absurd z (by simp)), (fun e he => by simp at he), by simp, fun x => by simp, Nat.zero_le _⟩
 ·intro A' s' i v hA hvi hg hS E Q hQ
  obtain ⟨x, k, rfl⟩ := hstr v (List.mem_of_getElem? hvi)
  unfold setAdd
  refine wpAny_holding (wpAny_bind ((Z5 prog w).pyHash (k := .inr x) (Ve x k) ?_))
  refine add_text (s := { s' with toks := s'.toks + 1 }) (ss := (items.take i).map Wt) hS (by rw [List.length_map, List.length_take]; have : scanBound = 4096 := rfl; omega) fun h' b sb hS' => hQ h' _ b sb ?_
  rw [List.map_append]
  exact hS'
end
section
variable {prog : Program} {w : World} {A : Around} {E : Value → Shared → Prop} {s : Shared}
theorem Vr {α : Type} : ∀ {l : List α} {i : Nat} (h : i < l.length), l.Perm (l[i] :: l.eraseIdx i)
 | x :: r, 0, _ => .refl _
 | x :: r, i + 1, h => by
  have hi : i < r.length := by simpa using h
  have ih := Vr hi
  show (x :: r).Perm (r[i] :: x :: r.eraseIdx i)
  exact (ih.cons x).trans (.swap _ _ _)
theorem U9 {α : Type} (n : Nat) : ∀ (xs : List α) {s : Shared} {Q : List α → Shared → Prop}, xs.length = n → (∀ ys dr, ys.Perm xs → Q ys { s with drawn := dr }) → wpAny (model prog w) A (drawOrder n xs) Q E s := by
 induction n with
 | zero =>
  intro xs s Q hl h
  have : xs = [] := List.eq_nil_of_length_eq_zero hl
  subst this
  unfold drawOrder
  exact wpAny_pure (h [] s.drawn (.refl _))
 | succ n ih =>
  intro xs s Q hl h
  cases xs with
  | nil => simp at hl
  | cons x r =>
   show wpAny _ _ (choose .order (x :: r).length >>= _) _ _ s
   refine wpAny_bind (xU (by simp) fun i dr hi => ?_)
   have e : (x :: r)[i]? = some (x :: r)[i] := List.getElem?_eq_getElem hi
   rw [e]
   dsimp only
   refine wpAny_bind (ih ((x :: r).eraseIdx i) (by rw [List.length_eraseIdx_of_lt hi]; omega) fun ys dr' hp => ?_)
   exact wpAny_pure (h (_ :: ys) dr' ((hp.cons _).trans (Vr hi).symm))
theorem V4 {α : Type} {next : Nat → Nat} : ∀ (f k : Nat) (left : List α) (out : Array α), left.length = f → (pickOrder.go next f k left out).toList.Perm (out.toList ++ left)
 | 0, k, left, out, h => by
  have : left = [] := List.eq_nil_of_length_eq_zero h
  subst this
  unfold pickOrder.go
  rw [List.append_nil]
 | f + 1, k, left, out, h => by
  have hi : next k % left.length < left.length := Nat.mod_lt _ (by omega)
  unfold pickOrder.go
  rw [List.getElem?_eq_getElem hi]
  dsimp only
  have ih := V4 (next := next) f (k + 1) (left.eraseIdx (next k % left.length)) (out.push left[next k % left.length]) (by rw [List.length_eraseIdx_of_lt hi]; omega)
  refine ih.trans ?_
  rw [Array.toList_push, List.append_assoc]
  exact List.Perm.append_left _ (Vr hi).symm
theorem pick_perm {α : Type} {next : Nat → Nat} (xs : Array α) : (pickOrder next xs).toList.Perm xs.toList := by
 have := V4 (next := next) xs.size 0 xs.toList #[] (Array.length_toList ..)
 show (pickOrder.go next xs.size 0 xs.toList #[]).toList.Perm _
 simpa using this
def SetU (B : Bool) (h : Heap) (a : Addr) (ss : List Str) : Prop :=
 ∃ es ep t, XF h a es ep t ∧ t.fits es.size = true ∧ (B = false → t.led = true) ∧ (0 < es.size → t.plain = false) ∧
  (∀ e ∈ es.toList, ∃ x k, e.2 = .str x k) ∧ (es.toList.map fun e => Wt e.2).Nodup ∧ (∀ x, x ∈ (es.toList.map fun e => Wt e.2) ↔ x ∈ ss) ∧ es.size ≤ ss.length
theorem SetT.toU {B : Bool} {h : Heap} {a : Addr} {ss : List Str} (x : SetT prog w B h a ss) : SetU B h a ss := by
 obtain ⟨o, es, ep, t, ho, hc, hd, hf, _, r⟩ := x
 exact ⟨es, ep, t, ⟨o, ho, hc, hd⟩, hf, r⟩
def SetWalkT (prog : Program) (w : World) (A : Around) (es : Array (Int × Value)) (z : Nat) (a I : Addr) (h : Heap) : Prop :=
 ∃ (fp : List Addr) (seq : List Value) (St : Nat → Heap → Prop), Walks prog w A I fp [I] seq.length (fun i v => seq[i]? = some v) St ∧ St 0 h ∧ (∀ b ∈ fp, b < h.objs.size) ∧ (∀ b ∈ fp, b = a ∨ z ≤ b) ∧ I ∈ fp ∧ seq.Perm (es.toList.map (·.2))
theorem below_one {xs : Array Nat} {j : Nat} (h : xs.size = 1) (h0 : xs[0]? = some j) : SetTable.below xs (j + 1) = 1 := by
 have e : xs.getD 0 (j + 1) = j := by rw [Array.getD_eq_getD_getElem?, h0]; rfl
 unfold SetTable.below
 rw [h]
 unfold SetTable.below.go
 simp [e]
 unfold SetTable.below.go
 rfl
theorem qB (xs : Array Nat) : SetTable.below xs 0 = 0 := Us _ _
theorem xV {pick es : Array (Int × Value)} {place : Array Nat} (h1 : es.size ≤ 1) (hp : place.size = es.size) :
  ∃ sls : Nat → Nat, sls 0 = 0 ∧ (∀ (i : Nat) x, (es.toList.map (·.2))[i]? = some x → Wh false pick es place (sls i) i = some (x, sls (i + 1))) ∧ Wh false pick es place (sls (es.toList.map (·.2)).length) (es.toList.map (·.2)).length = none := by
 refine ⟨fun i => if i = 0 then 0 else place.getD 0 0 + 1, rfl, fun i x hx => ?_, ?_⟩
 ·rw [List.getElem?_map] at hx
  obtain ⟨e, q1, q2⟩ := Option.map_eq_some_iff.mp hx
  have hi := (List.getElem?_eq_some_iff.mp q1).1
  rw [Array.length_toList] at hi
  have i0 : i = 0 := by omega
  subst i0
  rw [Array.getElem?_toList] at q1
  have hpl : place[0]? = some place[0] := getElem?_pos place 0 (by omega)
  unfold Wh
  simp only [Bool.false_eq_true, if_false, if_true, qB, q1, hpl]
  rw [← q2, Array.getD_eq_getD_getElem?, hpl]
  simp
 ·rw [List.length_map, Array.length_toList]
  unfold Wh
  simp only [Bool.false_eq_true, if_false]
  by_cases z : es.size = 0
  ·rw [if_pos z, qB, Array.getElem?_eq_none (by omega)]
  ·have hpl : place[0]? = some place[0] := getElem?_pos place 0 (by omega)
   have e : place.getD 0 0 = place[0] := by rw [Array.getD_eq_getD_getElem?, hpl]; rfl
   rw [if_neg z, e, below_one (by omega) hpl, Array.getElem?_eq_none (by omega)]
theorem iter_setT {A' : Around} {a : Addr} {es ep t} {Q : Value → Shared → Prop} (hh : A'.handled = none) (hS : XF s.heap a es ep t) (hf : t.fits es.size = true) (hled : w.params.followText "set-order" = false → t.led = true) (hp0 : 0 < es.size → t.plain = false) (hz : es.size ≤ 1000)
  (hQ : ∀ I h' dr, s.heap.objs.size ≤ I → (∀ b o, s.heap.get? b = some o → h'.get? b = some o) → SetWalkT prog w A' es s.heap.objs.size a I h' → Q (.ref I) { s with heap := h', drawn := dr }) : wpAny (model prog w) A (pyIter (.ref a)) Q E s := by
 obtain ⟨o, ho, hc, hd⟩ := id hS
 have haz : a < s.heap.objs.size := Heap.lt_size ho
 refine wpAny_pyIter_slot hS.typeIs F.slot_set_iter (wpAny_call_entry F.slot_set_iter hS.typeIs ql ?_ (F.args_set_iter_1 _))
 show wpAny _ _ (Builtin.Frozenset.sizeOf a >>= _) _ _ s
 refine wpAny_bind ?_
 unfold Builtin.Frozenset.sizeOf setEntries
 refine wpAny_bind (wpAny_bind (wpAny_setState_of ho hd hf (wpAny_pure (wpAny_pure ?_))))
 dsimp only
 refine wpAny_bind ?_
 unfold setDrawn
 refine wpAny_bind (wpAny_setState_of ho hd hf ?_)
 dsimp only
 refine wpAny_bind ?_
 unfold setsByText
 refine wpAny_bind (wpAny_askSetting (wpAny_pure ?_))
 show wpAny _ _ (pure (!w.params.followText "set-order" && (!t.plain && decide (es.size > 1)))) _ _ s
 refine wpAny_pure ?_
 have hpl : t.place.size = es.size := by
  unfold SetTable.fits at hf
  rw [Bool.and_eq_true] at hf
  simpa using hf.1
 have slots : ∀ (seq : List Value) (sls : Nat → Nat), sls 0 = 0 → (w.params.followText "set-order" = false → t.led = true ∧ (t.plain = true ∨ es.size ≤ 1)) →
   (∀ (i : Nat) x, seq[i]? = some x → Wh (w.params.followText "set-order") (pickOrder (w.params.setOrder a ep) es) es t.place (sls i) i = some (x, sls (i + 1))) → Wh (w.params.followText "set-order") (pickOrder (w.params.setOrder a ep) es) es t.place (sls seq.length) seq.length = none → seq.Perm (es.toList.map (·.2)) →
   Q (.ref s.heap.objs.size) { s with heap := s.heap.push { cls := .type "set_iterator", data := .fields #[rawInt 0, rawInt 0, .ref a, rawInt es.size, rawInt ep] } } := fun seq sls h0 hw n1 n2 hpm => by
  refine hQ _ _ s.drawn (Nat.le_refl _) (fun b o z => Heap.get?_push_of_some _ z) ⟨_, seq, _, vJ (prog := prog) (A := A') (sls := sls) hh (Nat.ne_of_lt haz) hf hw n1 n2, ⟨⟨0, ?_⟩, ?_⟩, ?_, ?_, by simp, hpm⟩
  ·rw [h0]
   exact ⟨_, 0, 0, 0, Heap.get?_push_size _ rfl, rfl, rfl⟩
  ·exact ⟨o, Heap.get?_push_of_some _ ho, hc, hd⟩
  ·intro b hb
   rw [Heap.size_push]
   simp only [List.mem_cons, List.not_mem_nil, or_false] at hb
   rcases hb with h | h
   ·rw [h]; exact Nat.lt_succ_self _
   ·rw [h]; exact Nat.lt_succ_of_lt haz
  ·intro b hb
   simp only [List.mem_cons, List.not_mem_nil, or_false] at hb
   rcases hb with h | h
   ·exact .inr (by rw [h]; exact Nat.le_refl _)
   ·exact .inl h
 cases hdr : (!w.params.followText "set-order" && (!t.plain && decide (es.size > 1)))
 ·simp only [Bool.false_eq_true, if_false]
  refine wpAny_bind (wpAny_pure ?_)
  refine wpAny_bind ?_
  unfold setEpoch
  refine wpAny_bind (wpAny_setState_of ho hd hf (wpAny_pure ?_))
  dsimp only
  refine wpAny_bind (wpAny_newObj_type ?_)
  refine wpAny_pure ⟨_, rfl, "set_iterator", _, ⟨_, Heap.get?_push_size _ rfl, rfl⟩, ZM.lookup, ?_⟩
  cases hT : w.params.followText "set-order"
  ·rw [hT] at slots hdr
   have small : es.size ≤ 1 := by
    rcases Nat.lt_or_ge 1 es.size with h | h
    ·rw [hp0 (by omega), decide_eq_true h] at hdr; cases hdr
    ·exact h
   obtain ⟨sls, g0, g1, g2⟩ := xV (pick := pickOrder (w.params.setOrder a ep) es) (place := t.place) small hpl
   exact slots _ sls g0 (fun _ => ⟨hled hT, .inr small⟩) g1 g2 (.refl _)
  ·rw [hT] at slots
   refine slots ((pickOrder (w.params.setOrder a ep) es).toList.map (·.2)) (fun _ => 0) rfl (fun e => by cases e) (fun i x hx => ?_) ?_ ((pick_perm es).map _)
   ·unfold Wh
    simp only [if_true]
    rw [List.getElem?_map, Array.getElem?_toList] at hx
    obtain ⟨e, e1, e2⟩ := Option.map_eq_some_iff.mp hx
    rw [e1, ← e2]; rfl
   ·unfold Wh
    simp
 ·simp only [if_true]
  refine wpAny_bind (U9 es.size (List.range es.size) (by simp) fun ys dr hp => ?_)
  have y2 : ys.length = es.size := by rw [hp.length_eq, List.length_range]
  refine wpAny_bind (wpAny_newTuple (items := ys.map fun (i : Nat) => rawInt (i : Int)) ?_ (by rw [List.length_map, sizeLine_eq]; omega))
  refine wpAny_bind ?_
  unfold setEpoch
  have ho1 : (s.heap.push { cls := .type "tuple", data := .seq (ys.map fun (i : Nat) => rawInt (i : Int)).toArray }).get? a = some o := Heap.get?_push_of_some _ ho
  refine wpAny_bind (wpAny_setState_of (s := { s with drawn := dr, heap := _ }) ho1 hd hf (wpAny_pure ?_))
  dsimp only
  refine wpAny_bind (wpAny_newObj_type ?_)
  refine wpAny_pure ⟨_, rfl, "set_iterator", _, ⟨_, Heap.get?_push_size _ rfl, rfl⟩, ZM.lookup, ?_⟩
  have y4 : ∀ y ∈ ys, y < es.size := fun y hy => List.mem_range.mp (hp.mem_iff.mp hy)
  have q2 : ∀ (i : Nat) x, (ys.map fun p => (es.getD p (0, .none)).2)[i]? = some x → ∃ p e, ys[i]? = some p ∧ es[p]? = some e ∧ x = e.2 := fun i x hx => by
   rw [List.getElem?_map] at hx
   obtain ⟨p, e1, e2⟩ := Option.map_eq_some_iff.mp hx
   have hp := y4 p (List.mem_of_getElem? e1)
   refine ⟨p, es[p], e1, getElem?_pos es p hp, ?_⟩
   rw [← e2, Array.getD_eq_getD_getElem?, getElem?_pos es p hp]; rfl
  have z1 : (s.heap.push { cls := .type "tuple", data := .seq (ys.map fun (i : Nat) => rawInt (i : Int)).toArray }).objs.size = s.heap.objs.size + 1 := Heap.size_push _ _
  refine hQ _ _ dr (by rw [z1]; exact Nat.le_succ _) (fun b o z => Heap.get?_push_of_some _ (Heap.get?_push_of_some _ z)) ⟨_, ys.map fun p => (es.getD p (0, .none)).2, _, xP (prog := prog) (A := A') (T := s.heap.objs.size) (ps := ys) (ep := ep) hh (by rw [z1]; exact Nat.ne_of_lt (Nat.lt_succ_of_lt haz)) (by rw [z1]; exact Nat.ne_of_lt (Nat.lt_succ_self _)) hf (by simp) q2, ⟨?_, ?_, ?_⟩, ?_, ?_, by simp, ?_⟩
  ·exact ⟨_, 0, 0, 0, Heap.get?_push_size _ rfl, rfl, rfl⟩
  ·exact ⟨o, Heap.get?_push_of_some _ ho1, hc, hd⟩
  ·exact ⟨_, _, Heap.get?_push_of_some _ (Heap.get?_push_size _ rfl), rfl, rfl⟩
  ·intro b hb
   rw [Heap.size_push, z1]
   simp only [List.mem_cons, List.not_mem_nil, or_false] at hb
   rcases hb with h | h | h
   ·rw [h, z1]; exact Nat.lt_succ_self _
   ·rw [h]; exact Nat.lt_succ_of_lt (Nat.lt_succ_of_lt haz)
   ·rw [h]; exact Nat.lt_succ_of_lt (Nat.lt_succ_self _)
  ·intro b hb
   simp only [List.mem_cons, List.not_mem_nil, or_false] at hb
   rcases hb with h | h | h
   ·exact .inr (by rw [h, z1]; exact Nat.le_succ _)
   ·exact .inl h
   ·exact .inr (by rw [h]; exact Nat.le_refl _)
  ·refine (hp.map fun p => (es.getD p (0, .none)).2).trans ?_
   have : (List.range es.size).map (fun p => (es.getD p (0, .none)).2) = es.toList.map (·.2) := by
    apply List.ext_getElem?
    intro i
    rw [List.getElem?_map, List.getElem?_map, show es.toList[i]? = es[i]? from Array.getElem?_toList ..]
    rcases Nat.lt_or_ge i es.size with h | h
    ·rw [List.getElem?_range h, getElem?_pos es i h]
     dsimp only [Option.map]
     rw [Array.getD_eq_getD_getElem?, getElem?_pos es i h]; rfl
    ·rw [Array.getElem?_eq_none h, List.getElem?_eq_none (by simpa using h)]; rfl
   rw [this]
end
section
variable {prog : Program} {w : World} {A : Around} {E : Value → Shared → Prop} {s : Shared}
theorem yc {a : Addr} {ss : List Str} {Q : List Value → Shared → Prop} (hh : A.handled = none) (hS : SetU (w.params.followText "set-order") s.heap a ss) (hz : ss.length ≤ 1000)
  (hQ : ∀ (seq : List Value) (us : List Str) (h' : Heap) dr tk, StrsAre seq us → us.Nodup → (∀ x, x ∈ us ↔ x ∈ ss) → us.length ≤ ss.length → s.heap.objs.size ≤ h'.objs.size → (∀ b o, s.heap.get? b = some o → h'.get? b = some o) → Q seq { s with heap := h', drawn := dr, toks := tk }) :
  wpAny (model prog w) A (collect (.ref a)) Q E s := by
 obtain ⟨es, ep, t, hA, hf, hL, hpl, hst, hnd, hin, hle⟩ := hS
 unfold collect
 refine wpAny_bind (wpAny_runValue (codeAny_builtin PySem.F.entry_proto_collect ?_))
 rw [Around.under_plainId PySem.F.plain_proto_collect _]
 show wpAny _ A.in1 (newList [] >>= fun l => again (.builtin "list.__iadd__" ⟨[l, .ref a], []⟩)) _ _ s
 refine wpAny_bind (wpAny_newObj_type ?_)
 refine wpAny_pure ⟨plainId_quiet PySem.F.plain_list_iadd _, codeAny_builtin PySem.F.entry_list_iadd ?_⟩
 rw [Around.under_plainId PySem.F.plain_list_iadd _]
 have haz : a < s.heap.objs.size := by obtain ⟨o, ho, _⟩ := hA; exact Heap.lt_size ho
 have hA1 : XF (s.heap.push { cls := .type "list", data := .seq ([] : List Value).toArray }) a es ep t := hA.at fun o z => Heap.get?_push_of_some _ z
 show wpAny _ A.in1 (Builtin.List.listExtendWith (.ref s.heap.objs.size) (.ref a) (.ref s.heap.objs.size)) _ _ _
 unfold Builtin.List.listExtendWith
 have hT := XF.typeIs (s := { s with heap := s.heap.push { cls := .type "list", data := .seq ([] : List Value).toArray } }) hA1
 refine wpAny_bind (wpAny_typeOf hT ?_)
 have h1 : Builtin.List.listSameRef (.ref s.heap.objs.size) (.ref a) = false := by simp [Builtin.List.listSameRef, Nat.ne_of_gt haz]
 have h2 : (Value.type "set" == Value.type "list") = false := by decide
 have h3 : (Value.type "set" == Value.type "tuple") = false := by decide
 simp only [h1, h2, h3, Bool.or_false, Bool.false_eq_true, if_false]
 have z1 : (s.heap.push { cls := .type "list", data := .seq ([] : List Value).toArray }).objs.size = s.heap.objs.size + 1 := Heap.size_push _ _
 refine wpAny_bind (iter_setT (A' := A.in1) (by simpa using hh) hA1 hf hL hpl (by omega) fun I h1 dr hI hk1 hW => ?_)
 rw [z1] at hI
 obtain ⟨fp, seq, St, W, hst0, hfp, hfa, hIf, hpm⟩ := hW
 have m2 : seq.length = es.size := by rw [hpm.length_eq, List.length_map, Array.length_toList]
 have hA2 : XF h1 a es ep t := hA1.at fun o z => hk1 _ o z
 refine wpAny_bind (wpAny_holding ?_)
 unfold Builtin.List.listLengthHint
 have hT2 := XF.typeIs (s := { s with heap := h1, drawn := dr }) hA2
 refine wpAny_bind (wpAny_specialOf hT2 yH ?_)
 have sp : splitId "set.__len__" = some ("set", "__len__") := by decide +kernel
 dsimp only
 rw [sp]
 dsimp only
 refine wpAny_bind (wpAny_isInstance hT2 sub_set_self ?_)
 simp only [Bool.not_true, Bool.false_eq_true, if_false]
 show wpAny _ _ (if true = true then _ else _) _ _ _
 rw [if_pos rfl]
 refine wpAny_bind (wpAny_typeOf hT2 ?_)
 dsimp only
 refine wpAny_pure ?_
 show wpAny _ A.in1 (if (false || true) = true then _ else _) _ _ _
 rw [if_pos (show (false || true) = true from rfl)]
 refine wpAny_bind (wpAny_rule ?_)
 have hSf : s.heap.objs.size ∉ fp := fun hm => by
  rcases hfa _ hm with e | e
  ·exact absurd e (Nat.ne_of_gt haz)
  ·rw [z1] at e; omega
 have hS₁ : h1.get? s.heap.objs.size = some { cls := .type "list", data := .seq ([] : List Value).toArray } := hk1 _ _ (Heap.get?_push_size _ rfl)
 refine wpAny_bind ?_
 show wpAny _ A.in1 (updateSeq s.heap.objs.size (·.push .none) >>= fun _ => updateSeq s.heap.objs.size (·.pop)) _ _ _
 refine wpAny_bind (wpAny_updateSeq hS₁ rfl ?_)
 have hS₂ := Heap.get?_update_self (Obj.mapSeq (·.push Value.none)) hS₁ rfl
 refine wpAny_updateSeq hS₂ rfl ?_
 have hS₃ := Heap.get?_update_self (Obj.mapSeq (·.pop)) hS₂ rfl
 have oth : ∀ b o, b ≠ s.heap.objs.size → h1.get? b = some o → ((h1.update s.heap.objs.size (Obj.mapSeq (·.push Value.none))).update s.heap.objs.size (Obj.mapSeq (·.pop))).get? b = some o :=
  fun b o hb e => (Heap.get?_update_other _ _ (Ne.symm hb)).trans ((Heap.get?_update_other _ _ (Ne.symm hb)).trans e)
 refine wpAny_pure ⟨plainId_quiet PySem.F.plain_extend_loop _, codeAny_extend_loopS W.toS (by rw [sizeLine_eq]; omega) _ hSf _ seq.length 0 _ _ _ rfl (Nat.zero_le _)
  (W.frame 0 _ _ hst0 fun b hb o e => oth b o (fun h => hSf (h ▸ hb)) e) hS₃ (ItemsOf.nil _) fun s' acc' c' hm hS' hacc => ?_⟩
 show wpAny _ A (load s.heap.objs.size >>= _) _ _ s'
 refine wpAny_bind (wpAny_load hS' ?_)
 have e1 : acc'.toList = seq := by
  apply List.ext_getElem?
  intro i
  rw [Array.getElem?_toList]
  rcases Nat.lt_or_ge i acc'.size with h | h
  ·have := hacc.2 i _ (getElem?_pos acc' i h)
   rw [getElem?_pos acc' i h]; exact this.symm
  ·rw [Array.getElem?_eq_none h, List.getElem?_eq_none (by rw [hacc.1] at h; exact h)]
 refine wpAny_pure ?_
 rw [e1]
 obtain ⟨hh', gg, dd, tt, oo⟩ := s'
 obtain ⟨q1, q2, q3, q4, q5⟩ := hm
 dsimp only at q1 q2 q3 q4 q5
 subst q2; subst q3; subst q4
 have keep : ∀ b o, s.heap.get? b = some o → hh'.get? b = some o := fun b o z => by
  have hlt := Heap.lt_size z
  refine q1 b o (by simp only [List.mem_cons, List.not_mem_nil, or_false]; rintro (h | h); exact absurd hlt (by rw [h]; exact Nat.lt_irrefl _); exact absurd hlt (by rw [h]; exact Nat.not_lt.mpr (Nat.le_of_succ_le hI))) (oth b o (Nat.ne_of_lt hlt) (hk1 b o (Heap.get?_push_of_some _ z)))
 have sa : ∀ l : List Value, (∀ v ∈ l, ∃ x k, v = Value.str x k) → StrsAre l (l.map Wt) := by
  intro l
  induction l with
  | nil => intro _; exact .nil
  | cons v r ih =>
   intro h
   obtain ⟨x, k, rfl⟩ := h v (by simp)
   exact .cons x k (ih fun u m => h u (List.mem_cons_of_mem _ m))
 have hsv : ∀ v ∈ seq, ∃ x k, v = Value.str x k := fun v m => by
  obtain ⟨e, me, rfl⟩ := List.mem_map.mp (hpm.mem_iff.mp m)
  exact hst e me
 have hpm2 : (seq.map Wt).Perm (es.toList.map fun e => Wt e.2) := by
  have := hpm.map Wt
  rwa [List.map_map] at this
 refine hQ seq (seq.map Wt) hh' _ tt (sa seq hsv) (hpm2.nodup_iff.mpr hnd) (fun x => by rw [hpm2.mem_iff, hin x]) (by rw [List.length_map]; omega) ?_ keep
 exact Nat.le_of_lt (Heap.lt_size hS')
theorem sortedT {a : Addr} {ss : List Str} {Q : Value → Shared → Prop} (hh : A.handled = none) (hS : SetU (w.params.followText "set-order") s.heap a ss) (h64 : ss.length < 64)
  (h : ∀ (out : List Value) (us : List Str) (L n : Nat) (h' : Heap) dr tk, StrsAre out us → us.Nodup → (∀ x, x ∈ us ↔ x ∈ ss) → us.length ≤ ss.length → sortedS us = true → s.heap.objs.size ≤ L → (∀ b o, s.heap.get? b = some o → h'.get? b = some o) →
   h'.get? L = some { cls := .type "list", data := .seq out.toArray n } → Q (.ref L) { s with heap := h', drawn := dr, toks := tk }) :
  wpAny (model prog w) A (call (.builtin "sorted") [.ref a]) Q E s := by
 refine Calls.call_function_entry kind_sorted plain_sorted entry_sorted (args_sorted1 _) ?_
 unfold Builtin.«sorted»
 refine wpAny_bind (m := checkCount "sorted" 1 1 _) (wpAny_pure ?_)
 refine wpAny_bind (yc (by simpa using hh) hS (by omega) fun seq us h1 dr tk hsa hnd hin hle hz k1 => ?_)
 have hlen : seq.length = us.length := by
  clear hnd hin hle
  induction hsa with
  | nil => rfl
  | cons x k _ ih => simp [ih]
 refine wpAny_bind (wpAny_newList ?_ (by rw [sizeLine_eq]; omega))
 have hoL : (h1.push (seqObj "list" seq.toArray 0)).get? h1.objs.size = some (seqObj "list" seq.toArray 0) := Heap.get?_push_size _ rfl
 have k2 : ∀ b o, s.heap.get? b = some o → b ≠ h1.objs.size ∧ (h1.push (seqObj "list" seq.toArray 0)).get? b = some o := fun b o z => by
  have := k1 b o z
  exact ⟨Nat.ne_of_lt (Heap.lt_size this), Heap.get?_push_of_some _ this⟩
 show wpAny _ _ _ _ _ { s with heap := h1.push (seqObj "list" seq.toArray 0), drawn := dr, toks := tk }
 refine wpAny_bind (wpAny_holding (wpAny_call_entry slot_list_sort ⟨_, hoL, rfl⟩ entry_list_sort (list_sort_treeK strKind_oneLt hoL hsa.keysOf (fun v₁ v₂ X5 e => keyKind_strs (by rw [← e]; exact hsa)) (by omega) fun st' hp hs => ⟨_, rfl, ?_⟩) (args_list_sort _)))
 obtain ⟨us', g1, g2, g3⟩ := sorted_out_str hsa hp hs
 obtain ⟨e, he⟩ := sortedHeap_at (out := (arrOf st').map (·.2)) hoL
 refine wpAny_pure ⟨_, rfl, h ((arrOf st').map (·.2)).toList us' h1.objs.size e _ dr tk g1 (g2.nodup_iff.mpr hnd) (fun x => by rw [g2.mem_iff, hin x]) (by rw [g2.length_eq]; exact hle) g3 hz (fun b o z => ?_) (by rw [Array.toArray_toList]; exact he)⟩
 obtain ⟨n1, z1⟩ := k2 b o z
 show (sortedHeap _ _ _ _).get? b = some o
 rw [sortedHeap_old n1 (Heap.lt_size z1)]; exact z1
end
def SuO (Pm : Params) (a : Addr) (ss : List Str) : HO := .ext fun h => SetU (Pm.followText "set-order") h a ss
theorem su_ok {P : Program} {w : World} {Pm : Params} {H : Hp} {h : Heap} {a : Addr} {ss : List Str} (x : SetU (Pm.followText "set-order") h a ss) : Y6 P w H h a (SuO Pm a ss) := by
 refine ⟨x, ?_, ?_⟩
 ·obtain ⟨_, _, _, ⟨o, e, _⟩, _⟩ := x
  exact ⟨o, e⟩
 ·rintro h1 h2 ⟨es, ep, t, hA, c⟩ k
  exact ⟨es, ep, t, hA.at fun o z => k o z, c⟩
structure xo (us ss : List Str) : Prop where
 nd : us.Nodup
 mem : ∀ x, x ∈ us ↔ x ∈ ss
 len : us.length ≤ ss.length
 up : us.Pairwise fun a b => leS a b = true
inductive rSetU_R (K : PySem.W.Frag) (Pm : Params) (xs : List V) (H : Hp) (Q : VK) : Prop
 | mk (p : _) (ss : _) (h0 : xs = [.ref p]) (h1 : SqL K H p (ss.map V.str)) (h2 : ss.length < 1000) (h3 : ∀ l, H l = none → Q (.ref l) (upd H l (SuO Pm l ss))) : rSetU_R K Pm xs H Q
def rSetU (K : PySem.W.Frag) (Pm : Params) : List V → Hp → VK → Prop := fun xs H Q => rSetU_R K Pm xs H Q
inductive xu (Pm : Params) (xs : List V) (H : Hp) (Q : VK) : Prop
 | mk (p : _) (ss : _) (h0 : xs = [.ref p]) (h1 : H p = some (SuO Pm p ss)) (h2 : ss.length < 64) (h3 : ∀ l us, H l = none → xo us ss → Q (.ref l) (upd H l (.lst (us.map V.str)))) : xu Pm xs H Q
def rSortU (Pm : Params) : List V → Hp → VK → Prop := fun xs H Q => xu Pm xs H Q
section
variable {X : Cx} {K : PySem.W.Frag} {Pm : Params}
theorem inv_dr {pins : List (Addr × Obj)} {σ : L2.St} {H : Hp} {s : Shared} (I : L2.Inv X pins σ H s) (d : Drawn) : L2.Inv X pins σ H { s with drawn := d } :=
 ⟨I.ok, I.os, I.bare, I.base, I.loc, I.cell, I.free, I.freeC, I.pin, I.hok, I.len⟩
theorem call_setU (hK : X.K = K) (hw : X.w.params = Pm) (hc : X.calm = true) : Yy X (.type "set") (rSetU K Pm) := by
 subst hK
 intro pins s σ H xs us Q I r h
 obtain ⟨p, ss, rfl, hq, hl, q⟩ := h
 obtain ⟨u, rfl, ru⟩ := XU r
 obtain rfl : u = Value.ref p := ru
 obtain ⟨its, rv, pl, hz⟩ := I.list hq
 refine call_setX (I.ok.hd hc) pl.isList rv hl fun h' tk hS k => ?_
 exact ⟨.ref s.heap.objs.size, _, I.laid (o := SuO Pm s.heap.objs.size ss) k (Nat.le_refl _) (su_ok (by rw [← hw]; exact hS.toU)), rfl, q _ (I.hok.fresh (Nat.le_refl _))⟩
theorem xQ (hw : X.w.params = Pm) (hc : X.calm = true) : Yy X (.builtin "sorted") (rSortU Pm) := by
 intro pins s σ H xs us Q I r h
 obtain ⟨p, ss, rfl, hq, hl, q⟩ := h
 obtain ⟨u, rfl, ru⟩ := XU r
 obtain rfl : u = Value.ref p := ru
 obtain ⟨hS, _⟩ := I.hok p _ hq
 refine sortedT (I.ok.hd hc) (by rw [hw]; exact hS) hl fun out us L n h' dr tk g1 g2 g3 g4 g5 hL k hg => ?_
 have lo : out.length = us.length := by
  have := (Vb g1).length
  rw [List.length_map] at this
  exact this.symm
 exact ⟨.ref L, _, inv_dr (I.laid (o := .lst (us.map V.str)) k hL ⟨by rw [List.length_map, sizeLine_eq]; omega, out, n, Vb g1, hg⟩) dr, rfl, q L us (I.hok.fresh hL) ⟨g2, g3, g4, qv g5⟩⟩
end
theorem ZV {H : Hp} {a : Addr} {o : HO} (h : H a = none) : ∃ H1, upd H a o = H1 ∧ Zn H H1 ∧ H1 a = some o := ⟨_, rfl, Zf h, Zd⟩
def WC (t : Str) : List (List Str) := (Txt.split t "\n").map fun y => Txt.split y " "
def WG (c : Nat) : Bool := decide (48 ≤ c ∧ c ≤ 57)
def Yn (z : Str) : Bool := decide (1 ≤ z.length) && decide (z.length ≤ 6) && z.cps.toList.all WG && (decide (z = "0") || decide (z.cps.toList[0]? ≠ some 48))
def YA (z : Str) : Int := (intText? z).getD 0
theorem XZ (z : Str) : z.cps.toList.length = z.length := by simp [Str.length]
theorem yg {z : Str} (h : Yn z = true) : intText? z = some (YA z) ∧ 0 ≤ YA z ∧ z.length ≤ 6 := by
 unfold Yn at h
 simp only [Bool.and_eq_true] at h
 obtain ⟨⟨⟨h1, h2⟩, h3⟩, h4⟩ := h
 have h1 := of_decide_eq_true h1
 have h2 := of_decide_eq_true h2
 have e := PySem.intText_digits (x := z) (fun c hc => of_decide_eq_true (List.all_eq_true.mp h3 c hc)) (fun e => by have := XZ z; rw [e] at this; simp at this; omega) (by omega)
 unfold YA
 rw [e]
 exact ⟨rfl, Int.natCast_nonneg _, h2⟩
structure YD (rs : List (List Str)) (m : Nat) : Prop where
 heads : rs.map (fun ws => ws.getD 0 Str.empty) = YV m
 names : ∀ (i : Nat) ws, i < m → rs[i]? = some ws → ∀ w ∈ ws.drop 1, Zr w = true
 up : ∀ (i : Nat) ws, i < m → rs[i]? = some ws → upS (ws.drop 1)
 nums : ∀ (i : Nat) ws, m ≤ i → i ≤ 2 * m → rs[i]? = some ws → ∀ w ∈ ws.drop 1, Yn w = true
 upn : ∀ (i : Nat) ws, m ≤ i → i ≤ 2 * m → rs[i]? = some ws → upI ((ws.drop 1).map YA)
 fair : ∀ ws, rs[2 * m + 1]? = some ws → ∀ w ∈ ws.drop 1, Zr w = true
structure VS (rs : List (List Str)) (m : Nat) : Prop where
 one : 1 ≤ m
 most : m ≤ 20
 nums : ∀ (i : Nat) ws, m ≤ i → i ≤ 2 * m → rs[i]? = some ws → ws.drop 1 ≠ [] ∧ ∀ w ∈ ws.drop 1, YA w < m
 few : ∀ ws, rs[2 * m + 1]? = some ws → (ws.drop 1).length ≤ 3
 nd : ∀ ws, rs[2 * m + 1]? = some ws → (ws.drop 1).Nodup
theorem heads_len (m : Nat) : (YV m).length = 2 * m + 2 := by unfold YV; simp; omega
theorem UV {rs : List (List Str)} {m : Nat} (h : rs.map (fun ws => ws.getD 0 Str.empty) = YV m) : rs.length = 2 * m + 2 := by
 have := congrArg List.length h
 rw [List.length_map, heads_len] at this
 exact this
theorem YD.len {rs : List (List Str)} {m : Nat} (h : YD rs m) : rs.length = 2 * m + 2 := UV h.heads
open Classical in
noncomputable def XW (rs : List (List Str)) : Str := if ∃ m, YD rs m then (if ∃ m, YD rs m ∧ VS rs m then "read" else "world") else "text"
theorem Ug {rs : List (List Str)} (h : ∀ m, ¬ YD rs m) : XW rs = "text" := by
 unfold XW
 rw [if_neg]
 rintro ⟨m, q⟩
 exact h m q
theorem Ws {rs : List (List Str)} {m : Nat} (h : YD rs m) (n : ¬ VS rs m) : XW rs = "world" := by
 unfold XW
 rw [if_pos ⟨m, h⟩, if_neg]
 rintro ⟨m', q1, q2⟩
 have : m' = m := by have := q1.len; have := h.len; omega
 subst this
 exact n q2
theorem Um {rs : List (List Str)} {m : Nat} (h : YD rs m) (n : VS rs m) : XW rs = "read" := by
 unfold XW
 rw [if_pos ⟨m, h⟩, if_pos ⟨m, h, n⟩]
theorem word_no {rs : List (List Str)} {m : Nat} (e : rs.length / 2 - 1 = m) (h : ¬ YD rs m) : XW rs = "text" := Ug fun m' q => h (by
 have := q.len
 have : m' = m := by omega
 exact this ▸ q)
structure Tame (t : Str) (rs : List (List Str)) : Prop where
 rows : WC t = rs
 len : t.length ≤ 1000000
 lines : ∀ y ∈ Txt.split t "\n", y.length ≤ 1000000
 many : rs.length ≤ 60
 wide : ∀ r ∈ rs, r.length ≤ 31
 word : ∀ r ∈ rs, ∀ w ∈ r, w.length ≤ 500
 sok : ∀ r ∈ rs, ∀ w ∈ r, PyData.strOk w = true
theorem Tame.ne {t : Str} {rs : List (List Str)} (h : Tame t rs) : ∀ r ∈ rs, r ≠ [] := fun r hr => by
 rw [← h.rows] at hr
 obtain ⟨y, _, rfl⟩ := List.mem_map.mp hr
 exact yX _ _
structure OkW (k : Nat) (w : Str) : Prop where
 nl : free 10 w
 sp : free 32 w
 asc : ∀ c ∈ w.cps.toList, c < 128
 len : w.length ≤ 8 + 2 * k
theorem strOk_asc {w : Str} (h : ∀ c ∈ w.cps.toList, c < 128) : PyData.strOk w = true := by
 unfold PyData.strOk
 rw [Array.all_eq_true_iff_forall_mem]
 intro x hx
 have := h x (Array.mem_toList_iff.mpr hx)
 exact decide_eq_true (by omega)
structure OkR (k : Nat) (r : List Str) : Prop where
 ne : r ≠ []
 len : r.length ≤ 21 + 2 * k
 all : ∀ w ∈ r, OkW k w
def OkL (k : Nat) (y : Str) : Prop := ∃ r, OkR k r ∧ y = Str.join " " r
structure OkT (k : Nat) (ls : List Str) : Prop where
 lo : 4 ≤ ls.length + k
 hi : ls.length ≤ 42 + k
 all : ∀ y ∈ ls, OkL k y
theorem OkW.up {k : Nat} {w : Str} (h : OkW k w) : OkW (k + 1) w := ⟨h.nl, h.sp, h.asc, by have := h.len; omega⟩
theorem OkR.up {k : Nat} {r : List Str} (h : OkR k r) : OkR (k + 1) r := ⟨h.ne, by have := h.len; omega, fun w m => (h.all w m).up⟩
theorem OkL.up {k : Nat} {y : Str} (h : OkL k y) : OkL (k + 1) y := let ⟨r, a, b⟩ := h; ⟨r, a.up, b⟩
theorem OkR.split {k : Nat} {r : List Str} (h : OkR k r) : Txt.split (Str.join " " r) " " = r := by
 rw [sp32]
 exact Wz h.ne fun w m => (h.all w m).sp
theorem OkR.nl {k : Nat} {r : List Str} (h : OkR k r) : free 10 (Str.join " " r) := by
 rw [sp32]
 exact Ub (by decide) fun w m => (h.all w m).nl
theorem OkR.width {k : Nat} {r : List Str} (h : OkR k r) (hk : k ≤ 2) : (Str.join " " r).length ≤ 400 := by
 have h1 := X7 " " r
 have h2 := StrLaws.sumLen_le (B := 12) r (fun y hy => by have := (h.all y hy).len; omega)
 have h3 : (" " : Str).length = 1 := by decide +kernel
 have := h.len
 rw [h3] at h1
 omega
theorem OkT.split {k : Nat} {ls : List Str} (h : OkT k ls) (hk : k ≤ 2) : Txt.split (Str.join "\n" ls) "\n" = ls := by
 rw [nl10]
 refine Wz (fun e => ?_) fun y m => ?_
 ·have := h.lo
  rw [e] at this
  simp at this
  omega
 ·obtain ⟨r, hr, rfl⟩ := h.all y m
  exact hr.nl
theorem OkT.size {k : Nat} {ls : List Str} (h : OkT k ls) (hk : k ≤ 2) : (Str.join "\n" ls).length ≤ 1000000 := by
 have h1 := X7 "\n" ls
 have h2 := StrLaws.sumLen_le (B := 400) ls (fun y hy => by obtain ⟨r, hr, rfl⟩ := h.all y hy; exact hr.width hk)
 have h3 : ("\n" : Str).length = 1 := by decide +kernel
 have := h.hi
 rw [h3] at h1
 omega
theorem OkT.tame {k : Nat} {ls : List Str} (h : OkT k ls) (hk : k ≤ 2) : ∃ rs, Tame (Str.join "\n" ls) rs := by
 refine ⟨_, rfl, h.size hk, ?_, ?_, ?_, ?_, ?_⟩
 ·rw [h.split hk]
  intro y hy
  obtain ⟨r, hr, rfl⟩ := h.all y hy
  have := hr.width hk
  omega
 ·unfold WC
  rw [h.split hk, List.length_map]
  have := h.hi
  omega
 all_goals
  unfold WC
  rw [h.split hk]
  intro r' hr'
  obtain ⟨y, hy, rfl⟩ := List.mem_map.mp hr'
  obtain ⟨r, hr, rfl⟩ := h.all y hy
  rw [hr.split]
 ·have := hr.len
  omega
 ·intro w hw
  have := (hr.all w hw).len
  omega
 ·intro w hw
  exact strOk_asc (hr.all w hw).asc
theorem asc_name {z : Str} (h : Zr z = true) : ∀ c ∈ z.cps.toList, c < 128 := fun c hc => by
 have := of_decide_eq_true (List.all_eq_true.mp (VX h) c hc)
 omega
theorem WP {z : Str} (h : Zr z = true) : OkW 0 z := ⟨qp (VX h) (by decide), qp (VX h) (by decide), asc_name h, by have := XL h; omega⟩
theorem okW_num {n : Int} (h0 : 0 ≤ n) (h1 : n < 20) : OkW 0 (Yc n) := by
 refine ⟨qc h0 h1 (by decide), qc h0 h1 (by decide), fun c hc => ?_, by have := (X4 h0 h1).1; omega⟩
 have := of_decide_eq_true (List.all_eq_true.mp (X4 h0 h1).2.2.1 c hc)
 omega
theorem Vc : OkW 0 "room" ∧ OkW 0 "ways" ∧ OkW 0 "starts" ∧ OkW 0 "fair" := by
 refine ⟨WP (by decide +kernel), WP (by decide +kernel), WP (by decide +kernel), WP (by decide +kernel)⟩
theorem okT_text {d : WD} (g : Xu d) (fw : Few d) : OkT 0 (YC d) := by
 have l := Ul g
 have := g.n1
 have := g.n20
 have rowN : ∀ (hd : Str) (ss : List Str), OkW 0 hd → (∀ x ∈ ss, Zr x = true) → ss.length ≤ 20 → OkL 0 (Zp hd ss) := fun hd ss h1 h2 h3 => ⟨hd :: ss, ⟨by simp, by simp; omega, fun w m => by
  rcases List.mem_cons.mp m with rfl | m
  ·exact h1
  ·exact WP (h2 w m)⟩, rfl⟩
 have rowI : ∀ (hd : Str) (ns : List Int), OkW 0 hd → (∀ n ∈ ns, 0 ≤ n ∧ n < 20) → ns.length ≤ 20 → OkL 0 (Zp hd (ns.map Yc)) := fun hd ns h1 h2 h3 => ⟨hd :: ns.map Yc, ⟨by simp, by simp; omega, fun w m => by
  rcases List.mem_cons.mp m with rfl | m
  ·exact h1
  ·obtain ⟨n, hn, rfl⟩ := List.mem_map.mp m
   exact okW_num (h2 n hn).1 (h2 n hn).2⟩, rfl⟩
 refine ⟨by omega, by omega, fun y hy => ?_⟩
 unfold YC at hy
 rcases List.mem_append.mp hy with hy | hy
 ·rcases List.mem_append.mp hy with hy | hy
  ·obtain ⟨ss, hs, rfl⟩ := List.mem_map.mp hy
   exact rowN _ ss Vc.1 (g.sn ss hs).2.1 (by have := fw ss hs; omega)
  ·obtain ⟨ns, hs, rfl⟩ := List.mem_map.mp hy
   exact rowI _ ns Vc.2.1 (g.num (.inl hs)) (g.wn ns hs).2.2.2
 ·rcases (by simpa using hy : y = Zp "starts" (d.starts.map Yc) ∨ y = Zp "fair" d.fair) with rfl | rfl
  ·exact rowI _ _ Vc.2.2.1 (g.num (.inr rfl)) g.stn.2.2.2
  ·exact rowN _ _ Vc.2.2.2 g.fn.2.1 (by have := g.fn.2.2; omega)
theorem xt {n : Int} (h0 : 0 ≤ n) (h1 : n < 20) : YA (Yc n) = n := by unfold YA; rw [num_read h0 h1]; rfl
theorem num_is {n : Int} (h0 : 0 ≤ n) (h1 : n < 20) : Yn (Yc n) = true := by
 obtain ⟨f1, f2, f3, f4⟩ := X4 h0 h1
 unfold Yn
 rw [decide_eq_true f2, decide_eq_true (by omega : (Yc n).length ≤ 6)]
 simp only [Bool.true_and, Bool.and_eq_true, Bool.or_eq_true]
 refine ⟨f3, ?_⟩
 rcases f4 with e | e
 ·exact .inl (decide_eq_true e)
 ·exact .inr (decide_eq_true e)
theorem nums_back {ns : List Int} (h : ∀ n ∈ ns, 0 ≤ n ∧ n < 20) : (ns.map Yc).map YA = ns := by
 rw [List.map_map]
 refine (List.map_congr_left fun n hn => ?_).trans (List.map_id ns)
 exact xt (h n hn).1 (h n hn).2
structure SrtW (d : WD) : Prop where
 s : ∀ ss ∈ d.signs, upS ss
 w : ∀ ns ∈ d.ways, upI ns
 st : upI d.starts
theorem srtW_sort {d : WD} (g : Xu d) : SrtW (sortW d) := by
 refine ⟨fun ss hs => ?_, fun ns hs => ?_, xh g.stn.1⟩
 ·obtain ⟨zs, hz, rfl⟩ := List.mem_map.mp hs
  exact upS_sort (g.sn zs hz).1
 ·obtain ⟨zs, hz, rfl⟩ := List.mem_map.mp hs
  exact xh (g.wn zs hz).1
theorem rows_text {d : WD} (g : Xu d) : WC (UA d) = Y5 d := by
 unfold WC
 rw [vH g, words_of g]
theorem yE {d : WD} (g : Xu d) {i : Nat} {ws : List Str} (h1 : d.signs.length ≤ i) (h2 : i ≤ 2 * d.signs.length) (e : (Y5 d)[i]? = some ws) : ∃ ns, ws.drop 1 = ns.map Yc ∧ (ns ∈ d.ways ∨ ns = d.starts) := by
 have wl := g.wl
 by_cases h : i = 2 * d.signs.length
 ·rw [h, yf g] at e
  cases e
  exact ⟨_, rfl, .inr rfl⟩
 ·have hi : i - d.signs.length < d.ways.length := by omega
  have := words_way g hi
  rw [show d.signs.length + (i - d.signs.length) = i by omega, e] at this
  cases this
  exact ⟨_, rfl, .inl (List.getElem_mem hi)⟩
theorem yB {d : WD} (g : Xu d) (s : SrtW d) : YD (Y5 d) d.signs.length := by
 have sign : ∀ (i : Nat) ws, i < d.signs.length → (Y5 d)[i]? = some ws → ∃ ss ∈ d.signs, ws.drop 1 = ss := fun i ws hi e => by
  rw [xT hi] at e
  cases e
  exact ⟨_, List.getElem_mem hi, rfl⟩
 refine ⟨xr g, fun i ws hi e => ?_, fun i ws hi e => ?_, fun i ws h1 h2 e w hw => ?_, fun i ws h1 h2 e => ?_, fun ws e => ?_⟩
 ·obtain ⟨ss, hs, q⟩ := sign i ws hi e
  rw [q]
  exact (g.sn ss hs).2.1
 ·obtain ⟨ss, hs, q⟩ := sign i ws hi e
  rw [q]
  exact s.s ss hs
 ·obtain ⟨ns, q, hn⟩ := yE g h1 h2 e
  rw [q] at hw
  obtain ⟨n, hm, rfl⟩ := List.mem_map.mp hw
  exact num_is (g.num hn n hm).1 (g.num hn n hm).2
 ·obtain ⟨ns, q, hn⟩ := yE g h1 h2 e
  rw [q, nums_back (g.num hn)]
  rcases hn with hn | rfl
  ·exact s.w ns hn
  ·exact s.st
 ·rw [Vz g] at e
  cases e
  exact g.fn.2.1
theorem vv {d : WD} (g : Xu d) : VS (Y5 d) d.signs.length := by
 refine ⟨g.n1, g.n20, fun i ws h1 h2 e => ?_, fun ws e => ?_, fun ws e => ?_⟩
 ·obtain ⟨ns, q, hn⟩ := yE g h1 h2 e
  rw [q]
  have ne : ns ≠ [] ∧ ∀ n ∈ ns, n < d.signs.length := by
   rcases hn with hn | rfl
   ·exact ⟨(g.wn ns hn).2.1, fun n m => ((g.wn ns hn).2.2.1 n m).2⟩
   ·exact ⟨g.stn.2.1, fun n m => (g.stn.2.2.1 n m).2⟩
  refine ⟨fun z => ne.1 (List.map_eq_nil_iff.mp z), fun w hw => ?_⟩
  obtain ⟨n, hm, rfl⟩ := List.mem_map.mp hw
  rw [xt (g.num hn n hm).1 (g.num hn n hm).2]
  exact ne.2 n hm
 ·rw [Vz g] at e
  cases e
  exact g.fn.2.2
 ·rw [Vz g] at e
  cases e
  exact g.fn.1
theorem read_text {d : WD} (g : Xu d) (s : SrtW d) : XW (Y5 d) = "read" := Um (yB g s) (vv g)
theorem zV {rs : List (List Str)} {r : List Str} (h : r.getD 0 Str.empty ≠ "fair") : XW (rs ++ [r]) = "text" := Ug fun m q => by
 have e := q.heads
 rw [List.map_append] at e
 unfold YV at e
 have e2 : rs.map (fun ws => ws.getD 0 Str.empty) ++ [r.getD 0 Str.empty] = (List.replicate m ("room" : Str) ++ List.replicate m ("ways" : Str) ++ (["starts"] : List Str)) ++ (["fair"] : List Str) := by
  rw [List.append_assoc (List.replicate m ("room" : Str) ++ List.replicate m ("ways" : Str))]
  exact e
 have := (List.append_inj' e2 rfl).2
 exact h (by simpa using this)
def upC (c : Nat) : Nat := if 97 ≤ c ∧ c ≤ 122 then c - 32 else c
theorem upper_tab : ((List.range 128).all fun c => decide (Unicode.upperOf c = [upC c])) = true := by decide +kernel
theorem upper_asc {c : Nat} (h : c < 128) : Unicode.upperOf c = [upC c] := of_decide_eq_true (List.all_eq_true.mp upper_tab c (List.mem_range.mpr h))
theorem xj (x : Str) (g : Nat → List Nat) : (placed x fun _ c => g c).toList = x.cps.toList.flatMap g := by
 unfold placed
 rw [List.flatMap_def]
 have e : (x.cps.mapIdx fun _ c => (g c).toArray) = x.cps.map fun c => (g c).toArray := by
  apply Array.ext
  ·simp
  ·intro i h1 h2
   simp
 rw [e, Array.toList_flatten]
 simp
 rfl
theorem upper_cps {w : Str} (h : ∀ c ∈ w.cps.toList, c < 128) : (Txt.upper w).cps.toList = w.cps.toList.map upC := by
 show (placed w fun _ c => Unicode.upperOf c).toList = _
 rw [xj]
 generalize w.cps.toList = l at h
 induction l with
 | nil => rfl
 | cons c r ih =>
  rw [List.flatMap_cons, upper_asc (h c (by simp)), ih fun d hd => h d (List.mem_cons_of_mem _ hd)]
  rfl
theorem okW_upper {k : Nat} {w : Str} (h : OkW k w) : OkW k (Txt.upper w) := by
 have e := upper_cps h.asc
 have back : ∀ c, upC c = 10 ∨ upC c = 32 → c = upC c := fun c q => by unfold upC at *; split at q <;> split <;> omega
 refine ⟨fun m => ?_, fun m => ?_, fun c m => ?_, ?_⟩
 ·rw [e] at m
  obtain ⟨c, hc, q⟩ := List.mem_map.mp m
  have := back c (.inl q)
  exact h.nl (by rw [this, q] at hc; exact hc)
 ·rw [e] at m
  obtain ⟨c, hc, q⟩ := List.mem_map.mp m
  have := back c (.inr q)
  exact h.sp (by rw [this, q] at hc; exact hc)
 ·rw [e] at m
  obtain ⟨d, hd, rfl⟩ := List.mem_map.mp m
  have := h.asc d hd
  unfold upC
  split <;> omega
 ·have := h.len
  have e2 := congrArg List.length e
  rw [List.length_map, XZ, XZ] at e2
  omega
theorem app_len (a b : Str) : (a ++ b).length = a.length + b.length := by
 rw [← XZ, ← XZ, ← XZ, Str.cps_append]
 simp
theorem okW_app {k : Nat} {a b : Str} (ha : OkW k a) (hb : OkW 0 b) (hl : b.length ≤ 1) : OkW (k + 1) (a ++ b) := by
 refine ⟨fun m => ?_, fun m => ?_, fun c m => ?_, ?_⟩
 ·rw [Str.cps_append, Array.toList_append] at m
  exact (List.mem_append.mp m).elim ha.nl hb.nl
 ·rw [Str.cps_append, Array.toList_append] at m
  exact (List.mem_append.mp m).elim ha.sp hb.sp
 ·rw [Str.cps_append, Array.toList_append] at m
  exact (List.mem_append.mp m).elim (ha.asc c) (hb.asc c)
 ·rw [app_len]
  have := ha.len
  omega
theorem okW_pre {k : Nat} {a b : Str} (ha : OkW k a) (hb : OkW 0 b) (hl : b.length ≤ 1) : OkW (k + 1) (b ++ a) := by
 refine ⟨fun m => ?_, fun m => ?_, fun c m => ?_, ?_⟩
 ·rw [Str.cps_append, Array.toList_append] at m
  exact (List.mem_append.mp m).elim hb.nl ha.nl
 ·rw [Str.cps_append, Array.toList_append] at m
  exact (List.mem_append.mp m).elim hb.sp ha.sp
 ·rw [Str.cps_append, Array.toList_append] at m
  exact (List.mem_append.mp m).elim (hb.asc c) (ha.asc c)
 ·rw [app_len]
  have := ha.len
  omega
def okB (w : Str) : Bool := w.cps.toList.all fun c => decide (c < 128 ∧ c ≠ 10 ∧ c ≠ 32)
theorem VC {k : Nat} {w : Str} (h : okB w = true) (hl : w.length ≤ 10) : OkW (k + 1) w := by
 have q : ∀ c ∈ w.cps.toList, c < 128 ∧ c ≠ 10 ∧ c ≠ 32 := fun c m => of_decide_eq_true (List.all_eq_true.mp h c m)
 exact ⟨fun m => (q _ m).2.1 rfl, fun m => (q _ m).2.2 rfl, fun c m => (q c m).1, by omega⟩
theorem yC {w : Str} (h : okB w = true) (hl : w.length ≤ 8) : OkW 0 w := by
 have q : ∀ c ∈ w.cps.toList, c < 128 ∧ c ≠ 10 ∧ c ≠ 32 := fun c m => of_decide_eq_true (List.all_eq_true.mp h c m)
 exact ⟨fun m => (q _ m).2.1 rfl, fun m => (q _ m).2.2 rfl, fun c m => (q c m).1, by omega⟩
def Bits (k : Nat) (z : Str) : Prop := ∃ ys : List Str, ys ≠ [] ∧ ys.length ≤ 2 ∧ (∀ v ∈ ys, OkW k v) ∧ z = Str.join " " ys
theorem Bits.one {k : Nat} {z : Str} (h : OkW k z) : Bits k z := ⟨[z], by simp, by simp, fun v m => by rw [List.mem_singleton.mp m]; exact h, rfl⟩
theorem nil_len : ("" : Str).length = 0 := by decide +kernel
theorem VF {k : Nat} : OkW k ("" : Str) := ⟨by show (10 : Nat) ∉ ("" : Str).cps.toList; decide +kernel, by show (32 : Nat) ∉ ("" : Str).cps.toList; decide +kernel, by decide +kernel, by rw [nil_len]; omega⟩
theorem Bits.two {k : Nat} {w : Str} (h : OkW k w) : Bits k (w ++ (" " : Str)) := by
 refine ⟨[w, ""], by simp, by simp, fun v m => ?_, ?_⟩
 ·rcases List.mem_cons.mp m with rfl | m
  ·exact h
  ·rw [List.mem_singleton.mp m]; exact VF
 ·apply W0
  rw [sp32, XC, Str.cps_append]
  simp [Str.join]
  decide +kernel
def VA (w : Str) : List Str := ["", "0" ++ w, w ++ "0", "-" ++ w, w ++ "q", Txt.upper w, w ++ " ", "99", "room", "ninelette", "7", "1234567", "100000"]
theorem xp : (okB "0" = true ∧ okB "-" = true ∧ okB "q" = true ∧ okB "99" = true ∧ okB "room" = true ∧ okB "ninelette" = true ∧ okB "7" = true ∧ okB "1234567" = true ∧ okB "100000" = true) ∧
 (("0" : Str).length ≤ 1 ∧ ("-" : Str).length ≤ 1 ∧ ("q" : Str).length ≤ 1 ∧ ("99" : Str).length ≤ 10 ∧ ("room" : Str).length ≤ 10 ∧ ("ninelette" : Str).length ≤ 10 ∧ ("7" : Str).length ≤ 10 ∧ ("1234567" : Str).length ≤ 10 ∧ ("100000" : Str).length ≤ 10) := by
 decide +kernel
theorem spoils_ok {k : Nat} {w : Str} (h : OkW k w) : ∀ z ∈ VA w, Bits (k + 1) z := by
 obtain ⟨⟨a1, a2, a3, a4, a5, a6, a7, a8, a9⟩, b1, b2, b3, b4, b5, b6, b7, b8, b9⟩ := xp
 have e0 : OkW 0 "0" := yC a1 (by omega)
 have e1 : OkW 0 "-" := yC a2 (by omega)
 have e2 : OkW 0 "q" := yC a3 (by omega)
 intro z hz
 unfold VA at hz
 simp only [List.mem_cons, List.not_mem_nil, or_false] at hz
 rcases hz with rfl | rfl | rfl | rfl | rfl | rfl | rfl | rfl | rfl | rfl | rfl | rfl | rfl
 ·exact .one VF
 ·exact .one (okW_pre h e0 b1)
 ·exact .one (okW_app h e0 b1)
 ·exact .one (okW_pre h e1 b2)
 ·exact .one (okW_app h e2 b3)
 ·exact .one (okW_upper h).up
 ·exact .two h.up
 ·exact .one (VC a4 b4)
 ·exact .one (VC a5 b5)
 ·exact .one (VC a6 b6)
 ·exact .one (VC a7 b7)
 ·exact .one (VC a8 b8)
 ·exact .one (VC a9 b9)
theorem Wk {c : Nat} : ∀ {a b : List Str}, a ≠ [] → b ≠ [] → (Str.join ⟨#[c]⟩ (a ++ b)).cps.toList = (Str.join ⟨#[c]⟩ a).cps.toList ++ c :: (Str.join ⟨#[c]⟩ b).cps.toList
 | [], _, h, _ => absurd rfl h
 | [x], [], _, h => absurd rfl h
 | [x], y :: r, _, _ => XC c x y r
 | x :: z :: a, b, _, h => by
  show (Str.join ⟨#[c]⟩ (x :: z :: (a ++ b))).cps.toList = _
  rw [XC, XC, List.append_assoc, List.cons_append]
  have := Wk (c := c) (a := z :: a) (b := b) (by simp) h
  rw [← this]
  rfl
theorem join_bits {a ys b : List Str} (h : ys ≠ []) : Str.join " " (a ++ [Str.join " " ys] ++ b) = Str.join " " (a ++ ys ++ b) := by
 apply W0
 rw [sp32]
 have one : (Str.join ⟨#[32]⟩ [Str.join ⟨#[32]⟩ ys]).cps.toList = (Str.join ⟨#[32]⟩ ys).cps.toList := rfl
 have m : (Str.join ⟨#[32]⟩ (a ++ [Str.join ⟨#[32]⟩ ys])).cps.toList = (Str.join ⟨#[32]⟩ (a ++ ys)).cps.toList := by
  by_cases ha : a = []
  ·subst ha; rfl
  ·rw [Wk ha (by simp), Wk ha h, one]
 by_cases hb : b = []
 ·subst hb; rw [List.append_nil, List.append_nil]; exact m
 ·rw [Wk (by simp) hb, Wk (by simp [h]) hb, m]
theorem yb {k : Nat} {ws : List Str} (h : ∀ w ∈ ws, OkW k w) (hl : ws.length ≤ 21 + 2 * k) : OkL k (Str.join " " ws) := by
 by_cases e : ws = []
 ·subst e
  refine ⟨[""], ⟨by simp, by simp; omega, fun w m => by rw [List.mem_singleton.mp m]; exact VF⟩, ?_⟩
  show Str.empty = ("" : Str)
  decide +kernel
 ·exact ⟨ws, ⟨e, hl, h⟩, rfl⟩
theorem okL_bits {k : Nat} {a b : List Str} {z : Str} (hz : Bits k z) (ha : ∀ w ∈ a, OkW k w) (hb : ∀ w ∈ b, OkW k w) (hl : a.length + b.length + 2 ≤ 21 + 2 * k) : OkL k (Str.join " " (a ++ [z] ++ b)) := by
 obtain ⟨ys, h1, h2, h3, rfl⟩ := hz
 rw [join_bits h1]
 refine yb (fun w m => ?_) (by simp; omega)
 rcases List.mem_append.mp m with m | m
 ·exact (List.mem_append.mp m).elim (ha w) (h3 w)
 ·exact hb w m
section
variable {X : Cx} {K : PySem.W.Frag}
inductive y9 (x : V) (vs : List V) (H : Hp) (Q : VK) : Prop
 | mk (z : _) (h0 : x = .str z) (h1 : vs = []) (h2 : z.length ≤ 100000) (h3 : Q (.str (Txt.upper z)) H) : y9 x vs H Q
def rUpper : V → List V → Hp → VK → Prop := fun x vs H Q => y9 x vs H Q
theorem mt_upper : MtM X "str.upper" rUpper := by
 intro pins s σ H x vs v us Q I rx rv h
 obtain ⟨z, rfl, rfl, hl, q⟩ := h
 obtain ⟨t, rfl⟩ := (show ∃ t, v = Value.str z t from rx)
 have : us = [] := by cases rv; rfl
 subst this
 exact PySem.SC.upper (fit_upper (by omega)) ⟨.str _, H, I.tok _, ⟨_, rfl⟩, q⟩
inductive rInL_R (K : PySem.W.Frag) (x : V) (y : V) (H : Hp) (Q : VK) : Prop
 | mk (ds : _) (d : _) (h0 : Dp K H y (.list ds)) (h1 : Dp K H x d) (h2 : PyData.canLayAll0 ds = true) (h3 : d.canLay0 = true) (h4 : d.depth ≤ 60) (h5 : Q (.bl (ds.any fun z => PyData.eqv z d)) H) : rInL_R K x y H Q
def rInL (K : PySem.W.Frag) : R2 := fun x y H Q => rInL_R K x y H Q
theorem op_inL (hK : X.K = K) (hu : X.A.units + 64 < cLine) : OpR X (compareOp .In) (rInL K) := by
 subst hK
 intro pins s σ H x y u v Q I rx ry h
 obtain ⟨ds, d, hy, hx, c1, c2, dp, q⟩ := h
 obtain ⟨as, a⟩ := hy.reads I ry
 obtain ⟨bs, b⟩ := hx.reads I rx
 exact SeqAt.in_list_reads a b c1 c2 (by have := Nat.min_le_right (PyData.depthAll ds) d.depth; omega) ⟨.bl _, H, I, rfl, q⟩
theorem fn_or2 {P : Program} {w : PySem.World} {mg : Str → Option Value} {base : Heap} {CX : CXT} {k : Nat} {f : Addr} {fd : FuncData} {ps : List Str} {s1 s2 : Sp} (F : Yr P w K mg base CX k f fd ps s1) (G : Yr P w K mg base CX k f fd ps s2) :
  Yr P w K mg base CX k f fd ps (fun vs H Q E => s1 vs H Q E ∨ s2 vs H Q E) :=
 ⟨fun vs H Q E h => h.elim (F.len vs H Q E) (G.len vs H Q E), fun A outer s H args us vs Q E hr e0 hb r h => h.elim (F.run A outer s H args us vs Q E hr e0 hb r) (G.run A outer s H args us vs Q E hr e0 hb r)⟩
theorem psx_expr2 {e : Expr} {pos : Pos} {X5 : List Stmt} {te : L2.St → Hp → VK → XK → Prop} {t : L2.TS} (h0 : PEx X e te) (h1 : PSs X.nox X5 t) (hs : swapsWith e none pos.line X.env = pure false := by rfl) :
  PSx X (.Expr e pos :: X5) (fun D E σ H => te σ H (fun _ H1 => t D σ H1) (fun e c H1 => E e c σ H1)) := by
 intro pins s σ H D E I h
 refine wpAny_execs_cons (wpAny_Expr_any (wpAny_mono (h0 pins s σ H _ _ I h) (fun v s1 q => ?_) fun v s1 z => ?_) I.quiet hs)
 ·obtain ⟨y, H1, I1, r1, q1⟩ := q
  exact wpAny_mono (h1 pins s1 σ H1 D (I1.wish _) q1) (fun _ _ q => q.unwish) fun _ _ z => False.elim z
 ·exact xp_mono (fun e c σ' H' ⟨q1, q2⟩ => by subst q1; exact q2) z
theorem exm_of {t c : Value} (h1 : PySem.W.subIn K c (.type "BaseException") = some true) (h2 : (t == c) = false) (h3 : PySem.W.kitOne K t c = some true) : PySem.W.exmOne K t c = some true := by
 unfold PySem.W.exmOne
 rw [h1, if_pos (by rfl)]
 unfold PySem.W.kitOne at h3
 rw [h2, if_neg Bool.false_ne_true] at h3
 exact h3
theorem refs4 {a b c d : Addr} : ∀ v ∈ [V.ref a, V.ref b, V.ref c, V.ref d], ∃ C, v = V.ref C := by
 intro v hv
 simp only [List.mem_cons, List.not_mem_nil, or_false] at hv
 rcases hv with h | h | h | h <;> exact ⟨_, h⟩
theorem vals4 {a b c d : Addr} : Zx [V.ref a, V.ref b, V.ref c, V.ref d] [.ref a, .ref b, .ref c, .ref d] := .cons rfl (.cons rfl (.cons rfl (.cons rfl .nil)))
end
theorem WZ {J : It} {D : Addr} {xs : List V} {tt : TT} {te : TE} {τ : L3.St} {H0 : Hp} {Q : VK} (hD : H0 D = none) (hz : xs.length ≤ sizeLine) (p : V → Bool)
  (hgo : ∀ (i : Nat) H, i < xs.length → Zn H0 H → J.go i H) (hst : ∀ H, Zn H0 H → J.stop xs.length H) (hy : ∀ (i : Nat) H x H2, i < xs.length → Zn H0 H → J.yld i H x H2 → H2 = H ∧ xs[i]? = some x)
  (step : ∀ (i : Nat) x H (N : Bool → Hp → Prop), xs[i]? = some x → Zn H0 H → (∀ H', Zn H H' → N (p x) H') → tt (some x :: τ) H N) (elt : ∀ x H (N : V → Hp → Prop), N x H → te (some x :: τ) H N)
  (fin : ∀ H', H' D = some (.lst (xs.filter p)) → Zn H0 H' → Q (.ref D) H') : zu J D (Wi 0) tt te (none :: τ) H0 Q := by
 have hlen : ∀ i, ((xs.take i).filter p).length ≤ i := fun i => Nat.le_trans (List.length_filter_le ..) (by rw [List.length_take]; omega)
 refine XE (n := xs.length) (fun i σ H => ∃ z, σ = z :: τ ∧ H D = some (.lst ((xs.take i).filter p)) ∧ Zn H0 H) ?_ ?_ ?_ ?_ ?_
 ·exact ⟨none, rfl, by rw [Zd]; rfl, Zf hD⟩
 ·rintro i σ H hi ⟨z, rfl, _, s⟩
  exact hgo i H hi s
 ·rintro σ H ⟨z, rfl, _, s⟩
  exact hst H s
 ·rintro i x σ H H2 hi ⟨z, rfl, hd, s⟩ hyl N N0 hN hN0
  obtain ⟨rfl, hx⟩ := hy i H x H2 hi s hyl
  have et : xs.take (i + 1) = xs.take i ++ [x] := by
   rw [List.take_add_one, hx]
   rfl
  show tt (some x :: τ) H2 _
  refine step i x H2 _ hx s fun H3 s3 => ?_
  have hd3 := s3 _ _ hd
  have s03 := s.trans s3
  cases hp : p x with
  | true =>
   rw [if_pos rfl]
   refine elt x H3 _ (hN x _ H3 _ hd3 (by have := hlen i; omega) ⟨some x, rfl, ?_, (ZF.upd (Zn.x s03)).same hD⟩)
   rw [Zd, et, List.filter_append]
   simp [hp]
  | false =>
   rw [if_neg Bool.false_ne_true]
   refine hN0 _ H3 ⟨some x, rfl, ?_, s03⟩
   rw [hd3, et, List.filter_append]
   simp [hp]
 ·rintro σ H ⟨z, rfl, hd, s⟩
  rw [List.take_length] at hd
  exact fin H hd s
def chV (c : Nat) : V := .str ⟨#[c]⟩
def badV : V → Bool
 | .str z => !(z.cps.toList.all Xs)
 | _ => false
def UD : V → Bool
 | .str z => !(z.cps.toList.all WG)
 | _ => false
theorem xn (c : Nat) : decide (c ∈ ("0123456789" : Str).cps.toList) = WG c := by
 have e : ("0123456789" : Str).cps.toList = (List.range 10).map (· + 48) := by decide +kernel
 rw [e]
 unfold WG
 refine decide_eq_decide.mpr ?_
 rw [List.mem_map]
 constructor
 ·rintro ⟨k, hk, rfl⟩
  have := List.mem_range.mp hk
  omega
 ·rintro ⟨h1, h2⟩
  exact ⟨c - 48, List.mem_range.mpr (by omega), by omega⟩
theorem WO : ∀ a b : List Str, PyData.eqvAll (a.map PyData.str) (b.map PyData.str) = decide (a = b)
 | [], [] => by simp [PyData.eqvAll]
 | [], y :: b => by simp [PyData.eqvAll]
 | x :: a, [] => by simp [PyData.eqvAll]
 | x :: a, y :: b => by
  rw [List.map_cons, List.map_cons, PyData.eqvAll, WO a b]
  by_cases h1 : x = y
  ·by_cases h2 : a = b <;> simp [PyData.eqv, h1, h2]
  ·simp [PyData.eqv, h1]
theorem eqS {K : PySem.W.Frag} {H : Hp} {p q : Addr} {a b : List Str} {Q : VK} (ha : ∀ s ∈ a, PyData.strOk s = true) (hb : ∀ s ∈ b, PyData.strOk s = true) (h1 : H p = some (.lst (a.map V.str))) (h2 : H q = some (.lst (b.map V.str))) (k : Q (.bl (decide (a = b))) H) : rEqD K false (.ref p) (.ref q) H Q := by
 have fa : VV 1 (dS a) := zU fun x hx => ⟨by simp [PyData.canLay0, ha x hx], by simp [PyData.depth]⟩
 have fb : VV 1 (dS b) := zU fun x hx => ⟨by simp [PyData.canLay0, hb x hx], by simp [PyData.depth]⟩
 refine ⟨dS a, dS b, LS.dp ⟨p, rfl, h1⟩, LS.dp ⟨q, rfl, h2⟩, fa.1, fb.1, Nat.le_trans fa.2 (by decide), ?_⟩
 have e : PyData.eqv (dS a) (dS b) = decide (a = b) := by
  rw [dS, dS, PyData.eqv]
  exact WO a b
 rw [e]
 exact k
theorem neS {K : PySem.W.Frag} {H : Hp} {p q : Addr} {a b : List Str} {Q : VK} (ha : ∀ s ∈ a, PyData.strOk s = true) (hb : ∀ s ∈ b, PyData.strOk s = true) (h1 : H p = some (.lst (a.map V.str))) (h2 : H q = some (.lst (b.map V.str))) (k : Q (.bl (!decide (a = b))) H) : rEqD K true (.ref p) (.ref q) H Q := by
 have fa : VV 1 (dS a) := zU fun x hx => ⟨by simp [PyData.canLay0, ha x hx], by simp [PyData.depth]⟩
 have fb : VV 1 (dS b) := zU fun x hx => ⟨by simp [PyData.canLay0, hb x hx], by simp [PyData.depth]⟩
 refine ⟨dS a, dS b, LS.dp ⟨p, rfl, h1⟩, LS.dp ⟨q, rfl, h2⟩, fa.1, fb.1, Nat.le_trans fa.2 (by decide), ?_⟩
 have e : PyData.eqv (dS a) (dS b) = decide (a = b) := by
  rw [dS, dS, PyData.eqv]
  exact WO a b
 rw [e]
 exact k
def dOf (rs : List (List Str)) (m : Nat) : WD := ⟨(rs.take m).map fun r => r.drop 1, ((rs.drop m).take m).map fun r => (r.drop 1).map YA, ((rs.getD (2 * m) []).drop 1).map YA, (rs.getD (2 * m + 1) []).drop 1⟩
theorem upS_nd {ss : List Str} (h : upS ss) : ss.Nodup := h.imp fun {a b} q e => by subst e; exact List.lt_irrefl _ q
theorem upI_nd {ns : List Int} (h : upI ns) : ns.Nodup := h.imp fun {a b} q e => by omega
section
variable {rs : List (List Str)} {m : Nat}
theorem d_sign (hl : rs.length = 2 * m + 2) {i : Nat} (hi : i < m) : (dOf rs m).signs[i]? = (rs[i]?).map fun r => r.drop 1 := by
 show ((rs.take m).map fun r => r.drop 1)[i]? = _
 rw [List.getElem?_map, List.getElem?_take_of_lt hi]
theorem d_way (hl : rs.length = 2 * m + 2) {i : Nat} (hi : i < m) : (dOf rs m).ways[i]? = (rs[m + i]?).map fun r => (r.drop 1).map YA := by
 show (((rs.drop m).take m).map fun r => (r.drop 1).map YA)[i]? = _
 rw [List.getElem?_map, List.getElem?_take_of_lt hi, List.getElem?_drop]
theorem Ue (hl : rs.length = 2 * m + 2) : (dOf rs m).signs.length = m := by
 show ((rs.take m).map fun r => r.drop 1).length = m
 rw [List.length_map, List.length_take]; omega
theorem qz (hl : rs.length = 2 * m + 2) : (dOf rs m).ways.length = m := by
 show (((rs.drop m).take m).map fun r => (r.drop 1).map YA).length = m
 rw [List.length_map, List.length_take, List.length_drop]; omega
theorem qO (hl : rs.length = 2 * m + 2) {ss : List Str} (h : ss ∈ (dOf rs m).signs) : ∃ (i : Nat) (ws : List Str), i < m ∧ rs[i]? = some ws ∧ ss = ws.drop 1 := by
 obtain ⟨i, hi, e⟩ := List.getElem_of_mem h
 rw [Ue hl] at hi
 have q := d_sign hl hi
 rw [List.getElem?_eq_getElem (by rw [Ue hl]; exact hi), e, List.getElem?_eq_getElem (by omega)] at q
 exact ⟨i, rs[i], hi, List.getElem?_eq_getElem (by omega), Option.some.inj q⟩
theorem zL (hl : rs.length = 2 * m + 2) {ns : List Int} (h : ns ∈ (dOf rs m).ways) : ∃ (i : Nat) (ws : List Str), m ≤ i ∧ i ≤ 2 * m ∧ rs[i]? = some ws ∧ ns = (ws.drop 1).map YA := by
 obtain ⟨i, hi, e⟩ := List.getElem_of_mem h
 rw [qz hl] at hi
 have q := d_way hl hi
 rw [List.getElem?_eq_getElem (by rw [qz hl]; exact hi), e, List.getElem?_eq_getElem (by omega)] at q
 exact ⟨m + i, rs[m + i], by omega, by omega, List.getElem?_eq_getElem (by omega), Option.some.inj q⟩
theorem VW (hl : rs.length = 2 * m + 2) : ∃ ws, rs[2 * m]? = some ws ∧ (dOf rs m).starts = (ws.drop 1).map YA := by
 have h : 2 * m < rs.length := by omega
 refine ⟨rs[2 * m], List.getElem?_eq_getElem h, ?_⟩
 show ((rs.getD (2 * m) []).drop 1).map YA = _
 rw [List.getD_eq_getElem?_getD, List.getElem?_eq_getElem h]
 rfl
theorem qx (hl : rs.length = 2 * m + 2) : ∃ ws, rs[2 * m + 1]? = some ws ∧ (dOf rs m).fair = ws.drop 1 := by
 have h : 2 * m + 1 < rs.length := by omega
 refine ⟨rs[2 * m + 1], List.getElem?_eq_getElem h, ?_⟩
 show (rs.getD (2 * m + 1) []).drop 1 = _
 rw [List.getD_eq_getElem?_getD, List.getElem?_eq_getElem h]
 rfl
theorem good_of (w : YD rs m) (k : VS rs m) (hw : ∀ r ∈ rs, r.length ≤ 31) : Xu (dOf rs m) := by
 have hl := w.len
 have e := Ue hl
 have nums : ∀ (i : Nat) ws, m ≤ i → i ≤ 2 * m → rs[i]? = some ws → ((ws.drop 1).map YA).Nodup ∧ (ws.drop 1).map YA ≠ [] ∧ (∀ x ∈ (ws.drop 1).map YA, 0 ≤ x ∧ x < (m : Int)) ∧ ((ws.drop 1).map YA).length ≤ 20 := fun i ws h1 h2 h3 => by
  obtain ⟨n1, n2⟩ := k.nums i ws h1 h2 h3
  have nd := upI_nd (w.upn i ws h1 h2 h3)
  have bd : ∀ x ∈ (ws.drop 1).map YA, 0 ≤ x ∧ x < (m : Int) := fun x hx => by
   obtain ⟨z, hz, rfl⟩ := List.mem_map.mp hx
   exact ⟨(yg (w.nums i ws h1 h2 h3 z hz)).2.1, n2 z hz⟩
  exact ⟨nd, fun q => n1 (List.map_eq_nil_iff.mp q), bd, Nat.le_trans (Ut m _ nd bd) k.most⟩
 refine ⟨by rw [e]; exact k.one, by rw [e]; exact k.most, by rw [e, qz hl], fun ss hs => ?_, fun ns hs => ?_, ?_, ?_⟩
 ·obtain ⟨i, ws, hi, h1, rfl⟩ := qO hl hs
  refine ⟨upS_nd (w.up i ws hi h1), w.names i ws hi h1, ?_⟩
  have := hw ws (List.mem_of_getElem? h1)
  rw [List.length_drop]; omega
 ·obtain ⟨i, ws, h1, h2, h3, rfl⟩ := zL hl hs
  rw [e]
  exact nums i ws h1 h2 h3
 ·obtain ⟨ws, h1, h2⟩ := VW hl
  rw [h2, e]
  exact nums (2 * m) ws (by omega) (Nat.le_refl _) h1
 ·obtain ⟨ws, h1, h2⟩ := qx hl
  rw [h2]
  exact ⟨k.nd ws h1, w.fair ws h1, k.few ws h1⟩
theorem vK {H : Hp} {v1 v2 v3 v4 : V} {d : WD} (pp : Y9 H v1 v2 v3 v4 d) (h : Xv H v1 v2 v3 v4 = true) :
  1 ≤ d.signs.length ∧ d.signs.length ≤ 20 ∧ (∀ ns ∈ d.ways, ns ≠ [] ∧ ∀ x ∈ ns, x < d.signs.length) ∧ (d.starts ≠ [] ∧ ∀ x ∈ d.starts, x < d.signs.length) ∧ d.fair.Nodup ∧ d.fair.length ≤ 3 := by
 obtain ⟨⟨a1, xs, rfl, g1, l1, q1⟩, ⟨a2, ys, rfl, g2, l2, q2⟩, ⟨a3, rfl, g3⟩, a4, rfl, g4⟩ := pp
 unfold Xv at h
 rw [Z1 g1, Z1 g2] at h
 simp only [Bool.and_eq_true] at h
 obtain ⟨⟨⟨⟨⟨h1, h2⟩, h3⟩, h4⟩, h5⟩, h6, h7, h8⟩ := h
 have room : ∀ (v : V) (ns : List Int), LI H v ns → ZR H xs.length v = true → ns ≠ [] ∧ ∀ x ∈ ns, x < d.signs.length := fun v ns hv hr => by
  obtain ⟨c, rfl, hc⟩ := hv
  unfold ZR at hr
  rw [Z1 hc] at hr
  simp only [Bool.and_eq_true] at hr
  obtain ⟨⟨r1, r2⟩, r3⟩ := hr
  refine ⟨fun e => by subst e; simp at r2, fun x hx => ?_⟩
  have := List.all_eq_true.mp r1 (.int x) (List.mem_map.mpr ⟨x, hx, rfl⟩)
  unfold YM at this
  rw [Bool.and_eq_true] at this
  have := of_decide_eq_true this.2
  omega
 refine ⟨by have := of_decide_eq_true h1; omega, by have := of_decide_eq_true h2; omega, fun ns hn => ?_, room _ _ ⟨a3, rfl, g3⟩ h6, ?_, ?_⟩
 ·obtain ⟨i, hi, rfl⟩ := List.getElem_of_mem hn
  have hi' : i < ys.length := by omega
  exact room ys[i] _ (q2 i _ _ (List.getElem?_eq_getElem hi') (List.getElem?_eq_getElem hi)) (List.all_eq_true.mp h5 _ (List.getElem_mem hi'))
 ·unfold Z9 at h7
  rw [Z1 g4] at h7
  simp only [Bool.and_eq_true] at h7
  have := of_decide_eq_true h7.2
  exact XT this
 ·rw [Z1 g4] at h8
  have := of_decide_eq_true h8
  rw [List.length_map] at this
  exact this
theorem makes_of (w : YD rs m) {H : Hp} {v1 v2 v3 v4 : V} (pp : Y9 H v1 v2 v3 v4 (dOf rs m)) (h : Xv H v1 v2 v3 v4 = true) : VS rs m := by
 have hl := w.len
 obtain ⟨h1, h2, h3, h4, h5, h6⟩ := vK pp h
 rw [Ue hl] at h1 h2 h3 h4
 have back : ∀ ws : List Str, ((ws.drop 1).map YA ≠ [] ∧ ∀ x ∈ (ws.drop 1).map YA, x < (m : Int)) → ws.drop 1 ≠ [] ∧ ∀ z ∈ ws.drop 1, YA z < m := fun ws ⟨a, b⟩ => ⟨fun e => a (by rw [e]; rfl), fun z hz => b _ (List.mem_map.mpr ⟨z, hz, rfl⟩)⟩
 refine ⟨h1, h2, fun i ws a b c => ?_, fun ws c => ?_, fun ws c => ?_⟩
 ·by_cases e : i = 2 * m
  ·subst e
   obtain ⟨ws', q1, q2⟩ := VW hl
   rw [c] at q1
   cases q1
   rw [q2] at h4
   exact back ws h4
  ·have hi : i - m < m := by omega
   have q := d_way hl hi
   rw [show m + (i - m) = i by omega, c] at q
   exact back ws (h3 _ (List.mem_of_getElem? q))
 ·obtain ⟨ws', q1, q2⟩ := qx hl
  rw [c] at q1
  cases q1
  rw [q2] at h6
  exact h6
 ·obtain ⟨ws', q1, q2⟩ := qx hl
  rw [c] at q1
  cases q1
  rw [q2] at h5
  exact h5
theorem zM {H : Hp} {v : V} {ss : List Str} (h : LS H v ss) (hl : ss.length ≤ 1000) (hs : ∀ x ∈ ss, x.length ≤ 1000) : KdL H v := by
 obtain ⟨c, rfl, hc⟩ := h
 refine ⟨.lst hc, fun xs e => ?_⟩
 rw [Z1 hc] at e
 cases e
 refine ⟨by rw [List.length_map]; exact hl, fun y hy => ?_⟩
 obtain ⟨x, hx, rfl⟩ := List.mem_map.mp hy
 exact .str x (hs x hx)
theorem zT {H : Hp} {v : V} {ns : List Int} (h : LI H v ns) (hl : ns.length ≤ 1000) : KdL H v := by
 obtain ⟨c, rfl, hc⟩ := h
 refine ⟨.lst hc, fun xs e => ?_⟩
 rw [Z1 hc] at e
 cases e
 refine ⟨by rw [List.length_map]; exact hl, fun y hy => ?_⟩
 obtain ⟨x, hx, rfl⟩ := List.mem_map.mp hy
 exact .int x
theorem xw {α : Type} {r : Hp → V → α → Prop} {H : Hp} {v : V} {xs : List α} (h : LL r H v xs) (hl : xs.length ≤ 1000) (hk : ∀ u x, x ∈ xs → r H u x → KdL H u) : KdLL H v := by
 obtain ⟨a, vs, rfl, g, l, q⟩ := h
 refine ⟨.lst g, fun ys e => ?_⟩
 rw [Z1 g] at e
 cases e
 refine ⟨by omega, fun y hy => ?_⟩
 obtain ⟨i, hi, rfl⟩ := List.getElem_of_mem hy
 have hi' : i < xs.length := by omega
 exact hk _ xs[i] (List.getElem_mem hi') (q i _ _ (List.getElem?_eq_getElem hi) (List.getElem?_eq_getElem hi'))
theorem kd_of (w : YD rs m) (hm : rs.length ≤ 60) (hw : ∀ r ∈ rs, r.length ≤ 31) (hs : ∀ r ∈ rs, ∀ x ∈ r, x.length ≤ 500) {H : Hp} {v1 v2 v3 v4 : V} (pp : Y9 H v1 v2 v3 v4 (dOf rs m)) : KdLL H v1 ∧ KdLL H v2 ∧ KdL H v3 ∧ KdL H v4 := by
 have hl := w.len
 have row : ∀ (i : Nat) ws, rs[i]? = some ws → (ws.drop 1).length ≤ 1000 ∧ ∀ x ∈ ws.drop 1, x.length ≤ 1000 := fun i ws e => by
  have hm := List.mem_of_getElem? e
  refine ⟨by have := hw ws hm; rw [List.length_drop]; omega, fun x hx => ?_⟩
  have := hs ws hm x (List.mem_of_mem_drop hx)
  omega
 refine ⟨xw pp.s (by rw [Ue hl]; omega) fun u ss hm hu => ?_, xw pp.w (by rw [qz hl]; omega) fun u ns hm hu => ?_, ?_, ?_⟩
 ·obtain ⟨i, ws, _, e, rfl⟩ := qO hl hm
  exact zM hu (row i ws e).1 (row i ws e).2
 ·obtain ⟨i, ws, _, _, e, rfl⟩ := zL hl hm
  exact zT hu (by rw [List.length_map]; exact (row i ws e).1)
 ·obtain ⟨ws, e, q⟩ := VW hl
  have := pp.st
  rw [q] at this
  exact zT this (by rw [List.length_map]; exact (row _ ws e).1)
 ·obtain ⟨ws, e, q⟩ := qx hl
  have := pp.f
  rw [q] at this
  exact zM this (row _ ws e).1 (row _ ws e).2
end
theorem Ux (m : Nat) : ∀ x ∈ YV m, PyData.strOk x = true := fun x hx => xR (xz m x hx)
theorem X6 {r : List Str} (h : r ≠ []) : ∃ w0 wr, r = w0 :: wr := by
 cases r with
 | nil => exact absurd rfl h
 | cons a b => exact ⟨a, b, rfl⟩
theorem xJ (m j : Nat) : (YV m)[j]? = if j < m then some ("room" : Str) else if j < 2 * m then some ("ways" : Str) else if j = 2 * m then some ("starts" : Str) else if j = 2 * m + 1 then some ("fair" : Str) else none := by
 unfold YV
 by_cases h1 : j < m
 ·rw [if_pos h1, List.append_assoc, List.getElem?_append_left (by simpa using h1), List.getElem?_replicate, if_pos h1]
 ·rw [if_neg h1]
  by_cases h2 : j < 2 * m
  ·rw [if_pos h2, List.getElem?_append_left (by simp; omega), List.getElem?_append_right (by simp; omega), List.getElem?_replicate, if_pos (by simp; omega)]
  ·rw [if_neg h2, List.getElem?_append_right (by simp; omega)]
   have e : j - (List.replicate m ("room" : Str) ++ List.replicate m ("ways" : Str)).length = j - 2 * m := by simp; omega
   rw [e]
   by_cases h3 : j = 2 * m
   ·rw [if_pos h3, h3]; simp
   ·rw [if_neg h3]
    by_cases h4 : j = 2 * m + 1
    ·rw [if_pos h4, h4]; simp
    ·rw [if_neg h4, List.getElem?_eq_none (by simp; omega)]
theorem zH : ("ways" : Str) ≠ "room" ∧ ("starts" : Str) ≠ "room" := by decide +kernel
theorem many_is {rs : List (List Str)} {m k : Nat} (h : rs.map (fun ws => ws.getD 0 Str.empty) = YV m) (hA : ∀ (j : Nat) ws, j < k → rs[j]? = some ws → ws.getD 0 Str.empty = "room") (hk : k ≤ rs.length)
  (hB : ∀ ws, rs[k]? = some ws → ws.getD 0 Str.empty ≠ "room") : k = m := by
 have hl := UV h
 have at_ : ∀ (j : Nat) ws, rs[j]? = some ws → (YV m)[j]? = some (ws.getD 0 Str.empty) := fun j ws e => by rw [← h, List.getElem?_map, e]; rfl
 rcases Nat.lt_trichotomy k m with q | q | q
 ·exfalso
  have hr : rs[k]? = some rs[k] := List.getElem?_eq_getElem (by omega)
  have := at_ k _ hr
  rw [xJ, if_pos q] at this
  exact hB _ hr (Option.some.inj this).symm
 ·exact q
 ·exfalso
  have hr : rs[m]? = some rs[m] := List.getElem?_eq_getElem (by omega)
  have e := at_ m _ hr
  rw [hA m _ q hr, xJ, if_neg (Nat.lt_irrefl _)] at e
  by_cases h0 : m < 2 * m
  ·rw [if_pos h0] at e
   exact zH.1 (Option.some.inj e)
  ·rw [if_neg h0, if_pos (by omega)] at e
   exact zH.2 (Option.some.inj e)
theorem cutV_last (xs : List V) (h : 1 ≤ xs.length) : X9 xs (some (-1)) none = xs.drop (xs.length - 1) := by
 unfold X9
 have e1 : HT.sIx xs.length 0 (some (-1)) = xs.length - 1 := by
  unfold HT.sIx
  simp
  omega
 rw [e1, HT.sIx_none]
 exact List.take_of_length_le (by rw [List.length_drop]; omega)
theorem cutV_mid1 (vs : List V) (n : Nat) (h : vs.length = 2 * n + 2) : X9 vs (some (n : Int)) (some (-1)) = (vs.drop n).take (n + 1) := by
 unfold X9
 have e1 : HT.sIx vs.length 0 (some (n : Int)) = n := by rw [HT.sIx_nat]; omega
 have e2 : HT.sIx vs.length vs.length (some (-1)) = 2 * n + 1 := by
  unfold HT.sIx
  simp
  omega
 rw [e1, e2]
 congr 1
 omega
theorem qL {us ss : List Str} (h : xo us ss) : ss = us ↔ upS ss := by
 have up : upS us := List.Pairwise.imp₂ (fun a b (h1 : leS a b = true) (h2 : a ≠ b) => by
  refine Classical.byContradiction fun hn => h2 (U4 h1 ?_)
  unfold leS
  simp [hn]) h.up h.nd
 constructor
 ·intro e; rw [e]; exact up
 ·intro hs
  have pm : us.Perm ss := (List.perm_ext_iff_of_nodup h.nd (upS_nd hs)).mpr h.mem
  have e1 := qh pm h.up
  rw [sortS_up hs] at e1
  exact e1.symm
theorem upI_max {init : List Int} {z : Int} (h : upI (init ++ [z])) {m : Int} : (∀ x ∈ init ++ [z], x < m) ↔ z < m := by
 constructor
 ·intro q; exact q z (by simp)
 ·intro q x hx
  rcases List.mem_append.mp hx with hx | hx
  ·have := (List.pairwise_append.mp h).2.2 x hx z (by simp)
   omega
  ·rw [List.mem_singleton.mp hx]; exact q
theorem xW (ns : List Int) : PyData.eqv (dI ns) (.list []) = decide (ns = []) := by
 cases ns with
 | nil => simp [dI, PyData.eqv, PyData.eqvAll]
 | cons x r => simp [dI, PyData.eqv, PyData.eqvAll]
theorem eqI_nil {K : PySem.W.Frag} {H : Hp} {a b : Addr} {ns : List Int} {Q : VK} (h1 : H a = some (.lst (ns.map V.int))) (h2 : H b = some (.lst [])) (q : Q (.bl (decide (ns = []))) H) : rEqD K false (.ref a) (.ref b) H Q := by
 refine ⟨dI ns, .list [], LI.dp ⟨a, rfl, h1⟩, .lst (SqL.of h2) .nil, (Uv ns).1, by simp [PyData.canLay0, PyData.canLayAll0], Nat.le_trans (Uv ns).2 (by decide), ?_⟩
 rw [xW]
 exact q
theorem neL_nil {K : PySem.W.Frag} {H : Hp} {a b : Addr} {ys : List V} {Q : VK} (h1 : H a = some (.lst ys)) (h2 : H b = some (.lst [])) (hd : ∀ y ∈ ys, ∃ d, Dp K H y d ∧ VV 5 d) (q : Q (.bl (!decide (ys = []))) H) : rEqD K true (.ref a) (.ref b) H Q := by
 have all : ∀ l : List V, (∀ y ∈ l, ∃ d, Dp K H y d ∧ VV 5 d) → ∃ ds, WF K H l ds ∧ PyData.canLayAll0 ds = true ∧ PyData.depthAll ds ≤ 5 ∧ (ds = [] ↔ l = []) := by
  intro l
  induction l with
  | nil => intro _; exact ⟨[], .nil, by simp [PyData.canLayAll0], by simp [PyData.depthAll], by simp⟩
  | cons y r ih =>
   intro h
   obtain ⟨d, p1, p2⟩ := h y (by simp)
   obtain ⟨ds, g1, g2, g3, _⟩ := ih fun z hz => h z (List.mem_cons_of_mem _ hz)
   exact ⟨d :: ds, .cons p1 g1, by rw [PyData.canLayAll0, p2.1, g2]; rfl, by rw [PyData.depthAll]; exact Nat.max_le.mpr ⟨p2.2, g3⟩, by simp⟩
 obtain ⟨ds, g1, g2, g3, g4⟩ := all ys hd
 refine ⟨.list ds, .list [], .lst (SqL.of h1) g1, .lst (SqL.of h2) .nil, by rw [PyData.canLay0]; exact g2, by simp [PyData.canLay0, PyData.canLayAll0], by rw [PyData.depth]; omega, ?_⟩
 have e : PyData.eqv (.list ds) (.list []) = decide (ys = []) := by
  cases ds with
  | nil => rw [g4.mp rfl]; simp [PyData.eqv, PyData.eqvAll]
  | cons d r =>
   have : ys ≠ [] := fun z => by have := g4.mpr z; cases this
   simp [PyData.eqv, PyData.eqvAll, this]
 rw [e]
 exact q
theorem none_in {K : PySem.W.Frag} {H : Hp} : ∀ (l : List V), (∀ v ∈ l, v = .non ∨ ∃ ns, LI H v ns) → ∃ ds, WF K H l ds ∧ PyData.canLayAll0 ds = true ∧ (ds.any fun z => PyData.eqv z .none) = decide (V.non ∈ l)
 | [], _ => ⟨[], .nil, by simp [PyData.canLayAll0], by simp⟩
 | v :: r, h => by
  obtain ⟨ds, g1, g2, g3⟩ := none_in r fun z hz => h z (List.mem_cons_of_mem _ hz)
  rcases h v (by simp) with rfl | ⟨ns, hn⟩
  ·exact ⟨.none :: ds, .cons .non g1, by rw [PyData.canLayAll0, g2]; simp [PyData.canLay0], by simp [PyData.eqv]⟩
  ·refine ⟨dI ns :: ds, .cons (LI.dp hn) g1, by rw [PyData.canLayAll0, g2, (Uv ns).1]; rfl, ?_⟩
   have ne : v ≠ .non := by obtain ⟨c, rfl, _⟩ := hn; intro q; cases q
   rw [List.any_cons, g3]
   have : PyData.eqv (dI ns) .none = false := by simp [dI, PyData.eqv]
   rw [this, Bool.false_or]
   refine decide_eq_decide.mpr ?_
   rw [List.mem_cons]
   exact ⟨.inr, fun q => q.elim (fun z => absurd z.symm ne) id⟩
theorem join_nl {ls : List Str} (h : ls ≠ []) : Str.join "\n" ls ++ ("\n" : Str) = Str.join "\n" (ls ++ [("" : Str)]) := by
 apply W0
 rw [Str.cps_append, nl10, Wk h (by simp), Array.toList_append]
 congr 1
theorem yS {k : Nat} {w : Str} (h : OkW k w) : OkL k w := ⟨[w], ⟨by simp, by simp; omega, fun v m => by rw [List.mem_singleton.mp m]; exact h⟩, rfl⟩
theorem okT_nl {ls : List Str} (h : OkT 0 ls) : OkT 1 (ls ++ [("" : Str)]) := by
 have := h.lo
 have := h.hi
 refine ⟨by simp; omega, by simp; omega, fun y hy => ?_⟩
 rcases List.mem_append.mp hy with hy | hy
 ·exact (h.all y hy).up
 ·rw [List.mem_singleton.mp hy]; exact yS VF
theorem nil_fair : (Txt.split ("" : Str) " ").getD 0 Str.empty ≠ "fair" := by decide +kernel
theorem word_nl {ls : List Str} (h : OkT 0 ls) {rs : List (List Str)} (t : Tame (Str.join "\n" (ls ++ [("" : Str)])) rs) : XW rs = "text" := by
 have e := t.rows
 unfold WC at e
 rw [(okT_nl h).split (by decide), List.map_append] at e
 rw [← e]
 exact zV nil_fair
theorem tame_nil : Tame ("" : Str) [[("" : Str)]] := by
 refine ⟨by decide +kernel, by decide +kernel, by decide +kernel, by decide, by decide, ?_, ?_⟩
 ·intro r hr w hw
  rw [List.mem_singleton.mp hr] at hw
  rw [List.mem_singleton.mp hw]
  decide +kernel
 ·intro r hr w hw
  rw [List.mem_singleton.mp hr] at hw
  rw [List.mem_singleton.mp hw]
  decide +kernel
theorem word_nil : XW [[("" : Str)]] = "text" := zV (rs := []) (by decide +kernel)
def WL : List Str := List.replicate 21 ("room" : Str) ++ List.replicate 21 ("ways 0" : Str) ++ (["starts 0", "fair"] : List Str)
def qW : List Str := ["starts 0", "fair"]
theorem ok_two : OkL 2 ("ways 0" : Str) ∧ OkL 2 ("starts 0" : Str) ∧ OkL 2 ("room" : Str) ∧ OkL 2 ("fair" : Str) := by
 have z : ("ways 0" : Str) = Str.join " " (["ways", "0"] : List Str) := by decide +kernel
 have z2 : ("starts 0" : Str) = Str.join " " (["starts", "0"] : List Str) := by decide +kernel
 have o : ∀ w ∈ (["ways", "0", "starts", "room", "fair"] : List Str), OkW 2 w := fun w hw => VC (k := 1) ((by decide +kernel : ∀ w ∈ (["ways", "0", "starts", "room", "fair"] : List Str), okB w = true) w hw) ((by decide +kernel : ∀ w ∈ (["ways", "0", "starts", "room", "fair"] : List Str), w.length ≤ 10) w hw)
 refine ⟨?_, ?_, yS (o _ (by simp)), yS (o _ (by simp))⟩
 ·rw [z]
  exact yb (fun w hw => o w (by simp at hw ⊢; rcases hw with h | h <;> simp [h])) (by simp)
 ·rw [z2]
  exact yb (fun w hw => o w (by simp at hw ⊢; rcases hw with h | h <;> simp [h])) (by simp)
theorem W5 : OkT 2 WL := by
 refine ⟨by decide, by decide, fun y hy => ?_⟩
 unfold WL at hy
 obtain ⟨a, b, c, d⟩ := ok_two
 rcases List.mem_append.mp hy with hy | hy
 ·rcases List.mem_append.mp hy with hy | hy
  ·rw [(List.mem_replicate.mp hy).2]; exact c
  ·rw [(List.mem_replicate.mp hy).2]; exact a
 ·rcases (by simpa using hy : y = "starts 0" ∨ y = "fair") with rfl | rfl
  ·exact b
  ·exact d
theorem zG : OkT 2 qW := by
 refine ⟨by decide, by decide, fun y hy => ?_⟩
 obtain ⟨a, b, c, d⟩ := ok_two
 rcases (by simpa [qW] using hy : y = "starts 0" ∨ y = "fair") with rfl | rfl
 ·exact b
 ·exact d
def qf : List (List Str) := List.replicate 21 (["room"] : List Str) ++ List.replicate 21 (["ways", "0"] : List Str) ++ [(["starts", "0"] : List Str), (["fair"] : List Str)]
theorem vy : WL.map (fun y => Txt.split y " ") = qf := by
 unfold WL qf
 rw [List.map_append, List.map_append, List.map_replicate, List.map_replicate]
 have e1 : Txt.split ("room" : Str) " " = (["room"] : List Str) := by decide +kernel
 have e2 : Txt.split ("ways 0" : Str) " " = (["ways", "0"] : List Str) := by decide +kernel
 have e3 : Txt.split ("starts 0" : Str) " " = (["starts", "0"] : List Str) := by decide +kernel
 have e4 : Txt.split ("fair" : Str) " " = (["fair"] : List Str) := by decide +kernel
 rw [e1, e2]
 show _ ++ [Txt.split ("starts 0" : Str) " ", Txt.split ("fair" : Str) " "] = _
 rw [e3, e4]
theorem num0 : Yn "0" = true := by decide +kernel
theorem zA : ∀ ws ∈ ([(["ways", "0"] : List Str), (["starts", "0"] : List Str)] : List (List Str)), (∀ w ∈ ws.drop 1, Yn w = true) ∧ upI ((ws.drop 1).map YA) := by
 intro ws hws
 have e : ws.drop 1 = (["0"] : List Str) := by
  rcases (by simpa using hws : ws = (["ways", "0"] : List Str) ∨ ws = (["starts", "0"] : List Str)) with rfl | rfl <;> rfl
 rw [e]
 refine ⟨fun w hw => by rw [List.mem_singleton.mp hw]; exact num0, ?_⟩
 simp [upI]
theorem za : YD qf 21 := by
 have at_ : ∀ (i : Nat) ws, qf[i]? = some ws → ws = (if i < 21 then (["room"] : List Str) else if i < 42 then (["ways", "0"] : List Str) else if i = 42 then (["starts", "0"] : List Str) else (["fair"] : List Str)) := fun i ws e => by
  unfold qf at e
  by_cases h1 : i < 21
  ·rw [List.append_assoc, List.getElem?_append_left (by simpa using h1), List.getElem?_replicate, if_pos h1] at e
   rw [if_pos h1]; exact (Option.some.inj e).symm
  ·rw [if_neg h1]
   by_cases h2 : i < 42
   ·rw [List.getElem?_append_left (by simp; omega), List.getElem?_append_right (by simp; omega), List.getElem?_replicate, if_pos (by simp; omega)] at e
    rw [if_pos h2]; exact (Option.some.inj e).symm
   ·rw [if_neg h2, List.getElem?_append_right (by simp; omega)] at *
    have : (List.replicate 21 (["room"] : List Str) ++ List.replicate 21 (["ways", "0"] : List Str)).length = 42 := by simp
    rw [this] at e
    by_cases h3 : i = 42
    ·subst h3
     rw [if_pos rfl]
     simp at e
     exact e.symm
    ·rw [if_neg h3]
     have : i = 43 := by
      have := (List.getElem?_eq_some_iff.mp e).1
      simp at this
      omega
     subst this
     simp at e
     exact e.symm
 refine ⟨by decide +kernel, fun i ws hi e => ?_, fun i ws hi e => ?_, fun i ws h1 h2 e => ?_, fun i ws h1 h2 e => ?_, fun ws e => ?_⟩
 ·rw [at_ i ws e, if_pos hi]
  intro w hw; cases hw
 ·rw [at_ i ws e, if_pos hi]
  exact .nil
 ·rw [at_ i ws e, if_neg (by omega)]
  split
  ·exact (zA _ (by simp)).1
  ·rw [if_pos (by omega)]; exact (zA _ (by simp)).1
 ·rw [at_ i ws e, if_neg (by omega)]
  split
  ·exact (zA _ (by simp)).2
  ·rw [if_pos (by omega)]; exact (zA _ (by simp)).2
 ·rw [at_ _ ws e, if_neg (by decide), if_neg (by decide), if_neg (by decide)]
  intro w hw; cases hw
theorem vG {rs : List (List Str)} (t : Tame (Str.join "\n" WL) rs) : XW rs = "world" := by
 have e := t.rows
 unfold WC at e
 rw [W5.split (by decide), vy] at e
 rw [← e]
 exact Ws za fun q => by have := q.most; omega
def smallR : List (List Str) := [(["starts", "0"] : List Str), (["fair"] : List Str)]
theorem qY : YD smallR 0 := by
 refine ⟨by decide +kernel, fun i ws hi => absurd hi (Nat.not_lt_zero _), fun i ws hi => absurd hi (Nat.not_lt_zero _), fun i ws h1 h2 e => ?_, fun i ws h1 h2 e => ?_, fun ws e => ?_⟩
 ·have : i = 0 := by omega
  subst this
  cases e
  exact (zA _ (by simp)).1
 ·have : i = 0 := by omega
  subst this
  cases e
  exact (zA _ (by simp)).2
 ·cases e
  intro w hw; cases hw
theorem vI {rs : List (List Str)} (t : Tame (Str.join "\n" qW) rs) : XW rs = "world" := by
 have e := t.rows
 unfold WC at e
 rw [zG.split (by decide)] at e
 have e2 : qW.map (fun y => Txt.split y " ") = smallR := by
  show [Txt.split ("starts 0" : Str) " ", Txt.split ("fair" : Str) " "] = _
  rw [show Txt.split ("starts 0" : Str) " " = (["starts", "0"] : List Str) by decide +kernel, show Txt.split ("fair" : Str) " " = (["fair"] : List Str) by decide +kernel]
  rfl
 rw [← e, e2]
 exact Ws qY fun q => by have := q.one; omega
theorem ve : ("starts 0\nfair" : Str) = Str.join "\n" qW := by decide +kernel
end L3
namespace KK
open PySem PySem.Spec L2 L3
def top (i : Nat) : Stmt := PySem.Challenge.pw_timecourt_k05_texts_that_write_no_world.main.body.getD i (.Pass ⟨0, 0, 0, 0⟩)
abbrev YS : Stmt := top 11
abbrev YX : Stmt := top 12
abbrev Y4 : Stmt := top 13
abbrev Yx : Stmt := top 14
abbrev Yv : Stmt := top 15
abbrev Ye : Stmt := Vd (top 19) 0
abbrev Yq : Stmt := Vd (top 19) 1
abbrev ZQ : Stmt := Vd (top 19) 2
abbrev ZX : Stmt := Vd (top 19) 3
abbrev Ya : Stmt := Vd (top 19) 4
abbrev ZH : Stmt := Vd (top 19) 5
abbrev ZY : Stmt := top 20
abbrev ZP : Stmt := top 21
abbrev Yf : Stmt := top 25
abbrev YW : Stmt := top 26
abbrev ZU : Stmt := top 27
abbrev YH : Stmt := top 28
abbrev Yb : Stmt := top 29
abbrev Yt : Stmt := top 30
abbrev Xk : Stmt := top 31
abbrev Z7 : Stmt := top 33
abbrev Yl : Stmt := top 34
abbrev YF : Stmt := top 35
abbrev YE : Stmt := top 36
abbrev Yu : Stmt := top 37
abbrev Yd : Stmt := top 38
abbrev YG : Stmt := top 39
abbrev ZW : Stmt := top 40
abbrev ZN : Stmt := top 41
abbrev Z3 : Stmt := top 42
abbrev ZK : Stmt := top 43
abbrev ZJ : Stmt := top 44
abbrev Ym : Stmt := top 45
abbrev Wo : Stmt := top 46
theorem xD : ZD ["thing"] ["thing"] (Zb YS) := ⟨rfl, rfl, rfl, by decide +kernel, rfl, by decide +kernel, by decide +kernel⟩
theorem vz : ZD ["thing"] ["thing"] (Zb YX) := ⟨rfl, rfl, rfl, by decide +kernel, rfl, by decide +kernel, by decide +kernel⟩
theorem vC : ZD ["thing", "many"] ["thing", "many"] (Zb Y4) := ⟨rfl, rfl, rfl, by decide +kernel, rfl, by decide +kernel, by decide +kernel⟩
theorem yj : ZD ["thing"] ["thing"] (Zb Yx) := ⟨rfl, rfl, rfl, by decide +kernel, rfl, by decide +kernel, by decide +kernel⟩
theorem z8 : ZD ["thing", "many"] ["thing", "many"] (Zb Yv) := ⟨rfl, rfl, rfl, by decide +kernel, rfl, by decide +kernel, by decide +kernel⟩
theorem Vm : ZD ["self", "signs", "ways", "starts", "fair"] ["self", "signs", "ways", "starts", "fair"] (Zb Ye) := ⟨rfl, rfl, rfl, by decide +kernel, rfl, by decide +kernel, by decide +kernel⟩
theorem zr : ZD ["self"] ["self"] (Zb Yq) := ⟨rfl, rfl, rfl, by decide +kernel, rfl, by decide +kernel, by decide +kernel⟩
theorem VZ : ZD ["self", "room"] ["self", "room"] (Zb ZQ) := ⟨rfl, rfl, rfl, by decide +kernel, rfl, by decide +kernel, by decide +kernel⟩
theorem V6 : ZD ["self", "room"] ["self", "room"] (Zb ZX) := ⟨rfl, rfl, rfl, by decide +kernel, rfl, by decide +kernel, by decide +kernel⟩
theorem UI : ZD ["self"] ["self"] (Zb Ya) := ⟨rfl, rfl, rfl, by decide +kernel, rfl, by decide +kernel, by decide +kernel⟩
theorem Vf : ZD ["self"] ["self"] (Zb ZH) := ⟨rfl, rfl, rfl, by decide +kernel, rfl, by decide +kernel, by decide +kernel⟩
theorem WK : ZD ["signs", "ways", "starts", "fair", "many"] ["signs", "ways", "starts", "fair"] (Zb ZY) := ⟨rfl, rfl, rfl, by decide +kernel, rfl, by decide +kernel, by decide +kernel⟩
theorem VU : ZD ["thing", "many"] ["thing", "many"] (Zb ZP) := ⟨rfl, rfl, rfl, by decide +kernel, rfl, by decide +kernel, by decide +kernel⟩
theorem We : ZD ["world", "lines"] ["world"] (Zb Yf) := ⟨rfl, rfl, rfl, by decide +kernel, rfl, by decide +kernel, by decide +kernel⟩
theorem vq : ZD ["head", "things"] ["head", "things"] (Zb YW) := ⟨rfl, rfl, rfl, by decide +kernel, rfl, by decide +kernel, by decide +kernel⟩
theorem YQ : ZD ["text", "lines", "many", "signs", "ways", "starts", "fair"] ["text"] (Zb ZU) := ⟨rfl, rfl, rfl, by decide +kernel, rfl, by decide +kernel, by decide +kernel⟩
theorem Uw : ZD ["line", "names"] ["line"] (Zb YH) := ⟨rfl, rfl, rfl, by decide +kernel, rfl, by decide +kernel, by decide +kernel⟩
theorem Vq : ZD ["line", "words"] ["line"] (Zb Yb) := ⟨rfl, rfl, rfl, by decide +kernel, rfl, by decide +kernel, by decide +kernel⟩
theorem yF : ZD ["word"] ["word"] (Zb Yt) := ⟨rfl, rfl, rfl, by decide +kernel, rfl, by decide +kernel, by decide +kernel⟩
theorem Uq : ZD ["things", "low", "high"] ["things"] (Zb Xk) := ⟨rfl, rfl, rfl, by decide +kernel, rfl, by decide +kernel, by decide +kernel⟩
theorem UO : ZD ["_law_script", "_law_k"] ["_law_script", "_law_k"] (Zb Z7) := ⟨rfl, rfl, rfl, by decide +kernel, rfl, by decide +kernel, by decide +kernel⟩
theorem YI : ZD ["_law_cell", "_law_many", "_law_found", "_law_left", "_law_number", "_law_step"] ["_law_cell", "_law_many"] (Zb Yl) := ⟨rfl, rfl, rfl, by decide +kernel, rfl, by decide +kernel, by decide +kernel⟩
theorem yD : ZD ["_law_xs"] ["_law_xs"] (Zb YF) := ⟨rfl, rfl, rfl, by decide +kernel, rfl, by decide +kernel, by decide +kernel⟩
theorem Xc : ZD ["_law_xs", "_law_pool_here", "_law_k", "_law_name", "_law_j"] ["_law_xs"] (Zb YE) := ⟨rfl, rfl, rfl, by decide +kernel, rfl, by decide +kernel, by decide +kernel⟩
theorem XY : ZD ["_law_xs", "_law_things", "_law_least", "_law_number", "_law_found"] ["_law_xs", "_law_things", "_law_least"] (Zb Yu) := ⟨rfl, rfl, rfl, by decide +kernel, rfl, by decide +kernel, by decide +kernel⟩
theorem YR : ZD ["_law_xs", "_law_pool_here", "_law_many", "_law_rooms", "_law_signs", "_law_ways", "_law_fair"] ["_law_xs", "_law_pool_here"] (Zb Yd) := ⟨rfl, rfl, rfl, by decide +kernel, rfl, by decide +kernel, by decide +kernel⟩
theorem YZ : ZD ["_law_text", "_law_word_here", "e", "_law_others", "_law_kinds"] ["_law_text"] (Zb YG) := ⟨rfl, rfl, rfl, by decide +kernel, rfl, by decide +kernel, by decide +kernel⟩
theorem UG : ZD ["_law_word_here"] ["_law_word_here"] (Zb ZW) := ⟨rfl, rfl, rfl, by decide +kernel, rfl, by decide +kernel, by decide +kernel⟩
theorem XV : ZD ["_law_words", "_law_word_here", "_law_found"] ["_law_words"] (Zb ZN) := ⟨rfl, rfl, rfl, by decide +kernel, rfl, by decide +kernel, by decide +kernel⟩
theorem YY : ZD ["_law_text", "_law_rows", "_law_many", "_law_row", "_law_lists", "_law_fair", "_law_bad"] ["_law_text"] (Zb Z3) := ⟨rfl, rfl, rfl, by decide +kernel, rfl, by decide +kernel, by decide +kernel⟩
theorem XX : ZD ["_law_xs", "_law_word_here", "_law_some_here"] ["_law_xs", "_law_word_here"] (Zb ZK) := ⟨rfl, rfl, rfl, by decide +kernel, rfl, by decide +kernel, by decide +kernel⟩
theorem YU : ZD ["_law_xs", "_law_line", "_law_words", "_law_at", "_law_way"] ["_law_xs", "_law_line"] (Zb ZJ) := ⟨rfl, rfl, rfl, by decide +kernel, rfl, by decide +kernel, by decide +kernel⟩
theorem Yw : ZD ["_law_xs", "_law_text", "_law_lines", "_law_at", "_law_way"] ["_law_xs", "_law_text"] (Zb Ym) := ⟨rfl, rfl, rfl, by decide +kernel, rfl, by decide +kernel, by decide +kernel⟩
theorem XJ : ZD ["_law_script", "_law_xs", "_law_signs", "_law_ways", "_law_starts", "_law_fair", "_law_text", "_law_ys", "_law_turn", "_law_bad", "_law_thing", "_law_great"] ["_law_script"] (Zb Wo) := ⟨rfl, rfl, rfl, by decide +kernel, rfl, by decide +kernel, by decide +kernel⟩
structure Adr where
 is_whole : Addr
 is_whole_fd : FuncData
 is_name : Addr
 is_name_fd : FuncData
 is_room : Addr
 is_room_fd : FuncData
 are_names : Addr
 are_names_fd : FuncData
 are_rooms : Addr
 are_rooms_fd : FuncData
 World_init : Addr
 World_init_fd : FuncData
 World_many : Addr
 World_many_fd : FuncData
 World_signs_of : Addr
 World_signs_of_fd : FuncData
 World_ways_on : Addr
 World_ways_on_fd : FuncData
 World_begins : Addr
 World_begins_fd : FuncData
 World_fair_signs : Addr
 World_fair_signs_fd : FuncData
 makes_world : Addr
 makes_world_fd : FuncData
 are_some_rooms : Addr
 are_some_rooms_fd : FuncData
 show_world : Addr
 show_world_fd : FuncData
 line_of : Addr
 line_of_fd : FuncData
 read_world : Addr
 read_world_fd : FuncData
 names_of : Addr
 names_of_fd : FuncData
 numbers_of : Addr
 numbers_of_fd : FuncData
 is_number : Addr
 is_number_fd : FuncData
 rising : Addr
 rising_fd : FuncData
 _law_cell_at : Addr
 _law_cell_at_fd : FuncData
 _law_stream : Addr
 _law_stream_fd : FuncData
 _law_draw : Addr
 _law_draw_fd : FuncData
 _law_pool : Addr
 _law_pool_fd : FuncData
 _law_some : Addr
 _law_some_fd : FuncData
 _law_parts : Addr
 _law_parts_fd : FuncData
 _law_word : Addr
 _law_word_fd : FuncData
 _law_is_name : Addr
 _law_is_name_fd : FuncData
 _law_numbers : Addr
 _law_numbers_fd : FuncData
 _law_due : Addr
 _law_due_fd : FuncData
 _law_word_spoilt : Addr
 _law_word_spoilt_fd : FuncData
 _law_line_spoilt : Addr
 _law_line_spoilt_fd : FuncData
 _law_spoilt : Addr
 _law_spoilt_fd : FuncData
 law : Addr
 law_fd : FuncData
 C_TimeError : Addr
 C_BadWorld : Addr
 C_BadSentence : Addr
 C_BadMachine : Addr
 C_NoText : Addr
 C_NoLine : Addr
 C_NoWorld : Addr
 C_World : Addr
 Pm : Params
structure Txt (K : PySem.W.Frag) (mg : Str → Option Value) (a : Adr) : Prop where
 f_is_whole : Fun K "is_whole" "is_whole" YS a.is_whole a.is_whole_fd
 n_is_whole : Z6 K a.is_whole_fd ["thing"] []
 g_is_whole : mg "is_whole" = some (.ref a.is_whole)
 f_is_name : Fun K "is_name" "is_name" YX a.is_name a.is_name_fd
 n_is_name : Z6 K a.is_name_fd ["thing"] []
 g_is_name : mg "is_name" = some (.ref a.is_name)
 f_is_room : Fun K "is_room" "is_room" Y4 a.is_room a.is_room_fd
 n_is_room : Z6 K a.is_room_fd ["thing", "many"] []
 g_is_room : mg "is_room" = some (.ref a.is_room)
 f_are_names : Fun K "are_names" "are_names" Yx a.are_names a.are_names_fd
 n_are_names : Z6 K a.are_names_fd ["thing"] []
 g_are_names : mg "are_names" = some (.ref a.are_names)
 f_are_rooms : Fun K "are_rooms" "are_rooms" Yv a.are_rooms a.are_rooms_fd
 n_are_rooms : Z6 K a.are_rooms_fd ["thing", "many"] []
 g_are_rooms : mg "are_rooms" = some (.ref a.are_rooms)
 f_World_init : Fun K "__init__" "World.__init__" Ye a.World_init a.World_init_fd
 n_World_init : Z6 K a.World_init_fd ["self", "signs", "ways", "starts", "fair"] []
 m_World_init : Meth K a.C_World "__init__" a.World_init
 f_World_many : Fun K "many" "World.many" Yq a.World_many a.World_many_fd
 n_World_many : Z6 K a.World_many_fd ["self"] []
 m_World_many : Meth K a.C_World "many" a.World_many
 f_World_signs_of : Fun K "signs_of" "World.signs_of" ZQ a.World_signs_of a.World_signs_of_fd
 n_World_signs_of : Z6 K a.World_signs_of_fd ["self", "room"] []
 m_World_signs_of : Meth K a.C_World "signs_of" a.World_signs_of
 f_World_ways_on : Fun K "ways_on" "World.ways_on" ZX a.World_ways_on a.World_ways_on_fd
 n_World_ways_on : Z6 K a.World_ways_on_fd ["self", "room"] []
 m_World_ways_on : Meth K a.C_World "ways_on" a.World_ways_on
 f_World_begins : Fun K "begins" "World.begins" Ya a.World_begins a.World_begins_fd
 n_World_begins : Z6 K a.World_begins_fd ["self"] []
 m_World_begins : Meth K a.C_World "begins" a.World_begins
 f_World_fair_signs : Fun K "fair_signs" "World.fair_signs" ZH a.World_fair_signs a.World_fair_signs_fd
 n_World_fair_signs : Z6 K a.World_fair_signs_fd ["self"] []
 m_World_fair_signs : Meth K a.C_World "fair_signs" a.World_fair_signs
 f_makes_world : Fun K "makes_world" "makes_world" ZY a.makes_world a.makes_world_fd
 n_makes_world : Z6 K a.makes_world_fd ["signs", "ways", "starts", "fair"] []
 g_makes_world : mg "makes_world" = some (.ref a.makes_world)
 f_are_some_rooms : Fun K "are_some_rooms" "are_some_rooms" ZP a.are_some_rooms a.are_some_rooms_fd
 n_are_some_rooms : Z6 K a.are_some_rooms_fd ["thing", "many"] []
 g_are_some_rooms : mg "are_some_rooms" = some (.ref a.are_some_rooms)
 f_show_world : Fun K "show_world" "show_world" Yf a.show_world a.show_world_fd
 n_show_world : Z6 K a.show_world_fd ["world"] []
 g_show_world : mg "show_world" = some (.ref a.show_world)
 f_line_of : Fun K "line_of" "line_of" YW a.line_of a.line_of_fd
 n_line_of : Z6 K a.line_of_fd ["head", "things"] []
 g_line_of : mg "line_of" = some (.ref a.line_of)
 f_read_world : Fun K "read_world" "read_world" ZU a.read_world a.read_world_fd
 n_read_world : Z6 K a.read_world_fd ["text"] []
 g_read_world : mg "read_world" = some (.ref a.read_world)
 f_names_of : Fun K "names_of" "names_of" YH a.names_of a.names_of_fd
 n_names_of : Z6 K a.names_of_fd ["line"] []
 g_names_of : mg "names_of" = some (.ref a.names_of)
 f_numbers_of : Fun K "numbers_of" "numbers_of" Yb a.numbers_of a.numbers_of_fd
 n_numbers_of : Z6 K a.numbers_of_fd ["line"] []
 g_numbers_of : mg "numbers_of" = some (.ref a.numbers_of)
 f_is_number : Fun K "is_number" "is_number" Yt a.is_number a.is_number_fd
 n_is_number : Z6 K a.is_number_fd ["word"] []
 g_is_number : mg "is_number" = some (.ref a.is_number)
 f_rising : Fun K "rising" "rising" Xk a.rising a.rising_fd
 n_rising : Z6 K a.rising_fd ["things"] []
 g_rising : mg "rising" = some (.ref a.rising)
 f__law_cell_at : Fun K "_law_cell_at" "_law_cell_at" Z7 a._law_cell_at a._law_cell_at_fd
 n__law_cell_at : Z6 K a._law_cell_at_fd ["_law_script", "_law_k"] []
 g__law_cell_at : mg "_law_cell_at" = some (.ref a._law_cell_at)
 f__law_stream : Fun K "_law_stream" "_law_stream" Yl a._law_stream a._law_stream_fd
 n__law_stream : Z6 K a._law_stream_fd ["_law_cell", "_law_many"] []
 g__law_stream : mg "_law_stream" = some (.ref a._law_stream)
 f__law_draw : Fun K "_law_draw" "_law_draw" YF a._law_draw a._law_draw_fd
 n__law_draw : Z6 K a._law_draw_fd ["_law_xs"] []
 g__law_draw : mg "_law_draw" = some (.ref a._law_draw)
 f__law_pool : Fun K "_law_pool" "_law_pool" YE a._law_pool a._law_pool_fd
 n__law_pool : Z6 K a._law_pool_fd ["_law_xs"] []
 g__law_pool : mg "_law_pool" = some (.ref a._law_pool)
 f__law_some : Fun K "_law_some" "_law_some" Yu a._law_some a._law_some_fd
 n__law_some : Z6 K a._law_some_fd ["_law_xs", "_law_things", "_law_least"] []
 g__law_some : mg "_law_some" = some (.ref a._law_some)
 f__law_parts : Fun K "_law_parts" "_law_parts" Yd a._law_parts a._law_parts_fd
 n__law_parts : Z6 K a._law_parts_fd ["_law_xs", "_law_pool_here"] []
 g__law_parts : mg "_law_parts" = some (.ref a._law_parts)
 f__law_word : Fun K "_law_word" "_law_word" YG a._law_word a._law_word_fd
 n__law_word : Z6 K a._law_word_fd ["_law_text"] []
 g__law_word : mg "_law_word" = some (.ref a._law_word)
 f__law_is_name : Fun K "_law_is_name" "_law_is_name" ZW a._law_is_name a._law_is_name_fd
 n__law_is_name : Z6 K a._law_is_name_fd ["_law_word_here"] []
 g__law_is_name : mg "_law_is_name" = some (.ref a._law_is_name)
 f__law_numbers : Fun K "_law_numbers" "_law_numbers" ZN a._law_numbers a._law_numbers_fd
 n__law_numbers : Z6 K a._law_numbers_fd ["_law_words"] []
 g__law_numbers : mg "_law_numbers" = some (.ref a._law_numbers)
 f__law_due : Fun K "_law_due" "_law_due" Z3 a._law_due a._law_due_fd
 n__law_due : Z6 K a._law_due_fd ["_law_text"] []
 g__law_due : mg "_law_due" = some (.ref a._law_due)
 f__law_word_spoilt : Fun K "_law_word_spoilt" "_law_word_spoilt" ZK a._law_word_spoilt a._law_word_spoilt_fd
 n__law_word_spoilt : Z6 K a._law_word_spoilt_fd ["_law_xs", "_law_word_here"] []
 g__law_word_spoilt : mg "_law_word_spoilt" = some (.ref a._law_word_spoilt)
 f__law_line_spoilt : Fun K "_law_line_spoilt" "_law_line_spoilt" ZJ a._law_line_spoilt a._law_line_spoilt_fd
 n__law_line_spoilt : Z6 K a._law_line_spoilt_fd ["_law_xs", "_law_line"] []
 g__law_line_spoilt : mg "_law_line_spoilt" = some (.ref a._law_line_spoilt)
 f__law_spoilt : Fun K "_law_spoilt" "_law_spoilt" Ym a._law_spoilt a._law_spoilt_fd
 n__law_spoilt : Z6 K a._law_spoilt_fd ["_law_xs", "_law_text"] []
 g__law_spoilt : mg "_law_spoilt" = some (.ref a._law_spoilt)
 f_law : Fun K "law" "law" Wo a.law a.law_fd
 n_law : Z6 K a.law_fd ["_law_script"] []
 g_law : mg "law" = some (.ref a.law)
 b_ValueError : mg "ValueError" = none
 b_all : mg "all" = none
 b_len : mg "len" = none
 b_zip : mg "zip" = none
 b_range : mg "range" = none
 b_list : mg "list" = none
 b_isinstance : mg "isinstance" = none
 b_int : mg "int" = none
 b_tuple : mg "tuple" = none
 b_str : mg "str" = none
 b_bool : mg "bool" = none
 b_set : mg "set" = none
 b_sorted : mg "sorted" = none
 b_enumerate : mg "enumerate" = none
 c_LETTERS : ∃ u, mg "LETTERS" = some u ∧ Z8 (.str "abcdefghijklmnopqrstuvwxyz") u
 c_MOST_LETTERS : ∃ u, mg "MOST_LETTERS" = some u ∧ Z8 (.int 8) u
 c_MOST_ROOMS : ∃ u, mg "MOST_ROOMS" = some u ∧ Z8 (.int 20) u
 c_MOST_FAIR : ∃ u, mg "MOST_FAIR" = some u ∧ Z8 (.int 3) u
 c_FIGURES : ∃ u, mg "FIGURES" = some u ∧ Z8 (.str "0123456789") u
 c_MOST_FIGURES : ∃ u, mg "MOST_FIGURES" = some u ∧ Z8 (.int 6) u
 g_TimeError : mg "TimeError" = some (.ref a.C_TimeError)
 x_TimeError : PySem.W.excIn K a.C_TimeError [.type "ValueError", .type "Exception", .type "BaseException", .type "object"] "ValueError.__new__" = true
 g_BadWorld : mg "BadWorld" = some (.ref a.C_BadWorld)
 x_BadWorld : PySem.W.excIn K a.C_BadWorld [.type "ValueError", .type "Exception", .type "BaseException", .type "object"] "ValueError.__new__" = true
 g_BadSentence : mg "BadSentence" = some (.ref a.C_BadSentence)
 x_BadSentence : PySem.W.excIn K a.C_BadSentence [.type "ValueError", .type "Exception", .type "BaseException", .type "object"] "ValueError.__new__" = true
 g_BadMachine : mg "BadMachine" = some (.ref a.C_BadMachine)
 x_BadMachine : PySem.W.excIn K a.C_BadMachine [.type "ValueError", .type "Exception", .type "BaseException", .type "object"] "ValueError.__new__" = true
 g_NoText : mg "NoText" = some (.ref a.C_NoText)
 x_NoText : PySem.W.excIn K a.C_NoText [.type "ValueError", .type "Exception", .type "BaseException", .type "object"] "ValueError.__new__" = true
 g_NoLine : mg "NoLine" = some (.ref a.C_NoLine)
 x_NoLine : PySem.W.excIn K a.C_NoLine [.type "ValueError", .type "Exception", .type "BaseException", .type "object"] "ValueError.__new__" = true
 g_NoWorld : mg "NoWorld" = some (.ref a.C_NoWorld)
 x_NoWorld : PySem.W.excIn K a.C_NoWorld [.type "ValueError", .type "Exception", .type "BaseException", .type "object"] "ValueError.__new__" = true
 k_NoText : ExcK K a.C_NoText
 k_BadWorld : ExcK K a.C_BadWorld
 sb_TimeError : PySem.W.subIn K (.ref a.C_TimeError) (.type "BaseException") = some true
 ne_NoText_TimeError : (Value.ref a.C_NoText == Value.ref a.C_TimeError) = false
 i1_NoText : PySem.W.kitOne K (.ref a.C_NoText) (.ref a.C_TimeError) = some true
 i2_NoText : PySem.W.kitOne K (.ref a.C_NoText) (.ref a.C_NoText) = some true
 i5_NoText : PySem.W.kitOne K (.ref a.C_NoText) (.ref a.C_BadWorld) = some false
 i3_NoText : PySem.W.kitOne K (.ref a.C_NoText) (.type "ValueError") = some true
 i4_NoText : PySem.W.kitAny K (.ref a.C_NoText) [.ref a.C_BadMachine, .ref a.C_BadSentence, .ref a.C_NoLine, .ref a.C_NoWorld] = some false
 ne_BadWorld_TimeError : (Value.ref a.C_BadWorld == Value.ref a.C_TimeError) = false
 i1_BadWorld : PySem.W.kitOne K (.ref a.C_BadWorld) (.ref a.C_TimeError) = some true
 i2_BadWorld : PySem.W.kitOne K (.ref a.C_BadWorld) (.ref a.C_BadWorld) = some true
 i5_BadWorld : PySem.W.kitOne K (.ref a.C_BadWorld) (.ref a.C_NoText) = some false
 i3_BadWorld : PySem.W.kitOne K (.ref a.C_BadWorld) (.type "ValueError") = some true
 i4_BadWorld : PySem.W.kitAny K (.ref a.C_BadWorld) [.ref a.C_BadMachine, .ref a.C_BadSentence, .ref a.C_NoLine, .ref a.C_NoWorld] = some false
 cl_World : Cls K a.C_World
 g_World : mg "World" = some (.ref a.C_World)
 mk_World : Mk K a.C_World a.World_init
 ic_World : PySem.W.kitOne K (.ref a.C_World) (.ref a.C_World) = some true
 t1_World : PySem.W.findIn K (.ref a.C_World) "__class__" = some (some (.builtin "object.__class__"))
 t2_World : PySem.W.specialIn K (.builtin "object.__class__") "__get__" = some (some (.builtin "getset_descriptor.__get__"))
 t3_World : PySem.W.takesIn K (.builtin "object.__class__") = some true
 t4_World : PySem.W.mroIn K a.C_World (.type "object") = some true
 na_World_room_signs : Wf K a.C_World "room_signs"
 na_World_room_ways : Wf K a.C_World "room_ways"
 na_World_start_rooms : Wf K a.C_World "start_rooms"
 na_World_fair_names : Wf K a.C_World "fair_names"
def xK (K : PySem.W.Frag) (a : Adr) : Sp := fun vs H Q _ => ∃ x, vs = [x] ∧ Kd H x ∧ Q (.bl (isIntV x)) H
theorem yW {P : Program} {w : World} {K : PySem.W.Frag} {mg : Str → Option Value} {base : Heap} {a : Adr} (T : Txt K mg a) (hw : w.params = a.Pm) : Yr P w K mg base CX0 1 a.is_whole a.is_whole_fd ["thing"] (xK K a) := by
 refine T.f_is_whole.ok xD (fun vs H Q E h => ?_) (fun cdv A outer s H vs Q E hr h => ?_)
 ·obtain ⟨x, rfl, _⟩ := h
  rfl
 ·obtain ⟨x, rfl, hk, k⟩ := h
  refine ⟨_, (@Zg _ _ _ (@Zt _ _ _ _ (Vs (Zk (Xq (K := K) rfl "int") rfl T.b_isinstance PyProof.Rows.Boot.«isinstance» (@Za _ _ _ _ _ (pv 0)
   (@Za _ _ _ _ _ (X0 (v := .ty "int") rfl T.b_int PyProof.Rows.Boot.«int» rfl)
   Zc
   (by rfl))
   (by rfl))) (Vy (pe_not (Zk (Xq (K := K) rfl "bool") rfl T.b_isinstance PyProof.Rows.Boot.«isinstance» (@Za _ _ _ _ _ (pv 0)
   (@Za _ _ _ _ _ (X0 (v := .ty "bool") rfl T.b_bool PyProof.Rows.Boot.«bool» rfl)
   Zc
   (by rfl))
   (by rfl)))))))), ?_⟩
  cases hb : XB H "int" x with
  | false =>
   obtain ⟨t, h1, h2⟩ := Wb K (by simp) hk hb
   have e : isIntV x = false := by cases hk <;> first | rfl | (simp [XB] at hb)
   rw [e] at k
   exact ⟨_, rfl, _, t, _, rfl, h1, h2, _, rfl, YJ k⟩
  | true =>
   obtain ⟨t, h1, h2⟩ := Wb K (by simp) hk hb
   obtain ⟨u, h3, h4⟩ := Wb K (T := "bool") (by simp) hk rfl
   have e : isIntV x = !XB H "bool" x := by
    cases hk with
    | lst e => simp [XB, e] at hb
    | tup e => simp [XB, e] at hb
    | dK e => simp [XB, e] at hb
    | non => simp [XB] at hb
    | str z hz => simp [XB] at hb
    | bl b => rfl
    | int i => rfl
   rw [e] at k
   exact ⟨_, rfl, _, t, _, rfl, h1, h2, _, rfl, Z2 ⟨_, rfl, _, u, _, rfl, h3, h4, _, rfl, k⟩⟩
def vh (K : PySem.W.Frag) (a : Adr) : Sp := fun vs H Q _ => ∃ x, vs = [x] ∧ Kd H x ∧ ∀ H', Zn H H' → Q (.bl (Y1 x)) H'
theorem UZ {P : Program} {w : World} {K : PySem.W.Frag} {mg : Str → Option Value} {base : Heap} {a : Adr} (T : Txt K mg a) (hw : w.params = a.Pm) : Yr P w K mg base CX0 1 a.is_name a.is_name_fd ["thing"] (vh K a) := by
 refine T.f_is_name.ok vz (fun vs H Q E h => ?_) (fun cdv A outer s H vs Q E hr h => ?_)
 ·obtain ⟨x, rfl, _⟩ := h
  rfl
 ·obtain ⟨x, rfl, hk, k⟩ := h
  refine ⟨_, (@Ze _ _ _ _ _ (@Z4 _ _ _ _ _ _ _ _ (PW.pt (WJ (@YT _ _ _ _ (Xf (Zk (Xq (K := K) rfl "str") rfl T.b_isinstance PyProof.Rows.Boot.«isinstance» (@Za _ _ _ _ _ (pv 0)
   (@Za _ _ _ _ _ (X0 (v := .ty "str") rfl T.b_str PyProof.Rows.Boot.«str» rfl)
   Zc
   (by rfl))
   (by rfl))))) (Wu (@YT _ _ _ _ (WQ Wc Wc Zh (Zk (Zy (K := K) rfl) rfl T.b_len PyProof.Rows.Boot.«len» (@Za _ _ _ _ _ (pv 0)
   Zc
   (by rfl))) (WH rfl T.c_MOST_LETTERS))))))
   (@Zg _ _ _ (@Zt _ _ _ _ XN))
   Zz)
   (@Zg _ _ _ (@Zt _ _ _ _ (Zk (Xr (K := K) rfl rfl) rfl T.b_all PyProof.Rows.Boot.«all» (@Za _ _ _ _ _ (Ys (Nc := ["letter"]) (ix := [none]) (ZI.of (by decide +kernel : ZL (Zb YX) ["thing"] ["letter"] [none] _ = true)) rfl (z0 (pv 0)) (fun _ _ _ _ _ => (Zu (i := 0) (show List.Nodup (["letter"] : List Str) by decide +kernel) rfl (by first | exact Or.inl rfl | exact Or.inr rfl))) (fun _ _ _ _ _ => Yk) (fun _ _ _ _ _ => (@XM _ _ _ _ _ _ _ _ zK
   (pv 0)
   (WH rfl T.c_LETTERS)
   (by with_unfolding_all rfl))))
   Zc
   (by rfl)))))), ?_⟩
  rcases kd_str hk with ⟨hb, z, rfl, hz⟩ | ⟨hb, e⟩
  ·obtain ⟨t, h1, h2⟩ := Wb K (by simp) hk hb
   refine ⟨_, rfl, _, t, _, rfl, h1, h2, _, rfl, YJ ?_⟩
   refine ⟨_, rfl, .inr (.inl ⟨z, rfl, by rw [sizeLine_eq]; omega, _, _, rfl, rfl, _, rfl, ?_⟩)⟩
   have fin : decide (1 ≤ (z.length : Int)) = true → decide ((z.length : Int) ≤ 8) = true → Y1 (.str z) = z.cps.toList.all Xs := fun a b => by
    have a' := of_decide_eq_true a
    have b' := of_decide_eq_true b
    have a2 : 1 ≤ z.length := by omega
    have b2 : z.length ≤ 8 := by omega
    simp [Y1, Zr, a2, b2]
   have nof : ¬ ((1 : Int) ≤ z.length ∧ (z.length : Int) ≤ 8) → Y1 (.str z) = false := fun q => by
    have : ¬ (1 ≤ z.length ∧ z.length ≤ 8) := by omega
    simp only [Y1, Zr]
    by_cases h1 : 1 ≤ z.length
    ·have h2 : ¬ z.length ≤ 8 := fun h2 => this ⟨h1, h2⟩
     simp [h1, h2]
    ·simp [h1]
   refine Xj (fun c1 => ?_) (fun c1 => ?_)
   ·refine ⟨_, _, rfl, rfl, _, rfl, ?_⟩
    cases c2 : decide ((z.length : Int) ≤ 8) with
    | false =>
     refine Z2 ?_
     have q := k H (.refl H)
     rw [nof (fun q => by have := of_decide_eq_false c2; omega)] at q
     exact q
    | true =>
     refine YJ ⟨_, rfl, z, rfl, fun D hD => ?_⟩
     refine XE (J := Its z) (n := z.cps.size) (fun i σ H' => Zn H H' ∧ H' D = some (.lst ((z.cps.toList.take i).map fun c => V.bl (Xs c))) ∧ ∃ y, σ = [y]) ?_ (fun i σ H' hi _ => hi) (fun σ H' _ => Nat.le_refl _) ?_ ?_
     ·exact ⟨Zf hD, Zd, _, rfl⟩
     ·rintro i x σ H' H2 hi ⟨sm, hl, y, rfl⟩ ⟨rfl, c, hc, rfl⟩ N N0 hN hN0
      refine ⟨_, rfl, _, _, rfl, rfl, ?_⟩
      have el := PySem.StrLaws.found_one ("abcdefghijklmnopqrstuvwxyz" : Str) c
      refine hN _ _ _ _ hl (by rw [List.length_map, List.length_take, sizeLine_eq]; have : z.cps.size = z.length := rfl; omega) ⟨(ZF.upd (Zn.x sm)).same hD, ?_, _, rfl⟩
      have hc' : z.cps.toList[i]? = some c := by rw [Array.getElem?_toList]; exact hc
      rw [Zd, List.take_add_one, hc', List.map_append]
      refine congrArg (fun b => some (HO.lst (_ ++ [V.bl b]))) ?_
      rw [← WM]
      exact el
     ·rintro σ H' ⟨sm, hl, y, rfl⟩
      have et : z.cps.toList.take z.cps.size = z.cps.toList := by rw [← Array.length_toList]; exact List.take_length
      rw [et] at hl
      have q := k H' sm
      rw [fin c1 c2, ← WN] at q
      exact ⟨D, z.cps.toList.map Xs, rfl, SqL.of (by rw [hl, List.map_map]; rfl), q⟩
   ·refine ⟨_, rfl, Z2 ?_⟩
    have q := k H (.refl H)
    rw [nof (fun q => c1 (decide_eq_true q.1))] at q
    exact q
  ·obtain ⟨t, h1, h2⟩ := Wb K (by simp) hk hb
   have q := k H (.refl H)
   rw [e] at q
   exact ⟨_, rfl, _, t, _, rfl, h1, h2, _, rfl, Z2 (Z2 q)⟩
def vj (K : PySem.W.Frag) (a : Adr) : Sp := fun vs H Q _ => ∃ x n, vs = [x, .int n] ∧ Kd H x ∧ Q (.bl (YM n x)) H
theorem vB {P : Program} {w : World} {K : PySem.W.Frag} {mg : Str → Option Value} {base : Heap} {a : Adr} (T : Txt K mg a) (hw : w.params = a.Pm) : Yr P w K mg base CX0 2 a.is_room a.is_room_fd ["thing", "many"] (vj K a) := by
 have G_is_whole := yW (P := P) (w := w) (base := base) T hw
 refine T.f_is_room.ok vC (fun vs H Q E h => ?_) (fun cdv A outer s H vs Q E hr h => ?_)
 ·obtain ⟨x, n, rfl, _⟩ := h
  rfl
 ·obtain ⟨x, n, rfl, hk, k⟩ := h
  refine ⟨_, (@Zg _ _ _ (@Zt _ _ _ _ (Vs (Zm G_is_whole (hr.mono (by decide)) rfl T.g_is_whole T.f_is_whole.kp T.n_is_whole .nil ZG (@Za _ _ _ _ _ (pv 0)
   Zc
   (by rfl))) (Vy (xi Wc qg Zh (pv 0) (pv 1)))))), ?_⟩
  refine ⟨_, rfl, x, rfl, hk, _, rfl, ?_⟩
  cases x with
  | int i =>
   refine Z2 ⟨_, rfl, _, _, rfl, rfl, _, rfl, ?_⟩
   cases c1 : decide (0 ≤ i) with
   | true =>
    refine Z2 ⟨_, rfl, _, _, rfl, rfl, ?_⟩
    have e : YM n (.int i) = decide (i < n) := by simp only [YM, c1, Bool.true_and]
    rw [e] at k
    exact k
   | false =>
    have e : YM n (.int i) = false := by simp only [YM, c1, Bool.false_and]
    rw [e] at k
    exact YJ k
  | _ => exact YJ k
def yU (K : PySem.W.Frag) (a : Adr) : Sp := fun vs H Q _ => ∃ x, vs = [x] ∧ KdL H x ∧ ∀ H', Zn H H' → Q (.bl (Z9 H x)) H'
theorem yy {P : Program} {w : World} {K : PySem.W.Frag} {mg : Str → Option Value} {base : Heap} {a : Adr} (T : Txt K mg a) (hw : w.params = a.Pm) : Yr P w K mg base CX0 2 a.are_names a.are_names_fd ["thing"] (yU K a) := by
 have G_is_name := UZ (P := P) (w := w) (base := base) T hw
 refine T.f_are_names.ok yj (fun vs H Q E h => ?_) (fun cdv A outer s H vs Q E hr h => ?_)
 ·obtain ⟨x, rfl, _⟩ := h
  rfl
 ·obtain ⟨x, rfl, hk, k⟩ := h
  refine ⟨_, (@Ze _ _ _ _ _ (@Z4 _ _ _ _ _ _ _ _ (PW.pt (WJ (@YT _ _ _ _ (Xf (Zk (Xq (K := K) rfl "list") rfl T.b_isinstance PyProof.Rows.Boot.«isinstance» (@Za _ _ _ _ _ (pv 0)
   (@Za _ _ _ _ _ (X0 (v := .ty "list") rfl T.b_list PyProof.Rows.Boot.«list» rfl)
   Zc
   (by rfl))
   (by rfl))))) (Wu (@YT _ _ _ _ (Xf (Zk (Xr (K := K) rfl rfl) rfl T.b_all PyProof.Rows.Boot.«all» (@Za _ _ _ _ _ (Ys (Nc := ["name"]) (ix := [none]) (ZI.of (by decide +kernel : ZL (Zb Yx) ["thing"] ["name"] [none] _ = true)) rfl (ZO (K := K) rfl (pv 0)) (fun _ _ _ _ _ => (Zu (i := 0) (show List.Nodup (["name"] : List Str) by decide +kernel) rfl (by first | exact Or.inl rfl | exact Or.inr rfl))) (fun _ _ _ _ _ => Yk) (fun _ _ _ _ _ => (Zm G_is_name (hr.mono (by decide)) rfl T.g_is_name T.f_is_name.kp T.n_is_name .nil ZG (@Za _ _ _ _ _ (pv 0)
   Zc
   (by rfl)))))
   Zc
   (by rfl))))))))
   (@Zg _ _ _ (@Zt _ _ _ _ XN))
   Zz)
   (@Zg _ _ _ (@Zt _ _ _ _ (@XM _ _ _ _ _ _ _ _ Xl
   (Zk (Zy (K := K) rfl) rfl T.b_len PyProof.Rows.Boot.«len» (@Za _ _ _ _ _ (ZZ (Ud (K := K) rfl rfl) rfl T.b_set PyProof.Rows.Boot.«set» (@Za _ _ _ _ _ (pv 0)
   Zc
   (by rfl)))
   Zc
   (by rfl)))
   (Zk (Zy (K := K) rfl) rfl T.b_len PyProof.Rows.Boot.«len» (@Za _ _ _ _ _ (pv 0)
   Zc
   (by rfl)))
   (Zw _))))), ?_⟩
  rcases WW hk.1 with ⟨hb, p, xs, rfl, hp, hl⟩ | ⟨hb, e⟩
  ·obtain ⟨t, h1, h2⟩ := Wb K (by simp) hk.1 hb
   obtain ⟨hz, hy⟩ := hk.2 xs hl
   have hS : xs.length ≤ sizeLine := by rw [sizeLine_eq]; omega
   have ev : Z9 H (.ref p) = (xs.all Y1 && decide xs.Nodup) := by unfold Z9; rw [hl]
   rw [ev] at k
   refine ⟨_, rfl, _, t, _, rfl, h1, h2, _, rfl, YJ ?_⟩
   refine ⟨_, rfl, p, rfl, ⟨xs, SqL.of hp⟩, fun D hD => ?_⟩
   refine Yp (K := K) hD (SqL.of hp) hS (fun i v _ => ∀ x, xs[i]? = some x → v = .bl (Y1 x)) (fun _ _ _ _ _ q => q) ?_ ?_
   ·intro i x H2 N hx sm hN
    refine ⟨_, rfl, x, rfl, (hy x (List.mem_of_getElem? hx)).mono sm, fun H3 s3 => hN _ _ s3 fun x' hx' => ?_⟩
    rw [hx] at hx'; cases hx'; rfl
   ·intro H2 ys hD2 sm hlen hr
    have ey := Xp (f := Y1) hlen fun i v x h1 h2 => hr i v h1 x h2
    refine ⟨D, _, rfl, SqL.of (by rw [hD2, ey]), _, rfl, ?_⟩
    rw [WN]
    cases hall : xs.all Y1 with
    | false =>
     rw [hall] at k
     exact Z2 (k H2 sm)
    | true =>
     rw [hall] at k
     obtain ⟨ks, rfl⟩ := qU hall
     rw [List.length_map] at hz
     refine YJ ⟨_, rfl, p, ks, rfl, SqL.of (sm _ _ hp), by omega, fun n c a1 a2 hc => ?_⟩
     have s3 : Zn H (upd H2 c (SetN c n)) := sm.trans (Zf hc)
     refine .inr (.inr ⟨c, n, rfl, Zd, by omega, _, rfl, .inl ⟨p, _, rfl, .inl (SqL.of (s3 _ _ hp)), rfl, ?_⟩⟩)
     rw [dec_len rfl a2]
     exact k _ s3
  ·obtain ⟨t, h1, h2⟩ := Wb K (by simp) hk.1 hb
   have q := k H (.refl H)
   have e2 : Z9 H x = false := by unfold Z9; rw [e]
   rw [e2] at q
   exact ⟨_, rfl, _, t, _, rfl, h1, h2, _, rfl, Z2 (Z2 q)⟩
def yw (K : PySem.W.Frag) (a : Adr) : Sp := fun vs H Q _ => ∃ x n, vs = [x, .int n] ∧ KdL H x ∧ ∀ H', Zn H H' → Q (.bl (Xy H n x)) H'
theorem z7 {P : Program} {w : World} {K : PySem.W.Frag} {mg : Str → Option Value} {base : Heap} {a : Adr} (T : Txt K mg a) (hw : w.params = a.Pm) : Yr P w K mg base CX0 3 a.are_rooms a.are_rooms_fd ["thing", "many"] (yw K a) := by
 have G_is_room := vB (P := P) (w := w) (base := base) T hw
 refine T.f_are_rooms.ok z8 (fun vs H Q E h => ?_) (fun cdv A outer s H vs Q E hr h => ?_)
 ·obtain ⟨x, n, rfl, _⟩ := h
  rfl
 ·obtain ⟨x, n, rfl, hk, k⟩ := h
  refine ⟨_, (@Zg _ _ _ (@Zt _ _ _ _ (Vs (Zk (Xq (K := K) rfl "list") rfl T.b_isinstance PyProof.Rows.Boot.«isinstance» (@Za _ _ _ _ _ (pv 0)
   (@Za _ _ _ _ _ (X0 (v := .ty "list") rfl T.b_list PyProof.Rows.Boot.«list» rfl)
   Zc
   (by rfl))
   (by rfl))) (Vy (Zk (Xr (K := K) rfl rfl) rfl T.b_all PyProof.Rows.Boot.«all» (@Za _ _ _ _ _ (Ys (Nc := ["room", "many"]) (ix := [none, some 1]) (ZI.of (by decide +kernel : ZL (Zb Yv) ["thing", "many"] ["room", "many"] [none, some 1] _ = true)) rfl (ZO (K := K) rfl (pv 0)) (fun _ _ _ _ _ => (Zu (i := 0) (show List.Nodup (["room", "many"] : List Str) by decide +kernel) rfl (by first | exact Or.inl rfl | exact Or.inr rfl))) (fun _ _ _ _ _ => Yk) (fun _ _ _ _ _ => (Zm G_is_room (hr.mono (by decide)) rfl T.g_is_room T.f_is_room.kp T.n_is_room .nil ZG (@Za _ _ _ _ _ (pv 0)
   (@Za _ _ _ _ _ (pv 1)
   Zc
   (by rfl))
   (by rfl)))))
   Zc
   (by rfl))))))), ?_⟩
  rcases WW hk.1 with ⟨hb, p, xs, rfl, hp, hl⟩ | ⟨hb, e⟩
  ·obtain ⟨t, h1, h2⟩ := Wb K (by simp) hk.1 hb
   obtain ⟨hz, hy⟩ := hk.2 xs hl
   have hS : xs.length ≤ sizeLine := by rw [sizeLine_eq]; omega
   have ev : Xy H n (.ref p) = xs.all (YM n) := by unfold Xy; rw [hl]
   rw [ev] at k
   refine ⟨_, rfl, _, t, _, rfl, h1, h2, _, rfl, Z2 ?_⟩
   refine ⟨_, rfl, p, rfl, ⟨xs, SqL.of hp⟩, fun D hD => ?_⟩
   refine Yp (K := K) hD (SqL.of hp) hS (fun i v _ => ∀ x, xs[i]? = some x → v = .bl (YM n x)) (fun _ _ _ _ _ q => q) ?_ ?_
   ·intro i x H2 N hx sm hN
    refine ⟨_, rfl, _, rfl, x, n, rfl, (hy x (List.mem_of_getElem? hx)).mono sm, hN _ _ (.refl _) fun x' hx' => ?_⟩
    rw [hx] at hx'; cases hx'; rfl
   ·intro H2 ys hD2 sm hlen hr
    have ey := Xp (f := YM n) hlen fun i v x h1 h2 => hr i v h1 x h2
    refine ⟨D, _, rfl, SqL.of (by rw [hD2, ey]), ?_⟩
    rw [WN]
    exact k H2 sm
  ·obtain ⟨t, h1, h2⟩ := Wb K (by simp) hk.1 hb
   have q := k H (.refl H)
   have e2 : Xy H n x = false := by unfold Xy; rw [e]
   rw [e2] at q
   exact ⟨_, rfl, _, t, _, rfl, h1, h2, _, rfl, YJ q⟩
def VG (K : PySem.W.Frag) (a : Adr) : Sp := fun vs H Q _ => ∃ x n, vs = [x, .int n] ∧ KdL H x ∧ ∀ H', Zn H H' → Q (.bl (ZR H n x)) H'
theorem VO {P : Program} {w : World} {K : PySem.W.Frag} {mg : Str → Option Value} {base : Heap} {a : Adr} (T : Txt K mg a) (hw : w.params = a.Pm) : Yr P w K mg base CX0 4 a.are_some_rooms a.are_some_rooms_fd ["thing", "many"] (VG K a) := by
 have G_are_rooms := z7 (P := P) (w := w) (base := base) T hw
 refine T.f_are_some_rooms.ok VU (fun vs H Q E h => ?_) (fun cdv A outer s H vs Q E hr h => ?_)
 ·obtain ⟨x, n, rfl, _⟩ := h
  rfl
 ·obtain ⟨x, n, rfl, hk, k⟩ := h
  refine ⟨_, (@Ze _ _ _ _ _ (@Z4 _ _ _ _ _ _ _ _ (PW.pt (WJ (@YT _ _ _ _ (Xf (Zm G_are_rooms (hr.mono (by decide)) rfl T.g_are_rooms T.f_are_rooms.kp T.n_are_rooms .nil ZG (@Za _ _ _ _ _ (pv 0)
   (@Za _ _ _ _ _ (pv 1)
   Zc
   (by rfl))
   (by rfl))))) (Wu (@Zs _ _ _ _ _ _ _ _ Xl
   (Zk (Zy (K := K) rfl) rfl T.b_len PyProof.Rows.Boot.«len» (@Za _ _ _ _ _ (pv 0)
   Zc
   (by rfl)))
   Zh
   (Zw _)))))
   (@Zg _ _ _ (@Zt _ _ _ _ XN))
   Zz)
   (@Zg _ _ _ (@Zt _ _ _ _ (@XM _ _ _ _ _ _ _ _ Xl
   (Zk (Zy (K := K) rfl) rfl T.b_len PyProof.Rows.Boot.«len» (@Za _ _ _ _ _ (ZZ (Ud (K := K) rfl rfl) rfl T.b_set PyProof.Rows.Boot.«set» (@Za _ _ _ _ _ (pv 0)
   Zc
   (by rfl)))
   Zc
   (by rfl)))
   (Zk (Zy (K := K) rfl) rfl T.b_len PyProof.Rows.Boot.«len» (@Za _ _ _ _ _ (pv 0)
   Zc
   (by rfl)))
   (Zw _))))), ?_⟩
  refine ⟨_, rfl, _, rfl, x, n, rfl, hk, fun H1 s1 => ⟨_, rfl, ?_⟩⟩
  rcases WW hk.1 with ⟨hb, p, xs, rfl, hp, hl⟩ | ⟨hb, e⟩
  ·obtain ⟨hz, hy⟩ := hk.2 xs hl
   have ev : Xy H n (.ref p) = xs.all (YM n) := by unfold Xy; rw [hl]
   have ew : ZR H n (.ref p) = (xs.all (YM n) && !xs.isEmpty && decide xs.Nodup) := by unfold ZR; rw [hl]
   rw [ew] at k
   rw [ev]
   cases hall : xs.all (YM n) with
   | false =>
    rw [hall] at k
    exact Z2 (Z2 (k H1 s1))
   | true =>
    rw [hall] at k
    refine YJ ⟨_, rfl, .inl ⟨p, xs, rfl, .inl (SqL.of (s1 _ _ hp)), rfl, _, rfl, ?_⟩⟩
    cases xs with
    | nil =>
     exact Z2 (k H1 s1)
    | cons y r =>
     have e0 : decide (V.int (((y :: r).length : Nat) : Int) = V.int 0) = false := by
      refine decide_eq_false fun q => ?_
      have q' := V.int.inj q
      rw [List.length_cons] at q'
      omega
     rw [e0]
     obtain ⟨ks, eks⟩ := U0 hall
     rw [eks] at hp k hz
     rw [List.length_map] at hz
     refine YJ ⟨_, rfl, p, ks, rfl, SqL.of (s1 _ _ hp), by omega, fun m c a1 a2 hc => ?_⟩
     have s3 : Zn H (upd H1 c (SetN c m)) := s1.trans (Zf hc)
     refine .inr (.inr ⟨c, m, rfl, Zd, by omega, _, rfl, .inl ⟨p, _, rfl, .inl (SqL.of (s3 _ _ hp)), rfl, ?_⟩⟩)
     rw [dec_len rfl a2]
     have q := k _ s3
     have ne : (!(ks.map kV).isEmpty) = true := by rw [← eks]; rfl
     rw [ne] at q
     exact q
  ·have ev : Xy H n x = false := by unfold Xy; rw [e]
   have ew : ZR H n x = false := by unfold ZR; rw [e]
   rw [ew] at k
   rw [ev]
   exact Z2 (Z2 (k H1 s1))
def qr (K : PySem.W.Frag) (a : Adr) : Sp := fun vs H Q _ => ∃ x y z u, vs = [x, y, z, u] ∧ KdLL H x ∧ KdLL H y ∧ KdL H z ∧ KdL H u ∧ ∀ H', Zn H H' → Q (.bl (Xv H x y z u)) H'
theorem WT {P : Program} {w : World} {K : PySem.W.Frag} {mg : Str → Option Value} {base : Heap} {a : Adr} (T : Txt K mg a) (hw : w.params = a.Pm) : Yr P w K mg base CX0 5 a.makes_world a.makes_world_fd ["signs", "ways", "starts", "fair"] (qr K a) := by
 have G_are_names := yy (P := P) (w := w) (base := base) T hw
 have G_are_some_rooms := VO (P := P) (w := w) (base := base) T hw
 refine T.f_makes_world.ok WK (fun vs H Q E h => ?_) (fun cdv A outer s H vs Q E hr h => ?_)
 ·obtain ⟨x, y, z, u, rfl, _⟩ := h
  rfl
 ·obtain ⟨x, y, z, u, rfl, kx, ky, kz, ku, k⟩ := h
  refine ⟨_, (@Ze _ _ _ _ _ (@Z4 _ _ _ _ _ _ _ _ (PW.pt (WJ (@YT _ _ _ _ (Xf (Zk (Xq (K := K) rfl "list") rfl T.b_isinstance PyProof.Rows.Boot.«isinstance» (@Za _ _ _ _ _ (pv 0)
   (@Za _ _ _ _ _ (X0 (v := .ty "list") rfl T.b_list PyProof.Rows.Boot.«list» rfl)
   Zc
   (by rfl))
   (by rfl))))) (Wu (@YT _ _ _ _ (Xf (Zk (Xq (K := K) rfl "list") rfl T.b_isinstance PyProof.Rows.Boot.«isinstance» (@Za _ _ _ _ _ (pv 1)
   (@Za _ _ _ _ _ (X0 (v := .ty "list") rfl T.b_list PyProof.Rows.Boot.«list» rfl)
   Zc
   (by rfl))
   (by rfl))))))))
   (@Zg _ _ _ (@Zt _ _ _ _ XN))
   Zz)
   (@Ze _ _ _ _ _ (@ZE _ _ (4) _ _ _ _ WK.nd
   rfl
   (by first | exact Or.inl rfl | exact Or.inr rfl)
   (Zk (Zy (K := K) rfl) rfl T.b_len PyProof.Rows.Boot.«len» (@Za _ _ _ _ _ (pv 0)
   Zc
   (by rfl)))
   (by rfl)
   (by first | exact .inl rfl | exact .inr rfl | assumption))
   (@Ze _ _ _ _ _ (@Z4 _ _ _ _ _ _ _ _ (PW.pt (WJ (@YT _ _ _ _ (WQ Wc Wc Zh (pv 4) (WH rfl T.c_MOST_ROOMS))) (Wu (@Zs _ _ _ _ _ _ _ _ qy
   (Zk (Zy (K := K) rfl) rfl T.b_len PyProof.Rows.Boot.«len» (@Za _ _ _ _ _ (pv 1)
   Zc
   (by rfl)))
   (pv 4)
   (Zw _)))))
   (@Zg _ _ _ (@Zt _ _ _ _ XN))
   Zz)
   (@Ze _ _ _ _ _ (@Z4 _ _ _ _ _ _ _ _ (@YT _ _ _ _ (Xf (Zk (Xr (K := K) rfl rfl) rfl T.b_all PyProof.Rows.Boot.«all» (@Za _ _ _ _ _ (Ys (Nc := ["names"]) (ix := [none]) (ZI.of (by decide +kernel : ZL (Zb ZY) ["signs", "ways", "starts", "fair", "many"] ["names"] [none] _ = true)) rfl (ZO (K := K) rfl (pv 0)) (fun _ _ _ _ _ => (Zu (i := 0) (show List.Nodup (["names"] : List Str) by decide +kernel) rfl (by first | exact Or.inl rfl | exact Or.inr rfl))) (fun _ _ _ _ _ => Yk) (fun _ _ _ _ _ => (Zm G_are_names (hr.mono (by decide)) rfl T.g_are_names T.f_are_names.kp T.n_are_names .nil ZG (@Za _ _ _ _ _ (pv 0)
   Zc
   (by rfl)))))
   Zc
   (by rfl)))))
   (@Zg _ _ _ (@Zt _ _ _ _ XN))
   Zz)
   (@Ze _ _ _ _ _ (@Z4 _ _ _ _ _ _ _ _ (@YT _ _ _ _ (Xf (Zk (Xr (K := K) rfl rfl) rfl T.b_all PyProof.Rows.Boot.«all» (@Za _ _ _ _ _ (Ys (Nc := ["rooms", "many"]) (ix := [none, some 4]) (ZI.of (by decide +kernel : ZL (Zb ZY) ["signs", "ways", "starts", "fair", "many"] ["rooms", "many"] [none, some 4] _ = true)) rfl (ZO (K := K) rfl (pv 1)) (fun _ _ _ _ _ => (Zu (i := 0) (show List.Nodup (["rooms", "many"] : List Str) by decide +kernel) rfl (by first | exact Or.inl rfl | exact Or.inr rfl))) (fun _ _ _ _ _ => Yk) (fun _ _ _ _ _ => (Zm G_are_some_rooms (hr.mono (by decide)) rfl T.g_are_some_rooms T.f_are_some_rooms.kp T.n_are_some_rooms .nil ZG (@Za _ _ _ _ _ (pv 0)
   (@Za _ _ _ _ _ (pv 1)
   Zc
   (by rfl))
   (by rfl)))))
   Zc
   (by rfl)))))
   (@Zg _ _ _ (@Zt _ _ _ _ XN))
   Zz)
   (@Zg _ _ _ (@Zt _ _ _ _ (Vs (Zm G_are_some_rooms (hr.mono (by decide)) rfl T.g_are_some_rooms T.f_are_some_rooms.kp T.n_are_some_rooms .nil ZG (@Za _ _ _ _ _ (pv 2)
   (@Za _ _ _ _ _ (pv 4)
   Zc
   (by rfl))
   (by rfl))) (Vs (Zm G_are_names (hr.mono (by decide)) rfl T.g_are_names T.f_are_names.kp T.n_are_names .nil ZG (@Za _ _ _ _ _ (pv 3)
   Zc
   (by rfl))) (Vy (@XM _ _ _ _ _ _ _ _ Wc
   (Zk (Zy (K := K) rfl) rfl T.b_len PyProof.Rows.Boot.«len» (@Za _ _ _ _ _ (pv 3)
   Zc
   (by rfl)))
   (WH rfl T.c_MOST_FAIR)
   (Zw _)))))))))))), ?_⟩
  rcases WW kx.1 with ⟨hb, p, xs, rfl, hp, hl⟩ | ⟨hb, e⟩
  case inr =>
   obtain ⟨t, h1, h2⟩ := Wb K (by simp) kx.1 hb
   have q := k H (.refl H)
   have e2 : Xv H x y z u = false := by unfold Xv; rw [e]
   rw [e2] at q
   exact ⟨_, rfl, _, t, _, rfl, h1, h2, _, rfl, Z2 (Z2 q)⟩
  obtain ⟨t, h1, h2⟩ := Wb K (by simp) kx.1 hb
  refine ⟨_, rfl, _, t, _, rfl, h1, h2, _, rfl, YJ ?_⟩
  rcases WW ky.1 with ⟨hb2, p2, ys, rfl, hp2, hl2⟩ | ⟨hb2, e⟩
  case inr =>
   obtain ⟨t, h1, h2⟩ := Wb K (by simp) ky.1 hb2
   have q := k H (.refl H)
   have e2 : Xv H (.ref p) y z u = false := by unfold Xv; rw [hl, e]
   rw [e2] at q
   exact ⟨_, rfl, _, t, _, rfl, h1, h2, _, rfl, Z2 q⟩
  obtain ⟨t2, h3, h4⟩ := Wb K (by simp) ky.1 hb2
  refine ⟨_, rfl, _, t2, _, rfl, h3, h4, _, rfl, YJ ?_⟩
  obtain ⟨hz, hy⟩ := kx.2 xs hl
  obtain ⟨hz2, hy2⟩ := ky.2 ys hl2
  have hS : xs.length ≤ sizeLine := by rw [sizeLine_eq]; omega
  have hS2 : ys.length ≤ sizeLine := by rw [sizeLine_eq]; omega
  have ev : Xv H (.ref p) (.ref p2) z u = (decide (1 ≤ xs.length) && decide (xs.length ≤ 20) && decide (ys.length = xs.length) && xs.all (Z9 H) && ys.all (ZR H xs.length) && (ZR H xs.length z && (Z9 H u && few3 (XD H u)))) := by unfold Xv; rw [hl, hl2]
  rw [ev] at k
  refine ⟨_, rfl, .inl ⟨p, xs, rfl, .inl (SqL.of hp), ?_⟩⟩
  refine ⟨_, rfl, _, _, rfl, rfl, _, rfl, ?_⟩
  cases c1 : decide ((1 : Int) ≤ xs.length) with
  | false =>
   have e1 : decide (1 ≤ xs.length) = false := decide_eq_false fun q => absurd (of_decide_eq_false c1) (by omega)
   rw [e1] at k
   exact YJ ⟨_, rfl, Z2 (Z2 (k H (.refl H)))⟩
  | true =>
  have e1 : decide (1 ≤ xs.length) = true := decide_eq_true (by have := of_decide_eq_true c1; omega)
  rw [e1] at k
  refine Z2 ⟨_, _, rfl, rfl, _, rfl, ?_⟩
  cases c2 : decide ((xs.length : Int) ≤ 20) with
  | false =>
   have e2 : decide (xs.length ≤ 20) = false := decide_eq_false fun q => absurd (of_decide_eq_false c2) (by omega)
   rw [e2] at k
   exact Z2 (Z2 (k H (.refl H)))
  | true =>
  have e2 : decide (xs.length ≤ 20) = true := decide_eq_true (by have := of_decide_eq_true c2; omega)
  rw [e2] at k
  refine YJ ⟨_, rfl, .inl ⟨p2, ys, rfl, .inl (SqL.of hp2), _, rfl, rfl, _, rfl, ?_⟩⟩
  cases c3 : decide (V.int (ys.length : Int) = V.int (xs.length : Int)) with
  | false =>
   have e3 : decide (ys.length = xs.length) = false := decide_eq_false fun q => absurd (of_decide_eq_false c3) (by rw [q]; simp)
   rw [e3] at k
   exact Z2 (k H (.refl H))
  | true =>
  have e3 : decide (ys.length = xs.length) = true := decide_eq_true (by have := V.int.inj (of_decide_eq_true c3); omega)
  rw [e3] at k
  refine YJ ⟨_, rfl, p, rfl, ⟨xs, SqL.of hp⟩, fun D hD => ?_⟩
  refine Yp (K := K) hD (SqL.of hp) hS (fun i v _ => ∀ x, xs[i]? = some x → v = .bl (Z9 H x)) (fun _ _ _ _ _ q => q) ?_ ?_
  ·intro i x H2 N hx sm hN
   have hk := hy x (List.mem_of_getElem? hx)
   refine ⟨_, rfl, x, rfl, hk.mono sm, fun H3 s3 => hN _ _ s3 fun x' hx' => ?_⟩
   rw [hx] at hx'; cases hx'
   rw [Vp sm hk.1]
  intro H2 zs hD2 sm hlen hr
  have ey := Xp (f := Z9 H) hlen fun i v x h1 h2 => hr i v h1 x h2
  refine ⟨D, _, rfl, SqL.of (by rw [hD2, ey]), _, rfl, ?_⟩
  rw [WN]
  cases c4 : xs.all (Z9 H) with
  | false =>
   rw [c4] at k
   exact Z2 (k H2 sm)
  | true =>
  rw [c4] at k
  refine YJ ⟨_, rfl, p2, rfl, ⟨ys, SqL.of (sm _ _ hp2)⟩, fun D' hD' => ?_⟩
  refine Yp (K := K) hD' (SqL.of (sm _ _ hp2)) hS2 (fun i v _ => ∀ x, ys[i]? = some x → v = .bl (ZR H xs.length x)) (fun _ _ _ _ _ q => q) ?_ ?_
  ·intro i x H3 N hx sm3 hN
   have hk := hy2 x (List.mem_of_getElem? hx)
   have s3 := sm.trans sm3
   refine ⟨_, rfl, _, rfl, x, _, rfl, hk.mono s3, fun H4 s4 => hN _ _ s4 fun x' hx' => ?_⟩
   rw [hx] at hx'; cases hx'
   rw [WR s3 hk.1]
  intro H3 zs3 hD3 sm3 hlen3 hr3
  have s3 := sm.trans sm3
  have ey3 := Xp (f := ZR H xs.length) hlen3 fun i v x h1 h2 => hr3 i v h1 x h2
  refine ⟨D', _, rfl, SqL.of (by rw [hD3, ey3]), _, rfl, ?_⟩
  rw [WN]
  cases c5 : ys.all (ZR H xs.length) with
  | false =>
   rw [c5] at k
   exact Z2 (k H3 s3)
  | true =>
  rw [c5] at k
  refine YJ ⟨_, rfl, _, rfl, z, _, rfl, kz.mono s3, fun H4 s4 => ⟨_, rfl, ?_⟩⟩
  rw [WR s3 kz.1]
  have s5 := s3.trans s4
  cases c6 : ZR H xs.length z with
  | false =>
   rw [c6] at k
   exact YJ (k H4 s5)
  | true =>
  rw [c6] at k
  refine Z2 ⟨_, rfl, u, rfl, ku.mono s5, fun H5 s6 => ⟨_, rfl, ?_⟩⟩
  rw [Vp s5 ku.1]
  have s7 := s5.trans s6
  cases c7 : Z9 H u with
  | false =>
   rw [c7] at k
   exact YJ (k H5 s7)
  | true =>
  rw [c7] at k
  rcases WW ku.1 with ⟨_, p4, fs, rfl, hp4, hl4⟩ | ⟨_, e⟩
  ·rw [hl4] at k
   refine Z2 ⟨_, rfl, .inl ⟨p4, fs, rfl, .inl (SqL.of (s7 _ _ hp4)), _, _, rfl, rfl, ?_⟩⟩
   have q := k H5 s7
   have e8 : decide (fs.length ≤ 3) = decide ((fs.length : Int) ≤ 3) := decide_eq_decide.mpr (by omega)
   simp only [few3] at q
   rw [e8] at q
   exact q
  ·unfold Z9 at c7
   rw [e] at c7
   cases c7
def zg (K : PySem.W.Frag) (a : Adr) : Sp := fun vs H Q _ => ∃ p dx x y z u d, vs = [.ref p, x, y, z, u] ∧ H p = some (.ins a.C_World dx []) ∧ Y9 H x y z u d ∧ Xu d ∧ ∀ H', ZF p H H' → YL a.C_World H' p d → Q .non H'
theorem Vn {P : Program} {w : World} {K : PySem.W.Frag} {mg : Str → Option Value} {base : Heap} {a : Adr} (T : Txt K mg a) (hw : w.params = a.Pm) : Yr P w K mg base CX0 6 a.World_init a.World_init_fd ["self", "signs", "ways", "starts", "fair"] (zg K a) := by
 have G_makes_world := WT (P := P) (w := w) (base := base) T hw
 refine T.f_World_init.ok Vm (fun vs H Q E h => ?_) (fun cdv A outer s H vs Q E hr h => ?_)
 ·obtain ⟨p, dx, x, y, z, u, d, rfl, _⟩ := h
  rfl
 ·obtain ⟨p, dx, x, y, z, u, d, rfl, hp, pp, gd, k⟩ := h
  refine ⟨_, (@Ze _ _ _ _ _ (@Z4 _ _ _ _ _ _ _ _ (@YT _ _ _ _ (Xf (Zm G_makes_world (hr.mono (by decide)) rfl T.g_makes_world T.f_makes_world.kp T.n_makes_world .nil ZG (@YB _ _ _ _ _ (pv 1)
   (@YB _ _ _ _ _ (pv 2)
   (@YB _ _ _ _ _ (pv 3)
   (@YB _ _ _ _ _ (pv 4)
   Zc
   (by rfl))
   (by rfl))
   (by rfl))
   (by rfl)))))
   (@Zg _ _ _ ps_never)
   Zz)
   (@Ze _ _ _ _ _ (yn (pv 0) (ZZ (Xt (K := K) rfl) rfl T.b_tuple PyProof.Rows.Boot.«tuple» (@Za _ _ _ _ _ (Ys (Nc := ["names"]) (ix := [none]) (ZI.of (by decide +kernel : ZL (Zb Ye) ["self", "signs", "ways", "starts", "fair"] ["names"] [none] _ = true)) rfl (ZO (K := K) rfl (pv 1)) (fun _ _ _ _ _ => (Zu (i := 0) (show List.Nodup (["names"] : List Str) by decide +kernel) rfl (by first | exact Or.inl rfl | exact Or.inr rfl))) (fun _ _ _ _ _ => Yk) (fun _ _ _ _ _ => (ZZ (Xt (K := K) rfl) rfl T.b_tuple PyProof.Rows.Boot.«tuple» (@Za _ _ _ _ _ (Zk (Wv (K := K) rfl) rfl T.b_sorted PyProof.Rows.Boot.«sorted» (@Za _ _ _ _ _ (pv 0)
   Zc
   (by rfl)))
   Zc
   (by rfl)))))
   Zc
   (by rfl))) rfl)
   (@Ze _ _ _ _ _ (yn (pv 0) (ZZ (Xt (K := K) rfl) rfl T.b_tuple PyProof.Rows.Boot.«tuple» (@Za _ _ _ _ _ (Ys (Nc := ["rooms"]) (ix := [none]) (ZI.of (by decide +kernel : ZL (Zb Ye) ["self", "signs", "ways", "starts", "fair"] ["rooms"] [none] _ = true)) rfl (ZO (K := K) rfl (pv 2)) (fun _ _ _ _ _ => (Zu (i := 0) (show List.Nodup (["rooms"] : List Str) by decide +kernel) rfl (by first | exact Or.inl rfl | exact Or.inr rfl))) (fun _ _ _ _ _ => Yk) (fun _ _ _ _ _ => (ZZ (Xt (K := K) rfl) rfl T.b_tuple PyProof.Rows.Boot.«tuple» (@Za _ _ _ _ _ (Zk (Wv (K := K) rfl) rfl T.b_sorted PyProof.Rows.Boot.«sorted» (@Za _ _ _ _ _ (pv 0)
   Zc
   (by rfl)))
   Zc
   (by rfl)))))
   Zc
   (by rfl))) rfl)
   (@Ze _ _ _ _ _ (yn (pv 0) (ZZ (Xt (K := K) rfl) rfl T.b_tuple PyProof.Rows.Boot.«tuple» (@Za _ _ _ _ _ (Zk (Wv (K := K) rfl) rfl T.b_sorted PyProof.Rows.Boot.«sorted» (@Za _ _ _ _ _ (pv 3)
   Zc
   (by rfl)))
   Zc
   (by rfl))) rfl)
   (@Zg _ _ _ (yn (pv 0) (ZZ (Xt (K := K) rfl) rfl T.b_tuple PyProof.Rows.Boot.«tuple» (@Za _ _ _ _ _ (pv 4)
   Zc
   (by rfl))) rfl)))))), ?_⟩
  obtain ⟨kx, ky, kz, ku⟩ := pp.kd gd
  have hm := pp.makes gd
  refine ⟨_, rfl, _, rfl, _, rfl, _, rfl, x, y, z, u, rfl, kx, ky, kz, ku, fun H1 s1 => ⟨_, rfl, ?_⟩⟩
  rw [hm]
  refine YJ ?_
  have p1 := pp.mono s1
  have hp1 := s1 _ _ hp
  have ph := p1.hid hp1
  have := gd.n20
  have := gd.wl
  obtain ⟨b1, v1, e1, g1, l1, q1⟩ := p1.s
  subst e1
  refine ⟨_, rfl, b1, rfl, ⟨v1, SqL.of g1⟩, fun D hD => ?_⟩
  refine Yp (K := K) hD (SqL.of g1) (by rw [sizeLine_eq]; omega) (fun i v G => ∀ ss, d.signs[i]? = some ss → TS G v (Y3 ss)) (fun i v _ _ sm q ss e => TS.mono _ _ _ _ sm (q ss e)) ?_ ?_
  ·intro i w H2 N hx sm hN
   have hi : i < d.signs.length := by rw [← l1]; exact (List.getElem?_eq_some_iff.mp hx).1
   obtain ⟨c, rfl, ec⟩ := q1 i w _ hx (List.getElem?_eq_getElem hi)
   have hg := gd.sn _ (List.getElem_mem hi)
   refine ⟨_, rfl, .inl ⟨c, _, rfl, SqL.of (sm _ _ ec), by omega, fun l hl => ⟨l, _, rfl, .inl ⟨SqL.of Zd, fun t ht => ?_⟩⟩⟩⟩
   refine hN _ _ ((Zf hl).trans (Zf ht)) fun ss hss => ⟨t, rfl, New.mk ((Zf hl).free ht) ?_⟩
   rw [List.getElem?_eq_getElem hi] at hss
   cases hss
   rw [Zd]
  intro H2 w1 hD2 s2 lw1 r1
  refine ⟨D, w1, rfl, .inl ⟨SqL.of hD2, fun t1 ht1 => ?_⟩⟩
  have st1 := Zf (o := .tup w1) ht1
  have hp2 := st1 _ _ (s2 _ _ hp1)
  refine ⟨_, rfl, p, _, dx, [], rfl, hp2, T.cl_World, T.na_World_room_signs, by decide, ?_⟩
  have x2 : ZF p H1 (upd (upd H2 t1 (.tup w1)) p (.ins a.C_World dx (Y8 "room_signs" (.ref t1) []))) := (Zn.x (s2.trans st1)).upd
  have np1 : t1 ≠ p := fun z => by subst z; rw [s2 _ _ hp1] at ht1; cases ht1
  have W1 : LT TS (hide p (upd (upd H2 t1 (.tup w1)) p (.ins a.C_World dx (Y8 "room_signs" (.ref t1) [])))) (.ref t1) (d.signs.map Y3) := by
   refine zF (xs := d.signs) (Y7 np1 (by rw [Zv np1, Zd])) (lw1.trans l1) fun i v hv ss hss => ?_
   refine TS.mono _ _ _ _ ?_ (r1 i v hv ss hss)
   exact (New.hidden hp1).trans (ZF.hide ((Zn.x st1).upd))
  have hp3 : (upd (upd H2 t1 (.tup w1)) p (.ins a.C_World dx (Y8 "room_signs" (.ref t1) []))) p = some (.ins a.C_World dx (Y8 "room_signs" (.ref t1) [])) := Zd
  rw [put1] at x2 W1 hp3 ⊢
  generalize upd (upd H2 t1 (.tup w1)) p (.ins a.C_World dx ([("room_signs", V.ref t1)] : List (Str × V))) = H3 at x2 W1 hp3 ⊢
  have p3 := (ph.mono x2.hide).mono Xw
  obtain ⟨b2, v2, e2, g2, l2, q2⟩ := p3.w
  subst e2
  refine ⟨_, rfl, b2, rfl, ⟨v2, SqL.of g2⟩, fun D2 hDD => ?_⟩
  refine Yp (K := K) hDD (SqL.of g2) (by rw [sizeLine_eq]; omega) (fun i v G => ∀ ss, d.ways[i]? = some ss → TIn G v (ZS ss)) (fun i v _ _ sm q ss e => TIn.mono _ _ _ _ sm (q ss e)) ?_ ?_
  ·intro i w H4 N hx sm hN
   have hi : i < d.ways.length := by rw [← l2]; exact (List.getElem?_eq_some_iff.mp hx).1
   obtain ⟨c, rfl, ec⟩ := q2 i w _ hx (List.getElem?_eq_getElem hi)
   have hg := gd.wn _ (List.getElem_mem hi)
   refine ⟨_, rfl, .inr ⟨c, _, rfl, SqL.of (sm _ _ ec), by omega, fun l hl => ⟨l, _, rfl, .inl ⟨SqL.of Zd, fun t ht => ?_⟩⟩⟩⟩
   refine hN _ _ ((Zf hl).trans (Zf ht)) fun ss hss => ⟨t, rfl, New.mk ((Zf hl).free ht) ?_⟩
   rw [List.getElem?_eq_getElem hi] at hss
   cases hss
   rw [Zd]
  intro H4 w2 hD4 s4 lw2 r2
  refine ⟨D2, w2, rfl, .inl ⟨SqL.of hD4, fun t2 ht2 => ?_⟩⟩
  have st2 := Zf (o := .tup w2) ht2
  have hp4 := st2 _ _ (s4 _ _ hp3)
  refine ⟨_, rfl, p, _, dx, _, rfl, hp4, T.cl_World, T.na_World_room_ways, by simp, ?_⟩
  have x4 : ZF p H3 (upd (upd H4 t2 (.tup w2)) p (.ins a.C_World dx (Y8 "room_ways" (.ref t2) ([("room_signs", V.ref t1)] : List (Str × V))))) := (Zn.x (s4.trans st2)).upd
  have np2 : t2 ≠ p := fun z => by subst z; rw [s4 _ _ hp3] at ht2; cases ht2
  have W2 : LT TIn (hide p (upd (upd H4 t2 (.tup w2)) p (.ins a.C_World dx (Y8 "room_ways" (.ref t2) ([("room_signs", V.ref t1)] : List (Str × V)))))) (.ref t2) (d.ways.map ZS) := by
   refine zF (xs := d.ways) (Y7 np2 (by rw [Zv np2, Zd])) (lw2.trans l2) fun i v hv ss hss => ?_
   refine TIn.mono _ _ _ _ ?_ (r2 i v hv ss hss)
   exact (New.hidden hp3).trans (ZF.hide ((Zn.x st2).upd))
  have hp5 : (upd (upd H4 t2 (.tup w2)) p (.ins a.C_World dx (Y8 "room_ways" (.ref t2) ([("room_signs", V.ref t1)] : List (Str × V))))) p = some (.ins a.C_World dx (Y8 "room_ways" (.ref t2) ([("room_signs", V.ref t1)] : List (Str × V)))) := Zd
  have W1 := LT.mono TS.mono _ _ _ _ x4.hide W1
  rw [put2] at x4 W1 W2 hp5 ⊢
  generalize upd (upd H4 t2 (.tup w2)) p (.ins a.C_World dx ([("room_signs", V.ref t1), ("room_ways", V.ref t2)] : List (Str × V))) = H5 at x4 W1 W2 hp5 ⊢
  have x5 := x2.trans x4
  have p5 := (ph.mono x5.hide).mono Xw
  obtain ⟨b3, e3, g3⟩ := p5.st
  subst e3
  have hst := gd.stn.2.2.2
  refine ⟨_, rfl, .inr ⟨b3, _, rfl, SqL.of g3, by omega, fun l hl => ⟨l, _, rfl, .inl ⟨SqL.of Zd, fun t3 ht3 => ?_⟩⟩⟩⟩
  have st3 := (Zf (o := .lst ((ZS d.starts).map V.int)) hl).trans (Zf (o := .tup ((ZS d.starts).map V.int)) ht3)
  have hp6 := st3 _ _ hp5
  refine ⟨_, rfl, p, _, dx, _, rfl, hp6, T.cl_World, T.na_World_start_rooms, by simp, ?_⟩
  have np3 : t3 ≠ p := fun z => by subst z; rw [Zf hl _ _ hp5] at ht3; cases ht3
  have x6 : ZF p H5 (upd (upd (upd H5 l (.lst ((ZS d.starts).map V.int))) t3 (.tup ((ZS d.starts).map V.int))) p (.ins a.C_World dx (Y8 "start_rooms" (.ref t3) ([("room_signs", V.ref t1), ("room_ways", V.ref t2)] : List (Str × V))))) := (Zn.x st3).upd
  have hp7 : (upd (upd (upd H5 l (.lst ((ZS d.starts).map V.int))) t3 (.tup ((ZS d.starts).map V.int))) p (.ins a.C_World dx (Y8 "start_rooms" (.ref t3) ([("room_signs", V.ref t1), ("room_ways", V.ref t2)] : List (Str × V))))) p = some (.ins a.C_World dx (Y8 "start_rooms" (.ref t3) ([("room_signs", V.ref t1), ("room_ways", V.ref t2)] : List (Str × V)))) := Zd
  have W3 : TIn (hide p (upd (upd (upd H5 l (.lst ((ZS d.starts).map V.int))) t3 (.tup ((ZS d.starts).map V.int))) p (.ins a.C_World dx (Y8 "start_rooms" (.ref t3) ([("room_signs", V.ref t1), ("room_ways", V.ref t2)] : List (Str × V)))))) (.ref t3) (ZS d.starts) := ⟨t3, rfl, Y7 np3 (by rw [Zv np3, Zd])⟩
  have W1 := LT.mono TS.mono _ _ _ _ x6.hide W1
  have W2 := LT.mono TIn.mono _ _ _ _ x6.hide W2
  rw [put3] at x6 W1 W2 W3 hp7 ⊢
  generalize upd (upd (upd H5 l (.lst ((ZS d.starts).map V.int))) t3 (.tup ((ZS d.starts).map V.int))) p (.ins a.C_World dx ([("room_signs", V.ref t1), ("room_ways", V.ref t2), ("start_rooms", V.ref t3)] : List (Str × V))) = H7 at x6 W1 W2 W3 hp7 ⊢
  have x7 := x5.trans x6
  have p7 := (ph.mono x7.hide).mono Xw
  obtain ⟨b4, e4, g4⟩ := p7.f
  subst e4
  refine ⟨_, rfl, b4, _, rfl, .inl ⟨SqL.of g4, fun t4 ht4 => ?_⟩⟩
  have st4 := Zf (o := .tup (d.fair.map V.str)) ht4
  have hp8 := st4 _ _ hp7
  refine ⟨_, rfl, p, _, dx, _, rfl, hp8, T.cl_World, T.na_World_fair_names, by simp, ?_⟩
  have np4 : t4 ≠ p := fun z => by subst z; rw [hp7] at ht4; cases ht4
  have x8 : ZF p H7 (upd (upd H7 t4 (.tup (d.fair.map V.str))) p (.ins a.C_World dx (Y8 "fair_names" (.ref t4) ([("room_signs", V.ref t1), ("room_ways", V.ref t2), ("start_rooms", V.ref t3)] : List (Str × V))))) := (Zn.x st4).upd
  refine k _ ((Zn.x s1).trans (x7.trans x8)) ⟨dx, .ref t1, .ref t2, .ref t3, .ref t4, by rw [Zd, put4], ?_, ?_, ?_, ?_⟩
  ·exact LT.mono TS.mono _ _ _ _ (x8.hide.trans Xw) W1
  ·exact LT.mono TIn.mono _ _ _ _ (x8.hide.trans Xw) W2
  ·exact TIn.mono _ _ _ _ (x8.hide.trans Xw) W3
  ·exact ⟨t4, rfl, by rw [Zv np4, Zd]⟩
def zm (K : PySem.W.Frag) (a : Adr) : Sp := fun vs H Q _ => ∃ p d, vs = [.ref p] ∧ YL a.C_World H p d ∧ Q (.int d.signs.length) H
theorem zj {P : Program} {w : World} {K : PySem.W.Frag} {mg : Str → Option Value} {base : Heap} {a : Adr} (T : Txt K mg a) (hw : w.params = a.Pm) : Yr P w K mg base CX0 1 a.World_many a.World_many_fd ["self"] (zm K a) := by
 refine T.f_World_many.ok zr (fun vs H Q E h => ?_) (fun cdv A outer s H vs Q E hr h => ?_)
 ·obtain ⟨p, d, rfl, _⟩ := h
  rfl
 ·obtain ⟨p, d, rfl, hw, k⟩ := h
  refine ⟨_, (@Zg _ _ _ (@Zt _ _ _ _ (Zk (Zy (K := K) rfl) rfl T.b_len PyProof.Rows.Boot.«len» (@Za _ _ _ _ _ (VY (K := K) rfl (pv 0) rfl)
   Zc
   (by rfl))))), ?_⟩
  obtain ⟨dx, t1, t2, t3, t4, e, ⟨b, vs, rfl, g, l, q⟩, _⟩ := hw.ex
  refine ⟨_, rfl, p, _, dx, _, _, rfl, e, T.cl_World, T.na_World_room_signs, xC _ _ _ _, .inl ⟨b, vs, rfl, .inr (SqT.of g), ?_⟩⟩
  rw [l, List.length_map]
  exact k
def VP (K : PySem.W.Frag) (a : Adr) : Sp := fun vs H Q _ => ∃ p d i ss, vs = [.ref p, .int (i : Nat)] ∧ YL a.C_World H p d ∧ d.signs[i]? = some ss ∧ ∀ l, H l = none → Q (.ref l) (upd H l (.lst ((Y3 ss).map V.str)))
theorem V0 {P : Program} {w : World} {K : PySem.W.Frag} {mg : Str → Option Value} {base : Heap} {a : Adr} (T : Txt K mg a) (hw : w.params = a.Pm) : Yr P w K mg base CX0 1 a.World_signs_of a.World_signs_of_fd ["self", "room"] (VP K a) := by
 refine T.f_World_signs_of.ok VZ (fun vs H Q E h => ?_) (fun cdv A outer s H vs Q E hr h => ?_)
 ·obtain ⟨p, d, i, ss, rfl, _⟩ := h
  rfl
 ·obtain ⟨p, d, i, ss, rfl, hw, hs, k⟩ := h
  refine ⟨_, (@Zg _ _ _ (@Zt _ _ _ _ (ZZ (X8 (K := K) rfl rfl) rfl T.b_list PyProof.Rows.Boot.«list» (@Za _ _ _ _ _ (@Y2 _ _ _ _ _ _ _ (ix_tupK (K := K) rfl)
   (VY (K := K) rfl (pv 0) rfl)
   (pv 1)
   (fun _ _ => rfl))
   Zc
   (by rfl))))), ?_⟩
  obtain ⟨dx, t1, t2, t3, t4, e, ⟨b, vs, rfl, g, l, q⟩, _⟩ := hw.ex
  have hi : i < vs.length := by
   rw [l, List.length_map]
   exact (List.getElem?_eq_some_iff.mp hs).1
  obtain ⟨c, ec, gc⟩ := q i _ (Y3 ss) (List.getElem?_eq_getElem hi) (by rw [List.getElem?_map, hs]; rfl)
  refine ⟨_, rfl, p, _, dx, _, _, rfl, e, T.cl_World, T.na_World_room_signs, xC _ _ _ _, _, rfl, b, vs, _, _, rfl, rfl, SqT.of g, Yo (List.getElem?_eq_getElem hi), ?_⟩
  rw [ec]
  exact .inl ⟨c, _, rfl, .inr (SqT.of gc), k⟩
def Ua (K : PySem.W.Frag) (a : Adr) : Sp := fun vs H Q _ => ∃ p d i ss, vs = [.ref p, .int (i : Nat)] ∧ YL a.C_World H p d ∧ d.ways[i]? = some ss ∧ ∀ l, H l = none → Q (.ref l) (upd H l (.lst ((ZS ss).map V.int)))
theorem V8 {P : Program} {w : World} {K : PySem.W.Frag} {mg : Str → Option Value} {base : Heap} {a : Adr} (T : Txt K mg a) (hw : w.params = a.Pm) : Yr P w K mg base CX0 1 a.World_ways_on a.World_ways_on_fd ["self", "room"] (Ua K a) := by
 refine T.f_World_ways_on.ok V6 (fun vs H Q E h => ?_) (fun cdv A outer s H vs Q E hr h => ?_)
 ·obtain ⟨p, d, i, ss, rfl, _⟩ := h
  rfl
 ·obtain ⟨p, d, i, ss, rfl, hw, hs, k⟩ := h
  refine ⟨_, (@Zg _ _ _ (@Zt _ _ _ _ (ZZ (X8 (K := K) rfl rfl) rfl T.b_list PyProof.Rows.Boot.«list» (@Za _ _ _ _ _ (@Y2 _ _ _ _ _ _ _ (ix_tupK (K := K) rfl)
   (VY (K := K) rfl (pv 0) rfl)
   (pv 1)
   (fun _ _ => rfl))
   Zc
   (by rfl))))), ?_⟩
  obtain ⟨dx, t1, t2, t3, t4, e, _, ⟨b, vs, rfl, g, l, q⟩, _⟩ := hw.ex
  have hi : i < vs.length := by
   rw [l, List.length_map]
   exact (List.getElem?_eq_some_iff.mp hs).1
  obtain ⟨c, ec, gc⟩ := q i _ (ZS ss) (List.getElem?_eq_getElem hi) (by rw [List.getElem?_map, hs]; rfl)
  refine ⟨_, rfl, p, _, dx, _, _, rfl, e, T.cl_World, T.na_World_room_ways, lk_ways _ _ _ _, _, rfl, b, vs, _, _, rfl, rfl, SqT.of g, Yo (List.getElem?_eq_getElem hi), ?_⟩
  rw [ec]
  exact .inl ⟨c, _, rfl, .inr (SqT.of gc), k⟩
def UJ (K : PySem.W.Frag) (a : Adr) : Sp := fun vs H Q _ => ∃ p d, vs = [.ref p] ∧ YL a.C_World H p d ∧ ∀ l, H l = none → Q (.ref l) (upd H l (.lst ((ZS d.starts).map V.int)))
theorem UR {P : Program} {w : World} {K : PySem.W.Frag} {mg : Str → Option Value} {base : Heap} {a : Adr} (T : Txt K mg a) (hw : w.params = a.Pm) : Yr P w K mg base CX0 1 a.World_begins a.World_begins_fd ["self"] (UJ K a) := by
 refine T.f_World_begins.ok UI (fun vs H Q E h => ?_) (fun cdv A outer s H vs Q E hr h => ?_)
 ·obtain ⟨p, d, rfl, _⟩ := h
  rfl
 ·obtain ⟨p, d, rfl, hw, k⟩ := h
  refine ⟨_, (@Zg _ _ _ (@Zt _ _ _ _ (ZZ (X8 (K := K) rfl rfl) rfl T.b_list PyProof.Rows.Boot.«list» (@Za _ _ _ _ _ (VY (K := K) rfl (pv 0) rfl)
   Zc
   (by rfl))))), ?_⟩
  obtain ⟨dx, t1, t2, t3, t4, e, _, _, ⟨b, rfl, g⟩, _⟩ := hw.ex
  exact ⟨_, rfl, p, _, dx, _, _, rfl, e, T.cl_World, T.na_World_start_rooms, lk_starts _ _ _ _, .inl ⟨b, _, rfl, .inr (SqT.of g), k⟩⟩
def Vk (K : PySem.W.Frag) (a : Adr) : Sp := fun vs H Q _ => ∃ p d, vs = [.ref p] ∧ YL a.C_World H p d ∧ ∀ l, H l = none → Q (.ref l) (upd H l (.lst (d.fair.map V.str)))
theorem Vl {P : Program} {w : World} {K : PySem.W.Frag} {mg : Str → Option Value} {base : Heap} {a : Adr} (T : Txt K mg a) (hw : w.params = a.Pm) : Yr P w K mg base CX0 1 a.World_fair_signs a.World_fair_signs_fd ["self"] (Vk K a) := by
 refine T.f_World_fair_signs.ok Vf (fun vs H Q E h => ?_) (fun cdv A outer s H vs Q E hr h => ?_)
 ·obtain ⟨p, d, rfl, _⟩ := h
  rfl
 ·obtain ⟨p, d, rfl, hw, k⟩ := h
  refine ⟨_, (@Zg _ _ _ (@Zt _ _ _ _ (ZZ (X8 (K := K) rfl rfl) rfl T.b_list PyProof.Rows.Boot.«list» (@Za _ _ _ _ _ (VY (K := K) rfl (pv 0) rfl)
   Zc
   (by rfl))))), ?_⟩
  obtain ⟨dx, t1, t2, t3, t4, e, _, _, _, ⟨b, rfl, g⟩⟩ := hw.ex
  exact ⟨_, rfl, p, _, dx, _, _, rfl, e, T.cl_World, T.na_World_fair_names, lk_fair _ _ _ _, .inl ⟨b, _, rfl, .inr (SqT.of g), k⟩⟩
def UN (K : PySem.W.Frag) (a : Adr) : Sp := fun vs H Q _ => ∃ (p : Addr) (ns : List Int) (j : Nat), vs = [.ref p, .int (j : Nat)] ∧ SqL K H p (ns.map V.int) ∧ ∀ n : Int, Q (.int n) H
theorem US {P : Program} {w : World} {K : PySem.W.Frag} {mg : Str → Option Value} {base : Heap} {a : Adr} (T : Txt K mg a) (hw : w.params = a.Pm) : Yr P w K mg base CX0 1 a._law_cell_at a._law_cell_at_fd ["_law_script", "_law_k"] (UN K a) := by
 refine T.f__law_cell_at.ok UO (fun vs H Q E h => ?_) (fun cdv A outer s H vs Q E hr h => ?_)
 ·obtain ⟨p, ns, j, rfl, _⟩ := h
  rfl
 ·obtain ⟨p, ns, j, rfl, hq, k⟩ := h
  refine ⟨_, (@Ze _ _ _ _ _ (@Z4 _ _ _ _ _ _ _ _ (@Zs _ _ _ _ _ _ _ _ qg
   (pv 1)
   (Zk (Zy (K := K) rfl) rfl T.b_len PyProof.Rows.Boot.«len» (@Za _ _ _ _ _ (pv 0)
   Zc
   (by rfl)))
   (Zw _))
   (@Zg _ _ _ (@Zt _ _ _ _ (@Y2 _ _ _ _ _ _ _ (Yj (K := K) rfl)
   (pv 0)
   (pv 1)
   (fun _ _ => rfl))))
   Zz)
   (@Zg _ _ _ (@Zt _ _ _ _ Zh))), ?_⟩
  refine ⟨_, rfl, _, rfl, .inl ⟨p, _, rfl, .inl hq, _, _, rfl, rfl, _, rfl, ?_⟩⟩
  refine Xj (fun c => ?_) (fun _ => k 0)
  have hj : j < ns.length := by have := of_decide_eq_true c; rw [List.length_map] at this; omega
  exact ⟨_, rfl, _, rfl, p, _, _, _, rfl, rfl, hq, Yo (at_of hj), k _⟩
def yP (K : PySem.W.Frag) (a : Adr) : Sp := fun vs H Q _ => ∃ (p : Addr) (ns : List Int), vs = [.ref p] ∧ H p = some (.lst (ns.map V.int)) ∧ ∀ H' (n : Int) (ns' : List Int), ZF p H H' → H' p = some (.lst (ns'.map V.int)) → Q (.int n) H'
theorem Xe {P : Program} {w : World} {K : PySem.W.Frag} {mg : Str → Option Value} {base : Heap} {a : Adr} (T : Txt K mg a) (hw : w.params = a.Pm) : Yr P w K mg base CX0 1 a._law_draw a._law_draw_fd ["_law_xs"] (yP K a) := by
 refine T.f__law_draw.ok yD (fun vs H Q E h => ?_) (fun cdv A outer s H vs Q E hr h => ?_)
 ·obtain ⟨p, ns, rfl, _⟩ := h
  rfl
 ·obtain ⟨p, ns, rfl, hp, k⟩ := h
  refine ⟨_, (@Ze _ _ _ _ _ (@Z4 _ _ _ _ _ _ _ _ (@Zs _ _ _ _ _ _ _ _ (yr (K := K) rfl (Y0.units hr))
   (pv 0)
   (@Z0 _ _ _ _ Zc)
   (Zw _))
   (@Zg _ _ _ (@Zt _ _ _ _ Zh))
   Zz)
   (@Zg _ _ _ (@Zt _ _ _ _ (pe_bm0 PySem.F.plainAttrs_list PySem.F.slot_list_pop PySem.F.type_list_pop mt_pop (pv 0))))), ?_⟩
  refine ⟨_, rfl, by decide, fun l hl => ?_⟩
  have s1 := Zf (o := .lst []) hl
  refine eqD_nil (s1 _ _ hp) Zd fun c hc => ⟨_, rfl, ?_⟩
  cases c with
  | true => exact Z2 (k _ 0 ns (Zn.x s1) (s1 _ _ hp))
  | false =>
   refine YJ ⟨_, rfl, .inl ⟨rfl, _, SqL.of (s1 _ _ hp)⟩, ?_⟩
   have hne : ns ≠ [] := fun e => by have := hc.mpr e; cases this
   have hl : ns.length - 1 < ns.length := by have := List.length_pos_iff.mpr hne; omega
   refine ⟨p, _, .int ns[ns.length - 1], rfl, rfl, s1 _ _ hp, by simp [hl], ?_⟩
   exact k _ _ ns.dropLast (Zn.x s1).upd (by rw [Zd, List.map_dropLast])
def U2 (K : PySem.W.Frag) (a : Adr) : Sp := fun vs H Q _ => ∃ (c : Int) (m : Nat), vs = [.int c, .int (m : Int)] ∧ m ≤ 1000 ∧ ∀ H' p (ns : List Int), Zn H H' → H p = none → H' p = some (.lst (ns.map V.int)) → Q (.ref p) H'
theorem qw {P : Program} {w : World} {K : PySem.W.Frag} {mg : Str → Option Value} {base : Heap} {a : Adr} (T : Txt K mg a) (hw : w.params = a.Pm) : Yr P w K mg base CX0 1 a._law_stream a._law_stream_fd ["_law_cell", "_law_many"] (U2 K a) := by
 refine T.f__law_stream.ok YI (fun vs H Q E h => ?_) (fun cdv A outer s H vs Q E hr h => ?_)
 ·obtain ⟨c, m, rfl, _⟩ := h
  rfl
 ·obtain ⟨c, m, rfl, hm, k⟩ := h
  refine ⟨_, (@Ze _ _ _ _ _ (@ZE _ _ (2) _ _ _ _ YI.nd
   rfl
   (by first | exact Or.inl rfl | exact Or.inr rfl)
   (@Z0 _ _ _ _ Zc)
   (by rfl)
   (by first | exact .inl rfl | exact .inr rfl | assumption))
   (@Ze _ _ _ _ _ (@ZE _ _ (3) _ _ _ _ YI.nd
   rfl
   (by first | exact Or.inl rfl | exact Or.inr rfl)
   (@Zq _ _ _ _ _ _ _ _ qQ
   (@Zq _ _ _ _ _ _ _ _ VI
   (pv 0)
   Zh)
   (@Zq _ _ _ _ _ _ _ _ op_sub
   Zh
   (@Zq _ _ _ _ _ _ _ _ Xg
   (pv 0)
   Zh)))
   (by rfl)
   (by first | exact .inl rfl | exact .inr rfl | assumption))
   (@Ze _ _ _ _ _ (qD PassesOwn.never (PW.pt (qa (@Zs _ _ _ _ _ _ _ _ qg
   (Zk (Zy (K := K) rfl) rfl T.b_len PyProof.Rows.Boot.«len» (@Za _ _ _ _ _ (pv 2)
   Zc
   (by rfl)))
   (pv 1)
   (Zw _)) (UT (@Zs _ _ _ _ _ _ _ _ op_gt
   (pv 3)
   Zh
   (Zw _))))) (@Ze _ _ _ _ _ (@Wp _ _ _ _ (Xi PySem.F.plainAttrs_list PySem.F.slot_list_append PySem.F.type_list_append XI (pv 2) (@Za _ _ _ _ _ (@Zq _ _ _ _ _ _ _ _ Xg
   (pv 3)
   (@Zq _ _ _ _ _ _ _ _ op_pow
   Zh
   Zh))
   Zc
   (by rfl)))
   (by rfl))
   (@Zg _ _ _ (@ZE _ _ (3) _ _ _ _ YI.nd
   rfl
   (by first | exact Or.inl rfl | exact Or.inr rfl)
   (@Zq _ _ _ _ _ _ _ _ VI
   (pv 3)
   (@Zq _ _ _ _ _ _ _ _ op_pow
   Zh
   Zh))
   (by rfl)
   (by first | exact .inl rfl | exact .inr rfl | assumption)))))
   (@Ze _ _ _ _ _ (@ZE _ _ (4) _ _ _ _ YI.nd
   rfl
   (by first | exact Or.inl rfl | exact Or.inr rfl)
   (@Zq _ _ _ _ _ _ _ _ Xg
   (@Zq _ _ _ _ _ _ _ _ qQ
   (@Zq _ _ _ _ _ _ _ _ Xz
   (pv 0)
   Zh)
   Zh)
   Zh)
   (by rfl)
   (by first | exact .inl rfl | exact .inr rfl | assumption))
   (@Ze _ _ _ _ _ (qD PassesOwn.never (@Zs _ _ _ _ _ _ _ _ qg
   (Zk (Zy (K := K) rfl) rfl T.b_len PyProof.Rows.Boot.«len» (@Za _ _ _ _ _ (pv 2)
   Zc
   (by rfl)))
   (pv 1)
   (Zw _)) (@Ze _ _ _ _ _ (@ZE _ _ (5) _ _ _ _ YI.nd
   rfl
   (by first | exact Or.inl rfl | exact Or.inr rfl)
   (@Zq _ _ _ _ _ _ _ _ Xz
   (@Zq _ _ _ _ _ _ _ _ Xz
   (pv 4)
   (@Zq _ _ _ _ _ _ _ _ qQ
   Zh
   (Zk (Zy (K := K) rfl) rfl T.b_len PyProof.Rows.Boot.«len» (@Za _ _ _ _ _ (pv 2)
   Zc
   (by rfl)))))
   Zh)
   (by rfl)
   (by first | exact .inl rfl | exact .inr rfl | assumption))
   (@Ze _ _ _ _ _ (@ZE _ _ (4) _ _ _ _ YI.nd
   rfl
   (by first | exact Or.inl rfl | exact Or.inr rfl)
   (@Zq _ _ _ _ _ _ _ _ Xg
   (@Zq _ _ _ _ _ _ _ _ qQ
   (pv 5)
   (@Zq _ _ _ _ _ _ _ _ Xz
   (@Zq _ _ _ _ _ _ _ _ VI
   (pv 4)
   Zh)
   Zh))
   Zh)
   (by rfl)
   (by first | exact .inl rfl | exact .inr rfl | assumption))
   (@Zg _ _ _ (@Wp _ _ _ _ (Xi PySem.F.plainAttrs_list PySem.F.slot_list_append PySem.F.type_list_append XI (pv 2) (@Za _ _ _ _ _ (@Zq _ _ _ _ _ _ _ _ Xg
   (@Zq _ _ _ _ _ _ _ _ qQ
   (pv 4)
   (@Zq _ _ _ _ _ _ _ _ Xz
   (@Zq _ _ _ _ _ _ _ _ VI
   (pv 4)
   Zh)
   Zh))
   Zh)
   Zc
   (by rfl)))
   (by rfl))))))
   (@Zg _ _ _ (@Zt _ _ _ _ (ye (K := K) rfl (pv 2) (ZC (Vo Wd Zh)))))))))), ?_⟩
  refine ⟨by decide, fun D hD => ?_⟩
  have hm2 : (0 : Int) ≤ c % 2 ∧ c % 2 < 2 := ⟨Int.emod_nonneg _ (by decide), Int.emod_lt_of_pos _ (by decide)⟩
  refine ⟨_, rfl, _, _, rfl, rfl, ⟨by decide, by decide⟩, _, rfl, _, _, rfl, rfl, by simp, _, _, rfl, rfl, _, _, rfl, rfl, .inr ⟨by omega, by omega⟩, ?_⟩
  refine ⟨fun n σ H' => ∃ (ns : List Int) (left : Int), σ = [some (.int c), some (.int m), some (.ref D), some (.int left), none, none] ∧ H' D = some (.lst (ns.map V.int)) ∧ Zn H H' ∧ ns.length ≤ m ∧ n = m - ns.length, ⟨m, [], _, rfl, Zd, Zf hD, Nat.zero_le _, rfl⟩, ?_⟩
  rintro n σ H1 ⟨ns, left, rfl, h1, s1, hl, rfl⟩
  refine ⟨_, rfl, .inl ⟨D, _, rfl, .inl (SqL.of h1), _, rfl, _, _, rfl, rfl, _, rfl, Xj (fun c1 => ⟨_, rfl, _, _, rfl, rfl, _, rfl, Xj (fun c2 => ?body) (fun c2 => ?X5)⟩) (fun c1 => YJ ?rest2)⟩⟩
  case body =>
   have c3 : ns.length < m := by have := of_decide_eq_true c1; rw [List.length_map] at this; omega
   refine ⟨fun σ H' => ∃ (ns' : List Int) (left : Int), σ = [some (.int c), some (.int m), some (.ref D), some (.int left), none, none] ∧ H' D = some (.lst (ns'.map V.int)) ∧ Zn H H' ∧ ns'.length = ns.length + 1, ?_, ?_⟩
   ·rintro σ' H' ⟨ns', left', rfl, a1, a2, a3⟩
    exact ⟨m - ns'.length, by omega, ns', left', rfl, a1, a2, by omega, rfl⟩
   ·refine ⟨_, rfl, .inl ⟨rfl, _, SqL.of h1⟩, _, rfl, _, _, rfl, rfl, ⟨by decide, by decide, by decide⟩, _, _, rfl, rfl, by simp, D, _, _, rfl, rfl, h1, by rw [List.length_map, sizeLine_eq]; omega, ?_⟩
    refine ⟨_, rfl, _, _, rfl, rfl, ⟨by decide, by decide, by decide⟩, _, _, rfl, rfl, ⟨by decide, by decide⟩, ?_⟩
    refine ⟨ns ++ [_], _, rfl, by rw [Zd, List.map_append]; rfl, (ZF.upd (Zn.x s1)).same hD, by simp⟩
  all_goals
   clear c1
   refine ⟨_, rfl, _, _, rfl, rfl, _, _, rfl, rfl, .inr ⟨by decide, by decide⟩, _, _, rfl, rfl, by simp, ?_⟩
   refine ⟨fun n σ H' => ∃ (ns : List Int) (num : Int) (z : Option V), σ = [some (.int c), some (.int m), some (.ref D), some (.int left), some (.int num), z] ∧ (0 ≤ num ∧ num < 2147483647) ∧ H' D = some (.lst (ns.map V.int)) ∧ Zn H H' ∧ ns.length ≤ m ∧ n = m - ns.length, ⟨m - ns.length, ns, _, _, rfl, ⟨Int.emod_nonneg _ (by decide), Int.emod_lt_of_pos _ (by decide)⟩, h1, s1, hl, rfl⟩, ?_⟩
   clear h1 s1 hl H1
   rintro n σ H1 ⟨ns, num, z, rfl, ⟨hn0, hn1⟩, h1, s1, hl, rfl⟩
   refine ⟨_, rfl, .inl ⟨D, _, rfl, .inl (SqL.of h1), _, rfl, _, _, rfl, rfl, _, rfl, Xj (fun c1 => ?_) (fun c1 => ?_)⟩⟩
   ·have c3 : ns.length < m := by have := of_decide_eq_true c1; rw [List.length_map] at this; omega
    refine ⟨fun σ H' => ∃ (ns' : List Int) (num : Int) (z : Option V), σ = [some (.int c), some (.int m), some (.ref D), some (.int left), some (.int num), z] ∧ (0 ≤ num ∧ num < 2147483647) ∧ H' D = some (.lst (ns'.map V.int)) ∧ Zn H H' ∧ ns'.length = ns.length + 1, ?_, ?_⟩
    ·rintro σ' H' ⟨ns', num', z', rfl, a0, a1, a2, a3⟩
     exact ⟨m - ns'.length, by omega, ns', num', z', rfl, a0, a1, a2, by omega, rfl⟩
    ·refine ⟨_, rfl, _, rfl, .inl ⟨D, _, rfl, .inl (SqL.of h1), _, _, rfl, rfl, .inl ⟨by decide, by decide⟩, _, _, rfl, rfl, _, _, rfl, rfl, ?_⟩⟩
     refine ⟨_, rfl, _, rfl, _, _, rfl, rfl, ⟨by decide, by decide⟩, _, _, rfl, rfl, _, _, rfl, rfl, .inr ⟨by omega, by omega⟩, _, _, rfl, rfl, by simp, ?_⟩
     have num0 := Int.emod_nonneg ((num + 7919 * ((ns.map V.int).length : Int) + 1) * (num / 1009 + 69621)) (show (2147483647 : Int) ≠ 0 by decide)
     have num1 := Int.emod_lt_of_pos ((num + 7919 * ((ns.map V.int).length : Int) + 1) * (num / 1009 + 69621)) (show (0 : Int) < 2147483647 by decide)
     refine ⟨_, rfl, .inl ⟨rfl, _, SqL.of h1⟩, _, rfl, _, rfl, _, _, rfl, rfl, ⟨by decide, by decide⟩, _, _, rfl, rfl, _, _, rfl, rfl, .inl ⟨Int.lt_of_lt_of_le (by decide) num0, Int.lt_trans num1 (by decide)⟩, _, _, rfl, rfl, by simp, D, _, _, rfl, rfl, h1, by rw [List.length_map, sizeLine_eq]; omega, ?_⟩
     exact ⟨ns ++ [_], _, _, rfl, ⟨num0, num1⟩, by rw [Zd, List.map_append]; rfl, (ZF.upd (Zn.x s1)).same hD, by simp⟩
   ·refine ⟨_, rfl, _, rfl, _, rfl, D, _, rfl, rfl, SqL.of h1, fun p hp => ?_⟩
    exact k _ p ns.reverse (s1.trans (Zf hp)) (s1.free hp) (by rw [Zd, List.map_reverse])
def yo (K : PySem.W.Frag) (a : Adr) : Sp := fun vs H Q _ => ∃ (p : Addr) (ns : List Int), vs = [.ref p] ∧ H p = some (.lst (ns.map V.int)) ∧ ∀ H' l (ss : List Str) (ns' : List Int), ZF p H H' → H' p = some (.lst (ns'.map V.int)) → H l = none → H' l = some (.lst (ss.map V.str)) → ss.Nodup → (∀ x ∈ ss, Zr x = true) → ss.length ≤ 5 → Q (.ref l) H'
theorem yz {P : Program} {w : World} {K : PySem.W.Frag} {mg : Str → Option Value} {base : Heap} {a : Adr} (T : Txt K mg a) (hw : w.params = a.Pm) : Yr P w K mg base CX0 2 a._law_pool a._law_pool_fd ["_law_xs"] (yo K a) := by
 have G__law_draw := Xe (P := P) (w := w) (base := base) T hw
 refine T.f__law_pool.ok Xc (fun vs H Q E h => ?_) (fun cdv A outer s H vs Q E hr h => ?_)
 ·obtain ⟨p, ns, rfl, _⟩ := h
  rfl
 ·obtain ⟨p, ns, rfl, hp, k⟩ := h
  refine ⟨_, (@Ze _ _ _ _ _ (@ZE _ _ (1) _ _ _ _ Xc.nd
   rfl
   (by first | exact Or.inl rfl | exact Or.inr rfl)
   (@Z0 _ _ _ _ Zc)
   (by rfl)
   (by first | exact .inl rfl | exact .inr rfl | assumption))
   (@Ze _ _ _ _ _ (VB PassesOwn.never rfl (Wn rfl T.b_range (@Za _ _ _ _ _ Zh
   Zc
   (by rfl))) (Zu (i := 2) Xc.nd rfl (by first | exact Or.inl rfl | exact Or.inr rfl)) (@Ze _ _ _ _ _ (@ZE _ _ (3) _ _ _ _ Xc.nd
   rfl
   (by first | exact Or.inl rfl | exact Or.inr rfl)
   Zl
   (by rfl)
   (by first | exact .inl rfl | exact .inr rfl | assumption))
   (@Ze _ _ _ _ _ (VB PassesOwn.never rfl (Wn rfl T.b_range (@Za _ _ _ _ _ (@Zq _ _ _ _ _ _ _ _ Xz
   Zh
   (@Zq _ _ _ _ _ _ _ _ Xg
   (Zm G__law_draw (hr.mono (by decide)) rfl T.g__law_draw T.f__law_draw.kp T.n__law_draw .nil ZG (@Za _ _ _ _ _ (pv 0)
   Zc
   (by rfl)))
   Zh))
   Zc
   (by rfl))) (Zu (i := 4) Xc.nd rfl (by first | exact Or.inl rfl | exact Or.inr rfl)) (@Zg _ _ _ (@ZE _ _ (3) _ _ _ _ Xc.nd
   rfl
   (by first | exact Or.inl rfl | exact Or.inr rfl)
   (@Zq _ _ _ _ _ _ _ _ Xo
   (pv 3)
   (@Y2 _ _ _ _ _ _ _ ix_str
   Zl
   (@Zq _ _ _ _ _ _ _ _ Xg
   (Zm G__law_draw (hr.mono (by decide)) rfl T.g__law_draw T.f__law_draw.kp T.n__law_draw .nil ZG (@Za _ _ _ _ _ (pv 0)
   Zc
   (by rfl)))
   Zh)
   (fun _ _ => rfl)))
   (by rfl)
   (by first | exact .inl rfl | exact .inr rfl | assumption))))
   (@Zg _ _ _ (@Z4 _ _ _ _ _ _ _ _ (@Zs _ _ _ _ _ _ _ _ (op_notInK (K := K) rfl)
   (pv 3)
   (pv 1)
   (by with_unfolding_all rfl))
   (@Zg _ _ _ (@Wp _ _ _ _ (Xi PySem.F.plainAttrs_list PySem.F.slot_list_append PySem.F.type_list_append XI (pv 1) (@Za _ _ _ _ _ (pv 3)
   Zc
   (by rfl)))
   (by rfl)))
   Zz)))))
   (@Zg _ _ _ (@Zt _ _ _ _ (pv 1))))), ?_⟩
  refine ⟨by decide, fun D hD => ?_⟩
  have np : D ≠ p := fun e => by rw [e, hp] at hD; cases hD
  refine ⟨5, rfl, by decide, by decide, ?_⟩
  refine Uf (fun i σ H' => ∃ (z1 z2 z3 : Option V) (ss : List Str) (ns' : List Int), σ = [some (.ref p), some (.ref D), z1, z2, z3] ∧ ZF p H H' ∧ H' p = some (.lst (ns'.map V.int)) ∧ H' D = some (.lst (ss.map V.str)) ∧ ss.Nodup ∧ (∀ x ∈ ss, Zr x = true) ∧ ss.length ≤ i) ?_ ?_ ?_
  ·exact ⟨_, _, _, [], ns, rfl, (ZF.refl H).updN hD, by rw [Zv (Ne.symm np)]; exact hp, Zd, by simp, by simp, by simp⟩
  ·rintro i σ H1 hi ⟨z1, z2, z3, ss, ns1, rfl, x1, h1, d1, nd, nm, hl⟩
   refine ⟨_, rfl, p, ns1, rfl, h1, fun H2 n ns2 x2 h2 => ⟨_, _, rfl, rfl, by simp, _, _, rfl, rfl, _, rfl, ?_, ?_, ?_⟩⟩
   ·have := Int.emod_nonneg n (show (8 : Int) ≠ 0 by decide); omega
   ·have := Int.emod_lt_of_pos n (show (0 : Int) < 8 by decide); omega
   have m0 := Int.emod_nonneg n (show (8 : Int) ≠ 0 by decide)
   have m1 := Int.emod_lt_of_pos n (show (0 : Int) < 8 by decide)
   have d2 := x2 _ _ np d1
   refine Uf (fun j σ H' => ∃ (z3 : Option V) (w : Str) (ns' : List Int), σ = [some (.ref p), some (.ref D), some (.int (0 + i)), some (.str w), z3] ∧ ZF p H H' ∧ H' p = some (.lst (ns'.map V.int)) ∧ H' D = some (.lst (ss.map V.str)) ∧ w.length = j ∧ w.cps.toList.all Xs = true) ?_ ?_ ?_
   ·exact ⟨_, _, ns2, rfl, x1.trans x2, h2, d2, rfl, rfl⟩
   ·rintro j σ H3 hj ⟨z4, w, ns3, rfl, x3, h3, d3, wl, wa⟩
    refine ⟨_, rfl, _, rfl, p, ns3, rfl, h3, fun H4 n4 ns4 x4 h4 => ⟨_, _, rfl, rfl, by simp, ?_⟩⟩
    obtain ⟨c, hc, lc⟩ := letter_at n4
    refine ⟨_, _, c, rfl, rfl, by decide +kernel, hc, _, _, rfl, rfl, ?_, ?_⟩
    ·rw [sizeLine_eq]
     have : Str.length ⟨#[c]⟩ = 1 := rfl
     have hj' : j < (1 + n % 8).toNat := hj
     omega
    ·exact ⟨_, _, ns4, rfl, x3.trans x4, h4, x4 _ _ np d3, by rw [yk, wl], yN wa lc⟩
   ·rintro σ H3 ⟨z4, w, ns3, rfl, x3, h3, d3, wl, wa⟩
    have wn : Zr w = true := name_of (by omega) (by omega) wa
    refine ⟨_, rfl, _, rfl, D, _, rfl, .inl (SqL.of d3), rfl, flat_strs ss, _, rfl, Xj (fun c => ?_) (fun c => ?_)⟩
    ·have nin : w ∉ ss := fun e => by
      have := inV_str.mpr e
      simp [this] at c
     refine ⟨_, rfl, .inl ⟨rfl, _, SqL.of d3⟩, _, rfl, D, _, _, rfl, rfl, d3, by rw [List.length_map, sizeLine_eq]; omega, ?_⟩
     refine ⟨_, _, _, ss ++ [w], ns3, rfl, x3.updN hD, by rw [Zv (Ne.symm np)]; exact h3, by rw [Zd, List.map_append]; rfl, vA nd nin, ?_, by simp; omega⟩
     intro x hx
     rcases List.mem_append.mp hx with hx | hx
     ·exact nm x hx
     ·have : x = w := by simpa using hx
      rw [this]; exact wn
    ·exact ⟨_, _, _, ss, ns3, rfl, x3, h3, d3, nd, nm, by omega⟩
  ·rintro σ H1 ⟨z1, z2, z3, ss, ns1, rfl, x1, h1, d1, nd, nm, hl⟩
   exact ⟨_, rfl, k _ D ss ns1 x1 h1 hD d1 nd nm hl⟩
def yL (K : PySem.W.Frag) (a : Adr) : Sp := fun vs H Q _ => ∃ (p : Addr) (ns : List Int) (q : Addr) (ts : List V) (m : Nat), vs = [.ref p, .ref q, .int (m : Int)] ∧ H p = some (.lst (ns.map V.int)) ∧ H q = some (.lst ts) ∧ q ≠ p ∧ ts.Nodup ∧ ts.length ≤ 1000 ∧ m ≤ 1 ∧ (m = 1 → ts ≠ []) ∧ ∀ H' l (ys : List V) (ns' : List Int), ZF p H H' → H' p = some (.lst (ns'.map V.int)) → H l = none → H' l = some (.lst ys) → ys.Nodup → (∀ y ∈ ys, y ∈ ts) → m ≤ ys.length → ys.length ≤ ts.length → Q (.ref l) H'
theorem yp {P : Program} {w : World} {K : PySem.W.Frag} {mg : Str → Option Value} {base : Heap} {a : Adr} (T : Txt K mg a) (hw : w.params = a.Pm) : Yr P w K mg base CX0 2 a._law_some a._law_some_fd ["_law_xs", "_law_things", "_law_least"] (yL K a) := by
  have G__law_draw := Xe (P := P) (w := w) (base := base) T hw
  refine T.f__law_some.ok XY (fun vs H Q E h => ?_) (fun cdv A outer s H vs Q E hr h => ?_)
  · obtain ⟨p, ns, q, ts, m, rfl, _⟩ := h
    rfl
  · obtain ⟨p, ns, q, ts, m, rfl, hp, hq, nq, nd, hz, hm, hne, k⟩ := h
    refine ⟨_, (@Ze _ _ _ _ _ (@ZE _ _ (3) _ _ _ _ XY.nd
      rfl
      (by first | exact Or.inl rfl | exact Or.inr rfl)
      (Zm G__law_draw (hr.mono (by decide)) rfl T.g__law_draw T.f__law_draw.kp T.n__law_draw .nil ZG (@Za _ _ _ _ _ (pv 0)
      Zc
      (by rfl)))
      (by rfl)
      (by first | exact .inl rfl | exact .inr rfl | assumption))
      (@Ze _ _ _ _ _ (Xb (i := 4) XY.nd rfl rfl (Nc := ["_law_k", "_law_thing", "_law_number"]) (ix := [none, none, some 3]) (ZI.of (by decide +kernel : ZL (Zb Yu) ["_law_xs", "_law_things", "_law_least", "_law_number", "_law_found"] ["_law_k", "_law_thing", "_law_number"] [none, none, some 3] _ = true)) rfl (pi_enumK (K := K) rfl rfl T.b_enumerate (@Za _ _ _ _ _ (pv 1)
      Zc
      (by rfl))) (fun _ _ _ _ _ => (yQ (K := K) (n := 2) rfl rfl (XQ (Zu (i := 0) (show List.Nodup (["_law_k", "_law_thing", "_law_number"] : List Str) by decide +kernel) rfl (by first | exact Or.inl rfl | exact Or.inr rfl)) (XQ (Zu (i := 1) (show List.Nodup (["_law_k", "_law_thing", "_law_number"] : List Str) by decide +kernel) rfl (by first | exact Or.inl rfl | exact Or.inr rfl)) yO)))) (fun _ _ _ _ _ => (Wx (@Zs _ _ _ _ _ _ _ _ Xl
      (@Zq _ _ _ _ _ _ _ _ op_and
      (@Zq _ _ _ _ _ _ _ _ op_shr
      (pv 2)
      (pv 0))
      Zh)
      Zh
      (Zw _)))) (fun _ _ _ _ _ => (pv 1)))
      (@Ze _ _ _ _ _ (@Z4 _ _ _ _ _ _ _ _ (@Zs _ _ _ _ _ _ _ _ qg
      (Zk (Zy (K := K) rfl) rfl T.b_len PyProof.Rows.Boot.«len» (@Za _ _ _ _ _ (pv 4)
      Zc
      (by rfl)))
      (pv 2)
      (Zw _))
      (@Zg _ _ _ (@ZE _ _ (4) _ _ _ _ XY.nd
      rfl
      (by first | exact Or.inl rfl | exact Or.inr rfl)
      (@Z0 _ _ _ _ (@Za _ _ _ _ _ (@Y2 _ _ _ _ _ _ _ (Yj (K := K) rfl)
      (pv 1)
      (@Zq _ _ _ _ _ _ _ _ Xg
      (Zm G__law_draw (hr.mono (by decide)) rfl T.g__law_draw T.f__law_draw.kp T.n__law_draw .nil ZG (@Za _ _ _ _ _ (pv 0)
      Zc
      (by rfl)))
      (Zk (Zy (K := K) rfl) rfl T.b_len PyProof.Rows.Boot.«len» (@Za _ _ _ _ _ (pv 1)
      Zc
      (by rfl))))
      (fun _ _ => rfl))
      Zc
      (by rfl)))
      (by rfl)
      (by first | exact .inl rfl | exact .inr rfl | assumption)))
      Zz)
      (@Ze _ _ _ _ _ (@Z4 _ _ _ _ _ _ _ _ (@Zs _ _ _ _ _ _ _ _ Xl
      (@Zq _ _ _ _ _ _ _ _ op_and
      (@Zq _ _ _ _ _ _ _ _ op_shr
      (pv 3)
      Zh)
      Zh)
      Zh
      (Zw _))
      (@Zg _ _ _ (@Wp _ _ _ _ (pe_bm0 PySem.F.plainAttrs_list PySem.F.slot_list_reverse PySem.F.type_list_reverse vx (pv 4))
      (by rfl)))
      Zz)
      (@Zg _ _ _ (@Zt _ _ _ _ (pv 4))))))), ?_⟩
    refine ⟨_, rfl, p, ns, rfl, hp, fun H1 num ns1 x1 h1 => ?_⟩
    have q1 := x1 _ _ nq hq
    refine ⟨_, rfl, q, ts, rfl, .inl q1, fun D hD => ?_⟩
    have hD0 : H D = none := x1.free (fun e => by rw [e, h1] at hD; cases hD) hD
    refine XE (J := Ite K q) (n := ts.length) (fun i σ H' => ∃ (z1 z2 : Option V) (ys : List V), σ = [z1, z2, some (.int num)] ∧ Zn H1 H' ∧ H' D = some (.lst ys) ∧ ys.Sublist (ts.take i)) ?_ ?_ ?_ ?_ ?_
    · exact ⟨_, _, [], rfl, Zf hD, Zd, by simp⟩
    · rintro i σ H' hi ⟨z1, z2, ys, rfl, sm, hl, sb⟩
      exact ⟨_, ts[i], SqL.of (sm _ _ q1), by simp [hi]⟩
    · rintro σ H' ⟨z1, z2, ys, rfl, sm, hl, sb⟩
      exact ⟨_, SqL.of (sm _ _ q1), Nat.le_refl _⟩
    · rintro i x σ H' H2 hi ⟨z1, z2, ys, rfl, sm, hl, sb⟩ ⟨pr, v, rfl, hpr, rfl, hx⟩ N N0 hN hN0
      have e := hx _ (SqL.of (sm _ _ q1))
      have s2 := Zf (o := .tup [.int i, v]) hpr
      refine ⟨pr, [.int i, v], rfl, SqT.of Zd, rfl, _, _, rfl, _, _, rfl, rfl, ?_⟩
      refine ⟨_, rfl, _, rfl, _, _, rfl, rfl, by simp, _, _, rfl, rfl, rfl, _, rfl, Xj (fun c => ?_) (fun c => ?_)⟩
      · refine ⟨_, rfl, hN _ _ _ ys (s2 _ _ hl) ?_ ⟨_, _, ys ++ [v], rfl, ?_, Zd, take_push sb e⟩⟩
        · have := sb.length_le; rw [List.length_take] at this; rw [sizeLine_eq]; omega
        · exact (ZF.upd (Zn.x (sm.trans s2))).same hD
      · exact hN0 _ _ ⟨_, _, ys, rfl, sm.trans s2, s2 _ _ hl, take_keep sb⟩
    · rintro σ H2 ⟨z1, z2, ys, rfl, sm, hF, sb⟩
      rw [List.take_length] at sb
      have hx : ZF p H H2 := x1.trans (Zn.x sm)
      have hp2 := sm _ _ h1
      have hnd := nd.sublist sb
      have hsub : ∀ y ∈ ys, y ∈ ts := fun y hy => sb.subset hy
      have hle := sb.length_le
      refine ⟨_, rfl, .inl ⟨D, _, rfl, .inl (SqL.of hF), _, rfl, _, _, rfl, rfl, _, rfl, Xj (fun c => ?_) (fun c => ?_)⟩⟩
      case' refine_2 =>
        have hge : m ≤ ys.length := by have : ¬ ((ys.length : Int) < (m : Int)) := fun z => c (decide_eq_true z); omega
        have hFn := hD0
        have npF := ne_new hp hFn
        clear c
      case' refine_1 =>
        have c' := of_decide_eq_true c
        have m1 : m = 1 := by omega
        obtain ⟨q2, q3⟩ := at_mod (ts := ts) 0 (hne m1)
        refine ⟨_, rfl, _, rfl, p, ns1, rfl, hp2, fun H3 n3 ns3 x3 h3 => ⟨_, rfl, .inl ⟨q, ts, rfl, .inl (SqL.of (x3 _ _ nq (sm _ _ q1))), _, _, rfl, rfl, q2, ?_⟩⟩⟩
        obtain ⟨_, v, hv, hvm⟩ := at_mod (ts := ts) n3 (hne m1)
        refine ⟨q, ts, _, v, rfl, rfl, SqL.of (x3 _ _ nq (sm _ _ q1)), hv, by simp [sizeLine_eq], fun F hF0 => ?_⟩
        have hx3 := hx.trans x3
        have hFn : H F = none := hx3.free (fun e => by rw [e, h3] at hF0; cases hF0) hF0
        have npF := ne_new hp hFn
        clear hp2 hF hnd hsub hle c c'
        have hx : ZF p H (upd H3 F (.lst [v])) := hx3.updN hFn
        have hp2 := updK (o' := .lst [v]) h3 npF
        have hF : (upd H3 F (.lst [v])) F = some (.lst [v]) := Zd
        have hnd : [v].Nodup := by simp
        have hsub : ∀ y ∈ [v], y ∈ ts := fun y hy => by have : y = v := by simpa using hy
                                                        rw [this]; exact hvm
        have hge : m ≤ [v].length := by simp; omega
        have hle : [v].length ≤ ts.length := by have := List.length_pos_iff.mpr (hne m1); simp; omega
      all_goals
        refine ⟨_, rfl, _, _, rfl, rfl, by simp, _, _, rfl, rfl, rfl, _, rfl, Xj (fun c => ?_) (fun c => ?_)⟩
        · refine ⟨_, rfl, .inl ⟨rfl, _, SqL.of hF⟩, _, _, rfl, rfl, hF, ?_⟩
          exact ⟨_, rfl, k _ _ _ _ (hx.updN hFn) (updK hp2 npF) hFn Zd (nodup_rev hnd) (fun y hy => hsub y (List.mem_reverse.mp hy)) (by rw [List.length_reverse]; exact hge) (by rw [List.length_reverse]; exact hle)⟩
        · exact ⟨_, rfl, k _ _ _ _ hx hp2 hFn hF hnd hsub hge hle⟩
def zk (K : PySem.W.Frag) (a : Adr) : Sp := fun vs H Q _ => ∃ (p : Addr) (ns : List Int) (q : Addr) (ss : List Str), vs = [.ref p, .ref q] ∧ H p = some (.lst (ns.map V.int)) ∧ H q = some (.lst (ss.map V.str)) ∧ q ≠ p ∧ ss.Nodup ∧ (∀ x ∈ ss, Zr x = true) ∧ ss.length ≤ 5 ∧ ∀ H' l v1 v2 v3 v4 d (ns' : List Int), ZF p H H' → H' p = some (.lst (ns'.map V.int)) → H l = none → H' l = some (.tup [v1, v2, v3, v4]) → Y9 (New H H') v1 v2 v3 v4 d → Xu d → Few d → Q (.ref l) H'
theorem ze {P : Program} {w : World} {K : PySem.W.Frag} {mg : Str → Option Value} {base : Heap} {a : Adr} (T : Txt K mg a) (hw : w.params = a.Pm) : Yr P w K mg base CX0 3 a._law_parts a._law_parts_fd ["_law_xs", "_law_pool_here"] (zk K a) := by
 have G__law_draw := Xe (P := P) (w := w) (base := base) T hw
 have G__law_some := yp (P := P) (w := w) (base := base) T hw
 refine T.f__law_parts.ok YR (fun vs H Q E h => ?_) (fun cdv A outer s H vs Q E hr h => ?_)
 ·obtain ⟨p, ns, q, ss, rfl, _⟩ := h
  rfl
 ·obtain ⟨p, ns, q, ss, rfl, hp, hq, nq, snd, snm, sl, k⟩ := h
  refine ⟨_, (@Ze _ _ _ _ _ (@ZE _ _ (2) _ _ _ _ YR.nd
   rfl
   (by first | exact Or.inl rfl | exact Or.inr rfl)
   (@Zq _ _ _ _ _ _ _ _ Xz
   Zh
   (@Zq _ _ _ _ _ _ _ _ Xg
   (Zm G__law_draw (hr.mono (by decide)) rfl T.g__law_draw T.f__law_draw.kp T.n__law_draw .nil ZG (@Za _ _ _ _ _ (pv 0)
   Zc
   (by rfl)))
   Zh))
   (by rfl)
   (by first | exact .inl rfl | exact .inr rfl | assumption))
   (@Ze _ _ _ _ _ (@Z4 _ _ _ _ _ _ _ _ (@Zs _ _ _ _ _ _ _ _ Xl
   (@Zq _ _ _ _ _ _ _ _ Xg
   (Zm G__law_draw (hr.mono (by decide)) rfl T.g__law_draw T.f__law_draw.kp T.n__law_draw .nil ZG (@Za _ _ _ _ _ (pv 0)
   Zc
   (by rfl)))
   Zh)
   Zh
   (Zw _))
   (@Zg _ _ _ (@ZE _ _ (2) _ _ _ _ YR.nd
   rfl
   (by first | exact Or.inl rfl | exact Or.inr rfl)
   Zh
   (by rfl)
   (by first | exact .inl rfl | exact .inr rfl | assumption)))
   Zz)
   (@Ze _ _ _ _ _ (@ZE _ _ (3) _ _ _ _ YR.nd
   rfl
   (by first | exact Or.inl rfl | exact Or.inr rfl)
   (ZZ (X8 (K := K) rfl rfl) rfl T.b_list PyProof.Rows.Boot.«list» (@Za _ _ _ _ _ (ZZ (call_rng) rfl T.b_range PyProof.Rows.Boot.«range» (@Za _ _ _ _ _ (pv 2)
   Zc
   (by rfl)))
   Zc
   (by rfl)))
   (by rfl)
   (by first | exact .inl rfl | exact .inr rfl | assumption))
   (@Ze _ _ _ _ _ (Xb (i := 4) YR.nd rfl rfl (Nc := ["_law_room", "_law_xs", "_law_pool_here"]) (ix := [none, some 0, some 1]) (ZI.of (by decide +kernel : ZL (Zb Yd) ["_law_xs", "_law_pool_here", "_law_many", "_law_rooms", "_law_signs", "_law_ways", "_law_fair"] ["_law_room", "_law_xs", "_law_pool_here"] [none, some 0, some 1] _ = true)) rfl (ZO (K := K) rfl (pv 3)) (fun _ _ _ _ _ => (Zu (i := 0) (show List.Nodup (["_law_room", "_law_xs", "_law_pool_here"] : List Str) by decide +kernel) rfl (by first | exact Or.inl rfl | exact Or.inr rfl))) (fun _ _ _ _ _ => Yk) (fun _ _ _ _ _ => (Zm G__law_some (hr.mono (by decide)) rfl T.g__law_some T.f__law_some.kp T.n__law_some .nil ZG (@YB _ _ _ _ _ (pv 1)
   (@YB _ _ _ _ _ (pv 2)
   (@YB _ _ _ _ _ Zh
   Zc
   (by rfl))
   (by rfl))
   (by rfl)))))
   (@Ze _ _ _ _ _ (Xb (i := 5) YR.nd rfl rfl (Nc := ["_law_room", "_law_xs", "_law_rooms"]) (ix := [none, some 0, some 3]) (ZI.of (by decide +kernel : ZL (Zb Yd) ["_law_xs", "_law_pool_here", "_law_many", "_law_rooms", "_law_signs", "_law_ways", "_law_fair"] ["_law_room", "_law_xs", "_law_rooms"] [none, some 0, some 3] _ = true)) rfl (ZO (K := K) rfl (pv 3)) (fun _ _ _ _ _ => (Zu (i := 0) (show List.Nodup (["_law_room", "_law_xs", "_law_rooms"] : List Str) by decide +kernel) rfl (by first | exact Or.inl rfl | exact Or.inr rfl))) (fun _ _ _ _ _ => Yk) (fun _ _ _ _ _ => (Zm G__law_some (hr.mono (by decide)) rfl T.g__law_some T.f__law_some.kp T.n__law_some .nil ZG (@YB _ _ _ _ _ (pv 1)
   (@YB _ _ _ _ _ (pv 2)
   (@YB _ _ _ _ _ Zh
   Zc
   (by rfl))
   (by rfl))
   (by rfl)))))
   (@Ze _ _ _ _ _ (@ZE _ _ (6) _ _ _ _ YR.nd
   rfl
   (by first | exact Or.inl rfl | exact Or.inr rfl)
   (ZB (ZA (K := K) rfl) (Zm G__law_some (hr.mono (by decide)) rfl T.g__law_some T.f__law_some.kp T.n__law_some .nil ZG (@YB _ _ _ _ _ (pv 0)
   (@YB _ _ _ _ _ (pv 1)
   (@YB _ _ _ _ _ Zh
   Zc
   (by rfl))
   (by rfl))
   (by rfl))) ZT (ZC Zh))
   (by rfl)
   (by first | exact .inl rfl | exact .inr rfl | assumption))
   (@Zg _ _ _ (@Zt _ _ _ _ (@pe_tup _ _ _ _ _ (@YB _ _ _ _ _ (pv 4)
   (@YB _ _ _ _ _ (pv 5)
   (@YB _ _ _ _ _ (Zm G__law_some (hr.mono (by decide)) rfl T.g__law_some T.f__law_some.kp T.n__law_some .nil ZG (@YB _ _ _ _ _ (pv 0)
   (@YB _ _ _ _ _ (pv 3)
   (@YB _ _ _ _ _ Zh
   Zc
   (by rfl))
   (by rfl))
   (by rfl)))
   (@YB _ _ _ _ _ (pv 6)
   Zc
   (by rfl))
   (by rfl))
   (by rfl))
   (by rfl))))))))))), ?_⟩
  refine ⟨_, rfl, p, ns, rfl, hp, fun H1 n1 ns1 x1 h1 => ⟨_, _, rfl, rfl, by simp, _, _, rfl, rfl, ?_⟩⟩
  refine ⟨_, rfl, p, ns1, rfl, h1, fun H2 n2 ns2 x2 h2 => ⟨_, _, rfl, rfl, by simp, rfl, _, rfl, Xj (fun c => ?_) (fun c => ?_)⟩⟩
  case' refine_1 =>
   refine ⟨_, rfl, _, rfl, fun r hr => .inr ⟨r, _, rfl, Zd, by decide, by decide, fun R hR => ?_⟩⟩
   obtain ⟨f1, f2, f3, f4⟩ := qd (j := 20) (by decide) (by decide)
   have hRR : (upd (upd H2 r (.rng 0 20)) R (.lst ((L3.upTo 20).map V.int))) R = some (.lst ((L3.upTo 20).map V.int)) := Zd
   have sR : Zn H2 (upd (upd H2 r (.rng 0 20)) R (.lst ((L3.upTo 20).map V.int))) := (Zf hr).trans (Zf hR)
   generalize (upd (upd H2 r (.rng 0 20)) R (.lst ((L3.upTo 20).map V.int))) = H3 at hRR sR ⊢
   have hR2 := (Zf hr).free hR
   clear hR c
   generalize L3.upTo 20 = rs at f1 f2 f3 f4 hRR
  case' refine_2 =>
   have m0 := Int.emod_nonneg n1 (show (6 : Int) ≠ 0 by decide)
   have m1 := Int.emod_lt_of_pos n1 (show (0 : Int) < 6 by decide)
   refine ⟨_, rfl, _, rfl, fun r hr => .inr ⟨r, _, rfl, Zd, by omega, by omega, fun R hR => ?_⟩⟩
   obtain ⟨f1, f2, f3, f4⟩ := qd (j := 1 + n1 % 6) (by omega) (by omega)
   have hRR : (upd (upd H2 r (.rng 0 (1 + n1 % 6))) R (.lst ((L3.upTo (1 + n1 % 6)).map V.int))) R = some (.lst ((L3.upTo (1 + n1 % 6)).map V.int)) := Zd
   have sR : Zn H2 (upd (upd H2 r (.rng 0 (1 + n1 % 6))) R (.lst ((L3.upTo (1 + n1 % 6)).map V.int))) := (Zf hr).trans (Zf hR)
   generalize (upd (upd H2 r (.rng 0 (1 + n1 % 6))) R (.lst ((L3.upTo (1 + n1 % 6)).map V.int))) = H3 at hRR sR ⊢
   have hR2 := (Zf hr).free hR
   clear hR c m0 m1
   generalize L3.upTo (1 + n1 % 6) = rs at f1 f2 f3 f4 hRR
  all_goals
   have nRp : R ≠ p := fun e => by rw [e, h2] at hR2; cases hR2
   have x3 : ZF p H H3 := (x1.trans x2).trans (Zn.x sR)
   have h3 := sR _ _ h2
   have q3 := x3 _ _ nq hq
   have rne : rs.map V.int ≠ [] := fun e => by have := congrArg List.length e; rw [List.length_map] at this; simp at this; subst this; simp at f2
   have rnd := X2 int_inj f1
   have tnd := X2 str_inj snd
   refine ⟨_, rfl, R, rfl, ⟨_, SqL.of hRR⟩, fun D hD => ?_⟩
   refine zD (K := K) hD h3 hRR nRp (by rw [List.length_map, sizeLine_eq]; omega) (fun i v G => ∃ zs : List Str, LS G v zs ∧ zs.Nodup ∧ (∀ x ∈ zs, Zr x = true) ∧ zs.length ≤ 5) (fun i v _ _ sm ⟨zs, z1, z2⟩ => ⟨zs, LS.mono _ _ _ _ sm z1, z2⟩) ?_ ?_
   ·intro i x H4 ns4 N hx x4 h4 hN
    refine ⟨_, rfl, _, rfl, p, ns4, q, ss.map V.str, 0, rfl, h4, x4 _ _ nq q3, nq, tnd, by rw [List.length_map]; omega, by omega, fun e => by omega, fun H5 l ys ns5 x5 h5 hl0 hl ynd ysub yge yle => hN _ _ ns5 x5 h5 ?_⟩
    obtain ⟨zs, rfl, hz⟩ := unmap ysub
    exact ⟨zs, ⟨l, rfl, New.mk hl0 hl⟩, XT ynd, fun x hx => snm x (hz x hx), by rw [List.length_map, List.length_map] at yle; omega⟩
   intro H4 sv ns4 hD4 x4 h4 sl4 r4
   obtain ⟨sg, sgl, sgq⟩ := WV r4
   rw [List.length_map] at sl4
   have R4 := x4 _ _ nRp hRR
   have q4 := x4 _ _ nq q3
   refine ⟨_, rfl, R, rfl, ⟨_, SqL.of R4⟩, fun E hE => ?_⟩
   refine zD (K := K) hE h4 R4 nRp (by rw [List.length_map, sizeLine_eq]; omega) (fun i v G => ∃ zs : List Int, LI G v zs ∧ zs.Nodup ∧ zs ≠ [] ∧ (∀ x ∈ zs, 0 ≤ x ∧ x < rs.length) ∧ zs.length ≤ 20) (fun i v _ _ sm ⟨zs, z1, z2⟩ => ⟨zs, LI.mono _ _ _ _ sm z1, z2⟩) ?_ ?_
   ·intro i x H5 ns5 N hx x5 h5 hN
    refine ⟨_, rfl, _, rfl, p, ns5, R, rs.map V.int, 1, rfl, h5, x5 _ _ nRp R4, nRp, rnd, by rw [List.length_map]; omega, by omega, fun e => rne, fun H6 l ys ns6 x6 h6 hl0 hl ynd ysub yge yle => hN _ _ ns6 x6 h6 ?_⟩
    obtain ⟨zs, rfl, hz⟩ := unmap ysub
    rw [List.length_map] at yge yle
    rw [List.length_map] at yle
    exact ⟨zs, ⟨l, rfl, New.mk hl0 hl⟩, XT ynd, fun e => by rw [e] at yge; simp at yge, fun x hx => f4 x (hz x hx), by omega⟩
   intro H5 wv ns5 hE5 x5 h5 wl5 r5
   obtain ⟨wy, wyl, wyq⟩ := WV r5
   rw [List.length_map] at wl5
   have R5 := x5 _ _ nRp R4
   have q5 := x5 _ _ nq q4
   refine ⟨_, rfl, _, rfl, p, ns5, q, ss.map V.str, 0, rfl, h5, q5, nq, tnd, by rw [List.length_map]; omega, by omega, fun e => by omega, fun H6 l6 y6 ns6 x6 h6 hl6 hy6 nd6 sub6 ge6 le6 => ?_⟩
   refine ⟨_, rfl, l6, y6, rfl, SqL.of hy6, fun l7 hl7 => ?_⟩
   rw [cut3]
   have hl70 : H6 l7 = none := hl7
   have s7 := Zf (o := .lst (y6.take 3)) hl7
   have h7 := s7 _ _ h6
   have x7 := x6.trans (Zn.x s7)
   have R7 := x7 _ _ nRp R5
   have e7 : (upd H6 l7 (.lst (y6.take 3))) l7 = some (.lst (y6.take 3)) := Zd
   generalize upd H6 l7 (.lst (y6.take 3)) = H7 at s7 h7 x7 R7 e7 ⊢
   refine ⟨_, rfl, _, rfl, _, rfl, _, rfl, p, ns6, R, rs.map V.int, 1, rfl, h7, R7, nRp, rnd, by rw [List.length_map]; omega, by omega, fun e => rne, fun H8 l8 y8 ns8 x8 h8 hl8 hy8 nd8 sub8 ge8 le8 => ?_⟩
   refine ⟨_, rfl, by simp [sizeLine_eq], fun t ht => ?_⟩
   obtain ⟨fz, rfl, hfz⟩ := unmap sub6
   obtain ⟨tz, rfl, htz⟩ := unmap sub8
   have s9 := Zf (o := .tup [.ref D, .ref E, .ref l8, .ref l7]) ht
   have h9 := s9 _ _ h8
   have x89 := x8.trans (Zn.x s9)
   have e9 : (upd H8 t (.tup [.ref D, .ref E, .ref l8, .ref l7])) t = some (.tup [.ref D, .ref E, .ref l8, .ref l7]) := Zd
   generalize upd H8 t (.tup [.ref D, .ref E, .ref l8, .ref l7]) = H9 at s9 h9 x89 e9 ⊢
   have xH4 := x3.trans x4
   have xH5 := xH4.trans x5
   have xH7 := xH5.trans x7
   have xH9 := xH7.trans x89
   have ht0 : H t = none := by
    refine (xH7.trans x8).free (fun e => ?_) ht
    rw [e, h8] at ht; cases ht
   have m1 : Zn (New H3 H4) (New H H9) := New.monoX x3 h3 ((x5.trans x7).trans x89)
   have m2 : Zn (New H4 H5) (New H H9) := New.monoX xH4 h4 (x7.trans x89)
   have nD : D ≠ p := fun e => by rw [e, h3] at hD; cases hD
   have nE : E ≠ p := fun e => by rw [e, h4] at hE; cases hE
   have n7 : l7 ≠ p := fun e => by rw [e, h6] at hl7; cases hl7
   have n8 : l8 ≠ p := fun e => by rw [e, h7] at hl8; cases hl8
   rw [List.length_map] at ge8 le8
   rw [List.length_map] at le8
   refine k _ t (.ref D) (.ref E) (.ref l8) (.ref l7) ⟨sg, wy, tz, fz.take 3⟩ ns8 xH9 h9 ht0 e9 ⟨?_, ?_, ?_, ?_⟩ ?_ ?_
   ·exact ⟨D, sv, rfl, New.mk (x3.free nD hD) (((x5.trans x7).trans x89) _ _ nD hD4), sgl, fun i v x e1 e2 => LS.mono _ _ _ _ m1 (sgq i v x e1 e2).1⟩
   ·exact ⟨E, wv, rfl, New.mk (xH4.free nE hE) ((x7.trans x89) _ _ nE hE5), wyl, fun i v x e1 e2 => LI.mono _ _ _ _ m2 (wyq i v x e1 e2).1⟩
   ·exact ⟨l8, rfl, New.mk (xH7.free n8 hl8) (s9 _ _ hy8)⟩
   ·exact ⟨l7, rfl, New.mk ((xH5.trans x6).free n7 hl7) (by rw [List.map_take]; exact x89 _ _ n7 e7)⟩
   ·have sm : ∀ zs ∈ sg, zs.Nodup ∧ (∀ x ∈ zs, Zr x = true) ∧ zs.length ≤ 5 := fun zs hz => by
     obtain ⟨i, hi, rfl⟩ := List.getElem_of_mem hz
     exact (sgq i _ _ (List.getElem?_eq_getElem (by omega)) (List.getElem?_eq_getElem hi)).2
    have wm : ∀ zs ∈ wy, zs.Nodup ∧ zs ≠ [] ∧ (∀ x ∈ zs, 0 ≤ x ∧ x < rs.length) ∧ zs.length ≤ 20 := fun zs hz => by
     obtain ⟨i, hi, rfl⟩ := List.getElem_of_mem hz
     exact (wyq i _ _ (List.getElem?_eq_getElem (by omega)) (List.getElem?_eq_getElem hi)).2
    have eL : sg.length = rs.length := by omega
    refine ⟨by show 1 ≤ sg.length; omega, by show sg.length ≤ 20; omega, by show wy.length = sg.length; omega, fun zs hz => ⟨(sm zs hz).1, (sm zs hz).2.1, by have := (sm zs hz).2.2; omega⟩, ?_, ?_, ?_⟩
    ·intro zs hz
     show _ ∧ _ ∧ (∀ x ∈ zs, 0 ≤ x ∧ x < (sg.length : Int)) ∧ _
     rw [eL]
     exact wm zs hz
    ·show tz.Nodup ∧ tz ≠ [] ∧ (∀ x ∈ tz, 0 ≤ x ∧ x < (sg.length : Int)) ∧ tz.length ≤ 20
     rw [eL]
     exact ⟨XT nd8, fun e => by rw [e] at ge8; simp at ge8, fun x hx => f4 x (htz x hx), by omega⟩
    ·show (fz.take 3).Nodup ∧ (∀ x ∈ fz.take 3, Zr x = true) ∧ (fz.take 3).length ≤ 3
     exact ⟨(XT nd6).sublist (List.take_sublist _ _), fun x hx => snm x (hfz x ((List.take_sublist _ _).subset hx)), by rw [List.length_take]; omega⟩
   ·intro zs hz
    have hz2 : zs ∈ sg := hz
    obtain ⟨i, hi, rfl⟩ := List.getElem_of_mem hz2
    exact (sgq i _ _ (List.getElem?_eq_getElem (by omega)) (List.getElem?_eq_getElem hi)).2.2.2
def LW (H : Hp) (p : Addr) (ws : List Str) : Prop := (H p = some (.lst (ws.map V.str)) ∧ ∀ w ∈ ws, w.length ≤ 8) ∨ ∃ ns : List Int, H p = some (.lst (ns.map V.int)) ∧ ws = ns.map Yc ∧ ∀ n ∈ ns, 0 ≤ n ∧ n < 20
def vb (K : PySem.W.Frag) (a : Adr) : Sp := fun vs H Q _ => ∃ (head : Str) (p : Addr) (ws : List Str), vs = [.str head, .ref p] ∧ LW H p ws ∧ ws.length ≤ 100 ∧ head.length ≤ 8 ∧ ∀ H', Zn H H' → Q (.str (Zp head ws)) H'
theorem vw {P : Program} {w : World} {K : PySem.W.Frag} {mg : Str → Option Value} {base : Heap} {a : Adr} (T : Txt K mg a) (hw : w.params = a.Pm) : Yr P w K mg base CX0 1 a.line_of a.line_of_fd ["head", "things"] (vb K a) := by
 refine T.f_line_of.ok vq (fun vs H Q E h => ?_) (fun cdv A outer s H vs Q E hr h => ?_)
 ·obtain ⟨head, p, ws, rfl, _⟩ := h
  rfl
 ·obtain ⟨head, p, ws, rfl, hw, hl, hh, k⟩ := h
  refine ⟨_, (@Zg _ _ _ (@Zt _ _ _ _ (Xi PySem.F.plainAttrs_str PySem.F.slot_str_join PySem.F.type_str_join (XO (K := K) rfl) Zl (@Za _ _ _ _ _ (@Zq _ _ _ _ _ _ _ _ YK
   (@Z0 _ _ _ _ (@Za _ _ _ _ _ (pv 0)
   Zc
   (by rfl)))
   (Ys (Nc := ["thing"]) (ix := [none]) (ZI.of (by decide +kernel : ZL (Zb YW) ["head", "things"] ["thing"] [none] _ = true)) rfl (ZO (K := K) rfl (pv 1)) (fun _ _ _ _ _ => (Zu (i := 0) (show List.Nodup (["thing"] : List Str) by decide +kernel) rfl (by first | exact Or.inl rfl | exact Or.inr rfl))) (fun _ _ _ _ _ => Yk) (fun _ _ _ _ _ => (ZZ (yT) rfl T.b_str PyProof.Rows.Boot.«str» (@Za _ _ _ _ _ (pv 0)
   Zc
   (by rfl))))))
   Zc
   (by rfl))))), ?_⟩
  refine ⟨rfl, _, rfl, by simp [sizeLine_eq], fun a1 ha1 => ?_⟩
  obtain ⟨H1, qN, s1, e1⟩ := ZV (o := .lst [.str head]) ha1
  rw [qN]
  have wl : ∀ w ∈ ws, w.length ≤ 8 := by
   rcases hw with ⟨_, h⟩ | ⟨ns, _, rfl, h⟩
   ·exact h
   ·intro w hm
    obtain ⟨n, hn, rfl⟩ := List.mem_map.mp hm
    have := (X4 (h n hn).1 (h n hn).2).1
    omega
  obtain ⟨xs, hx, xl, hstep⟩ : ∃ xs, H p = some (.lst xs) ∧ xs.length = ws.length ∧ ∀ (i : Nat) x, xs[i]? = some x → ∃ w, ws[i]? = some w ∧ ((∃ n, x = .int n ∧ w = Yc n ∧ 0 ≤ n ∧ n < 20) ∨ x = .str w) := by
   rcases hw with ⟨h1, _⟩ | ⟨ns, h1, rfl, h2⟩
   ·refine ⟨_, h1, by rw [List.length_map], fun i x hx => ?_⟩
    rw [List.getElem?_map] at hx
    cases e : ws[i]? with
    | none => rw [e] at hx; cases hx
    | some w => rw [e] at hx; cases hx; exact ⟨w, rfl, .inr rfl⟩
   ·refine ⟨_, h1, by rw [List.length_map, List.length_map], fun i x hx => ?_⟩
    rw [List.getElem?_map] at hx
    cases e : ns[i]? with
    | none => rw [e] at hx; cases hx
    | some n =>
     rw [e] at hx; cases hx
     have := h2 n (List.mem_of_getElem? e)
     exact ⟨Yc n, by rw [List.getElem?_map, e]; rfl, .inl ⟨n, rfl, rfl, this.1, this.2⟩⟩
  refine ⟨_, rfl, p, rfl, ⟨_, SqL.of (s1 _ _ hx)⟩, fun D hD => ?_⟩
  refine Yp (K := K) hD (SqL.of (s1 _ _ hx)) (by rw [sizeLine_eq]; omega) (fun i v _ => ∀ w, ws[i]? = some w → v = .str w) (fun _ _ _ _ _ q => q) ?_ ?_
  ·intro i x H2 N hxi sm hN
   obtain ⟨w, hwi, hk⟩ := hstep i x hxi
   rcases hk with ⟨n, rfl, rfl, n0, n1⟩ | rfl
   ·refine ⟨_, rfl, .inl ⟨n, rfl, ?_, hN _ _ (.refl _) fun w' hw' => ?_⟩⟩
    ·have := Nat.log2_le_self n.natAbs
     omega
    ·rw [hwi] at hw'; cases hw'; rfl
   ·refine ⟨_, rfl, .inr ⟨w, rfl, hN _ _ (.refl _) fun w' hw' => ?_⟩⟩
    rw [hwi] at hw'; cases hw'; rfl
  intro H2 ys hD2 s2 yl r2
  have ey : ys = ws.map V.str := by
   apply List.ext_getElem?
   intro i
   rw [List.getElem?_map]
   cases hv : ys[i]? with
   | none =>
    have : ws[i]? = none := by rw [List.getElem?_eq_none_iff] at hv ⊢; omega
    rw [this]; rfl
   | some v =>
    have hi : i < ws.length := by rw [← xl, ← yl]; exact (List.getElem?_eq_some_iff.mp hv).1
    rw [List.getElem?_eq_getElem hi, r2 i v hv _ (List.getElem?_eq_getElem hi)]
    rfl
  rw [ey] at hD2
  refine ⟨a1, D, _, _, rfl, rfl, s2 _ _ e1, hD2, by rw [List.length_map, sizeLine_eq]; simp; omega, fun a2 ha2 => ?_⟩
  refine ⟨_, a2, head :: ws, 8, rfl, rfl, SqL.of Zd, ?_, ?_, k _ ((s1.trans s2).trans (Zf ha2))⟩
  ·intro y hy
   rcases List.mem_cons.mp hy with rfl | hy
   ·exact hh
   ·exact wl y hy
  ·have : (" " : Str).length = 1 := by decide +kernel
   rw [this, List.length_cons]
   omega
def qX (K : PySem.W.Frag) (a : Adr) : Sp := fun vs H Q _ => ∃ (w : Addr) (d : WD), vs = [.ref w] ∧ YL a.C_World H w d ∧ Xu d ∧ Few d ∧ ∀ H', Zn H H' → Q (.str (UA (sortW d))) H'
theorem zd {P : Program} {w : World} {K : PySem.W.Frag} {mg : Str → Option Value} {base : Heap} {a : Adr} (T : Txt K mg a) (hw : w.params = a.Pm) : Yr P w K mg base CX0 2 a.show_world a.show_world_fd ["world"] (qX K a) := by
 have G_World_many := zj (P := P) (w := w) (base := base) T hw
 have G_World_signs_of := V0 (P := P) (w := w) (base := base) T hw
 have G_World_ways_on := V8 (P := P) (w := w) (base := base) T hw
 have G_World_begins := UR (P := P) (w := w) (base := base) T hw
 have G_World_fair_signs := Vl (P := P) (w := w) (base := base) T hw
 have G_line_of := vw (P := P) (w := w) (base := base) T hw
 refine T.f_show_world.ok We (fun vs H Q E h => ?_) (fun cdv A outer s H vs Q E hr h => ?_)
 ·obtain ⟨w, d, rfl, _⟩ := h
  rfl
 ·obtain ⟨w, d, rfl, hw', gd, fw, k⟩ := h
  refine ⟨_, (@Ze _ _ _ _ _ (Xb (i := 1) We.nd rfl rfl (Nc := ["room", "world"]) (ix := [none, some 0]) (ZI.of (by decide +kernel : ZL (Zb Yf) ["world", "lines"] ["room", "world"] [none, some 0] _ = true)) rfl (Wn rfl T.b_range (@Za _ _ _ _ _ (VN (pv 0) T.cl_World T.m_World_many G_World_many (hr.mono (by first | decide | omega)) T.n_World_many .nil ZG)
   Zc
   (by rfl))) (fun _ _ _ _ _ => (Zu (i := 0) (show List.Nodup (["room", "world"] : List Str) by decide +kernel) rfl (by first | exact Or.inl rfl | exact Or.inr rfl))) (fun _ _ _ _ _ => Yk) (fun _ _ _ _ _ => (Zm G_line_of (hr.mono (by decide)) rfl T.g_line_of T.f_line_of.kp T.n_line_of .nil ZG (@Za _ _ _ _ _ Zl
   (@Za _ _ _ _ _ (pe_meth (pv 1) T.cl_World T.m_World_signs_of G_World_signs_of (hr.mono (by decide)) T.n_World_signs_of .nil ZG (@Za _ _ _ _ _ (pv 0)
   Zc
   (by rfl)))
   Zc
   (by rfl))
   (by rfl)))))
   (@Ze _ _ _ _ _ (ps_aug (i := 1) We.nd rfl (by first | exact Or.inl rfl | exact Or.inr rfl) (Ys (Nc := ["room", "world"]) (ix := [none, some 0]) (ZI.of (by decide +kernel : ZL (Zb Yf) ["world", "lines"] ["room", "world"] [none, some 0] _ = true)) rfl (Wn rfl T.b_range (@Za _ _ _ _ _ (VN (pv 0) T.cl_World T.m_World_many G_World_many (hr.mono (by first | decide | omega)) T.n_World_many .nil ZG)
   Zc
   (by rfl))) (fun _ _ _ _ _ => (Zu (i := 0) (show List.Nodup (["room", "world"] : List Str) by decide +kernel) rfl (by first | exact Or.inl rfl | exact Or.inr rfl))) (fun _ _ _ _ _ => Yk) (fun _ _ _ _ _ => (Zm G_line_of (hr.mono (by decide)) rfl T.g_line_of T.f_line_of.kp T.n_line_of .nil ZG (@Za _ _ _ _ _ Zl
   (@Za _ _ _ _ _ (pe_meth (pv 1) T.cl_World T.m_World_ways_on G_World_ways_on (hr.mono (by decide)) T.n_World_ways_on .nil ZG (@Za _ _ _ _ _ (pv 0)
   Zc
   (by rfl)))
   Zc
   (by rfl))
   (by rfl))))) ip_cat)
   (@Ze _ _ _ _ _ (@Wp _ _ _ _ (Xi PySem.F.plainAttrs_list PySem.F.slot_list_append PySem.F.type_list_append XI (pv 1) (@Za _ _ _ _ _ (Zm G_line_of (hr.mono (by decide)) rfl T.g_line_of T.f_line_of.kp T.n_line_of .nil ZG (@Za _ _ _ _ _ Zl
   (@Za _ _ _ _ _ (VN (pv 0) T.cl_World T.m_World_begins G_World_begins (hr.mono (by first | decide | omega)) T.n_World_begins .nil ZG)
   Zc
   (by rfl))
   (by rfl)))
   Zc
   (by rfl)))
   (by rfl))
   (@Ze _ _ _ _ _ (@Wp _ _ _ _ (Xi PySem.F.plainAttrs_list PySem.F.slot_list_append PySem.F.type_list_append XI (pv 1) (@Za _ _ _ _ _ (Zm G_line_of (hr.mono (by decide)) rfl T.g_line_of T.f_line_of.kp T.n_line_of .nil ZG (@Za _ _ _ _ _ Zl
   (@Za _ _ _ _ _ (VN (pv 0) T.cl_World T.m_World_fair_signs G_World_fair_signs (hr.mono (by first | decide | omega)) T.n_World_fair_signs .nil ZG)
   Zc
   (by rfl))
   (by rfl)))
   Zc
   (by rfl)))
   (by rfl))
   (@Zg _ _ _ (@Zt _ _ _ _ (Xi PySem.F.plainAttrs_str PySem.F.slot_str_join PySem.F.type_str_join (XO (K := K) rfl) Zl (@Za _ _ _ _ _ (pv 1)
   Zc
   (by rfl))))))))), ?_⟩
  have g20 := gd.n20
  have gwl := gd.wl
  have gs := gd.sortW
  have fs_ : Few (sortW d) := fun ss hs => by
   obtain ⟨zs, hz, rfl⟩ := List.mem_map.mp hs
   rw [(YN zs).length_eq]
   exact fw zs hz
  obtain ⟨dx, fs, hp, lk⟩ := at_many hw'
  refine ⟨_, rfl, w, dx, fs, rfl, hp, lk, w, d, rfl, hw', _, rfl, by omega, by omega, fun D hD => ?_⟩
  refine zN (n := d.signs.length) hD (by rw [sizeLine_eq]; omega) (fun i v _ => ∀ ss, d.signs[i]? = some ss → v = .str (Zp "room" (Y3 ss))) (fun _ _ _ _ _ q => q) ?_ ?_
  ·intro i H2 N hi sm hN
   have w2 := hw'.mono sm
   obtain ⟨dx, fs, hp, lk⟩ := xM w2
   have hg := gd.sn _ (List.getElem_mem hi)
   refine ⟨_, rfl, w, dx, fs, rfl, hp, lk, _, rfl, w, d, i, _, rfl, w2, List.getElem?_eq_getElem hi, fun l hl => ⟨_, l, Y3 d.signs[i], rfl, .inl ⟨Zd, fun x hx => XL (hg.2.1 x ((YN _).mem_iff.mp hx))⟩, by rw [(YN _).length_eq]; omega, XR.1, fun H3 s3 => hN _ _ ((Zf hl).trans s3) fun ss hss => ?_⟩⟩
   rw [List.getElem?_eq_getElem hi] at hss
   cases hss
   rfl
  intro H1 ys hD1 s1 yl r1
  have ey := Xa (f := fun ss => V.str (Zp "room" (Y3 ss))) yl r1
  subst ey
  have w1 := hw'.mono s1
  obtain ⟨dx1, fs1, hp1, lk1⟩ := at_many w1
  refine ⟨_, rfl, _, rfl, w, dx1, fs1, rfl, hp1, lk1, w, d, rfl, w1, _, rfl, by omega, by omega, fun E hE => ?_⟩
  refine zN (n := d.signs.length) hE (by rw [sizeLine_eq]; omega) (fun i v _ => ∀ ss, d.ways[i]? = some ss → v = .str (Zp "ways" ((ZS ss).map Yc))) (fun _ _ _ _ _ q => q) ?_ ?_
  ·intro i H2 N hi sm hN
   have w2 := w1.mono sm
   obtain ⟨dx, fs, hp, lk⟩ := vf w2
   have hi' : i < d.ways.length := by omega
   have hg := gd.wn _ (List.getElem_mem hi')
   refine ⟨_, rfl, w, dx, fs, rfl, hp, lk, _, rfl, w, d, i, _, rfl, w2, List.getElem?_eq_getElem hi', fun l hl => ⟨_, l, (ZS d.ways[i]).map Yc, rfl, .inr ⟨ZS d.ways[i], Zd, rfl, fun n hn => gd.num (.inl (List.getElem_mem hi')) n ((Yi _).mem_iff.mp hn)⟩, by rw [List.length_map, (Yi _).length_eq]; omega, XR.2.1, fun H3 s3 => hN _ _ ((Zf hl).trans s3) fun ss hss => ?_⟩⟩
   rw [List.getElem?_eq_getElem hi'] at hss
   cases hss
   rfl
  intro H2 zs hE2 s2 zl r2
  have ez := Xa (f := fun ss => V.str (Zp "ways" ((ZS ss).map Yc))) (zl.trans gwl.symm) r2
  subst ez
  refine ⟨D, E, _, _, rfl, rfl, s2 _ _ hD1, hE2, by rw [List.length_map, List.length_map]; omega, ?_⟩
  have x2 : ZF D H (upd H2 D (.lst (d.signs.map (fun ss => V.str (Zp "room" (Y3 ss))) ++ d.ways.map (fun ss => V.str (Zp "ways" ((ZS ss).map Yc)))))) := ((Zn.x (s1.trans s2))).upd
  have e2 : (upd H2 D (.lst (d.signs.map (fun ss => V.str (Zp "room" (Y3 ss))) ++ d.ways.map (fun ss => V.str (Zp "ways" ((ZS ss).map Yc)))))) D = some (.lst (d.signs.map (fun ss => V.str (Zp "room" (Y3 ss))) ++ d.ways.map (fun ss => V.str (Zp "ways" ((ZS ss).map Yc))))) := Zd
  generalize upd H2 D (.lst (d.signs.map (fun ss => V.str (Zp "room" (Y3 ss))) ++ d.ways.map (fun ss => V.str (Zp "ways" ((ZS ss).map Yc))))) = H3 at x2 e2 ⊢
  have eL : d.signs.map (fun ss => V.str (Zp "room" (Y3 ss))) ++ d.ways.map (fun ss => V.str (Zp "ways" ((ZS ss).map Yc))) = ((sortW d).signs.map (Zp "room") ++ (sortW d).ways.map (fun ns => Zp "ways" (ns.map Yc))).map V.str := by
   simp only [sortW, List.map_append, List.map_map]
   rfl
  rw [eL] at e2
  have llen : ((sortW d).signs.map (Zp "room") ++ (sortW d).ways.map (fun ns => Zp "ways" (ns.map Yc))).length ≤ 40 := by
   simp [sortW]
   omega
  have w3 := hw'.mono (x2.same hD)
  obtain ⟨dx3, fs3, hp3, lk3⟩ := at_begins w3
  refine ⟨_, rfl, .inl ⟨rfl, _, SqL.of e2⟩, _, rfl, w, dx3, fs3, rfl, hp3, lk3, w, d, rfl, w3, fun l hl => ⟨_, l, (ZS d.starts).map Yc, rfl, .inr ⟨ZS d.starts, Zd, rfl, fun n hn => gd.num (.inr rfl) n ((Yi _).mem_iff.mp hn)⟩, by rw [List.length_map, (Yi _).length_eq]; have := gd.stn.2.2.2; omega, XR.2.2.1, fun H4 s4 => ?_⟩⟩
  have s34 := (Zf hl).trans s4
  refine ⟨D, _, _, rfl, rfl, s34 _ _ e2, by rw [List.length_map, sizeLine_eq]; omega, ?_⟩
  have x5 := (x2.trans (Zn.x s34)).upd (o := .lst (((sortW d).signs.map (Zp "room") ++ (sortW d).ways.map (fun ns => Zp "ways" (ns.map Yc))).map V.str ++ [.str (Zp "starts" ((ZS d.starts).map Yc))]))
  have e5 : (upd H4 D (.lst (((sortW d).signs.map (Zp "room") ++ (sortW d).ways.map (fun ns => Zp "ways" (ns.map Yc))).map V.str ++ [.str (Zp "starts" ((ZS d.starts).map Yc))]))) D = some (.lst (((sortW d).signs.map (Zp "room") ++ (sortW d).ways.map (fun ns => Zp "ways" (ns.map Yc))).map V.str ++ [.str (Zp "starts" ((ZS d.starts).map Yc))])) := Zd
  generalize upd H4 D (.lst (((sortW d).signs.map (Zp "room") ++ (sortW d).ways.map (fun ns => Zp "ways" (ns.map Yc))).map V.str ++ [.str (Zp "starts" ((ZS d.starts).map Yc))])) = H5 at x5 e5 ⊢
  have w5 := hw'.mono (x5.same hD)
  obtain ⟨dx5, fs5, hp5, lk5⟩ := zb w5
  refine ⟨_, rfl, .inl ⟨rfl, _, SqL.of e5⟩, _, rfl, w, dx5, fs5, rfl, hp5, lk5, w, d, rfl, w5, fun l2 hl2 => ⟨_, l2, d.fair, rfl, .inl ⟨Zd, fun x hx => XL (gd.fn.2.1 x hx)⟩, by have := gd.fn.2.2; omega, XR.2.2.2.1, fun H6 s6 => ?_⟩⟩
  have s56 := (Zf hl2).trans s6
  refine ⟨D, _, _, rfl, rfl, s56 _ _ e5, by rw [List.length_append, List.length_map, List.length_singleton, sizeLine_eq]; omega, ?_⟩
  have x7 := (x5.trans (Zn.x s56)).upd (o := .lst (((sortW d).signs.map (Zp "room") ++ (sortW d).ways.map (fun ns => Zp "ways" (ns.map Yc))).map V.str ++ [.str (Zp "starts" ((ZS d.starts).map Yc))] ++ [.str (Zp "fair" d.fair)]))
  have e7 : (upd H6 D (.lst (((sortW d).signs.map (Zp "room") ++ (sortW d).ways.map (fun ns => Zp "ways" (ns.map Yc))).map V.str ++ [.str (Zp "starts" ((ZS d.starts).map Yc))] ++ [.str (Zp "fair" d.fair)]))) D = some (.lst ((YC (sortW d)).map V.str)) := by
   rw [Zd]
   unfold YC
   simp [sortW]
  generalize upd H6 D (.lst (((sortW d).signs.map (Zp "room") ++ (sortW d).ways.map (fun ns => Zp "ways" (ns.map Yc))).map V.str ++ [.str (Zp "starts" ((ZS d.starts).map Yc))] ++ [.str (Zp "fair" d.fair)])) = H7 at x7 e7 ⊢
  exact ⟨rfl, _, rfl, _, D, YC (sortW d), 200, rfl, rfl, SqL.of e7, UB gs fs_, (text_len gs fs_).2, k _ (x7.same hD)⟩
def z9 (K : PySem.W.Frag) (a : Adr) : Sp := fun vs H Q _ => ∃ z : Str, vs = [.str z] ∧ z.length ≤ 1000 ∧ ∀ H', Zn H H' → Q (.bl (Yn z)) H'
theorem yu {P : Program} {w : World} {K : PySem.W.Frag} {mg : Str → Option Value} {base : Heap} {a : Adr} (T : Txt K mg a) (hw : w.params = a.Pm) : Yr P w K mg base CX0 1 a.is_number a.is_number_fd ["word"] (z9 K a) := by
 refine T.f_is_number.ok yF (fun vs H Q E h => ?_) (fun cdv A outer s H vs Q E hr h => ?_)
 ·obtain ⟨z, rfl, _⟩ := h
  rfl
 ·obtain ⟨z, rfl, hz, k⟩ := h
  refine ⟨_, (@Ze _ _ _ _ _ (@Z4 _ _ _ _ _ _ _ _ (@YT _ _ _ _ (WQ Wc Wc Zh (Zk (Zy (K := K) rfl) rfl T.b_len PyProof.Rows.Boot.«len» (@Za _ _ _ _ _ (pv 0)
   Zc
   (by rfl))) (WH rfl T.c_MOST_FIGURES)))
   (@Zg _ _ _ (@Zt _ _ _ _ XN))
   Zz)
   (@Ze _ _ _ _ _ (@Z4 _ _ _ _ _ _ _ _ (@YT _ _ _ _ (Xf (Zk (Xr (K := K) rfl rfl) rfl T.b_all PyProof.Rows.Boot.«all» (@Za _ _ _ _ _ (Ys (Nc := ["figure"]) (ix := [none]) (ZI.of (by decide +kernel : ZL (Zb Yt) ["word"] ["figure"] [none] _ = true)) rfl (z0 (pv 0)) (fun _ _ _ _ _ => (Zu (i := 0) (show List.Nodup (["figure"] : List Str) by decide +kernel) rfl (by first | exact Or.inl rfl | exact Or.inr rfl))) (fun _ _ _ _ _ => Yk) (fun _ _ _ _ _ => (@XM _ _ _ _ _ _ _ _ zK
   (pv 0)
   (WH rfl T.c_FIGURES)
   (by with_unfolding_all rfl))))
   Zc
   (by rfl)))))
   (@Zg _ _ _ (@Zt _ _ _ _ XN))
   Zz)
   (@Zg _ _ _ (@Zt _ _ _ _ (pe_or (@XM _ _ _ _ _ _ _ _ Xl
   (pv 0)
   Zl
   (Zw _)) (Vy (@XM _ _ _ _ _ _ _ _ qy
   (@Y2 _ _ _ _ _ _ _ ix_str
   (pv 0)
   Zh
   (fun _ _ => rfl))
   Zl
   (Zw _)))))))), ?_⟩
  have hsz := XZ z
  have nof : ¬ ((1 : Int) ≤ z.length ∧ (z.length : Int) ≤ 6) → Yn z = false := fun q => by
   have : ¬ (1 ≤ z.length ∧ z.length ≤ 6) := by omega
   simp only [Yn]
   by_cases h1 : 1 ≤ z.length
   ·have h2 : ¬ z.length ≤ 6 := fun h2 => this ⟨h1, h2⟩
    simp [h1, h2]
   ·simp [h1]
  refine ⟨_, rfl, .inr (.inl ⟨z, rfl, by rw [sizeLine_eq]; omega, _, _, rfl, rfl, _, rfl, ?_⟩)⟩
  refine Xj (fun c1 => ?_) (fun c1 => ?_)
  case refine_2 =>
   refine ⟨_, rfl, Z2 ?_⟩
   have q := k H (.refl H)
   rw [nof (fun q => c1 (decide_eq_true q.1))] at q
   exact q
  refine ⟨_, _, rfl, rfl, _, rfl, ?_⟩
  cases c2 : decide ((z.length : Int) ≤ 6) with
  | false =>
   refine Z2 ?_
   have q := k H (.refl H)
   rw [nof (fun q => by have := of_decide_eq_false c2; omega)] at q
   exact q
  | true =>
  have c1' := of_decide_eq_true c1
  have c2' := of_decide_eq_true c2
  have ev : Yn z = (z.cps.toList.all WG && (decide (z = "0") || decide (z.cps.toList[0]? ≠ some 48))) := by
   have a2 : 1 ≤ z.length := by omega
   have b2 : z.length ≤ 6 := by omega
   simp [Yn, a2, b2]
  rw [ev] at k
  refine YJ ⟨_, rfl, z, rfl, fun D hD => ?_⟩
  refine XE (J := Its z) (n := z.cps.size) (fun i σ H' => Zn H H' ∧ H' D = some (.lst ((z.cps.toList.take i).map fun c => V.bl (WG c))) ∧ ∃ y, σ = [y]) ?_ (fun i σ H' hi _ => hi) (fun σ H' _ => Nat.le_refl _) ?_ ?_
  ·exact ⟨Zf hD, Zd, _, rfl⟩
  ·rintro i x σ H' H2 hi ⟨sm, hl, y, rfl⟩ ⟨rfl, c, hc, rfl⟩ N N0 hN hN0
   refine ⟨_, rfl, _, _, rfl, rfl, ?_⟩
   have el := PySem.StrLaws.found_one ("0123456789" : Str) c
   refine hN _ _ _ _ hl (by rw [List.length_map, List.length_take, sizeLine_eq]; have : z.cps.size = z.length := rfl; omega) ⟨(ZF.upd (Zn.x sm)).same hD, ?_, _, rfl⟩
   have hc' : z.cps.toList[i]? = some c := by rw [Array.getElem?_toList]; exact hc
   rw [Zd, List.take_add_one, hc', List.map_append]
   refine congrArg (fun b => some (HO.lst (_ ++ [V.bl b]))) ?_
   rw [← xn]
   exact el
  rintro σ H' ⟨sm, hl, y, rfl⟩
  have et : z.cps.toList.take z.cps.size = z.cps.toList := by rw [← Array.length_toList]; exact List.take_length
  rw [et] at hl
  refine ⟨D, z.cps.toList.map WG, rfl, SqL.of (by rw [hl, List.map_map]; rfl), _, rfl, ?_⟩
  rw [WN]
  have q := k _ sm
  cases c3 : z.cps.toList.all WG with
  | false =>
   rw [c3] at q
   exact Z2 q
  | true =>
  rw [c3, Bool.true_and] at q
  refine YJ ⟨_, rfl, rfl, _, rfl, ?_⟩
  have e0 : decide (V.str z = V.str "0") = decide (z = "0") := decide_eq_decide.mpr ⟨fun h => V.str.inj h, fun h => congrArg V.str h⟩
  rw [e0]
  cases c4 : decide (z = "0") with
  | true =>
   rw [c4] at q
   exact Z2 q
  | false =>
  rw [c4, Bool.false_or] at q
  have zl : 0 < z.cps.toList.length := by omega
  obtain ⟨c, hc⟩ : ∃ c, z.cps.toList[0]? = some c := ⟨_, List.getElem?_eq_getElem zl⟩
  refine YJ ⟨_, rfl, z, _, c, rfl, rfl, by rw [sizeLine_eq]; omega, Yo (j := 0) hc, rfl, ?_⟩
  have e1 : (!decide (V.str ⟨#[c]⟩ = V.str "0")) = decide (z.cps.toList[0]? ≠ some 48) := by
   rw [hc, ← decide_not]
   refine decide_eq_decide.mpr (not_congr ?_)
   have z48 : ("0" : Str) = ⟨#[48]⟩ := by decide +kernel
   rw [z48]
   constructor
   ·intro h
    have := V.str.inj h
    have : c = 48 := by simpa using this
    rw [this]
   ·intro h
    rw [Option.some.inj h]
  rw [← e1] at q
  exact q
def UY (K : PySem.W.Frag) (a : Adr) : Sp := fun vs H Q E => ∃ (p : Addr) (head : Str) (ws : List Str), vs = [.ref p] ∧ H p = some (.lst ((head :: ws).map V.str)) ∧ ws.length ≤ 100 ∧ (∀ w ∈ ws, w.length ≤ 1000) ∧
 ((∀ w ∈ ws, Zr w = true) → ∀ H' l, Zn H H' → H l = none → H' l = some (.lst (ws.map V.str)) → Q (.ref l) H') ∧ (¬ (∀ w ∈ ws, Zr w = true) → ∀ H' e, Zn H H' → E (.ref e) (some a.C_NoText) H')
theorem xx {P : Program} {w : World} {K : PySem.W.Frag} {mg : Str → Option Value} {base : Heap} {a : Adr} (T : Txt K mg a) (hw : w.params = a.Pm) : Yr P w K mg base (CXe P w) 2 a.names_of a.names_of_fd ["line"] (UY K a) := by
 have G_is_name := UZ (P := P) (w := w) (base := base) T hw
 refine V1 T.f_names_of Uw (fun vs H Q E h => ?_) (fun cdv A outer s H vs Q E hr h => ?_)
 ·obtain ⟨p, head, ws, rfl, _⟩ := h
  rfl
 ·obtain ⟨p, head, ws, rfl, hp, hl, hsz, kq, ke⟩ := h
  refine ⟨_, (@Ze _ _ _ _ _ (@ZE _ _ (1) _ _ _ _ Uw.nd
   rfl
   (by first | exact Or.inl rfl | exact Or.inr rfl)
   (ZB (ZA (K := K) rfl) (pv 0) (ZC Zh) ZT)
   (by rfl)
   (by first | exact .inl rfl | exact .inr rfl | assumption))
   (@Ze _ _ _ _ _ (@Z4 _ _ _ _ _ _ _ _ (@YT _ _ _ _ (Xf (Zk (Xr (K := K) rfl rfl) rfl T.b_all PyProof.Rows.Boot.«all» (@Za _ _ _ _ _ (Ys (Nc := ["name"]) (ix := [none]) (ZI.of (by decide +kernel : ZL (Zb YH) ["line", "names"] ["name"] [none] _ = true)) rfl (ZO (K := K) rfl (pv 1)) (fun _ _ _ _ _ => (Zu (i := 0) (show List.Nodup (["name"] : List Str) by decide +kernel) rfl (by first | exact Or.inl rfl | exact Or.inr rfl))) (fun _ _ _ _ _ => Yk) (fun _ _ _ _ _ => (Zm G_is_name (hr.mono (by decide)) rfl T.g_is_name T.f_is_name.kp T.n_is_name .nil ZG (@Za _ _ _ _ _ (pv 0)
   Zc
   (by rfl)))))
   Zc
   (by rfl)))))
   (@Zg _ _ _ (Wm X3 rfl rfl T.g_NoText T.x_NoText PySem.F.excBase_ValueError (@Za _ _ _ _ _ Zl
   Zc
   (by rfl))))
   Zz)
   (@Zg _ _ _ (@Zt _ _ _ _ (pv 1))))), ?_⟩
  refine ⟨_, rfl, 1, rfl, p, _, rfl, SqL.of hp, fun l hl0 => ?_⟩
  rw [XA]
  have s1 := Zf (o := .lst (((head :: ws).map V.str).drop 1)) hl0
  have e1 : (upd H l (.lst (((head :: ws).map V.str).drop 1))) l = some (.lst (ws.map V.str)) := Zd
  generalize upd H l (.lst (((head :: ws).map V.str).drop 1)) = H1 at s1 e1 ⊢
  refine ⟨_, rfl, l, rfl, ⟨_, SqL.of e1⟩, fun D hD => ?_⟩
  refine Yp (K := K) hD (SqL.of e1) (by rw [List.length_map, sizeLine_eq]; omega) (fun i v _ => ∀ w, ws[i]? = some w → v = .bl (Zr w)) (fun _ _ _ _ _ q => q) ?_ ?_
  ·intro i x H2 N hx sm hN
   rw [List.getElem?_map] at hx
   cases e : ws[i]? with
   | none => rw [e] at hx; cases hx
   | some w =>
    rw [e] at hx; cases hx
    refine ⟨_, rfl, .str w, rfl, .str w (hsz w (List.mem_of_getElem? e)), fun H3 s3 => hN _ _ s3 fun w' hw' => ?_⟩
    rw [e] at hw'
    cases hw'
    rfl
  intro H2 ys hD2 s2 yl r2
  rw [List.length_map] at yl
  have ey := Xp (xs := ws) (f := Zr) yl fun i v x h1 h2 => r2 i v h1 x h2
  refine ⟨D, ws.map Zr, rfl, SqL.of (by rw [hD2, ey]), _, rfl, ?_⟩
  rw [WN]
  cases c : ws.all Zr with
  | false => exact Z2 ⟨by decide, fun e => ke (fun q => by rw [List.all_eq_true.mpr q] at c; cases c) _ e (s1.trans s2)⟩
  | true => exact YJ ⟨_, rfl, kq (fun w hw => List.all_eq_true.mp c w hw) _ l (s1.trans s2) hl0 (s2 _ _ e1)⟩
def Ui (K : PySem.W.Frag) (a : Adr) : Sp := fun vs H Q E => ∃ (p : Addr) (head : Str) (ws : List Str), vs = [.ref p] ∧ H p = some (.lst ((head :: ws).map V.str)) ∧ ws.length ≤ 100 ∧ (∀ w ∈ ws, w.length ≤ 1000) ∧
 ((∀ w ∈ ws, Yn w = true) → ∀ H' l, Zn H H' → H l = none → H' l = some (.lst ((ws.map YA).map V.int)) → Q (.ref l) H') ∧ (¬ (∀ w ∈ ws, Yn w = true) → ∀ H' e, Zn H H' → E (.ref e) (some a.C_NoText) H')
theorem zq {P : Program} {w : World} {K : PySem.W.Frag} {mg : Str → Option Value} {base : Heap} {a : Adr} (T : Txt K mg a) (hw : w.params = a.Pm) : Yr P w K mg base (CXe P w) 2 a.numbers_of a.numbers_of_fd ["line"] (Ui K a) := by
 have G_is_number := yu (P := P) (w := w) (base := base) T hw
 refine V1 T.f_numbers_of Vq (fun vs H Q E h => ?_) (fun cdv A outer s H vs Q E hr h => ?_)
 ·obtain ⟨p, head, ws, rfl, _⟩ := h
  rfl
 ·obtain ⟨p, head, ws, rfl, hp, hl, hsz, kq, ke⟩ := h
  refine ⟨_, (@Ze _ _ _ _ _ (@ZE _ _ (1) _ _ _ _ Vq.nd
   rfl
   (by first | exact Or.inl rfl | exact Or.inr rfl)
   (ZB (ZA (K := K) rfl) (pv 0) (ZC Zh) ZT)
   (by rfl)
   (by first | exact .inl rfl | exact .inr rfl | assumption))
   (@Ze _ _ _ _ _ (@Z4 _ _ _ _ _ _ _ _ (@YT _ _ _ _ (Xf (Zk (Xr (K := K) rfl rfl) rfl T.b_all PyProof.Rows.Boot.«all» (@Za _ _ _ _ _ (Ys (Nc := ["word"]) (ix := [none]) (ZI.of (by decide +kernel : ZL (Zb Yb) ["line", "words"] ["word"] [none] _ = true)) rfl (ZO (K := K) rfl (pv 1)) (fun _ _ _ _ _ => (Zu (i := 0) (show List.Nodup (["word"] : List Str) by decide +kernel) rfl (by first | exact Or.inl rfl | exact Or.inr rfl))) (fun _ _ _ _ _ => Yk) (fun _ _ _ _ _ => (Zm G_is_number (hr.mono (by decide)) rfl T.g_is_number T.f_is_number.kp T.n_is_number .nil ZG (@Za _ _ _ _ _ (pv 0)
   Zc
   (by rfl)))))
   Zc
   (by rfl)))))
   (@Zg _ _ _ (Wm X3 rfl rfl T.g_NoText T.x_NoText PySem.F.excBase_ValueError (@Za _ _ _ _ _ Zl
   Zc
   (by rfl))))
   Zz)
   (@Zg _ _ _ (@Zt _ _ _ _ (Ys (Nc := ["word"]) (ix := [none]) (ZI.of (by decide +kernel : ZL (Zb Yb) ["line", "words"] ["word"] [none] _ = true)) rfl (ZO (K := K) rfl (pv 1)) (fun _ _ _ _ _ => (Zu (i := 0) (show List.Nodup (["word"] : List Str) by decide +kernel) rfl (by first | exact Or.inl rfl | exact Or.inr rfl))) (fun _ _ _ _ _ => Yk) (fun _ _ _ _ _ => (ZZ (VM) rfl T.b_int PyProof.Rows.Boot.«int» (@Za _ _ _ _ _ (pv 0)
   Zc
   (by rfl))))))))), ?_⟩
  refine ⟨_, rfl, 1, rfl, p, _, rfl, SqL.of hp, fun l hl0 => ?_⟩
  rw [XA]
  have s1 := Zf (o := .lst (((head :: ws).map V.str).drop 1)) hl0
  have e1 : (upd H l (.lst (((head :: ws).map V.str).drop 1))) l = some (.lst (ws.map V.str)) := Zd
  generalize upd H l (.lst (((head :: ws).map V.str).drop 1)) = H1 at s1 e1 ⊢
  have at_ : ∀ {i : Nat} {x : V}, (ws.map V.str)[i]? = some x → ∃ w, ws[i]? = some w ∧ x = .str w := fun {i x} hx => by
   rw [List.getElem?_map] at hx
   cases e : ws[i]? with
   | none => rw [e] at hx; cases hx
   | some w => rw [e] at hx; cases hx; exact ⟨w, rfl, rfl⟩
  refine ⟨_, rfl, l, rfl, ⟨_, SqL.of e1⟩, fun D hD => ?_⟩
  refine Yp (K := K) hD (SqL.of e1) (by rw [List.length_map, sizeLine_eq]; omega) (fun i v _ => ∀ w, ws[i]? = some w → v = .bl (Yn w)) (fun _ _ _ _ _ q => q) ?_ ?_
  ·intro i x H2 N hx sm hN
   obtain ⟨w, hw', rfl⟩ := at_ hx
   refine ⟨_, rfl, w, rfl, hsz w (List.mem_of_getElem? hw'), fun H3 s3 => hN _ _ s3 fun w2 hw2 => ?_⟩
   rw [hw'] at hw2
   cases hw2
   rfl
  intro H2 ys hD2 s2 yl r2
  rw [List.length_map] at yl
  have ey := Xp (xs := ws) (f := Yn) yl fun i v x h1 h2 => r2 i v h1 x h2
  refine ⟨D, ws.map Yn, rfl, SqL.of (by rw [hD2, ey]), _, rfl, ?_⟩
  rw [WN]
  cases c : ws.all Yn with
  | false => exact Z2 ⟨by decide, fun e => ke (fun q => by rw [List.all_eq_true.mpr q] at c; cases c) _ e (s1.trans s2)⟩
  | true =>
  have hall : ∀ w ∈ ws, Yn w = true := fun w hm => List.all_eq_true.mp c w hm
  refine YJ ⟨_, rfl, l, rfl, ⟨_, SqL.of (s2 _ _ e1)⟩, fun E1 hE => ?_⟩
  refine Yp (K := K) hE (SqL.of (s2 _ _ e1)) (by rw [List.length_map, sizeLine_eq]; omega) (fun i v _ => ∀ w, ws[i]? = some w → v = .int (YA w)) (fun _ _ _ _ _ q => q) ?_ ?_
  ·intro i x H3 N hx sm hN
   obtain ⟨w, hw', rfl⟩ := at_ hx
   obtain ⟨n1, n2, n3⟩ := yg (hall w (List.mem_of_getElem? hw'))
   refine ⟨_, rfl, w, YA w, rfl, n1, by omega, hN _ _ (.refl _) fun w2 hw2 => ?_⟩
   rw [hw'] at hw2
   cases hw2
   rfl
  intro H3 zs hE3 s3 zl r3
  rw [List.length_map] at zl
  have ez := Xa (xs := ws) (f := fun w => V.int (YA w)) zl r3
  rw [ez] at hE3
  exact kq hall _ E1 ((s1.trans s2).trans s3) ((s1.trans s2).free hE) (by rw [hE3, List.map_map]; rfl)
theorem UW {α : Type} {r : α → α → Prop} (tr : ∀ a b c, r a b → r b c → r a c) : ∀ {l : List α}, (∀ (i : Nat) x y, l[i]? = some x → l[i + 1]? = some y → r x y) → l.Pairwise r
 | [], _ => .nil
 | [x], _ => by simp
 | x :: y :: l, h => by
  have ih := UW tr (l := y :: l) fun i u v h1 h2 => h (i + 1) u v (by simpa using h1) (by simpa using h2)
  have xy := h 0 x y rfl rfl
  refine List.pairwise_cons.mpr ⟨fun z hz => ?_, ih⟩
  rcases List.mem_cons.mp hz with rfl | hz
  ·exact xy
  ·exact tr x y z xy ((List.pairwise_cons.mp ih).1 z hz)
def yt (K : PySem.W.Frag) (a : Adr) : Sp := fun vs H Q E => ∃ (p : Addr) (xs : List V) (up : Prop), vs = [.ref p] ∧ H p = some (.lst xs) ∧ xs.length ≤ 1000 ∧ ((∃ ns, xs = ns.map V.int ∧ (up ↔ upI ns)) ∨ ∃ ss, xs = ss.map V.str ∧ (up ↔ upS ss)) ∧
 (up → ∀ H', Zn H H' → Q (.ref p) H') ∧ (¬ up → ∀ H' e, Zn H H' → E (.ref e) (some a.C_NoText) H')
theorem no_rising {P : Program} {w : World} {K : PySem.W.Frag} {mg : Str → Option Value} {base : Heap} {a : Adr} (T : Txt K mg a) (hw : w.params = a.Pm) : Yr P w K mg base (CXe P w) 1 a.rising a.rising_fd ["things"] (yt K a) := by
 refine V1 T.f_rising Uq (fun vs H Q E h => ?_) (fun cdv A outer s H vs Q E hr h => ?_)
 ·obtain ⟨p, xs, up, rfl, _⟩ := h
  rfl
 ·obtain ⟨p, xs, up, rfl, hp, hz, hup, kq, ke⟩ := h
  refine ⟨_, (@Ze _ _ _ _ _ (VB PassesOwn.leaving rfl (pi_zipK (K := K) rfl rfl T.b_zip (@Za _ _ _ _ _ (pv 0)
   (@Za _ _ _ _ _ (ZB (ZA (K := K) rfl) (pv 0) (ZC Zh) ZT)
   Zc
   (by rfl))
   (by rfl))) (yQ (K := K) (n := 2) rfl rfl (XQ (Zu (i := 1) Uq.nd rfl (by first | exact Or.inl rfl | exact Or.inr rfl)) (XQ (Zu (i := 2) Uq.nd rfl (by first | exact Or.inl rfl | exact Or.inr rfl)) yO))) (@Zg _ _ _ (@Z4 _ _ _ _ _ _ _ _ (@Zs _ _ _ _ _ _ _ _ op_geA
   (pv 1)
   (pv 2)
   (Zw _))
   (@Zg _ _ _ (Wm X3 rfl rfl T.g_NoText T.x_NoText PySem.F.excBase_ValueError (@Za _ _ _ _ _ Zl
   Zc
   (by rfl))))
   Zz)))
   (@Zg _ _ _ (@Zt _ _ _ _ (pv 0)))), ?_⟩
  refine ⟨_, rfl, _, rfl, 1, rfl, p, _, rfl, SqL.of hp, fun p2 hp2 => ?_⟩
  rw [XA]
  obtain ⟨H1, qN, s1, e1⟩ := ZV (o := .lst (xs.drop 1)) hp2
  rw [qN]
  refine ⟨p, p2, _, _, rfl, SqL.of (s1 _ _ hp), SqL.of e1, ?_⟩
  refine for_gen (J := Itz K p p2) (n := xs.length - 1) (fun i σ H' => (∃ z1 z2 : Option V, σ = [some (.ref p), z1, z2] ∧ Zn H1 H') ∧ (∀ ns : List Int, xs = ns.map V.int → ∀ (j : Nat) x y, j < i → ns[j]? = some x → ns[j + 1]? = some y → x < y) ∧ (∀ ss : List Str, xs = ss.map V.str → ∀ (j : Nat) x y, j < i → ss[j]? = some x → ss[j + 1]? = some y → x.cps.toList < y.cps.toList)) ?_ ?_ ?_ ?_ ?_
  ·exact ⟨⟨_, _, rfl, .refl _⟩, fun _ _ j _ _ hj => absurd hj (Nat.not_lt_zero _), fun _ _ j _ _ hj => absurd hj (Nat.not_lt_zero _)⟩
  ·rintro i σ H2 hi ⟨⟨z1, z2, rfl, sm⟩, _⟩
   have h1 : i < xs.length := by omega
   have h2 : i + 1 < xs.length := by omega
   exact ⟨_, _, xs[i], xs[i + 1], SqL.of (sm _ _ (s1 _ _ hp)), SqL.of (sm _ _ e1), List.getElem?_eq_getElem h1, by rw [List.getElem?_drop, Nat.add_comm]; exact List.getElem?_eq_getElem h2⟩
  ·rintro σ H2 ⟨⟨z1, z2, rfl, sm⟩, _⟩
   exact ⟨_, _, SqL.of (sm _ _ (s1 _ _ hp)), SqL.of (sm _ _ e1), .inr (by simp)⟩
  ·rintro i x σ H2 H3 hi ⟨⟨z1, z2, rfl, sm⟩, gi, gs⟩ ⟨pr, v, u, rfl, hpr, rfl, hx, hy⟩
   have hx := hx _ (SqL.of (sm _ _ (s1 _ _ hp)))
   have hy := hy _ (SqL.of (sm _ _ e1))
   rw [List.getElem?_drop, Nat.add_comm] at hy
   have s3 := sm.trans (Zf (o := .tup [v, u]) hpr)
   refine ⟨pr, _, rfl, SqT.of Zd, rfl, _, _, rfl, _, _, rfl, rfl, ?_⟩
   rcases hup with ⟨ns, exs, hu⟩ | ⟨ss, exs, hu⟩
   ·subst exs
    have h2 : i + 1 < ns.length := by rw [List.length_map] at hi; omega
    rw [List.getElem?_map, List.getElem?_eq_getElem (by omega)] at hx
    rw [List.getElem?_map, List.getElem?_eq_getElem h2] at hy
    cases hx; cases hy
    refine ⟨_, rfl, _, rfl, .inl ⟨_, _, rfl, rfl, _, rfl, Xj (fun c => ?_) (fun c => ?_)⟩⟩
    ·refine ⟨by decide, fun e => ke (fun q => ?_) _ e (s1.trans s3)⟩
     have := (List.pairwise_iff_getElem.mp (hu.mp q)) i (i + 1) (by omega) h2 (by omega)
     have := of_decide_eq_true c
     omega
    ·have lt : ns[i] < ns[i + 1] := by
      have : ¬ ns[i + 1] ≤ ns[i] := fun q => c (decide_eq_true q)
      omega
     refine ⟨⟨_, _, rfl, s3⟩, fun ms em j x y hj h3 h4 => ?_, fun ss es => ?_⟩
     ·have : ns = ms := by
       refine List.map_inj_right (f := V.int) (fun a b h => V.int.inj h) |>.mp em
      subst this
      by_cases hji : j < i
      ·exact gi _ rfl j x y hji h3 h4
      ·have : j = i := by omega
       subst this
       rw [List.getElem?_eq_getElem (by omega)] at h3
       rw [List.getElem?_eq_getElem h2] at h4
       cases h3; cases h4
       exact lt
     ·intro j x y hj h3 h4
      have q := congrArg (fun l : List V => l[j]?) es
      rw [List.getElem?_map, List.getElem?_map, h3] at q
      cases hh : ns[j]? with
      | none => rw [hh] at q; cases q
      | some n => rw [hh] at q; cases q
   ·subst exs
    have h2 : i + 1 < ss.length := by rw [List.length_map] at hi; omega
    rw [List.getElem?_map, List.getElem?_eq_getElem (by omega)] at hx
    rw [List.getElem?_map, List.getElem?_eq_getElem h2] at hy
    cases hx; cases hy
    refine ⟨_, rfl, _, rfl, .inr ⟨_, _, rfl, rfl, _, rfl, ?_⟩⟩
    cases c : decide (ss[i].cps.toList < ss[i + 1].cps.toList) with
    | false =>
     refine Z2 ⟨by decide, fun e => ke (fun q => ?_) _ e (s1.trans s3)⟩
     have := (List.pairwise_iff_getElem.mp (hu.mp q)) i (i + 1) (by omega) h2 (by omega)
     exact absurd this (of_decide_eq_false c)
    | true =>
     refine YJ ⟨⟨_, _, rfl, s3⟩, fun ns en => ?_, fun ms em j x y hj h3 h4 => ?_⟩
     ·intro j x y hj h3 h4
      have q := congrArg (fun l : List V => l[j]?) en
      rw [List.getElem?_map, List.getElem?_map, h3] at q
      cases hh : ss[j]? with
      | none => rw [hh] at q; cases q
      | some n => rw [hh] at q; cases q
     ·have : ss = ms := by
       refine List.map_inj_right (f := V.str) (fun a b h => V.str.inj h) |>.mp em
      subst this
      by_cases hji : j < i
      ·exact gs _ rfl j x y hji h3 h4
      ·have : j = i := by omega
       subst this
       rw [List.getElem?_eq_getElem (by omega)] at h3
       rw [List.getElem?_eq_getElem h2] at h4
       cases h3; cases h4
       exact of_decide_eq_true c
  ·rintro σ H2 ⟨⟨z1, z2, rfl, sm⟩, gi, gs⟩
   refine ⟨_, rfl, kq ?_ _ (s1.trans sm)⟩
   rcases hup with ⟨ns, rfl, hu⟩ | ⟨ss, rfl, hu⟩
   ·refine hu.mpr (UW (r := fun a b : Int => a < b) (fun a b c h1 h2 => Int.lt_trans h1 h2) fun i x y h1 h2 => gi _ rfl i x y ?_ h1 h2)
    have := (List.getElem?_eq_some_iff.mp h2).1
    rw [List.length_map]
    omega
   ·refine hu.mpr (UW (r := fun a b : Str => a.cps.toList < b.cps.toList) (fun a b c h1 h2 => List.lt_trans h1 h2) fun i x y h1 h2 => gs _ rfl i x y ?_ h1 h2)
    have := (List.getElem?_eq_some_iff.mp h2).1
    rw [List.length_map]
    omega
def Up (K : PySem.W.Frag) (a : Adr) : Sp := fun vs H Q E => ∃ p x y z u, vs = [.ref p, x, y, z, u] ∧ KdLL H x ∧ KdLL H y ∧ KdL H z ∧ KdL H u ∧ Xv H x y z u = false ∧ ∀ H' e, Zn H H' → E (.ref e) (some a.C_BadWorld) H'
theorem qZ {P : Program} {w : World} {K : PySem.W.Frag} {mg : Str → Option Value} {base : Heap} {a : Adr} (T : Txt K mg a) (hw : w.params = a.Pm) : Yr P w K mg base (CXe P w) 6 a.World_init a.World_init_fd ["self", "signs", "ways", "starts", "fair"] (Up K a) := by
 have G_makes_world := WT (P := P) (w := w) (base := base) T hw
 refine V1 T.f_World_init Vm (fun vs H Q E h => ?_) (fun cdv A outer s H vs Q E hr h => ?_)
 ·obtain ⟨p, x, y, z, u, rfl, _⟩ := h
  rfl
 ·obtain ⟨p, x, y, z, u, rfl, kx, ky, kz, ku, hm, k⟩ := h
  refine ⟨_, (@Ze _ _ _ _ _ (@Z4 _ _ _ _ _ _ _ _ (PT.nox (@YT _ _ _ _ (Xf (Zm G_makes_world (hr.mono (by decide)) rfl T.g_makes_world T.f_makes_world.kp T.n_makes_world .nil ZG (@Za _ _ _ _ _ (pv 1)
   (@Za _ _ _ _ _ (pv 2)
   (@Za _ _ _ _ _ (pv 3)
   (@Za _ _ _ _ _ (pv 4)
   Zc
   (by rfl))
   (by rfl))
   (by rfl))
   (by rfl))))))
   (@Zg _ _ _ (Wm X3 rfl rfl T.g_BadWorld T.x_BadWorld PySem.F.excBase_ValueError (@Za _ _ _ _ _ Zl
   Zc
   (by rfl))))
   Zz)
   L2.pss_never), ?_⟩
  refine ⟨_, rfl, _, rfl, _, rfl, _, rfl, x, y, z, u, rfl, kx, ky, kz, ku, fun H1 s1 => ⟨_, rfl, ?_⟩⟩
  rw [hm]
  exact Z2 ⟨by decide, fun e => k H1 e s1⟩
def Told (H : Hp) (v : V) (word : Str) : Prop := (∃ t rs, v = .str t ∧ Tame t rs ∧ word = XW rs) ∨ (Kd H v ∧ XB H "str" v = false ∧ word = "text")
def V7 (K : PySem.W.Frag) (a : Adr) : Sp := fun vs H Q E => ∃ v word, vs = [v] ∧ Told H v word ∧ (word = "read" → ∀ H' u, Zn H H' → Q u H') ∧ (word = "text" → ∀ H' e, Zn H H' → E (.ref e) (some a.C_NoText) H') ∧ (word = "world" → ∀ H' e, Zn H H' → E (.ref e) (some a.C_BadWorld) H')
theorem zo {P : Program} {w : World} {K : PySem.W.Frag} {mg : Str → Option Value} {base : Heap} {a : Adr} (T : Txt K mg a) (hw : w.params = a.Pm) : Yr P w K mg base (CXe P w) 8 a.read_world a.read_world_fd ["text"] (V7 K a) := by
 have Z_names_of := xx (P := P) (w := w) (base := base) T hw
 have Z_numbers_of := zq (P := P) (w := w) (base := base) T hw
 have Z_rising := no_rising (P := P) (w := w) (base := base) T hw
 have Z_World_init := fn_or2 (qZ (P := P) (w := w) (base := base) T hw) (fn_up (Vn (P := P) (w := w) (base := base) T hw))
 refine V1 T.f_read_world YQ (fun vs H Q E h => ?_) (fun cdv A outer s H vs Q E hr h => ?_)
 ·obtain ⟨v, word, rfl, _⟩ := h
  rfl
 ·obtain ⟨v, word, rfl, told, kread, ktext, kworld⟩ := h
  refine ⟨_, (@Ze _ _ _ _ _ (@Z4 _ _ _ _ _ _ _ _ (@YT _ _ _ _ (Xf (Zk (Xq (K := K) rfl "str") rfl T.b_isinstance PyProof.Rows.Boot.«isinstance» (@Za _ _ _ _ _ (pv 0)
   (@Za _ _ _ _ _ (X0 (v := .ty "str") rfl T.b_str PyProof.Rows.Boot.«str» rfl)
   Zc
   (by rfl))
   (by rfl)))))
   (@Zg _ _ _ (Wm X3 rfl rfl T.g_NoText T.x_NoText PySem.F.excBase_ValueError (@Za _ _ _ _ _ Zl
   Zc
   (by rfl))))
   Zz)
   (@Ze _ _ _ _ _ (Xb (i := 1) YQ.nd rfl rfl (Nc := ["line"]) (ix := [none]) (ZI.of (by decide +kernel : ZL (Zb ZU) ["text", "lines", "many", "signs", "ways", "starts", "fair"] ["line"] [none] _ = true)) rfl (ZO (K := K) rfl (Xi PySem.F.plainAttrs_str PySem.F.slot_str_split PySem.F.type_str_split Wl (pv 0) (@Za _ _ _ _ _ Zl
   Zc
   (by rfl)))) (fun _ _ _ _ _ => (Zu (i := 0) (show List.Nodup (["line"] : List Str) by decide +kernel) rfl (by first | exact Or.inl rfl | exact Or.inr rfl))) (fun _ _ _ _ _ => Yk) (fun _ _ _ _ _ => (PE.bmK (K := K) rfl (Xi PySem.F.plainAttrs_str PySem.F.slot_str_split PySem.F.type_str_split Wl (pv 0) (@Za _ _ _ _ _ Zl
   Zc
   (by rfl))))))
   (@Ze _ _ _ _ _ (@ZE _ _ (2) _ _ _ _ YQ.nd
   rfl
   (by first | exact Or.inl rfl | exact Or.inr rfl)
   (@Zq _ _ _ _ _ _ _ _ op_sub
   (@Zq _ _ _ _ _ _ _ _ VI
   (Zk (Zy (K := K) rfl) rfl T.b_len PyProof.Rows.Boot.«len» (@Za _ _ _ _ _ (pv 1)
   Zc
   (by rfl)))
   Zh)
   Zh)
   (by rfl)
   (by first | exact .inl rfl | exact .inr rfl | assumption))
   (@Ze _ _ _ _ _ (@Z4 _ _ _ _ _ _ _ _ (@Zs _ _ _ _ _ _ _ _ (Wa (K := K) rfl (Y0.units hr))
   (Ys (Nc := ["line"]) (ix := [none]) (ZI.of (by decide +kernel : ZL (Zb ZU) ["text", "lines", "many", "signs", "ways", "starts", "fair"] ["line"] [none] _ = true)) rfl (ZO (K := K) rfl (pv 1)) (fun _ _ _ _ _ => (Zu (i := 0) (show List.Nodup (["line"] : List Str) by decide +kernel) rfl (by first | exact Or.inl rfl | exact Or.inr rfl))) (fun _ _ _ _ _ => Yk) (fun _ _ _ _ _ => (@Y2 _ _ _ _ _ _ _ (Yj (K := K) rfl)
   (pv 0)
   Zh
   (fun _ _ => rfl))))
   (@Zq _ _ _ _ _ _ _ _ YK
   (@Zq _ _ _ _ _ _ _ _ YK
   (@Zq _ _ _ _ _ _ _ _ Uj
   (@Z0 _ _ _ _ (@Za _ _ _ _ _ Zl
   Zc
   (by rfl)))
   (pv 2))
   (@Zq _ _ _ _ _ _ _ _ Uj
   (@Z0 _ _ _ _ (@Za _ _ _ _ _ Zl
   Zc
   (by rfl)))
   (pv 2)))
   (@Z0 _ _ _ _ (@Za _ _ _ _ _ Zl
   (@Za _ _ _ _ _ Zl
   Zc
   (by rfl))
   (by rfl))))
   (Zw _))
   (@Zg _ _ _ (Wm X3 rfl rfl T.g_NoText T.x_NoText PySem.F.excBase_ValueError (@Za _ _ _ _ _ Zl
   Zc
   (by rfl))))
   Zz)
   (@Ze _ _ _ _ _ (Uy qs (i := 3) YQ.nd rfl rfl (Nc := ["line"]) (ix := [none]) (ZI.of (by decide +kernel : ZL (Zb ZU) ["text", "lines", "many", "signs", "ways", "starts", "fair"] ["line"] [none] _ = true)) rfl (ZO (K := K) rfl (ZB (ZA (K := K) rfl) (pv 1) ZT (ZC (pv 2)))) (fun _ _ _ _ _ => (Zu (i := 0) (show List.Nodup (["line"] : List Str) by decide +kernel) rfl (by first | exact Or.inl rfl | exact Or.inr rfl))) (fun _ _ _ _ _ => Yk) (fun _ _ _ _ _ => (Zm Z_rising (hr.mono (by decide)) rfl T.g_rising T.f_rising.kp T.n_rising .nil X1 (@Za _ _ _ _ _ (Zm Z_names_of (hr.mono (by decide)) rfl T.g_names_of T.f_names_of.kp T.n_names_of .nil X1 (@Za _ _ _ _ _ (pv 0)
   Zc
   (by rfl)))
   Zc
   (by rfl)))))
   (@Ze _ _ _ _ _ (Uy qs (i := 4) YQ.nd rfl rfl (Nc := ["line"]) (ix := [none]) (ZI.of (by decide +kernel : ZL (Zb ZU) ["text", "lines", "many", "signs", "ways", "starts", "fair"] ["line"] [none] _ = true)) rfl (ZO (K := K) rfl (ZB (ZA (K := K) rfl) (pv 1) (ZC (pv 2)) (ZC (Vo Wd Zh)))) (fun _ _ _ _ _ => (Zu (i := 0) (show List.Nodup (["line"] : List Str) by decide +kernel) rfl (by first | exact Or.inl rfl | exact Or.inr rfl))) (fun _ _ _ _ _ => Yk) (fun _ _ _ _ _ => (Zm Z_rising (hr.mono (by decide)) rfl T.g_rising T.f_rising.kp T.n_rising .nil X1 (@Za _ _ _ _ _ (Zm Z_numbers_of (hr.mono (by decide)) rfl T.g_numbers_of T.f_numbers_of.kp T.n_numbers_of .nil X1 (@Za _ _ _ _ _ (pv 0)
   Zc
   (by rfl)))
   Zc
   (by rfl)))))
   (@Ze _ _ _ _ _ (@ZE _ _ (5) _ _ _ _ YQ.nd
   rfl
   (by first | exact Or.inl rfl | exact Or.inr rfl)
   (Zm Z_rising (hr.mono (by decide)) rfl T.g_rising T.f_rising.kp T.n_rising .nil W6 (@Za _ _ _ _ _ (Zm Z_numbers_of (hr.mono (by decide)) rfl T.g_numbers_of T.f_numbers_of.kp T.n_numbers_of .nil W6 (@Za _ _ _ _ _ (@Y2 _ _ _ _ _ _ _ (Yj (K := K) rfl)
   (pv 1)
   (Vo Wd Zh)
   (fun _ _ => rfl))
   Zc
   (by rfl)))
   Zc
   (by rfl)))
   (by rfl)
   (by first | exact .inl rfl | exact .inr rfl | assumption))
   (@Ze _ _ _ _ _ (@ZE _ _ (6) _ _ _ _ YQ.nd
   rfl
   (by first | exact Or.inl rfl | exact Or.inr rfl)
   (Zm Z_names_of (hr.mono (by decide)) rfl T.g_names_of T.f_names_of.kp T.n_names_of .nil W6 (@Za _ _ _ _ _ (@Y2 _ _ _ _ _ _ _ (Yj (K := K) rfl)
   (pv 1)
   (Vo Wd Zh)
   (fun _ _ => rfl))
   Zc
   (by rfl)))
   (by rfl)
   (by first | exact .inl rfl | exact .inr rfl | assumption))
   (@Zg _ _ _ (@Zt _ _ _ _ (pe_make T.mk_World Z_World_init (hr.mono (by decide)) rfl T.g_World T.n_World_init .nil W6 (@YB _ _ _ _ _ (pv 3)
   (@YB _ _ _ _ _ (pv 4)
   (@YB _ _ _ _ _ (pv 5)
   (@YB _ _ _ _ _ (pv 6)
   Zc
   (by rfl))
   (by rfl))
   (by rfl))
   (by rfl))))))))))))), ?_⟩
  rcases told with ⟨t, rs, rfl, tm, rfl⟩ | ⟨kd, hty, rfl⟩
  case inr =>
   obtain ⟨ty, c1, c2⟩ := Wb K (by simp) kd hty
   exact ⟨_, rfl, _, ty, _, rfl, c1, c2, _, rfl, Z2 ⟨by decide, fun e => ktext rfl _ e (.refl _)⟩⟩
  obtain ⟨ty, c1, c2⟩ : ∃ u, Vw K H (.str t) u ∧ PySem.W.kitOne K u (.type "str") = some true := ⟨_, .str _, rfl⟩
  refine ⟨_, rfl, _, ty, _, rfl, c1, c2, _, rfl, YJ ?_⟩
  have hne := tm.ne
  have hwide := tm.wide
  have hmany := tm.many
  have rl : (Txt.split t "\n").length = rs.length := by rw [← tm.rows]; unfold WC; rw [List.length_map]
  have rat : ∀ (i : Nat) y, (Txt.split t "\n")[i]? = some y → rs[i]? = some (Txt.split y " ") := fun i y e => by
   rw [← tm.rows]
   unfold WC
   rw [List.getElem?_map, e]
   rfl
  refine ⟨_, rfl, rfl, _, _, rfl, rfl, by decide +kernel, tm.len, fun L hL => ⟨L, rfl, ⟨_, SqL.of Zd⟩, fun D hD => ?_⟩⟩
  obtain ⟨H1, qN, s1, e1⟩ := ZV (o := .lst ((Txt.split t "\n").map V.str)) hL
  rw [qN] at hD ⊢
  refine Yp (K := K) hD (SqL.of e1) (by rw [List.length_map, sizeLine_eq]; omega) (fun i v G => ∀ ws, rs[i]? = some ws → LS G v ws) (fun i v _ _ sm q ss e => LS.mono _ _ _ _ sm (q ss e)) ?_ ?_
  ·intro i x H2 N hx sm hN
   rw [List.getElem?_map] at hx
   cases e : (Txt.split t "\n")[i]? with
   | none => rw [e] at hx; cases hx
   | some y =>
    rw [e] at hx; cases hx
    refine ⟨_, rfl, rfl, y, _, rfl, rfl, by decide +kernel, tm.lines y (List.mem_of_getElem? e), fun l hl => hN _ _ (Zf hl) fun ws hws => ⟨l, rfl, New.mk hl ?_⟩⟩
    rw [rat i y e] at hws
    cases hws
    rw [Zd]
  intro H2 vs hD2 s2 vl r2
  rw [List.length_map, rl] at vl
  have s12 := s1.trans s2
  have hLn : ∀ (i : Nat) v ws, vs[i]? = some v → rs[i]? = some ws → LS H2 v ws := fun i v ws h1 h2 => LS.mono _ _ _ _ New.sub (r2 i v h1 ws h2)
  clear r2 e1 s1 hD
  refine ⟨_, rfl, .inl ⟨D, _, rfl, .inl (SqL.of hD2), _, _, rfl, rfl, ⟨by decide, by decide⟩, _, _, rfl, rfl, ?_⟩⟩
  obtain ⟨m, hm⟩ : ∃ m, rs.length / 2 - 1 = m := ⟨_, rfl⟩
  change Wi 2 (V.int ((vs.length : Int) / 2 - 1)) _ H2 _
  generalize hMv : ((vs.length : Int) / 2 - 1) = M
  have eM : M.toNat = m := by omega
  have kT : ∀ H' e, ¬ YD rs m → Zn H H' → E (.ref e) (some a.C_NoText) H' := fun H' e n s => ktext (word_no hm n) H' e s
  refine ⟨_, rfl, D, rfl, ⟨_, SqL.of hD2⟩, fun E0 hE => ?_⟩
  refine Yp (K := K) hE (SqL.of hD2) (by rw [sizeLine_eq]; omega) (fun i v _ => ∀ ws, rs[i]? = some ws → v = .str (ws.getD 0 Str.empty)) (fun _ _ _ _ _ q => q) ?_ ?_
  ·intro i x H3 N hx sm hN
   have hi : i < rs.length := by rw [← vl]; exact (List.getElem?_eq_some_iff.mp hx).1
   obtain ⟨c, rfl, ec⟩ := hLn i x _ hx (List.getElem?_eq_getElem hi)
   obtain ⟨w0, wr, ew⟩ := X6 (hne _ (List.getElem_mem hi))
   rw [ew] at ec
   refine ⟨_, rfl, c, _, _, _, rfl, rfl, SqL.of (sm _ _ ec), Yo (j := 0) rfl, hN _ _ (.refl _) fun ws hws => ?_⟩
   rw [List.getElem?_eq_getElem hi, ew] at hws
   cases hws
   rfl
  intro H3 hs hE3 s3 hsl r3
  have ehs := Xa (xs := rs) (f := fun ws => V.str (ws.getD 0 Str.empty)) (by rw [hsl, vl]) r3
  subst ehs
  refine ⟨by simp [sizeLine_eq], fun a1 ha1 => ?_⟩
  obtain ⟨H4, qN, t1, u1⟩ := ZV (o := .lst [.str "room"]) ha1
  rw [qN]
  refine ⟨_, rfl, a1, _, _, rfl, rfl, u1, by omega, by omega, by simp [sizeLine_eq]; omega, fun a2 ha2 => ?_⟩
  rw [eM, W9]
  obtain ⟨H5, qN, t2, u2⟩ := ZV (o := .lst (List.replicate m (V.str "room"))) ha2
  rw [qN]
  refine ⟨by simp [sizeLine_eq], fun a3 ha3 => ?_⟩
  obtain ⟨H6, qN, t3, u3⟩ := ZV (o := .lst [.str "ways"]) ha3
  rw [qN]
  refine ⟨_, rfl, a3, _, _, rfl, rfl, u3, by omega, by omega, by simp [sizeLine_eq]; omega, fun a4 ha4 => ?_⟩
  rw [eM, W9]
  obtain ⟨H7, qN, t4, u4⟩ := ZV (o := .lst (List.replicate m (V.str "ways"))) ha4
  rw [qN]
  refine ⟨a2, a4, _, _, rfl, rfl, (t3.trans t4) _ _ u2, u4, by simp [sizeLine_eq]; omega, fun a5 ha5 => ?_⟩
  obtain ⟨H8, qN, t5, u5⟩ := ZV (o := .lst (List.replicate m (V.str "room") ++ List.replicate m (V.str "ways"))) ha5
  rw [qN]
  refine ⟨by simp [sizeLine_eq], fun a6 ha6 => ?_⟩
  obtain ⟨H9, qN, t6, u6⟩ := ZV (o := .lst [.str "starts", .str "fair"]) ha6
  rw [qN]
  refine ⟨a5, a6, _, _, rfl, rfl, t6 _ _ u5, u6, by simp [sizeLine_eq]; omega, fun a7 ha7 => ?_⟩
  have t7 := Zf (o := .lst (List.replicate m (V.str "room") ++ List.replicate m (V.str "ways") ++ [.str "starts", .str "fair"])) ha7
  have u7 : (upd H9 a7 (.lst (List.replicate m (V.str "room") ++ List.replicate m (V.str "ways") ++ [.str "starts", .str "fair"]))) a7 = some (.lst ((YV m).map V.str)) := by
   rw [Zd]
   simp [YV]
  generalize upd H9 a7 (.lst (List.replicate m (V.str "room") ++ List.replicate m (V.str "ways") ++ [.str "starts", .str "fair"])) = H10 at t7 u7 ⊢
  have s310 : Zn H3 H10 := (t1.trans (t2.trans (t3.trans t4))).trans (t5.trans (t6.trans t7))
  have s210 := s3.trans s310
  have sH : Zn H H10 := s12.trans s210
  have hE10 : H10 E0 = some (.lst ((rs.map fun ws => ws.getD 0 Str.empty).map V.str)) := by
   rw [s310 _ _ hE3, List.map_map]
   rfl
  refine neS (fun x hx => ?_) (Ux m) hE10 u7 ⟨_, rfl, ?_⟩
  ·obtain ⟨ws, hws, rfl⟩ := List.mem_map.mp hx
   obtain ⟨w0, wr, ew⟩ := X6 (hne _ hws)
   have := tm.sok ws hws w0 (by rw [ew]; exact List.mem_cons_self)
   rw [ew]
   exact this
  cases ch : decide (rs.map (fun ws => ws.getD 0 Str.empty) = YV m) with
  | false => exact Z2 ⟨by decide, fun e => kT _ e (fun w => absurd w.heads (of_decide_eq_false ch)) sH⟩
  | true =>
  have hheads := of_decide_eq_true ch
  have hl := UV hheads
  have em : M = (m : Int) := by omega
  subst em
  refine YJ ?_
  have D10 := s210 _ _ hD2
  have L10 : ∀ (i : Nat) v ws, vs[i]? = some v → rs[i]? = some ws → LS H10 v ws := fun i v ws h1 h2 => LS.mono _ _ _ _ s210 (hLn i v ws h1 h2)
  clear t1 t2 t3 t4 t5 t6 t7 u1 u2 u3 u4 u5 u6 u7 r3 hsl hE3 s3 hE hE10 hLn s310 s210 s2 ch eM
  have vsl : vs.length = 2 * m + 2 := by omega
  have wsz : ∀ (i : Nat) ws, rs[i]? = some ws → ∃ h wr, ws = h :: wr ∧ wr.length ≤ 30 ∧ (∀ w ∈ wr, w.length ≤ 500) ∧ ws.drop 1 = wr := fun i ws e => by
   have hm' := List.mem_of_getElem? e
   obtain ⟨w0, wr, ew⟩ := X6 (hne _ hm')
   refine ⟨w0, wr, ew, ?_, fun w hw' => tm.word ws hm' w (by rw [ew]; exact List.mem_cons_of_mem _ hw'), by rw [ew]; rfl⟩
   have := hwide ws hm'
   rw [ew, List.length_cons] at this
   omega
  refine ⟨_, rfl, _, rfl, m, rfl, D, vs, rfl, SqL.of D10, fun c1 hc1 => ?_⟩
  rw [Xx _ _ (by omega)]
  obtain ⟨H11, qN, t1, u1⟩ := ZV (o := .lst (vs.take m)) hc1
  rw [qN]
  refine ⟨c1, rfl, ⟨_, SqL.of u1⟩, fun F hF => ?_⟩
  refine Yp (K := K) hF (SqL.of u1) (by rw [List.length_take, sizeLine_eq]; omega) (fun i v G => ∀ ws, rs[i]? = some ws → LS G v (ws.drop 1) ∧ (∀ w ∈ ws.drop 1, Zr w = true) ∧ upS (ws.drop 1)) (fun i v _ _ sm q ss e => ⟨LS.mono _ _ _ _ sm (q ss e).1, (q ss e).2⟩) ?_ ?_
  ·intro i x H12 N hx sm hN
   have hi : i < m := by have := (List.getElem?_eq_some_iff.mp hx).1; rw [List.length_take] at this; omega
   rw [List.getElem?_take_of_lt hi] at hx
   have hri : rs[i]? = some rs[i] := List.getElem?_eq_getElem (by omega)
   obtain ⟨c, rfl, ec⟩ := L10 i x _ hx hri
   obtain ⟨h0, wr, ew, z1, z2, z3⟩ := wsz i _ hri
   rw [ew] at ec
   refine ⟨_, rfl, c, h0, wr, rfl, (t1.trans sm) _ _ ec, by omega, fun w hw' => by have := z2 w hw'; omega, fun hn H13 l s13 l0 el => ?_, fun hn H13 e s13 => ?_⟩
   ·refine ⟨l, _, upS wr, rfl, el, by rw [List.length_map]; omega, .inr ⟨wr, rfl, Iff.rfl⟩, fun hu H14 s14 => hN _ _ (s13.trans s14) fun ss hss => ?_, fun hu H14 e s14 => ?_⟩
    ·rw [hri] at hss
     cases hss
     rw [z3]
     exact ⟨⟨l, rfl, New.mk l0 (s14 _ _ el)⟩, hn, hu⟩
    ·exact kT _ e (fun w => hu (by have := w.up i _ hi hri; rwa [z3] at this)) (sH.trans ((t1.trans sm).trans (s13.trans s14)))
   ·exact kT _ e (fun w => hn (by have := w.names i _ hi hri; rwa [z3] at this)) (sH.trans ((t1.trans sm).trans s13))
  intro H12 sv hF12 s12' svl r12
  rw [List.length_take] at svl
  have D12 := (t1.trans s12') _ _ D10
  refine ⟨_, rfl, _, rfl, m, rfl, 2, rfl, -2, rfl, D, vs, rfl, SqL.of D12, fun c2 hc2 => ?_⟩
  rw [cutV_mid2 _ _ vsl]
  obtain ⟨H13, qN, t2, u2⟩ := ZV (o := .lst ((vs.drop m).take m)) hc2
  rw [qN]
  have t12 := (t1.trans s12').trans t2
  refine ⟨c2, rfl, ⟨_, SqL.of u2⟩, fun G0 hG => ?_⟩
  refine Yp (K := K) hG (SqL.of u2) (by rw [List.length_take, sizeLine_eq]; omega) (fun i v G => ∀ ws, rs[m + i]? = some ws → LI G v ((ws.drop 1).map YA) ∧ (∀ w ∈ ws.drop 1, Yn w = true) ∧ upI ((ws.drop 1).map YA)) (fun i v _ _ sm q ss e => ⟨LI.mono _ _ _ _ sm (q ss e).1, (q ss e).2⟩) ?_ ?_
  ·intro i x H14 N hx sm hN
   have hi : i < m := by have := (List.getElem?_eq_some_iff.mp hx).1; rw [List.length_take] at this; omega
   rw [List.getElem?_take_of_lt hi, List.getElem?_drop] at hx
   have hri : rs[m + i]? = some rs[m + i] := List.getElem?_eq_getElem (by omega)
   obtain ⟨c, rfl, ec⟩ := L10 _ x _ hx hri
   obtain ⟨h0, wr, ew, z1, z2, z3⟩ := wsz _ _ hri
   rw [ew] at ec
   refine ⟨_, rfl, c, h0, wr, rfl, (t12.trans sm) _ _ ec, by omega, fun w hw' => by have := z2 w hw'; omega, fun hn H15 l s15 l0 el => ?_, fun hn H15 e s15 => ?_⟩
   ·refine ⟨l, _, upI (wr.map YA), rfl, el, by rw [List.length_map, List.length_map]; omega, .inl ⟨_, rfl, Iff.rfl⟩, fun hu H16 s16 => hN _ _ (s15.trans s16) fun ss hss => ?_, fun hu H16 e s16 => ?_⟩
    ·rw [hri] at hss
     cases hss
     rw [z3]
     exact ⟨⟨l, rfl, New.mk l0 (s16 _ _ el)⟩, hn, hu⟩
    ·exact kT _ e (fun w => hu (by have := w.upn _ _ (by omega) (by omega) hri; rwa [z3] at this)) (sH.trans ((t12.trans sm).trans (s15.trans s16)))
   ·exact kT _ e (fun w => hn (by have := w.nums _ _ (by omega) (by omega) hri; rwa [z3] at this)) (sH.trans ((t12.trans sm).trans s15))
  intro H14 wv hG14 s14 wvl r14
  rw [List.length_take, List.length_drop] at wvl
  have t14 := t12.trans s14
  have D14 := t14 _ _ D10
  have hv2 : 2 * m < vs.length := by omega
  have hv1 : 2 * m + 1 < vs.length := by omega
  have hr2 : rs[2 * m]? = some rs[2 * m] := List.getElem?_eq_getElem (by omega)
  have hr1 : rs[2 * m + 1]? = some rs[2 * m + 1] := List.getElem?_eq_getElem (by omega)
  obtain ⟨cs, ecs, gcs⟩ := L10 _ _ _ (List.getElem?_eq_getElem hv2) hr2
  obtain ⟨cf, ecf, gcf⟩ := L10 _ _ _ (List.getElem?_eq_getElem hv1) hr1
  have at2 : atI vs (-2) = some (.ref cs) := by
   have := qG (xs := vs) (k := 2) (by decide) (by omega)
   have e : vs.length - 2 = 2 * m := by omega
   rw [e, List.getElem?_eq_getElem hv2, ecs] at this
   exact this
  have at1 : atI vs (-1) = some (.ref cf) := by
   have := qG (xs := vs) (k := 1) (by decide) (by omega)
   have e : vs.length - 1 = 2 * m + 1 := by omega
   rw [e, List.getElem?_eq_getElem hv1, ecf] at this
   exact this
  obtain ⟨h2, wr2, ew2, z21, z22, z23⟩ := wsz _ _ hr2
  obtain ⟨h1, wr1, ew1, z11, z12, z13⟩ := wsz _ _ hr1
  rw [ew2] at gcs
  rw [ew1] at gcf
  refine ⟨_, rfl, 2, rfl, D, vs, _, _, rfl, rfl, SqL.of D14, at2, cs, h2, wr2, rfl, t14 _ _ gcs, by omega, fun w hw' => by have := z22 w hw'; omega, fun hn H15 l s15 l0 el => ?_, fun hn H15 e s15 => kT _ e (fun w => hn (by have := w.nums _ _ (by omega) (by omega) hr2; rwa [z23] at this)) (sH.trans (t14.trans s15))⟩
  refine ⟨l, _, upI (wr2.map YA), rfl, el, by rw [List.length_map, List.length_map]; omega, .inl ⟨_, rfl, Iff.rfl⟩, fun hu H16 s16 => ?_, fun hu H16 e s16 => kT _ e (fun w => hu (by have := w.upn _ _ (by omega) (by omega) hr2; rwa [z23] at this)) (sH.trans (t14.trans (s15.trans s16)))⟩
  have t16 := t14.trans (s15.trans s16)
  refine ⟨_, rfl, 1, rfl, D, vs, _, _, rfl, rfl, SqL.of (t16 _ _ D10), at1, cf, h1, wr1, rfl, t16 _ _ gcf, by omega, fun w hw' => by have := z12 w hw'; omega, fun hf H17 lf s17 lf0 elf => ?_, fun hf H17 e s17 => kT _ e (fun w => hf (by have := w.fair _ hr1; rwa [z13] at this)) (sH.trans (t16.trans s17))⟩
  have svl' : sv.length = m := by omega
  have wvl' : wv.length = m := by omega
  have hW : YD rs m := by
   have sgn : ∀ (i : Nat) ws, i < m → rs[i]? = some ws → (∀ w ∈ ws.drop 1, Zr w = true) ∧ upS (ws.drop 1) := fun i ws hi e => (r12 i _ (List.getElem?_eq_getElem (by omega)) ws e).2
   have nms : ∀ (i : Nat) ws, m ≤ i → i ≤ 2 * m → rs[i]? = some ws → (∀ w ∈ ws.drop 1, Yn w = true) ∧ upI ((ws.drop 1).map YA) := fun i ws h3 h4 e => by
    by_cases q : i = 2 * m
    ·subst q
     rw [hr2] at e
     cases e
     rw [z23]
     exact ⟨hn, hu⟩
    ·have := (r14 (i - m) _ (List.getElem?_eq_getElem (by omega)) ws (by rw [show m + (i - m) = i by omega]; exact e)).2
     exact this
   refine ⟨hheads, fun i ws hi e => (sgn i ws hi e).1, fun i ws hi e => (sgn i ws hi e).2, fun i ws h3 h4 e => (nms i ws h3 h4 e).1, fun i ws h3 h4 e => (nms i ws h3 h4 e).2, fun ws e => ?_⟩
   rw [hr1] at e
   cases e
   rw [z13]
   exact hf
  refine ⟨_, rfl, _, rfl, _, rfl, _, rfl, ?_⟩
  intro w dw nw ndw new
  have pv : Y9 H17 (.ref F) (.ref G0) (.ref l) (.ref lf) (dOf rs m) := by
   have f1 : Zn H12 H17 := t2.trans (s14.trans ((s15.trans s16).trans s17))
   have f2 : Zn H14 H17 := (s15.trans s16).trans s17
   refine ⟨⟨F, sv, rfl, f1 _ _ hF12, by rw [Ue hl]; omega, fun i v x q1 q2 => ?_⟩, ⟨G0, wv, rfl, f2 _ _ hG14, by rw [qz hl]; omega, fun i v x q1 q2 => ?_⟩, ?_, ?_⟩
   ·have hi : i < m := by have := (List.getElem?_eq_some_iff.mp q1).1; omega
    have hri : rs[i]? = some rs[i] := List.getElem?_eq_getElem (by omega)
    rw [d_sign hl hi, hri] at q2
    cases q2
    exact LS.mono _ _ _ _ (New.sub.trans f1) (r12 i v q1 _ hri).1
   ·have hi : i < m := by have := (List.getElem?_eq_some_iff.mp q1).1; omega
    have hri : rs[m + i]? = some rs[m + i] := List.getElem?_eq_getElem (by omega)
    rw [d_way hl hi, hri] at q2
    cases q2
    exact LI.mono _ _ _ _ (New.sub.trans f2) (r14 i v q1 _ hri).1
   ·obtain ⟨ws, q1, q2⟩ := VW hl
    rw [hr2] at q1
    cases q1
    rw [q2, z23]
    exact ⟨l, rfl, (s16.trans s17) _ _ el⟩
   ·obtain ⟨ws, q1, q2⟩ := qx hl
    rw [hr1] at q1
    cases q1
    rw [q2, z13]
    exact ⟨lf, rfl, elf⟩
  have sm : Zn H17 (upd (upd H17 dw (.own w)) w (.ins a.C_World dw [])) := (Zf ndw).trans (Zf (by rw [Zv (Ne.symm new)]; exact nw))
  have sH17 := sH.trans (t16.trans s17)
  by_cases hM : VS rs m
  ·exact .inr ⟨w, dw, _, _, _, _, dOf rs m, rfl, Zd, pv.mono sm, good_of hW hM hwide, fun H18 x18 wa => ⟨rfl, kread (Um hW hM) _ _ (fun b o e => x18 b o (Yg (sH17 _ _ e) nw) (sm b o (sH17 _ _ e)))⟩⟩
  ·have pm := pv.mono sm
   obtain ⟨k1, k2, k3, k4⟩ := kd_of hW hmany hwide tm.word pm
   refine .inl ⟨w, _, _, _, _, rfl, k1, k2, k3, k4, ?_, fun H18 e s18 => kworld (Ws hW hM) _ e ((sH17.trans sm).trans s18)⟩
   cases hmk : Xv (upd (upd H17 dw (.own w)) w (.ins a.C_World dw [])) (.ref F) (.ref G0) (.ref l) (.ref lf) with
   | false => rfl
   | true => exact absurd (makes_of hW pm hmk) hM
def UK (K : PySem.W.Frag) (a : Adr) : Sp := fun vs H Q _ => ∃ z : Str, vs = [.str z] ∧ z.length ≤ 1000 ∧ PyData.strOk z = true ∧ ∀ H', Zn H H' → Q (.bl (Zr z)) H'
theorem UF {P : Program} {w : World} {K : PySem.W.Frag} {mg : Str → Option Value} {base : Heap} {a : Adr} (T : Txt K mg a) (hw : w.params = a.Pm) : Yr P w K mg base CX0 1 a._law_is_name a._law_is_name_fd ["_law_word_here"] (UK K a) := by
 refine T.f__law_is_name.ok UG (fun vs H Q E h => ?_) (fun cdv A outer s H vs Q E hr h => ?_)
 ·obtain ⟨z, rfl, _⟩ := h
  rfl
 ·obtain ⟨z, rfl, hz, hok, k⟩ := h
  refine ⟨_, (@Zg _ _ _ (@Zt _ _ _ _ (Vs (xi Wc Wc Zh (Zk (Zy (K := K) rfl) rfl T.b_len PyProof.Rows.Boot.«len» (@Za _ _ _ _ _ (pv 0)
   Zc
   (by rfl))) Zh) (Vy (@XM _ _ _ _ _ _ _ _ (yr (K := K) rfl (Y0.units hr))
   (Ys (Nc := ["_law_sign"]) (ix := [none]) (ZI.of (by decide +kernel : ZL (Zb ZW) ["_law_word_here"] ["_law_sign"] [none] _ = true)) rfl (z0 (pv 0)) (fun _ _ _ _ _ => (Zu (i := 0) (show List.Nodup (["_law_sign"] : List Str) by decide +kernel) rfl (by first | exact Or.inl rfl | exact Or.inr rfl))) (fun _ _ _ _ _ => (Wx (@Zs _ _ _ _ _ _ _ _ VH
   (pv 0)
   Zl
   (by with_unfolding_all rfl)))) (fun _ _ _ _ _ => (pv 0)))
   (@Z0 _ _ _ _ Zc)
   (Zw _)))))), ?_⟩
  have fin : decide (1 ≤ (z.length : Int)) = true → decide ((z.length : Int) ≤ 8) = true → Zr z = z.cps.toList.all Xs := fun a b => by
   have a' := of_decide_eq_true a
   have b' := of_decide_eq_true b
   have a2 : 1 ≤ z.length := by omega
   have b2 : z.length ≤ 8 := by omega
   simp [Zr, a2, b2]
  have nof : ¬ ((1 : Int) ≤ z.length ∧ (z.length : Int) ≤ 8) → Zr z = false := fun q => by
   have : ¬ (1 ≤ z.length ∧ z.length ≤ 8) := by omega
   simp only [Zr]
   by_cases h1 : 1 ≤ z.length
   ·have h2 : ¬ z.length ≤ 8 := fun h2 => this ⟨h1, h2⟩
    simp [h1, h2]
   ·simp [h1]
  refine ⟨_, rfl, .inr (.inl ⟨z, rfl, by rw [sizeLine_eq]; omega, _, _, rfl, rfl, _, rfl, ?_⟩)⟩
  refine Xj (fun c1 => ?_) (fun c1 => ?_)
  case refine_2 =>
   refine ⟨_, rfl, YJ ?_⟩
   have q := k H (.refl H)
   rw [nof (fun q => c1 (decide_eq_true q.1))] at q
   exact q
  refine ⟨_, _, rfl, rfl, _, rfl, ?_⟩
  refine Xj (fun c2 => ?_) (fun c2 => ?_)
  case refine_2 =>
   have q := k H (.refl H)
   rw [nof (fun q => c2 (decide_eq_true q.2))] at q
   exact q
  refine ⟨_, rfl, z, rfl, fun D hD => ?_⟩
  have hsz : z.cps.toList.length = z.length := Array.length_toList
  refine WZ (J := Its z) hD (xs := z.cps.toList.map chV) (by rw [List.length_map, sizeLine_eq]; omega) badV (fun i H' hi _ => by rw [List.length_map, Array.length_toList] at hi; exact hi) (fun H' _ => by rw [List.length_map, Array.length_toList]; exact Nat.le_refl _) (fun i H' x H2 hlt _ hy => ?_) (fun i x H' N hx s' hN => ?_) (fun x H' N hN => ⟨_, rfl, hN⟩) (fun H' hD' s' => ?_)
  ·obtain ⟨e, c, hc, rfl⟩ := hy
   refine ⟨e, ?_⟩
   rw [List.getElem?_map, Array.getElem?_toList, hc]
   rfl
  ·obtain ⟨c, hc, rfl⟩ := List.mem_map.mp (List.mem_of_getElem? hx)
   refine ⟨_, rfl, _, _, rfl, rfl, _, rfl, ?_⟩
   have el := PySem.StrLaws.found_one ("abcdefghijklmnopqrstuvwxyz" : Str) c
   have e2 : badV (chV c) = !(!(Builtin.Str.occurrences ("abcdefghijklmnopqrstuvwxyz" : Str) ⟨#[c]⟩ 0 ("abcdefghijklmnopqrstuvwxyz" : Str).length 1).isEmpty) := by
    rw [el, WM]
    simp [badV, chV]
   have q := hN H' (.refl _)
   rw [e2] at q
   exact q
  refine ⟨by decide, fun E1 hE1 => ?_⟩
  have hfl : (z.cps.toList.map chV).filter badV = ((z.cps.toList.filter fun c => badV (chV c)).map fun c => (⟨#[c]⟩ : Str)).map V.str := by
   rw [List.filter_map, List.map_map]
   rfl
  rw [hfl] at hD'
  refine eqS (b := []) (fun s hs => ?_) (fun s hs => by cases hs) (Zf hE1 _ _ hD') Zd ?_
  ·obtain ⟨c, hc, rfl⟩ := List.mem_map.mp hs
   have hm := (List.mem_filter.mp hc).1
   unfold PyData.strOk at hok ⊢
   rw [Array.all_eq_true_iff_forall_mem] at hok
   have := hok c (Array.mem_toList_iff.mp hm)
   simpa using this
  have q := k _ (s'.trans (Zf (o := .lst []) hE1))
  rw [fin c1 c2] at q
  have e3 : z.cps.toList.all Xs = decide (((z.cps.toList.filter fun c => badV (chV c)).map fun c => (⟨#[c]⟩ : Str)) = []) := by
   rw [Bool.eq_iff_iff, decide_eq_true_iff, List.map_eq_nil_iff, List.filter_eq_nil_iff, List.all_eq_true]
   constructor
   ·intro h c hc
    simp [badV, chV, h c hc]
   ·intro h c hc
    simpa [badV, chV] using h c hc
  rw [e3] at q
  exact q
theorem xg {b c : Bool} : ([PyData.list [.bool true, .bool false], PyData.list [.bool false, .bool true]].any fun z => PyData.eqv z (.list [.bool b, .bool c])) = (b != c) := by
 cases b <;> cases c <;> simp [PyData.eqv, PyData.eqvAll]
def z5 (K : PySem.W.Frag) (a : Adr) : Sp := fun vs H Q _ => ∃ v word, vs = [v] ∧ Told H v word ∧ ∀ H', Zn H H' → Q (.str word) H'
theorem yx {P : Program} {w : World} {K : PySem.W.Frag} {mg : Str → Option Value} {base : Heap} {a : Adr} (T : Txt K mg a) (hw : w.params = a.Pm) : Yr P w K mg base CX0 9 a._law_word a._law_word_fd ["_law_text"] (z5 K a) := by
 have Z_read_world := zo (P := P) (w := w) (base := base) T hw
 refine T.f__law_word.ok YZ (fun vs H Q E h => ?_) (fun cdv A outer s H vs Q E hr h => ?_)
 ·obtain ⟨v, word, rfl, _⟩ := h
  rfl
 ·obtain ⟨v, word, rfl, told, k⟩ := h
  refine ⟨_, (@Ze _ _ _ _ _ (@ZE _ _ (1) _ _ _ _ YZ.nd
   rfl
   (by first | exact Or.inl rfl | exact Or.inr rfl)
   Zl
   (by rfl)
   (by first | exact .inl rfl | exact .inr rfl | assumption))
   (@Ze _ _ _ _ _ (ps_try (i := 2) rfl rfl YZ.nd rfl rfl rfl T.g_TimeError (psx_expr2 (pex_call Z_read_world (hr.mono (by decide)) rfl T.g_read_world T.f_read_world.kp T.n_read_world (@Za _ _ _ _ _ (pv 0)
   Zc
   (by rfl))) (@Zg _ _ _ (@ZE _ _ (1) _ _ _ _ YZ.nd
   rfl
   (by first | exact Or.inl rfl | exact Or.inr rfl)
   Zl
   (by rfl)
   (by first | exact .inl rfl | exact .inr rfl | assumption)))) (fun _ => (@Ze _ _ _ _ _ (@ZE _ _ (3) _ _ _ _ YZ.nd
   rfl
   (by first | exact Or.inl rfl | exact Or.inr rfl)
   (Zk (call_isXT (K := K) rfl (cs := [.ref a.C_BadMachine, .ref a.C_BadSentence, .ref a.C_NoLine, .ref a.C_NoWorld]) (ws := [.ref a.C_BadMachine, .ref a.C_BadSentence, .ref a.C_NoLine, .ref a.C_NoWorld]) refs4 vals4) rfl T.b_isinstance PyProof.Rows.Boot.«isinstance» (@Za _ _ _ _ _ (pv 2)
   (@Za _ _ _ _ _ (@pe_tup _ _ _ _ _ (@YB _ _ _ _ _ (WH (v := .ref a.C_BadMachine) rfl ⟨_, T.g_BadMachine, rfl⟩)
   (@YB _ _ _ _ _ (WH (v := .ref a.C_BadSentence) rfl ⟨_, T.g_BadSentence, rfl⟩)
   (@YB _ _ _ _ _ (WH (v := .ref a.C_NoLine) rfl ⟨_, T.g_NoLine, rfl⟩)
   (@YB _ _ _ _ _ (WH (v := .ref a.C_NoWorld) rfl ⟨_, T.g_NoWorld, rfl⟩)
   Zc
   (by rfl))
   (by rfl))
   (by rfl))
   (by rfl)))
   Zc
   (by rfl))
   (by rfl)))
   (by rfl)
   (by first | exact .inl rfl | exact .inr rfl | assumption))
   (@Ze _ _ _ _ _ (@ZE _ _ (4) _ _ _ _ YZ.nd
   rfl
   (by first | exact Or.inl rfl | exact Or.inr rfl)
   (@Z0 _ _ _ _ (@Za _ _ _ _ _ (Zk (qH (K := K) rfl (c := .ref a.C_NoText) (.inl ⟨_, rfl⟩)) rfl T.b_isinstance PyProof.Rows.Boot.«isinstance» (@Za _ _ _ _ _ (pv 2)
   (@Za _ _ _ _ _ (WH (v := .ref a.C_NoText) rfl ⟨_, T.g_NoText, rfl⟩)
   Zc
   (by rfl))
   (by rfl)))
   (@Za _ _ _ _ _ (Zk (qH (K := K) rfl (c := .ref a.C_BadWorld) (.inl ⟨_, rfl⟩)) rfl T.b_isinstance PyProof.Rows.Boot.«isinstance» (@Za _ _ _ _ _ (pv 2)
   (@Za _ _ _ _ _ (WH (v := .ref a.C_BadWorld) rfl ⟨_, T.g_BadWorld, rfl⟩)
   Zc
   (by rfl))
   (by rfl)))
   Zc
   (by rfl))
   (by rfl)))
   (by rfl)
   (by first | exact .inl rfl | exact .inr rfl | assumption))
   (@Zg _ _ _ (@Z4 _ _ _ _ _ _ _ _ (PW.pt (qa (Xf (Zk (qH (K := K) rfl (c := .ty "ValueError") (.inr ⟨_, rfl⟩)) rfl T.b_isinstance PyProof.Rows.Boot.«isinstance» (@Za _ _ _ _ _ (pv 2)
   (@Za _ _ _ _ _ (X0 (v := .ty "ValueError") rfl T.b_ValueError PyProof.Rows.Boot.«ValueError» rfl)
   Zc
   (by rfl))
   (by rfl)))) (qa (@YT _ _ _ _ (pt_truthK (K := K) rfl (pv 3) (fun _ => rfl))) (UT (@Zs _ _ _ _ _ _ _ _ (op_inL (K := K) rfl (by have q := Y0.units hr; exact q))
   (pv 4)
   (@Z0 _ _ _ _ (@Za _ _ _ _ _ (@Z0 _ _ _ _ (@Za _ _ _ _ _ XN
   (@Za _ _ _ _ _ XN
   Zc
   (by rfl))
   (by rfl)))
   (@Za _ _ _ _ _ (@Z0 _ _ _ _ (@Za _ _ _ _ _ XN
   (@Za _ _ _ _ _ XN
   Zc
   (by rfl))
   (by rfl)))
   Zc
   (by rfl))
   (by rfl)))
   (by with_unfolding_all rfl))))))
   (@Zg _ _ _ (@ZE _ _ (1) _ _ _ _ YZ.nd
   rfl
   (by first | exact Or.inl rfl | exact Or.inr rfl)
   (@Y2 _ _ _ _ _ _ _ (Yj (K := K) rfl)
   (@Z0 _ _ _ _ (@Za _ _ _ _ _ Zl
   (@Za _ _ _ _ _ Zl
   Zc
   (by rfl))
   (by rfl)))
   (Xi PySem.F.plainAttrs_list PySem.F.slot_list_index PySem.F.type_list_index mt_index (pv 4) (@Za _ _ _ _ _ XN
   Zc
   (by rfl)))
   (fun _ _ => rfl))
   (by rfl)
   (by first | exact .inl rfl | exact .inr rfl | assumption)))
   Zz))))))
   (@Zg _ _ _ (@Zt _ _ _ _ (pv 1))))), ?_⟩
  refine ⟨_, rfl, v, word, rfl, told, fun hw1 H1 u s1 => ?_, fun hw1 H2 e s2 => ?_, fun hw1 H2 e s2 => ?_⟩
  ·have q := k _ s1
   rw [hw1] at q
   exact ⟨_, rfl, q⟩
  ·refine ⟨e, a.C_NoText, rfl, rfl, exm_of T.sb_TimeError T.ne_NoText_TimeError T.i1_NoText, fun he => ?_⟩
   have s3 : Zn H (upd H2 e (XcO e a.C_NoText)) := s2.trans (Zf he)
   generalize hH3 : upd H2 e (XcO e a.C_NoText) = H3 at s3 ⊢
   have h3 : H3 e = some (XcO e a.C_NoText) := by rw [← hH3, Zd]
   clear hH3
   refine ⟨.ref e, rfl, by rw [sizeLine_eq]; simp, fun tp htp => ⟨e, a.C_NoText, tp, false, rfl, Zf htp _ _ h3, T.k_NoText, Zd, T.i4_NoText, ?_⟩⟩
   have h4 := Zf (o := .tup [.ref a.C_BadMachine, .ref a.C_BadSentence, .ref a.C_NoLine, .ref a.C_NoWorld]) htp _ _ h3
   have s4 := s3.trans (Zf (o := .tup [.ref a.C_BadMachine, .ref a.C_BadSentence, .ref a.C_NoLine, .ref a.C_NoWorld]) htp)
   generalize upd H3 tp (.tup [.ref a.C_BadMachine, .ref a.C_BadSentence, .ref a.C_NoLine, .ref a.C_NoWorld]) = H4 at h4 s4 ⊢
   refine ⟨.ref e, rfl, e, a.C_NoText, _, true, rfl, h4, T.k_NoText, rfl, T.i2_NoText, .ref e, rfl, e, a.C_NoText, _, false, rfl, h4, T.k_NoText, rfl, T.i5_NoText, by rw [sizeLine_eq]; simp, fun L hL => ?_⟩
   have s5 := Zf (o := .lst [.bl true, .bl false]) hL
   have e5 : (upd H4 L (.lst [.bl true, .bl false])) L = some (.lst [.bl true, .bl false]) := Zd
   generalize upd H4 L (.lst [.bl true, .bl false]) = H5 at s5 e5 ⊢
   have h5 := s5 _ _ h4
   refine ⟨.ref e, rfl, e, a.C_NoText, _, true, rfl, h5, T.k_NoText, rfl, T.i3_NoText, true, rfl, Z2 ⟨.bl false, rfl, false, rfl, Z2 ⟨.ref L, rfl, by rw [sizeLine_eq]; simp, fun b1 hb1 => ⟨by rw [sizeLine_eq]; simp, fun b2 hb2 => ⟨by rw [sizeLine_eq]; simp, fun b3 hb3 => ?_⟩⟩⟩⟩⟩
   have s6 := Zf (o := .lst [.bl true, .bl false]) hb1
   have e6 : (upd H5 b1 (.lst [.bl true, .bl false])) b1 = some (.lst [.bl true, .bl false]) := Zd
   generalize upd H5 b1 (.lst [.bl true, .bl false]) = H6 at s6 e6 hb2 hb3 ⊢
   have s7 := Zf (o := .lst [.bl false, .bl true]) hb2
   have e7 : (upd H6 b2 (.lst [.bl false, .bl true])) b2 = some (.lst [.bl false, .bl true]) := Zd
   generalize upd H6 b2 (.lst [.bl false, .bl true]) = H7 at s7 e7 hb3 ⊢
   have s8 := Zf (o := .lst [.ref b1, .ref b2]) hb3
   have e8 : (upd H7 b3 (.lst [.ref b1, .ref b2])) b3 = some (.lst [.ref b1, .ref b2]) := Zd
   generalize upd H7 b3 (.lst [.ref b1, .ref b2]) = H8 at s8 e8 ⊢
   have e58 := (s6.trans (s7.trans s8)) _ _ e5
   refine ⟨[.list [.bool true, .bool false], .list [.bool false, .bool true]], .list [.bool true, .bool false], .lst (SqL.of e8) (.cons (.lst (SqL.of ((s7.trans s8) _ _ e6)) (.cons (.bl _) (.cons (.bl _) .nil))) (.cons (.lst (SqL.of (s8 _ _ e7)) (.cons (.bl _) (.cons (.bl _) .nil))) .nil)), .lst (SqL.of e58) (.cons (.bl _) (.cons (.bl _) .nil)), by decide, by decide, by decide, ?_⟩
   rw [xg]
   refine ⟨_, rfl, Z2 ⟨by rw [sizeLine_eq]; simp, fun c hc => ?_⟩⟩
   have s9 := Zf (o := .lst [.str "text", .str "world"]) hc
   have e9 : (upd H8 c (.lst [.str "text", .str "world"])) c = some (.lst [.str "text", .str "world"]) := Zd
   generalize upd H8 c (.lst [.str "text", .str "world"]) = H9 at s9 e9 ⊢
   refine ⟨.ref L, rfl, .inl ⟨rfl, _, SqL.of (s9 _ _ e58)⟩, L, _, .bl true, 0, rfl, rfl, s9 _ _ e58, rfl, rfl, ⟨.bl true, rfl, rfl⟩, ?_, c, _, _, .str "text", rfl, rfl, SqL.of e9, Yo (j := 0) rfl, ?_⟩
   ·intro m w hm hw'
    omega
   have q := k _ (s4.trans (s5.trans (s6.trans (s7.trans (s8.trans s9)))))
   rw [hw1] at q
   exact ⟨_, rfl, q⟩
  ·refine ⟨e, a.C_BadWorld, rfl, rfl, exm_of T.sb_TimeError T.ne_BadWorld_TimeError T.i1_BadWorld, fun he => ?_⟩
   have s3 : Zn H (upd H2 e (XcO e a.C_BadWorld)) := s2.trans (Zf he)
   generalize hH3 : upd H2 e (XcO e a.C_BadWorld) = H3 at s3 ⊢
   have h3 : H3 e = some (XcO e a.C_BadWorld) := by rw [← hH3, Zd]
   clear hH3
   refine ⟨.ref e, rfl, by rw [sizeLine_eq]; simp, fun tp htp => ⟨e, a.C_BadWorld, tp, false, rfl, Zf htp _ _ h3, T.k_BadWorld, Zd, T.i4_BadWorld, ?_⟩⟩
   have h4 := Zf (o := .tup [.ref a.C_BadMachine, .ref a.C_BadSentence, .ref a.C_NoLine, .ref a.C_NoWorld]) htp _ _ h3
   have s4 := s3.trans (Zf (o := .tup [.ref a.C_BadMachine, .ref a.C_BadSentence, .ref a.C_NoLine, .ref a.C_NoWorld]) htp)
   generalize upd H3 tp (.tup [.ref a.C_BadMachine, .ref a.C_BadSentence, .ref a.C_NoLine, .ref a.C_NoWorld]) = H4 at h4 s4 ⊢
   refine ⟨.ref e, rfl, e, a.C_BadWorld, _, false, rfl, h4, T.k_BadWorld, rfl, T.i5_BadWorld, .ref e, rfl, e, a.C_BadWorld, _, true, rfl, h4, T.k_BadWorld, rfl, T.i2_BadWorld, by rw [sizeLine_eq]; simp, fun L hL => ?_⟩
   have s5 := Zf (o := .lst [.bl false, .bl true]) hL
   have e5 : (upd H4 L (.lst [.bl false, .bl true])) L = some (.lst [.bl false, .bl true]) := Zd
   generalize upd H4 L (.lst [.bl false, .bl true]) = H5 at s5 e5 ⊢
   have h5 := s5 _ _ h4
   refine ⟨.ref e, rfl, e, a.C_BadWorld, _, true, rfl, h5, T.k_BadWorld, rfl, T.i3_BadWorld, true, rfl, Z2 ⟨.bl false, rfl, false, rfl, Z2 ⟨.ref L, rfl, by rw [sizeLine_eq]; simp, fun b1 hb1 => ⟨by rw [sizeLine_eq]; simp, fun b2 hb2 => ⟨by rw [sizeLine_eq]; simp, fun b3 hb3 => ?_⟩⟩⟩⟩⟩
   have s6 := Zf (o := .lst [.bl true, .bl false]) hb1
   have e6 : (upd H5 b1 (.lst [.bl true, .bl false])) b1 = some (.lst [.bl true, .bl false]) := Zd
   generalize upd H5 b1 (.lst [.bl true, .bl false]) = H6 at s6 e6 hb2 hb3 ⊢
   have s7 := Zf (o := .lst [.bl false, .bl true]) hb2
   have e7 : (upd H6 b2 (.lst [.bl false, .bl true])) b2 = some (.lst [.bl false, .bl true]) := Zd
   generalize upd H6 b2 (.lst [.bl false, .bl true]) = H7 at s7 e7 hb3 ⊢
   have s8 := Zf (o := .lst [.ref b1, .ref b2]) hb3
   have e8 : (upd H7 b3 (.lst [.ref b1, .ref b2])) b3 = some (.lst [.ref b1, .ref b2]) := Zd
   generalize upd H7 b3 (.lst [.ref b1, .ref b2]) = H8 at s8 e8 ⊢
   have e58 := (s6.trans (s7.trans s8)) _ _ e5
   refine ⟨[.list [.bool true, .bool false], .list [.bool false, .bool true]], .list [.bool false, .bool true], .lst (SqL.of e8) (.cons (.lst (SqL.of ((s7.trans s8) _ _ e6)) (.cons (.bl _) (.cons (.bl _) .nil))) (.cons (.lst (SqL.of (s8 _ _ e7)) (.cons (.bl _) (.cons (.bl _) .nil))) .nil)), .lst (SqL.of e58) (.cons (.bl _) (.cons (.bl _) .nil)), by decide, by decide, by decide, ?_⟩
   rw [xg]
   refine ⟨_, rfl, Z2 ⟨by rw [sizeLine_eq]; simp, fun c hc => ?_⟩⟩
   have s9 := Zf (o := .lst [.str "text", .str "world"]) hc
   have e9 : (upd H8 c (.lst [.str "text", .str "world"])) c = some (.lst [.str "text", .str "world"]) := Zd
   generalize upd H8 c (.lst [.str "text", .str "world"]) = H9 at s9 e9 ⊢
   refine ⟨.ref L, rfl, .inl ⟨rfl, _, SqL.of (s9 _ _ e58)⟩, L, _, .bl true, 1, rfl, rfl, s9 _ _ e58, rfl, rfl, ⟨.bl true, rfl, rfl⟩, ?_, c, _, _, .str "world", rfl, rfl, SqL.of e9, Yo (j := 1) rfl, ?_⟩
   ·intro m w hm hw'
    have : m = 0 := by omega
    subst this
    cases hw'
    rfl
   have q := k _ (s4.trans (s5.trans (s6.trans (s7.trans (s8.trans s9)))))
   rw [hw1] at q
   exact ⟨_, rfl, q⟩
theorem num_law (z : Str) : Yn z = (decide (1 ≤ z.length) && decide (z.length ≤ 6) && z.cps.toList.all WG && !(decide (1 < z.length) && decide (z.cps.toList[0]? = some 48))) := by
 unfold Yn
 by_cases h1 : 1 ≤ z.length
 ·congr 1
  have z48 : ("0" : Str) = ⟨#[48]⟩ := by decide +kernel
  have hl := XZ z
  rw [Bool.eq_iff_iff]
  simp only [Bool.or_eq_true, decide_eq_true_eq, Bool.not_eq_true', Bool.and_eq_false_iff, decide_eq_false_iff_not]
  constructor
  ·rintro (e | e)
   ·left
    rw [e]
    decide +kernel
   ·exact .inr e
  ·rintro (e | e)
   ·by_cases q : z.cps.toList[0]? = some 48
    ·left
     rw [z48]
     apply W0
     match hc : z.cps.toList, hl with
     | [c], _ => rw [hc] at q; simp at q; rw [q]
     | [], hl => simp at hl; omega
     | _ :: _ :: _, hl => simp at hl; omega
    ·exact .inr q
   ·exact .inr e
 ·simp [h1]
def noUp (ns : List Int) : V → Bool
 | .int k => decide (ns.getD k.toNat 0 ≤ ns.getD (k - 1).toNat 0)
 | _ => false
def WB (ws : List Str) : Prop := (∀ w ∈ ws, Yn w = true) ∧ upI (ws.map YA)
def UL (K : PySem.W.Frag) (a : Adr) : Sp := fun vs H Q _ => ∃ (p : Addr) (ws : List Str), vs = [.ref p] ∧ H p = some (.lst (ws.map V.str)) ∧ ws.length ≤ 100 ∧ (∀ w ∈ ws, w.length ≤ 500 ∧ PyData.strOk w = true) ∧
 (WB ws → ∀ H' l, Zn H H' → H l = none → H' l = some (.lst ((ws.map YA).map V.int)) → Q (.ref l) H') ∧ (¬ WB ws → ∀ H', Zn H H' → Q .non H')
theorem UP {P : Program} {w : World} {K : PySem.W.Frag} {mg : Str → Option Value} {base : Heap} {a : Adr} (T : Txt K mg a) (hw : w.params = a.Pm) : Yr P w K mg base CX0 1 a._law_numbers a._law_numbers_fd ["_law_words"] (UL K a) := by
 refine T.f__law_numbers.ok XV (fun vs H Q E h => ?_) (fun cdv A outer s H vs Q E hr h => ?_)
 ·obtain ⟨p, ws, rfl, _⟩ := h
  rfl
 ·obtain ⟨p, ws, rfl, hp, hl, hsz, kq, kn⟩ := h
  refine ⟨_, (@Ze _ _ _ _ _ (VB PassesOwn.never rfl (ZO (K := K) rfl (pv 0)) (Zu (i := 1) XV.nd rfl (by first | exact Or.inl rfl | exact Or.inr rfl)) (@Ze _ _ _ _ _ (@Z4 _ _ _ _ _ _ _ _ (PW.pt (WJ (@YT _ _ _ _ (WQ Wc Wc Zh (Zk (Zy (K := K) rfl) rfl T.b_len PyProof.Rows.Boot.«len» (@Za _ _ _ _ _ (pv 1)
   Zc
   (by rfl))) Zh)) (Wu (@Zs _ _ _ _ _ _ _ _ (Wa (K := K) rfl (Y0.units hr))
   (Ys (Nc := ["_law_sign"]) (ix := [none]) (ZI.of (by decide +kernel : ZL (Zb ZN) ["_law_words", "_law_word_here", "_law_found"] ["_law_sign"] [none] _ = true)) rfl (z0 (pv 1)) (fun _ _ _ _ _ => (Zu (i := 0) (show List.Nodup (["_law_sign"] : List Str) by decide +kernel) rfl (by first | exact Or.inl rfl | exact Or.inr rfl))) (fun _ _ _ _ _ => (Wx (@Zs _ _ _ _ _ _ _ _ VH
   (pv 0)
   Zl
   (by with_unfolding_all rfl)))) (fun _ _ _ _ _ => (pv 0)))
   (@Z0 _ _ _ _ Zc)
   (Zw _)))))
   (@Zg _ _ _ (@Zt _ _ _ _ qi))
   Zz)
   (@Zg _ _ _ (@Z4 _ _ _ _ _ _ _ _ (PW.pt (qa (@Zs _ _ _ _ _ _ _ _ op_gt
   (Zk (Zy (K := K) rfl) rfl T.b_len PyProof.Rows.Boot.«len» (@Za _ _ _ _ _ (pv 1)
   Zc
   (by rfl)))
   Zh
   (Zw _)) (UT (@Zs _ _ _ _ _ _ _ _ Xl
   (@Y2 _ _ _ _ _ _ _ ix_str
   (pv 1)
   Zh
   (fun _ _ => rfl))
   Zl
   (Zw _)))))
   (@Zg _ _ _ (@Zt _ _ _ _ qi))
   Zz))))
   (@Ze _ _ _ _ _ (@ZE _ _ (2) _ _ _ _ XV.nd
   rfl
   (by first | exact Or.inl rfl | exact Or.inr rfl)
   (Ys (Nc := ["_law_word_here"]) (ix := [none]) (ZI.of (by decide +kernel : ZL (Zb ZN) ["_law_words", "_law_word_here", "_law_found"] ["_law_word_here"] [none] _ = true)) rfl (ZO (K := K) rfl (pv 0)) (fun _ _ _ _ _ => (Zu (i := 0) (show List.Nodup (["_law_word_here"] : List Str) by decide +kernel) rfl (by first | exact Or.inl rfl | exact Or.inr rfl))) (fun _ _ _ _ _ => Yk) (fun _ _ _ _ _ => (ZZ (VM) rfl T.b_int PyProof.Rows.Boot.«int» (@Za _ _ _ _ _ (pv 0)
   Zc
   (by rfl)))))
   (by rfl)
   (by first | exact .inl rfl | exact .inr rfl | assumption))
   (@Ze _ _ _ _ _ (@Z4 _ _ _ _ _ _ _ _ (@Zs _ _ _ _ _ _ _ _ (Wa (K := K) rfl (Y0.units hr))
   (Ys (Nc := ["_law_k", "_law_found"]) (ix := [none, some 2]) (ZI.of (by decide +kernel : ZL (Zb ZN) ["_law_words", "_law_word_here", "_law_found"] ["_law_k", "_law_found"] [none, some 2] _ = true)) rfl (pi_range2 rfl T.b_range (@Za _ _ _ _ _ Zh
   (@Za _ _ _ _ _ (Zk (Zy (K := K) rfl) rfl T.b_len PyProof.Rows.Boot.«len» (@Za _ _ _ _ _ (pv 2)
   Zc
   (by rfl)))
   Zc
   (by rfl))
   (by rfl))) (fun _ _ _ _ _ => (Zu (i := 0) (show List.Nodup (["_law_k", "_law_found"] : List Str) by decide +kernel) rfl (by first | exact Or.inl rfl | exact Or.inr rfl))) (fun _ _ _ _ _ => (Wx (@Zs _ _ _ _ _ _ _ _ op_ge
   (@Y2 _ _ _ _ _ _ _ (Yj (K := K) rfl)
   (pv 1)
   (@Zq _ _ _ _ _ _ _ _ op_sub
   (pv 0)
   Zh)
   (fun _ _ => rfl))
   (@Y2 _ _ _ _ _ _ _ (Yj (K := K) rfl)
   (pv 1)
   (pv 0)
   (fun _ _ => rfl))
   (Zw _)))) (fun _ _ _ _ _ => (pv 0)))
   (@Z0 _ _ _ _ Zc)
   (Zw _))
   (@Zg _ _ _ (@Zt _ _ _ _ qi))
   Zz)
   (@Zg _ _ _ (@Zt _ _ _ _ (pv 2)))))), ?_⟩
  refine ⟨_, rfl, p, rfl, ⟨_, SqL.of hp⟩, ?_⟩
  refine qP (xs := ws.map V.str) (fun i σ H' => Zn H H' ∧ (∃ z1 z2 : Option V, σ = [some (.ref p), z1, z2]) ∧ ∀ w ∈ ws.take i, Yn w = true) ?_ ?_ ?_ ?_
  ·exact ⟨.refl _, ⟨_, _, rfl⟩, fun w hw' => by simp at hw'⟩
  ·rintro i σ H' _ ⟨s1, _, _⟩
   exact SqL.of (s1 _ _ hp)
  ·rintro i x σ H1 hx ⟨s1, ⟨z1, z2, rfl⟩, hall⟩
   rw [List.getElem?_map] at hx
   cases e : ws[i]? with
   | none => rw [e] at hx; cases hx
   | some z =>
   rw [e] at hx; cases hx
   have hm := List.mem_of_getElem? e
   obtain ⟨hz, hok⟩ := hsz z hm
   have hsz := XZ z
   have bad : Yn z = false → ∀ H', Zn H H' → Q .non H' := fun q H' s' => kn (fun n => by rw [n.1 z hm] at q; cases q) H' s'
   have nl := num_law z
   refine ⟨_, rfl, .inr (.inl ⟨z, rfl, by rw [sizeLine_eq]; omega, _, _, rfl, rfl, _, rfl, ?_⟩)⟩
   refine Xj (fun c1 => ?_) (fun c1 => ?_)
   case refine_2 =>
    refine ⟨_, rfl, Z2 (Z2 (bad ?_ _ s1))⟩
    rw [nl, decide_eq_false (fun q => c1 (decide_eq_true (by omega)))]
    rfl
   have c1' := of_decide_eq_true c1
   refine ⟨_, _, rfl, rfl, _, rfl, ?_⟩
   cases c2 : decide ((z.length : Int) ≤ 6) with
   | false =>
    have := of_decide_eq_false c2
    refine Z2 (Z2 (bad ?_ _ s1))
    rw [nl, decide_eq_false (show ¬ z.length ≤ 6 by omega)]
    simp
   | true =>
   have c2' := of_decide_eq_true c2
   have nl2 : Yn z = (z.cps.toList.all WG && !(decide (1 < z.length) && decide (z.cps.toList[0]? = some 48))) := by
    rw [nl, decide_eq_true (show 1 ≤ z.length by omega), decide_eq_true (show z.length ≤ 6 by omega)]
    simp
   refine YJ ⟨_, rfl, z, rfl, fun D hD => ?_⟩
   refine WZ (J := Its z) hD (xs := z.cps.toList.map chV) (by rw [List.length_map, sizeLine_eq]; omega) UD (fun i H' hi _ => by rw [List.length_map, Array.length_toList] at hi; exact hi) (fun H' _ => by rw [List.length_map, Array.length_toList]; exact Nat.le_refl _) (fun i H' x H2 hlt _ hy => ?_) (fun i x H' N hx s' hN => ?_) (fun x H' N hN => ⟨_, rfl, hN⟩) (fun H2 hD' s2 => ?_)
   ·obtain ⟨e, c, hc, rfl⟩ := hy
    refine ⟨e, ?_⟩
    rw [List.getElem?_map, Array.getElem?_toList, hc]
    rfl
   ·obtain ⟨c, hc, rfl⟩ := List.mem_map.mp (List.mem_of_getElem? hx)
    refine ⟨_, rfl, _, _, rfl, rfl, _, rfl, ?_⟩
    have el := PySem.StrLaws.found_one ("0123456789" : Str) c
    have e2 : UD (chV c) = !(!(Builtin.Str.occurrences ("0123456789" : Str) ⟨#[c]⟩ 0 ("0123456789" : Str).length 1).isEmpty) := by
     rw [el, xn]
     simp [UD, chV]
    have q := hN H' (.refl _)
    rw [e2] at q
    exact q
   refine ⟨by decide, fun E1 hE1 => ?_⟩
   have hfl : (z.cps.toList.map chV).filter UD = ((z.cps.toList.filter fun c => UD (chV c)).map fun c => (⟨#[c]⟩ : Str)).map V.str := by
    rw [List.filter_map, List.map_map]
    rfl
   rw [hfl] at hD'
   have s3 := s1.trans (s2.trans (Zf (o := .lst []) hE1))
   refine neS (b := []) (fun s hs => ?_) (fun s hs => by cases hs) (Zf hE1 _ _ hD') Zd ?_
   ·obtain ⟨c, hc, rfl⟩ := List.mem_map.mp hs
    have hm := (List.mem_filter.mp hc).1
    unfold PyData.strOk at hok ⊢
    rw [Array.all_eq_true_iff_forall_mem] at hok
    have := hok c (Array.mem_toList_iff.mp hm)
    simpa using this
   have e3 : decide (((z.cps.toList.filter fun c => UD (chV c)).map fun c => (⟨#[c]⟩ : Str)) = []) = z.cps.toList.all WG := by
    symm
    rw [Bool.eq_iff_iff, decide_eq_true_iff, List.map_eq_nil_iff, List.filter_eq_nil_iff, List.all_eq_true]
    constructor
    ·intro h c hc
     simp [UD, chV, h c hc]
    ·intro h c hc
     simpa [UD, chV] using h c hc
   rw [e3]
   generalize upd H2 E1 (.lst []) = H3 at s3 ⊢
   refine ⟨_, rfl, ?_⟩
   cases c3 : z.cps.toList.all WG with
   | false =>
    refine Z2 (bad ?_ _ s3)
    rw [nl2, c3]
    rfl
   | true =>
   rw [c3, Bool.true_and] at nl2
   refine YJ ⟨_, rfl, .inr (.inl ⟨z, rfl, by rw [sizeLine_eq]; omega, _, _, rfl, rfl, _, rfl, ?_⟩)⟩
   have next : Yn z = true → ∀ w ∈ ws.take (i + 1), Yn w = true := fun q w hw' => by
    rw [List.take_add_one, e] at hw'
    rcases List.mem_append.mp hw' with hw' | hw'
    ·exact hall w hw'
    ·have : w = z := by simpa using hw'
     rw [this]; exact q
   refine Xj (fun c4 => ?_) (fun c4 => ?_)
   case refine_2 =>
    refine YJ ⟨s3, ⟨_, _, rfl⟩, next ?_⟩
    rw [nl2, decide_eq_false (fun q => c4 (decide_eq_true (by omega)))]
    rfl
   have c4' := of_decide_eq_true c4
   have zl : 0 < z.cps.toList.length := by omega
   obtain ⟨c, hc⟩ : ∃ c, z.cps.toList[0]? = some c := ⟨_, List.getElem?_eq_getElem zl⟩
   refine ⟨_, rfl, z, _, c, rfl, rfl, by rw [sizeLine_eq]; omega, Yo (j := 0) hc, rfl, _, rfl, ?_⟩
   have e1 : decide (V.str ⟨#[c]⟩ = V.str "0") = decide (z.cps.toList[0]? = some 48) := by
    rw [hc]
    refine decide_eq_decide.mpr ?_
    have z48 : ("0" : Str) = ⟨#[48]⟩ := by decide +kernel
    rw [z48]
    constructor
    ·intro h
     have := V.str.inj h
     have : c = 48 := by simpa using this
     rw [this]
    ·intro h
     rw [Option.some.inj h]
   rw [decide_eq_true (show 1 < z.length by omega), Bool.true_and] at nl2
   rw [e1]
   cases c5 : decide (z.cps.toList[0]? = some 48) with
   | true =>
    rw [c5] at nl2
    exact Z2 (bad nl2 _ s3)
   | false =>
    rw [c5] at nl2
    exact YJ ⟨s3, ⟨_, _, rfl⟩, next nl2⟩
  rintro σ H1 ⟨s1, ⟨z1, z2, rfl⟩, hall⟩
  rw [List.length_map, List.take_length] at hall
  have at_ : ∀ {i : Nat} {x : V}, (ws.map V.str)[i]? = some x → ∃ w, ws[i]? = some w ∧ x = .str w := fun {i x} hx => by
   rw [List.getElem?_map] at hx
   cases e : ws[i]? with
   | none => rw [e] at hx; cases hx
   | some w => rw [e] at hx; cases hx; exact ⟨w, rfl, rfl⟩
  refine ⟨_, rfl, p, rfl, ⟨_, SqL.of (s1 _ _ hp)⟩, fun E1 hE => ?_⟩
  refine Yp (K := K) hE (SqL.of (s1 _ _ hp)) (by rw [List.length_map, sizeLine_eq]; omega) (fun i v _ => ∀ w, ws[i]? = some w → v = .int (YA w)) (fun _ _ _ _ _ q => q) ?_ ?_
  ·intro i x H3 N hx sm hN
   obtain ⟨w, hw', rfl⟩ := at_ hx
   obtain ⟨n1, n2, n3⟩ := yg (hall w (List.mem_of_getElem? hw'))
   refine ⟨_, rfl, w, YA w, rfl, n1, by omega, hN _ _ (.refl _) fun w2 hw2 => ?_⟩
   rw [hw'] at hw2
   cases hw2
   rfl
  intro H3 zs hE3 s3 zl r3
  rw [List.length_map] at zl
  have ez := Xa (xs := ws) (f := fun w => V.int (YA w)) zl r3
  have hE3' : H3 E1 = some (.lst ((ws.map YA).map V.int)) := by rw [hE3, ez, List.map_map]; rfl
  clear hE3 ez r3 zl
  have hE0 := s1.free hE
  have s13 := s1.trans s3
  obtain ⟨ns, hns⟩ : ∃ ns, ws.map YA = ns := ⟨_, rfl⟩
  have nlen : ns.length ≤ 100 := by rw [← hns, List.length_map]; exact hl
  rw [hns] at hE3'
  refine ⟨_, rfl, .inl ⟨E1, _, rfl, .inl (SqL.of hE3'), 1, _, rfl, ⟨by decide, by decide, by rw [List.length_map]; omega, by rw [List.length_map]; omega⟩, fun D hD => ?_⟩⟩
  have en : (((ns.map V.int).length : Int) - 1).toNat = ns.length - 1 := by rw [List.length_map]; omega
  rw [en]
  refine WZ (J := Itr 1 (ns.length - 1)) hD (xs := (List.range (ns.length - 1)).map fun (k : Nat) => V.int (1 + k)) (by rw [List.length_map, List.length_range, sizeLine_eq]; omega) (noUp ns) (fun i H' hi _ => by rw [List.length_map, List.length_range] at hi; exact hi) (fun H' _ => by rw [List.length_map, List.length_range]; exact Nat.le_refl _) (fun i H' x H2 hlt _ hy => ?_) (fun i x H' N hx s' hN => ?_) (fun x H' N hN => ⟨_, rfl, hN⟩) (fun H4 hD' s4 => ?_)
  ·obtain ⟨e, rfl⟩ := hy
   refine ⟨e, ?_⟩
   rw [List.length_map, List.length_range] at hlt
   rw [List.getElem?_map, List.getElem?_range hlt]
   rfl
  ·rw [List.getElem?_map] at hx
   have hi : i < ns.length - 1 := by
    cases e : (List.range (ns.length - 1))[i]? with
    | none => rw [e] at hx; cases hx
    | some j => have := (List.getElem?_eq_some_iff.mp e).1; rw [List.length_range] at this; exact this
   rw [List.getElem?_range hi] at hx
   cases hx
   have h1 : i + 1 < ns.length := by omega
   have g1 : (ns.map V.int)[i]? = some (V.int ns[i]) := by rw [List.getElem?_map, List.getElem?_eq_getElem (by omega)]; rfl
   have g2 : (ns.map V.int)[i + 1]? = some (V.int ns[i + 1]) := by rw [List.getElem?_map, List.getElem?_eq_getElem h1]; rfl
   have i1 : (1 + (i : Int) - 1) = ((i : Nat) : Int) := by omega
   have i2 : (1 + (i : Int)) = ((i + 1 : Nat) : Int) := by omega
   have a1 : atI (ns.map V.int) (1 + (i : Int) - 1) = some (V.int ns[i]) := by rw [i1]; exact Yo g1
   have a2 : atI (ns.map V.int) (1 + (i : Int)) = some (V.int ns[i + 1]) := by rw [i2]; exact Yo g2
   refine ⟨_, rfl, _, rfl, _, _, rfl, rfl, E1, _, _, _, rfl, rfl, SqL.of (s' _ _ hE3'), a1, _, rfl, _, rfl, E1, _, _, _, rfl, rfl, SqL.of (s' _ _ hE3'), a2, ?_⟩
   refine ⟨_, _, rfl, rfl, _, rfl, ?_⟩
   have q := hN H' (.refl _)
   have e : noUp ns (V.int (1 + (i : Int))) = decide (ns[i + 1] ≤ ns[i]) := by
    show decide (ns.getD (1 + (i : Int)).toNat 0 ≤ ns.getD (1 + (i : Int) - 1).toNat 0) = _
    rw [i1, i2, Int.toNat_natCast, Int.toNat_natCast, W4 (List.getElem?_eq_getElem h1), W4 (List.getElem?_eq_getElem (show i < ns.length by omega))]
   rw [e] at q
   exact q
  have hfl : (((List.range (ns.length - 1)).map fun (k : Nat) => V.int (1 + k)).filter (noUp ns)) = (((List.range (ns.length - 1)).filter fun (k : Nat) => noUp ns (V.int (1 + k))).map fun (k : Nat) => (1 + (k : Int))).map V.int := by
   rw [List.filter_map, List.map_map]
   rfl
  rw [hfl] at hD'
  refine ⟨by decide, fun B hB => ?_⟩
  have s5 := Zf (o := .lst []) hB
  have s15 := s13.trans (s4.trans s5)
  refine neD_nil (s5 _ _ hD') Zd fun c hc => ⟨_, rfl, ?_⟩
  generalize upd H4 B (.lst []) = H5 at s5 s15 ⊢
  have key : (((List.range (ns.length - 1)).filter fun (k : Nat) => noUp ns (V.int (1 + k))).map fun (k : Nat) => (1 + (k : Int))) = [] ↔ upI ns := by
   rw [List.map_eq_nil_iff, List.filter_eq_nil_iff]
   have one : ∀ i, i + 1 < ns.length → noUp ns (V.int (1 + (i : Int))) = decide (ns.getD (i + 1) 0 ≤ ns.getD i 0) := fun i _ => by
    show decide (ns.getD (1 + (i : Int)).toNat 0 ≤ ns.getD (1 + (i : Int) - 1).toNat 0) = _
    rw [show (1 + (i : Int) - 1) = ((i : Nat) : Int) by omega, show (1 + (i : Int)) = ((i + 1 : Nat) : Int) by omega, Int.toNat_natCast, Int.toNat_natCast]
   constructor
   ·intro h
    refine UW (r := fun a b : Int => a < b) (fun a b c h1 h2 => Int.lt_trans h1 h2) fun i x y h1 h2 => ?_
    have hi := (List.getElem?_eq_some_iff.mp h2).1
    have q := h i (List.mem_range.mpr (by omega))
    rw [one i hi, W4 h1, W4 h2] at q
    have : ¬ y ≤ x := fun z => q (decide_eq_true z)
    omega
   ·intro h i hi
    have hi := List.mem_range.mp hi
    have h1 : i + 1 < ns.length := by omega
    rw [one i h1, W4 (List.getElem?_eq_getElem h1), W4 (List.getElem?_eq_getElem (show i < ns.length by omega))]
    have := (List.pairwise_iff_getElem.mp h) i (i + 1) (by omega) h1 (by omega)
    simp
    omega
  cases c with
  | true =>
   refine Z2 (kn (fun n => ?_) _ s15)
   have := n.2
   rw [hns] at this
   exact hc.mp rfl (key.mpr this)
  | false =>
   have nn : WB ws := by
    refine ⟨hall, ?_⟩
    rw [hns]
    refine key.mp (Classical.byContradiction fun q => ?_)
    have := hc.mpr q
    cases this
   exact YJ ⟨_, rfl, kq nn _ E1 s15 hE0 (by rw [hns]; exact (s4.trans s5) _ _ hE3')⟩
def xq (K : PySem.W.Frag) (a : Adr) : Sp := fun vs H Q _ => ∃ t rs, vs = [.str t] ∧ Tame t rs ∧ ∀ H', Zn H H' → Q (.str (XW rs)) H'
theorem xI {P : Program} {w : World} {K : PySem.W.Frag} {mg : Str → Option Value} {base : Heap} {a : Adr} (T : Txt K mg a) (hw : w.params = a.Pm) : Yr P w K mg base CX0 2 a._law_due a._law_due_fd ["_law_text"] (xq K a) := by
 have G__law_is_name := UF (P := P) (w := w) (base := base) T hw
 have G__law_numbers := UP (P := P) (w := w) (base := base) T hw
 refine T.f__law_due.ok YY (fun vs H Q E h => ?_) (fun cdv A outer s H vs Q E hr h => ?_)
 ·obtain ⟨t, rs, rfl, _⟩ := h
  rfl
 ·obtain ⟨t, rs, rfl, tm, k⟩ := h
  refine ⟨_, (@Ze _ _ _ _ _ (Xb (i := 1) YY.nd rfl rfl (Nc := ["_law_line"]) (ix := [none]) (ZI.of (by decide +kernel : ZL (Zb Z3) ["_law_text", "_law_rows", "_law_many", "_law_row", "_law_lists", "_law_fair", "_law_bad"] ["_law_line"] [none] _ = true)) rfl (ZO (K := K) rfl (Xi PySem.F.plainAttrs_str PySem.F.slot_str_split PySem.F.type_str_split Wl (pv 0) (@Za _ _ _ _ _ Zl
   Zc
   (by rfl)))) (fun _ _ _ _ _ => (Zu (i := 0) (show List.Nodup (["_law_line"] : List Str) by decide +kernel) rfl (by first | exact Or.inl rfl | exact Or.inr rfl))) (fun _ _ _ _ _ => Yk) (fun _ _ _ _ _ => (PE.bmK (K := K) rfl (Xi PySem.F.plainAttrs_str PySem.F.slot_str_split PySem.F.type_str_split Wl (pv 0) (@Za _ _ _ _ _ Zl
   Zc
   (by rfl))))))
   (@Ze _ _ _ _ _ (@ZE _ _ (2) _ _ _ _ YY.nd
   rfl
   (by first | exact Or.inl rfl | exact Or.inr rfl)
   Zh
   (by rfl)
   (by first | exact .inl rfl | exact .inr rfl | assumption))
   (qT (qD PassesOwn.never (PW.pt (qa (@Zs _ _ _ _ _ _ _ _ qg
   (pv 2)
   (Zk (Zy (K := K) rfl) rfl T.b_len PyProof.Rows.Boot.«len» (@Za _ _ _ _ _ (pv 1)
   Zc
   (by rfl)))
   (Zw _)) (UT (@Zs _ _ _ _ _ _ _ _ Xl
   (@Y2 _ _ _ _ _ _ _ (Yj (K := K) rfl)
   (@Y2 _ _ _ _ _ _ _ (Yj (K := K) rfl)
   (pv 1)
   (pv 2)
   (fun _ _ => rfl))
   Zh
   (fun _ _ => rfl))
   Zl
   (Zw _))))) (@Zg _ _ _ (@ZE _ _ (2) _ _ _ _ YY.nd
   rfl
   (by first | exact Or.inl rfl | exact Or.inr rfl)
   (@Zq _ _ _ _ _ _ _ _ Xz
   (pv 2)
   Zh)
   (by rfl)
   (by first | exact .inl rfl | exact .inr rfl | assumption))))
     (@Ze _ _ _ _ _ (@Z4 _ _ _ _ _ _ _ _ (@Zs _ _ _ _ _ _ _ _ (Wa (K := K) rfl (Y0.units hr))
   (Ys (Nc := ["_law_row"]) (ix := [none]) (ZI.of (by decide +kernel : ZL (Zb Z3) ["_law_text", "_law_rows", "_law_many", "_law_row", "_law_lists", "_law_fair", "_law_bad"] ["_law_row"] [none] _ = true)) rfl (ZO (K := K) rfl (pv 1)) (fun _ _ _ _ _ => (Zu (i := 0) (show List.Nodup (["_law_row"] : List Str) by decide +kernel) rfl (by first | exact Or.inl rfl | exact Or.inr rfl))) (fun _ _ _ _ _ => Yk) (fun _ _ _ _ _ => (@Y2 _ _ _ _ _ _ _ (Yj (K := K) rfl)
   (pv 0)
   Zh
   (fun _ _ => rfl))))
   (@Zq _ _ _ _ _ _ _ _ YK
   (@Zq _ _ _ _ _ _ _ _ YK
   (@Zq _ _ _ _ _ _ _ _ Uj
   (@Z0 _ _ _ _ (@Za _ _ _ _ _ Zl
   Zc
   (by rfl)))
   (pv 2))
   (@Zq _ _ _ _ _ _ _ _ Uj
   (@Z0 _ _ _ _ (@Za _ _ _ _ _ Zl
   Zc
   (by rfl)))
   (pv 2)))
   (@Z0 _ _ _ _ (@Za _ _ _ _ _ Zl
   (@Za _ _ _ _ _ Zl
   Zc
   (by rfl))
   (by rfl))))
   (Zw _))
   (@Zg _ _ _ (@Zt _ _ _ _ Zl))
   Zz)
   (@Ze _ _ _ _ _ (VB PassesOwn.never rfl (ZO (K := K) rfl (@Zq _ _ _ _ _ _ _ _ YK
   (ZB (ZA (K := K) rfl) (pv 1) ZT (ZC (pv 2)))
   (ZB (ZA (K := K) rfl) (pv 1) (ZC (Vo Wd Zh)) ZT))) (Zu (i := 3) YY.nd rfl (by first | exact Or.inl rfl | exact Or.inr rfl)) (@Zg _ _ _ (@Z4 _ _ _ _ _ _ _ _ (@Zs _ _ _ _ _ _ _ _ (Wa (K := K) rfl (Y0.units hr))
   (Ys (Nc := ["_law_word_here"]) (ix := [none]) (ZI.of (by decide +kernel : ZL (Zb Z3) ["_law_text", "_law_rows", "_law_many", "_law_row", "_law_lists", "_law_fair", "_law_bad"] ["_law_word_here"] [none] _ = true)) rfl (ZO (K := K) rfl (ZB (ZA (K := K) rfl) (pv 3) (ZC Zh) ZT)) (fun _ _ _ _ _ => (Zu (i := 0) (show List.Nodup (["_law_word_here"] : List Str) by decide +kernel) rfl (by first | exact Or.inl rfl | exact Or.inr rfl))) (fun _ _ _ _ _ => (Wx (@YT _ _ _ _ (Xf (Zm G__law_is_name (hr.mono (by decide)) rfl T.g__law_is_name T.f__law_is_name.kp T.n__law_is_name .nil ZG (@Za _ _ _ _ _ (pv 0)
   Zc
   (by rfl))))))) (fun _ _ _ _ _ => (pv 0)))
   (@Z0 _ _ _ _ Zc)
   (Zw _))
   (@Zg _ _ _ (@Zt _ _ _ _ Zl))
   Zz)))
   (@Ze _ _ _ _ _ (@Z4 _ _ _ _ _ _ _ _ (@Zs _ _ _ _ _ _ _ _ (Wa (K := K) rfl (Y0.units hr))
   (Ys (Nc := ["_law_row"]) (ix := [none]) (ZI.of (by decide +kernel : ZL (Zb Z3) ["_law_text", "_law_rows", "_law_many", "_law_row", "_law_lists", "_law_fair", "_law_bad"] ["_law_row"] [none] _ = true)) rfl (ZO (K := K) rfl (ZB (ZA (K := K) rfl) (pv 1) ZT (ZC (pv 2)))) (fun _ _ _ _ _ => (Zu (i := 0) (show List.Nodup (["_law_row"] : List Str) by decide +kernel) rfl (by first | exact Or.inl rfl | exact Or.inr rfl))) (fun _ _ _ _ _ => (Wx (@Zs _ _ _ _ _ _ _ _ (Wa (K := K) rfl (Y0.units hr))
   (ZB (ZA (K := K) rfl) (pv 0) (ZC Zh) ZT)
   (Zk (xQ hw rfl) rfl T.b_sorted PyProof.Rows.Boot.«sorted» (@Za _ _ _ _ _ (ZZ (call_setU (K := K) rfl hw rfl) rfl T.b_set PyProof.Rows.Boot.«set» (@Za _ _ _ _ _ (ZB (ZA (K := K) rfl) (pv 0) (ZC Zh) ZT)
   Zc
   (by rfl)))
   Zc
   (by rfl)))
   (Zw _)))) (fun _ _ _ _ _ => (pv 0)))
   (@Z0 _ _ _ _ Zc)
   (Zw _))
   (@Zg _ _ _ (@Zt _ _ _ _ Zl))
   Zz)
   (@Ze _ _ _ _ _ (Xb (i := 4) YY.nd rfl rfl (Nc := ["_law_row"]) (ix := [none]) (ZI.of (by decide +kernel : ZL (Zb Z3) ["_law_text", "_law_rows", "_law_many", "_law_row", "_law_lists", "_law_fair", "_law_bad"] ["_law_row"] [none] _ = true)) rfl (ZO (K := K) rfl (ZB (ZA (K := K) rfl) (pv 1) (ZC (pv 2)) (ZC (Vo Wd Zh)))) (fun _ _ _ _ _ => (Zu (i := 0) (show List.Nodup (["_law_row"] : List Str) by decide +kernel) rfl (by first | exact Or.inl rfl | exact Or.inr rfl))) (fun _ _ _ _ _ => Yk) (fun _ _ _ _ _ => (Zm G__law_numbers (hr.mono (by decide)) rfl T.g__law_numbers T.f__law_numbers.kp T.n__law_numbers .nil ZG (@Za _ _ _ _ _ (ZB (ZA (K := K) rfl) (pv 0) (ZC Zh) ZT)
   Zc
   (by rfl)))))
   (@Ze _ _ _ _ _ (@Z4 _ _ _ _ _ _ _ _ (@Zs _ _ _ _ _ _ _ _ (op_inL (K := K) rfl (Y0.units hr))
   qi
   (pv 4)
   (by with_unfolding_all rfl))
   (@Zg _ _ _ (@Zt _ _ _ _ Zl))
   Zz)
   (@Ze _ _ _ _ _ (@ZE _ _ (5) _ _ _ _ YY.nd
   rfl
   (by first | exact Or.inl rfl | exact Or.inr rfl)
   (ZB (ZA (K := K) rfl) (@Y2 _ _ _ _ _ _ _ (Yj (K := K) rfl)
   (pv 1)
   (Vo Wd Zh)
   (fun _ _ => rfl)) (ZC Zh) ZT)
   (by rfl)
   (by first | exact .inl rfl | exact .inr rfl | assumption))
   (@Ze _ _ _ _ _ (Xb (i := 6) YY.nd rfl rfl (Nc := ["_law_one", "_law_many"]) (ix := [none, some 2]) (ZI.of (by decide +kernel : ZL (Zb Z3) ["_law_text", "_law_rows", "_law_many", "_law_row", "_law_lists", "_law_fair", "_law_bad"] ["_law_one", "_law_many"] [none, some 2] _ = true)) rfl (ZO (K := K) rfl (pv 4)) (fun _ _ _ _ _ => (Zu (i := 0) (show List.Nodup (["_law_one", "_law_many"] : List Str) by decide +kernel) rfl (by first | exact Or.inl rfl | exact Or.inr rfl))) (fun _ _ _ _ _ => (Wx (PW.pt (WJ (@Zs _ _ _ _ _ _ _ _ (yr (K := K) rfl (Y0.units hr))
   (pv 0)
   (@Z0 _ _ _ _ Zc)
   (Zw _)) (Wu (@Zs _ _ _ _ _ _ _ _ op_ge
   (@Y2 _ _ _ _ _ _ _ (Yj (K := K) rfl)
   (pv 0)
   (Vo Wd Zh)
   (fun _ _ => rfl))
   (pv 1)
   (Zw _))))))) (fun _ _ _ _ _ => (pv 0)))
   (@Ze _ _ _ _ _ (@Z4 _ _ _ _ _ _ _ _ (PW.pt (WJ (@YT _ _ _ _ (WQ Wc Wc Zh (pv 2) Zh)) (WJ (@Zs _ _ _ _ _ _ _ _ (Wa (K := K) rfl (Y0.units hr))
   (pv 6)
   (@Z0 _ _ _ _ Zc)
   (Zw _)) (WJ (@Zs _ _ _ _ _ _ _ _ op_gt
   (Zk (Zy (K := K) rfl) rfl T.b_len PyProof.Rows.Boot.«len» (@Za _ _ _ _ _ (pv 5)
   Zc
   (by rfl)))
   Zh
   (Zw _)) (Wu (@Zs _ _ _ _ _ _ _ _ qg
   (Zk (Zy (K := K) rfl) rfl T.b_len PyProof.Rows.Boot.«len» (@Za _ _ _ _ _ (ZZ (Ud (K := K) rfl rfl) rfl T.b_set PyProof.Rows.Boot.«set» (@Za _ _ _ _ _ (pv 5)
   Zc
   (by rfl)))
   Zc
   (by rfl)))
   (Zk (Zy (K := K) rfl) rfl T.b_len PyProof.Rows.Boot.«len» (@Za _ _ _ _ _ (pv 5)
   Zc
   (by rfl)))
   (Zw _)))))))
   (@Zg _ _ _ (@Zt _ _ _ _ Zl))
   Zz)
   (@Zg _ _ _ (@Zt _ _ _ _ Zl))))))))))))), ?_⟩
  have hne := tm.ne
  have hwide := tm.wide
  have hmany := tm.many
  have rl : (Txt.split t "\n").length = rs.length := by rw [← tm.rows]; unfold WC; rw [List.length_map]
  have rat : ∀ (i : Nat) y, (Txt.split t "\n")[i]? = some y → rs[i]? = some (Txt.split y " ") := fun i y e => by
   rw [← tm.rows]
   unfold WC
   rw [List.getElem?_map, e]
   rfl
  refine ⟨_, rfl, rfl, _, _, rfl, rfl, by decide +kernel, tm.len, fun L hL => ⟨L, rfl, ⟨_, SqL.of Zd⟩, fun D hD => ?_⟩⟩
  obtain ⟨H1, qN, s1, e1⟩ := ZV (o := .lst ((Txt.split t "\n").map V.str)) hL
  rw [qN] at hD ⊢
  refine Yp (K := K) hD (SqL.of e1) (by rw [List.length_map, sizeLine_eq]; omega) (fun i v G => ∀ ws, rs[i]? = some ws → LS G v ws) (fun i v _ _ sm q ss e => LS.mono _ _ _ _ sm (q ss e)) ?_ ?_
  ·intro i x H2 N hx sm hN
   rw [List.getElem?_map] at hx
   cases e : (Txt.split t "\n")[i]? with
   | none => rw [e] at hx; cases hx
   | some y =>
    rw [e] at hx; cases hx
    refine ⟨_, rfl, rfl, y, _, rfl, rfl, by decide +kernel, tm.lines y (List.mem_of_getElem? e), fun l hl => hN _ _ (Zf hl) fun ws hws => ⟨l, rfl, New.mk hl ?_⟩⟩
    rw [rat i y e] at hws
    cases hws
    rw [Zd]
  intro H2 vs hD2 s2 vl r2
  rw [List.length_map, rl] at vl
  have sH2 := s1.trans s2
  have hLn : ∀ (i : Nat) v ws, vs[i]? = some v → rs[i]? = some ws → LS H2 v ws := fun i v ws h1 h2 => LS.mono _ _ _ _ New.sub (r2 i v h1 ws h2)
  clear r2 e1 s1 hD s2
  refine ⟨fun σ' H' => H' = H2 ∧ ∃ m : Nat, σ' = [some (.str t), some (.ref D), some (.int (m : Nat)), none, none, none, none] ∧ m ≤ rs.length ∧ (∀ (i : Nat) ws, i < m → rs[i]? = some ws → ws.getD 0 Str.empty = "room") ∧ ∀ ws, rs[m]? = some ws → ws.getD 0 Str.empty ≠ "room", ?_, ?_⟩
  ·refine ⟨fun n σ H' => ∃ j : Nat, σ = [some (.str t), some (.ref D), some (.int (j : Nat)), none, none, none, none] ∧ H' = H2 ∧ j ≤ rs.length ∧ n = rs.length - j ∧ ∀ (i : Nat) ws, i < j → rs[i]? = some ws → ws.getD 0 Str.empty = "room", ⟨rs.length, 0, rfl, rfl, Nat.zero_le _, rfl, fun i ws hi => absurd hi (Nat.not_lt_zero _)⟩, ?_⟩
   rintro n σ H' ⟨m, rfl, rfl, hm, rfl, hA⟩
   refine ⟨_, rfl, _, rfl, .inl ⟨D, _, rfl, .inl (SqL.of hD2), _, _, rfl, rfl, _, rfl, Xj (fun c1 => ?_) (fun c1 => YJ ?_)⟩⟩
   ·have c1' : m < rs.length := by have := of_decide_eq_true c1; omega
    have hr : rs[m]? = some rs[m] := List.getElem?_eq_getElem c1'
    obtain ⟨c, ec, gc⟩ := hLn m _ _ (List.getElem?_eq_getElem (by omega)) hr
    obtain ⟨w0, wr, ew⟩ := X6 (hne _ (List.getElem_mem c1'))
    rw [ew] at gc
    have at1 : atI vs ((m : Nat) : Int) = some (.ref c) := Yo (by rw [List.getElem?_eq_getElem (by omega), ec])
    have hw0 : (rs[m]).getD 0 Str.empty = w0 := by rw [ew]; rfl
    refine ⟨_, rfl, _, rfl, D, _, _, _, rfl, rfl, SqL.of hD2, at1, c, _, _, _, rfl, rfl, SqL.of gc, Yo (j := 0) rfl, rfl, _, rfl, Xj (fun c2 => ?_) (fun c2 => ?_)⟩
    ·have e0 : w0 = "room" := V.str.inj (of_decide_eq_true c2)
     refine ⟨fun σ' H'' => H'' = H' ∧ σ' = [some (.str t), some (.ref D), some (.int ((m + 1 : Nat) : Int)), none, none, none, none], ?_, ?_⟩
     ·rintro σ' H'' ⟨rfl, rfl⟩
      refine ⟨rs.length - (m + 1), by omega, m + 1, rfl, rfl, c1', rfl, fun i ws hi e => ?_⟩
      by_cases q : i < m
      ·exact hA i ws q e
      ·have : i = m := by omega
       subst this
       rw [hr] at e
       cases e
       rw [hw0, e0]
     ·exact ⟨_, rfl, _, _, rfl, rfl, rfl, rfl⟩
    ·refine ⟨rfl, m, rfl, hm, hA, fun ws e q => c2 (decide_eq_true ?_)⟩
     rw [hr] at e
     cases e
     rw [hw0] at q
     rw [q]
   ·refine ⟨rfl, m, rfl, hm, hA, fun ws e => ?_⟩
    have := (List.getElem?_eq_some_iff.mp e).1
    exact absurd (decide_eq_true (by omega)) c1
  rintro σ H' ⟨rfl, m, rfl, hm, hA, hB⟩
  have kT : (∀ m', ¬ YD rs m') → ∀ H'', Zn H H'' → Q (.str "text") H'' := fun n H'' s => by
   have q := k H'' s
   rwa [Ug n] at q
  refine ⟨_, rfl, D, rfl, ⟨_, SqL.of hD2⟩, fun E0 hE => ?_⟩
  refine Yp (K := K) hE (SqL.of hD2) (by rw [sizeLine_eq]; omega) (fun i v _ => ∀ ws, rs[i]? = some ws → v = .str (ws.getD 0 Str.empty)) (fun _ _ _ _ _ q => q) ?_ ?_
  ·intro i x H3 N hx sm hN
   have hi : i < rs.length := by rw [← vl]; exact (List.getElem?_eq_some_iff.mp hx).1
   obtain ⟨c, rfl, ec⟩ := hLn i x _ hx (List.getElem?_eq_getElem hi)
   obtain ⟨w0, wr, ew⟩ := X6 (hne _ (List.getElem_mem hi))
   rw [ew] at ec
   refine ⟨_, rfl, c, _, _, _, rfl, rfl, SqL.of (sm _ _ ec), Yo (j := 0) rfl, hN _ _ (.refl _) fun ws hws => ?_⟩
   rw [List.getElem?_eq_getElem hi, ew] at hws
   cases hws
   rfl
  intro H3 hs hE3 s3 hsl r3
  have ehs := Xa (xs := rs) (f := fun ws => V.str (ws.getD 0 Str.empty)) (by rw [hsl, vl]) r3
  subst ehs
  refine ⟨by simp [sizeLine_eq], fun a1 ha1 => ?_⟩
  obtain ⟨H4, qN, t1, u1⟩ := ZV (o := .lst [.str "room"]) ha1
  rw [qN]
  refine ⟨_, rfl, a1, _, _, rfl, rfl, u1, by omega, by omega, by simp [sizeLine_eq]; omega, fun a2 ha2 => ?_⟩
  rw [Int.toNat_natCast, W9]
  obtain ⟨H5, qN, t2, u2⟩ := ZV (o := .lst (List.replicate m (V.str "room"))) ha2
  rw [qN]
  refine ⟨by simp [sizeLine_eq], fun a3 ha3 => ?_⟩
  obtain ⟨H6, qN, t3, u3⟩ := ZV (o := .lst [.str "ways"]) ha3
  rw [qN]
  refine ⟨_, rfl, a3, _, _, rfl, rfl, u3, by omega, by omega, by simp [sizeLine_eq]; omega, fun a4 ha4 => ?_⟩
  rw [Int.toNat_natCast, W9]
  obtain ⟨H7, qN, t4, u4⟩ := ZV (o := .lst (List.replicate m (V.str "ways"))) ha4
  rw [qN]
  refine ⟨a2, a4, _, _, rfl, rfl, (t3.trans t4) _ _ u2, u4, by simp [sizeLine_eq]; omega, fun a5 ha5 => ?_⟩
  obtain ⟨H8, qN, t5, u5⟩ := ZV (o := .lst (List.replicate m (V.str "room") ++ List.replicate m (V.str "ways"))) ha5
  rw [qN]
  refine ⟨by simp [sizeLine_eq], fun a6 ha6 => ?_⟩
  obtain ⟨H9, qN, t6, u6⟩ := ZV (o := .lst [.str "starts", .str "fair"]) ha6
  rw [qN]
  refine ⟨a5, a6, _, _, rfl, rfl, t6 _ _ u5, u6, by simp [sizeLine_eq]; omega, fun a7 ha7 => ?_⟩
  have t7 := Zf (o := .lst (List.replicate m (V.str "room") ++ List.replicate m (V.str "ways") ++ [.str "starts", .str "fair"])) ha7
  have u7 : (upd H9 a7 (.lst (List.replicate m (V.str "room") ++ List.replicate m (V.str "ways") ++ [.str "starts", .str "fair"]))) a7 = some (.lst ((YV m).map V.str)) := by
   rw [Zd]
   simp [YV]
  generalize upd H9 a7 (.lst (List.replicate m (V.str "room") ++ List.replicate m (V.str "ways") ++ [.str "starts", .str "fair"])) = H10 at t7 u7 ⊢
  have s310 : Zn H3 H10 := (t1.trans (t2.trans (t3.trans t4))).trans (t5.trans (t6.trans t7))
  have s210 := s3.trans s310
  have sH : Zn H H10 := sH2.trans s210
  have hE10 : H10 E0 = some (.lst ((rs.map fun ws => ws.getD 0 Str.empty).map V.str)) := by
   rw [s310 _ _ hE3, List.map_map]
   rfl
  refine neS (fun x hx => ?_) (Ux m) hE10 u7 ⟨_, rfl, ?_⟩
  ·obtain ⟨ws, hws, rfl⟩ := List.mem_map.mp hx
   obtain ⟨w0, wr, ew⟩ := X6 (hne _ hws)
   have := tm.sok ws hws w0 (by rw [ew]; exact List.mem_cons_self)
   rw [ew]
   exact this
  cases ch : decide (rs.map (fun ws => ws.getD 0 Str.empty) = YV m) with
  | false => exact Z2 (kT (fun m' w => of_decide_eq_false ch (by have := many_is w.heads hA hm hB; rw [this]; exact w.heads)) _ sH)
  | true =>
  have hheads := of_decide_eq_true ch
  have hl := UV hheads
  have kN : ¬ YD rs m → ∀ H'', Zn H H'' → Q (.str "text") H'' := fun n H'' s => kT (fun m' w => n (by have := many_is w.heads hA hm hB; rw [this]; exact w)) H'' s
  refine YJ ?_
  have D10 := s210 _ _ hD2
  have L10 : ∀ (i : Nat) v ws, vs[i]? = some v → rs[i]? = some ws → LS H10 v ws := fun i v ws h1 h2 => LS.mono _ _ _ _ s210 (hLn i v ws h1 h2)
  clear t1 t2 t3 t4 t5 t6 t7 u1 u2 u3 u4 u5 u6 u7 r3 hsl hE3 s3 hE hE10 hLn s310 s210 ch kT hA hB
  have vsl : vs.length = 2 * m + 2 := by omega
  have wsz : ∀ (i : Nat) ws, rs[i]? = some ws → ∃ h wr, ws = h :: wr ∧ wr.length ≤ 30 ∧ (∀ w ∈ wr, w.length ≤ 500 ∧ PyData.strOk w = true) ∧ ws.drop 1 = wr := fun i ws e => by
   have hm' := List.mem_of_getElem? e
   obtain ⟨w0, wr, ew⟩ := X6 (hne _ hm')
   refine ⟨w0, wr, ew, ?_, fun w hw' => ⟨tm.word ws hm' w (by rw [ew]; exact List.mem_cons_of_mem _ hw'), tm.sok ws hm' w (by rw [ew]; exact List.mem_cons_of_mem _ hw')⟩, by rw [ew]; rfl⟩
   have := hwide ws hm'
   rw [ew, List.length_cons] at this
   omega
  refine ⟨_, rfl, _, rfl, m, rfl, D, vs, rfl, SqL.of D10, fun c1 hc1 => ?_⟩
  rw [Xx _ _ (by omega)]
  obtain ⟨H11, qN, t1, u1⟩ := ZV (o := .lst (vs.take m)) hc1
  rw [qN]
  refine ⟨_, rfl, 1, rfl, -1, rfl, D, vs, rfl, SqL.of (t1 _ _ D10), fun c2 hc2 => ?_⟩
  rw [cutV_last _ (by omega)]
  obtain ⟨H12, qN, t2, u2⟩ := ZV (o := .lst (vs.drop (vs.length - 1))) hc2
  rw [qN]
  refine ⟨c1, c2, _, _, rfl, rfl, t2 _ _ u1, u2, by simp [sizeLine_eq]; omega, fun c3 hc3 => ?_⟩
  obtain ⟨H13, qN, t3, u3⟩ := ZV (o := .lst (vs.take m ++ vs.drop (vs.length - 1))) hc3
  rw [qN]
  have t13 := t1.trans (t2.trans t3)
  have xlen : (vs.take m ++ vs.drop (vs.length - 1)).length = m + 1 := by simp; omega
  have xat : ∀ (i : Nat) x, (vs.take m ++ vs.drop (vs.length - 1))[i]? = some x → ∃ (j : Nat) (ws : List Str), vs[j]? = some x ∧ rs[j]? = some ws ∧ (i < m ∧ j = i ∨ i = m ∧ j = 2 * m + 1) := fun i x hx => by
   by_cases hi : i < m
   ·rw [List.getElem?_append_left (by rw [List.length_take]; omega), List.getElem?_take_of_lt hi] at hx
    exact ⟨i, rs[i], hx, List.getElem?_eq_getElem (by omega), .inl ⟨hi, rfl⟩⟩
   ·have him : i = m := by have := (List.getElem?_eq_some_iff.mp hx).1; rw [xlen] at this; omega
    rw [List.getElem?_append_right (by rw [List.length_take]; omega), List.length_take, List.getElem?_drop] at hx
    have e : vs.length - 1 + (i - min m vs.length) = 2 * m + 1 := by omega
    rw [e] at hx
    exact ⟨2 * m + 1, rs[2 * m + 1], hx, List.getElem?_eq_getElem (by omega), .inr ⟨him, rfl⟩⟩
  refine ⟨c3, rfl, ⟨_, SqL.of u3⟩, ?_⟩
  refine qP (xs := vs.take m ++ vs.drop (vs.length - 1)) (fun i σ H' => Zn H13 H' ∧ (∃ z : Option V, σ = [some (.str t), some (.ref D), some (.int (m : Nat)), z, none, none, none]) ∧ ∀ (j : Nat) ws, (j < i ∧ j < m ∨ i = m + 1 ∧ j = 2 * m + 1) → rs[j]? = some ws → ∀ w ∈ ws.drop 1, Zr w = true) ?_ ?_ ?_ ?_
  ·exact ⟨.refl _, ⟨_, rfl⟩, fun j ws hj => by omega⟩
  ·rintro i σ H' _ ⟨s1, _, _⟩
   exact SqL.of (s1 _ _ u3)
  ·rintro i x σ H14 hx ⟨s1, ⟨z, rfl⟩, hall⟩
   obtain ⟨j, ws, hvj, hrj, hij⟩ := xat i x hx
   obtain ⟨c, rfl, ec⟩ := L10 j x ws hvj hrj
   obtain ⟨h0, wr, ew, z1, z2, z3⟩ := wsz j ws hrj
   rw [ew] at ec
   have s013 := t13.trans s1
   refine ⟨_, rfl, 1, rfl, c, _, rfl, SqL.of (s013 _ _ ec), fun l hl0 => ?_⟩
   rw [XA]
   have v1 := Zf (o := .lst (((h0 :: wr).map V.str).drop 1)) hl0
   have w1 : (upd H14 l (.lst (((h0 :: wr).map V.str).drop 1))) l = some (.lst (wr.map V.str)) := Zd
   generalize upd H14 l (.lst (((h0 :: wr).map V.str).drop 1)) = H15 at v1 w1 ⊢
   refine ⟨l, rfl, ⟨_, SqL.of w1⟩, fun D2 hD3 => ?_⟩
   refine WZ (J := Itl K l) hD3 (xs := wr.map V.str) (by rw [List.length_map, sizeLine_eq]; omega) (fun v => !Y1 v) (fun i H' hi s' => ⟨_, (wr.map V.str)[i], SqL.of (s' _ _ w1), List.getElem?_eq_getElem hi⟩) (fun H' s' => ⟨_, SqL.of (s' _ _ w1), Nat.le_refl _⟩) (fun i H' x H2 hlt s' hy => ⟨hy.1, hy.2 _ (SqL.of (s' _ _ w1))⟩) (fun i x H' N hx s' hN => ?_) (fun x H' N hN => ⟨_, rfl, hN⟩) (fun H16 hD' s' => ?_)
   ·obtain ⟨w, hw', rfl⟩ := List.mem_map.mp (List.mem_of_getElem? hx)
    obtain ⟨l1, l2⟩ := z2 w hw'
    exact ⟨_, rfl, w, rfl, by omega, l2, fun H2 s2 => ⟨_, rfl, hN H2 s2⟩⟩
   refine ⟨by decide, fun B hB => ?_⟩
   have v2 := Zf (o := .lst []) hB
   have w2 : (upd H16 B (.lst [])) B = some (.lst []) := Zd
   have hfl : (wr.map V.str).filter (fun v => !Y1 v) = (wr.filter fun w => !Zr w).map V.str := by
    rw [List.filter_map]
    rfl
   rw [hfl] at hD'
   have w3 := v2 _ _ hD'
   generalize upd H16 B (.lst []) = H17 at v2 w2 w3 ⊢
   refine neS (b := []) (fun x hx => (z2 x (List.mem_filter.mp hx).1).2) (fun x hx => by cases hx) w3 w2 ⟨_, rfl, ?_⟩
   have sall : Zn H14 H17 := v1.trans (s'.trans v2)
   cases cb : decide ((wr.filter fun w => !Zr w) = []) with
   | false =>
    refine Z2 (kN (fun w => of_decide_eq_false cb ?_) _ (sH.trans (s013.trans sall)))
    rw [List.filter_eq_nil_iff]
    intro y hy'
    have : Zr y = true := by
     rcases hij with ⟨q1, q2⟩ | ⟨q1, q2⟩
     ·rw [q2] at hrj
      exact w.names _ ws q1 hrj y (by rw [z3]; exact hy')
     ·rw [q2] at hrj
      exact w.fair ws hrj y (by rw [z3]; exact hy')
    simp [this]
   | true =>
    have hn := of_decide_eq_true cb
    rw [List.filter_eq_nil_iff] at hn
    refine YJ ⟨s1.trans sall, ⟨_, rfl⟩, fun j' ws' hj' hr' => ?_⟩
    have here : ∀ w ∈ ws.drop 1, Zr w = true := fun w hw' => by
     rw [z3] at hw'
     have := hn w hw'
     simpa using this
    by_cases q : j' = j
    ·subst q
     rw [hrj] at hr'
     cases hr'
     exact here
    ·exact hall j' ws' (by omega) hr'
  rintro σ H14 ⟨s1, ⟨z, rfl⟩, hall⟩
  rw [xlen] at hall
  have s14 := t13.trans s1
  have hnames : ∀ (i : Nat) ws, i < m → rs[i]? = some ws → ∀ w ∈ ws.drop 1, Zr w = true := fun i ws hi e => hall i ws (.inl ⟨by omega, hi⟩) e
  have hfairn : ∀ ws, rs[2 * m + 1]? = some ws → ∀ w ∈ ws.drop 1, Zr w = true := fun ws e => hall _ ws (.inr ⟨rfl, rfl⟩) e
  have D14 := s14 _ _ D10
  clear hall t1 t2 t3 t13 u1 u2 u3 hc1 hc2 hc3 s1 xat xlen
  refine ⟨_, rfl, _, rfl, m, rfl, D, vs, rfl, SqL.of D14, fun c1 hc1 => ?_⟩
  rw [Xx _ _ (by omega)]
  obtain ⟨H15, qN, t1, u1⟩ := ZV (o := .lst (vs.take m)) hc1
  rw [qN]
  refine ⟨c1, rfl, ⟨_, SqL.of u1⟩, fun F hF => ?_⟩
  refine XE (J := Itl K c1) (n := m) (fun i σ H' => ∃ (z : Option V) (ys : List V), σ = [z] ∧ Zn H15 H' ∧ H' F = some (.lst ys) ∧ ys.length ≤ i ∧ (∀ y ∈ ys, y ∈ vs) ∧ (ys = [] ↔ ∀ (j : Nat) ws, j < i → rs[j]? = some ws → upS (ws.drop 1))) ?_ ?_ ?_ ?_ ?_
  ·exact ⟨_, [], rfl, Zf hF, Zd, Nat.le_refl _, fun y hy => (by cases hy), by simp⟩
  ·rintro i σ H' hi ⟨z, ys, rfl, sm, _⟩
   exact ⟨_, (vs.take m)[i]'(by rw [List.length_take]; omega), SqL.of (sm _ _ u1), List.getElem?_eq_getElem _⟩
  ·rintro σ H' ⟨z, ys, rfl, sm, _⟩
   exact ⟨_, SqL.of (sm _ _ u1), by rw [List.length_take]; omega⟩
  ·rintro i x σ H' H2 hi ⟨z, ys, rfl, sm, hF', yl, ym, yi⟩ ⟨rfl, hx⟩ N N0 hN hN0
   have hx := hx _ (SqL.of (sm _ _ u1))
   rw [List.getElem?_take_of_lt hi] at hx
   have hri : rs[i]? = some rs[i] := List.getElem?_eq_getElem (by omega)
   obtain ⟨c, rfl, ec⟩ := L10 i x _ hx hri
   obtain ⟨h0, wr, ew, z1, z2, z3⟩ := wsz i _ hri
   rw [ew] at ec
   have hnm := hnames i _ hi hri
   rw [z3] at hnm
   have e2 := (s14.trans (t1.trans sm)) _ _ ec
   refine ⟨_, rfl, 1, rfl, c, _, rfl, SqL.of e2, fun l1 hl1 => ?_⟩
   rw [XA]
   have v1 := Zf (o := .lst (((h0 :: wr).map V.str).drop 1)) hl1
   have w1 : (upd H2 l1 (.lst (((h0 :: wr).map V.str).drop 1))) l1 = some (.lst (wr.map V.str)) := Zd
   generalize upd H2 l1 (.lst (((h0 :: wr).map V.str).drop 1)) = H3 at v1 w1 ⊢
   refine ⟨_, rfl, 1, rfl, c, _, rfl, SqL.of (v1 _ _ e2), fun l2 hl2 => ?_⟩
   rw [XA]
   have v2 := Zf (o := .lst (((h0 :: wr).map V.str).drop 1)) hl2
   have w2 : (upd H3 l2 (.lst (((h0 :: wr).map V.str).drop 1))) l2 = some (.lst (wr.map V.str)) := Zd
   generalize upd H3 l2 (.lst (((h0 :: wr).map V.str).drop 1)) = H4 at v2 w2 ⊢
   refine ⟨l2, wr, rfl, SqL.of w2, by omega, fun l3 hl3 => ?_⟩
   obtain ⟨H5, qN, v3, w3⟩ := ZV (o := SuO a.Pm l3 wr) hl3
   rw [qN]
   refine ⟨l3, wr, rfl, w3, by omega, fun l4 us hl4 hso => ?_⟩
   obtain ⟨H6, qN, v4, w4⟩ := ZV (o := .lst (us.map V.str)) hl4
   rw [qN]
   have v14 := v1.trans (v2.trans (v3.trans v4))
   refine neS (fun y hy => (z2 y hy).2) (fun y hy => (z2 y ((hso.mem y).mp hy)).2) ((v2.trans (v3.trans v4)) _ _ w1) w4 ⟨_, rfl, ?_⟩
   have up1 : (∀ (j : Nat) ws, j < i + 1 → rs[j]? = some ws → upS (ws.drop 1)) ↔ (∀ (j : Nat) ws, j < i → rs[j]? = some ws → upS (ws.drop 1)) ∧ upS wr := by
    constructor
    ·intro q
     exact ⟨fun j ws hj => q j ws (by omega), by have := q i _ (by omega) hri; rwa [z3] at this⟩
    ·rintro ⟨q1, q2⟩ j ws hj e
     by_cases q : j = i
     ·subst q
      rw [hri] at e
      cases e
      rw [z3]; exact q2
     ·exact q1 j ws (by omega) e
   cases cq : decide (wr = us) with
   | true =>
    have hu := (qL hso).mp (of_decide_eq_true cq)
    refine YJ (hN0 _ _ ⟨_, ys, rfl, sm.trans v14, v14 _ _ hF', by omega, ym, ?_⟩)
    rw [up1]
    exact ⟨fun q => ⟨yi.mp q, hu⟩, fun q => yi.mpr q.1⟩
   | false =>
    have hu : ¬ upS wr := fun q => of_decide_eq_false cq ((qL hso).mpr q)
    refine Z2 ⟨_, rfl, hN _ _ _ ys (v14 _ _ hF') (by rw [sizeLine_eq]; omega) ⟨_, ys ++ [.ref c], rfl, (ZF.upd (Zn.x (sm.trans v14))).same hF, Zd, by simp; omega, fun y hy => ?_, ?_⟩⟩
    ·rcases List.mem_append.mp hy with hy | hy
     ·exact ym y hy
     ·rw [List.mem_singleton.mp hy]; exact List.mem_of_getElem? hx
    ·rw [up1]
     exact ⟨fun q => by simp at q, fun q => absurd q.2 hu⟩
  rintro σ H16 ⟨z, ys, rfl, s16, hF', yl, ym, yi⟩
  refine ⟨by decide, fun B hB => ?_⟩
  have v2 := Zf (o := .lst []) hB
  have w2 : (upd H16 B (.lst [])) B = some (.lst []) := Zd
  have w3 := v2 _ _ hF'
  generalize upd H16 B (.lst []) = H17 at v2 w2 w3 ⊢
  have s17 := s14.trans (t1.trans (s16.trans v2))
  refine neL_nil w3 w2 (fun y hy => ?_) ⟨_, rfl, ?_⟩
  ·obtain ⟨j, hj, e⟩ := List.getElem_of_mem (ym y hy)
   have hrj : rs[j]? = some rs[j] := List.getElem?_eq_getElem (by omega)
   have := L10 j y _ (by rw [List.getElem?_eq_getElem hj, e]) hrj
   refine ⟨dS rs[j], LS.dp (LS.mono _ _ _ _ s17 this), VV.up (n := 1) (zU fun x hx => ⟨by simp [PyData.canLay0, tm.sok _ (List.getElem_mem _) x hx], by simp [PyData.depth]⟩) (by decide)⟩
  cases cy : decide (ys = []) with
  | false => exact Z2 (kN (fun w => of_decide_eq_false cy (yi.mpr fun j ws hj e => w.up j ws hj e)) _ (sH.trans s17))
  | true =>
  have hup := yi.mp (of_decide_eq_true cy)
  refine YJ ?_
  have D17 := s17 _ _ D10
  clear s16 hF' yl ym yi v2 w2 w3 cy t1 u1 hF hc1 hB D14 s14
  refine ⟨_, rfl, _, rfl, m, rfl, 1, rfl, -1, rfl, D, vs, rfl, SqL.of D17, fun c1 hc1 => ?_⟩
  rw [cutV_mid1 _ _ vsl]
  obtain ⟨H18, qN, t1, u1⟩ := ZV (o := .lst ((vs.drop m).take (m + 1))) hc1
  rw [qN]
  have s18 := s17.trans t1
  refine ⟨c1, rfl, ⟨_, SqL.of u1⟩, fun G0 hG => ?_⟩
  refine Yp (K := K) hG (SqL.of u1) (by rw [List.length_take, sizeLine_eq]; omega) (fun i v G => ∀ ws, rs[m + i]? = some ws → (WB (ws.drop 1) ∧ LI G v ((ws.drop 1).map YA)) ∨ (¬ WB (ws.drop 1) ∧ v = .non)) (fun i v _ _ sm q ss e => (q ss e).imp (fun z => ⟨z.1, LI.mono _ _ _ _ sm z.2⟩) id) ?_ ?_
  ·intro i x H19 N hx sm hN
   have hi : i < m + 1 := by have := (List.getElem?_eq_some_iff.mp hx).1; rw [List.length_take] at this; omega
   rw [List.getElem?_take_of_lt hi, List.getElem?_drop] at hx
   have hri : rs[m + i]? = some rs[m + i] := List.getElem?_eq_getElem (by omega)
   obtain ⟨c, rfl, ec⟩ := L10 _ x _ hx hri
   obtain ⟨h0, wr, ew, z1, z2, z3⟩ := wsz _ _ hri
   rw [ew] at ec
   refine ⟨_, rfl, 1, rfl, c, _, rfl, SqL.of ((s18.trans sm) _ _ ec), fun l hl0 => ?_⟩
   rw [XA]
   have v1 := Zf (o := .lst (((h0 :: wr).map V.str).drop 1)) hl0
   have w1 : (upd H19 l (.lst (((h0 :: wr).map V.str).drop 1))) l = some (.lst (wr.map V.str)) := Zd
   generalize upd H19 l (.lst (((h0 :: wr).map V.str).drop 1)) = H20 at v1 w1 ⊢
   refine ⟨l, wr, rfl, w1, by omega, z2, fun hn H21 l2 s21 l20 el2 => hN _ _ (v1.trans s21) fun ws hws => ?_, fun hn H21 s21 => hN _ _ (v1.trans s21) fun ws hws => ?_⟩
   ·rw [hri] at hws
    cases hws
    rw [z3]
    exact .inl ⟨hn, l2, rfl, New.mk (v1.free l20) el2⟩
   ·rw [hri] at hws
    cases hws
    rw [z3]
    exact .inr ⟨hn, rfl⟩
  intro H19 lv hG19 s19 lvl r19
  rw [List.length_take, List.length_drop] at lvl
  have lvl' : lv.length = m + 1 := by omega
  have s19' := s18.trans s19
  have lvt : ∀ (i : Nat) v ws, lv[i]? = some v → rs[m + i]? = some ws → (WB (ws.drop 1) ∧ LI H19 v ((ws.drop 1).map YA)) ∨ (¬ WB (ws.drop 1) ∧ v = .non) := fun i v ws h1 h2 => (r19 i v h1 ws h2).imp (fun z => ⟨z.1, LI.mono _ _ _ _ New.sub z.2⟩) id
  clear r19 lvl
  have lvr : ∀ v ∈ lv, ∃ (i : Nat) (ws : List Str), lv[i]? = some v ∧ rs[m + i]? = some ws := fun v hv => by
   obtain ⟨i, hi, e⟩ := List.getElem_of_mem hv
   exact ⟨i, rs[m + i]'(by omega), by rw [List.getElem?_eq_getElem hi, e], List.getElem?_eq_getElem (by omega)⟩
  obtain ⟨ds, g1, g2, g3⟩ := none_in (K := K) (H := H19) lv fun v hv => by
   obtain ⟨i, ws, q1, q2⟩ := lvr v hv
   rcases lvt i v ws q1 q2 with ⟨_, q⟩ | ⟨_, q⟩
   ·exact .inr ⟨_, q⟩
   ·exact .inl q
  refine ⟨_, rfl, ds, .none, .lst (SqL.of hG19) g1, .non, g2, by decide, by decide, ⟨_, rfl, ?_⟩⟩
  rw [g3]
  cases cn : decide (V.non ∈ lv) with
  | true =>
   refine Z2 (kN (fun w => ?_) _ (sH.trans s19'))
   obtain ⟨i, ws, q1, q2⟩ := lvr _ (of_decide_eq_true cn)
   have hi : i < m + 1 := by have := (List.getElem?_eq_some_iff.mp q1).1; omega
   rcases lvt i _ ws q1 q2 with ⟨_, c, q, _⟩ | ⟨q, _⟩
   ·cases q
   ·exact q ⟨w.nums _ ws (by omega) (by omega) q2, w.upn _ ws (by omega) (by omega) q2⟩
  | false =>
  have hno := of_decide_eq_false cn
  have lvn : ∀ (i : Nat) v ws, lv[i]? = some v → rs[m + i]? = some ws → WB (ws.drop 1) ∧ LI H19 v ((ws.drop 1).map YA) := fun i v ws h1 h2 => by
   rcases lvt i v ws h1 h2 with q | ⟨_, q⟩
   ·exact q
   ·exact absurd (List.mem_of_getElem? h1) (by rw [q]; exact hno)
  have hW : YD rs m := by
   have nms : ∀ (i : Nat) ws, m ≤ i → i ≤ 2 * m → rs[i]? = some ws → WB (ws.drop 1) := fun i ws h3 h4 e => by
    have hi : i - m < lv.length := by omega
    exact (lvn (i - m) _ ws (List.getElem?_eq_getElem hi) (by rw [show m + (i - m) = i by omega]; exact e)).1
   exact ⟨hheads, hnames, hup, fun i ws h3 h4 e => (nms i ws h3 h4 e).1, fun i ws h3 h4 e => (nms i ws h3 h4 e).2, hfairn⟩
  clear lvt hno g1 g2 g3 kN hnames hup
  refine YJ ?_
  have hr1 : rs[2 * m + 1]? = some rs[2 * m + 1] := List.getElem?_eq_getElem (by omega)
  have hv1 : 2 * m + 1 < vs.length := by omega
  obtain ⟨cf, ecf, gcf⟩ := L10 _ _ _ (List.getElem?_eq_getElem hv1) hr1
  have at1 : atI vs (-1) = some (.ref cf) := by
   have := qG (xs := vs) (k := 1) (by decide) (by omega)
   have e : vs.length - 1 = 2 * m + 1 := by omega
   rw [e, List.getElem?_eq_getElem hv1, ecf] at this
   exact this
  obtain ⟨h1, fr, ew1, z11, z12, z13⟩ := wsz _ _ hr1
  rw [ew1] at gcf
  refine ⟨_, rfl, 1, rfl, D, vs, _, _, rfl, rfl, SqL.of (s19' _ _ D10), at1, 1, rfl, cf, _, rfl, SqL.of (s19' _ _ gcf), fun lf hlf => ?_⟩
  rw [XA]
  have t2 := Zf (o := .lst (((h1 :: fr).map V.str).drop 1)) hlf
  have u2 : (upd H19 lf (.lst (((h1 :: fr).map V.str).drop 1))) lf = some (.lst (fr.map V.str)) := Zd
  generalize upd H19 lf (.lst (((h1 :: fr).map V.str).drop 1)) = H20 at t2 u2 ⊢
  have G20 := t2 _ _ hG19
  refine ⟨_, rfl, G0, rfl, ⟨_, SqL.of G20⟩, fun F hF => ?_⟩
  refine XE (J := Itl K G0) (n := m + 1) (fun i σ H' => ∃ (z : Option V) (ys : List V), σ = [z, some (.int (m : Nat))] ∧ Zn H20 H' ∧ H' F = some (.lst ys) ∧ ys.length ≤ i ∧ (∀ y ∈ ys, y ∈ lv) ∧ (ys = [] ↔ ∀ (j : Nat) ws, j < i → rs[m + j]? = some ws → ws.drop 1 ≠ [] ∧ ∀ w ∈ ws.drop 1, YA w < m)) ?_ ?_ ?_ ?_ ?_
  ·exact ⟨_, [], rfl, Zf hF, Zd, Nat.le_refl _, fun y hy => (by cases hy), by simp⟩
  ·rintro i σ H' hi ⟨z, ys, rfl, sm, _⟩
   exact ⟨_, lv[i]'(by omega), SqL.of (sm _ _ G20), List.getElem?_eq_getElem _⟩
  ·rintro σ H' ⟨z, ys, rfl, sm, _⟩
   exact ⟨_, SqL.of (sm _ _ G20), by omega⟩
  ·rintro i x σ H' H2 hi ⟨z, ys, rfl, sm, hF', yl, ym, yi⟩ ⟨rfl, hx⟩ N N0 hN hN0
   have hx := hx _ (SqL.of (sm _ _ G20))
   have hri : rs[m + i]? = some rs[m + i] := List.getElem?_eq_getElem (by omega)
   obtain ⟨⟨nn, nu⟩, c, rfl, ec⟩ := lvn i x _ hx hri
   obtain ⟨h0, wr, ew, z1, z2, z3⟩ := wsz _ _ hri
   rw [z3] at nn nu ec
   have e2 := (t2.trans sm) _ _ ec
   have up1 : (∀ (j : Nat) ws, j < i + 1 → rs[m + j]? = some ws → ws.drop 1 ≠ [] ∧ ∀ w ∈ ws.drop 1, YA w < m) ↔ (∀ (j : Nat) ws, j < i → rs[m + j]? = some ws → ws.drop 1 ≠ [] ∧ ∀ w ∈ ws.drop 1, YA w < m) ∧ (wr ≠ [] ∧ ∀ w ∈ wr, YA w < m) := by
    constructor
    ·intro q
     exact ⟨fun j ws hj => q j ws (by omega), by have := q i _ (by omega) hri; rwa [z3] at this⟩
    ·rintro ⟨q1, q2⟩ j ws hj e
     by_cases q : j = i
     ·subst q
      rw [hri] at e
      cases e
      rw [z3]; exact q2
     ·exact q1 j ws (by omega) e
   have put : ∀ H3, Zn H2 H3 → ¬ (wr ≠ [] ∧ ∀ w ∈ wr, YA w < (m : Int)) → N (V.ref c) [some (V.ref c), some (V.int (m : Nat))] H3 := fun H3 v3 q => by
    refine hN _ _ _ ys (v3 _ _ hF') (by rw [sizeLine_eq]; omega) ⟨_, ys ++ [.ref c], rfl, (ZF.upd (Zn.x (sm.trans v3))).same hF, Zd, by simp; omega, fun y hy => ?_, ?_⟩
    ·rcases List.mem_append.mp hy with hy | hy
     ·exact ym y hy
     ·rw [List.mem_singleton.mp hy]; exact List.mem_of_getElem? hx
    ·rw [up1]
     exact ⟨fun q' => by simp at q', fun q' => absurd q'.2 q⟩
   refine ⟨_, rfl, by decide, fun B hB => ?_⟩
   obtain ⟨H3, qN, v1, w1⟩ := ZV (o := .lst []) hB
   rw [qN]
   refine eqI_nil (v1 _ _ e2) w1 ⟨_, rfl, ?_⟩
   cases ce : decide (wr.map YA = []) with
   | true =>
    have hnil := List.map_eq_nil_iff.mp (of_decide_eq_true ce)
    exact Z2 (Z2 ⟨_, rfl, put _ v1 fun q => q.1 hnil⟩)
   | false =>
    have hnn := of_decide_eq_false ce
    have hwr : wr ≠ [] := fun q => hnn (by rw [q]; rfl)
    obtain ⟨init, lz, el⟩ := snoc_of hnn
    have e3 := v1 _ _ e2
    rw [el, List.map_append] at e3
    refine YJ ⟨_, rfl, 1, rfl, c, _, _, _, rfl, rfl, SqL.of e3, atI_last _ _, _, rfl, _, _, rfl, rfl, _, rfl, ?_⟩
    rw [el] at nu
    have hmax := upI_max nu (m := (m : Int))
    have hall : (∀ w ∈ wr, YA w < (m : Int)) ↔ lz < m := by
     rw [← hmax, ← el]
     exact ⟨fun q x hx => by obtain ⟨y, hy, rfl⟩ := List.mem_map.mp hx; exact q y hy, fun q w hw' => q _ (List.mem_map.mpr ⟨w, hw', rfl⟩)⟩
    refine Xj (fun c2 => ?_) (fun c2 => ?_)
    ·have c2' := of_decide_eq_true c2
     exact ⟨_, rfl, put _ v1 fun q => by have := hall.mp q.2; omega⟩
    ·have c2' : lz < (m : Int) := by
      have : ¬ (m : Int) ≤ lz := fun q => c2 (decide_eq_true q)
      omega
     refine hN0 _ _ ⟨_, ys, rfl, sm.trans v1, v1 _ _ hF', by omega, ym, ?_⟩
     rw [up1]
     exact ⟨fun q => ⟨yi.mp q, hwr, hall.mpr c2'⟩, fun q => yi.mpr q.1⟩
  rintro σ H21 ⟨z, ys, rfl, s21, hF', yl, ym, yi⟩
  have s21' := s19'.trans (t2.trans s21)
  have yi' : ys = [] ↔ ∀ (i : Nat) ws, m ≤ i → i ≤ 2 * m → rs[i]? = some ws → ws.drop 1 ≠ [] ∧ ∀ w ∈ ws.drop 1, YA w < m := by
   rw [yi]
   exact ⟨fun q i ws h3 h4 e => q (i - m) ws (by omega) (by rw [show m + (i - m) = i by omega]; exact e), fun q j ws hj e => q (m + j) ws (by omega) (by omega) e⟩
  have kW : ¬ VS rs m → ∀ H'', Zn H H'' → Q (.str "world") H'' := fun n H'' s => by
   have q := k H'' s
   rwa [Ws hW n] at q
  clear yi
  refine ⟨_, rfl, _, _, rfl, rfl, _, rfl, Xj (fun c1 => ?_) (fun c1 => ?_)⟩
  case refine_2 => exact ⟨_, rfl, Z2 (Z2 (kW (fun q => c1 (decide_eq_true (by have := q.one; omega))) _ (sH.trans s21')))⟩
  have c1' := of_decide_eq_true c1
  refine ⟨_, _, rfl, rfl, _, rfl, ?_⟩
  cases c2 : decide ((m : Int) ≤ 20) with
  | false =>
   have := of_decide_eq_false c2
   exact Z2 (Z2 (kW (fun q => by have := q.most; omega) _ (sH.trans s21')))
  | true =>
  have c2' := of_decide_eq_true c2
  refine YJ ⟨_, rfl, by decide, fun B hB => ?_⟩
  have v2 := Zf (o := .lst []) hB
  have w2 : (upd H21 B (.lst [])) B = some (.lst []) := Zd
  have w3 := v2 _ _ hF'
  generalize upd H21 B (.lst []) = H22 at v2 w2 w3 ⊢
  have s22 := s21'.trans v2
  refine neL_nil w3 w2 (fun y hy => ?_) ⟨_, rfl, ?_⟩
  ·obtain ⟨i, ws, q1, q2⟩ := lvr y (ym y hy)
   have := (lvn i y ws q1 q2).2
   exact ⟨_, LI.dp (LI.mono _ _ _ _ (t2.trans (s21.trans v2)) this), (Uv _).up (by decide)⟩
  cases cy : decide (ys = []) with
  | false => exact Z2 (Z2 (kW (fun q => of_decide_eq_false cy (yi'.mpr q.nums)) _ (sH.trans s22)))
  | true =>
  have hnums := yi'.mp (of_decide_eq_true cy)
  have u3 := (s21.trans v2) _ _ u2
  refine YJ ⟨_, rfl, .inl ⟨lf, _, rfl, .inl (SqL.of u3), _, _, rfl, rfl, _, rfl, Xj (fun c3 => ?_) (fun c3 => ?_)⟩⟩
  ·have c3' := of_decide_eq_true c3
   rw [List.length_map] at c3'
   refine Z2 (kW (fun q => ?_) _ (sH.trans s22))
   have := q.few _ hr1
   rw [z13] at this
   omega
  have c3' : fr.length ≤ 3 := by
   have : ¬ (3 : Int) < (fr.map V.str).length := fun q => c3 (decide_eq_true q)
   rw [List.length_map] at this
   omega
  have ks : fr.map V.str = (fr.map Sum.inr : List Key).map kV := by rw [List.map_map]; rfl
  rw [ks] at u3
  refine ⟨_, rfl, lf, fr.map Sum.inr, rfl, SqL.of u3, by rw [List.length_map]; omega, fun n c b1 b2 hc => ?_⟩
  obtain ⟨H23, qN, v3, w4⟩ := ZV (o := SetN c n) hc
  rw [qN]
  rw [List.length_map] at b1 b2
  refine .inr (.inr ⟨c, n, rfl, w4, by omega, _, rfl, .inl ⟨lf, _, rfl, .inl (SqL.of (v3 _ _ u3)), _, _, rfl, rfl, _, rfl, Xj (fun c4 => ?_) (fun c4 => ?_)⟩⟩)
  all_goals
   have s23 := s22.trans v3
   have ndk : (fr.map Sum.inr : List Key).Nodup ↔ fr.Nodup := ⟨fun q => by
    unfold List.Nodup at q ⊢
    rw [List.pairwise_map] at q
    exact q.imp fun h e => h (by rw [e]), fun q => X2 (fun a b e => Sum.inr.inj e) q⟩
   rw [ndk] at b2
  ·have c4' := of_decide_eq_true c4
   rw [List.length_map, List.length_map] at c4'
   refine kW (fun q => ?_) _ (sH.trans s23)
   have := q.nd _ hr1
   rw [z13] at this
   have := b2.mpr this
   omega
  ·have c4' : fr.length ≤ n := by
    have : ¬ (n : Int) < ((fr.map Sum.inr : List Key).map kV).length := fun q => c4 (decide_eq_true q)
    rw [List.length_map, List.length_map] at this
    omega
   have hnd : fr.Nodup := b2.mp (by omega)
   have hM : VS rs m := ⟨by omega, by omega, hnums, fun ws e => by rw [hr1] at e; cases e; rw [z13]; exact c3', fun ws e => by rw [hr1] at e; cases e; rw [z13]; exact hnd⟩
   have q := k _ (sH.trans s23)
   rw [Um hW hM] at q
   exact q
def Vh (K : PySem.W.Frag) (a : Adr) : Sp := fun vs H Q _ => ∃ (x : Addr) (ns : List Int) (w : Str) (k : Nat), vs = [.ref x, .str w] ∧ H x = some (.lst (ns.map V.int)) ∧ OkW k w ∧ k ≤ 1 ∧
 ∀ H' z (ns' : List Int), ZF x H H' → H' x = some (.lst (ns'.map V.int)) → Bits (k + 1) z → Q (.str z) H'
theorem Vi {P : Program} {w : World} {K : PySem.W.Frag} {mg : Str → Option Value} {base : Heap} {a : Adr} (T : Txt K mg a) (hw : w.params = a.Pm) : Yr P w K mg base CX0 2 a._law_word_spoilt a._law_word_spoilt_fd ["_law_xs", "_law_word_here"] (Vh K a) := by
 have G__law_draw := Xe (P := P) (w := w) (base := base) T hw
 refine T.f__law_word_spoilt.ok XX (fun vs H Q E h => ?_) (fun cdv A outer s H vs Q E hr h => ?_)
 ·obtain ⟨x, ns, w, k, rfl, _⟩ := h
  rfl
 ·obtain ⟨x, ns, w, k, rfl, hx, hok, hk, kq⟩ := h
  refine ⟨_, (@Ze _ _ _ _ _ (@ZE _ _ (2) _ _ _ _ XX.nd
   rfl
   (by first | exact Or.inl rfl | exact Or.inr rfl)
   (@Z0 _ _ _ _ (@YB _ _ _ _ _ Zl
   (@YB _ _ _ _ _ (@Zq _ _ _ _ _ _ _ _ Xo
   Zl
   (pv 1))
   (@YB _ _ _ _ _ (@Zq _ _ _ _ _ _ _ _ Xo
   (pv 1)
   Zl)
   (@YB _ _ _ _ _ (@Zq _ _ _ _ _ _ _ _ Xo
   Zl
   (pv 1))
   (@YB _ _ _ _ _ (@Zq _ _ _ _ _ _ _ _ Xo
   (pv 1)
   Zl)
   (@YB _ _ _ _ _ (pe_bm0 PySem.F.plainAttrs_str PySem.F.slot_str_upper PySem.F.type_str_upper mt_upper (pv 1))
   (@YB _ _ _ _ _ (@Zq _ _ _ _ _ _ _ _ Xo
   (pv 1)
   Zl)
   (@YB _ _ _ _ _ Zl
   (@YB _ _ _ _ _ Zl
   Zc
   (by rfl))
   (by rfl))
   (by rfl))
   (by rfl))
   (by rfl))
   (by rfl))
   (by rfl))
   (by rfl))
   (by rfl)))
   (by rfl)
   (by first | exact .inl rfl | exact .inr rfl | assumption))
   (@Zg _ _ _ (@Zt _ _ _ _ (@Y2 _ _ _ _ _ _ _ (Yj (K := K) rfl)
   (@Zq _ _ _ _ _ _ _ _ YK
   (pv 2)
   (@Z0 _ _ _ _ (@YB _ _ _ _ _ Zl
   (@YB _ _ _ _ _ Zl
   (@YB _ _ _ _ _ Zl
   (@YB _ _ _ _ _ Zl
   Zc
   (by rfl))
   (by rfl))
   (by rfl))
   (by rfl))))
   (@Zq _ _ _ _ _ _ _ _ Xg
   (Zm G__law_draw (hr.mono (by decide)) rfl T.g__law_draw T.f__law_draw.kp T.n__law_draw .nil ZG (@Za _ _ _ _ _ (pv 0)
   Zc
   (by rfl)))
   Zh)
   (fun _ _ => rfl))))), ?_⟩
  have wl := hok.len
  obtain ⟨_, b1, b2, b3, _⟩ := xp
  have b4 : (" " : Str).length ≤ 1 := by decide +kernel
  refine ⟨_, rfl, _, _, rfl, rfl, by rw [sizeLine_eq]; omega, _, rfl, _, _, rfl, rfl, by rw [sizeLine_eq]; omega, _, rfl, _, _, rfl, rfl, by rw [sizeLine_eq]; omega, _, rfl, _, _, rfl, rfl, by rw [sizeLine_eq]; omega, _, rfl, rfl, w, rfl, rfl, by omega, _, rfl, _, _, rfl, rfl, by rw [sizeLine_eq]; omega, by rw [sizeLine_eq]; simp, fun L hL => ?_⟩
  obtain ⟨H1, qN, s1, e1⟩ := ZV (o := .lst [.str "", .str ("0" ++ w), .str (w ++ "0"), .str ("-" ++ w), .str (w ++ "q"), .str (Txt.upper w), .str (w ++ " "), .str "99", .str "room"]) hL
  rw [qN]
  refine ⟨_, rfl, by rw [sizeLine_eq]; simp, fun L2 hL2 => ?_⟩
  obtain ⟨H2, qN, s2, e2⟩ := ZV (o := .lst [.str "ninelette", .str "7", .str "1234567", .str "100000"]) hL2
  rw [qN]
  refine ⟨L, L2, _, _, rfl, rfl, s2 _ _ e1, e2, by rw [sizeLine_eq]; simp, fun L3 hL3 => ?_⟩
  have s3 := Zf (o := .lst ([.str "", .str ("0" ++ w), .str (w ++ "0"), .str ("-" ++ w), .str (w ++ "q"), .str (Txt.upper w), .str (w ++ " "), .str "99", .str "room"] ++ [.str "ninelette", .str "7", .str "1234567", .str "100000"])) hL3
  have e3 : (upd H2 L3 (.lst ([.str "", .str ("0" ++ w), .str (w ++ "0"), .str ("-" ++ w), .str (w ++ "q"), .str (Txt.upper w), .str (w ++ " "), .str "99", .str "room"] ++ [.str "ninelette", .str "7", .str "1234567", .str "100000"]))) L3 = some (.lst ((VA w).map V.str)) := Zd
  generalize upd H2 L3 (.lst ([.str "", .str ("0" ++ w), .str (w ++ "0"), .str ("-" ++ w), .str (w ++ "q"), .str (Txt.upper w), .str (w ++ " "), .str "99", .str "room"] ++ [.str "ninelette", .str "7", .str "1234567", .str "100000"])) = H3 at s3 e3 ⊢
  have s13 := s1.trans (s2.trans s3)
  have nx : L3 ≠ x := fun e => by rw [e, (s1.trans s2) _ _ hx] at hL3; cases hL3
  refine ⟨_, rfl, x, ns, rfl, s13 _ _ hx, fun H4 n ns4 x4 h4 => ⟨_, _, rfl, rfl, by simp, ?_⟩⟩
  have m0 := Int.emod_nonneg n (show (13 : Int) ≠ 0 by decide)
  have m1 := Int.emod_lt_of_pos n (show (0 : Int) < 13 by decide)
  obtain ⟨j, hj⟩ := Int.eq_ofNat_of_zero_le m0
  have sl : (VA w).length = 13 := rfl
  have hjl : j < (VA w).length := by rw [sl]; omega
  have at1 : atI ((VA w).map V.str) (n % 13) = some (V.str (VA w)[j]) := by
   rw [hj]
   exact Yo (by rw [List.getElem?_map, List.getElem?_eq_getElem hjl]; rfl)
  exact ⟨L3, _, _, _, rfl, rfl, SqL.of (x4 _ _ nx e3), at1, kq _ _ ns4 ((Zn.x s13).trans x4) h4 (spoils_ok hok _ (List.getElem_mem hjl))⟩
def Vj (K : PySem.W.Frag) (a : Adr) : Sp := fun vs H Q _ => ∃ (x : Addr) (ns : List Int) (y : Str) (k : Nat), vs = [.ref x, .str y] ∧ H x = some (.lst (ns.map V.int)) ∧ OkL k y ∧ k ≤ 1 ∧
 ∀ H' z (ns' : List Int), ZF x H H' → H' x = some (.lst (ns'.map V.int)) → OkL (k + 1) z → Q (.str z) H'
theorem Vg {P : Program} {w : World} {K : PySem.W.Frag} {mg : Str → Option Value} {base : Heap} {a : Adr} (T : Txt K mg a) (hw : w.params = a.Pm) : Yr P w K mg base CX0 3 a._law_line_spoilt a._law_line_spoilt_fd ["_law_xs", "_law_line"] (Vj K a) := by
 have G__law_draw := Xe (P := P) (w := w) (base := base) T hw
 have G__law_word_spoilt := Vi (P := P) (w := w) (base := base) T hw
 refine T.f__law_line_spoilt.ok YU (fun vs H Q E h => ?_) (fun cdv A outer s H vs Q E hr h => ?_)
 ·obtain ⟨x, ns, y, k, rfl, _⟩ := h
  rfl
 ·obtain ⟨x, ns, y, k, rfl, hx, ⟨r, hr0, rfl⟩, hk, kq⟩ := h
  refine ⟨_, (@Ze _ _ _ _ _ (@ZE _ _ (2) _ _ _ _ YU.nd
   rfl
   (by first | exact Or.inl rfl | exact Or.inr rfl)
   (Xi PySem.F.plainAttrs_str PySem.F.slot_str_split PySem.F.type_str_split Wl (pv 1) (@Za _ _ _ _ _ Zl
   Zc
   (by rfl)))
   (by rfl)
   (by first | exact .inl rfl | exact .inr rfl | assumption))
   (@Ze _ _ _ _ _ (@ZE _ _ (3) _ _ _ _ YU.nd
   rfl
   (by first | exact Or.inl rfl | exact Or.inr rfl)
   (@Zq _ _ _ _ _ _ _ _ Xg
   (Zm G__law_draw (hr.mono (by decide)) rfl T.g__law_draw T.f__law_draw.kp T.n__law_draw .nil ZG (@Za _ _ _ _ _ (pv 0)
   Zc
   (by rfl)))
   (Zk (Zy (K := K) rfl) rfl T.b_len PyProof.Rows.Boot.«len» (@Za _ _ _ _ _ (pv 2)
   Zc
   (by rfl))))
   (by rfl)
   (by first | exact .inl rfl | exact .inr rfl | assumption))
   (@Ze _ _ _ _ _ (@ZE _ _ (4) _ _ _ _ YU.nd
   rfl
   (by first | exact Or.inl rfl | exact Or.inr rfl)
   (@Zq _ _ _ _ _ _ _ _ Xg
   (Zm G__law_draw (hr.mono (by decide)) rfl T.g__law_draw T.f__law_draw.kp T.n__law_draw .nil ZG (@Za _ _ _ _ _ (pv 0)
   Zc
   (by rfl)))
   Zh)
   (by rfl)
   (by first | exact .inl rfl | exact .inr rfl | assumption))
   (@Ze _ _ _ _ _ (@Z4 _ _ _ _ _ _ _ _ (@Zs _ _ _ _ _ _ _ _ Xl
   (pv 4)
   Zh
   (Zw _))
   (@Zg _ _ _ (@Zt _ _ _ _ (Xi PySem.F.plainAttrs_str PySem.F.slot_str_join PySem.F.type_str_join (XO (K := K) rfl) Zl (@Za _ _ _ _ _ (@Zq _ _ _ _ _ _ _ _ YK
   (ZB (ZA (K := K) rfl) (pv 2) ZT (ZC (pv 3)))
   (ZB (ZA (K := K) rfl) (pv 2) (ZC (@Zq _ _ _ _ _ _ _ _ Xz
   (pv 3)
   Zh)) ZT))
   Zc
   (by rfl)))))
   Zz)
   (@Ze _ _ _ _ _ (@Z4 _ _ _ _ _ _ _ _ (@Zs _ _ _ _ _ _ _ _ Xl
   (pv 4)
   Zh
   (Zw _))
   (@Zg _ _ _ (@Zt _ _ _ _ (Xi PySem.F.plainAttrs_str PySem.F.slot_str_join PySem.F.type_str_join (XO (K := K) rfl) Zl (@Za _ _ _ _ _ (@Zq _ _ _ _ _ _ _ _ YK
   (@Zq _ _ _ _ _ _ _ _ YK
   (ZB (ZA (K := K) rfl) (pv 2) ZT (ZC (pv 3)))
   (@Z0 _ _ _ _ (@Za _ _ _ _ _ (@Y2 _ _ _ _ _ _ _ (Yj (K := K) rfl)
   (pv 2)
   (pv 3)
   (fun _ _ => rfl))
   Zc
   (by rfl))))
   (ZB (ZA (K := K) rfl) (pv 2) (ZC (pv 3)) ZT))
   Zc
   (by rfl)))))
   Zz)
   (@Ze _ _ _ _ _ (@Z4 _ _ _ _ _ _ _ _ (@Zs _ _ _ _ _ _ _ _ Xl
   (pv 4)
   Zh
   (Zw _))
   (@Zg _ _ _ (@Zt _ _ _ _ (Xi PySem.F.plainAttrs_str PySem.F.slot_str_join PySem.F.type_str_join (XO (K := K) rfl) Zl (@Za _ _ _ _ _ (@Zq _ _ _ _ _ _ _ _ YK
   (ZB (ZA (K := K) rfl) (pv 2) ZT (ZC Zh))
   (ye (K := K) rfl (ZB (ZA (K := K) rfl) (pv 2) (ZC Zh) ZT) (ZC (Vo Wd Zh))))
   Zc
   (by rfl)))))
   Zz)
   (@Ze _ _ _ _ _ (@Z4 _ _ _ _ _ _ _ _ (@Zs _ _ _ _ _ _ _ _ Xl
   (pv 4)
   Zh
   (Zw _))
   (@Zg _ _ _ (@Zt _ _ _ _ (@Y2 _ _ _ _ _ _ _ (Yj (K := K) rfl)
   (pv 2)
   Zh
   (fun _ _ => rfl))))
   Zz)
   (@Zg _ _ _ (@Zt _ _ _ _ (Xi PySem.F.plainAttrs_str PySem.F.slot_str_join PySem.F.type_str_join (XO (K := K) rfl) Zl (@Za _ _ _ _ _ (@Zq _ _ _ _ _ _ _ _ YK
   (@Zq _ _ _ _ _ _ _ _ YK
   (ZB (ZA (K := K) rfl) (pv 2) ZT (ZC (pv 3)))
   (@Z0 _ _ _ _ (@Za _ _ _ _ _ (Zm G__law_word_spoilt (hr.mono (by decide)) rfl T.g__law_word_spoilt T.f__law_word_spoilt.kp T.n__law_word_spoilt .nil ZG (@Za _ _ _ _ _ (pv 0)
   (@Za _ _ _ _ _ (@Y2 _ _ _ _ _ _ _ (Yj (K := K) rfl)
   (pv 2)
   (pv 3)
   (fun _ _ => rfl))
   Zc
   (by rfl))
   (by rfl)))
   Zc
   (by rfl))))
   (ZB (ZA (K := K) rfl) (pv 2) (ZC (@Zq _ _ _ _ _ _ _ _ Xz
   (pv 3)
   Zh)) ZT))
   Zc
   (by rfl)))))))))))), ?_⟩
  have hw2 := hr0.width (by omega)
  have hsp := hr0.split
  have hlen := hr0.len
  have hall : ∀ w ∈ r, OkW (k + 1) w := fun w hm => (hr0.all w hm).up
  have hpos : 0 < r.length := List.length_pos_iff.mpr hr0.ne
  refine ⟨_, rfl, rfl, _, _, rfl, rfl, by decide +kernel, by omega, fun L hL => ?_⟩
  rw [hsp]
  generalize Str.join " " r = y0
  obtain ⟨H1, qN, s1, e1⟩ := ZV (o := .lst (r.map V.str)) hL
  rw [qN]
  have nL : L ≠ x := fun e => by rw [e, hx] at hL; cases hL
  refine ⟨_, rfl, x, ns, rfl, s1 _ _ hx, fun H2 n ns2 x2 h2 => ?_⟩
  have e2 := x2 _ _ nL e1
  have hposI : (0 : Int) < (r.map V.str).length := by rw [List.length_map]; omega
  refine ⟨_, rfl, .inl ⟨L, _, rfl, .inl (SqL.of e2), _, _, rfl, rfl, hposI, ?_⟩⟩
  have m0 := Int.emod_nonneg n (Int.ne_of_gt hposI)
  have m1 := Int.emod_lt_of_pos n hposI
  change Wi 3 (V.int (n % ((r.map V.str).length : Int))) _ H2 _
  generalize n % ((r.map V.str).length : Int) = at_ at m0 m1 ⊢
  rw [List.length_map] at m1
  obtain ⟨j, rfl⟩ := Int.eq_ofNat_of_zero_le m0
  have hjl : j < r.length := by omega
  clear m0 m1 hposI n hw2 hsp
  refine ⟨_, rfl, x, ns2, rfl, h2, fun H3 n ns3 x3 h3 => ⟨_, _, rfl, rfl, by simp, ?_⟩⟩
  have e3 := x3 _ _ nL e2
  have x13 := (Zn.x s1).trans (x2.trans x3)
  clear x2 x3 s1 e1 e2 h2
  have fin : ∀ (H5 : Hp) (p : Addr) (ws : List Str) (ns5 : List Int), ZF x H H5 → H5 x = some (.lst (ns5.map V.int)) → H5 p = some (.lst (ws.map V.str)) → (∀ w ∈ ws, OkW (k + 1) w) → ws.length ≤ 21 + 2 * (k + 1) → rJoin K (.str " ") [.ref p] H5 Q := fun H5 p ws ns5 x5 h5 e5 a5 l5 => by
   refine ⟨" ", p, ws, 12, rfl, rfl, SqL.of e5, fun y hy => by have := (a5 y hy).len; omega, ?_, kq _ _ ns5 x5 h5 (yb a5 l5)⟩
   have : (" " : Str).length = 1 := by decide +kernel
   rw [this]
   omega
  change Wi 4 (V.int (n % 6)) _ H3 _
  generalize n % 6 = way
  have tk : ∀ i, ∀ w ∈ r.take i, OkW (k + 1) w := fun i w hm => hall w (List.mem_of_mem_take hm)
  have dr : ∀ i, ∀ w ∈ r.drop i, OkW (k + 1) w := fun i w hm => hall w (List.mem_of_mem_drop hm)
  refine ⟨_, rfl, rfl, _, rfl, Xj (fun c => ?_) (fun c => ?_)⟩
  ·refine ⟨rfl, _, rfl, _, rfl, j, rfl, L, _, rfl, SqL.of e3, fun p1 hp1 => ?_⟩
   rw [Xx _ _ (by rw [List.length_map]; omega), ← List.map_take]
   obtain ⟨H4, qN, t1, u1⟩ := ZV (o := .lst ((r.take j).map V.str)) hp1
   rw [qN]
   refine ⟨_, rfl, _, rfl, _, _, rfl, rfl, ((j + 1 : Nat) : Int), rfl, L, _, rfl, SqL.of (t1 _ _ e3), fun p2 hp2 => ?_⟩
   rw [XG _ _ (by rw [List.length_map]; omega), ← List.map_drop]
   obtain ⟨H5, qN, t2, u2⟩ := ZV (o := .lst ((r.drop (j + 1)).map V.str)) hp2
   rw [qN]
   refine ⟨p1, p2, _, _, rfl, rfl, t2 _ _ u1, u2, by simp [sizeLine_eq]; omega, fun p3 hp3 => ?_⟩
   rw [← List.map_append]
   obtain ⟨H6, qN, t3, u3⟩ := ZV (o := .lst ((r.take j ++ r.drop (j + 1)).map V.str)) hp3
   rw [qN]
   have t13 := t1.trans (t2.trans t3)
   exact fin _ p3 _ ns3 (x13.trans (Zn.x t13)) (t13 _ _ h3) u3 (fun w hm => (List.mem_append.mp hm).elim (tk _ w) (dr _ w)) (by simp; omega)
  clear c
  refine ⟨_, rfl, rfl, _, rfl, Xj (fun c => ?_) (fun c => ?_)⟩
  ·refine ⟨rfl, _, rfl, _, rfl, j, rfl, L, _, rfl, SqL.of e3, fun p1 hp1 => ?_⟩
   rw [Xx _ _ (by rw [List.length_map]; omega), ← List.map_take]
   obtain ⟨H4, qN, t1, u1⟩ := ZV (o := .lst ((r.take j).map V.str)) hp1
   rw [qN]
   have at1 : (r.map V.str)[j]? = some (V.str r[j]) := by rw [List.getElem?_map, List.getElem?_eq_getElem hjl]; rfl
   refine ⟨_, rfl, _, rfl, L, _, _, _, rfl, rfl, SqL.of (t1 _ _ e3), Yo at1, by simp [sizeLine_eq], fun p2 hp2 => ?_⟩
   obtain ⟨H5, qN, t2, u2⟩ := ZV (o := .lst ([V.str r[j]])) hp2
   rw [qN]
   refine ⟨p1, p2, _, _, rfl, rfl, t2 _ _ u1, u2, by simp [sizeLine_eq]; omega, fun p3 hp3 => ?_⟩
   obtain ⟨H6, qN, t3, u3⟩ := ZV (o := .lst ((r.take j).map V.str ++ [V.str r[j]])) hp3
   rw [qN]
   refine ⟨_, rfl, _, rfl, j, rfl, L, _, rfl, SqL.of ((t1.trans (t2.trans t3)) _ _ e3), fun p4 hp4 => ?_⟩
   rw [XG _ _ (by rw [List.length_map]; omega), ← List.map_drop]
   obtain ⟨H7, qN, t4, u4⟩ := ZV (o := .lst ((r.drop j).map V.str)) hp4
   rw [qN]
   refine ⟨p3, p4, _, _, rfl, rfl, t4 _ _ u3, u4, by simp [sizeLine_eq]; omega, fun p5 hp5 => ?_⟩
   have t5 := Zf (o := .lst ((r.take j).map V.str ++ [V.str r[j]] ++ (r.drop j).map V.str)) hp5
   have u5 : (upd H7 p5 (.lst ((r.take j).map V.str ++ [V.str r[j]] ++ (r.drop j).map V.str))) p5 = some (.lst ((r.take j ++ [r[j]] ++ r.drop j).map V.str)) := by rw [Zd, List.map_append, List.map_append]; rfl
   generalize upd H7 p5 (.lst ((r.take j).map V.str ++ [V.str r[j]] ++ (r.drop j).map V.str)) = H8 at t5 u5 ⊢
   have t15 := t1.trans (t2.trans (t3.trans (t4.trans t5)))
   refine fin _ p5 _ ns3 (x13.trans (Zn.x t15)) (t15 _ _ h3) u5 (fun w hm => ?_) (by simp; omega)
   rcases List.mem_append.mp hm with hm | hm
   ·rcases List.mem_append.mp hm with hm | hm
    ·exact tk _ w hm
    ·rw [List.mem_singleton.mp hm]; exact hall _ (List.getElem_mem hjl)
   ·exact dr _ w hm
  clear c
  refine ⟨_, rfl, rfl, _, rfl, Xj (fun c => ?_) (fun c => ?_)⟩
  ·refine ⟨rfl, _, rfl, 1, rfl, L, _, rfl, SqL.of e3, fun p1 hp1 => ?_⟩
   rw [cut_head, ← List.map_take]
   obtain ⟨H4, qN, t1, u1⟩ := ZV (o := .lst ((r.take 1).map V.str)) hp1
   rw [qN]
   refine ⟨_, rfl, 1, rfl, L, _, rfl, SqL.of (t1 _ _ e3), fun p2 hp2 => ?_⟩
   rw [XA, ← List.map_drop]
   obtain ⟨H5, qN, t2, u2⟩ := ZV (o := .lst ((r.drop 1).map V.str)) hp2
   rw [qN]
   refine ⟨1, rfl, -1, rfl, p2, _, rfl, rfl, SqL.of u2, fun p3 hp3 => ?_⟩
   rw [← List.map_reverse]
   obtain ⟨H6, qN, t3, u3⟩ := ZV (o := .lst ((r.drop 1).reverse.map V.str)) hp3
   rw [qN]
   refine ⟨p1, p3, _, _, rfl, rfl, (t2.trans t3) _ _ u1, u3, by simp [sizeLine_eq]; omega, fun p4 hp4 => ?_⟩
   rw [← List.map_append]
   obtain ⟨H7, qN, t4, u4⟩ := ZV (o := .lst ((r.take 1 ++ (r.drop 1).reverse).map V.str)) hp4
   rw [qN]
   have t14 := t1.trans (t2.trans (t3.trans t4))
   exact fin _ p4 _ ns3 (x13.trans (Zn.x t14)) (t14 _ _ h3) u4 (fun w hm => (List.mem_append.mp hm).elim (tk _ w) (fun hm => dr _ w (List.mem_reverse.mp hm))) (by simp; omega)
  clear c
  refine ⟨_, rfl, rfl, _, rfl, Xj (fun c => ?_) (fun c => ?_)⟩
  ·have at0 : (r.map V.str)[0]? = some (V.str r[0]) := by rw [List.getElem?_map, List.getElem?_eq_getElem hpos]; rfl
   refine ⟨_, rfl, L, _, _, _, rfl, rfl, SqL.of e3, Yo (j := 0) at0, kq _ _ ns3 x13 h3 ?_⟩
   exact ⟨[r[0]], ⟨by simp, by simp; omega, fun w hm => by rw [List.mem_singleton.mp hm]; exact hall _ (List.getElem_mem hpos)⟩, rfl⟩
  clear c
  refine ⟨rfl, _, rfl, _, rfl, j, rfl, L, _, rfl, SqL.of e3, fun p1 hp1 => ?_⟩
  rw [Xx _ _ (by rw [List.length_map]; omega), ← List.map_take]
  obtain ⟨H4, qN, t1, u1⟩ := ZV (o := .lst ((r.take j).map V.str)) hp1
  rw [qN]
  have at1 : (r.map V.str)[j]? = some (V.str r[j]) := by rw [List.getElem?_map, List.getElem?_eq_getElem hjl]; rfl
  refine ⟨_, rfl, _, rfl, _, rfl, L, _, _, _, rfl, rfl, SqL.of (t1 _ _ e3), Yo at1, x, ns3, r[j], k, rfl, t1 _ _ h3, hr0.all _ (List.getElem_mem hjl), hk, fun H5 z ns5 x5 h5 hz => ?_⟩
  have np1 : p1 ≠ x := fun e => by rw [e, h3] at hp1; cases hp1
  have u15 := x5 _ _ np1 u1
  have x15 := x13.trans ((Zn.x t1).trans x5)
  have e5 := x5 _ _ nL (t1 _ _ e3)
  refine ⟨by simp [sizeLine_eq], fun p2 hp2 => ?_⟩
  obtain ⟨H6, qN, t2, u2⟩ := ZV (o := .lst ([V.str z])) hp2
  rw [qN]
  refine ⟨p1, p2, _, _, rfl, rfl, t2 _ _ u15, u2, by simp [sizeLine_eq]; omega, fun p3 hp3 => ?_⟩
  obtain ⟨H7, qN, t3, u3⟩ := ZV (o := .lst ((r.take j).map V.str ++ [V.str z])) hp3
  rw [qN]
  refine ⟨_, rfl, _, rfl, _, _, rfl, rfl, ((j + 1 : Nat) : Int), rfl, L, _, rfl, SqL.of ((t2.trans t3) _ _ e5), fun p4 hp4 => ?_⟩
  rw [XG _ _ (by rw [List.length_map]; omega), ← List.map_drop]
  obtain ⟨H8, qN, t4, u4⟩ := ZV (o := .lst ((r.drop (j + 1)).map V.str)) hp4
  rw [qN]
  refine ⟨p3, p4, _, _, rfl, rfl, t4 _ _ u3, u4, by simp [sizeLine_eq]; omega, fun p5 hp5 => ?_⟩
  have t5 := Zf (o := .lst ((r.take j).map V.str ++ [V.str z] ++ (r.drop (j + 1)).map V.str)) hp5
  have u5 : (upd H8 p5 (.lst ((r.take j).map V.str ++ [V.str z] ++ (r.drop (j + 1)).map V.str))) p5 = some (.lst ((r.take j ++ [z] ++ r.drop (j + 1)).map V.str)) := by rw [Zd, List.map_append, List.map_append]; rfl
  generalize upd H8 p5 (.lst ((r.take j).map V.str ++ [V.str z] ++ (r.drop (j + 1)).map V.str)) = H9 at t5 u5 ⊢
  have t25 := t2.trans (t3.trans (t4.trans t5))
  have hz2 := hz
  obtain ⟨ys, y1, y2, y3, y4⟩ := hz2
  have zl : z.length ≤ 30 := by
   rw [y4]
   have h1 := X7 " " ys
   have h2 := StrLaws.sumLen_le (B := 12) ys (fun y hy => by have := (y3 y hy).len; omega)
   have h3 : (" " : Str).length = 1 := by decide +kernel
   rw [h3] at h1
   omega
  refine ⟨" ", p5, _, 30, rfl, rfl, SqL.of u5, fun y hy => ?_, ?_, kq _ _ ns5 (x15.trans (Zn.x t25)) (t25 _ _ h5) (okL_bits hz (tk _) (dr _) (by simp; omega))⟩
  ·rcases List.mem_append.mp hy with hy | hy
   ·rcases List.mem_append.mp hy with hy | hy
    ·have := (tk _ y hy).len; omega
    ·rw [List.mem_singleton.mp hy]; exact zl
   ·have := (dr _ y hy).len; omega
  ·have : (" " : Str).length = 1 := by decide +kernel
   rw [this]
   simp
   omega
theorem vE (xs : List V) (k : Nat) : X9 xs (some (k : Int)) none = xs.drop k := by
 unfold X9
 rw [HT.sIx_nat, HT.sIx_none]
 by_cases h : k ≤ xs.length
 ·rw [Nat.min_eq_left h]
  exact List.take_of_length_le (by rw [List.length_drop]; omega)
 ·rw [Nat.min_eq_right (by omega), List.drop_eq_nil_of_le (by omega : xs.length ≤ k), List.drop_eq_nil_of_le (Nat.le_refl _)]
  simp
theorem cutV_two (xs : List V) (j : Nat) (h : j ≤ xs.length) : X9 xs (some (j : Int)) (some ((j + 2 : Nat) : Int)) = (xs.drop j).take 2 := by
 unfold X9
 rw [HT.sIx_nat, HT.sIx_nat, Nat.min_eq_left h]
 by_cases q : j + 2 ≤ xs.length
 ·rw [Nat.min_eq_left q]
  congr 1
  omega
 ·rw [Nat.min_eq_right (by omega), List.take_of_length_le (by rw [List.length_drop]; omega), List.take_of_length_le (by rw [List.length_drop]; omega)]
theorem okL_nil {k : Nat} : OkL (k + 1) ("" : Str) := ⟨[""], ⟨by simp, by simp; omega, fun w m => by rw [List.mem_singleton.mp m]; exact VF⟩, rfl⟩
theorem zC {x L : Addr} {H H5 : Hp} {o : HO} (h : ZF x H H5) (hL : H L = none) : ZF x H (upd H5 L o) := fun b u nb hb => by
 have : b ≠ L := fun e => by rw [e, hL] at hb; cases hb
 rw [Zv this]
 exact h b u nb hb
def qC (K : PySem.W.Frag) (a : Adr) : Sp := fun vs H Q _ => ∃ (x : Addr) (ns : List Int) (ls : List Str) (k : Nat), vs = [.ref x, .str (Str.join "\n" ls)] ∧ H x = some (.lst (ns.map V.int)) ∧ OkT k ls ∧ k ≤ 1 ∧
 ∀ H' (ls' : List Str) (ns' : List Int), ZF x H H' → H' x = some (.lst (ns'.map V.int)) → OkT (k + 1) ls' → Q (.str (Str.join "\n" ls')) H'
theorem U3 {P : Program} {w : World} {K : PySem.W.Frag} {mg : Str → Option Value} {base : Heap} {a : Adr} (T : Txt K mg a) (hw : w.params = a.Pm) : Yr P w K mg base CX0 4 a._law_spoilt a._law_spoilt_fd ["_law_xs", "_law_text"] (qC K a) := by
 have G__law_draw := Xe (P := P) (w := w) (base := base) T hw
 have G__law_line_spoilt := Vg (P := P) (w := w) (base := base) T hw
 refine T.f__law_spoilt.ok Yw (fun vs H Q E h => ?_) (fun cdv A outer s H vs Q E hr h => ?_)
 ·obtain ⟨x, ns, ls, k, rfl, _⟩ := h
  rfl
 ·obtain ⟨x, ns, ls, k, rfl, hx, ht, hk, kq⟩ := h
  refine ⟨_, (@Ze _ _ _ _ _ (@ZE _ _ (2) _ _ _ _ Yw.nd
   rfl
   (by first | exact Or.inl rfl | exact Or.inr rfl)
   (Xi PySem.F.plainAttrs_str PySem.F.slot_str_split PySem.F.type_str_split Wl (pv 1) (@Za _ _ _ _ _ Zl
   Zc
   (by rfl)))
   (by rfl)
   (by first | exact .inl rfl | exact .inr rfl | assumption))
   (@Ze _ _ _ _ _ (@ZE _ _ (3) _ _ _ _ Yw.nd
   rfl
   (by first | exact Or.inl rfl | exact Or.inr rfl)
   (@Zq _ _ _ _ _ _ _ _ Xg
   (Zm G__law_draw (hr.mono (by decide)) rfl T.g__law_draw T.f__law_draw.kp T.n__law_draw .nil ZG (@Za _ _ _ _ _ (pv 0)
   Zc
   (by rfl)))
   (Zk (Zy (K := K) rfl) rfl T.b_len PyProof.Rows.Boot.«len» (@Za _ _ _ _ _ (pv 2)
   Zc
   (by rfl))))
   (by rfl)
   (by first | exact .inl rfl | exact .inr rfl | assumption))
   (@Ze _ _ _ _ _ (@ZE _ _ (4) _ _ _ _ Yw.nd
   rfl
   (by first | exact Or.inl rfl | exact Or.inr rfl)
   (@Zq _ _ _ _ _ _ _ _ Xg
   (Zm G__law_draw (hr.mono (by decide)) rfl T.g__law_draw T.f__law_draw.kp T.n__law_draw .nil ZG (@Za _ _ _ _ _ (pv 0)
   Zc
   (by rfl)))
   Zh)
   (by rfl)
   (by first | exact .inl rfl | exact .inr rfl | assumption))
   (qT (@Z4 _ _ _ _ _ _ _ _ (@Zs _ _ _ _ _ _ _ _ Xl
   (pv 4)
   Zh
   (Zw _))
   (@Zg _ _ _ (@Wp _ _ _ _ (Xi PySem.F.plainAttrs_list PySem.F.slot_list_append PySem.F.type_list_append XI (pv 2) (@Za _ _ _ _ _ Zl
   Zc
   (by rfl)))
   (by rfl)))
   (@Zg _ _ _ (@Z4 _ _ _ _ _ _ _ _ (@Zs _ _ _ _ _ _ _ _ Xl
   (pv 4)
   Zh
   (Zw _))
   (@Zg _ _ _ (@ZE _ _ (2) _ _ _ _ Yw.nd
   rfl
   (by first | exact Or.inl rfl | exact Or.inr rfl)
   (@Zq _ _ _ _ _ _ _ _ YK
   (ZB (ZA (K := K) rfl) (pv 2) ZT (ZC (pv 3)))
   (ZB (ZA (K := K) rfl) (pv 2) (ZC (@Zq _ _ _ _ _ _ _ _ Xz
   (pv 3)
   Zh)) ZT))
   (by rfl)
   (by first | exact .inl rfl | exact .inr rfl | assumption)))
   (@Zg _ _ _ (@Z4 _ _ _ _ _ _ _ _ (@Zs _ _ _ _ _ _ _ _ Xl
   (pv 4)
   Zh
   (Zw _))
   (@Zg _ _ _ (@ZE _ _ (2) _ _ _ _ Yw.nd
   rfl
   (by first | exact Or.inl rfl | exact Or.inr rfl)
   (@Zq _ _ _ _ _ _ _ _ YK
   (@Zq _ _ _ _ _ _ _ _ YK
   (ZB (ZA (K := K) rfl) (pv 2) ZT (ZC (pv 3)))
   (@Z0 _ _ _ _ (@Za _ _ _ _ _ (@Y2 _ _ _ _ _ _ _ (Yj (K := K) rfl)
   (pv 2)
   (pv 3)
   (fun _ _ => rfl))
   Zc
   (by rfl))))
   (ZB (ZA (K := K) rfl) (pv 2) (ZC (pv 3)) ZT))
   (by rfl)
   (by first | exact .inl rfl | exact .inr rfl | assumption)))
   (@Zg _ _ _ (@Z4 _ _ _ _ _ _ _ _ (@Zs _ _ _ _ _ _ _ _ Xl
   (pv 4)
   Zh
   (Zw _))
   (@Zg _ _ _ (@ZE _ _ (2) _ _ _ _ Yw.nd
   rfl
   (by first | exact Or.inl rfl | exact Or.inr rfl)
   (@Zq _ _ _ _ _ _ _ _ YK
   (@Zq _ _ _ _ _ _ _ _ YK
   (ZB (ZA (K := K) rfl) (pv 2) ZT (ZC (pv 3)))
   (ZB (ZA (K := K) rfl) (pv 2) (ZC (@Zq _ _ _ _ _ _ _ _ Xz
   (pv 3)
   Zh)) ZT))
   (@Z0 _ _ _ _ (@Za _ _ _ _ _ (@Y2 _ _ _ _ _ _ _ (Yj (K := K) rfl)
   (pv 2)
   (pv 3)
   (fun _ _ => rfl))
   Zc
   (by rfl))))
   (by rfl)
   (by first | exact .inl rfl | exact .inr rfl | assumption)))
   (@Zg _ _ _ (@Z4 _ _ _ _ _ _ _ _ (@Zs _ _ _ _ _ _ _ _ Xl
   (pv 4)
   Zh
   (Zw _))
   (@Zg _ _ _ (@ZE _ _ (2) _ _ _ _ Yw.nd
   rfl
   (by first | exact Or.inl rfl | exact Or.inr rfl)
   (@Zq _ _ _ _ _ _ _ _ YK
   (@Zq _ _ _ _ _ _ _ _ YK
   (ZB (ZA (K := K) rfl) (pv 2) ZT (ZC (pv 3)))
   (ye (K := K) rfl (ZB (ZA (K := K) rfl) (pv 2) (ZC (pv 3)) (ZC (@Zq _ _ _ _ _ _ _ _ Xz
   (pv 3)
   Zh))) (ZC (Vo Wd Zh))))
   (ZB (ZA (K := K) rfl) (pv 2) (ZC (@Zq _ _ _ _ _ _ _ _ Xz
   (pv 3)
   Zh)) ZT))
   (by rfl)
   (by first | exact .inl rfl | exact .inr rfl | assumption)))
   (@Zg _ _ _ (ps_setL (Zm G__law_line_spoilt (hr.mono (by decide)) rfl T.g__law_line_spoilt T.f__law_line_spoilt.kp T.n__law_line_spoilt .nil ZG (@Za _ _ _ _ _ (pv 0)
   (@Za _ _ _ _ _ (@Y2 _ _ _ _ _ _ _ (Yj (K := K) rfl)
   (pv 2)
   (pv 3)
   (fun _ _ => rfl))
   Zc
   (by rfl))
   (by rfl))) (pv 2) (pv 3))))))))))))
     (@Zg _ _ _ (@Zt _ _ _ _ (Xi PySem.F.plainAttrs_str PySem.F.slot_str_join PySem.F.type_str_join (XO (K := K) rfl) Zl (@Za _ _ _ _ _ (pv 2)
   Zc
   (by rfl))))))))), ?_⟩
  have hsz := ht.size (by omega)
  have hsp := ht.split (by omega)
  have hlo := ht.lo
  have hhi := ht.hi
  have hall : ∀ y ∈ ls, OkL (k + 1) y := fun y hm => (ht.all y hm).up
  have hpos : 0 < ls.length := by omega
  refine ⟨_, rfl, rfl, _, _, rfl, rfl, by decide +kernel, hsz, fun L hL => ?_⟩
  rw [hsp]
  generalize Str.join "\n" ls = y0
  obtain ⟨H1, qN, s1, e1⟩ := ZV (o := .lst (ls.map V.str)) hL
  rw [qN]
  have nL : L ≠ x := fun e => by rw [e, hx] at hL; cases hL
  refine ⟨_, rfl, x, ns, rfl, s1 _ _ hx, fun H2 n ns2 x2 h2 => ?_⟩
  have e2 := x2 _ _ nL e1
  have hposI : (0 : Int) < (ls.map V.str).length := by rw [List.length_map]; omega
  refine ⟨_, rfl, .inl ⟨L, _, rfl, .inl (SqL.of e2), _, _, rfl, rfl, hposI, ?_⟩⟩
  have m0 := Int.emod_nonneg n (Int.ne_of_gt hposI)
  have m1 := Int.emod_lt_of_pos n hposI
  change Wi 3 (V.int (n % ((ls.map V.str).length : Int))) _ H2 _
  generalize n % ((ls.map V.str).length : Int) = at_ at m0 m1 ⊢
  rw [List.length_map] at m1
  obtain ⟨j, rfl⟩ := Int.eq_ofNat_of_zero_le m0
  have hjl : j < ls.length := by omega
  clear m0 m1 hposI n hsz hsp
  refine ⟨_, rfl, x, ns2, rfl, h2, fun H3 n ns3 x3 h3 => ⟨_, _, rfl, rfl, by simp, ?_⟩⟩
  have e3 := x3 _ _ nL e2
  have x13 := (Zn.x s1).trans (x2.trans x3)
  clear x2 x3 s1 e1 e2 h2
  change Wi 4 (V.int (n % 8)) _ H3 _
  generalize n % 8 = way
  have tk : ∀ i, ∀ w ∈ ls.take i, OkL (k + 1) w := fun i w hm => hall w (List.mem_of_mem_take hm)
  have dr : ∀ i, ∀ w ∈ ls.drop i, OkL (k + 1) w := fun i w hm => hall w (List.mem_of_mem_drop hm)
  have at1 : (ls.map V.str)[j]? = some (V.str ls[j]) := by rw [List.getElem?_map, List.getElem?_eq_getElem hjl]; rfl
  refine ⟨fun σ' H' => ∃ (p : Addr) (ls' : List Str) (ns' : List Int), σ'[2]? = some (some (.ref p)) ∧ H' p = some (.lst (ls'.map V.str)) ∧ ZF x H H' ∧ H' x = some (.lst (ns'.map V.int)) ∧ OkT (k + 1) ls', ?_, ?_⟩
  case refine_2 =>
   rintro σ' H' ⟨p, ls', ns', g1, g2, g3, g4, g5⟩
   refine ⟨rfl, _, g1, "\n", p, ls', 400, rfl, rfl, SqL.of g2, fun y hy => ?_, ?_, kq _ _ ns' g3 g4 g5⟩
   ·obtain ⟨r, hr', rfl⟩ := g5.all y hy
    exact hr'.width (by omega)
   ·have q : ("\n" : Str).length = 1 := by decide +kernel
    have := g5.hi
    rw [q]
    omega
  refine ⟨_, rfl, rfl, _, rfl, Xj (fun c => ?_) (fun c => ?_)⟩
  ·refine ⟨_, rfl, .inl ⟨rfl, _, SqL.of e3⟩, L, _, _, rfl, rfl, e3, by rw [List.length_map, sizeLine_eq]; omega, ?_⟩
   refine ⟨L, ls ++ [("" : Str)], ns3, rfl, by rw [Zd, List.map_append]; rfl, zC x13 hL, by rw [Zv (Ne.symm nL)]; exact h3, ⟨by simp; omega, by simp; omega, fun y hy => ?_⟩⟩
   rcases List.mem_append.mp hy with hy | hy
   ·exact hall y hy
   ·rw [List.mem_singleton.mp hy]; exact okL_nil
  clear c
  refine ⟨_, rfl, rfl, _, rfl, Xj (fun c => ?_) (fun c => ?_)⟩
  ·refine ⟨_, rfl, _, rfl, j, rfl, L, _, rfl, SqL.of e3, fun p1 hp1 => ?_⟩
   rw [Xx _ _ (by rw [List.length_map]; omega), ← List.map_take]
   obtain ⟨H4, qN, t1, u1⟩ := ZV (o := .lst ((ls.take j).map V.str)) hp1
   rw [qN]
   refine ⟨_, rfl, _, rfl, _, _, rfl, rfl, ((j + 1 : Nat) : Int), rfl, L, _, rfl, SqL.of (t1 _ _ e3), fun p2 hp2 => ?_⟩
   rw [XG _ _ (by rw [List.length_map]; omega), ← List.map_drop]
   obtain ⟨H5, qN, t2, u2⟩ := ZV (o := .lst ((ls.drop (j + 1)).map V.str)) hp2
   rw [qN]
   refine ⟨p1, p2, _, _, rfl, rfl, t2 _ _ u1, u2, by simp [sizeLine_eq]; omega, fun p3 hp3 => ?_⟩
   rw [← List.map_append]
   obtain ⟨H6, qN, t3, u3⟩ := ZV (o := .lst ((ls.take j ++ ls.drop (j + 1)).map V.str)) hp3
   rw [qN]
   have t13 := t1.trans (t2.trans t3)
   exact ⟨p3, _, ns3, rfl, u3, x13.trans (Zn.x t13), t13 _ _ h3, ⟨by simp; omega, by simp; omega, fun w hm => (List.mem_append.mp hm).elim (tk _ w) (dr _ w)⟩⟩
  clear c
  refine ⟨_, rfl, rfl, _, rfl, Xj (fun c => ?_) (fun c => ?_)⟩
  ·refine ⟨_, rfl, _, rfl, j, rfl, L, _, rfl, SqL.of e3, fun p1 hp1 => ?_⟩
   rw [Xx _ _ (by rw [List.length_map]; omega), ← List.map_take]
   obtain ⟨H4, qN, t1, u1⟩ := ZV (o := .lst ((ls.take j).map V.str)) hp1
   rw [qN]
   refine ⟨_, rfl, _, rfl, L, _, _, _, rfl, rfl, SqL.of (t1 _ _ e3), Yo at1, by simp [sizeLine_eq], fun p2 hp2 => ?_⟩
   obtain ⟨H5, qN, t2, u2⟩ := ZV (o := .lst ([V.str ls[j]])) hp2
   rw [qN]
   refine ⟨p1, p2, _, _, rfl, rfl, t2 _ _ u1, u2, by simp [sizeLine_eq]; omega, fun p3 hp3 => ?_⟩
   obtain ⟨H6, qN, t3, u3⟩ := ZV (o := .lst ((ls.take j).map V.str ++ [V.str ls[j]])) hp3
   rw [qN]
   refine ⟨_, rfl, _, rfl, j, rfl, L, _, rfl, SqL.of ((t1.trans (t2.trans t3)) _ _ e3), fun p4 hp4 => ?_⟩
   rw [XG _ _ (by rw [List.length_map]; omega), ← List.map_drop]
   obtain ⟨H7, qN, t4, u4⟩ := ZV (o := .lst ((ls.drop j).map V.str)) hp4
   rw [qN]
   refine ⟨p3, p4, _, _, rfl, rfl, t4 _ _ u3, u4, by simp [sizeLine_eq]; omega, fun p5 hp5 => ?_⟩
   have t5 := Zf (o := .lst ((ls.take j).map V.str ++ [V.str ls[j]] ++ (ls.drop j).map V.str)) hp5
   have u5 : (upd H7 p5 (.lst ((ls.take j).map V.str ++ [V.str ls[j]] ++ (ls.drop j).map V.str))) p5 = some (.lst ((ls.take j ++ [ls[j]] ++ ls.drop j).map V.str)) := by rw [Zd, List.map_append, List.map_append]; rfl
   generalize upd H7 p5 (.lst ((ls.take j).map V.str ++ [V.str ls[j]] ++ (ls.drop j).map V.str)) = H8 at t5 u5 ⊢
   have t15 := t1.trans (t2.trans (t3.trans (t4.trans t5)))
   refine ⟨p5, _, ns3, rfl, u5, x13.trans (Zn.x t15), t15 _ _ h3, ⟨by simp; omega, by simp; omega, fun w hm => ?_⟩⟩
   rcases List.mem_append.mp hm with hm | hm
   ·rcases List.mem_append.mp hm with hm | hm
    ·exact tk _ w hm
    ·rw [List.mem_singleton.mp hm]; exact hall _ (List.getElem_mem hjl)
   ·exact dr _ w hm
  clear c
  refine ⟨_, rfl, rfl, _, rfl, Xj (fun c => ?_) (fun c => ?_)⟩
  ·refine ⟨_, rfl, _, rfl, j, rfl, L, _, rfl, SqL.of e3, fun p1 hp1 => ?_⟩
   rw [Xx _ _ (by rw [List.length_map]; omega), ← List.map_take]
   obtain ⟨H4, qN, t1, u1⟩ := ZV (o := .lst ((ls.take j).map V.str)) hp1
   rw [qN]
   refine ⟨_, rfl, _, rfl, _, _, rfl, rfl, ((j + 1 : Nat) : Int), rfl, L, _, rfl, SqL.of (t1 _ _ e3), fun p2 hp2 => ?_⟩
   rw [XG _ _ (by rw [List.length_map]; omega), ← List.map_drop]
   obtain ⟨H5, qN, t2, u2⟩ := ZV (o := .lst ((ls.drop (j + 1)).map V.str)) hp2
   rw [qN]
   refine ⟨p1, p2, _, _, rfl, rfl, t2 _ _ u1, u2, by simp [sizeLine_eq]; omega, fun p3 hp3 => ?_⟩
   obtain ⟨H6, qN, t3, u3⟩ := ZV (o := .lst ((ls.take j).map V.str ++ (ls.drop (j + 1)).map V.str)) hp3
   rw [qN]
   refine ⟨_, rfl, _, rfl, L, _, _, _, rfl, rfl, SqL.of ((t1.trans (t2.trans t3)) _ _ e3), Yo at1, by simp [sizeLine_eq], fun p4 hp4 => ?_⟩
   obtain ⟨H7, qN, t4, u4⟩ := ZV (o := .lst ([V.str ls[j]])) hp4
   rw [qN]
   refine ⟨p3, p4, _, _, rfl, rfl, t4 _ _ u3, u4, by simp [sizeLine_eq]; omega, fun p5 hp5 => ?_⟩
   have t5 := Zf (o := .lst ((ls.take j).map V.str ++ (ls.drop (j + 1)).map V.str ++ [V.str ls[j]])) hp5
   have u5 : (upd H7 p5 (.lst ((ls.take j).map V.str ++ (ls.drop (j + 1)).map V.str ++ [V.str ls[j]]))) p5 = some (.lst ((ls.take j ++ ls.drop (j + 1) ++ [ls[j]]).map V.str)) := by rw [Zd, List.map_append, List.map_append]; rfl
   generalize upd H7 p5 (.lst ((ls.take j).map V.str ++ (ls.drop (j + 1)).map V.str ++ [V.str ls[j]])) = H8 at t5 u5 ⊢
   have t15 := t1.trans (t2.trans (t3.trans (t4.trans t5)))
   refine ⟨p5, _, ns3, rfl, u5, x13.trans (Zn.x t15), t15 _ _ h3, ⟨by simp; omega, by simp; omega, fun w hm => ?_⟩⟩
   rcases List.mem_append.mp hm with hm | hm
   ·exact (List.mem_append.mp hm).elim (tk _ w) (dr _ w)
   ·rw [List.mem_singleton.mp hm]; exact hall _ (List.getElem_mem hjl)
  clear c
  refine ⟨_, rfl, rfl, _, rfl, Xj (fun c => ?_) (fun c => ?_)⟩
  ·refine ⟨_, rfl, _, rfl, j, rfl, L, _, rfl, SqL.of e3, fun p1 hp1 => ?_⟩
   rw [Xx _ _ (by rw [List.length_map]; omega), ← List.map_take]
   obtain ⟨H4, qN, t1, u1⟩ := ZV (o := .lst ((ls.take j).map V.str)) hp1
   rw [qN]
   refine ⟨_, rfl, _, rfl, j, rfl, _, rfl, _, _, rfl, rfl, ((j + 2 : Nat) : Int), rfl, L, _, rfl, SqL.of (t1 _ _ e3), fun p2 hp2 => ?_⟩
   rw [cutV_two _ _ (by rw [List.length_map]; omega), ← List.map_drop, ← List.map_take]
   obtain ⟨H5, qN, t2, u2⟩ := ZV (o := .lst (((ls.drop j).take 2).map V.str)) hp2
   rw [qN]
   refine ⟨1, rfl, -1, rfl, p2, _, rfl, rfl, SqL.of u2, fun p3 hp3 => ?_⟩
   rw [← List.map_reverse]
   obtain ⟨H6, qN, t3, u3⟩ := ZV (o := .lst (((ls.drop j).take 2).reverse.map V.str)) hp3
   rw [qN]
   refine ⟨p1, p3, _, _, rfl, rfl, (t2.trans t3) _ _ u1, u3, by simp [sizeLine_eq]; omega, fun p4 hp4 => ?_⟩
   obtain ⟨H7, qN, t4, u4⟩ := ZV (o := .lst ((ls.take j).map V.str ++ ((ls.drop j).take 2).reverse.map V.str)) hp4
   rw [qN]
   refine ⟨_, rfl, _, rfl, _, _, rfl, rfl, ((j + 2 : Nat) : Int), rfl, L, _, rfl, SqL.of ((t1.trans (t2.trans (t3.trans t4))) _ _ e3), fun p5 hp5 => ?_⟩
   rw [vE, ← List.map_drop]
   obtain ⟨H8, qN, t5, u5⟩ := ZV (o := .lst ((ls.drop (j + 2)).map V.str)) hp5
   rw [qN]
   refine ⟨p4, p5, _, _, rfl, rfl, t5 _ _ u4, u5, by simp [sizeLine_eq]; omega, fun p6 hp6 => ?_⟩
   have t6 := Zf (o := .lst ((ls.take j).map V.str ++ ((ls.drop j).take 2).reverse.map V.str ++ (ls.drop (j + 2)).map V.str)) hp6
   have u6 : (upd H8 p6 (.lst ((ls.take j).map V.str ++ ((ls.drop j).take 2).reverse.map V.str ++ (ls.drop (j + 2)).map V.str))) p6 = some (.lst ((ls.take j ++ ((ls.drop j).take 2).reverse ++ ls.drop (j + 2)).map V.str)) := by rw [Zd, List.map_append, List.map_append]
   generalize upd H8 p6 (.lst ((ls.take j).map V.str ++ ((ls.drop j).take 2).reverse.map V.str ++ (ls.drop (j + 2)).map V.str)) = H9 at t6 u6 ⊢
   have t16 := t1.trans (t2.trans (t3.trans (t4.trans (t5.trans t6))))
   have ll : (ls.take j ++ ((ls.drop j).take 2).reverse ++ ls.drop (j + 2)).length = ls.length := by
    simp only [List.length_append, List.length_reverse, List.length_take, List.length_drop]
    omega
   refine ⟨p6, _, ns3, rfl, u6, x13.trans (Zn.x t16), t16 _ _ h3, ⟨by rw [ll]; omega, by rw [ll]; omega, fun w hm => ?_⟩⟩
   rcases List.mem_append.mp hm with hm | hm
   ·exact (List.mem_append.mp hm).elim (tk _ w) (fun hm => dr _ w (List.mem_of_mem_take (List.mem_reverse.mp hm)))
   ·exact dr _ w hm
  clear c
  refine ⟨_, rfl, _, rfl, _, rfl, L, _, _, _, rfl, rfl, SqL.of e3, Yo at1, x, ns3, ls[j], k, rfl, h3, ht.all _ (List.getElem_mem hjl), hk, fun H5 z ns5 x5 h5 hz => ?_⟩
  have e5 := x5 _ _ nL e3
  refine ⟨_, rfl, _, rfl, L, _, j, rfl, rfl, e5, by rw [List.length_map]; exact hjl, ?_⟩
  refine ⟨L, ls.set j z, ns5, rfl, by rw [Zd, List.map_set], zC (x13.trans x5) hL, by rw [Zv (Ne.symm nL)]; exact h5, ⟨by simp; omega, by simp; omega, fun y hy => ?_⟩⟩
  rcases List.mem_or_eq_of_mem_set hy with hy | hy
  ·exact hall y hy
  ·rw [hy]; exact hz
def sp_law (K : PySem.W.Frag) (a : Adr) : Sp := fun vs H Q _ => ∃ (p : Addr) (ns : List Int), vs = [.ref p] ∧ SqL K H p (ns.map V.int) ∧ ns.length ≤ 63 ∧ ∀ H', Q (.bl true) H'
theorem ok_law {P : Program} {w : World} {K : PySem.W.Frag} {mg : Str → Option Value} {base : Heap} {a : Adr} (T : Txt K mg a) (hw : w.params = a.Pm) : Yr P w K mg base CX0 10 a.law a.law_fd ["_law_script"] (sp_law K a) := by
 have G_World_init := Vn (P := P) (w := w) (base := base) T hw
 have G_show_world := zd (P := P) (w := w) (base := base) T hw
 have G__law_cell_at := US (P := P) (w := w) (base := base) T hw
 have G__law_stream := qw (P := P) (w := w) (base := base) T hw
 have G__law_pool := yz (P := P) (w := w) (base := base) T hw
 have G__law_parts := ze (P := P) (w := w) (base := base) T hw
 have G__law_word := yx (P := P) (w := w) (base := base) T hw
 have G__law_due := xI (P := P) (w := w) (base := base) T hw
 have G__law_spoilt := U3 (P := P) (w := w) (base := base) T hw
 refine T.f_law.ok XJ (fun vs H Q E h => ?_) (fun cdv A outer s H vs Q E hr h => ?_)
 ·obtain ⟨p, ns, rfl, _⟩ := h
  rfl
 ·obtain ⟨p, ns, rfl, hq, hz, k⟩ := h
  refine ⟨_, (@Ze _ _ _ _ _ (@ZE _ _ (1) _ _ _ _ XJ.nd
   rfl
   (by first | exact Or.inl rfl | exact Or.inr rfl)
   (Zm G__law_stream (hr.mono (by decide)) rfl T.g__law_stream T.f__law_stream.kp T.n__law_stream .nil ZG (@Za _ _ _ _ _ (Zm G__law_cell_at (hr.mono (by decide)) rfl T.g__law_cell_at T.f__law_cell_at.kp T.n__law_cell_at .nil ZG (@Za _ _ _ _ _ (pv 0)
   (@Za _ _ _ _ _ Zh
   Zc
   (by rfl))
   (by rfl)))
   (@Za _ _ _ _ _ Zh
   Zc
   (by rfl))
   (by rfl)))
   (by rfl)
   (by first | exact .inl rfl | exact .inr rfl | assumption))
   (@Ze _ _ _ _ _ (ps_asg (Zm G__law_parts (hr.mono (by decide)) rfl T.g__law_parts T.f__law_parts.kp T.n__law_parts .nil ZG (@Za _ _ _ _ _ (pv 1)
   (@Za _ _ _ _ _ (Zm G__law_pool (hr.mono (by decide)) rfl T.g__law_pool T.f__law_pool.kp T.n__law_pool .nil ZG (@Za _ _ _ _ _ (pv 1)
   Zc
   (by rfl)))
   Zc
   (by rfl))
   (by rfl))) (yQ (K := K) (n := 4) rfl rfl (XQ (Zu (i := 2) XJ.nd rfl (by first | exact Or.inl rfl | exact Or.inr rfl)) (XQ (Zu (i := 3) XJ.nd rfl (by first | exact Or.inl rfl | exact Or.inr rfl)) (XQ (Zu (i := 4) XJ.nd rfl (by first | exact Or.inl rfl | exact Or.inr rfl)) (XQ (Zu (i := 5) XJ.nd rfl (by first | exact Or.inl rfl | exact Or.inr rfl)) yO))))))
   (@Ze _ _ _ _ _ (@ZE _ _ (6) _ _ _ _ XJ.nd
   rfl
   (by first | exact Or.inl rfl | exact Or.inr rfl)
   (Zm G_show_world (hr.mono (by decide)) rfl T.g_show_world T.f_show_world.kp T.n_show_world .nil ZG (@Za _ _ _ _ _ (pe_make T.mk_World G_World_init (hr.mono (by decide)) rfl T.g_World T.n_World_init .nil ZG (@YB _ _ _ _ _ (pv 2)
   (@YB _ _ _ _ _ (pv 3)
   (@YB _ _ _ _ _ (pv 4)
   (@YB _ _ _ _ _ (pv 5)
   Zc
   (by rfl))
   (by rfl))
   (by rfl))
   (by rfl)))
   Zc
   (by rfl)))
   (by rfl)
   (by first | exact .inl rfl | exact .inr rfl | assumption))
   (@Ze _ _ _ _ _ (@Z4 _ _ _ _ _ _ _ _ (PW.pt (WJ (@Zs _ _ _ _ _ _ _ _ qy
   (Zm G__law_word (hr.mono (by decide)) rfl T.g__law_word T.f__law_word.kp T.n__law_word .nil ZG (@Za _ _ _ _ _ (pv 6)
   Zc
   (by rfl)))
   Zl
   (Zw _)) (WJ (@Zs _ _ _ _ _ _ _ _ qy
   (Zm G__law_due (hr.mono (by decide)) rfl T.g__law_due T.f__law_due.kp T.n__law_due .nil ZG (@Za _ _ _ _ _ (pv 6)
   Zc
   (by rfl)))
   Zl
   (Zw _)) (Wu (@Zs _ _ _ _ _ _ _ _ qy
   (Zm G__law_word (hr.mono (by decide)) rfl T.g__law_word T.f__law_word.kp T.n__law_word .nil ZG (@Za _ _ _ _ _ (@Zq _ _ _ _ _ _ _ _ Xo
   (pv 6)
   Zl)
   Zc
   (by rfl)))
   Zl
   (Zw _))))))
   (@Zg _ _ _ (@Zt _ _ _ _ XN))
   Zz)
   (@Ze _ _ _ _ _ (@ZE _ _ (7) _ _ _ _ XJ.nd
   rfl
   (by first | exact Or.inl rfl | exact Or.inr rfl)
   (Zm G__law_stream (hr.mono (by decide)) rfl T.g__law_stream T.f__law_stream.kp T.n__law_stream .nil ZG (@Za _ _ _ _ _ (Zm G__law_cell_at (hr.mono (by decide)) rfl T.g__law_cell_at T.f__law_cell_at.kp T.n__law_cell_at .nil ZG (@Za _ _ _ _ _ (pv 0)
   (@Za _ _ _ _ _ Zh
   Zc
   (by rfl))
   (by rfl)))
   (@Za _ _ _ _ _ Zh
   Zc
   (by rfl))
   (by rfl)))
   (by rfl)
   (by first | exact .inl rfl | exact .inr rfl | assumption))
   (@Ze _ _ _ _ _ (VB PassesOwn.never rfl (Wn rfl T.b_range (@Za _ _ _ _ _ Zh
   Zc
   (by rfl))) (Zu (i := 8) XJ.nd rfl (by first | exact Or.inl rfl | exact Or.inr rfl)) (@Ze _ _ _ _ _ (@ZE _ _ (9) _ _ _ _ XJ.nd
   rfl
   (by first | exact Or.inl rfl | exact Or.inr rfl)
   (Zm G__law_spoilt (hr.mono (by decide)) rfl T.g__law_spoilt T.f__law_spoilt.kp T.n__law_spoilt .nil ZG (@Za _ _ _ _ _ (pv 7)
   (@Za _ _ _ _ _ (pv 6)
   Zc
   (by rfl))
   (by rfl)))
   (by rfl)
   (by first | exact .inl rfl | exact .inr rfl | assumption))
   (qT (@Z4 _ _ _ _ _ _ _ _ (@Zs _ _ _ _ _ _ _ _ Xl
   (@Zq _ _ _ _ _ _ _ _ Xg
   (pv 8)
   Zh)
   Zh
   (Zw _))
   (@Zg _ _ _ (@ZE _ _ (9) _ _ _ _ XJ.nd
   rfl
   (by first | exact Or.inl rfl | exact Or.inr rfl)
   (Zm G__law_spoilt (hr.mono (by decide)) rfl T.g__law_spoilt T.f__law_spoilt.kp T.n__law_spoilt .nil ZG (@Za _ _ _ _ _ (pv 7)
   (@Za _ _ _ _ _ (pv 9)
   Zc
   (by rfl))
   (by rfl)))
   (by rfl)
   (by first | exact .inl rfl | exact .inr rfl | assumption)))
   Zz)
     (@Zg _ _ _ (@Z4 _ _ _ _ _ _ _ _ (@Zs _ _ _ _ _ _ _ _ qy
   (Zm G__law_word (hr.mono (by decide)) rfl T.g__law_word T.f__law_word.kp T.n__law_word .nil ZG (@Za _ _ _ _ _ (pv 9)
   Zc
   (by rfl)))
   (Zm G__law_due (hr.mono (by decide)) rfl T.g__law_due T.f__law_due.kp T.n__law_due .nil ZG (@Za _ _ _ _ _ (pv 9)
   Zc
   (by rfl)))
   (Zw _))
   (@Zg _ _ _ (@Zt _ _ _ _ XN))
   Zz)))))
   (@Ze _ _ _ _ _ (VB PassesOwn.never rfl (ZO (K := K) rfl (@Z0 _ _ _ _ (@YB _ _ _ _ _ qi
   (@YB _ _ _ _ _ Zh
   (@YB _ _ _ _ _ (@Z0 _ _ _ _ (@Za _ _ _ _ _ (pv 6)
   Zc
   (by rfl)))
   (@YB _ _ _ _ _ (@pe_tup _ _ _ _ _ (@Za _ _ _ _ _ (pv 6)
   Zc
   (by rfl)))
   (@YB _ _ _ _ _ Zl
   Zc
   (by rfl))
   (by rfl))
   (by rfl))
   (by rfl))
   (by rfl)))) (Zu (i := 10) XJ.nd rfl (by first | exact Or.inl rfl | exact Or.inr rfl)) (@Zg _ _ _ (@Z4 _ _ _ _ _ _ _ _ (@Zs _ _ _ _ _ _ _ _ qy
   (Zm G__law_word (hr.mono (by decide)) rfl T.g__law_word T.f__law_word.kp T.n__law_word .nil ZG (@Za _ _ _ _ _ (pv 10)
   Zc
   (by rfl)))
   Zl
   (Zw _))
   (@Zg _ _ _ (@Zt _ _ _ _ XN))
   Zz)))
   (@Ze _ _ _ _ _ (@ZE _ _ (11) _ _ _ _ XJ.nd
   rfl
   (by first | exact Or.inl rfl | exact Or.inr rfl)
   (Xi PySem.F.plainAttrs_str PySem.F.slot_str_join PySem.F.type_str_join (XO (K := K) rfl) Zl (@Za _ _ _ _ _ (@Zq _ _ _ _ _ _ _ _ YK
   (@Zq _ _ _ _ _ _ _ _ YK
   (@Zq _ _ _ _ _ _ _ _ Uj
   (@Z0 _ _ _ _ (@Za _ _ _ _ _ Zl
   Zc
   (by rfl)))
   Zh)
   (@Zq _ _ _ _ _ _ _ _ Uj
   (@Z0 _ _ _ _ (@Za _ _ _ _ _ Zl
   Zc
   (by rfl)))
   Zh))
   (@Z0 _ _ _ _ (@Za _ _ _ _ _ Zl
   (@Za _ _ _ _ _ Zl
   Zc
   (by rfl))
   (by rfl))))
   Zc
   (by rfl)))
   (by rfl)
   (by first | exact .inl rfl | exact .inr rfl | assumption))
   (@Zg _ _ _ (@Zt _ _ _ _ (Vs (@XM _ _ _ _ _ _ _ _ Xl
   (Zm G__law_word (hr.mono (by decide)) rfl T.g__law_word T.f__law_word.kp T.n__law_word .nil ZG (@Za _ _ _ _ _ (pv 11)
   Zc
   (by rfl)))
   Zl
   (Zw _)) (Vy (@XM _ _ _ _ _ _ _ _ Xl
   (Zm G__law_word (hr.mono (by decide)) rfl T.g__law_word T.f__law_word.kp T.n__law_word .nil ZG (@Za _ _ _ _ _ Zl
   Zc
   (by rfl)))
   Zl
   (Zw _)))))))))))))), ?_⟩
  refine ⟨_, rfl, p, ns, 0, rfl, hq, fun n0 => ⟨n0, 130, rfl, by decide, fun H1 x ns1 s1 x0 h1 => ?_⟩⟩
  refine ⟨_, rfl, _, rfl, x, ns1, rfl, h1, fun H2 q ss ns2 x2 h2 q0 q2 snd snm sl => ?_⟩
  have nq : q ≠ x := fun e => by rw [e, h1] at q0; cases q0
  refine ⟨x, ns2, q, ss, rfl, h2, q2, nq, snd, snm, sl, fun H3 t v1 v2 v3 v4 d ns3 x3 h3 t0 t3 pp0 gd fw => ?_⟩
  have pp : Y9 H3 v1 v2 v3 v4 d := pp0.mono New.sub
  have S3 : Zn H H3 := ((Zn.x s1).trans (x2.trans x3)).same x0
  clear pp0 t0 q2 h2 x2 q0 nq snd snm sl
  refine ⟨t, _, rfl, SqT.of t3, rfl, _, _, rfl, _, _, rfl, _, _, rfl, _, _, rfl, rfl, ?_⟩
  refine ⟨_, rfl, _, rfl, _, rfl, _, rfl, ?_⟩
  intro w dw nw ndw new
  have sm : Zn H3 (upd (upd H3 dw (.own w)) w (.ins a.C_World dw [])) := (Zf ndw).trans (Zf (by rw [Zv (Ne.symm new)]; exact nw))
  refine ⟨w, dw, _, _, _, _, d, rfl, Zd, pp.mono sm, gd, fun H4 x4 wa => ⟨rfl, w, d, rfl, wa, gd, fw, fun H5 s5 => ?_⟩⟩
  have s35 : Zn H3 H5 := (show Zn H3 H4 from fun b o e => x4 b o (Yg e nw) (sm b o e)).trans s5
  have S5 := S3.trans s35
  clear sm x4 nw ndw new t3 h3 wa s5 pp s35 S3 x3 x0 h1 s1
  have gs := gd.sortW
  have fs : Few (sortW d) := fun ss hs => by
   obtain ⟨zs, hz, rfl⟩ := List.mem_map.mp hs
   rw [(YN zs).length_eq]
   exact fw zs hz
  have ok0 := okT_text gs fs
  obtain ⟨rs, tm⟩ := ok0.tame (by decide)
  have hread : XW rs = "read" := by
   have e := tm.rows
   rw [show Str.join "\n" (YC (sortW d)) = UA (sortW d) from rfl, rows_text gs] at e
   rw [← e]
   exact read_text gs (srtW_sort gd)
  have hjn : Str.join "\n" (YC (sortW d)) ++ ("\n" : Str) = Str.join "\n" (YC (sortW d) ++ [("" : Str)]) := join_nl (fun e => by have := ok0.lo; rw [e] at this; simp at this)
  obtain ⟨rs1, tm1⟩ := (okT_nl ok0).tame (by decide)
  have hnl := word_nl ok0 tm1
  have tsz := ok0.size (by decide)
  have edef : UA (sortW d) = Str.join "\n" (YC (sortW d)) := rfl
  rw [edef]
  generalize YC (sortW d) = ls at ok0 tm hjn tm1 tsz
  refine ⟨_, rfl, .str (Str.join "\n" ls), _, rfl, .inl ⟨_, rs, rfl, tm, rfl⟩, fun H6 s6 => ?_⟩
  rw [hread]
  refine ⟨rfl, _, rfl, iteNS rfl ⟨_, rfl, _, rs, rfl, tm, fun H7 s7 => ?_⟩⟩
  rw [hread]
  refine ⟨rfl, _, rfl, iteNS rfl ⟨_, rfl, _, _, rfl, rfl, ?_, _, _, rfl, .inl ⟨_, rs1, rfl, ?_, rfl⟩, fun H8 s8 => ?_⟩⟩
  ·have : ("\n" : Str).length = 1 := by decide +kernel
   rw [this, sizeLine_eq]
   omega
  ·rw [hjn]; exact tm1
  rw [hnl]
  refine ⟨rfl, _, rfl, iteNS rfl ?_⟩
  have S8 := S5.trans (s6.trans (s7.trans s8))
  clear s6 s7 s8 S5 hread hnl hjn tm1 edef
  refine ⟨_, rfl, p, ns, 1, rfl, S8.seq hq, fun n1 => ⟨n1, 80, rfl, by decide, fun H9 y ms s9 y0 h9 => ?_⟩⟩
  refine ⟨12, rfl, by decide, by decide, ?_⟩
  refine Uf (fun i σ H' => ∃ (z1 z2 : Option V) (ms' : List Int), σ = [some (.ref p), some (.ref x), some v1, some v2, some v3, some v4, some (.str (Str.join "\n" ls)), some (.ref y), z1, z2, none, none] ∧ H' y = some (.lst (ms'.map V.int))) ?_ ?_ ?_
  ·exact ⟨_, _, ms, rfl, h9⟩
  ·rintro i σ H10 hi ⟨z1, z2, ms1, rfl, h10⟩
   refine ⟨_, rfl, _, rfl, y, ms1, ls, 0, rfl, h10, ok0, by decide, fun H11 ls1 ms2 x11 h11 ok1 => ?_⟩
   refine ⟨fun σ' H' => ∃ (ls2 : List Str) (ms' : List Int) (kk : Nat), σ' = [some (.ref p), some (.ref x), some v1, some v2, some v3, some v4, some (.str (Str.join "\n" ls)), some (.ref y), some (.int (0 + i)), some (.str (Str.join "\n" ls2)), none, none] ∧ H' y = some (.lst (ms'.map V.int)) ∧ OkT kk ls2 ∧ kk ≤ 2, ?_, ?_⟩
   ·refine ⟨_, rfl, _, _, rfl, rfl, by simp, rfl, _, rfl, Xj (fun c => ?_) (fun c => ?_)⟩
    ·refine ⟨_, rfl, _, rfl, y, ms2, ls1, 1, rfl, h11, ok1, by decide, fun H12 ls2 ms3 x12 h12 ok2 => ?_⟩
     exact ⟨ls2, ms3, 2, rfl, h12, ok2, by decide⟩
    ·exact ⟨ls1, ms2, 1, rfl, h11, ok1, by decide⟩
   ·rintro σ' H12 ⟨ls2, ms3, kk, rfl, h12, ok2, hkk⟩
    obtain ⟨rs2, tm2⟩ := ok2.tame hkk
    refine ⟨_, rfl, .str (Str.join "\n" ls2), _, rfl, .inl ⟨_, rs2, rfl, tm2, rfl⟩, fun H13 s13 => ⟨_, rfl, _, rs2, rfl, tm2, fun H14 s14 => ⟨rfl, _, rfl, iteNS rfl ?_⟩⟩⟩
    exact ⟨_, _, ms3, rfl, (s13.trans s14) _ _ h12⟩
  rintro σ H10 ⟨z1, z2, ms1, rfl, h10⟩
  clear h10 h9 y0 s9 S8 hq
  refine ⟨_, rfl, by rw [sizeLine_eq]; simp, fun L1 hL1 => ?_⟩
  obtain ⟨H11, qN, t1, u1⟩ := ZV (o := .lst [.str (Str.join "\n" ls)]) hL1
  rw [qN]
  refine ⟨_, rfl, by rw [sizeLine_eq]; simp, fun L2 hL2 => ?_⟩
  obtain ⟨H12, qN, t2, u2⟩ := ZV (o := .tup [.str (Str.join "\n" ls)]) hL2
  rw [qN]
  refine ⟨by rw [sizeLine_eq]; simp, fun L3 hL3 => ?_⟩
  obtain ⟨H13, qN, t3, u3⟩ := ZV (o := .lst [.non, .int 7, .ref L1, .ref L2, .str ""]) hL3
  rw [qN]
  have u1' := (t2.trans t3) _ _ u1
  have u2' := t3 _ _ u2
  refine ⟨L3, rfl, ⟨_, SqL.of u3⟩, ?_⟩
  refine qP (xs := [.non, .int 7, .ref L1, .ref L2, .str ""]) (fun i σ H' => Zn H13 H' ∧ ∃ z3 : Option V, σ = [some (.ref p), some (.ref x), some v1, some v2, some v3, some v4, some (.str (Str.join "\n" ls)), some (.ref y), z1, z2, z3, none]) ?_ ?_ ?_ ?_
  ·exact ⟨.refl _, _, rfl⟩
  ·rintro i σ H' _ ⟨s', _⟩
   exact SqL.of (s' _ _ u3)
  ·rintro i v σ H14 hx ⟨s14, z3, rfl⟩
   have hm := List.mem_of_getElem? hx
   have key : Told H14 v "text" := by
    simp only [List.mem_cons, List.not_mem_nil, or_false] at hm
    rcases hm with rfl | rfl | rfl | rfl | rfl
    ·exact .inr ⟨.non, rfl, rfl⟩
    ·exact .inr ⟨.int _, rfl, rfl⟩
    ·have q := s14 _ _ u1'
     exact .inr ⟨.lst q, by simp [XB, q], rfl⟩
    ·have q := s14 _ _ u2'
     exact .inr ⟨.tup q, by simp [XB, q], rfl⟩
    ·exact .inl ⟨_, _, rfl, tame_nil, word_nil.symm⟩
   exact ⟨_, rfl, v, _, rfl, key, fun H15 s15 => ⟨rfl, _, rfl, iteNS rfl ⟨s14.trans s15, _, rfl⟩⟩⟩
  rintro σ H14 ⟨s14, z3, rfl⟩
  clear s14 u1' u2' t1 t2 t3 u1 u2 u3
  obtain ⟨rsG, tmG⟩ := W5.tame (by decide)
  have hG := vG tmG
  obtain ⟨rsS, tmS⟩ := zG.tame (by decide)
  have hS := vI tmS
  rw [← ve] at tmS
  refine ⟨rfl, by simp [sizeLine_eq], fun a1 ha1 => ?_⟩
  obtain ⟨H15, qN, t1, u1⟩ := ZV (o := .lst [.str "room"]) ha1
  rw [qN]
  refine ⟨a1, _, _, rfl, rfl, u1, by decide, by decide, by simp [sizeLine_eq], fun a2 ha2 => ?_⟩
  rw [show (21 : Int).toNat = 21 from rfl, W9]
  obtain ⟨H16, qN, t2, u2⟩ := ZV (o := .lst (List.replicate 21 (V.str "room"))) ha2
  rw [qN]
  refine ⟨by simp [sizeLine_eq], fun a3 ha3 => ?_⟩
  obtain ⟨H17, qN, t3, u3⟩ := ZV (o := .lst [.str "ways 0"]) ha3
  rw [qN]
  refine ⟨a3, _, _, rfl, rfl, u3, by decide, by decide, by simp [sizeLine_eq], fun a4 ha4 => ?_⟩
  rw [show (21 : Int).toNat = 21 from rfl, W9]
  obtain ⟨H18, qN, t4, u4⟩ := ZV (o := .lst (List.replicate 21 (V.str "ways 0"))) ha4
  rw [qN]
  refine ⟨a2, a4, _, _, rfl, rfl, (t3.trans t4) _ _ u2, u4, by simp [sizeLine_eq], fun a5 ha5 => ?_⟩
  obtain ⟨H19, qN, t5, u5⟩ := ZV (o := .lst (List.replicate 21 (V.str "room") ++ List.replicate 21 (V.str "ways 0"))) ha5
  rw [qN]
  refine ⟨by simp [sizeLine_eq], fun a6 ha6 => ?_⟩
  obtain ⟨H20, qN, t6, u6⟩ := ZV (o := .lst [.str "starts 0", .str "fair"]) ha6
  rw [qN]
  refine ⟨a5, a6, _, _, rfl, rfl, t6 _ _ u5, u6, by simp [sizeLine_eq], fun a7 ha7 => ?_⟩
  have t7 := Zf (o := .lst (List.replicate 21 (V.str "room") ++ List.replicate 21 (V.str "ways 0") ++ [.str "starts 0", .str "fair"])) ha7
  have u7 : (upd H20 a7 (.lst (List.replicate 21 (V.str "room") ++ List.replicate 21 (V.str "ways 0") ++ [.str "starts 0", .str "fair"]))) a7 = some (.lst (WL.map V.str)) := by rw [Zd]; unfold WL; rw [List.map_append, List.map_append, List.map_replicate, List.map_replicate]; rfl
  generalize upd H20 a7 (.lst (List.replicate 21 (V.str "room") ++ List.replicate 21 (V.str "ways 0") ++ [.str "starts 0", .str "fair"])) = H21 at t7 u7 ⊢
  refine ⟨"\n", a7, WL, 400, rfl, rfl, SqL.of u7, fun y hy => ?_, ?_, ?_⟩
  ·obtain ⟨r, hr', rfl⟩ := W5.all y hy
   exact hr'.width (by decide)
  ·have q : ("\n" : Str).length = 1 := by decide +kernel
   have := W5.hi
   rw [q]
   omega
  refine ⟨_, rfl, _, _, rfl, .inl ⟨_, rsG, rfl, tmG, rfl⟩, fun H22 s22 => ?_⟩
  rw [hG]
  refine ⟨rfl, _, rfl, ?_⟩
  rw [decide_eq_true rfl]
  refine Z2 ⟨_, _, rfl, .inl ⟨_, rsS, rfl, tmS, rfl⟩, fun H23 s23 => ?_⟩
  rw [hS]
  refine ⟨rfl, ?_⟩
  rw [decide_eq_true rfl]
  exact k _
def spL (K : PySem.W.Frag) : Sp := fun vs H Q _ => ∃ (p : Addr) (ns : List Int), vs = [.ref p] ∧ SqL K H p (ns.map V.int) ∧ ns.length ≤ 63 ∧ ∀ H', Q (.bl true) H'
theorem all_mk {l : PySem.W.OpenLaw} {w : World} {K : PySem.W.Frag} {h : Heap} {mg : Str → Option Value} {fa : Addr} (X : K.In h) (G : h.Ns mainGlobals mg) (hfa : mg "law" = some (.ref fa))
  {f0 f1 f2 f3 f4 f5 f6 f7 f8 f9 f10 f11 f12 f13 f14 f15 f16 f17 f18 f19 f20 f21 f22 f23 f24 f25 f26 f27 f28 f29 f30 f31 f32 f33 : Addr}
  {C_World C_TimeError C_BadWorld C_BadSentence C_BadMachine C_NoText C_NoLine C_NoWorld : Addr}
  {od0 an0 od1 an1 od2 an2 od3 an3 od4 an4 od5 an5 od6 an6 od7 an7 od8 an8 od9 an9 od10 an10 od11 an11 od12 an12 od13 an13 od14 an14 od15 an15 od16 an16 od17 an17 od18 an18 od19 an19 od20 an20 od21 an21 od22 an22 od23 an23 od24 an24 od25 an25 od26 an26 od27 an27 od28 an28 od29 an29 od30 an30 od31 an31 od32 an32 od33 an33 : Option Addr}
  {sl0 sl1 sl2 sl3 sl4 sl5 sl6 sl7 sl8 sl9 sl10 sl11 sl12 sl13 sl14 sl15 sl16 sl17 sl18 sl19 sl20 sl21 sl22 sl23 sl24 sl25 sl26 sl27 sl28 sl29 sl30 sl31 sl32 sl33 : Array (Option Value)}
  {oc0 kV0 dc0 pm0 cd0 ct0 oc1 kV1 dc1 pm1 cd1 ct1 oc2 kV2 dc2 pm2 cd2 ct2 oc3 kV3 dc3 pm3 cd3 ct3 oc4 kV4 dc4 pm4 cd4 ct4 oc5 kV5 dc5 pm5 cd5 ct5 oc6 kV6 dc6 pm6 cd6 ct6 oc7 kV7 dc7 pm7 cd7 ct7 oc8 kV8 dc8 pm8 cd8 ct8 oc9 kV9 dc9 pm9 cd9 ct9 oc10 kV10 dc10 pm10 cd10 ct10 oc11 kV11 dc11 pm11 cd11 ct11 oc12 kV12 dc12 pm12 cd12 ct12 oc13 kV13 dc13 pm13 cd13 ct13 oc14 kV14 dc14 pm14 cd14 ct14 oc15 kV15 dc15 pm15 cd15 ct15 oc16 kV16 dc16 pm16 cd16 ct16 oc17 kV17 dc17 pm17 cd17 ct17 oc18 kV18 dc18 pm18 cd18 ct18 oc19 kV19 dc19 pm19 cd19 ct19 oc20 kV20 dc20 pm20 cd20 ct20 oc21 kV21 dc21 pm21 cd21 ct21 oc22 kV22 dc22 pm22 cd22 ct22 oc23 kV23 dc23 pm23 cd23 ct23 oc24 kV24 dc24 pm24 cd24 ct24 oc25 kV25 dc25 pm25 cd25 ct25 oc26 kV26 dc26 pm26 cd26 ct26 oc27 kV27 dc27 pm27 cd27 ct27 oc28 kV28 dc28 pm28 cd28 ct28 oc29 kV29 dc29 pm29 cd29 ct29 oc30 kV30 dc30 pm30 cd30 ct30 oc31 kV31 dc31 pm31 cd31 ct31 oc32 kV32 dc32 pm32 cd32 ct32 oc33 kV33 dc33 pm33 cd33 ct33 : Value}
  {tk_LETTERS tk_MOST_LETTERS tk_MOST_ROOMS tk_MOST_FAIR tk_FIGURES tk_MOST_FIGURES : Tok}
  (aC_World : PySem.W.nsIn K mainGlobals "World" = some (some (.ref C_World)))
  (aC_TimeError : PySem.W.nsIn K mainGlobals "TimeError" = some (some (.ref C_TimeError)))
  (aC_BadWorld : PySem.W.nsIn K mainGlobals "BadWorld" = some (some (.ref C_BadWorld)))
  (aC_BadSentence : PySem.W.nsIn K mainGlobals "BadSentence" = some (some (.ref C_BadSentence)))
  (aC_BadMachine : PySem.W.nsIn K mainGlobals "BadMachine" = some (some (.ref C_BadMachine)))
  (aC_NoText : PySem.W.nsIn K mainGlobals "NoText" = some (some (.ref C_NoText)))
  (aC_NoLine : PySem.W.nsIn K mainGlobals "NoLine" = some (some (.ref C_NoLine)))
  (aC_NoWorld : PySem.W.nsIn K mainGlobals "NoWorld" = some (some (.ref C_NoWorld)))
  (a0 : PySem.W.nsIn K mainGlobals "is_whole" = some (some (.ref f0)))
  (l0 : K.lookup f0 = some ⟨oc0, od0, .func (PySem.W.fnOf "is_whole" "is_whole" (Zj YS) (Zi YS) (Zb YS) .none kV0 dc0 pm0 an0 cd0 ct0), sl0⟩)
  (c0 : PySem.W.codeIn K cd0 "is_whole" = true)
  (k0 : PySem.W.keepIn K (.ref f0) = true)
  (a1 : PySem.W.nsIn K mainGlobals "is_name" = some (some (.ref f1)))
  (l1 : K.lookup f1 = some ⟨oc1, od1, .func (PySem.W.fnOf "is_name" "is_name" (Zj YX) (Zi YX) (Zb YX) .none kV1 dc1 pm1 an1 cd1 ct1), sl1⟩)
  (c1 : PySem.W.codeIn K cd1 "is_name" = true)
  (k1 : PySem.W.keepIn K (.ref f1) = true)
  (a2 : PySem.W.nsIn K mainGlobals "is_room" = some (some (.ref f2)))
  (l2 : K.lookup f2 = some ⟨oc2, od2, .func (PySem.W.fnOf "is_room" "is_room" (Zj Y4) (Zi Y4) (Zb Y4) .none kV2 dc2 pm2 an2 cd2 ct2), sl2⟩)
  (c2 : PySem.W.codeIn K cd2 "is_room" = true)
  (k2 : PySem.W.keepIn K (.ref f2) = true)
  (a3 : PySem.W.nsIn K mainGlobals "are_names" = some (some (.ref f3)))
  (l3 : K.lookup f3 = some ⟨oc3, od3, .func (PySem.W.fnOf "are_names" "are_names" (Zj Yx) (Zi Yx) (Zb Yx) .none kV3 dc3 pm3 an3 cd3 ct3), sl3⟩)
  (c3 : PySem.W.codeIn K cd3 "are_names" = true)
  (k3 : PySem.W.keepIn K (.ref f3) = true)
  (a4 : PySem.W.nsIn K mainGlobals "are_rooms" = some (some (.ref f4)))
  (l4 : K.lookup f4 = some ⟨oc4, od4, .func (PySem.W.fnOf "are_rooms" "are_rooms" (Zj Yv) (Zi Yv) (Zb Yv) .none kV4 dc4 pm4 an4 cd4 ct4), sl4⟩)
  (c4 : PySem.W.codeIn K cd4 "are_rooms" = true)
  (k4 : PySem.W.keepIn K (.ref f4) = true)
  (a5 : PySem.W.findIn K (.ref C_World) "__init__" = some (some (.ref f5)))
  (i5 : PySem.W.isFn K (.ref f5) = true)
  (l5 : K.lookup f5 = some ⟨oc5, od5, .func (PySem.W.fnOf "__init__" "World.__init__" (Zj Ye) (Zi Ye) (Zb Ye) .none kV5 dc5 pm5 an5 cd5 ct5), sl5⟩)
  (c5 : PySem.W.codeIn K cd5 "World.__init__" = true)
  (k5 : PySem.W.keepIn K (.ref f5) = true)
  (a6 : PySem.W.findIn K (.ref C_World) "many" = some (some (.ref f6)))
  (i6 : PySem.W.isFn K (.ref f6) = true)
  (l6 : K.lookup f6 = some ⟨oc6, od6, .func (PySem.W.fnOf "many" "World.many" (Zj Yq) (Zi Yq) (Zb Yq) .none kV6 dc6 pm6 an6 cd6 ct6), sl6⟩)
  (c6 : PySem.W.codeIn K cd6 "World.many" = true)
  (k6 : PySem.W.keepIn K (.ref f6) = true)
  (a7 : PySem.W.findIn K (.ref C_World) "signs_of" = some (some (.ref f7)))
  (i7 : PySem.W.isFn K (.ref f7) = true)
  (l7 : K.lookup f7 = some ⟨oc7, od7, .func (PySem.W.fnOf "signs_of" "World.signs_of" (Zj ZQ) (Zi ZQ) (Zb ZQ) .none kV7 dc7 pm7 an7 cd7 ct7), sl7⟩)
  (c7 : PySem.W.codeIn K cd7 "World.signs_of" = true)
  (k7 : PySem.W.keepIn K (.ref f7) = true)
  (a8 : PySem.W.findIn K (.ref C_World) "ways_on" = some (some (.ref f8)))
  (i8 : PySem.W.isFn K (.ref f8) = true)
  (l8 : K.lookup f8 = some ⟨oc8, od8, .func (PySem.W.fnOf "ways_on" "World.ways_on" (Zj ZX) (Zi ZX) (Zb ZX) .none kV8 dc8 pm8 an8 cd8 ct8), sl8⟩)
  (c8 : PySem.W.codeIn K cd8 "World.ways_on" = true)
  (k8 : PySem.W.keepIn K (.ref f8) = true)
  (a9 : PySem.W.findIn K (.ref C_World) "begins" = some (some (.ref f9)))
  (i9 : PySem.W.isFn K (.ref f9) = true)
  (l9 : K.lookup f9 = some ⟨oc9, od9, .func (PySem.W.fnOf "begins" "World.begins" (Zj Ya) (Zi Ya) (Zb Ya) .none kV9 dc9 pm9 an9 cd9 ct9), sl9⟩)
  (c9 : PySem.W.codeIn K cd9 "World.begins" = true)
  (k9 : PySem.W.keepIn K (.ref f9) = true)
  (a10 : PySem.W.findIn K (.ref C_World) "fair_signs" = some (some (.ref f10)))
  (i10 : PySem.W.isFn K (.ref f10) = true)
  (l10 : K.lookup f10 = some ⟨oc10, od10, .func (PySem.W.fnOf "fair_signs" "World.fair_signs" (Zj ZH) (Zi ZH) (Zb ZH) .none kV10 dc10 pm10 an10 cd10 ct10), sl10⟩)
  (c10 : PySem.W.codeIn K cd10 "World.fair_signs" = true)
  (k10 : PySem.W.keepIn K (.ref f10) = true)
  (a11 : PySem.W.nsIn K mainGlobals "makes_world" = some (some (.ref f11)))
  (l11 : K.lookup f11 = some ⟨oc11, od11, .func (PySem.W.fnOf "makes_world" "makes_world" (Zj ZY) (Zi ZY) (Zb ZY) .none kV11 dc11 pm11 an11 cd11 ct11), sl11⟩)
  (c11 : PySem.W.codeIn K cd11 "makes_world" = true)
  (k11 : PySem.W.keepIn K (.ref f11) = true)
  (a12 : PySem.W.nsIn K mainGlobals "are_some_rooms" = some (some (.ref f12)))
  (l12 : K.lookup f12 = some ⟨oc12, od12, .func (PySem.W.fnOf "are_some_rooms" "are_some_rooms" (Zj ZP) (Zi ZP) (Zb ZP) .none kV12 dc12 pm12 an12 cd12 ct12), sl12⟩)
  (c12 : PySem.W.codeIn K cd12 "are_some_rooms" = true)
  (k12 : PySem.W.keepIn K (.ref f12) = true)
  (a13 : PySem.W.nsIn K mainGlobals "show_world" = some (some (.ref f13)))
  (l13 : K.lookup f13 = some ⟨oc13, od13, .func (PySem.W.fnOf "show_world" "show_world" (Zj Yf) (Zi Yf) (Zb Yf) .none kV13 dc13 pm13 an13 cd13 ct13), sl13⟩)
  (c13 : PySem.W.codeIn K cd13 "show_world" = true)
  (k13 : PySem.W.keepIn K (.ref f13) = true)
  (a14 : PySem.W.nsIn K mainGlobals "line_of" = some (some (.ref f14)))
  (l14 : K.lookup f14 = some ⟨oc14, od14, .func (PySem.W.fnOf "line_of" "line_of" (Zj YW) (Zi YW) (Zb YW) .none kV14 dc14 pm14 an14 cd14 ct14), sl14⟩)
  (c14 : PySem.W.codeIn K cd14 "line_of" = true)
  (k14 : PySem.W.keepIn K (.ref f14) = true)
  (a15 : PySem.W.nsIn K mainGlobals "read_world" = some (some (.ref f15)))
  (l15 : K.lookup f15 = some ⟨oc15, od15, .func (PySem.W.fnOf "read_world" "read_world" (Zj ZU) (Zi ZU) (Zb ZU) .none kV15 dc15 pm15 an15 cd15 ct15), sl15⟩)
  (c15 : PySem.W.codeIn K cd15 "read_world" = true)
  (k15 : PySem.W.keepIn K (.ref f15) = true)
  (a16 : PySem.W.nsIn K mainGlobals "names_of" = some (some (.ref f16)))
  (l16 : K.lookup f16 = some ⟨oc16, od16, .func (PySem.W.fnOf "names_of" "names_of" (Zj YH) (Zi YH) (Zb YH) .none kV16 dc16 pm16 an16 cd16 ct16), sl16⟩)
  (c16 : PySem.W.codeIn K cd16 "names_of" = true)
  (k16 : PySem.W.keepIn K (.ref f16) = true)
  (a17 : PySem.W.nsIn K mainGlobals "numbers_of" = some (some (.ref f17)))
  (l17 : K.lookup f17 = some ⟨oc17, od17, .func (PySem.W.fnOf "numbers_of" "numbers_of" (Zj Yb) (Zi Yb) (Zb Yb) .none kV17 dc17 pm17 an17 cd17 ct17), sl17⟩)
  (c17 : PySem.W.codeIn K cd17 "numbers_of" = true)
  (k17 : PySem.W.keepIn K (.ref f17) = true)
  (a18 : PySem.W.nsIn K mainGlobals "is_number" = some (some (.ref f18)))
  (l18 : K.lookup f18 = some ⟨oc18, od18, .func (PySem.W.fnOf "is_number" "is_number" (Zj Yt) (Zi Yt) (Zb Yt) .none kV18 dc18 pm18 an18 cd18 ct18), sl18⟩)
  (c18 : PySem.W.codeIn K cd18 "is_number" = true)
  (k18 : PySem.W.keepIn K (.ref f18) = true)
  (a19 : PySem.W.nsIn K mainGlobals "rising" = some (some (.ref f19)))
  (l19 : K.lookup f19 = some ⟨oc19, od19, .func (PySem.W.fnOf "rising" "rising" (Zj Xk) (Zi Xk) (Zb Xk) .none kV19 dc19 pm19 an19 cd19 ct19), sl19⟩)
  (c19 : PySem.W.codeIn K cd19 "rising" = true)
  (k19 : PySem.W.keepIn K (.ref f19) = true)
  (a20 : PySem.W.nsIn K mainGlobals "_law_cell_at" = some (some (.ref f20)))
  (l20 : K.lookup f20 = some ⟨oc20, od20, .func (PySem.W.fnOf "_law_cell_at" "_law_cell_at" (Zj Z7) (Zi Z7) (Zb Z7) .none kV20 dc20 pm20 an20 cd20 ct20), sl20⟩)
  (c20 : PySem.W.codeIn K cd20 "_law_cell_at" = true)
  (k20 : PySem.W.keepIn K (.ref f20) = true)
  (a21 : PySem.W.nsIn K mainGlobals "_law_stream" = some (some (.ref f21)))
  (l21 : K.lookup f21 = some ⟨oc21, od21, .func (PySem.W.fnOf "_law_stream" "_law_stream" (Zj Yl) (Zi Yl) (Zb Yl) .none kV21 dc21 pm21 an21 cd21 ct21), sl21⟩)
  (c21 : PySem.W.codeIn K cd21 "_law_stream" = true)
  (k21 : PySem.W.keepIn K (.ref f21) = true)
  (a22 : PySem.W.nsIn K mainGlobals "_law_draw" = some (some (.ref f22)))
  (l22 : K.lookup f22 = some ⟨oc22, od22, .func (PySem.W.fnOf "_law_draw" "_law_draw" (Zj YF) (Zi YF) (Zb YF) .none kV22 dc22 pm22 an22 cd22 ct22), sl22⟩)
  (c22 : PySem.W.codeIn K cd22 "_law_draw" = true)
  (k22 : PySem.W.keepIn K (.ref f22) = true)
  (a23 : PySem.W.nsIn K mainGlobals "_law_pool" = some (some (.ref f23)))
  (l23 : K.lookup f23 = some ⟨oc23, od23, .func (PySem.W.fnOf "_law_pool" "_law_pool" (Zj YE) (Zi YE) (Zb YE) .none kV23 dc23 pm23 an23 cd23 ct23), sl23⟩)
  (c23 : PySem.W.codeIn K cd23 "_law_pool" = true)
  (k23 : PySem.W.keepIn K (.ref f23) = true)
  (a24 : PySem.W.nsIn K mainGlobals "_law_some" = some (some (.ref f24)))
  (l24 : K.lookup f24 = some ⟨oc24, od24, .func (PySem.W.fnOf "_law_some" "_law_some" (Zj Yu) (Zi Yu) (Zb Yu) .none kV24 dc24 pm24 an24 cd24 ct24), sl24⟩)
  (c24 : PySem.W.codeIn K cd24 "_law_some" = true)
  (k24 : PySem.W.keepIn K (.ref f24) = true)
  (a25 : PySem.W.nsIn K mainGlobals "_law_parts" = some (some (.ref f25)))
  (l25 : K.lookup f25 = some ⟨oc25, od25, .func (PySem.W.fnOf "_law_parts" "_law_parts" (Zj Yd) (Zi Yd) (Zb Yd) .none kV25 dc25 pm25 an25 cd25 ct25), sl25⟩)
  (c25 : PySem.W.codeIn K cd25 "_law_parts" = true)
  (k25 : PySem.W.keepIn K (.ref f25) = true)
  (a26 : PySem.W.nsIn K mainGlobals "_law_word" = some (some (.ref f26)))
  (l26 : K.lookup f26 = some ⟨oc26, od26, .func (PySem.W.fnOf "_law_word" "_law_word" (Zj YG) (Zi YG) (Zb YG) .none kV26 dc26 pm26 an26 cd26 ct26), sl26⟩)
  (c26 : PySem.W.codeIn K cd26 "_law_word" = true)
  (k26 : PySem.W.keepIn K (.ref f26) = true)
  (a27 : PySem.W.nsIn K mainGlobals "_law_is_name" = some (some (.ref f27)))
  (l27 : K.lookup f27 = some ⟨oc27, od27, .func (PySem.W.fnOf "_law_is_name" "_law_is_name" (Zj ZW) (Zi ZW) (Zb ZW) .none kV27 dc27 pm27 an27 cd27 ct27), sl27⟩)
  (c27 : PySem.W.codeIn K cd27 "_law_is_name" = true)
  (k27 : PySem.W.keepIn K (.ref f27) = true)
  (a28 : PySem.W.nsIn K mainGlobals "_law_numbers" = some (some (.ref f28)))
  (l28 : K.lookup f28 = some ⟨oc28, od28, .func (PySem.W.fnOf "_law_numbers" "_law_numbers" (Zj ZN) (Zi ZN) (Zb ZN) .none kV28 dc28 pm28 an28 cd28 ct28), sl28⟩)
  (c28 : PySem.W.codeIn K cd28 "_law_numbers" = true)
  (k28 : PySem.W.keepIn K (.ref f28) = true)
  (a29 : PySem.W.nsIn K mainGlobals "_law_due" = some (some (.ref f29)))
  (l29 : K.lookup f29 = some ⟨oc29, od29, .func (PySem.W.fnOf "_law_due" "_law_due" (Zj Z3) (Zi Z3) (Zb Z3) .none kV29 dc29 pm29 an29 cd29 ct29), sl29⟩)
  (c29 : PySem.W.codeIn K cd29 "_law_due" = true)
  (k29 : PySem.W.keepIn K (.ref f29) = true)
  (a30 : PySem.W.nsIn K mainGlobals "_law_word_spoilt" = some (some (.ref f30)))
  (l30 : K.lookup f30 = some ⟨oc30, od30, .func (PySem.W.fnOf "_law_word_spoilt" "_law_word_spoilt" (Zj ZK) (Zi ZK) (Zb ZK) .none kV30 dc30 pm30 an30 cd30 ct30), sl30⟩)
  (c30 : PySem.W.codeIn K cd30 "_law_word_spoilt" = true)
  (k30 : PySem.W.keepIn K (.ref f30) = true)
  (a31 : PySem.W.nsIn K mainGlobals "_law_line_spoilt" = some (some (.ref f31)))
  (l31 : K.lookup f31 = some ⟨oc31, od31, .func (PySem.W.fnOf "_law_line_spoilt" "_law_line_spoilt" (Zj ZJ) (Zi ZJ) (Zb ZJ) .none kV31 dc31 pm31 an31 cd31 ct31), sl31⟩)
  (c31 : PySem.W.codeIn K cd31 "_law_line_spoilt" = true)
  (k31 : PySem.W.keepIn K (.ref f31) = true)
  (a32 : PySem.W.nsIn K mainGlobals "_law_spoilt" = some (some (.ref f32)))
  (l32 : K.lookup f32 = some ⟨oc32, od32, .func (PySem.W.fnOf "_law_spoilt" "_law_spoilt" (Zj Ym) (Zi Ym) (Zb Ym) .none kV32 dc32 pm32 an32 cd32 ct32), sl32⟩)
  (c32 : PySem.W.codeIn K cd32 "_law_spoilt" = true)
  (k32 : PySem.W.keepIn K (.ref f32) = true)
  (a33 : PySem.W.nsIn K mainGlobals "law" = some (some (.ref f33)))
  (l33 : K.lookup f33 = some ⟨oc33, od33, .func (PySem.W.fnOf "law" "law" (Zj Wo) (Zi Wo) (Zb Wo) .none kV33 dc33 pm33 an33 cd33 ct33), sl33⟩)
  (c33 : PySem.W.codeIn K cd33 "law" = true)
  (k33 : PySem.W.keepIn K (.ref f33) = true)
  (pg_World : PySem.W.plainGet K C_World Str.empty = true)
  (hd_World : PySem.W.hasDictIn K C_World = true)
  (po_World : PySem.W.plainOver K C_World = true)
  (sa_World : PySem.W.findIn K (.ref C_World) "__setattr__" = some (some (.builtin "object.__setattr__")))
  (mk_World : PySem.W.makesIn K C_World = true)
  (kc_World : PySem.W.keepIn K (.ref C_World) = true)
  (t1_World : PySem.W.findIn K (.ref C_World) "__class__" = some (some (.builtin "object.__class__")))
  (t2_World : PySem.W.specialIn K (.builtin "object.__class__") "__get__" = some (some (.builtin "getset_descriptor.__get__")))
  (t3_World : PySem.W.takesIn K (.builtin "object.__class__") = some true)
  (t4_World : PySem.W.mroIn K C_World (.type "object") = some true)
  (n_World_room_signs : PySem.W.findIn K (.ref C_World) "room_signs" = some none)
  (n_World_room_ways : PySem.W.findIn K (.ref C_World) "room_ways" = some none)
  (n_World_start_rooms : PySem.W.findIn K (.ref C_World) "start_rooms" = some none)
  (n_World_fair_names : PySem.W.findIn K (.ref C_World) "fair_names" = some none)
  (z_ValueError : PySem.W.nsIn K mainGlobals "ValueError" = some none)
  (z_all : PySem.W.nsIn K mainGlobals "all" = some none)
  (z_len : PySem.W.nsIn K mainGlobals "len" = some none)
  (z_zip : PySem.W.nsIn K mainGlobals "zip" = some none)
  (z_range : PySem.W.nsIn K mainGlobals "range" = some none)
  (z_list : PySem.W.nsIn K mainGlobals "list" = some none)
  (z_isinstance : PySem.W.nsIn K mainGlobals "isinstance" = some none)
  (z_int : PySem.W.nsIn K mainGlobals "int" = some none)
  (z_tuple : PySem.W.nsIn K mainGlobals "tuple" = some none)
  (z_str : PySem.W.nsIn K mainGlobals "str" = some none)
  (z_bool : PySem.W.nsIn K mainGlobals "bool" = some none)
  (z_set : PySem.W.nsIn K mainGlobals "set" = some none)
  (z_sorted : PySem.W.nsIn K mainGlobals "sorted" = some none)
  (z_enumerate : PySem.W.nsIn K mainGlobals "enumerate" = some none)
  (x_LETTERS : PySem.W.nsIn K mainGlobals "LETTERS" = some (some (.str "abcdefghijklmnopqrstuvwxyz" tk_LETTERS)))
  (x_MOST_LETTERS : PySem.W.nsIn K mainGlobals "MOST_LETTERS" = some (some (.int 8 tk_MOST_LETTERS)))
  (x_MOST_ROOMS : PySem.W.nsIn K mainGlobals "MOST_ROOMS" = some (some (.int 20 tk_MOST_ROOMS)))
  (x_MOST_FAIR : PySem.W.nsIn K mainGlobals "MOST_FAIR" = some (some (.int 3 tk_MOST_FAIR)))
  (x_FIGURES : PySem.W.nsIn K mainGlobals "FIGURES" = some (some (.str "0123456789" tk_FIGURES)))
  (x_MOST_FIGURES : PySem.W.nsIn K mainGlobals "MOST_FIGURES" = some (some (.int 6 tk_MOST_FIGURES)))
  (xc_TimeError : PySem.W.excIn K C_TimeError [.type "ValueError", .type "Exception", .type "BaseException", .type "object"] "ValueError.__new__" = true)
  (xc_BadWorld : PySem.W.excIn K C_BadWorld [.type "ValueError", .type "Exception", .type "BaseException", .type "object"] "ValueError.__new__" = true)
  (xc_BadSentence : PySem.W.excIn K C_BadSentence [.type "ValueError", .type "Exception", .type "BaseException", .type "object"] "ValueError.__new__" = true)
  (xc_BadMachine : PySem.W.excIn K C_BadMachine [.type "ValueError", .type "Exception", .type "BaseException", .type "object"] "ValueError.__new__" = true)
  (xc_NoText : PySem.W.excIn K C_NoText [.type "ValueError", .type "Exception", .type "BaseException", .type "object"] "ValueError.__new__" = true)
  (xc_NoLine : PySem.W.excIn K C_NoLine [.type "ValueError", .type "Exception", .type "BaseException", .type "object"] "ValueError.__new__" = true)
  (xc_NoWorld : PySem.W.excIn K C_NoWorld [.type "ValueError", .type "Exception", .type "BaseException", .type "object"] "ValueError.__new__" = true)
  (xgt : PySem.W.specialIn K (.builtin "object.__class__") "__get__" = some (some (.builtin "getset_descriptor.__get__")))
  (xtk : PySem.W.takesIn K (.builtin "object.__class__") = some true)
  (xga_NoText : PySem.W.findIn K (.ref C_NoText) "__getattribute__" = some (some (.builtin "BaseException.__getattribute__")))
  (xgh_NoText : PySem.W.findIn K (.ref C_NoText) "__getattr__" = some none)
  (xob_NoText : PySem.W.mroIn K C_NoText (.type "object") = some true)
  (xbe_NoText : PySem.W.mroIn K C_NoText (.type "BaseException") = some true)
  (xcl_NoText : PySem.W.findIn K (.ref C_NoText) "__class__" = some (some (.builtin "object.__class__")))
  (xhd_NoText : PySem.W.hasDictIn K C_NoText = true)
  (xga_BadWorld : PySem.W.findIn K (.ref C_BadWorld) "__getattribute__" = some (some (.builtin "BaseException.__getattribute__")))
  (xgh_BadWorld : PySem.W.findIn K (.ref C_BadWorld) "__getattr__" = some none)
  (xob_BadWorld : PySem.W.mroIn K C_BadWorld (.type "object") = some true)
  (xbe_BadWorld : PySem.W.mroIn K C_BadWorld (.type "BaseException") = some true)
  (xcl_BadWorld : PySem.W.findIn K (.ref C_BadWorld) "__class__" = some (some (.builtin "object.__class__")))
  (xhd_BadWorld : PySem.W.hasDictIn K C_BadWorld = true)
  (sb_TimeError : PySem.W.subIn K (.ref C_TimeError) (.type "BaseException") = some true)
  (ne_NoText_TimeError : (Value.ref C_NoText == Value.ref C_TimeError) = false)
  (i1_NoText : PySem.W.kitOne K (.ref C_NoText) (.ref C_TimeError) = some true)
  (i2_NoText : PySem.W.kitOne K (.ref C_NoText) (.ref C_NoText) = some true)
  (i5_NoText : PySem.W.kitOne K (.ref C_NoText) (.ref C_BadWorld) = some false)
  (i3_NoText : PySem.W.kitOne K (.ref C_NoText) (.type "ValueError") = some true)
  (i4_NoText : PySem.W.kitAny K (.ref C_NoText) [.ref C_BadMachine, .ref C_BadSentence, .ref C_NoLine, .ref C_NoWorld] = some false)
  (ne_BadWorld_TimeError : (Value.ref C_BadWorld == Value.ref C_TimeError) = false)
  (i1_BadWorld : PySem.W.kitOne K (.ref C_BadWorld) (.ref C_TimeError) = some true)
  (i2_BadWorld : PySem.W.kitOne K (.ref C_BadWorld) (.ref C_BadWorld) = some true)
  (i5_BadWorld : PySem.W.kitOne K (.ref C_BadWorld) (.ref C_NoText) = some false)
  (i3_BadWorld : PySem.W.kitOne K (.ref C_BadWorld) (.type "ValueError") = some true)
  (i4_BadWorld : PySem.W.kitAny K (.ref C_BadWorld) [.ref C_BadMachine, .ref C_BadSentence, .ref C_NoLine, .ref C_NoWorld] = some false) :
  ∃ fd : FuncData, (∀ (s : Shared) (v : Value), BindsTo s fd ⟨[v], []⟩ [("_law_script", v)]) ∧ ∀ base : Heap, K.In base → base.Ns mainGlobals mg → Yr l.prog w K mg base CX0 10 fa fd ["_law_script"] (spL K) := by
 have e := hfa.symm.trans (PySem.W.mg_of X G a33)
 cases e
 have T : Txt K mg { is_whole := f0, is_whole_fd := PySem.W.fnOf "is_whole" "is_whole" (Zj YS) (Zi YS) (Zb YS) .none kV0 dc0 pm0 an0 cd0 ct0, is_name := f1, is_name_fd := PySem.W.fnOf "is_name" "is_name" (Zj YX) (Zi YX) (Zb YX) .none kV1 dc1 pm1 an1 cd1 ct1, is_room := f2, is_room_fd := PySem.W.fnOf "is_room" "is_room" (Zj Y4) (Zi Y4) (Zb Y4) .none kV2 dc2 pm2 an2 cd2 ct2, are_names := f3, are_names_fd := PySem.W.fnOf "are_names" "are_names" (Zj Yx) (Zi Yx) (Zb Yx) .none kV3 dc3 pm3 an3 cd3 ct3, are_rooms := f4, are_rooms_fd := PySem.W.fnOf "are_rooms" "are_rooms" (Zj Yv) (Zi Yv) (Zb Yv) .none kV4 dc4 pm4 an4 cd4 ct4, World_init := f5, World_init_fd := PySem.W.fnOf "__init__" "World.__init__" (Zj Ye) (Zi Ye) (Zb Ye) .none kV5 dc5 pm5 an5 cd5 ct5, World_many := f6, World_many_fd := PySem.W.fnOf "many" "World.many" (Zj Yq) (Zi Yq) (Zb Yq) .none kV6 dc6 pm6 an6 cd6 ct6, World_signs_of := f7, World_signs_of_fd := PySem.W.fnOf "signs_of" "World.signs_of" (Zj ZQ) (Zi ZQ) (Zb ZQ) .none kV7 dc7 pm7 an7 cd7 ct7, World_ways_on := f8, World_ways_on_fd := PySem.W.fnOf "ways_on" "World.ways_on" (Zj ZX) (Zi ZX) (Zb ZX) .none kV8 dc8 pm8 an8 cd8 ct8, World_begins := f9, World_begins_fd := PySem.W.fnOf "begins" "World.begins" (Zj Ya) (Zi Ya) (Zb Ya) .none kV9 dc9 pm9 an9 cd9 ct9, World_fair_signs := f10, World_fair_signs_fd := PySem.W.fnOf "fair_signs" "World.fair_signs" (Zj ZH) (Zi ZH) (Zb ZH) .none kV10 dc10 pm10 an10 cd10 ct10, makes_world := f11, makes_world_fd := PySem.W.fnOf "makes_world" "makes_world" (Zj ZY) (Zi ZY) (Zb ZY) .none kV11 dc11 pm11 an11 cd11 ct11, are_some_rooms := f12, are_some_rooms_fd := PySem.W.fnOf "are_some_rooms" "are_some_rooms" (Zj ZP) (Zi ZP) (Zb ZP) .none kV12 dc12 pm12 an12 cd12 ct12, show_world := f13, show_world_fd := PySem.W.fnOf "show_world" "show_world" (Zj Yf) (Zi Yf) (Zb Yf) .none kV13 dc13 pm13 an13 cd13 ct13, line_of := f14, line_of_fd := PySem.W.fnOf "line_of" "line_of" (Zj YW) (Zi YW) (Zb YW) .none kV14 dc14 pm14 an14 cd14 ct14, read_world := f15, read_world_fd := PySem.W.fnOf "read_world" "read_world" (Zj ZU) (Zi ZU) (Zb ZU) .none kV15 dc15 pm15 an15 cd15 ct15, names_of := f16, names_of_fd := PySem.W.fnOf "names_of" "names_of" (Zj YH) (Zi YH) (Zb YH) .none kV16 dc16 pm16 an16 cd16 ct16, numbers_of := f17, numbers_of_fd := PySem.W.fnOf "numbers_of" "numbers_of" (Zj Yb) (Zi Yb) (Zb Yb) .none kV17 dc17 pm17 an17 cd17 ct17, is_number := f18, is_number_fd := PySem.W.fnOf "is_number" "is_number" (Zj Yt) (Zi Yt) (Zb Yt) .none kV18 dc18 pm18 an18 cd18 ct18, rising := f19, rising_fd := PySem.W.fnOf "rising" "rising" (Zj Xk) (Zi Xk) (Zb Xk) .none kV19 dc19 pm19 an19 cd19 ct19, _law_cell_at := f20, _law_cell_at_fd := PySem.W.fnOf "_law_cell_at" "_law_cell_at" (Zj Z7) (Zi Z7) (Zb Z7) .none kV20 dc20 pm20 an20 cd20 ct20, _law_stream := f21, _law_stream_fd := PySem.W.fnOf "_law_stream" "_law_stream" (Zj Yl) (Zi Yl) (Zb Yl) .none kV21 dc21 pm21 an21 cd21 ct21, _law_draw := f22, _law_draw_fd := PySem.W.fnOf "_law_draw" "_law_draw" (Zj YF) (Zi YF) (Zb YF) .none kV22 dc22 pm22 an22 cd22 ct22, _law_pool := f23, _law_pool_fd := PySem.W.fnOf "_law_pool" "_law_pool" (Zj YE) (Zi YE) (Zb YE) .none kV23 dc23 pm23 an23 cd23 ct23, _law_some := f24, _law_some_fd := PySem.W.fnOf "_law_some" "_law_some" (Zj Yu) (Zi Yu) (Zb Yu) .none kV24 dc24 pm24 an24 cd24 ct24, _law_parts := f25, _law_parts_fd := PySem.W.fnOf "_law_parts" "_law_parts" (Zj Yd) (Zi Yd) (Zb Yd) .none kV25 dc25 pm25 an25 cd25 ct25, _law_word := f26, _law_word_fd := PySem.W.fnOf "_law_word" "_law_word" (Zj YG) (Zi YG) (Zb YG) .none kV26 dc26 pm26 an26 cd26 ct26, _law_is_name := f27, _law_is_name_fd := PySem.W.fnOf "_law_is_name" "_law_is_name" (Zj ZW) (Zi ZW) (Zb ZW) .none kV27 dc27 pm27 an27 cd27 ct27, _law_numbers := f28, _law_numbers_fd := PySem.W.fnOf "_law_numbers" "_law_numbers" (Zj ZN) (Zi ZN) (Zb ZN) .none kV28 dc28 pm28 an28 cd28 ct28, _law_due := f29, _law_due_fd := PySem.W.fnOf "_law_due" "_law_due" (Zj Z3) (Zi Z3) (Zb Z3) .none kV29 dc29 pm29 an29 cd29 ct29, _law_word_spoilt := f30, _law_word_spoilt_fd := PySem.W.fnOf "_law_word_spoilt" "_law_word_spoilt" (Zj ZK) (Zi ZK) (Zb ZK) .none kV30 dc30 pm30 an30 cd30 ct30, _law_line_spoilt := f31, _law_line_spoilt_fd := PySem.W.fnOf "_law_line_spoilt" "_law_line_spoilt" (Zj ZJ) (Zi ZJ) (Zb ZJ) .none kV31 dc31 pm31 an31 cd31 ct31, _law_spoilt := f32, _law_spoilt_fd := PySem.W.fnOf "_law_spoilt" "_law_spoilt" (Zj Ym) (Zi Ym) (Zb Ym) .none kV32 dc32 pm32 an32 cd32 ct32, law := fa, law_fd := PySem.W.fnOf "law" "law" (Zj Wo) (Zi Wo) (Zb Wo) .none kV33 dc33 pm33 an33 cd33 ct33, C_TimeError := C_TimeError, C_BadWorld := C_BadWorld, C_BadSentence := C_BadSentence, C_BadMachine := C_BadMachine, C_NoText := C_NoText, C_NoLine := C_NoLine, C_NoWorld := C_NoWorld, C_World := C_World, Pm := w.params } := {
  f_is_whole := Zo (st := YS) l0 c0 k0,
  n_is_whole := (Zo (st := YS) l0 c0 k0).binds (ps := ["thing"]) (fun _ _ _ _ _ _ us hl => match us, hl with | [_], _ => rfl),
  g_is_whole := PySem.W.mg_of X G a0,
  f_is_name := Zo (st := YX) l1 c1 k1,
  n_is_name := (Zo (st := YX) l1 c1 k1).binds (ps := ["thing"]) (fun _ _ _ _ _ _ us hl => match us, hl with | [_], _ => rfl),
  g_is_name := PySem.W.mg_of X G a1,
  f_is_room := Zo (st := Y4) l2 c2 k2,
  n_is_room := (Zo (st := Y4) l2 c2 k2).binds (ps := ["thing", "many"]) (fun _ _ _ _ _ _ us hl => match us, hl with | [_, _], _ => rfl),
  g_is_room := PySem.W.mg_of X G a2,
  f_are_names := Zo (st := Yx) l3 c3 k3,
  n_are_names := (Zo (st := Yx) l3 c3 k3).binds (ps := ["thing"]) (fun _ _ _ _ _ _ us hl => match us, hl with | [_], _ => rfl),
  g_are_names := PySem.W.mg_of X G a3,
  f_are_rooms := Zo (st := Yv) l4 c4 k4,
  n_are_rooms := (Zo (st := Yv) l4 c4 k4).binds (ps := ["thing", "many"]) (fun _ _ _ _ _ _ us hl => match us, hl with | [_, _], _ => rfl),
  g_are_rooms := PySem.W.mg_of X G a4,
  f_World_init := Zo (st := Ye) l5 c5 k5,
  n_World_init := (Zo (st := Ye) l5 c5 k5).binds (ps := ["self", "signs", "ways", "starts", "fair"]) (fun _ _ _ _ _ _ us hl => match us, hl with | [_, _, _, _, _], _ => rfl),
  m_World_init := ⟨a5, i5, k5⟩,
  f_World_many := Zo (st := Yq) l6 c6 k6,
  n_World_many := (Zo (st := Yq) l6 c6 k6).binds (ps := ["self"]) (fun _ _ _ _ _ _ us hl => match us, hl with | [_], _ => rfl),
  m_World_many := ⟨a6, i6, k6⟩,
  f_World_signs_of := Zo (st := ZQ) l7 c7 k7,
  n_World_signs_of := (Zo (st := ZQ) l7 c7 k7).binds (ps := ["self", "room"]) (fun _ _ _ _ _ _ us hl => match us, hl with | [_, _], _ => rfl),
  m_World_signs_of := ⟨a7, i7, k7⟩,
  f_World_ways_on := Zo (st := ZX) l8 c8 k8,
  n_World_ways_on := (Zo (st := ZX) l8 c8 k8).binds (ps := ["self", "room"]) (fun _ _ _ _ _ _ us hl => match us, hl with | [_, _], _ => rfl),
  m_World_ways_on := ⟨a8, i8, k8⟩,
  f_World_begins := Zo (st := Ya) l9 c9 k9,
  n_World_begins := (Zo (st := Ya) l9 c9 k9).binds (ps := ["self"]) (fun _ _ _ _ _ _ us hl => match us, hl with | [_], _ => rfl),
  m_World_begins := ⟨a9, i9, k9⟩,
  f_World_fair_signs := Zo (st := ZH) l10 c10 k10,
  n_World_fair_signs := (Zo (st := ZH) l10 c10 k10).binds (ps := ["self"]) (fun _ _ _ _ _ _ us hl => match us, hl with | [_], _ => rfl),
  m_World_fair_signs := ⟨a10, i10, k10⟩,
  f_makes_world := Zo (st := ZY) l11 c11 k11,
  n_makes_world := (Zo (st := ZY) l11 c11 k11).binds (ps := ["signs", "ways", "starts", "fair"]) (fun _ _ _ _ _ _ us hl => match us, hl with | [_, _, _, _], _ => rfl),
  g_makes_world := PySem.W.mg_of X G a11,
  f_are_some_rooms := Zo (st := ZP) l12 c12 k12,
  n_are_some_rooms := (Zo (st := ZP) l12 c12 k12).binds (ps := ["thing", "many"]) (fun _ _ _ _ _ _ us hl => match us, hl with | [_, _], _ => rfl),
  g_are_some_rooms := PySem.W.mg_of X G a12,
  f_show_world := Zo (st := Yf) l13 c13 k13,
  n_show_world := (Zo (st := Yf) l13 c13 k13).binds (ps := ["world"]) (fun _ _ _ _ _ _ us hl => match us, hl with | [_], _ => rfl),
  g_show_world := PySem.W.mg_of X G a13,
  f_line_of := Zo (st := YW) l14 c14 k14,
  n_line_of := (Zo (st := YW) l14 c14 k14).binds (ps := ["head", "things"]) (fun _ _ _ _ _ _ us hl => match us, hl with | [_, _], _ => rfl),
  g_line_of := PySem.W.mg_of X G a14,
  f_read_world := Zo (st := ZU) l15 c15 k15,
  n_read_world := (Zo (st := ZU) l15 c15 k15).binds (ps := ["text"]) (fun _ _ _ _ _ _ us hl => match us, hl with | [_], _ => rfl),
  g_read_world := PySem.W.mg_of X G a15,
  f_names_of := Zo (st := YH) l16 c16 k16,
  n_names_of := (Zo (st := YH) l16 c16 k16).binds (ps := ["line"]) (fun _ _ _ _ _ _ us hl => match us, hl with | [_], _ => rfl),
  g_names_of := PySem.W.mg_of X G a16,
  f_numbers_of := Zo (st := Yb) l17 c17 k17,
  n_numbers_of := (Zo (st := Yb) l17 c17 k17).binds (ps := ["line"]) (fun _ _ _ _ _ _ us hl => match us, hl with | [_], _ => rfl),
  g_numbers_of := PySem.W.mg_of X G a17,
  f_is_number := Zo (st := Yt) l18 c18 k18,
  n_is_number := (Zo (st := Yt) l18 c18 k18).binds (ps := ["word"]) (fun _ _ _ _ _ _ us hl => match us, hl with | [_], _ => rfl),
  g_is_number := PySem.W.mg_of X G a18,
  f_rising := Zo (st := Xk) l19 c19 k19,
  n_rising := (Zo (st := Xk) l19 c19 k19).binds (ps := ["things"]) (fun _ _ _ _ _ _ us hl => match us, hl with | [_], _ => rfl),
  g_rising := PySem.W.mg_of X G a19,
  f__law_cell_at := Zo (st := Z7) l20 c20 k20,
  n__law_cell_at := (Zo (st := Z7) l20 c20 k20).binds (ps := ["_law_script", "_law_k"]) (fun _ _ _ _ _ _ us hl => match us, hl with | [_, _], _ => rfl),
  g__law_cell_at := PySem.W.mg_of X G a20,
  f__law_stream := Zo (st := Yl) l21 c21 k21,
  n__law_stream := (Zo (st := Yl) l21 c21 k21).binds (ps := ["_law_cell", "_law_many"]) (fun _ _ _ _ _ _ us hl => match us, hl with | [_, _], _ => rfl),
  g__law_stream := PySem.W.mg_of X G a21,
  f__law_draw := Zo (st := YF) l22 c22 k22,
  n__law_draw := (Zo (st := YF) l22 c22 k22).binds (ps := ["_law_xs"]) (fun _ _ _ _ _ _ us hl => match us, hl with | [_], _ => rfl),
  g__law_draw := PySem.W.mg_of X G a22,
  f__law_pool := Zo (st := YE) l23 c23 k23,
  n__law_pool := (Zo (st := YE) l23 c23 k23).binds (ps := ["_law_xs"]) (fun _ _ _ _ _ _ us hl => match us, hl with | [_], _ => rfl),
  g__law_pool := PySem.W.mg_of X G a23,
  f__law_some := Zo (st := Yu) l24 c24 k24,
  n__law_some := (Zo (st := Yu) l24 c24 k24).binds (ps := ["_law_xs", "_law_things", "_law_least"]) (fun _ _ _ _ _ _ us hl => match us, hl with | [_, _, _], _ => rfl),
  g__law_some := PySem.W.mg_of X G a24,
  f__law_parts := Zo (st := Yd) l25 c25 k25,
  n__law_parts := (Zo (st := Yd) l25 c25 k25).binds (ps := ["_law_xs", "_law_pool_here"]) (fun _ _ _ _ _ _ us hl => match us, hl with | [_, _], _ => rfl),
  g__law_parts := PySem.W.mg_of X G a25,
  f__law_word := Zo (st := YG) l26 c26 k26,
  n__law_word := (Zo (st := YG) l26 c26 k26).binds (ps := ["_law_text"]) (fun _ _ _ _ _ _ us hl => match us, hl with | [_], _ => rfl),
  g__law_word := PySem.W.mg_of X G a26,
  f__law_is_name := Zo (st := ZW) l27 c27 k27,
  n__law_is_name := (Zo (st := ZW) l27 c27 k27).binds (ps := ["_law_word_here"]) (fun _ _ _ _ _ _ us hl => match us, hl with | [_], _ => rfl),
  g__law_is_name := PySem.W.mg_of X G a27,
  f__law_numbers := Zo (st := ZN) l28 c28 k28,
  n__law_numbers := (Zo (st := ZN) l28 c28 k28).binds (ps := ["_law_words"]) (fun _ _ _ _ _ _ us hl => match us, hl with | [_], _ => rfl),
  g__law_numbers := PySem.W.mg_of X G a28,
  f__law_due := Zo (st := Z3) l29 c29 k29,
  n__law_due := (Zo (st := Z3) l29 c29 k29).binds (ps := ["_law_text"]) (fun _ _ _ _ _ _ us hl => match us, hl with | [_], _ => rfl),
  g__law_due := PySem.W.mg_of X G a29,
  f__law_word_spoilt := Zo (st := ZK) l30 c30 k30,
  n__law_word_spoilt := (Zo (st := ZK) l30 c30 k30).binds (ps := ["_law_xs", "_law_word_here"]) (fun _ _ _ _ _ _ us hl => match us, hl with | [_, _], _ => rfl),
  g__law_word_spoilt := PySem.W.mg_of X G a30,
  f__law_line_spoilt := Zo (st := ZJ) l31 c31 k31,
  n__law_line_spoilt := (Zo (st := ZJ) l31 c31 k31).binds (ps := ["_law_xs", "_law_line"]) (fun _ _ _ _ _ _ us hl => match us, hl with | [_, _], _ => rfl),
  g__law_line_spoilt := PySem.W.mg_of X G a31,
  f__law_spoilt := Zo (st := Ym) l32 c32 k32,
  n__law_spoilt := (Zo (st := Ym) l32 c32 k32).binds (ps := ["_law_xs", "_law_text"]) (fun _ _ _ _ _ _ us hl => match us, hl with | [_, _], _ => rfl),
  g__law_spoilt := PySem.W.mg_of X G a32,
  f_law := Zo (st := Wo) l33 c33 k33,
  n_law := (Zo (st := Wo) l33 c33 k33).binds (ps := ["_law_script"]) (fun _ _ _ _ _ _ us hl => match us, hl with | [_], _ => rfl),
  g_law := PySem.W.mg_of X G a33,
  b_ValueError := PySem.W.mg_none_of X G z_ValueError,
  b_all := PySem.W.mg_none_of X G z_all,
  b_len := PySem.W.mg_none_of X G z_len,
  b_zip := PySem.W.mg_none_of X G z_zip,
  b_range := PySem.W.mg_none_of X G z_range,
  b_list := PySem.W.mg_none_of X G z_list,
  b_isinstance := PySem.W.mg_none_of X G z_isinstance,
  b_int := PySem.W.mg_none_of X G z_int,
  b_tuple := PySem.W.mg_none_of X G z_tuple,
  b_str := PySem.W.mg_none_of X G z_str,
  b_bool := PySem.W.mg_none_of X G z_bool,
  b_set := PySem.W.mg_none_of X G z_set,
  b_sorted := PySem.W.mg_none_of X G z_sorted,
  b_enumerate := PySem.W.mg_none_of X G z_enumerate,
  c_LETTERS := ⟨_, PySem.W.mg_of X G x_LETTERS, ⟨_, rfl⟩⟩,
  c_MOST_LETTERS := ⟨_, PySem.W.mg_of X G x_MOST_LETTERS, ⟨_, rfl⟩⟩,
  c_MOST_ROOMS := ⟨_, PySem.W.mg_of X G x_MOST_ROOMS, ⟨_, rfl⟩⟩,
  c_MOST_FAIR := ⟨_, PySem.W.mg_of X G x_MOST_FAIR, ⟨_, rfl⟩⟩,
  c_FIGURES := ⟨_, PySem.W.mg_of X G x_FIGURES, ⟨_, rfl⟩⟩,
  c_MOST_FIGURES := ⟨_, PySem.W.mg_of X G x_MOST_FIGURES, ⟨_, rfl⟩⟩,
  cl_World := ⟨pg_World, hd_World, po_World, sa_World⟩,
  g_World := PySem.W.mg_of X G aC_World,
  mk_World := ⟨mk_World, a5, i5, kc_World⟩,
  t1_World := t1_World,
  t2_World := t2_World,
  t3_World := t3_World,
  t4_World := t4_World,
  ic_World := (by unfold PySem.W.kitOne; rw [if_pos (beq_self_eq_true _)]),
  na_World_room_signs := n_World_room_signs,
  na_World_room_ways := n_World_room_ways,
  na_World_start_rooms := n_World_start_rooms,
  na_World_fair_names := n_World_fair_names,
  g_TimeError := PySem.W.mg_of X G aC_TimeError,
  x_TimeError := xc_TimeError,
  g_BadWorld := PySem.W.mg_of X G aC_BadWorld,
  x_BadWorld := xc_BadWorld,
  g_BadSentence := PySem.W.mg_of X G aC_BadSentence,
  x_BadSentence := xc_BadSentence,
  g_BadMachine := PySem.W.mg_of X G aC_BadMachine,
  x_BadMachine := xc_BadMachine,
  g_NoText := PySem.W.mg_of X G aC_NoText,
  x_NoText := xc_NoText,
  g_NoLine := PySem.W.mg_of X G aC_NoLine,
  x_NoLine := xc_NoLine,
  g_NoWorld := PySem.W.mg_of X G aC_NoWorld,
  x_NoWorld := xc_NoWorld,
  k_NoText := ⟨xga_NoText, xgh_NoText, xob_NoText, xbe_NoText, xcl_NoText, xgt, xtk, xhd_NoText⟩,
  k_BadWorld := ⟨xga_BadWorld, xgh_BadWorld, xob_BadWorld, xbe_BadWorld, xcl_BadWorld, xgt, xtk, xhd_BadWorld⟩,
  sb_TimeError := sb_TimeError,
  ne_NoText_TimeError := ne_NoText_TimeError,
  i1_NoText := i1_NoText,
  i2_NoText := i2_NoText,
  i5_NoText := i5_NoText,
  i3_NoText := i3_NoText,
  i4_NoText := i4_NoText,
  ne_BadWorld_TimeError := ne_BadWorld_TimeError,
  i1_BadWorld := i1_BadWorld,
  i2_BadWorld := i2_BadWorld,
  i5_BadWorld := i5_BadWorld,
  i3_BadWorld := i3_BadWorld,
  i4_BadWorld := i4_BadWorld }
 exact ⟨PySem.W.fnOf "law" "law" (Zj Wo) (Zi Wo) (Zb Wo) .none kV33 dc33 pm33 an33 cd33 ct33, fun s v => .of_eq rfl, fun base _ _ => ok_law T rfl⟩
theorem walk {l : PySem.W.OpenLaw} {q : Program} {loose : List Str} {XP : (Str → Option Value) → Heap → Prop} {YP : World → Heap → Prop} {d : DefRec} {K : Params → PySem.W.Frag} (hn : l.most = some 63) (hdf : d.params.defaults = [])
  (hY : ∀ (w : World) (h : Heap), YP w h → (K w.params).In h)
  (F : ∀ (w : World) (mg : Str → Option Value) (fa : Addr) (h : Heap), (K w.params).In h → h.Ns mainGlobals mg → mg d.name = some (.ref fa) →
   ∃ fd : FuncData, (∀ (s : Shared) (u : Value), BindsTo s fd ⟨[u], []⟩ [("_law_script", u)]) ∧ ∀ base : Heap, (K w.params).In base → base.Ns mainGlobals mg → Yr l.prog w (K w.params) mg base CX0 10 fa fd ["_law_script"] (spL (K w.params))) :
  PySem.W.WalkO q loose XP YP l.row.toRowW d [] (fun f vs => PySem.call f vs) :=
 L2.walk_of (n := 63) (k := 10) (x := "_law_script") (CX := fun _ => CX0) (sp := fun w => spL (K w.params)) hn (by decide) hdf ⟨rfl, by decide, by decide⟩ hY F (fun _ _ a ns hl _ hS => ⟨a, ns, rfl, hS, hl, fun _ => rfl⟩) fun _ _ _ _ _ z => z
end KK
open PySem PySem.W PyProof.Rows
theorem PySem.W.Fast.te15300641407106265882 : True := trivial
def PySem.W.Fast.tw1934074982621162043 : Nat := 0
def PySem.W.Fast.tw16996643660556281962 : Nat := 0
def PySem.W.Fast.tw17863035988060822463 : Nat := 0
def PySem.W.Fast.tw913576441802913878 : Nat := 0
def PySem.W.Fast.tw4709311766059384369 : Nat := 0
set_option maxRecDepth 100000 in
set_option maxHeartbeats 0 in
theorem PySem.Challenge.cw_timecourt_k05_texts_that_write_no_world_holds : PySem.Challenge.rw_timecourt_k05_texts_that_write_no_world.Holds := by
 w_on; o_law; k_head; (case hw => w_witness2)
 k_fill
 refine KK.walk (l := PySem.Challenge.rw_timecourt_k05_texts_that_write_no_world) rfl rfl (fun w h Y => PySem.W.kIn_of Y) ?F
 case F =>
  intro w mg fa h KX G hmg
  have hmg2 : mg "law" = some (.ref fa) := hmg
  clear hmg
  refine' KK.all_mk KX G hmg2 ?aC_World ?aC_TimeError ?aC_BadWorld ?aC_BadSentence ?aC_BadMachine ?aC_NoText ?aC_NoLine ?aC_NoWorld ?a0 ?l0 ?c0 ?k0 ?a1 ?l1 ?c1 ?k1 ?a2 ?l2 ?c2 ?k2 ?a3 ?l3 ?c3 ?k3 ?a4 ?l4 ?c4 ?k4 ?a5 ?i5 ?l5 ?c5 ?k5 ?a6 ?i6 ?l6 ?c6 ?k6 ?a7 ?i7 ?l7 ?c7 ?k7 ?a8 ?i8 ?l8 ?c8 ?k8 ?a9 ?i9 ?l9 ?c9 ?k9 ?a10 ?i10 ?l10 ?c10 ?k10 ?a11 ?l11 ?c11 ?k11 ?a12 ?l12 ?c12 ?k12 ?a13 ?l13 ?c13 ?k13 ?a14 ?l14 ?c14 ?k14 ?a15 ?l15 ?c15 ?k15 ?a16 ?l16 ?c16 ?k16 ?a17 ?l17 ?c17 ?k17 ?a18 ?l18 ?c18 ?k18 ?a19 ?l19 ?c19 ?k19 ?a20 ?l20 ?c20 ?k20 ?a21 ?l21 ?c21 ?k21 ?a22 ?l22 ?c22 ?k22 ?a23 ?l23 ?c23 ?k23 ?a24 ?l24 ?c24 ?k24 ?a25 ?l25 ?c25 ?k25 ?a26 ?l26 ?c26 ?k26 ?a27 ?l27 ?c27 ?k27 ?a28 ?l28 ?c28 ?k28 ?a29 ?l29 ?c29 ?k29 ?a30 ?l30 ?c30 ?k30 ?a31 ?l31 ?c31 ?k31 ?a32 ?l32 ?c32 ?k32 ?a33 ?l33 ?c33 ?k33 ?pg_World ?hd_World ?po_World ?sa_World ?mk_World ?kc_World ?t1_World ?t2_World ?t3_World ?t4_World ?n_World_room_signs ?n_World_room_ways ?n_World_start_rooms ?n_World_fair_names ?z_ValueError ?z_all ?z_len ?z_zip ?z_range ?z_list ?z_isinstance ?z_int ?z_tuple ?z_str ?z_bool ?z_set ?z_sorted ?z_enumerate ?x_LETTERS ?x_MOST_LETTERS ?x_MOST_ROOMS ?x_MOST_FAIR ?x_FIGURES ?x_MOST_FIGURES ?xc_TimeError ?xc_BadWorld ?xc_BadSentence ?xc_BadMachine ?xc_NoText ?xc_NoLine ?xc_NoWorld ?xgt ?xtk ?xga_NoText ?xgh_NoText ?xob_NoText ?xbe_NoText ?xcl_NoText ?xhd_NoText ?xga_BadWorld ?xgh_BadWorld ?xob_BadWorld ?xbe_BadWorld ?xcl_BadWorld ?xhd_BadWorld ?sb_TimeError ?ne_NoText_TimeError ?i1_NoText ?i2_NoText ?i5_NoText ?i3_NoText ?i4_NoText ?ne_BadWorld_TimeError ?i1_BadWorld ?i2_BadWorld ?i5_BadWorld ?i3_BadWorld ?i4_BadWorld
  (case aC_World => k_is)
  (case aC_TimeError => k_is)
  (case aC_BadWorld => k_is)
  (case aC_BadSentence => k_is)
  (case aC_BadMachine => k_is)
  (case aC_NoText => k_is)
  (case aC_NoLine => k_is)
  (case aC_NoWorld => k_is)
  (case a0 => k_is)
  (case l0 => k_is)
  (case c0 => k_is)
  (case k0 => k_is)
  (case a1 => k_is)
  (case l1 => k_is)
  (case c1 => k_is)
  (case k1 => k_is)
  (case a2 => k_is)
  (case l2 => k_is)
  (case c2 => k_is)
  (case k2 => k_is)
  (case a3 => k_is)
  (case l3 => k_is)
  (case c3 => k_is)
  (case k3 => k_is)
  (case a4 => k_is)
  (case l4 => k_is)
  (case c4 => k_is)
  (case k4 => k_is)
  (case a5 => k_is)
  (case i5 => k_is)
  (case l5 => k_is)
  (case c5 => k_is)
  (case k5 => k_is)
  (case a6 => k_is)
  (case i6 => k_is)
  (case l6 => k_is)
  (case c6 => k_is)
  (case k6 => k_is)
  (case a7 => k_is)
  (case i7 => k_is)
  (case l7 => k_is)
  (case c7 => k_is)
  (case k7 => k_is)
  (case a8 => k_is)
  (case i8 => k_is)
  (case l8 => k_is)
  (case c8 => k_is)
  (case k8 => k_is)
  (case a9 => k_is)
  (case i9 => k_is)
  (case l9 => k_is)
  (case c9 => k_is)
  (case k9 => k_is)
  (case a10 => k_is)
  (case i10 => k_is)
  (case l10 => k_is)
  (case c10 => k_is)
  (case k10 => k_is)
  (case a11 => k_is)
  (case l11 => k_is)
  (case c11 => k_is)
  (case k11 => k_is)
  (case a12 => k_is)
  (case l12 => k_is)
  (case c12 => k_is)
  (case k12 => k_is)
  (case a13 => k_is)
  (case l13 => k_is)
  (case c13 => k_is)
  (case k13 => k_is)
  (case a14 => k_is)
  (case l14 => k_is)
  (case c14 => k_is)
  (case k14 => k_is)
  (case a15 => k_is)
  (case l15 => k_is)
  (case c15 => k_is)
  (case k15 => k_is)
  (case a16 => k_is)
  (case l16 => k_is)
  (case c16 => k_is)
  (case k16 => k_is)
  (case a17 => k_is)
  (case l17 => k_is)
  (case c17 => k_is)
  (case k17 => k_is)
  (case a18 => k_is)
  (case l18 => k_is)
  (case c18 => k_is)
  (case k18 => k_is)
  (case a19 => k_is)
  (case l19 => k_is)
  (case c19 => k_is)
  (case k19 => k_is)
  (case a20 => k_is)
  (case l20 => k_is)
  (case c20 => k_is)
  (case k20 => k_is)
  (case a21 => k_is)
  (case l21 => k_is)
  (case c21 => k_is)
  (case k21 => k_is)
  (case a22 => k_is)
  (case l22 => k_is)
  (case c22 => k_is)
  (case k22 => k_is)
  (case a23 => k_is)
  (case l23 => k_is)
  (case c23 => k_is)
  (case k23 => k_is)
  (case a24 => k_is)
  (case l24 => k_is)
  (case c24 => k_is)
  (case k24 => k_is)
  (case a25 => k_is)
  (case l25 => k_is)
  (case c25 => k_is)
  (case k25 => k_is)
  (case a26 => k_is)
  (case l26 => k_is)
  (case c26 => k_is)
  (case k26 => k_is)
  (case a27 => k_is)
  (case l27 => k_is)
  (case c27 => k_is)
  (case k27 => k_is)
  (case a28 => k_is)
  (case l28 => k_is)
  (case c28 => k_is)
  (case k28 => k_is)
  (case a29 => k_is)
  (case l29 => k_is)
  (case c29 => k_is)
  (case k29 => k_is)
  (case a30 => k_is)
  (case l30 => k_is)
  (case c30 => k_is)
  (case k30 => k_is)
  (case a31 => k_is)
  (case l31 => k_is)
  (case c31 => k_is)
  (case k31 => k_is)
  (case a32 => k_is)
  (case l32 => k_is)
  (case c32 => k_is)
  (case k32 => k_is)
  (case a33 => k_is)
  (case l33 => k_is)
  (case c33 => k_is)
  (case k33 => k_is)
  (case pg_World => k_is)
  (case hd_World => k_is)
  (case po_World => k_is)
  (case sa_World => k_is)
  (case mk_World => k_is)
  (case kc_World => k_is)
  (case t1_World => k_is)
  (case t2_World => k_is)
  (case t3_World => k_is)
  (case t4_World => k_is)
  (case n_World_room_signs => k_is)
  (case n_World_room_ways => k_is)
  (case n_World_start_rooms => k_is)
  (case n_World_fair_names => k_is)
  (case z_ValueError => k_is)
  (case z_all => k_is)
  (case z_len => k_is)
  (case z_zip => k_is)
  (case z_range => k_is)
  (case z_list => k_is)
  (case z_isinstance => k_is)
  (case z_int => k_is)
  (case z_tuple => k_is)
  (case z_str => k_is)
  (case z_bool => k_is)
  (case z_set => k_is)
  (case z_sorted => k_is)
  (case z_enumerate => k_is)
  (case x_LETTERS => k_is)
  (case x_MOST_LETTERS => k_is)
  (case x_MOST_ROOMS => k_is)
  (case x_MOST_FAIR => k_is)
  (case x_FIGURES => k_is)
  (case x_MOST_FIGURES => k_is)
  (case xc_TimeError => k_exc)
  (case xc_BadWorld => k_exc)
  (case xc_BadSentence => k_exc)
  (case xc_BadMachine => k_exc)
  (case xc_NoText => k_exc)
  (case xc_NoLine => k_exc)
  (case xc_NoWorld => k_exc)
  (case xgt => k_is)
  (case xtk => k_is)
  (case xga_NoText => k_is)
  (case xgh_NoText => k_is)
  (case xob_NoText => k_is)
  (case xbe_NoText => k_is)
  (case xcl_NoText => k_is)
  (case xhd_NoText => k_is)
  (case xga_BadWorld => k_is)
  (case xgh_BadWorld => k_is)
  (case xob_BadWorld => k_is)
  (case xbe_BadWorld => k_is)
  (case xcl_BadWorld => k_is)
  (case xhd_BadWorld => k_is)
  (case sb_TimeError => k_is)
  (case ne_NoText_TimeError => rfl)
  (case i1_NoText => kit_is)
  (case i2_NoText => kit_is)
  (case i5_NoText => kit_is)
  (case i3_NoText => kit_is)
  (case i4_NoText => kit_is)
  (case ne_BadWorld_TimeError => rfl)
  (case i1_BadWorld => kit_is)
  (case i2_BadWorld => kit_is)
  (case i5_BadWorld => kit_is)
  (case i3_BadWorld => kit_is)
  (case i4_BadWorld => kit_is)
#print axioms PySem.Challenge.cw_timecourt_k05_texts_that_write_no_world_holds
