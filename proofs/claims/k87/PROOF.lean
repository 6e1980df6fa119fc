import PyProof.Rows.All
import Wide.All
import OpenK.AllK
import Wide.FinOn
import PyProof.EqAt
import PyProof.EqKinds
import PyProof.TupleCall
import PyProof.DictCompW
import PyProof.Rows.SortWalk
import OpenK.KRaise
import PyProof.ExcClass2
import KE.KTryMore
import KE.KSortTup
import KE.KIsAll
import PyProof.ListRange
import PyProof.StrBlock2
import PyProof.Rows.SetFrom
import PyProof.SetRoads
import PyProof.ReprRoads
import PyProof.CallStr
import PyProof.Rows.SortStr
import PyProof.Rows.Range3
import PyProof.Rows.IntBool
import KE.KRevIter
import PyProof.MeetsSeq
import PyProof.MinMaxWalk
import PyProof.SliceStr2
import PyProof.P3Eq
import PyProof.Rows.StrLen
import PyProof.Rows.StrCase
import PyProof.InstStoreFacts
import PyProof.ExcInit
import Lean
import PySem.Challenge.RW_oddlong_k87_refusals_made
set_option Elab.async false
set_option linter.all false
set_option maxRecDepth 100000
/-! THE HAND LAYER, for ints, bools, texts, own classes, LISTS and tuples (index, slices, in, append, pop ..), calls, loops. Paste it whole ahead of your own text; what your proof does not reach may be deleted. -/
namespace L2
/-! several things there are, with one constructor: what is said of them is stored once -/
set_option genSizeOf false
set_option genInjectivity false
inductive Ex2 {α0 α1 : Type} (P : α0 → α1 → Prop) : Prop | mk (x0 : α0) (x1 : α1) (h : P x0 x1) : Ex2 P
inductive Ex3 {α0 α1 α2 : Type} (P : α0 → α1 → α2 → Prop) : Prop | mk (x0 : α0) (x1 : α1) (x2 : α2) (h : P x0 x1 x2) : Ex3 P
inductive Ex4 {α0 α1 α2 α3 : Type} (P : α0 → α1 → α2 → α3 → Prop) : Prop | mk (x0 : α0) (x1 : α1) (x2 : α2) (x3 : α3) (h : P x0 x1 x2 x3) : Ex4 P
inductive Ex5 {α0 α1 α2 α3 α4 : Type} (P : α0 → α1 → α2 → α3 → α4 → Prop) : Prop | mk (x0 : α0) (x1 : α1) (x2 : α2) (x3 : α3) (x4 : α4) (h : P x0 x1 x2 x3 x4) : Ex5 P
set_option genSizeOf true
set_option genInjectivity true
end L2
namespace L2
open PySem PySem.Spec PyProof.Rows

/-- a key: an int or a str -/
noncomputable abbrev Key := Sum Int Str
noncomputable def keyIs : Key → Value → Bool
  | .inl k, v => Value.isInt k v
  | .inr x, v => Value.isStrOf x v
noncomputable def keyH (w : World) : Key → Int
  | .inl k => hashInt k
  | .inr x => hashStr w x
theorem keyIs_shape : ∀ {k : Key} {v : Value}, keyIs k v = true → (∃ i t, k = Sum.inl i ∧ v = Value.int i t) ∨ (∃ x t, k = Sum.inr x ∧ v = Value.str x t)
  | .inl i, v, h => by
    obtain ⟨t, e⟩ := Value.isInt_shape (k := i) (v := v) h
    exact .inl ⟨i, t, rfl, e⟩
  | .inr x, v, h => by
    obtain ⟨t, e⟩ := Value.isStrOf_shape (x := x) (v := v) h
    exact .inr ⟨x, t, rfl, e⟩
theorem keyIs_int (i : Int) (t : Tok) : keyIs (.inl i) (.int i t) = true := by simp [keyIs, Value.isInt]
theorem keyIs_str (x : Str) (t : Tok) : keyIs (.inr x) (.str x t) = true := by simp [keyIs, Value.isStrOf]
theorem key_ll (a b : Int) : decide ((Sum.inl a : Key) = Sum.inl b) = (a == b) := by
  by_cases e : a = b
  · subst e; simp
  · have h : ¬ (Sum.inl a : Key) = Sum.inl b := fun q => e (Sum.inl.inj q)
    rw [decide_eq_false h]
    exact (beq_eq_false_iff_ne.mpr e).symm
theorem key_rr (a b : Str) : decide ((Sum.inr a : Key) = Sum.inr b) = decide (a = b) := by
  by_cases e : a = b
  · subst e; simp
  · have h : ¬ (Sum.inr a : Key) = Sum.inr b := fun q => e (Sum.inr.inj q)
    rw [decide_eq_false h, decide_eq_false e]
theorem key_lr (a : Int) (b : Str) : decide ((Sum.inl a : Key) = Sum.inr b) = false := decide_eq_false (fun q => nomatch q)
theorem key_rl (a : Str) (b : Int) : decide ((Sum.inr a : Key) = Sum.inl b) = false := decide_eq_false (fun q => nomatch q)

noncomputable def mixKind (prog : Program) (w : World) : PySem.KeyKind prog w Key where
  is := keyIs
  hash := keyH w
  inj := fun v a b ha hb => by
    rcases keyIs_shape ha with ⟨i, t, rfl, rfl⟩ | ⟨x, t, rfl, rfl⟩
    · rcases keyIs_shape hb with ⟨j, u, rfl, e⟩ | ⟨y, u, rfl, e⟩
      · injection e with e1 _; rw [e1]
      · exact nomatch e
    · rcases keyIs_shape hb with ⟨j, u, rfl, e⟩ | ⟨y, u, rfl, e⟩
      · exact nomatch e
      · injection e with e1 _; rw [e1]
  byValue := fun k v h => by
    rcases keyIs_shape h with ⟨i, t, rfl, rfl⟩ | ⟨x, t, rfl, rfl⟩ <;> rfl
  pyHash := fun hv h => by
    rcases keyIs_shape hv with ⟨i, t, rfl, rfl⟩ | ⟨x, t, rfl, rfl⟩
    · exact wpAny_pyHash_int h
    · exact wpAny_pyHash_str h
  eqBool := fun hu hv h => by
    rcases keyIs_shape hu with ⟨i, t, rfl, rfl⟩ | ⟨x, t, rfl, rfl⟩
    · rcases keyIs_shape hv with ⟨j, u, rfl, rfl⟩ | ⟨y, u, rfl, rfl⟩
      · rw [key_ll] at h; exact wpAny_eqBool_int h
      · rw [key_lr] at h; exact SeqAt.EqAt.int_str i t y u _ _ _ _ h
    · rcases keyIs_shape hv with ⟨j, u, rfl, rfl⟩ | ⟨y, u, rfl, rfl⟩
      · rw [key_rl] at h; exact SeqAt.EqAt.str_int x t j u _ _ _ _ h
      · rw [key_rr] at h; exact wpAny_eqBool_str h
  «strs» := fun k x t v h => by
    rcases keyIs_shape h with ⟨i, u, rfl, e⟩ | ⟨y, u, rfl, e⟩
    · exact nomatch e
    · injection e with e1 _
      subst e1
      cases v <;> rfl

theorem mixKind_int (prog : Program) (w : World) (i : Int) (t : Tok) : (mixKind prog w).is (.inl i) (.int i t) = true := keyIs_int i t
theorem mixKind_str (prog : Program) (w : World) (x : Str) (t : Tok) : (mixKind prog w).is (.inr x) (.str x t) = true := keyIs_str x t
end L2

namespace L2
open PySem PySem.Spec PyProof.Rows

/-- a value, without the heap -/
inductive V where
  | non | bl (b : Bool) | int (i : Int) | str (x : Str) | byt (b : Array UInt8) | flt (b : UInt64) | ref (a : Addr) | ty (n : String)
  deriving DecidableEq

noncomputable def RelV : V → Value → Prop
  | .non, u => u = Value.none
  | .bl b, u => u = Value.bool b
  | .int i, u => ∃ t, u = Value.int i t
  | .str x, u => ∃ t, u = Value.str x t
  | .byt b, u => ∃ t, u = Value.bytes b t
  | .flt b, u => ∃ t, u = Value.float b t
  | .ref a, u => u = Value.ref a
  | .ty n, u => u = Value.type n

noncomputable abbrev Vals : List V → List Value → Prop := Paired RelV
theorem Vals.length {xs : List V} {us : List Value} (r : Vals xs us) : xs.length = us.length := Paired.length r
theorem Vals.get : ∀ {xs : List V} {us : List Value} {i : Nat} {x : V}, Vals xs us → xs[i]? = some x → ∃ u, us[i]? = some u ∧ RelV x u
  | _, _, _, _, .nil, e => by simp at e
  | _, _, 0, _, .cons r _, e => by simp at e; subst e; exact ⟨_, rfl, r⟩
  | _, _, i + 1, x, .cons _ t, e => by
    obtain ⟨u, h1, h2⟩ := Vals.get (i := i) (x := x) t (by simpa using e)
    exact ⟨u, by simpa using h1, h2⟩
theorem Vals.set {x : V} {u : Value} (r : RelV x u) : ∀ {xs : List V} {us : List Value} (i : Nat), Vals xs us → Vals (xs.set i x) (us.set i u)
  | _, _, _, .nil => .nil
  | _, _, 0, .cons _ t => .cons r t
  | _, _, i + 1, .cons q t => .cons q (Vals.set r i t)
theorem Vals.append : ∀ {xs ys : List V} {us ws : List Value}, Vals xs us → Vals ys ws → Vals (xs ++ ys) (us ++ ws)
  | _, _, _, _, .nil, s => s
  | _, _, _, _, .cons r t, s => .cons r (Vals.append t s)
theorem Vals.take : ∀ {xs : List V} {us : List Value} (n : Nat), Vals xs us → Vals (xs.take n) (us.take n)
  | _, _, 0, _ => .nil
  | _, _, _ + 1, .nil => .nil
  | _, _, n + 1, .cons r t => .cons r (Vals.take n t)
theorem Vals.drop : ∀ {xs : List V} {us : List Value} (n : Nat), Vals xs us → Vals (xs.drop n) (us.drop n)
  | _, _, 0, r => r
  | _, _, _ + 1, .nil => .nil
  | _, _, n + 1, .cons _ t => Vals.drop n t
noncomputable def RelO : Option V → Option Value → Prop
  | some v, some u => RelV v u
  | none, none => True
  | _, _ => False
noncomputable def KV {κ : Type} : List (κ × V) → List (κ × Value) → Prop := Paired fun (p : κ × V) (q : κ × Value) => p.1 = q.1 ∧ RelV p.2 q.2

/-- a key of a dict (00_mix): an int or a text -/
noncomputable def kV : Key → V
  | .inl i => .int i
  | .inr x => .str x

/-- what stands at a tracked address -/
inductive HO where
  /-- a list -/
  | lst (xs : List V)
  /-- a tuple (never changes) -/
  | tup (xs : List V)
  /-- a dict whose keys are ints and texts; one whose keys are tuples of ints and texts (the empty one is both) -/
  | dK (kvs : List (Key × V)) | dT (kvs : List (List Key × V))
  /-- a set of ints: its members, its size -/
  | set (S : Int → Bool) (n : Nat)
  /-- an instance of the class at C, its dict at dx, its attributes -/
  | ins (C dx : Addr) (fs : List (Str × V))
  /-- the dict of the instance at x -/
  | own (x : Addr)
  /-- the dict of an exception -/
  | xd (fs : List (Str × V))
  /-- a bound method, f of x -/
  | met (f x : Addr)
  /-- a range object lo, lo + 1, .. below hi -/
  | rng (lo hi : Int)
  /-- a thing that is known to the object (the script; a dict while a loop walks it): read, never written while it is so -/
  | frz (o : Obj) (u : HO)
  /-- a code object's table -/
  | tbl (ps : Array Value)
  /-- any other thing, by what is true of its one object (a def of one's own: SetO a S n := HO.ext fun h => ..) -/
  | ext (φ : Heap → Prop)

noncomputable abbrev Hp := Addr → Option HO
noncomputable def upd (H : Hp) (a : Addr) (o : HO) : Hp := fun b => if b = a then some o else H b
theorem upd_same {H : Hp} {a : Addr} {o : HO} : upd H a o a = some o := by unfold upd; rw [if_pos rfl]
theorem upd_ne {H : Hp} {a b : Addr} {o : HO} (h : b ≠ a) : upd H a o b = H b := by unfold upd; rw [if_neg h]
/-- two objects of different content stand apart -/
theorem ne_of {H : Hp} {a b : Addr} {o u : HO} (h : H a = some o) (h' : H b = some u) (d : o ≠ u) : a ≠ b := by
  intro e; subst e; rw [h] at h'; exact d (Option.some.inj h')
theorem ne_of_none {H : Hp} {a b : Addr} {o : HO} (h : H a = some o) (h' : H b = none) : a ≠ b := by
  intro e; subst e; rw [h] at h'; cases h'

section
variable (P : Program) (w : World)
noncomputable def ObjOk (H : Hp) (h : Heap) (a : Addr) : HO → Prop
  | .lst xs => xs.length ≤ sizeLine ∧ Ex2 fun (its : List Value) (n : Nat) => Vals xs its ∧ h.get? a = some { cls := .type "list", data := .seq its.toArray n }
  | .tup xs => xs.length ≤ sizeLine ∧ ∃ its : List Value, Vals xs its ∧ IsTup h a its.toArray
  | .dK kvs => kvs.length ≤ sizeLine ∧ (a == sysModules) = false ∧ ∃ vs, KV kvs vs ∧ h.DictOf (mixKind P w) a vs
  | .dT kvs => kvs.length ≤ sizeLine ∧ (a == sysModules) = false ∧ ∃ xs : List (List Key × Addr × Value),
      Paired (fun (p : List Key × V) (q : List Key × Addr × Value) => p.1 = q.1 ∧ H q.2.1 = some (.tup (p.1.map kV)) ∧ RelV p.2 q.2.2) kvs xs ∧
      Ex3 fun o es ep => h.get? a = some o ∧ o.ExactDict ∧ o.data = .dict es ep ∧ es.toList = xs.map (entryOfKey (tupleKind (mixKind P w))) ∧ (xs.map (·.1)).Nodup
  | .set S n => h.SetOf (intKind P w) a S n
  | .ins C dx fs => H dx = some (.own a) ∧ fs.length ≤ 1000 ∧ dx ≠ a ∧ h.get? a = some (PySem.W.instObj C dx) ∧
      ∃ mA, h.Ns1 dx mA ∧ (∀ f, RelO (fs.lookup f) (mA f)) ∧ PySem.Within mA (fs.map (·.1))
  | .own _ => ∃ o, h.get? a = some o
  | .xd fs => ∃ mA, h.Ns1 a mA ∧ ∀ f, RelO (fs.lookup f) (mA f)
  | .rng lo hi => Ex3 fun t u v => h.get? a = some { cls := .type "range", data := .fields #[.int lo t, .int hi u, .int 1 v] }
  | .frz o u => h.get? a = some o ∧ ObjOk H h a u
  | .tbl ps => h.get? a = some { cls := .none, data := .fields ps }
  | .met f x => h.get? a = some (PySem.W.methodObj (.ref f) (.ref x))
  | .ext φ => φ h ∧ (∃ o, h.get? a = some o) ∧ ∀ h1 h2 : Heap, φ h1 → (∀ o, h1.get? a = some o → h2.get? a = some o) → φ h2
/-- the abstract heap is held -/
noncomputable def HOk (H : Hp) (h : Heap) : Prop := ∀ a o, H a = some o → ObjOk P w H h a o
end

section
variable {P : Program} {w : World} {H H' : Hp} {h h' : Heap} {a : Addr} {o : HO}
theorem ObjOk.lt (x : ObjOk P w H h a o) : a < h.objs.size := by
  cases o with
  | lst xs => obtain ⟨_, _, _, _, e⟩ := x; exact Heap.lt_size e
  | tup xs => obtain ⟨_, _, _, p⟩ := x; exact p.lt
  | dK kvs => obtain ⟨_, _, _, _, o, _, _, e, _⟩ := x; exact Heap.lt_size e
  | dT kvs => obtain ⟨_, _, _, _, o, _, _, e, _⟩ := x; exact Heap.lt_size e
  | set S n => obtain ⟨o, _, _, _, e, _⟩ := x; exact Heap.lt_size e
  | ins C dx fs => obtain ⟨_, _, _, e, _⟩ := x; exact Heap.lt_size e
  | own y => obtain ⟨_, e⟩ := x; exact Heap.lt_size e
  | xd fs => obtain ⟨_, ⟨_, _, _, e, _⟩, _⟩ := x; exact Heap.lt_size e
  | rng lo hi => obtain ⟨_, _, _, e⟩ := x; exact Heap.lt_size e
  | frz ob u => obtain ⟨e, _⟩ := x; exact Heap.lt_size e
  | tbl ps => exact Heap.lt_size (show h.get? a = some _ from x)
  | met f y => exact Heap.lt_size (show h.get? a = some _ from x)
  | ext φ => obtain ⟨_, ⟨_, e⟩, _⟩ := x; exact Heap.lt_size e
theorem Paired.mapP {α β : Type} {F G : α → β → Prop} : ∀ {l₁ : List α} {l₂ : List β}, Paired F l₁ l₂ → (∀ a b, F a b → G a b) → Paired G l₁ l₂
  | _, _, .nil, _ => .nil
  | _, _, .cons r t, f => .cons (f _ _ r) (Paired.mapP t f)
/-- what an object's description leans on: its own object, its own dict, the tuples -/
theorem ObjOk.stay (x : ObjOk P w H h a o) (k : ∀ b u, (b = a ∨ H b = some (.own a)) → h.get? b = some u → h'.get? b = some u)
    (ho : ∀ b, H b = some (.own a) → H' b = some (.own a)) (ht : ∀ b xs, H b = some (.tup xs) → H' b = some (.tup xs)) : ObjOk P w H' h' a o := by
  induction o with
  | lst xs => obtain ⟨z, its, n, r, e⟩ := x; exact ⟨z, its, n, r, k _ _ (.inl rfl) e⟩
  | tup xs => obtain ⟨z, its, r, ob, e, c⟩ := x; exact ⟨z, its, r, ob, k _ _ (.inl rfl) e, c⟩
  | dK kvs => obtain ⟨z, y, vs, r, ob, es, ep, e, c⟩ := x; exact ⟨z, y, vs, r, ob, es, ep, k _ _ (.inl rfl) e, c⟩
  | dT kvs =>
    obtain ⟨z, y, xs, r, ob, es, ep, e, c⟩ := x
    exact ⟨z, y, xs, Paired.mapP r fun p q z => ⟨z.1, ht _ _ z.2.1, z.2.2⟩, ob, es, ep, k _ _ (.inl rfl) e, c⟩
  | set S n => obtain ⟨ob, es, ep, t, e, c⟩ := x; exact ⟨ob, es, ep, t, k _ _ (.inl rfl) e, c⟩
  | ins C dx fs =>
    obtain ⟨d, z, ne, e, mA, ⟨od, es, ep, e2, c⟩, r⟩ := x
    exact ⟨ho _ d, z, ne, k _ _ (.inl rfl) e, mA, ⟨od, es, ep, k _ _ (.inr d) e2, c⟩, r⟩
  | own y => obtain ⟨ob, e⟩ := x; exact ⟨ob, k _ _ (.inl rfl) e⟩
  | xd fs => obtain ⟨mA, ⟨od, es, ep, e, c⟩, r⟩ := x; exact ⟨mA, ⟨od, es, ep, k _ _ (.inl rfl) e, c⟩, r⟩
  | rng lo hi => obtain ⟨t, u, v, e⟩ := x; exact ⟨t, u, v, k _ _ (.inl rfl) e⟩
  | frz ob u ih => obtain ⟨e, q⟩ := x; exact ⟨k _ _ (.inl rfl) e, ih q⟩
  | tbl ps =>
    have e : h.get? a = some { cls := .none, data := .fields ps } := x
    show h'.get? a = some { cls := .none, data := .fields ps }
    exact k a _ (.inl rfl) e
  | met f y =>
    have e : h.get? a = some (PySem.W.methodObj (.ref f) (.ref y)) := x
    show h'.get? a = some (PySem.W.methodObj (.ref f) (.ref y))
    exact k a _ (.inl rfl) e
  | ext φ => obtain ⟨p, ⟨o, e⟩, st⟩ := x; exact ⟨st _ _ p fun o q => k _ _ (.inl rfl) q, ⟨o, k _ _ (.inl rfl) e⟩, st⟩
theorem HOk.lt (x : HOk P w H h) (e : H a = some o) : a < h.objs.size := (x a o e).lt
theorem HOk.fresh (x : HOk P w H h) (e : h.objs.size ≤ a) : H a = none := by
  cases q : H a with
  | none => rfl
  | some u => exact absurd (Nat.lt_of_lt_of_le (x.lt q) e) (Nat.lt_irrefl _)
/-- every object of the heap is kept -/
theorem HOk.kept (x : HOk P w H h) (k : ∀ b u, h.get? b = some u → h'.get? b = some u) : HOk P w H h' := fun a o e =>
  (x a o e).stay (fun b u _ q => k b u q) (fun _ q => q) fun _ _ q => q
/-- a new object is laid and tracked -/
theorem HOk.laid (x : HOk P w H h) (k : ∀ b u, h.get? b = some u → h'.get? b = some u) (hp : h.objs.size ≤ a) (new : ObjOk P w (upd H a o) h' a o) : HOk P w (upd H a o) h' := fun b u e => by
  have hn := x.fresh hp
  by_cases hb : b = a
  · subst hb; rw [upd_same] at e; cases e; exact new
  · rw [upd_ne hb] at e
    exact (x b u e).stay (fun c v _ q => k c v q) (fun c q => by rw [upd_ne (ne_of_none q hn)]; exact q) fun c xs q => by rw [upd_ne (ne_of_none q hn)]; exact q
end

/-- what may be read as u: it is u, or a known u -/
noncomputable def Rd (H : Hp) (a : Addr) (u : HO) : Prop := H a = some u ∨ ∃ o, H a = some (.frz o u)
theorem Rd.ok {P : Program} {w : World} {H : Hp} {h : Heap} {a : Addr} {u : HO} (r : Rd H a u) (x : HOk P w H h) : ObjOk P w H h a u := by
  rcases r with r | ⟨o, r⟩
  · exact x a u r
  · obtain ⟨_, q⟩ := x a _ r
    exact q
/-- what may be written -/
noncomputable def Mut : Option HO → Prop
  | some (.lst _) => True
  | some (.dK _) => True
  | some (.dT _) => True
  | some (.set _ _) => True
  | some (.ins _ _ _) => True
  | some (.ext _) => True
  | _ => False
section
variable {P : Program} {w : World} {H : Hp} {h h' : Heap} {x e : Addr} {o' : HO}
/-- the object at e is changed: x itself, or the dict of the instance x -/
theorem HOk.write (ok : HOk P w H h) (mu : Mut (H x)) (he : e = x ∨ H e = some (.own x)) (k : ∀ b u, b ≠ e → h.get? b = some u → h'.get? b = some u) (heo : ∃ u, h'.get? e = some u)
    (new : ObjOk P w (upd H x o') h' x o') : HOk P w (upd H x o') h' := fun b u q => by
  have nown : ∀ c y, H c = some (.own y) → c ≠ x := fun c y r z => by subst z; rw [r] at mu; exact mu
  have ntup : ∀ c xs, H c = some (.tup xs) → c ≠ x := fun c xs r z => by subst z; rw [r] at mu; exact mu
  by_cases hb : b = x
  · subst hb; rw [upd_same] at q; cases q; exact new
  · rw [upd_ne hb] at q
    by_cases hbe : b = e
    · have q' : H b = some (.own x) := by
        rcases he with z | z
        · exact absurd (hbe.trans z) hb
        · rw [hbe]; exact z
      rw [q] at q'; cases q'
      obtain ⟨v, hv⟩ := heo
      exact ⟨v, by rw [hbe]; exact hv⟩
    · refine (ok b u q).stay (fun c v hc r => k c v ?_ r) (fun c r => by rw [upd_ne (nown c b r)]; exact r) fun c xs r => by rw [upd_ne (ntup c xs r)]; exact r
      rcases hc with rfl | hc
      · exact hbe
      · rintro rfl
        rcases he with z | z
        · exact nown c b hc z
        · rw [hc] at z; cases z; exact hb rfl
end

/-! ### kept unless tracked; of the frames at fs (the callers') the slots may change (an exception that passes writes there); of the records at ex (iterators) nothing is said -/
structure Un (fs ex : List Addr) (H H' : Hp) (h h' : Heap) : Prop where
  keep : ∀ b o, h.get? b = some o → H b = none → b ∉ fs → b ∉ ex → h'.get? b = some o
  slot : ∀ b o, h.get? b = some o → H b = none → b ∈ fs → b ∉ ex → ∃ sl, h'.get? b = some { o with slots := sl }
  free : ∀ b o, h.get? b = some o → H b = none → b ∉ ex → H' b = none
  there : ∀ b o, h.get? b = some o → b ∉ ex → ∃ o', h'.get? b = some o'
  tups : ∀ b xs, H b = some (.tup xs) → H' b = some (.tup xs)
  frzs : ∀ b o u, H b = some (.frz o u) → H' b = some (.frz o u)
  tbls : ∀ b ps, H b = some (.tbl ps) → ∃ more, H' b = some (.tbl (ps ++ more))
section
variable {fs fs' ex ex' : List Addr} {H H1 H2 : Hp} {h h1 h2 h' : Heap} {a x e : Addr} {o : HO}
theorem Un.any (u : Un fs ex H H1 h h1) {b : Addr} {ob : Obj} (q : h.get? b = some ob) (n : H b = none) (hx : b ∉ ex) : ∃ sl, h1.get? b = some { ob with slots := sl } := by
  by_cases hb : b ∈ fs
  · exact u.slot b ob q n hb hx
  · exact ⟨ob.slots, u.keep b ob q n hb hx⟩
theorem Un.kept (k : ∀ b u, h.get? b = some u → h'.get? b = some u) : Un fs ex H H h h' :=
  ⟨fun b ob q _ _ _ => k b ob q, fun b ob q _ _ _ => ⟨ob.slots, k b ob q⟩, fun _ _ _ n _ => n, fun b ob q _ => ⟨ob, k b ob q⟩, fun _ _ q => q, fun _ _ _ q => q, fun _ ps q => ⟨#[], by rw [q]; simp⟩⟩
theorem Un.refl : Un fs ex H H h h := Un.kept fun _ _ q => q
theorem Un.laid (k : ∀ b u, h.get? b = some u → h'.get? b = some u) (hp : h.objs.size ≤ a) (hn : H a = none) : Un fs ex H (upd H a o) h h' where
  keep := fun b u q _ _ _ => k b u q
  slot := fun b u q _ _ _ => ⟨u.slots, k b u q⟩
  free := fun b u q n _ => by rw [upd_ne (Nat.ne_of_lt (Nat.lt_of_lt_of_le (Heap.lt_size q) hp))]; exact n
  there := fun b u q _ => ⟨u, k b u q⟩
  tups := fun b xs q => by rw [upd_ne (ne_of_none q hn)]; exact q
  frzs := fun b u xs q => by rw [upd_ne (ne_of_none q hn)]; exact q
  tbls := fun b ps q => ⟨#[], by rw [upd_ne (ne_of_none q hn), q]; simp⟩
theorem Un.write (mu : Mut (H x)) (he : e = x ∨ H e = some (.own x)) (k : ∀ b u, b ≠ e → h.get? b = some u → h'.get? b = some u) (heo : ∃ u, h'.get? e = some u) : Un fs ex H (upd H x o) h h' := by
  have hx : ∀ b, H b = none → b ≠ x := fun b n z => by subst z; rw [n] at mu; exact mu
  have hb : ∀ b, H b = none → b ≠ e := fun b n z => by
    subst z
    rcases he with r | r
    · exact hx b n r
    · rw [n] at r; cases r
  have hm : ∀ b u, H b = some u → ¬ Mut (some u) → b ≠ x := fun b u q nm z => by subst z; rw [q] at mu; exact nm mu
  refine ⟨fun b u q n _ _ => k b u (hb b n) q, fun b u q n _ _ => ⟨u.slots, k b u (hb b n) q⟩, fun b u q n _ => by rw [upd_ne (hx b n)]; exact n, fun b u q _ => ?_,
    fun b xs q => by rw [upd_ne (hm b _ q fun z => z)]; exact q, fun b u xs q => by rw [upd_ne (hm b _ q fun z => z)]; exact q, fun b ps q => ⟨#[], by rw [upd_ne (hm b _ q fun z => z), q]; simp⟩⟩
  by_cases hbe : b = e
  · subst hbe; exact heo
  · exact ⟨u, k b u hbe q⟩
end

/-! ### the heap without what is tracked -/
noncomputable def trk (h : Heap) (H : Hp) : List Addr := (List.range h.objs.size).filter fun a => (H a).isSome
noncomputable def hidT (h : Heap) (H : Hp) : Heap := PySem.W.hideAll h (trk h H)
theorem hidT_size (h : Heap) (H : Hp) : (hidT h H).objs.size = h.objs.size := PySem.W.hideAll_size _ _
theorem hidT_get {h : Heap} {H : Hp} {b : Addr} {o : Obj} (e : h.get? b = some o) (n : H b = none) : (hidT h H).get? b = some o :=
  PySem.W.hideAll_get _ e fun hm => by
    have q : (H b).isSome = true := (List.mem_filter.mp hm).2
    rw [n] at q; simp at q
theorem of_hidT {h : Heap} {H : Hp} {b : Addr} {o : Obj} (e : (hidT h H).get? b = some o) : h.get? b = some o ∧ H b = none := by
  have e' : h.get? b = some o := PySem.W.of_hideAll (trk h H) e
  refine ⟨e', ?_⟩
  cases q : H b with
  | none => rfl
  | some x =>
    have hm : b ∈ trk h H := List.mem_filter.mpr ⟨List.mem_range.mpr (Heap.lt_size e'), by simp [q]⟩
    have z : (hidT h H).get? b = none := PySem.W.hideAll_none (trk h H) hm
    rw [z] at e; cases e

/-! ### OpenK's ledger, filled with every new object but one -/
end L2

namespace L2
open PySem PySem.Spec PyProof.Rows

/-- the module's facts, over the base: the heap at the law's entry without what is tracked there -/
structure Mod (K : PySem.W.Frag) (mg : Str → Option Value) (base : Heap) : Prop where
  kin : K.In base
  glob : base.Ns mainGlobals mg
  blt : ∃ mb, base.Ns builtinsNs mb ∧ ∀ x : Str, x ≠ "__name__" → mb x = bootBuiltins x
  nolimit : base.NoLimit

/-- the context: a def's body (or a comprehension's block) running. base: fixed through the whole law; s₀, H₀: the entry; outer: the frames whose slots others may change (a def's callers); stack: all frames that run;
   ex: iterators that were made ahead of the entry and are walked here (a comprehension's); fn: the names whose cells were made at the entry (a def: all; a comprehension's block: its own); calm: not within an except suite; pn: pins that every state bears; xe: what is wanted of an exception that leaves the code -/
structure Cx where
  prog : Program
  w : World
  K : PySem.W.Frag
  mg : Str → Option Value
  base : Heap
  A : Around
  N : List Str
  s₀ : Shared
  H₀ : Hp
  env : Env
  outer : List Env
  stack : List Env
  ex : List Addr
  fn : Str → Bool
  calm : Bool
  pn : List (Addr × Obj)
  xe : Value → Shared → Prop
/-- the callers' frames -/
noncomputable def frs (l : List Env) : List Addr := l.filterMap (·.frame)
noncomputable abbrev Cx.fs (X : Cx) : List Addr := frs X.outer

noncomputable def Vis (sc : Scope) (x : Str) : Prop := sc.names.lookup x = some .local ∨ sc.names.lookup x = some .cell ∨ sc.names.lookup x = some .free
noncomputable def Loc (sc : Scope) (x : Str) : Prop := sc.names.lookup x = some .local ∨ sc.names.lookup x = some .cell
noncomputable def Look (env : Env) (h : Heap) (m : Str → Option Value) (x : Str) (u : Value) : Prop :=
  (env.kindOf x = some .local ∧ m x = some u) ∨ ((env.kindOf x = some .cell ∨ env.kindOf x = some .free) ∧ ∃ c, env.cells.lookup x = some c ∧ h.IsCell c (some u))

structure Cx.Ok (X : Cx) : Prop where
  mod : Mod X.K X.mg X.base
  kind : X.env.scope.kind = .function
  glob : X.env.globals = mainGlobals
  blt : X.env.builtins = builtinsNs
  above : X.s₀.heap.objs.size ≤ X.env.locals
  inj : ∀ x y c, X.env.cells.lookup x = some c → X.env.cells.lookup y = some c → x = y
  has : ∀ x, (X.env.kindOf x = some .cell ∨ X.env.kindOf x = some .free) → ∃ c, X.env.cells.lookup x = some c
  cab : ∀ x c, X.fn x = true → X.env.cells.lookup x = some c → X.s₀.heap.objs.size ≤ c
  hd : X.calm = true → X.A.handled = none
  frames : X.A.frames = some X.stack
  stk : X.stack = X.outer ∨ (X.stack = X.env :: X.outer ∧ X.env.frame = some X.env.locals)
  exf : ∀ b ∈ X.ex, b ≠ X.env.locals ∧ ∀ x c, X.env.cells.lookup x = some c → c ≠ b
  bs : ∀ b o, X.base.get? b = some o → X.s₀.heap.get? b = some o ∧ X.H₀ b = none
  bsz : X.base.objs.size ≤ X.s₀.heap.objs.size
  noex : ∀ b o, X.base.get? b = some o → b ∉ X.ex
  exfs : ∀ b ∈ X.ex, b ∉ X.fs
  funs : X.s₀.heap.FunFrames X.base X.outer
  frf : ∀ b ∈ X.fs, X.H₀ b = none

structure Inv (X : Cx) (pins : List (Addr × Obj)) (σ : List (Option V)) (H : Hp) (s : Shared) : Prop where
  ok : X.Ok
  os : s.os = X.s₀.os
  bare : AllBare s.gens
  base : Un X.fs X.ex X.H₀ H X.s₀.heap s.heap
  loc : ∃ m, s.heap.Ns X.env.locals m ∧ ∀ (i : Nat) (x : Str) (v : V), X.N[i]? = some x → σ[i]? = some (some v) → Vis X.env.scope x → ∃ u, RelV v u ∧ Look X.env s.heap m x u
  cell : ∀ x c, X.env.cells.lookup x = some c → ∃ v, s.heap.IsCell c v
  free : H X.env.locals = none
  freeC : ∀ x c, X.env.cells.lookup x = some c → H c = none
  pin : ∀ p ∈ X.pn ++ pins, s.heap.get? p.1 = some p.2 ∧ H p.1 = none ∧ p.1 ≠ X.env.locals ∧ p.1 ∉ X.fs ∧ ∀ v, p.2.data ≠ .cell v
  hok : HOk X.prog X.w H s.heap
  len : σ.length = X.N.length

section
variable {X : Cx} {pins : List (Addr × Obj)} {σ : List (Option V)} {H H' : Hp} {s : Shared} {h' : Heap}

theorem Cx.Ok.nofr (ok : X.Ok) {b : Addr} {o : Obj} (e : X.base.get? b = some o) : b ∉ X.fs := fun hb => by
  have := (ok.funs.mem hb).1
  rw [e] at this; cases this
theorem Inv.bs (I : Inv X pins σ H s) : ∀ b o, X.base.get? b = some o → s.heap.get? b = some o ∧ H b = none := fun b o e =>
  ⟨I.base.keep b o (I.ok.bs b o e).1 (I.ok.bs b o e).2 (I.ok.nofr e) (I.ok.noex b o e), I.base.free b o (I.ok.bs b o e).1 (I.ok.bs b o e).2 (I.ok.noex b o e)⟩
theorem Inv.bk (I : Inv X pins σ H s) : ∀ b o, X.base.get? b = some o → s.heap.get? b = some o := fun b o e => (I.bs b o e).1
theorem Inv.mod (I : Inv X pins σ H s) : Mod X.K X.mg X.base := I.ok.mod
theorem Inv.kIn (I : Inv X pins σ H s) : X.K.In s.heap := I.ok.mod.kin.keeps I.bk
theorem Inv.lt (I : Inv X pins σ H s) : X.env.locals < s.heap.objs.size := let ⟨_, hn, _⟩ := I.loc; hn.lt
theorem Inv.sz (I : Inv X pins σ H s) : X.s₀.heap.objs.size ≤ s.heap.objs.size := Nat.le_trans I.ok.above (Nat.le_of_lt I.lt)
theorem Inv.nofs (I : Inv X pins σ H s) {a : Addr} (h : s.heap.objs.size ≤ a) : a ∉ X.fs := fun hb => by
  obtain ⟨_, o, ho, _⟩ := I.ok.funs.mem hb
  exact absurd (Nat.lt_of_lt_of_le (Heap.lt_size ho) (Nat.le_trans I.sz h)) (Nat.lt_irrefl _)
theorem Inv.cne (I : Inv X pins σ H s) : ∀ x c, X.env.cells.lookup x = some c → c ≠ X.env.locals := fun x c e z => by
  obtain ⟨v, o, ho, hd⟩ := I.cell x c e
  obtain ⟨m, ⟨o', es, ep, ho', hd', _⟩, _⟩ := I.loc
  rw [z, ho'] at ho; cases ho; rw [hd'] at hd; cases hd
theorem Inv.funs (I : Inv X pins σ H s) : s.heap.FunFrames X.base X.outer := by
  have all : ∀ (l : List Env), (∀ b ∈ frs l, b ∈ X.fs) → X.s₀.heap.FunFrames X.base l → s.heap.FunFrames X.base l := by
    intro l
    induction l with
    | nil => intro _ _; trivial
    | cons env r ih =>
      intro hs hl
      obtain ⟨hk, ⟨L, o, hf, hn, ho, hd⟩, hr⟩ := hl
      have hL : L ∈ X.fs := hs L (by unfold frs; rw [List.filterMap_cons, hf]; exact List.mem_cons_self)
      obtain ⟨sl, e⟩ := I.base.slot L o ho (I.ok.frf L hL) hL fun z => I.ok.exfs L z hL
      exact ⟨hk, ⟨L, _, hf, hn, e, hd⟩, ih (fun b hb => hs b (by unfold frs; rw [List.filterMap_cons, hf]; exact List.mem_cons_of_mem _ hb)) hr⟩
  exact all X.outer (fun _ hb => hb) I.ok.funs

/-- the frames that run, for a call -/
theorem Inv.stack (I : Inv X pins σ H s) : s.heap.FunFrames X.base X.stack := by
  rcases I.ok.stk with e | ⟨e, hf⟩
  · rw [e]; exact I.funs
  · rw [e]
    obtain ⟨m, hn, _⟩ := I.loc
    refine .cons (by rw [I.ok.kind]; decide) hf hn ?_ I.funs
    exact Heap.get?_none_of_le (Nat.le_trans I.ok.bsz I.ok.above)
theorem Inv.stkSub (I : Inv X pins σ H s) : ∀ b ∈ frs X.stack, b ∈ X.env.locals :: X.fs := fun b hb => by
  rcases I.ok.stk with e | ⟨e, hf⟩
  · rw [e] at hb; exact List.mem_cons_of_mem _ hb
  · rw [e] at hb
    unfold frs at hb
    rw [List.filterMap_cons, hf] at hb
    exact hb
theorem Inv.stkFree (I : Inv X pins σ H s) : ∀ b ∈ frs X.stack, H b = none := fun b hb => by
  rcases List.mem_cons.mp (I.stkSub b hb) with e | hb
  · rw [e]; exact I.free
  · obtain ⟨_, o, ho, _⟩ := I.ok.funs.mem hb
    exact I.base.free b o ho (I.ok.frf b hb) fun z => I.ok.exfs b z hb

/-- THE STEP: the untracked objects but the frame and the records at ch are kept (the callers' frames up to slots), the frame's map is kept, the new abstract heap is held -/
theorem Inv.step {g' : Array GenState} {t' : Nat} {d' : Drawn} {ch : List Addr} (I : Inv X pins σ H s)
    (hch : ∀ b ∈ ch, (b ∈ X.ex ∨ X.s₀.heap.objs.size ≤ b) ∧ b ≠ X.env.locals ∧ (∀ x c, X.env.cells.lookup x = some c → c ≠ b) ∧ ∀ p ∈ X.pn ++ pins, p.1 ≠ b)
    (keep : ∀ b o, b ≠ X.env.locals → b ∉ X.fs → b ∉ ch → s.heap.get? b = some o → H b = none → h'.get? b = some o)
    (slot : ∀ b o, b ≠ X.env.locals → b ∈ X.fs → b ∉ ch → s.heap.get? b = some o → H b = none → ∃ sl, h'.get? b = some { o with slots := sl }) (free : ∀ b o, b ∉ ch → s.heap.get? b = some o → H b = none → H' b = none)
    (there : ∀ b o, b ∉ ch → s.heap.get? b = some o → ∃ o', h'.get? b = some o')
    (tups : ∀ b xs, H b = some (.tup xs) → H' b = some (.tup xs)) (frzs : ∀ b o u, H b = some (.frz o u) → H' b = some (.frz o u)) (tbls : ∀ b ps, H b = some (.tbl ps) → ∃ more, H' b = some (.tbl (ps ++ more)))
    (ns : ∀ m, s.heap.Ns X.env.locals m → h'.Ns X.env.locals m) (hok : HOk X.prog X.w H' h') (hg : AllBare g') :
    Inv X pins σ H' { s with heap := h', gens := g', drawn := d', toks := t' } := by
  have neL : ∀ b o, X.s₀.heap.get? b = some o → b ≠ X.env.locals := fun b o e => Nat.ne_of_lt (Nat.lt_of_lt_of_le (Heap.lt_size e) I.ok.above)
  have neC : ∀ b o, X.s₀.heap.get? b = some o → b ∉ X.ex → b ∉ ch := fun b o e hx hb => by
    rcases (hch b hb).1 with z | z
    · exact hx z
    · exact absurd (Nat.lt_of_lt_of_le (Heap.lt_size e) z) (Nat.lt_irrefl _)
  have cellK : ∀ x c, X.env.cells.lookup x = some c → ∀ v, s.heap.IsCell c v → h'.IsCell c v := fun x c e v ⟨o, ho, hd⟩ => by
    have nch : c ∉ ch := fun z => (hch c z).2.2.1 x c e rfl
    by_cases hc : c ∈ X.fs
    · obtain ⟨sl, q⟩ := slot c o (I.cne x c e) hc nch ho (I.freeC x c e)
      exact ⟨_, q, hd⟩
    · exact ⟨o, keep c o (I.cne x c e) hc nch ho (I.freeC x c e), hd⟩
  refine ⟨I.ok, I.os, hg, ⟨fun b o e n hb hx => ?_, fun b o e n hb hx => ?_, fun b o e n hx => ?_, fun b o e hx => ?_, fun b xs e => tups b xs (I.base.tups b xs e), fun b o xs e => frzs b o xs (I.base.frzs b o xs e), fun b ps e => ?_⟩, ?_, fun x c e => ?_, ?_, fun x c e => ?_, fun p hp => ?_, hok, I.len⟩
  · exact keep b o (neL b o e) hb (neC b o e hx) (I.base.keep b o e n hb hx) (I.base.free b o e n hx)
  · obtain ⟨sl, e1⟩ := I.base.slot b o e n hb hx
    obtain ⟨sl', e2⟩ := slot b _ (neL b o e) hb (neC b o e hx) e1 (I.base.free b o e n hx)
    exact ⟨sl', e2⟩
  · obtain ⟨o', e1⟩ := I.base.there b o e hx
    exact free b o' (neC b o e hx) e1 (I.base.free b o e n hx)
  · obtain ⟨o', e1⟩ := I.base.there b o e hx
    exact there b o' (neC b o e hx) e1
  · obtain ⟨m1, e1⟩ := I.base.tbls b ps e
    obtain ⟨m2, e2⟩ := tbls b _ e1
    exact ⟨m1 ++ m2, by rw [e2, Array.append_assoc]⟩
  · obtain ⟨m, hn, hl⟩ := I.loc
    refine ⟨m, ns m hn, fun i x v e1 e2 e3 => ?_⟩
    obtain ⟨u, r, l⟩ := hl i x v e1 e2 e3
    refine ⟨u, r, ?_⟩
    rcases l with l | ⟨k, c, e, z⟩
    · exact .inl l
    · exact .inr ⟨k, c, e, cellK x c e _ z⟩
  · obtain ⟨v, z⟩ := I.cell x c e
    exact ⟨v, cellK x c e v z⟩
  · obtain ⟨m, ⟨o, _, _, ho, _⟩, _⟩ := I.loc
    exact free _ o (fun z => (hch _ z).2.1 rfl) ho I.free
  · obtain ⟨v, o, ho, hd⟩ := I.cell x c e
    exact free c o (fun z => (hch c z).2.2.1 x c e rfl) ho (I.freeC x c e)
  · obtain ⟨e, n, ne, nf, d⟩ := I.pin p hp
    have nch : p.1 ∉ ch := fun z => (hch p.1 z).2.2.2 p hp rfl
    exact ⟨keep p.1 p.2 ne nf nch e n, free p.1 p.2 nch e n, ne, nf, d⟩
/-- .. where the frame's own object is kept too -/
theorem Inv.un {t' : Nat} (I : Inv X pins σ H s) (u : Un X.fs [] H H' s.heap h') (hok : HOk X.prog X.w H' h') : Inv X pins σ H' { s with heap := h', toks := t' } := by
  obtain ⟨m, ⟨o, es, ep, ho, r⟩, _⟩ := id I.loc
  obtain ⟨sl, hL⟩ := u.any ho I.free (by simp)
  exact I.step (g' := s.gens) (d' := s.drawn) (ch := []) (fun _ z => nomatch z) (fun b o _ hb _ e n => u.keep b o e n hb (by simp)) (fun b o _ hb _ e n => u.slot b o e n hb (by simp)) (fun b o _ e n => u.free b o e n (by simp)) (fun b o _ e => u.there b o e (by simp)) u.tups u.frzs u.tbls (fun m' hm => by
    obtain ⟨o', es', ep', ho', r'⟩ := hm
    rw [ho] at ho'; cases ho'
    exact ⟨_, es', ep', hL, r'⟩) hok I.bare
/-- behind a call (or a comprehension's block): the slots of this frame may have changed too, the records at ch may have turned -/
theorem Inv.call {g' : Array GenState} {t' : Nat} {d' : Drawn} {ch : List Addr} (I : Inv X pins σ H s) (u : Un (frs X.stack) ch H H' s.heap h') (hok : HOk X.prog X.w H' h') (hg : AllBare g')
    (hch : ∀ b ∈ ch, (b ∈ X.ex ∨ X.s₀.heap.objs.size ≤ b) ∧ b ≠ X.env.locals ∧ (∀ x c, X.env.cells.lookup x = some c → c ≠ b) ∧ ∀ p ∈ X.pn ++ pins, p.1 ≠ b) :
    Inv X pins σ H' { s with heap := h', gens := g', drawn := d', toks := t' } := by
  obtain ⟨m, ⟨o, es, ep, ho, r⟩, _⟩ := id I.loc
  obtain ⟨sl, hL⟩ := u.any ho I.free fun z => (hch _ z).2.1 rfl
  exact I.step (ch := ch) hch (fun b o hL hb hc e n => u.keep b o e n (fun z => (List.mem_cons.mp (I.stkSub b z)).elim hL hb) hc) (fun b o _ _ hc e n => u.any e n hc) (fun b o hc e n => u.free b o e n hc) (fun b o hc e => u.there b o e hc) u.tups u.frzs u.tbls (fun m' hm => by
    obtain ⟨o', es', ep', ho', r'⟩ := hm
    rw [ho] at ho'; cases ho'
    exact ⟨_, es', ep', hL, r'⟩) hok hg
/-- an untracked record of ours (an iterator) has turned -/
theorem Inv.turned {t' : Nat} {it : Addr} (I : Inv X pins σ H s) (k : ∀ b o, b ≠ it → s.heap.get? b = some o → h'.get? b = some o) (hn : H it = none) (hL : it ≠ X.env.locals)
    (h1 : it ∈ X.ex ∨ X.s₀.heap.objs.size ≤ it) (h2 : ∀ x c, X.env.cells.lookup x = some c → c ≠ it) (h3 : ∀ p ∈ X.pn ++ pins, p.1 ≠ it) : Inv X pins σ H { s with heap := h', toks := t' } := by
  have nit : ∀ b u, H b = some u → b ≠ it := fun b u e z => by rw [z, hn] at e; cases e
  refine I.step (g' := s.gens) (d' := s.drawn) (ch := [it]) (fun b hb => ?_) (fun b o _ _ hc e _ => k b o (fun z => hc (by simp [z])) e) (fun b o _ _ hc e _ => ⟨o.slots, k b o (fun z => hc (by simp [z])) e⟩) (fun _ _ _ _ n => n)
    (fun b o hc e => ⟨o, k b o (fun z => hc (by simp [z])) e⟩) (fun _ _ e => e) (fun _ _ _ e => e) (fun b ps e => ⟨#[], by rw [e]; simp⟩) (fun m hm => ?_) (fun b u e => ?_) I.bare
  · have e : b = it := by simpa using hb
    subst e
    exact ⟨h1, hL, h2, h3⟩
  · obtain ⟨o, es, ep, ho, r⟩ := hm
    exact ⟨o, es, ep, k _ o (Ne.symm hL) ho, r⟩
  · refine (I.hok b u e).stay (fun c v hc q => k c v ?_ q) (fun _ q => q) fun _ _ q => q
    rcases hc with z | z
    · rw [z]; exact nit b u e
    · exact nit c _ z
theorem Inv.tok (I : Inv X pins σ H s) (t : Nat) : Inv X pins σ H { s with toks := t } := I.un (h' := s.heap) (t' := t) Un.refl I.hok
/-- all objects kept -/
theorem Inv.kept {t' : Nat} (I : Inv X pins σ H s) (k : ∀ b u, s.heap.get? b = some u → h'.get? b = some u) : Inv X pins σ H { s with heap := h', toks := t' } := I.un (Un.kept k) (I.hok.kept k)
/-- a new object laid and tracked -/
theorem Inv.laid {a : Addr} {o : HO} {t' : Nat} (I : Inv X pins σ H s) (k : ∀ b u, s.heap.get? b = some u → h'.get? b = some u) (hp : s.heap.objs.size ≤ a) (new : ObjOk X.prog X.w (upd H a o) h' a o) :
    Inv X pins σ (upd H a o) { s with heap := h', toks := t' } := I.un (Un.laid k hp (I.hok.fresh hp)) (I.hok.laid k hp new)
/-- an object written -/
theorem Inv.write {x e : Addr} {o : HO} {t' : Nat} (I : Inv X pins σ H s) (mu : Mut (H x)) (he : e = x ∨ H e = some (.own x)) (k : ∀ b u, b ≠ e → s.heap.get? b = some u → h'.get? b = some u) (heo : ∃ u, h'.get? e = some u)
    (new : ObjOk X.prog X.w (upd H x o) h' x o) : Inv X pins σ (upd H x o) { s with heap := h', toks := t' } := I.un (Un.write mu he k heo) (I.hok.write mu he k heo new)
/-- forgetting slots, pins -/
theorem Inv.weak {σ' : List (Option V)} (I : Inv X pins σ H s) (hl : σ'.length = σ.length) (w : ∀ (i : Nat) v, σ'[i]? = some (some v) → σ[i]? = some (some v)) : Inv X pins σ' H s :=
  ⟨I.ok, I.os, I.bare, I.base, let ⟨m, hn, hl'⟩ := I.loc; ⟨m, hn, fun i x v e1 e2 e3 => hl' i x v e1 (w i v e2) e3⟩, I.cell, I.free, I.freeC, I.pin, I.hok, hl.trans I.len⟩
theorem Inv.pins_of {pins' : List (Addr × Obj)} (I : Inv X pins σ H s) (h : ∀ p ∈ pins', s.heap.get? p.1 = some p.2 ∧ H p.1 = none ∧ p.1 ≠ X.env.locals ∧ p.1 ∉ X.fs ∧ ∀ v, p.2.data ≠ .cell v) : Inv X pins' σ H s :=
  ⟨I.ok, I.os, I.bare, I.base, I.loc, I.cell, I.free, I.freeC, fun p hp => (List.mem_append.mp hp).elim (fun z => I.pin p (List.mem_append_left _ z)) (h p), I.hok, I.len⟩

theorem nodup_ix {N : List Str} (hN : N.Nodup) {i j : Nat} {x : Str} (a : N[i]? = some x) (b : N[j]? = some x) : i = j := by
  obtain ⟨h1, e1⟩ := List.getElem?_eq_some_iff.mp a
  obtain ⟨h2, e2⟩ := List.getElem?_eq_some_iff.mp b
  exact (List.getElem_inj hN).mp (e1.trans e2.symm)

/-- a name is stored; what changed -/
theorem store_ok2 {M : Model} {A : Around} {E : Value → Shared → Prop} {i : Nat} {x : Str} {v : V} {u : Value} {Q : Unit → Shared → Prop} (I : Inv X pins σ H s) (hN : X.N.Nodup) (hi : X.N[i]? = some x) (hx : Loc X.env.scope x) (r : RelV v u)
    (h : ∀ s', Inv X pins (σ.set i (some v)) H s' → (∃ a, Heap.SameBut a s.heap s'.heap ∧ (a = X.env.locals ∨ X.env.cells.lookup x = some a)) → Q () s') (hf : X.fn x = true ∨ X.env.scope.names.lookup x = some .local := by first | exact .inl rfl | exact .inr rfl | assumption) : wpAny M A (storeName X.env x u) Q E s := by
  obtain ⟨m, hn, hl⟩ := id I.loc
  have hcls : (X.env.scope.kind == .class || (X.env.scope.kind == .module && X.env.locals != X.env.globals)) = false := by rw [I.ok.kind]; rfl
  have hiσ : i < σ.length := by rw [I.len]; exact (List.getElem?_eq_some_iff.mp hi).1
  have cne := I.cne
  have tracked : ∀ {a : Addr} {h' : Heap}, (∃ o, s.heap.get? a = some o ∧ H a = none) → Heap.SameBut a s.heap h' → HOk X.prog X.w H h' := fun {a h'} ha hs b ob e => by
    obtain ⟨_, _, hfree⟩ := ha
    refine (I.hok b ob e).stay (fun c w' hc q => (hs.2 c ?_).trans q) (fun _ q => q) fun _ _ q => q
    rintro rfl
    rcases hc with rfl | hc
    · rw [hfree] at e; cases e
    · rw [hfree] at hc; cases hc
  rcases hx with hk | hk
  · refine wpAny_storeName_local hk hn (fun h' hn' hs => ?_) hcls
    obtain ⟨oL, _, _, hoL, _⟩ := id hn
    refine h _ ⟨I.ok, I.os, I.bare, ⟨fun b o e n hb hx => ?_, fun b o e n hb hx => ?_, I.base.free, fun b o e hx => ?_, I.base.tups, I.base.frzs, I.base.tbls⟩, ⟨_, hn', fun j y v' e1 e2 e3 => ?_⟩, fun y c e => ?_, I.free, I.freeC, fun p hp => ?_, tracked ⟨oL, hoL, I.free⟩ hs, by simpa using I.len⟩ ⟨_, hs, .inl rfl⟩
    · exact (hs.2 b (Nat.ne_of_lt (Nat.lt_of_lt_of_le (Heap.lt_size e) I.ok.above))).trans (I.base.keep b o e n hb hx)
    · obtain ⟨sl, e1⟩ := I.base.slot b o e n hb hx
      exact ⟨sl, (hs.2 b (Nat.ne_of_lt (Nat.lt_of_lt_of_le (Heap.lt_size e) I.ok.above))).trans e1⟩
    · obtain ⟨o', e1⟩ := I.base.there b o e hx
      exact ⟨o', (hs.2 b (Nat.ne_of_lt (Nat.lt_of_lt_of_le (Heap.lt_size e) I.ok.above))).trans e1⟩
    · by_cases hj : j = i
      · subst hj
        rw [hi] at e1; cases e1
        rw [List.getElem?_set_self hiσ] at e2
        cases e2
        exact ⟨u, r, .inl ⟨hk, by simp⟩⟩
      · rw [List.getElem?_set_ne (Ne.symm hj)] at e2
        obtain ⟨u', r', q⟩ := hl j y v' e1 e2 e3
        refine ⟨u', r', ?_⟩
        rcases q with ⟨k, e⟩ | ⟨k, c, e, z⟩
        · refine .inl ⟨k, ?_⟩
          have : y ≠ x := fun e => hj (nodup_ix hN e1 (e ▸ hi))
          simp [this, e]
        · exact .inr ⟨k, c, e, z.sameBut hs (cne y c e)⟩
    · obtain ⟨w', z⟩ := I.cell y c e
      exact ⟨w', z.sameBut hs (cne y c e)⟩
    · obtain ⟨e, n, ne, nf, d⟩ := I.pin p hp
      exact ⟨(hs.2 p.1 ne).trans e, n, ne, nf, d⟩
  · have hfn : X.fn x = true := by
      rcases hf with z | z
      · exact z
      · rw [z] at hk; cases hk
    obtain ⟨c, hc⟩ := I.ok.has x (.inl hk)
    obtain ⟨w', z⟩ := I.cell x c hc
    refine wpAny_storeName_cell I.ok.kind hk hc z (fun h' hc' hs => ?_)
    obtain ⟨oc, hoc, hocd⟩ := id z
    refine h { s with heap := h' } ⟨I.ok, I.os, I.bare, ⟨fun b o e n hb hx => ?_, fun b o e n hb hx => ?_, I.base.free, fun b o e hx => ?_, I.base.tups, I.base.frzs, I.base.tbls⟩, ⟨m, hn.sameBut hs (Ne.symm (cne x c hc)), fun j y v' e1 e2 e3 => ?_⟩, fun y c' e => ?_, I.free, I.freeC, fun p hp => ?_, tracked ⟨oc, hoc, I.freeC x c hc⟩ hs, by simpa using I.len⟩ ⟨c, hs, .inr hc⟩
    · exact (hs.2 b (Nat.ne_of_lt (Nat.lt_of_lt_of_le (Heap.lt_size e) (I.ok.cab x c hfn hc)))).trans (I.base.keep b o e n hb hx)
    · obtain ⟨sl, e1⟩ := I.base.slot b o e n hb hx
      exact ⟨sl, (hs.2 b (Nat.ne_of_lt (Nat.lt_of_lt_of_le (Heap.lt_size e) (I.ok.cab x c hfn hc)))).trans e1⟩
    · obtain ⟨o', e1⟩ := I.base.there b o e hx
      exact ⟨o', (hs.2 b (Nat.ne_of_lt (Nat.lt_of_lt_of_le (Heap.lt_size e) (I.ok.cab x c hfn hc)))).trans e1⟩
    · by_cases hj : j = i
      · subst hj
        rw [hi] at e1; cases e1
        rw [List.getElem?_set_self hiσ] at e2
        cases e2
        exact ⟨u, r, .inr ⟨.inl hk, c, hc, hc'⟩⟩
      · rw [List.getElem?_set_ne (Ne.symm hj)] at e2
        obtain ⟨u', r', q⟩ := hl j y v' e1 e2 e3
        refine ⟨u', r', ?_⟩
        rcases q with q | ⟨k, c', e, z'⟩
        · exact .inl q
        · refine .inr ⟨k, c', e, z'.sameBut hs ?_⟩
          rintro rfl
          exact hj (nodup_ix hN e1 (I.ok.inj _ _ _ e hc ▸ hi))
    · by_cases hcc : c' = c
      · subst hcc; exact ⟨_, hc'⟩
      · obtain ⟨w2, z2⟩ := I.cell y c' e
        exact ⟨w2, z2.sameBut hs hcc⟩
    · obtain ⟨e, n, ne, nf, d⟩ := I.pin p hp
      refine ⟨(hs.2 p.1 ?_).trans e, n, ne, nf, d⟩
      intro q
      rw [q, hoc] at e
      have q' : oc = p.2 := Option.some.inj e
      exact d w' (by rw [← q']; exact hocd)
theorem store_ok {M : Model} {A : Around} {E : Value → Shared → Prop} {i : Nat} {x : Str} {v : V} {u : Value} {Q : Unit → Shared → Prop} (I : Inv X pins σ H s) (hN : X.N.Nodup) (hi : X.N[i]? = some x) (hx : Loc X.env.scope x) (r : RelV v u)
    (h : ∀ s', Inv X pins (σ.set i (some v)) H s' → Q () s') (hf : X.fn x = true ∨ X.env.scope.names.lookup x = some .local := by first | exact .inl rfl | exact .inr rfl | assumption) : wpAny M A (storeName X.env x u) Q E s :=
  store_ok2 I hN hi hx r (fun s' I' _ => h s' I') hf
/-- behind a call or a block, the state as it is -/
theorem Inv.call' {s' : Shared} {ch : List Addr} (I : Inv X pins σ H s) (ho : s'.os = s.os) (u : Un (frs X.stack) ch H H' s.heap s'.heap) (hok : HOk X.prog X.w H' s'.heap) (hg : AllBare s'.gens)
    (hch : ∀ b ∈ ch, (b ∈ X.ex ∨ X.s₀.heap.objs.size ≤ b) ∧ b ≠ X.env.locals ∧ (∀ x c, X.env.cells.lookup x = some c → c ≠ b) ∧ ∀ p ∈ X.pn ++ pins, p.1 ≠ b) : Inv X pins σ H' s' := by
  obtain ⟨h', g', d', t', o'⟩ := s'
  have e : o' = s.os := ho
  subst e
  exact I.call (g' := g') (t' := t') (d' := d') u hok hg hch
end

/-! ### the judgements -/
/-- an exception: its class, its own dict's address (where it has one), the abstract heap behind it -/
noncomputable abbrev XK := Value → Option Addr → Hp → Prop
noncomputable abbrev St := List (Option V)
noncomputable abbrev VK := V → Hp → Prop
/-- an expression's reading; a test's; an argument list's -/
noncomputable abbrev TE := St → Hp → VK → Prop
noncomputable abbrev TT := St → Hp → (Bool → Hp → Prop) → Prop
noncomputable abbrev TA := St → Hp → (List V → Hp → Prop) → Prop
/-- what is wanted behind a statement -/
structure Ends where
  nx : St → Hp → Prop
  rt : VK
  bk : St → Hp → Prop := fun _ _ => False
  ct : St → Hp → Prop := fun _ _ => False
noncomputable abbrev TS := Ends → St → Hp → Prop

noncomputable def EP (X : Cx) (pins : List (Addr × Obj)) (σ : St) (Q : VK) (u : Value) (s' : Shared) : Prop := Ex2 fun v H' => Inv X pins σ H' s' ∧ RelV v u ∧ Q v H'
noncomputable def TP (X : Cx) (pins : List (Addr × Obj)) (σ : St) (Q : Bool → Hp → Prop) (b : Bool) (s' : Shared) : Prop := ∃ H', Inv X pins σ H' s' ∧ Q b H'
noncomputable def AP (X : Cx) (pins : List (Addr × Obj)) (σ : St) (Q : List V → Hp → Prop) (us : List Value) (s' : Shared) : Prop := Ex2 fun vs H' => Inv X pins σ H' s' ∧ Vals vs us ∧ Q vs H'
noncomputable def SP (X : Cx) (pins : List (Addr × Obj)) (D : Ends) (f : Flow) (s' : Shared) : Prop :=
  match f with
  | .next => Ex2 fun σ' H' => Inv X pins σ' H' s' ∧ D.nx σ' H'
  | .brk => Ex2 fun σ' H' => Inv X pins σ' H' s' ∧ D.bk σ' H'
  | .cont => Ex2 fun σ' H' => Inv X pins σ' H' s' ∧ D.ct σ' H'
  | .ret u => Ex3 fun v σ' H' => Inv X pins σ' H' s' ∧ RelV v u ∧ D.rt v H'

noncomputable def PE (X : Cx) (e : Expr) (t : TE) : Prop :=
  ∀ ⦃pins : List (Addr × Obj)⦄ (s : Shared) (σ : St) (H : Hp) (Q : VK), Inv X pins σ H s → t σ H Q → wpAny (model X.prog X.w) X.A (eval e X.env) (EP X pins σ Q) X.xe s
noncomputable def PT (X : Cx) (e : Expr) (t : TT) : Prop :=
  ∀ ⦃pins : List (Addr × Obj)⦄ (s : Shared) (σ : St) (H : Hp) (Q : Bool → Hp → Prop), Inv X pins σ H s → t σ H Q → wpAny (model X.prog X.w) X.A (isTrue e X.env (eval e X.env)) (TP X pins σ Q) X.xe s
/-- a test whatever its 'whole' is (and, or) -/
noncomputable def PW (X : Cx) (e : Expr) (t : TT) : Prop :=
  ∀ ⦃whole : Sem Value⦄ ⦃pins : List (Addr × Obj)⦄ (s : Shared) (σ : St) (H : Hp) (Q : Bool → Hp → Prop), Inv X pins σ H s → t σ H Q → wpAny (model X.prog X.w) X.A (isTrue e X.env whole) (TP X pins σ Q) X.xe s
theorem PW.pt {X : Cx} {e : Expr} {t : TT} (h : PW X e t) : PT X e t := fun pins s σ H Q I q => h s σ H Q I q
/-- an argument list (no star), from the left -/
noncomputable def PA (X : Cx) (es : List Expr) (t : TA) : Prop :=
  ∀ ⦃pos : Pos⦄ ⦃pins : List (Addr × Obj)⦄ (s : Shared) (σ : St) (H : Hp) (Q : List V → Hp → Prop), Inv X pins σ H s → t σ H Q → wpAny (model X.prog X.w) X.A (spliced (backTo pos (starEach es X.env))) (AP X pins σ Q) X.xe s
noncomputable def PS (X : Cx) (st : Stmt) (t : TS) : Prop :=
  ∀ ⦃pins : List (Addr × Obj)⦄ (s : Shared) (σ : St) (H : Hp) (D : Ends), Inv X pins σ H s → t D σ H → wpAny (model X.prog X.w) X.A (exec st X.env) (SP X pins D) X.xe s
noncomputable def PSs (X : Cx) (st : List Stmt) (t : TS) : Prop :=
  ∀ ⦃pins : List (Addr × Obj)⦄ (s : Shared) (σ : St) (H : Hp) (D : Ends), Inv X pins σ H s → t D σ H → wpAny (model X.prog X.w) X.A (execs st X.env) (SP X pins D) X.xe s
/-- weaken the end -/
theorem thn {α : Type} {t : Sem α} {Q Q' : α → Shared → Prop} {M : Model} {A : Around} {E : Value → Shared → Prop} {s : Shared} (h : wpAny M A t Q E s) (hQ : ∀ a s, Q a s → Q' a s) : wpAny M A t Q' E s := wpAny_mono h hQ fun _ _ x => x
end L2

namespace L2
open PySem PySem.Spec PyProof.Rows
section
variable {X : Cx}

/-! ### names and constants -/
noncomputable def tVar (i : Nat) : TE := fun σ H Q => ∃ v, σ[i]? = some (some v) ∧ Q v H
noncomputable def tC (v : V) : TE := fun _ H Q => Q v H
theorem pe_var {i : Nat} {x : Str} {pos : Pos} (hN : X.N[i]? = some x) (hv : Vis X.env.scope x) (hd : (x == ("__debug__" : Str)) = false := by decide) (hcd : (x == ("__classdict__" : Str)) = false := by decide) : PE X (.Name x pos) (tVar i) := by
  intro pins s σ H Q I h
  obtain ⟨v, e, h⟩ := h
  obtain ⟨m, hn, hl⟩ := I.loc
  obtain ⟨u, r, l⟩ := hl i x v hN e hv
  have fin : EP X pins σ Q u s := ⟨v, H, I, r, h⟩
  rcases l with ⟨hk, hm⟩ | ⟨hk, c, hc, hcell⟩
  · exact wpAny_Name (wpAny_loadName_local I.ok.kind hk hn hm fin) hd
  · rcases hk with hk | hk
    · exact wpAny_Name (wpAny_loadName_cell I.ok.kind hk hc hcell fin) hd
    · exact wpAny_Name (wpAny_loadName_free I.ok.kind hk hc hcell fin hcd) hd
theorem pe_int {i j pos} : PE X (.Constant (.int i) j pos) (tC (.int i)) := fun _ _ _ H _ I h => wpAny_Constant_int ⟨.int i, H, I.tok _, ⟨_, rfl⟩, h⟩
theorem pe_bl {b j pos} : PE X (.Constant (.bool b) j pos) (tC (.bl b)) := fun _ _ _ H _ I h => Constant_bool ⟨.bl b, H, I, rfl, h⟩
theorem pe_str {x j pos} : PE X (.Constant (.str x) j pos) (tC (.str x)) := fun _ _ _ H _ I h => Calls.Constant_str ⟨.str x, H, I.tok _, ⟨_, rfl⟩, h⟩

/-- a global name of the def -/
noncomputable def Gl (X : Cx) (x : Str) : Prop := X.env.kindOf x = some .globalImplicit
theorem ld_glob {E : Value → Shared → Prop} {pins : List (Addr × Obj)} {s : Shared} {σ : St} {H : Hp} {x : Str} {u : Value} {pos : Pos} {Q : Value → Shared → Prop} (I : Inv X pins σ H s) (hg : Gl X x) (hm : X.mg x = some u) (h : Q u s)
    (hd : (x == ("__debug__" : Str)) = false := by decide) : wpAny (model X.prog X.w) X.A (eval (.Name x pos) X.env) Q E s :=
  Calls.Name_function_global I.ok.kind hg (Calls.loadGlobal_global (by rw [I.ok.glob]; exact I.mod.glob.keeps I.bk) hm h) hd
theorem ld_blt {E : Value → Shared → Prop} {pins : List (Addr × Obj)} {s : Shared} {σ : St} {H : Hp} {x : Str} {u : Value} {pos : Pos} {Q : Value → Shared → Prop} (I : Inv X pins σ H s) (hg : Gl X x) (hm : X.mg x = none) (hv : bootBuiltins x = some u) (h : Q u s)
    (hn : x ≠ "__name__" := by decide) (hd : (x == ("__debug__" : Str)) = false := by decide) : wpAny (model X.prog X.w) X.A (eval (.Name x pos) X.env) Q E s := by
  obtain ⟨mb, h1, h2⟩ := I.mod.blt
  exact Calls.Name_function_global I.ok.kind hg (Calls.loadGlobal_builtin (by rw [I.ok.glob]; exact I.mod.glob.keeps I.bk) hm (by rw [I.ok.blt]; exact h1.keeps I.bk) ((h2 x hn).trans hv) h) hd
/-- a module's constant, a class, a function, as a value -/
theorem pe_glob {x : Str} {v : V} {u : Value} {pos : Pos} (hg : Gl X x) (hm : X.mg x = some u) (r : RelV v u) (hd : (x == ("__debug__" : Str)) = false := by decide) : PE X (.Name x pos) (tC v) :=
  fun _ _ _ H _ I h => ld_glob I hg hm ⟨v, H, I, r, h⟩ hd
theorem pe_bltn {x : Str} {v : V} {u : Value} {pos : Pos} (hg : Gl X x) (hm : X.mg x = none) (hv : bootBuiltins x = some u) (r : RelV v u) (hn : x ≠ "__name__" := by decide) (hd : (x == ("__debug__" : Str)) = false := by decide) : PE X (.Name x pos) (tC v) :=
  fun _ _ _ H _ I h => ld_blt I hg hm hv ⟨v, H, I, r, h⟩ hn hd

/-! ### arithmetic -/
variable {a b : Expr} {ta tb : TE} {pos : Pos}
/-! ### comparisons -/
/-- a comparison as a value, as a test -/
noncomputable def tB (t : TE) : TT := fun σ H Q => t σ H fun x H1 => ∃ c, x = .bl c ∧ Q c H1
/-- an expression whose value is a bool, as a test -/
theorem pt_val {e : Expr} {t : TE} (h : PE X e t) (he : ∀ whole, isTrue e X.env whole = (do let v ← whole; standAt e.pos; holding [v] (truthy v)) := by intro _; rfl) : PT X e (tB t) := by
  intro pins s σ H Q I hw
  refine isTrue_plain (thn (h s σ H _ I hw) fun v s1 ⟨x, H1, I1, r1, q1⟩ => ?_) (he _)
  obtain ⟨d, rfl, q⟩ := q1
  cases r1
  exact wpAny_truthy_bool ⟨H1, I1, q⟩

/-! ### and, or, not -/
variable {tA tB' : TT} {rest : List Expr}
noncomputable def tOr (t u : TT) : TT := fun σ H Q => t σ H fun c H1 => if c = true then Q true H1 else u σ H1 Q
noncomputable def tNot (t : TT) : TT := fun σ H Q => t σ H fun c H1 => Q (!c) H1
theorem pw_or1 (ha : PT X a tA) : PW X (.BoolOp .Or [a] pos) tA := by
  intro wh pins s σ H Q I h
  refine isTrue_or (thn (ha s σ H Q I h) fun c s1 e => ?_)
  cases c with
  | false => exact isTrue_or_nil e
  | true => exact e
theorem pw_or (ha : PT X a tA) (hb : PW X (.BoolOp .Or (b :: rest) pos) tB') : PW X (.BoolOp .Or (a :: b :: rest) pos) (tOr tA tB') := by
  intro wh pins s σ H Q I h
  refine isTrue_or (thn (ha s σ H _ I h) fun c s1 ⟨H1, I1, q1⟩ => ?_)
  cases c with
  | true => exact ⟨H1, I1, q1⟩
  | false => exact hb s1 σ H1 Q I1 q1
theorem pt_not (ha : PT X a tA) : PT X (.UnaryOp .Not a pos) (tNot tA) := by
  intro pins s σ H Q I h
  exact isTrue_not (ha s σ H (fun c H1 => Q (!c) H1) I h)
end
end L2

namespace L2
open PySem PySem.Spec PyProof.Rows

/-! ### a list, a tuple that is read: tracked, frozen, or an object of the module -/
noncomputable def SqL (K : PySem.W.Frag) (H : Hp) (a : Addr) (xs : List V) : Prop :=
  Rd H a (.lst xs) ∨
    Ex3 fun (o : Obj) (its : Array Value) (n : Nat) => K.lookup a = some o ∧ o.cls = .type "list" ∧ o.dict = none ∧ o.data = .seq its n ∧ its.size ≤ sizeLine ∧ Vals xs its.toList
noncomputable def SqT (K : PySem.W.Frag) (H : Hp) (a : Addr) (xs : List V) : Prop :=
  Rd H a (.tup xs) ∨
    Ex3 fun (o : Obj) (its : Array Value) (n : Nat) => K.lookup a = some o ∧ o.cls = .type "tuple" ∧ o.data = .seq its n ∧ its.size ≤ sizeLine ∧ Vals xs its.toList
noncomputable def absV : Value → Option V
  | .none => some .non
  | .bool b => some (.bl b)
  | .int i _ => some (.int i)
  | .str x _ => some (.str x)
  | .bytes b _ => some (.byt b)
  | .float b _ => some (.flt b)
  | .ref a => some (.ref a)
  | .type n => some (.ty n)
  | _ => none
theorem RelV.abs {x : V} {u : Value} (r : RelV x u) : absV u = some x := by
  cases x with
  | non => cases r; rfl
  | bl _ => cases r; rfl
  | int _ => obtain ⟨t, rfl⟩ := r; rfl
  | str _ => obtain ⟨t, rfl⟩ := r; rfl
  | byt _ => obtain ⟨t, rfl⟩ := r; rfl
  | flt _ => obtain ⟨t, rfl⟩ := r; rfl
  | ref _ => cases r; rfl
  | ty _ => cases r; rfl
theorem RelV.inj {x y : V} {u : Value} (r : RelV x u) (q : RelV y u) : x = y := Option.some.inj (r.abs.symm.trans q.abs)
theorem Vals.inj : ∀ {xs ys : List V} {us : List Value}, Vals xs us → Vals ys us → xs = ys
  | _, _, _, .nil, .nil => rfl
  | _, _, _, .cons r t, .cons r' t' => by rw [r.inj r', Vals.inj t t']
section
variable {X : Cx} {pins : List (Addr × Obj)} {σ : St} {H : Hp} {s : Shared} {a : Addr} {xs ys : List V}
theorem SqL.of {K : PySem.W.Frag} (h : H a = some (.lst xs)) : SqL K H a xs := .inl (.inl h)
theorem SqT.of {K : PySem.W.Frag} (h : H a = some (.tup xs)) : SqT K H a xs := .inl (.inl h)
theorem Inv.list (I : Inv X pins σ H s) (h : SqL X.K H a xs) : ∃ its : List Value, Vals xs its ∧ PlainL s.heap a its.toArray ∧ xs.length ≤ sizeLine := by
  rcases h with h | ⟨o, its, n, hk, hc, hd, hs, hz, r⟩
  · obtain ⟨z, its, n, r, e⟩ := h.ok I.hok
    exact ⟨its, r, ⟨_, n, e, rfl, rfl, rfl⟩, z⟩
  · refine ⟨its.toList, r, ⟨o, n, I.kIn a o hk, hc, hd, by simpa using hs⟩, ?_⟩
    have e := r.length
    simp only [Array.length_toList] at e
    (first | lia | omega)
theorem Inv.tuple (I : Inv X pins σ H s) (h : SqT X.K H a xs) : ∃ its : List Value, Vals xs its ∧ IsTup s.heap a its.toArray ∧ xs.length ≤ sizeLine := by
  rcases h with h | ⟨o, its, n, hk, hc, hs, hz, r⟩
  · obtain ⟨z, its, r, p⟩ := h.ok I.hok
    exact ⟨its, r, p, z⟩
  · refine ⟨its.toList, r, ⟨o, I.kIn a o hk, hc, n, by simpa using hs⟩, ?_⟩
    have e := r.length
    simp only [Array.length_toList] at e
    (first | lia | omega)
theorem Inv.list_inj (I : Inv X pins σ H s) (h : SqL X.K H a xs) (h' : SqL X.K H a ys) : xs = ys := by
  obtain ⟨its, r, ⟨o, n, e, _, _, d⟩, _⟩ := I.list h
  obtain ⟨its', r', ⟨o', n', e', _, _, d'⟩, _⟩ := I.list h'
  rw [e] at e'; cases e'
  rw [d] at d'
  injection d' with d1 _
  have : its = its' := by simpa using congrArg Array.toList d1
  subst this
  exact r.inj r'
end

/-! ### another wish about exceptions -/
noncomputable abbrev Cx.wish (X : Cx) (E : Value → Shared → Prop) : Cx := { X with xe := E }
/-- no exception leaves -/
noncomputable abbrev Cx.nox (X : Cx) : Cx := X.wish fun _ _ => False
theorem Cx.Ok.wish {X : Cx} (ok : X.Ok) (E : Value → Shared → Prop) : (X.wish E).Ok :=
  ⟨ok.mod, ok.kind, ok.glob, ok.blt, ok.above, ok.inj, ok.has, ok.cab, ok.hd, ok.frames, ok.stk, ok.exf, ok.bs, ok.bsz, ok.noex, ok.exfs, ok.funs, ok.frf⟩
theorem Cx.Ok.unwish {X : Cx} {E : Value → Shared → Prop} (ok : (X.wish E).Ok) : X.Ok :=
  ⟨ok.mod, ok.kind, ok.glob, ok.blt, ok.above, ok.inj, ok.has, ok.cab, ok.hd, ok.frames, ok.stk, ok.exf, ok.bs, ok.bsz, ok.noex, ok.exfs, ok.funs, ok.frf⟩
section
variable {X : Cx} {pins : List (Addr × Obj)} {σ : St} {H : Hp} {s : Shared} {E : Value → Shared → Prop}
theorem Inv.wish (I : Inv X pins σ H s) (E : Value → Shared → Prop) : Inv (X.wish E) pins σ H s := ⟨I.ok.wish E, I.os, I.bare, I.base, I.loc, I.cell, I.free, I.freeC, I.pin, I.hok, I.len⟩
theorem Inv.unwish (I : Inv (X.wish E) pins σ H s) : Inv X pins σ H s := ⟨I.ok.unwish, I.os, I.bare, I.base, I.loc, I.cell, I.free, I.freeC, I.pin, I.hok, I.len⟩
theorem SP.unwish {D : Ends} {f : Flow} {s' : Shared} (h : SP (X.wish E) pins D f s') : SP X pins D f s' := by
  cases f with
  | next => obtain ⟨σ', H', I, q⟩ := h; exact ⟨σ', H', I.unwish, q⟩
  | brk => obtain ⟨σ', H', I, q⟩ := h; exact ⟨σ', H', I.unwish, q⟩
  | cont => obtain ⟨σ', H', I, q⟩ := h; exact ⟨σ', H', I.unwish, q⟩
  | ret u => obtain ⟨v, σ', H', I, r, q⟩ := h; exact ⟨v, σ', H', I.unwish, r, q⟩
theorem PSs.nox {st : List Stmt} {t : TS} (h : PSs X.nox st t) : PSs X st t := fun pins s σ H D I hw =>
  wpAny_mono (h s σ H D (I.wish _) hw) (fun _ _ q => q.unwish) fun _ _ z => False.elim z
end

/-! ### blocks and small statements -/
section
variable {X : Cx} {st : Stmt} {rest : List Stmt} {t u : TS} {e : Expr} {te : TE} {pos : Pos}
noncomputable def tNext : TS := fun D σ H => D.nx σ H
noncomputable def tSeq (t u : TS) : TS := fun D σ H => t { D with nx := u D } σ H
theorem pss_nil : PSs X [] tNext := fun _ _ σ H _ I h => wpAny_execs_nil ⟨σ, H, I, h⟩
theorem pss_cons (h1 : PS X st t) (h2 : PSs X rest u) : PSs X (st :: rest) (tSeq t u) := by
  intro pins s σ H D I h
  refine wpAny_execs_cons (thn (h1 s σ H { D with nx := u D } I h) fun f s1 q => ?_)
  cases f with
  | next =>
    obtain ⟨σ', H', I', q⟩ := q
    exact h2 s1 σ' H' D I' q
  | ret v => exact q
  | brk => exact q
  | cont => exact q
theorem pss_one (h1 : PS X st t) : PSs X [st] t := by
  intro pins s σ H D I h
  refine wpAny_execs_cons (thn (h1 s σ H D I h) fun f s1 q => ?_)
  cases f with
  | next => exact wpAny_execs_nil q
  | ret v => exact q
  | brk => exact q
  | cont => exact q
noncomputable def tRet (te : TE) : TS := fun D σ H => te σ H D.rt
theorem ps_ret (he : PE X e te) : PS X (.Return (some e) pos) (tRet te) := by
  intro pins s σ H D I h
  exact wpAny_Return_some (thn (he s σ H _ I h) fun v s1 ⟨x, H1, I1, r1, q1⟩ => ⟨x, σ, H1, I1, r1, q1⟩)
noncomputable def tIfS (c : TT) (t u : TS) : TS := fun D σ H => c σ H fun b H1 => if b = true then t D σ H1 else u D σ H1
theorem ps_if {c : Expr} {a b : List Stmt} {tc : TT} (hc : PT X c tc) (ha : PSs X a t) (hb : PSs X b u) : PS X (.If c a b pos) (tIfS tc t u) := by
  intro pins s σ H D I h
  refine wpAny_If (thn (hc s σ H _ I h) fun d s1 ⟨H1, I1, q1⟩ => ?_)
  cases d with
  | true => exact ha s1 σ H1 D I1 q1
  | false => exact hb s1 σ H1 D I1 q1
end

/-! ### targets -/
noncomputable abbrev TG := V → St → Hp → (St → Hp → Prop) → Prop
noncomputable abbrev TGs := List V → St → Hp → (St → Hp → Prop) → Prop
noncomputable def PG (X : Cx) (target : Expr) (t : TG) : Prop :=
  ∀ ⦃pins : List (Addr × Obj)⦄ (s : Shared) (σ : St) (H : Hp) (v : V) (u : Value) (Q : St → Hp → Prop), Inv X pins σ H s → RelV v u → t v σ H Q →
    wpAny (model X.prog X.w) X.A (assign target X.env u) (fun _ s' => Ex2 fun σ' H' => Inv X pins σ' H' s' ∧ Q σ' H') X.xe s
/-- several targets, one after another -/
noncomputable def PGs (X : Cx) (ts : List Expr) (t : TGs) : Prop :=
  ∀ ⦃pins : List (Addr × Obj)⦄ (s : Shared) (σ : St) (H : Hp) (vs : List V) (us : List Value) (Q : St → Hp → Prop), Inv X pins σ H s → Vals vs us → t vs σ H Q →
    wpAny (model X.prog X.w) X.A (assignInOrder ((assignEach ts X.env).map (·.2)) us) (fun _ s' => Ex2 fun σ' H' => Inv X pins σ' H' s' ∧ Q σ' H') X.xe s
/-- o[i] = v, by values -/
noncomputable abbrev TSet := V → V → V → Hp → (Hp → Prop) → Prop
noncomputable def PSet (X : Cx) (t : TSet) : Prop :=
  ∀ ⦃pins : List (Addr × Obj)⦄ (s : Shared) (σ : St) (H : Hp) (o i v : V) (ov iv u : Value) (Q : Hp → Prop), Inv X pins σ H s → RelV o ov → RelV i iv → RelV v u → t o i v H Q →
    wpAny (model X.prog X.w) X.A (setItem ov iv u) (fun _ s' => ∃ H', Inv X pins σ H' s' ∧ Q H') X.xe s
section
variable {X : Cx} {pos : Pos}
noncomputable def gName (i : Nat) : TG := fun v σ H Q => Q (σ.set i (some v)) H
theorem pg_name {i : Nat} {x : Str} (hN : X.N.Nodup) (hi : X.N[i]? = some x) (hx : Loc X.env.scope x) (hf : X.fn x = true ∨ X.env.scope.names.lookup x = some .local := by first | exact .inl rfl | exact .inr rfl | assumption) : PG X (.Name x pos) (gName i) := by
  intro pins s σ H v u Q I r h
  exact wpAny_assign_Name (store_ok I hN hi hx r (fun s' I' => ⟨_, H, I', h⟩) hf)
noncomputable def gNil : TGs := fun vs σ H Q => vs = [] ∧ Q σ H
noncomputable def gCons (t : TG) (u : TGs) : TGs := fun vs σ H Q => Ex2 fun v r => vs = v :: r ∧ t v σ H fun σ' H' => u r σ' H' Q
theorem pgs_nil : PGs X [] gNil := by
  intro pins s σ H vs us Q I r h
  obtain ⟨e, h⟩ := h
  subst e
  cases r
  exact assignInOrder_nil ⟨σ, H, I, h⟩
theorem pgs_cons {e : Expr} {es : List Expr} {t : TG} {u : TGs} (h1 : PG X e t) (h2 : PGs X es u)
    (hs : (assignEach (e :: es) X.env).map (·.2) = assign e X.env :: (assignEach es X.env).map (·.2) := by rfl) : PGs X (e :: es) (gCons t u) := by
  intro pins s σ H vs us Q I r h
  obtain ⟨v, vr, e1, h⟩ := h
  subst e1
  cases r with
  | cons r rr =>
    rw [hs]
    refine assignInOrder_cons (thn (h1 s σ H _ _ _ I r h) fun _ s1 ⟨σ1, H1, I1, q1⟩ => ?_)
    exact h2 s1 σ1 H1 _ _ Q I1 rr q1
/-- (a, b, ..) = a tuple of that length -/
noncomputable def gTup (K : PySem.W.Frag) (n : Nat) (t : TGs) : TG := fun v σ H Q => Ex2 fun a xs => v = .ref a ∧ SqT K H a xs ∧ xs.length = n ∧ t xs σ H Q
theorem pg_tup {es : List Expr} {k : Nat} {t : TGs} {n : Nat} (hc : X.calm = true) (h : PGs X es t)
    (hn : (assignEach es X.env).length = n := by rfl) (hst : (assignEach es X.env).findIdx? (·.1) = none := by rfl) : PG X (.Tuple es k pos) (gTup X.K n t) := by
  intro pins s σ H v u Q I r hw
  obtain ⟨a, xs, e1, hq, hl, hw⟩ := hw
  subst e1
  cases r
  obtain ⟨its, rv, ht, hz⟩ := I.tuple hq
  refine assign_Tuple_tuple (I.ok.hd hc) ht (by simp [hn, ← hl, rv.length]) hst fun h' hx => ?_
  have I1 : Inv X pins σ H { s with heap := h' } := I.kept (t' := s.toks) fun b o e => hx b o (Nat.ne_of_lt (Heap.lt_size e)) e
  exact h _ σ H xs _ Q I1 (by simpa using rv) hw
/-- o[i] = .. -/
noncomputable def gSub (to ti : TE) (t : TSet) : TG := fun v σ H Q => to σ H fun o H1 => ti σ H1 fun i H2 => t o i v H2 fun H3 => Q σ H3
theorem pg_sub {o i : Expr} {to ti : TE} {t : TSet} (ho : PE X o to) (hi : PE X i ti) (hs : PSet X t)
    (ha : ∀ v, assign (.Subscript o i pos) X.env v = (do
      let ov ← holding [v] (eval o X.env)
      let iv ← holding [v, ov] (eval i X.env)
      standAt pos
      holding [v, ov, iv] (setItem ov iv v)
      release [v, ov, iv] []) := by intro _; rfl) : PG X (.Subscript o i pos) (gSub to ti t) := by
  intro pins s σ H v u Q I r h
  rw [ha]
  refine wpAny_bind (wpAny_holding (thn (ho s σ H _ I h) fun ov s1 ⟨x, H1, I1, r1, q1⟩ => ?_))
  refine wpAny_bind (wpAny_holding (thn (hi s1 σ H1 _ I1 q1) fun iv s2 ⟨y, H2, I2, r2, q2⟩ => ?_))
  refine wpAny_bind (wpAny_standAt (wpAny_bind (wpAny_holding (thn (hs s2 σ H2 x y v ov iv u _ I2 r1 r2 r q2) fun _ s3 ⟨H3, I3, q3⟩ => ?_))))
  exact wpAny_release ⟨σ, H3, I3, q3⟩
/-- target = value -/
noncomputable def tAsg (te : TE) (g : TG) : TS := fun D σ H => te σ H fun x H1 => g x σ H1 D.nx
theorem ps_asg {tg e : Expr} {te : TE} {g : TG} (he : PE X e te) (hg : PG X tg g) (hs : swapsWithSole [tg] e pos.line X.env = pure false := by rfl) (hw : swappedStores [tg] e X.env = pure none := by rfl)
    (h1 : (assignEach [tg] X.env).map (·.2) = [assign tg X.env] := by rfl) : PS X (.Assign [tg] e pos) (tAsg te g) := by
  intro pins s σ H D I h
  refine wpAny_Assign_stores (thn (he s σ H _ I h) fun v s1 ⟨x, H1, I1, r1, q1⟩ => ?_) hs hw
  rw [h1]
  exact thn (hg s1 σ H1 x v _ I1 r1 q1) fun _ s2 q => q
/-- name = value -/
theorem ps_set {i : Nat} {x : Str} {e : Expr} {te : TE} {pos' : Pos} (hN : X.N.Nodup) (hi : X.N[i]? = some x) (hx : Loc X.env.scope x) (he : PE X e te) (hs : swapsWith e (some (.Name x pos')) pos.line X.env = pure false := by rfl) (hf : X.fn x = true ∨ X.env.scope.names.lookup x = some .local := by first | exact .inl rfl | exact .inr rfl | assumption) :
    PS X (.Assign [.Name x pos'] e pos) (tAsg te (gName i)) := by
  intro pins s σ H D I h
  refine wpAny_Assign_Name (thn (he s σ H _ I h) fun v s1 ⟨y, H1, I1, r1, q1⟩ => ?_) hs
  exact store_ok I1 hN hi hx r1 (fun s2 I2 => ⟨_, H1, I2, q1⟩) hf
/-- a, b = x, y with plain local names: stored from the right; the pair itself is not tracked (the opening rows as in PyProof/Rows/TupAssign.lean:23) -/
noncomputable def tPar (i j : Nat) (ta : TA) : TS := fun D σ H => ta σ H fun vs H1 => Ex2 fun v w => vs = [v, w] ∧ D.nx ((σ.set i (some v)).set j (some w)) H1
theorem ps_par {i j : Nat} {x y : Str} {a b : Expr} {ta : TA} {px py pt : Pos} {kt k2 pt2} (hc : X.calm = true) (hN : X.N.Nodup) (hi : X.N[i]? = some x) (hj : X.N[j]? = some y) (hij : i ≠ j)
    (hx : X.env.scope.names.lookup x = some .local) (hy : X.env.scope.names.lookup y = some .local) (ha : PA X [a, b] ta)
    (hw : swappedStores [.Tuple [.Name x px, .Name y py] kt pt] (.Tuple [a, b] k2 pt2) X.env = pure (some [x, y]))
    (hs : swapsWithSole [.Tuple [.Name x px, .Name y py] kt pt] (.Tuple [a, b] k2 pt2) pos.line X.env = pure false := by rfl) :
    PS X (.Assign [.Tuple [.Name x px, .Name y py] kt pt] (.Tuple [a, b] k2 pt2) pos) (tPar i j ta) := by
  intro pins s σ H D I h
  rw [exec_Assign_arm]
  refine wpAny_bind (wpAny_standAt ?_)
  rw [hs]
  refine wpAny_bind (wpAny_pure ?_)
  rw [if_neg (by decide)]
  refine wpAny_bind (Tuple_ (thn (ha s σ H _ I h) fun us s1 ⟨vs, H1, I1, r1, q1⟩ => ?_))
  obtain ⟨v, w, e1, q1⟩ := q1
  subst e1
  obtain ⟨u1, u2, rfl, rv, rw'⟩ : ∃ u1 u2, us = [u1, u2] ∧ RelV v u1 ∧ RelV w u2 := by
    cases r1 with
    | cons p q =>
      cases q with
      | cons p' q' =>
        cases q'
        exact ⟨_, _, rfl, p, p'⟩
  refine wpAny_newObj_type ?_ (by show 2 ≤ sizeLine; decide)
  have I2 : Inv X pins σ H1 { s1 with heap := s1.heap.push { cls := .type "tuple", data := .seq [u1, u2].toArray } } := I1.kept (t' := s1.toks) fun b o e => Heap.get?_push_of_some _ e
  rw [hw]
  refine wpAny_bind (wpAny_pure ?_)
  show wpAny (model X.prog X.w) X.A (do rule "assign.swapped-stores"; let items ← unpackItems (.ref s1.heap.objs.size) 2 none; assignInOrder [fun v => bindName X.env y v, fun v => bindName X.env x v] items.reverse; pure Flow.next) _ _ _
  refine wpAny_bind (wpAny_rule (wpAny_bind (unpackItems_tuple (items := #[u1, u2]) (I.ok.hd hc) (IsTup.new s1.heap _) fun h' hx' => ?_)))
  have I3 := I2.kept (h' := h') (t' := s1.toks) fun b o e => hx' b o (Nat.ne_of_lt (Heap.lt_size e)) e
  show wpAny _ _ (assignInOrder [fun v => bindName X.env y v, fun v => bindName X.env x v] [u2, u1] >>= fun _ => pure Flow.next) _ _ _
  refine wpAny_bind (assignInOrder_cons (wpAny_bindName (store_ok I3 hN hj (.inl hy) rw' (fun s2 I4 => ?_) (.inr hy))))
  refine assignInOrder_cons (wpAny_bindName (store_ok I4 hN hi (.inl hx) rv (fun s3 I5 => assignInOrder_nil (wpAny_pure ?_)) (.inr hx)))
  rw [List.set_comm _ _ (Ne.symm hij)] at I5
  exact ⟨_, H1, I5, q1⟩
end

/-! ### while -/
section
variable {X : Cx} {pos : Pos}
end

/-! ### what a loop or a comprehension walks -/
/-- at turn i: it yields x (the heap may grow), or it stops -/
structure It where
  go : Nat → Hp → Prop
  yld : Nat → Hp → V → Hp → Prop
  stop : Nat → Hp → Prop
/-- the iterator's own objects may turn: they are not the frame's, not pinned, younger than the entry (or a comprehension's own) -/
noncomputable def FpOk (X : Cx) (pins : List (Addr × Obj)) (H : Hp) (b : Addr) : Prop :=
  H b = none ∧ b ≠ X.env.locals ∧ b ∉ X.fs ∧ (b ∈ X.ex ∨ X.s₀.heap.objs.size ≤ b) ∧ (∀ x c, X.env.cells.lookup x = some c → c ≠ b) ∧ ∀ p ∈ X.pn ++ pins, p.1 ≠ b
theorem Inv.fpOk {X : Cx} {pins : List (Addr × Obj)} {σ : St} {H H' : Hp} {s : Shared} {b : Addr} (I : Inv X pins σ H s) (hb : s.heap.objs.size ≤ b) (hn : H' b = none) : FpOk X pins H' b := by
  refine ⟨hn, Nat.ne_of_gt (Nat.lt_of_lt_of_le I.lt hb), I.nofs hb, .inr (Nat.le_trans I.sz hb), fun x c e z => ?_, fun p hp z => ?_⟩
  · obtain ⟨v, q⟩ := I.cell x c e
    exact absurd (Nat.lt_of_lt_of_le q.lt (by rw [z]; exact hb)) (Nat.lt_irrefl _)
  · exact absurd (Nat.lt_of_lt_of_le (Heap.lt_size (I.pin p hp).1) (by rw [z]; exact hb)) (Nat.lt_irrefl _)
structure Turn (P : Program) (w : World) (K : PySem.W.Frag) (tg : Expr) (J : It) (fp : List Addr) (it : Addr) (tn : Nat → Heap → Prop) : Prop where
  mem : it ∈ fp
  obj : ∀ i h, tn i h → ∀ b ∈ fp, ∃ o, h.get? b = some o ∧ ∀ v, o.data ≠ .cell v
  keep : ∀ i h h', tn i h → (∀ b ∈ fp, ∀ o, h.get? b = some o → h'.get? b = some o) → tn i h'
  item : ∀ (X : Cx), X.prog = P → X.w = w → X.K = K → X.calm = true → ∀ (i : Nat) (pins : List (Addr × Obj)) (s : Shared) (σ : St) (H : Hp) (E : Value → Shared → Prop), Inv X pins σ H s → (∀ b ∈ fp, FpOk X pins H b) → tn i s.heap → J.go i H →
    wpAny (model P w) X.A (pyNext (.ref it)) (fun r s1 => ∃ u, r = some u ∧
      wpAny (model P w) X.A (letOwnedTupleGo tg (.ref it) u) (fun _ s2 => ∃ x H', Inv X pins σ H' s2 ∧ RelV x u ∧ J.yld i H x H' ∧ tn (i + 1) s2.heap ∧ ∀ b ∈ fp, H' b = none) E s1) E s
  done : ∀ (X : Cx), X.prog = P → X.w = w → X.K = K → X.calm = true → ∀ (i : Nat) (pins : List (Addr × Obj)) (s : Shared) (σ : St) (H : Hp) (E : Value → Shared → Prop), Inv X pins σ H s → (∀ b ∈ fp, FpOk X pins H b) → tn i s.heap → J.stop i H →
    wpAny (model P w) X.A (pyNext (.ref it)) (fun r s1 => r = none ∧ Inv X pins σ H s1) E s
  self : ∀ (A : Around) (i : Nat) (s : Shared) (Q : Value → Shared → Prop) (E : Value → Shared → Prop), tn i s.heap → Q (.ref it) s → wpAny (model P w) A (pyIter (.ref it)) Q E s
noncomputable abbrev TI := St → Hp → (It → Hp → Prop) → Prop
/-- an iterator has come -/
noncomputable def PIE (X : Cx) (pins : List (Addr × Obj)) (σ : St) (tg : Expr) (R : It → Hp → Prop) (itv : Value) (s2 : Shared) : Prop :=
  Ex5 fun (it : Addr) (fp : List Addr) (tn : Nat → Heap → Prop) (J : It) (H' : Hp) => itv = .ref it ∧ Inv X pins σ H' s2 ∧ Turn X.prog X.w X.K tg J fp it tn ∧ tn 0 s2.heap ∧ (∀ b ∈ fp, FpOk X pins H' b) ∧ R J H'
noncomputable def PI (X : Cx) (tg iter : Expr) (wi : TI) : Prop :=
  ∀ ⦃pins : List (Addr × Obj)⦄ (s : Shared) (σ : St) (H : Hp) (R : It → Hp → Prop), Inv X pins σ H s → wi σ H R →
    wpAny (model X.prog X.w) X.A (eval iter X.env) (fun v s1 => wpAny (model X.prog X.w) X.A (pyIter v) (PIE X pins σ tg R) X.xe s1) X.xe s

/-- the step ahead of the store is nothing for an iterator that keeps no tuple -/
theorem go_of {M : Model} {A : Around} {E : Value → Shared → Prop} {s : Shared} {tg : Expr} {it : Addr} {u : Value} {o : Obj} {n : String} {vs : Array Value} {Q : Unit → Shared → Prop} (ho : s.heap.get? it = some o) (hc : o.cls = .type n) (hd : o.data = .fields vs)
    (hn : ["enumerate", "zip", "dict_itemiterator", "dict_reverseitemiterator", "odict_iterator", "itertools.zip_longest", "itertools.pairwise"].contains n = false) (hQ : Q () s) : wpAny M A (letOwnedTupleGo tg (.ref it) u) Q E s := by
  unfold letOwnedTupleGo
  cases tg <;> first
    | exact wpAny_pure hQ
    | (cases u <;> first
        | exact wpAny_pure hQ
        | (refine wpAny_bind (wpAny_load ho ?_)
           rw [hc, hd]
           show wpAny M A (if (["enumerate", "zip", "dict_itemiterator", "dict_reverseitemiterator", "odict_iterator", "itertools.zip_longest", "itertools.pairwise"].contains n && vs[0]? == some (rawInt _)) = true then _ else _) Q E s
           rw [if_neg (by intro h; rw [hn, Bool.false_and] at h; cases h)]
           exact wpAny_pure hQ))

/-- the list at a, as it stands at each turn (a loop may append to it) -/
noncomputable def Itl (K : PySem.W.Frag) (a : Addr) : It :=
  ⟨fun i H => Ex2 fun xs x => SqL K H a xs ∧ xs[i]? = some x, fun i H x H' => H' = H ∧ ∀ xs, SqL K H a xs → xs[i]? = some x, fun i H => ∃ xs, SqL K H a xs ∧ xs.length ≤ i⟩
/-- lo, lo + 1, .. (n of them) -/
noncomputable def Itr (lo : Int) (n : Nat) : It := ⟨fun i _ => i < n, fun i H x H' => H' = H ∧ x = .int (lo + i), fun i _ => n ≤ i⟩
theorem turn_list {P : Program} {w : World} {K : PySem.W.Frag} {tg : Expr} (a it : Addr) : Turn P w K tg (Itl K a) [it] it (fun i h => h.IsListIter it a i) where
  mem := by simp
  obj := fun i h st b hb => by
    have e : b = it := by simpa using hb
    subst e
    obtain ⟨o, e, c, d⟩ := st
    exact ⟨o, e, fun v z => by rw [d] at z; cases z⟩
  keep := fun i h h' st k => st.at fun o e => k it (by simp) o e
  item := by
    intro X hP hw hK hc i pins s σ H E I hf st hg
    subst hP hw hK
    obtain ⟨xs, x, hq, hx⟩ := hg
    obtain ⟨its, rv, p, hz⟩ := I.list hq
    obtain ⟨u, hu, ru⟩ := rv.get hx
    obtain ⟨f0, f1, f2, f3, f4, f5⟩ := hf it (by simp)
    refine wpAny_pyNext_list_item st p.isList (x := u) (by simpa using hu) fun h' st' sb => ?_
    have I1 : Inv X pins σ H { s with heap := h' } := I.turned (t' := s.toks) (fun b o hb e => (sb.2 b hb).trans e) f0 f1 f3 f4 f5
    obtain ⟨o, e, c, d⟩ := id st'
    exact ⟨u, rfl, go_of (s := { s with heap := h' }) e c d (by decide) ⟨x, H, I1, ru, ⟨rfl, fun ys hy => by rw [I.list_inj hy hq]; exact hx⟩, st', fun b hb => (hf b hb).1⟩⟩
  done := by
    intro X hP hw hK hc i pins s σ H E I hf st hg
    subst hP hw hK
    obtain ⟨xs, hq, hx⟩ := hg
    obtain ⟨its, rv, p, hz⟩ := I.list hq
    obtain ⟨f0, f1, f2, f3, f4, f5⟩ := hf it (by simp)
    have hl := rv.length
    exact wpAny_pyNext_list_end (I.ok.hd hc) st p.isList (by simp; (first | lia | omega)) fun h' eb => ⟨rfl, I.turned (t' := s.toks) (fun b o hb e => eb b o hb e) f0 f1 f3 f4 f5⟩
  self := fun _ _ _ _ _ st h => wpAny_pyIter_listiter st h
theorem turn_range {P : Program} {w : World} {K : PySem.W.Frag} {tg : Expr} (it : Addr) (lo : Int) (n : Nat) : Turn P w K tg (Itr lo n) [it] it (fun i h => IsRangeIter h it (lo + (i : Nat) * 1) ((n : Int) - (i : Nat)) 1) where
  mem := by simp
  obj := fun i h st b hb => by
    have e : b = it := by simpa using hb
    subst e
    exact ⟨_, st, fun v z => by
      have z' : Data.fields _ = Data.cell v := z
      cases z'⟩
  keep := fun i h h' st k => k it (by simp) _ st
  item := by
    intro X hP hw hK hc i pins s σ H E I hf st hg
    subst hP hw hK
    obtain ⟨f0, f1, f2, f3, f4, f5⟩ := hf it (by simp)
    have W := Walks.range (prog := X.prog) (w := X.w) (I.ok.hd hc) it lo 1 n
    refine W.item i s _ _ hg st fun v h' tk hv st' kk => ?_
    obtain ⟨t, rfl⟩ := hv
    have I1 : Inv X pins σ H { s with heap := h', toks := tk } := I.turned (fun b o hb e => kk b o (by simpa using hb) e) f0 f1 f3 f4 f5
    refine ⟨_, rfl, go_of (s := { s with heap := h', toks := tk }) (n := "range_iterator") st' rfl rfl (by decide) ⟨.int (lo + i), H, I1, ⟨t, ?_⟩, ⟨rfl, rfl⟩, st', fun b hb => (hf b hb).1⟩⟩
    rw [Int.mul_one]
  done := by
    intro X hP hw hK hc i pins s σ H E I hf st hg
    subst hP hw hK
    obtain ⟨f0, f1, f2, f3, f4, f5⟩ := hf it (by simp)
    exact wpAny_pyNext_range_end (I.ok.hd hc) st (by have : n ≤ i := hg; (first | lia | omega)) fun h' eb => ⟨rfl, I.turned (t' := s.toks) (fun b o hb e => eb b o hb e) f0 f1 f3 f4 f5⟩
  self := fun _ _ _ _ _ st h => wpAny_pyIter_rangeiter st h
end L2

namespace L2
open PySem PySem.Spec PyProof.Rows
section
variable {X : Cx} {tg : Expr}
noncomputable def iList (K : PySem.W.Frag) (tl : TE) : TI := fun σ H R => tl σ H fun x H1 => ∃ a, x = .ref a ∧ (∃ xs, SqL K H1 a xs) ∧ R (Itl K a) H1
theorem pi_list {l : Expr} {tl : TE} (hl : PE X l tl) : PI X tg l (iList X.K tl) := by
  intro pins s σ H R I h
  refine thn (hl s σ H _ I h) fun v s1 ⟨x, H1, I1, r1, q1⟩ => ?_
  obtain ⟨a, e, ⟨xs, hq⟩, q⟩ := q1
  subst e
  cases r1
  obtain ⟨its, rv, p, hz⟩ := I1.list hq
  refine wpAny_pyIter_list p.isList ?_
  refine ⟨s1.heap.objs.size, [s1.heap.objs.size], _, _, H1, rfl, I1.kept (t' := s1.toks) fun b o e => Heap.get?_push_of_some _ e, turn_list a _, ⟨_, Heap.get?_push_size _ rfl, rfl, rfl⟩, fun b hb => ?_, q⟩
  have e : b = s1.heap.objs.size := by simpa using hb
  subst e
  exact I1.fpOk (Nat.le_refl _) (I1.hok.fresh (Nat.le_refl _))
/-- a range object just made, walked -/
theorem range_it {pins : List (Addr × Obj)} {σ : St} {H : Hp} {s : Shared} {R : It → Hp → Prop} {E : Value → Shared → Prop} {lo hi : Int} {t u v : Tok} {tk : Nat} (I : Inv X pins σ H s) (h1 : -(2 ^ 62) ≤ lo) (h2 : lo < 2 ^ 62) (h3 : -(2 ^ 62) ≤ hi) (h4 : hi < 2 ^ 62)
    (q : R (Itr lo (hi - lo).toNat) H) : wpAny (model X.prog X.w) X.A (pyIter (.ref s.heap.objs.size)) (PIE X pins σ tg R) E { s with heap := s.heap.push { cls := .type "range", data := .fields #[.int lo t, .int hi u, .int 1 v] }, toks := tk } := by
  refine wpAny_pyIter_range (IsRange.new ..) (small_one h1 h2 h3 h4) ?_
  have I1 : Inv X pins σ H { s with heap := s.heap.push { cls := .type "range", data := .fields #[.int lo t, .int hi u, .int 1 v] }, toks := tk } := I.kept fun b o e => Heap.get?_push_of_some _ e
  refine ⟨(s.heap.push { cls := .type "range", data := .fields #[.int lo t, .int hi u, .int 1 v] }).objs.size, [(s.heap.push { cls := .type "range", data := .fields #[.int lo t, .int hi u, .int 1 v] }).objs.size], _, _, H, rfl,
    I1.kept (t' := tk) fun b o e => Heap.get?_push_of_some _ e, turn_range _ lo (hi - lo).toNat, ?_, fun b hb => ?_, q⟩
  · have e1 : lo + ((0 : Nat) : Int) * 1 = lo := by simp
    have e2 : (((hi - lo).toNat : Nat) : Int) - ((0 : Nat) : Int) = Builtin.Range.rangeSize lo hi 1 := by rw [rangeSize_one]; split <;> (first | lia | omega)
    show IsRangeIter _ _ (lo + ((0 : Nat) : Int) * 1) ((((hi - lo).toNat : Nat) : Int) - ((0 : Nat) : Int)) 1
    rw [e1, e2]
    exact Heap.get?_push_size _ rfl
  · have e : b = (s.heap.push { cls := .type "range", data := .fields #[.int lo t, .int hi u, .int 1 v] }).objs.size := by simpa using hb
    subst e
    exact I1.fpOk (Nat.le_refl _) (I1.hok.fresh (Nat.le_refl _))
noncomputable def iRng1 (ta : TA) : TI := fun σ H R => ta σ H fun vs H1 => ∃ j : Int, vs = [.int j] ∧ -(2 ^ 62) ≤ j ∧ j < 2 ^ 62 ∧ R (Itr 0 j.toNat) H1
theorem pi_range1 {a : Expr} {ta : TA} {p pos : Pos} (hg : Gl X "range") (hm : X.mg "range" = none) (ha : PA X [a] ta) (hs : starEach [a] X.env = [(false, eval a X.env)] := by rfl) : PI X tg (.Call (.Name "range" p) [a] [] pos) (iRng1 ta) := by
  intro pins s σ H R I h
  refine Call_ (ld_blt I hg hm boot_range (PyProof.Rows.callWith_type1 (thn (ha s σ H _ I h) fun us s1 ⟨vs, H1, I1, r1, q1⟩ => ?_) hs rfl))
  obtain ⟨j, e, q1, q2, q⟩ := q1
  subst e
  cases r1 with
  | cons r rr =>
    cases rr
    obtain ⟨t, rfl⟩ := r
    exact call_range_1 (range_it I1 (by (first | lia | omega)) (by (first | lia | omega)) q1 q2 (by simpa using q))
/-! ### for -/
/-- W: the invariant by the turn and a measure; N: what the body is to reach -/
noncomputable def tFor (wi : TI) (g : TG) (tb : TS) : TS := fun D σ H => wi σ H fun J H1 => ∃ W : Nat → Nat → St → Hp → Prop, (∃ m, W 0 m σ H1) ∧ ∀ i m σ H, W i m σ H →
  (J.stop i H ∧ D.nx σ H) ∨ (J.go i H ∧ ∃ N : St → Hp → Prop, (∀ σ' H', N σ' H' → ∃ m', m' < m ∧ W (i + 1) m' σ' H') ∧ ∀ x H', J.yld i H x H' → g x σ H' fun σ2 H2 => tb { D with nx := N, ct := N, bk := D.nx } σ2 H2)
/-- the records at fp as they stand -/
noncomputable def pinsAt (fp : List Addr) (h : Heap) : List (Addr × Obj) := fp.filterMap fun b => (h.get? b).map fun o => (b, o)
theorem mem_pinsAt {fp : List Addr} {h : Heap} {b : Addr} {o : Obj} (hb : b ∈ fp) (e : h.get? b = some o) : (b, o) ∈ pinsAt fp h := List.mem_filterMap.mpr ⟨b, hb, by rw [e]; rfl⟩
theorem of_pinsAt {fp : List Addr} {h : Heap} {p : Addr × Obj} (hp : p ∈ pinsAt fp h) : p.1 ∈ fp ∧ h.get? p.1 = some p.2 := by
  obtain ⟨b, hb, e⟩ := List.mem_filterMap.mp hp
  cases q : h.get? b with
  | none => rw [q] at e; cases e
  | some o =>
    rw [q] at e
    have e' : (b, o) = p := Option.some.inj e
    subst e'
    exact ⟨hb, q⟩
theorem Inv.pinned {pins : List (Addr × Obj)} {σ : St} {H : Hp} {s : Shared} {fp : List Addr} (I : Inv X pins σ H s) (hf : ∀ b ∈ fp, FpOk X pins H b) (ho : ∀ b ∈ fp, ∃ o, s.heap.get? b = some o ∧ ∀ v, o.data ≠ .cell v) : Inv X (pins ++ pinsAt fp s.heap) σ H s :=
  I.pins_of fun p hp => (List.mem_append.mp hp).elim (fun z => I.pin p (List.mem_append_right _ z)) fun z => by
    obtain ⟨hb, e⟩ := of_pinsAt z
    obtain ⟨f0, f1, f2, _⟩ := hf p.1 hb
    obtain ⟨o, e', d⟩ := ho p.1 hb
    rw [e] at e'; cases e'
    exact ⟨e, f0, f1, f2, d⟩
theorem Inv.unpinned {pins pl : List (Addr × Obj)} {σ : St} {H : Hp} {s : Shared} (I : Inv X (pins ++ pl) σ H s) : Inv X pins σ H s := I.pins_of fun p hp => I.pin p (List.mem_append_right _ (List.mem_append_left _ hp))
theorem ps_for {iter : Expr} {body : List Stmt} {wi : TI} {g : TG} {tb : TS} {pos : Pos} (hp : PassesOwn (model X.prog X.w) X.A X.env X.xe) (hc : X.calm = true) (hi : PI X tg iter wi) (hg : PG X tg g) (hb : PSs X body tb)
    (hs : ∀ x, foldedSetIterable iter X.env x = pure x := by intro _; rfl) : PS X (.For tg iter body [] pos) (tFor wi g tb) := by
  intro pins s σ H D I h
  refine wpAny_For (thn (hi s σ H _ I h) fun v s1 h1 => thn h1 fun itv s2 h2 => ?_) hs
  obtain ⟨it, fp, tn, J, H2, e, I2, T, st2, f2, W, ⟨m0, w0⟩, turn⟩ := h2
  subst e
  -- what stays true of the iterator's objects through the loop
  have stat : ∀ {H' : Hp}, (∀ b ∈ fp, H' b = none) → ∀ b ∈ fp, FpOk X pins H' b := fun hn b hb => ⟨hn b hb, (f2 b hb).2⟩
  refine codeAny_forLoop_any (fun n s' => ∃ i σ' H', Inv X pins σ' H' s' ∧ tn i s'.heap ∧ (∀ b ∈ fp, H' b = none) ∧ W i n σ' H') ?_ m0 ⟨0, σ, H2, I2, st2, fun b hb => (f2 b hb).1, w0⟩
  rintro n s3 ⟨i, σ3, H3, I3, st3, fr3, w3⟩
  rcases turn i n σ3 H3 w3 with ⟨stop, qn⟩ | ⟨go, N, hN, step⟩
  · refine wpAny_passesOwn hp (thn (T.done X rfl rfl rfl hc i pins s3 σ3 H3 X.xe I3 (stat fr3) st3 stop) fun r s4 ⟨hr, I4⟩ => ?_)
    subst hr
    exact wpAny_execs_nil ⟨σ3, H3, I4, qn⟩
  · refine wpAny_passesOwn hp (thn (T.item X rfl rfl rfl hc i pins s3 σ3 H3 X.xe I3 (stat fr3) st3 go) fun r s4 ⟨u, hr, h4⟩ => ?_)
    subst hr
    refine wpAny_passesOwn hp (thn h4 fun _ s5 ⟨x, H5, I5, r5, y5, st5, fr5⟩ => ?_)
    have I5' := I5.pinned (stat fr5) (T.obj _ _ st5)
    refine wpAny_passesOwn hp (thn (hg s5 σ3 H5 x u _ I5' r5 (step x H5 y5)) fun _ s6 ⟨σ6, H6, I6, q6⟩ => ?_)
    refine wpAny_passesOwn hp (thn (hb s6 σ6 H6 _ I6 q6) fun f s7 q7 => ?_)
    have again : ∀ {σ7 : St} {H7 : Hp}, Inv X (pins ++ pinsAt fp s5.heap) σ7 H7 s7 → N σ7 H7 → ∃ m, m < n ∧ ∃ i σ' H', Inv X pins σ' H' s7 ∧ tn i s7.heap ∧ (∀ b ∈ fp, H' b = none) ∧ W i m σ' H' := fun {σ7 H7} I7 n7 => by
      obtain ⟨m', hm, w7⟩ := hN σ7 H7 n7
      refine ⟨m', hm, i + 1, σ7, H7, I7.unpinned, T.keep _ _ _ st5 fun b hb o e => (I7.pin (b, o) (List.mem_append_right _ (List.mem_append_right _ (mem_pinsAt hb e)))).1, fun b hb => ?_, w7⟩
      obtain ⟨o, e, d⟩ := T.obj _ _ st5 b hb
      exact (I7.pin (b, o) (List.mem_append_right _ (List.mem_append_right _ (mem_pinsAt hb e)))).2.1
    cases f with
    | next => obtain ⟨σ7, H7, I7, n7⟩ := q7; exact again I7 n7
    | cont => obtain ⟨σ7, H7, I7, n7⟩ := q7; exact again I7 n7
    | brk => obtain ⟨σ7, H7, I7, q7⟩ := q7; exact ⟨σ7, H7, I7.unpinned, q7⟩
    | ret v => obtain ⟨x7, σ7, H7, I7, r7, q7⟩ := q7; exact ⟨x7, σ7, H7, I7.unpinned, r7, q7⟩
end

/-! ### the forms one uses -/
theorem for_range {lo : Int} {n : Nat} {g : TG} {tb : TS} {D : Ends} {σ : St} {H : Hp} (Pv : Nat → St → Hp → Prop) (h0 : Pv 0 σ H)
    (hs : ∀ i σ H, i < n → Pv i σ H → g (.int (lo + i)) σ H fun σ2 H2 => tb { D with nx := Pv (i + 1), ct := Pv (i + 1), bk := D.nx } σ2 H2) (hd : ∀ σ H, Pv n σ H → D.nx σ H) :
    ∃ W : Nat → Nat → St → Hp → Prop, (∃ m, W 0 m σ H) ∧ ∀ i m σ H, W i m σ H →
      ((Itr lo n).stop i H ∧ D.nx σ H) ∨ ((Itr lo n).go i H ∧ ∃ N : St → Hp → Prop, (∀ σ' H', N σ' H' → ∃ m', m' < m ∧ W (i + 1) m' σ' H') ∧ ∀ x H', (Itr lo n).yld i H x H' → g x σ H' fun σ2 H2 => tb { D with nx := N, ct := N, bk := D.nx } σ2 H2) := by
  refine ⟨fun i m σ H => m = n - i ∧ i ≤ n ∧ Pv i σ H, ⟨n, by simp, Nat.zero_le _, h0⟩, ?_⟩
  rintro i m σ H ⟨rfl, hi, p⟩
  by_cases hlt : i < n
  · refine .inr ⟨hlt, Pv (i + 1), fun σ' H' p' => ⟨n - (i + 1), by (first | lia | omega), rfl, hlt, p'⟩, fun x H' y => ?_⟩
    obtain ⟨e, y⟩ := y
    subst e y
    exact hs i σ _ hlt p
  · have e : i = n := by (first | lia | omega)
    subst e
    exact .inl ⟨Nat.le_refl _, hd σ H p⟩
end L2

namespace L2
open PySem PySem.Spec PyProof.Rows

noncomputable abbrev R2 := V → V → Hp → VK → Prop
/-- a two-place operation on values: f is binaryOp op, inplaceOp op or compareOp op -/
noncomputable def OpR (X : Cx) (f : Value → Value → Sem Value) (r : R2) : Prop :=
  ∀ ⦃pins : List (Addr × Obj)⦄ (s : Shared) (σ : St) (H : Hp) (x y : V) (v u : Value) (Q : VK), Inv X pins σ H s → RelV x v → RelV y u → r x y H Q →
    wpAny (model X.prog X.w) X.A (f v u) (EP X pins σ Q) X.xe s
/-- a call of a value that is known (a builtin, a type) with values -/
noncomputable def CallR (X : Cx) (f : Value) (r : List V → Hp → VK → Prop) : Prop :=
  ∀ ⦃pins : List (Addr × Obj)⦄ (s : Shared) (σ : St) (H : Hp) (xs : List V) (us : List Value) (Q : VK), Inv X pins σ H s → Vals xs us → r xs H Q →
    wpAny (model X.prog X.w) X.A (call f us) (EP X pins σ Q) X.xe s
noncomputable def tOp (r : R2) (ta tb : TE) : TE := fun σ H Q => ta σ H fun x H1 => tb σ H1 fun y H2 => r x y H2 Q
/-- ints in, under C, and a value out -/
noncomputable def rI (C : Int → Int → Prop) (g : Int → Int → V) : R2 := fun x y H Q => Ex2 fun i j => x = .int i ∧ y = .int j ∧ C i j ∧ Q (g i j) H
noncomputable def rI0 (g : Int → Int → V) : R2 := fun x y H Q => Ex2 fun i j => x = .int i ∧ y = .int j ∧ Q (g i j) H
section
variable {X : Cx} {a b c : Expr} {ta tb tc : TE} {pos : Pos}

theorem binT (ha : PE X a ta) (hb : PE X b tb) {pins : List (Addr × Obj)} {s : Shared} {σ : St} {H : Hp} {R : V → V → Hp → Prop} (I : Inv X pins σ H s)
    (h : ta σ H fun x H1 => tb σ H1 fun y H2 => R x y H2) {Q : Value → Shared → Prop} {f : Value → Value → Sem Value}
    (hf : ∀ v u s2 x y H2, Inv X pins σ H2 s2 → RelV x v → RelV y u → R x y H2 → wpAny (model X.prog X.w) X.A (f v u) Q X.xe s2) :
    wpAny (model X.prog X.w) X.A (eval a X.env) (fun v s₁ => wpAny (model X.prog X.w) X.A (eval b X.env) (fun u s₂ => wpAny (model X.prog X.w) X.A (f v u) Q X.xe s₂) X.xe s₁) X.xe s := by
  refine thn (ha s σ H _ I h) fun v s1 ⟨x, H1, I1, r1, q1⟩ => ?_
  refine thn (hb s1 σ H1 _ I1 q1) fun u s2 ⟨y, H2, I2, r2, q2⟩ => ?_
  exact hf v u s2 x y H2 I2 r1 r2 q2

theorem pe_op {op : Operator} {r : R2} (ho : OpR X (binaryOp op) r) (ha : PE X a ta) (hb : PE X b tb) : PE X (.BinOp a op b pos) (tOp r ta tb) := by
  intro pins s σ H Q I h
  exact wpAny_BinOp (binT ha hb I h fun v u s2 x y H2 I2 rx ry q => ho s2 σ H2 x y v u Q I2 rx ry q)
/-! ### ints -/
theorem opI {f : Value → Value → Sem Value} {C : Int → Int → Prop} {g : Int → Int → Int}
    (rule : ∀ (i j : Int) (t u : Tok) (s : Shared) (Q : Value → Shared → Prop) (E : Value → Shared → Prop), C i j → Q (.int (g i j) s.toks) { s with toks := s.toks + 1 } → wpAny (model X.prog X.w) X.A (f (.int i t) (.int j u)) Q E s) :
    OpR X f (rI C fun i j => .int (g i j)) := by
  intro pins s σ H x y v u Q I rx ry h
  obtain ⟨i, j, rfl, rfl, hc, q⟩ := h
  obtain ⟨t, rfl⟩ := rx
  obtain ⟨t', rfl⟩ := ry
  exact rule i j t t' s _ _ hc ⟨.int (g i j), H, I.tok _, ⟨_, rfl⟩, q⟩
theorem opI0 {f : Value → Value → Sem Value} {g : Int → Int → Int}
    (rule : ∀ (i j : Int) (t u : Tok) (s : Shared) (Q : Value → Shared → Prop) (E : Value → Shared → Prop), Q (.int (g i j) s.toks) { s with toks := s.toks + 1 } → wpAny (model X.prog X.w) X.A (f (.int i t) (.int j u)) Q E s) :
    OpR X f (rI0 fun i j => .int (g i j)) := by
  intro pins s σ H x y v u Q I rx ry h
  obtain ⟨i, j, rfl, rfl, q⟩ := h
  obtain ⟨t, rfl⟩ := rx
  obtain ⟨t', rfl⟩ := ry
  exact rule i j t t' s _ _ ⟨.int (g i j), H, I.tok _, ⟨_, rfl⟩, q⟩
theorem opB0 {f : Value → Value → Sem Value} {g : Int → Int → Bool}
    (rule : ∀ (i j : Int) (t u : Tok) (s : Shared) (Q : Value → Shared → Prop) (E : Value → Shared → Prop), Q (.bool (g i j)) s → wpAny (model X.prog X.w) X.A (f (.int i t) (.int j u)) Q E s) :
    OpR X f (rI0 fun i j => .bl (g i j)) := by
  intro pins s σ H x y v u Q I rx ry h
  obtain ⟨i, j, rfl, rfl, q⟩ := h
  obtain ⟨t, rfl⟩ := rx
  obtain ⟨t', rfl⟩ := ry
  exact rule i j t t' s _ _ ⟨.bl (g i j), H, I, rfl, q⟩

noncomputable def CDiv (i j : Int) : Prop := 0 < j ∧ j < 1073741824
noncomputable def CPow (i j : Int) : Prop := 0 ≤ j ∧ j ≤ 1000000 ∧ i.natAbs < 2 ^ 64
noncomputable def CMul (i j : Int) : Prop := (-(2 ^ 64) < i ∧ i < 2 ^ 64) ∨ (-(2 ^ 64) < j ∧ j < 2 ^ 64)
theorem CMul.ok {i j : Int} (h : CMul i j) : IntMulOk i j := by
  rcases h with ⟨h1, h2⟩ | ⟨h1, h2⟩
  · exact .of_left (intBits_le_64 h1 h2)
  · exact .of_right (intBits_le_64 h1 h2)
theorem op_add : OpR X (binaryOp .Add) (rI0 fun i j => .int (i + j)) := opI0 fun _ _ _ _ _ _ _ q => add_int q
theorem op_mul : OpR X (binaryOp .Mult) (rI CMul fun i j => .int (i * j)) := opI fun _ _ _ _ _ _ _ hc q => mul_int q hc.ok
/-- // by a positive divisor -/
theorem op_fdiv : OpR X (binaryOp .FloorDiv) (rI CDiv fun i j => .int (i / j)) := opI fun i j _ _ _ _ _ hc q => by
  have h1 : (0 : Int) < j := hc.1
  have h2 : j < 1073741824 := hc.2
  exact floordiv_int (by (first | lia | omega)) (by rw [Int.fdiv_eq_ediv_of_nonneg i (by (first | lia | omega))]; exact q) (.inl (PyProof.noPylong_small (by (first | lia | omega))))
/-- % by a positive divisor of any size -/
theorem op_mod : OpR X (binaryOp .Mod) (rI (fun _ j => 0 < j) fun i j => .int (i % j)) := opI fun i j _ _ _ _ _ hc q => by
  have h1 : (0 : Int) < j := hc
  exact mod_int' (by (first | lia | omega)) (by rw [Int.fmod_eq_emod_of_nonneg i (by (first | lia | omega))]; exact q)
theorem op_pow : OpR X (binaryOp .Pow) (rI CPow fun i j => .int (i ^ j.toNat)) := opI fun _ _ _ _ _ _ _ hc q => pow_int_small hc.1 hc.2.1 hc.2.2 q
/-! ### bools among ints: n += (a < b) -/
end

/-! ### comparisons -/
/-- the scalars that == tells apart as data does -/
noncomputable def scal : V → V → Bool
  | .non, .non => true | .non, .int _ => true | .int _, .non => true | .non, .bl _ => true | .bl _, .non => true | .non, .str _ => true | .str _, .non => true
  | .int _, .int _ => true | .bl _, .bl _ => true | .str _, .str _ => true | .byt _, .byt _ => true
  | .int _, .str _ => true | .str _, .int _ => true | .bl _, .str _ => true | .str _, .bl _ => true
  | _, _ => false
noncomputable def rEq : R2 := fun x y H Q => scal x y = true ∧ Q (.bl (decide (x = y))) H
noncomputable def rNe : R2 := fun x y H Q => scal x y = true ∧ Q (.bl (!decide (x = y))) H

theorem dec_int {i j : Int} : decide (V.int i = V.int j) = (i == j) := by
  rw [Bool.eq_iff_iff]
  simp
theorem dec_bl {i j : Bool} : decide (V.bl i = V.bl j) = (i == j) := by
  rw [Bool.eq_iff_iff]
  simp
theorem dec_str {i j : Str} : decide (V.str i = V.str j) = (i == j) := by
  rw [Bool.eq_iff_iff]
  simp
theorem dec_byt {i j : Array UInt8} : decide (V.byt i = V.byt j) = (i.toList == j.toList) := by
  rw [Bool.eq_iff_iff]
  cases i
  cases j
  simp

section
variable {X : Cx} {a b c : Expr} {ta tb tc : TE} {pos : Pos}
theorem fin_bl {pins : List (Addr × Obj)} {σ : St} {H : Hp} {s : Shared} {Q : VK} {k k' : Bool} (I : Inv X pins σ H s) (q : Q (.bl k) H) (e : k = k') : EP X pins σ Q (.bool k') s := by
  subst e
  exact ⟨.bl k, H, I, rfl, q⟩
theorem op_eq : OpR X (compareOp .Eq) rEq := by
  intro pins s σ H x y v u Q I rx ry h
  obtain ⟨hs, q⟩ := h
  cases x with
  | non =>
    cases rx
    cases y with
    | non => cases ry; exact PySem.EqNone.eq_none_none (fin_bl I q (by simp))
    | bl j => cases ry; exact PySem.EqNone.eq_none_bool (fin_bl I q (by simp))
    | int j => obtain ⟨t', rfl⟩ := ry; exact PySem.EqNone.eq_none_int (fin_bl I q (by simp))
    | str j => obtain ⟨t', rfl⟩ := ry; exact PySem.EqNone.eq_none_str (fin_bl I q (by simp))
    | _ => exact absurd (show false = true from hs) Bool.false_ne_true
  | bl i =>
    cases rx
    cases y with
    | non => cases ry; exact PySem.EqNone.eq_bool_none (fin_bl I q (by simp))
    | bl j => cases ry; exact eq_bool (fin_bl I q dec_bl)
    | str j => obtain ⟨t', rfl⟩ := ry; exact PySem.EqMixed.eq_bool_str (fin_bl I q (by simp))
    | _ => exact absurd (show false = true from hs) Bool.false_ne_true
  | int i =>
    obtain ⟨t, rfl⟩ := rx
    cases y with
    | non => cases ry; exact PySem.EqNone.eq_int_none (fin_bl I q (by simp))
    | int j => obtain ⟨t', rfl⟩ := ry; exact eq_int (fin_bl I q dec_int)
    | str j => obtain ⟨t', rfl⟩ := ry; exact PySem.EqMixed.eq_int_str (fin_bl I q (by simp))
    | _ => exact absurd (show false = true from hs) Bool.false_ne_true
  | str i =>
    obtain ⟨t, rfl⟩ := rx
    cases y with
    | non => cases ry; exact PySem.EqNone.eq_str_none (fin_bl I q (by simp))
    | bl j => cases ry; exact PySem.EqMixed.eq_str_bool (fin_bl I q (by simp))
    | int j => obtain ⟨t', rfl⟩ := ry; exact PySem.EqMixed.eq_str_int (fin_bl I q (by simp))
    | str j => obtain ⟨t', rfl⟩ := ry; exact eq_str (fin_bl I q dec_str)
    | _ => exact absurd (show false = true from hs) Bool.false_ne_true
  | byt i =>
    obtain ⟨t, rfl⟩ := rx
    cases y with
    | byt j => obtain ⟨t', rfl⟩ := ry; exact PySem.W.eq_bytes (fin_bl I q dec_byt)
    | _ => exact absurd (show false = true from hs) Bool.false_ne_true
  | _ => cases y <;> exact absurd (show false = true from hs) Bool.false_ne_true
theorem op_ne : OpR X (compareOp .NotEq) rNe := by
  intro pins s σ H x y v u Q I rx ry h
  obtain ⟨hs, q⟩ := h
  cases x with
  | non =>
    cases rx
    cases y with
    | non => cases ry; exact PySem.EqNone.ne_none_none (fin_bl I q (by simp))
    | bl j => cases ry; exact PySem.EqNone.ne_none_bool (fin_bl I q (by simp))
    | int j => obtain ⟨t', rfl⟩ := ry; exact PySem.EqNone.ne_none_int (fin_bl I q (by simp))
    | str j => obtain ⟨t', rfl⟩ := ry; exact PySem.EqNone.ne_none_str (fin_bl I q (by simp))
    | _ => exact absurd (show false = true from hs) Bool.false_ne_true
  | bl i =>
    cases rx
    cases y with
    | non => cases ry; exact PySem.EqNone.ne_bool_none (fin_bl I q (by simp))
    | bl j => cases ry; exact ne_bool (fin_bl I q (congrArg not dec_bl))
    | str j => obtain ⟨t', rfl⟩ := ry; exact PySem.EqMixed.ne_bool_str (fin_bl I q (by simp))
    | _ => exact absurd (show false = true from hs) Bool.false_ne_true
  | int i =>
    obtain ⟨t, rfl⟩ := rx
    cases y with
    | non => cases ry; exact PySem.EqNone.ne_int_none (fin_bl I q (by simp))
    | int j => obtain ⟨t', rfl⟩ := ry; exact ne_int (fin_bl I q (congrArg not dec_int))
    | str j => obtain ⟨t', rfl⟩ := ry; exact PySem.EqMixed.ne_int_str (fin_bl I q (by simp))
    | _ => exact absurd (show false = true from hs) Bool.false_ne_true
  | str i =>
    obtain ⟨t, rfl⟩ := rx
    cases y with
    | non => cases ry; exact PySem.EqNone.ne_str_none (fin_bl I q (by simp))
    | bl j => cases ry; exact PySem.EqMixed.ne_str_bool (fin_bl I q (by simp))
    | int j => obtain ⟨t', rfl⟩ := ry; exact PySem.EqMixed.ne_str_int (fin_bl I q (by simp))
    | str j => obtain ⟨t', rfl⟩ := ry; exact ne_str (fin_bl I q (congrArg not dec_str))
    | _ => exact absurd (show false = true from hs) Bool.false_ne_true
  | byt i =>
    obtain ⟨t, rfl⟩ := rx
    cases y with
    | byt j => obtain ⟨t', rfl⟩ := ry; exact PySem.W.ne_bytes (fin_bl I q (congrArg not dec_byt))
    | _ => exact absurd (show false = true from hs) Bool.false_ne_true
  | _ => cases y <;> exact absurd (show false = true from hs) Bool.false_ne_true

theorem op_ge : OpR X (compareOp .GtE) (rI0 fun i j => .bl (decide (j ≤ i))) := opB0 fun _ _ _ _ _ _ _ q => ge_int q
/-- two rules for one operation: by cases -/
theorem OpR.or {f : Value → Value → Sem Value} {r r' : R2} (h : OpR X f r) (h' : OpR X f r') : OpR X f (fun x y H Q => r x y H Q ∨ r' x y H Q) := by
  intro pins s σ H x y v u Q I rx ry q
  rcases q with q | q
  · exact h s σ H x y v u Q I rx ry q
  · exact h' s σ H x y v u Q I rx ry q

theorem nomark (b : Expr) {op : CmpOp} (h : op ≠ .In := by decide) (h2 : op ≠ .NotIn := by decide) : behindInMarks op b = false := by
  have e1 : (op == CmpOp.In) = false := by cases op <;> first | rfl | exact absurd rfl h
  have e2 : (op == CmpOp.NotIn) = false := by cases op <;> first | rfl | exact absurd rfl h2
  cases b <;> simp [behindInMarks, e1, e2]
/-- a comparison as a value; hm: nomark b, or (for in, not in) by with_unfolding_all rfl -/
theorem pe_cmpR {op : CmpOp} {r : R2} (ho : OpR X (compareOp op) r) (ha : PE X a ta) (hb : PE X b tb) (hm : behindInMarks op b = false) : PE X (.Compare a [op] [b] pos) (tOp r ta tb) := by
  intro pins s σ H Q I h
  exact wpAny_Compare1 (binT ha hb I h fun v u s2 x y H2 I2 rx ry q => ho s2 σ H2 x y v u Q I2 rx ry q) hm
/-- a reading of a value as a test -/
noncomputable def tTest (t : TE) : TT := fun σ H Q => t σ H fun x H' => ∃ k, x = .bl k ∧ Q k H'
theorem pt_cmpR {op : CmpOp} {r : R2} (ho : OpR X (compareOp op) r) (ha : PE X a ta) (hb : PE X b tb) (hm : behindInMarks op b = false) : PT X (.Compare a [op] [b] pos) (tTest (tOp r ta tb)) := by
  intro pins s σ H Q I h
  refine wpAny_isTrue_Compare1 (thn (ha s σ H _ I h) fun v s1 ⟨x, H1, I1, r1, q1⟩ => thn (hb s1 σ H1 _ I1 q1) fun u s2 ⟨y, H2, I2, r2, q2⟩ =>
    thn (ho s2 σ H2 x y v u _ I2 r1 r2 q2) fun c s3 ⟨z, H3, I3, r3, k, e, q3⟩ => ?_) hm
  subst e
  cases r3
  exact wpAny_truthy_bool ⟨H3, I3, q3⟩
/-! ### truth -/
theorem line63 : (sizeLine : Nat) < 2 ^ 63 := by rw [sizeLine_eq]; decide
/-! ### strs and bytes -/
theorem op_add_str : OpR X (binaryOp .Add) (fun x y H Q => ∃ i j, x = .str i ∧ y = .str j ∧ i.length + j.length ≤ sizeLine ∧ Q (.str (i ++ j)) H) := by
  intro pins s σ H x y v u Q I rx ry h
  obtain ⟨i, j, rfl, rfl, hz, q⟩ := h
  obtain ⟨t, rfl⟩ := rx
  obtain ⟨t', rfl⟩ := ry
  exact add_str (fun t' tk => ⟨.str (i ++ j), H, I.tok _, ⟨_, rfl⟩, q⟩) hz
/-! ### scalar builtins, by CallR -/
theorem vals1 {x : V} {us : List Value} (r : Vals [x] us) : ∃ u, us = [u] ∧ RelV x u := by
  cases r with
  | cons r1 r2 => cases r2; exact ⟨_, rfl, r1⟩
theorem vals2 {x y : V} {us : List Value} (r : Vals [x, y] us) : ∃ u w', us = [u, w'] ∧ RelV x u ∧ RelV y w' := by
  cases r with
  | cons r1 r2 =>
    cases r2 with
    | cons r3 r4 => cases r4; exact ⟨_, _, rfl, r1, r3⟩
/-- len of a str, a bytes, a list, a tuple -/
noncomputable def LenV (K : PySem.W.Frag) (x : V) (H : Hp) (n : Nat) : Prop :=
  match x with
  | .str y => y.length ≤ sizeLine ∧ n = y.length
  | .byt y => y.size ≤ sizeLine ∧ n = y.size
  | .ref p => (∃ xs, SqL K H p xs ∧ n = xs.length) ∨ ∃ xs, SqT K H p xs ∧ n = xs.length
  | _ => False
theorem call_len : CallR X (.builtin "len") (fun xs H Q => ∃ x n, xs = [x] ∧ LenV X.K x H n ∧ Q (.int n) H) := by
  intro pins s σ H xs us Q I r h
  obtain ⟨x, n, rfl, e, q⟩ := h
  obtain ⟨u, rfl, rx⟩ := vals1 r
  have hl := line63
  have hs : sizeLine = 16777216 := sizeLine_eq
  cases x with
  | str y =>
    obtain ⟨t, rfl⟩ := rx
    obtain ⟨hy, e'⟩ : y.length ≤ sizeLine ∧ n = y.length := e
    subst e'
    exact len_str (by (first | lia | omega)) ⟨.int _, H, I.tok _, ⟨_, rfl⟩, q⟩
  | byt y =>
    obtain ⟨t, rfl⟩ := rx
    obtain ⟨hy, e'⟩ : y.size ≤ sizeLine ∧ n = y.size := e
    subst e'
    exact PySem.W.len_bytes (by (first | lia | omega)) ⟨.int _, H, I.tok _, ⟨_, rfl⟩, q⟩
  | ref p =>
    cases rx
    have e' : (∃ xs, SqL X.K H p xs ∧ n = xs.length) ∨ ∃ xs, SqT X.K H p xs ∧ n = xs.length := e
    rcases e' with ⟨xs, hx, e'⟩ | ⟨xs, hx, e'⟩
    · subst e'
      obtain ⟨its, r', pl, hz⟩ := I.list hx
      have hlen := r'.length
      exact Calls.call_len_list pl.isList (by simp only [List.size_toArray]; (first | lia | omega)) ⟨.int xs.length, H, I.tok _, ⟨_, by simp only [List.size_toArray]; rw [hlen]⟩, q⟩
    · subst e'
      obtain ⟨its, r', pl, hz⟩ := I.tuple hx
      have hlen := r'.length
      exact len_tuple pl (by simp only [List.size_toArray]; (first | lia | omega)) ⟨.int xs.length, H, I.tok _, ⟨_, by simp only [List.size_toArray]; rw [hlen]⟩, q⟩
  | _ => exact (show False from e).elim
/-- divmod: a new tuple -/
theorem call_divmod : CallR X (.builtin "divmod") (fun xs H Q => ∃ i j, xs = [.int i, .int j] ∧ CDiv i j ∧ ∀ p, H p = none → Q (.ref p) (upd H p (.tup [.int (i / j), .int (i % j)]))) := by
  intro pins s σ H xs us Q I r h
  obtain ⟨i, j, rfl, ⟨h1, h2⟩, q⟩ := h
  obtain ⟨u, w', rfl, ⟨t, rfl⟩, ⟨t', rfl⟩⟩ := vals2 r
  refine divmod_int (by (first | lia | omega)) ?_ (.inl (PyProof.noPylong_small (by (first | lia | omega))))
  rw [Int.fdiv_eq_ediv_of_nonneg i (by (first | lia | omega)), Int.fmod_eq_emod_of_nonneg i (by (first | lia | omega))]
  have hn : H s.heap.objs.size = none := I.hok.fresh (Nat.le_refl _)
  refine ⟨.ref s.heap.objs.size, _, ?_, rfl, q _ hn⟩
  refine I.laid (fun b o e => Heap.get?_push_of_some _ e) (Nat.le_refl _) ⟨by simp only [List.length_cons, List.length_nil]; rw [sizeLine_eq]; decide, [.int (i / j) s.toks, .int (i % j) (s.toks + 1)], .cons ⟨_, rfl⟩ (.cons ⟨_, rfl⟩ .nil), ?_⟩
  exact ⟨_, Heap.get?_push_size s.heap rfl, rfl, 0, rfl⟩
end
end L2

namespace L2
open PySem PySem.Spec PyProof.Rows

/-! ### an instance, its attributes a map -/
structure ObjM (h : Heap) (x dx C : Addr) (mA : Str → Option Value) : Prop where
  obj : h.get? x = some (PySem.W.instObj C dx)
  ns : h.Ns1 dx mA
  ne : dx ≠ x

theorem lookIn_ns {h : Heap} {dx : Addr} {mA : Str → Option Value} (n : h.Ns1 dx mA) : ∃ od, h.get? dx = some od ∧ ∀ name, PySem.W.lookIn name od = some (mA name) := by
  obtain ⟨o, es, ep, ho, hd, hk, _, hm⟩ := n
  refine ⟨o, ho, fun name => ?_⟩
  have e := hm name
  unfold nsFind findBy at e
  rw [← Array.find?_toList] at e
  unfold PySem.W.lookIn
  rw [hd]
  dsimp only
  split
  · rename_i y q
    rw [q] at e
    exact congrArg some e
  · rename_i q
    rw [q] at e
    have a : es.toList.any (·.refKey) = false := by
      rw [List.any_eq_false]
      intro y hy
      obtain ⟨z, t, hkey⟩ := hk y (Array.mem_toList_iff.mp hy)
      simp [DictEntry.refKey, hkey]
    have a' : ¬ es.toList.any (·.refKey) = true := by rw [a]; exact Bool.false_ne_true
    rw [if_neg a']
    exact congrArg some e

theorem ObjM.look {h : Heap} {x dx C : Addr} {mA : Str → Option Value} (I : ObjM h x dx C mA) : ∃ od, PySem.W.InstAt h x (PySem.W.instObj C dx) C (some od) ∧ ∀ name, PySem.W.lookIn name od = some (mA name) :=
  let ⟨od, ho, hl⟩ := lookIn_ns I.ns
  ⟨od, ⟨I.obj, rfl, rfl, ho⟩, hl⟩

section
variable {prog : Program} {w : World} {A : Around} {E : Value → Shared → Prop} {s : Shared} {K : PySem.W.Frag} {x dx C f : Addr} {mA : Str → Option Value} {name : Str} {v : Value}

end

/-! ### the attributes as a list of pairs -/
theorem RelO.some_of {v : V} {o : Option Value} (r : RelO (some v) o) : ∃ u, o = some u ∧ RelV v u := by
  cases o with
  | none => exact (show False from r).elim
  | some u => exact ⟨u, rfl, r⟩
section
variable {P : Program} {w : World} {H H' : Hp} {h h' : Heap} {a C dx : Addr} {fs fs' : List (Str × V)}
theorem ins_get (hok : HOk P w H h) (e : H a = some (.ins C dx fs)) : ∃ mA, ObjM h a dx C mA ∧ (∀ f, RelO (fs.lookup f) (mA f)) ∧ PySem.Within mA (fs.map (·.1)) ∧ fs.length ≤ 1000 ∧ H dx = some (.own a) := by
  obtain ⟨d, z, ne, ob, mA, n, r, q⟩ := (show ObjOk P w H h a (.ins C dx fs) from hok a _ e)
  exact ⟨mA, ⟨ob, n, ne⟩, r, q, z, d⟩
end

/-! ### what of the text a class must have -/
structure Cls (K : PySem.W.Frag) (C : Addr) : Prop where
  pg : PySem.W.plainGet K C Str.empty = true
  hd : PySem.W.hasDictIn K C = true
  po : PySem.W.plainOver K C = true
  sa : PySem.W.findIn K (.ref C) "__setattr__" = some (some (.builtin "object.__setattr__"))
theorem Cls.get {K : PySem.W.Frag} {C : Addr} (c : Cls K C) (f : Str) : PySem.W.plainGet K C f = true := c.pg
section
variable {X : Cx} {pins : List (Addr × Obj)} {σ : St} {H : Hp} {s : Shared} {a C dx : Addr} {fs : List (Str × V)} {f : Str} {v : V} {A : Around} {E : Value → Shared → Prop}

/-- e.f where nothing but the object is asked: through attributeBase (super) and the last hold -/
theorem attr_of {prog : Program} {w : World} {env : Env} {e : Expr} {f : Str} {pos : Pos} {s : Shared} {Q : Value → Shared → Prop} (hb : attributeBase e f env (eval e env) = eval e env)
    (h : wpAny (model prog w) A (eval e env) (fun o s₁ => wpAny (model prog w) A (getAttr o f true) Q E s₁) E s) : wpAny (model prog w) A (eval (.Attribute e f pos) env) Q E s :=
  Attribute_any_ h (by rw [arm_eval_Attribute, hb])
end

/-! ### readings and rules -/
section
variable {X : Cx} {o e value : Expr} {f : Str} {pos pos' tpos : Pos} {ta tv : TE}
end

/-! ### isinstance -/
section
variable {X : Cx} {pins : List (Addr × Obj)} {σ : St} {H : Hp} {s : Shared} {A : Around} {E : Value → Shared → Prop} {Q : Value → Shared → Prop} {c : Value} {b : Bool}
/-- the type of a value, as the fragment's deciders take it; for an instance its class -/
inductive TyOf (K : PySem.W.Frag) (H : Hp) : V → Value → Prop where
  | non : TyOf K H .non (.type "NoneType")
  | bl (x : Bool) : TyOf K H (.bl x) (.type "bool")
  | int (i : Int) : TyOf K H (.int i) (.type "int")
  | str (x : Str) : TyOf K H (.str x) (.type "str")
  | flt (x : UInt64) : TyOf K H (.flt x) (.type "float")
  | lst {a : Addr} {xs : List V} (e : H a = some (.lst xs)) : TyOf K H (.ref a) (.type "list")
  | frz {a : Addr} {o : Obj} {xs : List V} (e : H a = some (.frz o (.lst xs))) : TyOf K H (.ref a) (.type "list")
  | tup {a : Addr} {xs : List V} (e : H a = some (.tup xs)) : TyOf K H (.ref a) (.type "tuple")
  | dK {a : Addr} {kvs : List (Key × V)} (e : H a = some (.dK kvs)) : TyOf K H (.ref a) (.type "dict")
  | dT {a : Addr} {kvs : List (List Key × V)} (e : H a = some (.dT kvs)) : TyOf K H (.ref a) (.type "dict")
  | ins {a C dx : Addr} {fs : List (Str × V)} (e : H a = some (.ins C dx fs)) (cl : Cls K C) (ha : PySem.W.findIn K (.ref C) "__class__" = some (some (.builtin "object.__class__")))
      (hn : PySem.W.specialIn K (.builtin "object.__class__") "__get__" = some (some (.builtin "getset_descriptor.__get__"))) (htk : PySem.W.takesIn K (.builtin "object.__class__") = some true)
      (hm : PySem.W.mroIn K C (.type "object") = some true) : TyOf K H (.ref a) (.ref C)
/-- isinstance(x, c) for one class c, a built-in or an own one: kitOne's answer -/
theorem isinst_ok {x : V} {u t : Value} (I : Inv X pins σ H s) (rx : RelV x u) (ty : TyOf X.K H x t) (e : PySem.W.kitOne X.K t c = some b) (h : ∀ tk, Q (.bool b) { s with toks := tk }) :
    wpAny (model X.prog X.w) A (call (.builtin "isinstance") [u, c]) Q E s := by
  cases ty with
  | non => cases (show u = Value.none from rx); exact PySem.W.kia_one PySem.W.kitx_none I.kIn True.intro e (fun z => nomatch z) h
  | bl y => cases (show u = Value.bool y from rx); exact PySem.W.kia_one PySem.W.kitx_bool I.kIn True.intro e (fun z => nomatch z) h
  | int i => obtain ⟨t, q⟩ := (show ∃ t, u = Value.int i t from rx); cases q; exact PySem.W.kia_one PySem.W.kitx_int I.kIn True.intro e (fun z => nomatch z) h
  | str y => obtain ⟨t, q⟩ := (show ∃ t, u = Value.str y t from rx); cases q; exact PySem.W.kia_one PySem.W.kitx_str I.kIn True.intro e (fun z => nomatch z) h
  | flt y => obtain ⟨t, q⟩ := (show ∃ t, u = Value.float y t from rx); cases q; exact PySem.W.kia_one PySem.W.kitx_float I.kIn True.intro e (fun z => nomatch z) h
  | @lst a xs ea =>
    cases (show u = Value.ref a from rx)
    obtain ⟨_, _, n, _, h1⟩ := (show ObjOk X.prog X.w H s.heap a (.lst xs) from I.hok a _ ea)
    exact PySem.W.kia_one PySem.W.kitx_list I.kIn ⟨_, h1, rfl⟩ e (fun z => nomatch z) h
  | @frz a ob xs ea =>
    cases (show u = Value.ref a from rx)
    obtain ⟨_, _, _, n, _, h1⟩ := (show ObjOk X.prog X.w H s.heap a (.frz ob (.lst xs)) from I.hok a _ ea)
    exact PySem.W.kia_one PySem.W.kitx_list I.kIn ⟨_, h1, rfl⟩ e (fun z => nomatch z) h
  | @tup a xs ea =>
    cases (show u = Value.ref a from rx)
    obtain ⟨_, _, _, p⟩ := (show ObjOk X.prog X.w H s.heap a (.tup xs) from I.hok a _ ea)
    obtain ⟨o, h1, h2, _⟩ := p
    exact PySem.W.kia_one PySem.W.kitx_tuple I.kIn ⟨o, h1, h2⟩ e (fun z => nomatch z) h
  | @dK a kvs ea =>
    cases (show u = Value.ref a from rx)
    obtain ⟨_, _, vs, _, p⟩ := (show ObjOk X.prog X.w H s.heap a (.dK kvs) from I.hok a _ ea)
    obtain ⟨o, es, ep, h1, h2, _⟩ := p
    exact PySem.W.kia_one PySem.W.kitx_dict I.kIn ⟨o, h1, h2.1⟩ e (fun z => nomatch z) h
  | @dT a kvs ea =>
    cases (show u = Value.ref a from rx)
    obtain ⟨_, _, xs, _, o, es, ep, h1, h2, _⟩ := (show ObjOk X.prog X.w H s.heap a (.dT kvs) from I.hok a _ ea)
    exact PySem.W.kia_one PySem.W.kitx_dict I.kIn ⟨o, h1, h2.1⟩ e (fun z => nomatch z) h
  | @ins a C dx fs ea cl ha hn htk hm =>
    cases (show u = Value.ref a from rx)
    obtain ⟨mA, O, _⟩ := ins_get I.hok ea
    obtain ⟨od, J, _⟩ := O.look
    exact PySem.W.kia_one (PySem.W.kitx_own (cl.get _) cl.hd ha hn htk hm) I.kIn J e (fun z => nomatch z) h
end
end L2

namespace L2
open PySem PySem.Spec PyProof.Rows

/-! ### room -/
structure Room (k : Nat) (A : Around) : Prop where
  hd : A.handled = none
  dp : A.depth + 3 * k + 5 < recursionLimit
  un : A.units + 16 * k + 200 < cLine
  gd : A.guards = some []
theorem Room.mono {j k : Nat} {A : Around} (r : Room k A) (h : j ≤ k) : Room j A := ⟨r.hd, by have := r.dp; (first | lia | omega), by have := r.un; (first | lia | omega), r.gd⟩
theorem Room.deeper {k : Nat} {A : Around} (r : Room (k + 1) A) (env : Env) : Room k (A.deeper env) :=
  ⟨r.hd, by have := r.dp; show A.depth + 1 + 3 * k + 5 < _; (first | lia | omega), by have := r.un; show A.units + 3 + 16 * k + 200 < _; (first | lia | omega), r.gd⟩
theorem make_depth {A : Around} {C : Addr} {us : List Value} {kw : List (Str × Value)} : (A.under (.builtin "type.__call__" ⟨.ref C :: us, kw⟩)).depth = A.depth + 1 := by
  first | rfl | simp [Around.under, Code.weight, Code.isCreation, Code.isGuard, Code.isCaller, Code.frames, Code.isFrame, guardIds]
theorem make_units {A : Around} {C : Addr} {us : List Value} {kw : List (Str × Value)} : (A.under (.builtin "type.__call__" ⟨.ref C :: us, kw⟩)).units = A.units + 1 := by
  first | rfl | simp [Around.under, Code.cUnits, Code.frames, Code.isFrame]
theorem make_guards {A : Around} {C : Addr} {us : List Value} {kw : List (Str × Value)} : (A.under (.builtin "type.__call__" ⟨.ref C :: us, kw⟩)).guards = A.guards := by
  first | rfl | simp [Around.under, Code.guards, Code.isGuard, guardIds, pushGuards]
theorem Room.make {k : Nat} {A : Around} (r : Room (k + 1) A) (C : Addr) (us : List Value) (kw : List (Str × Value)) : Room k (A.under (.builtin "type.__call__" ⟨.ref C :: us, kw⟩)) :=
  ⟨r.hd, by have := r.dp; rw [make_depth]; (first | lia | omega), by have := r.un; rw [make_units]; (first | lia | omega), by rw [make_guards]; exact r.gd⟩
theorem Room.depth {k : Nat} {A : Around} (r : Room k A) : A.depth < recursionLimit := by have := r.dp; (first | lia | omega)
theorem Room.units {k : Nat} {A : Around} (r : Room k A) : A.units + 64 < cLine := by have := r.un; (first | lia | omega)
/-! ### argument lists and displays -/
noncomputable def tNil : TA := fun _ H Q => Q [] H
noncomputable def tCons (ta : TE) (tr : TA) : TA := fun σ H Q => ta σ H fun x H1 => tr σ H1 fun xs H2 => Q (x :: xs) H2
section
variable {X : Cx} {e : Expr} {es : List Expr} {te : TE} {t : TA} {pos : Pos}
theorem pa_nil : PA X [] tNil := fun _ _ _ _ H Q I h => Calls.spliced_nil ⟨[], H, I, .nil, h⟩
theorem pa_cons (ha : PE X e te) (hr : PA X es t) (hs : starEach (e :: es) X.env = (false, eval e X.env) :: starEach es X.env := by rfl) : PA X (e :: es) (tCons te t) := by
  intro pos pins s σ H Q I h
  rw [hs]
  show wpAny _ _ (spliced ((false, eval e X.env) :: backTo pos (starEach es X.env))) _ _ s
  refine Calls.spliced_cons (thn (ha s σ H _ I h) fun u s1 ⟨x, H1, I1, r1, q1⟩ => ?_)
  exact thn (hr s1 σ H1 _ I1 q1) fun us s2 ⟨xs, H2, I2, r2, q2⟩ => ⟨x :: xs, H2, I2, .cons r1 r2, q2⟩

noncomputable def tLst (t : TA) : TE := fun σ H Q => t σ H fun xs H1 => xs.length ≤ sizeLine ∧ ∀ p, H1 p = none → Q (.ref p) (upd H1 p (.lst xs))
theorem pe_lst (h : PA X es t) : PE X (.List es pos) (tLst t) := by
  intro pins s σ H Q I hq
  refine wpAny_List_spliced (thn (h s σ H _ I hq) fun us s1 ⟨xs, H1, I1, r, z, q⟩ => ⟨by rw [← r.length]; exact z, ?_⟩)
  have hf : H1 s1.heap.objs.size = none := I1.hok.fresh (Nat.le_refl _)
  refine ⟨.ref s1.heap.objs.size, upd H1 s1.heap.objs.size (.lst xs), I1.laid (t' := s1.toks) (fun b u e => Heap.get?_push_of_some _ e) (Nat.le_refl _) ?_, rfl, q _ hf⟩
  exact ⟨z, us, 0, r, Heap.get?_push_size _ rfl⟩
end

/-! ### what a def promises -/
/-- a def's promise: the bound arguments in the parameters' order, the heap, the wanted end, the wanted exception -/
noncomputable abbrev Sp := List V → Hp → VK → XK → Prop
/-- how an exception lies behind a call (file 08 gives it): the callers' frames, abstract heap and state ahead of the call, the wish, the exception, the state -/
noncomputable abbrev CXT := List Env → Hp → Shared → XK → Value → Shared → Prop

/-- the state at a call -/
structure Env0 (P : Program) (w : World) (K : PySem.W.Frag) (mg : Str → Option Value) (base : Heap) (A : Around) (outer : List Env) (s : Shared) (H : Hp) : Prop where
  frames : A.frames = some outer
  mod : Mod K mg base
  bs : ∀ b o, base.get? b = some o → s.heap.get? b = some o ∧ H b = none
  bsz : base.objs.size ≤ s.heap.objs.size
  funs : s.heap.FunFrames base outer
  frf : ∀ b ∈ frs outer, H b = none
  hok : HOk P w H s.heap
  bare : AllBare s.gens
/-- a call's end -/
noncomputable def CE (outer : List Env) (P : Program) (w : World) (H : Hp) (s : Shared) (Q : VK) (u : Value) (s' : Shared) : Prop :=
  Ex2 fun v H' => s'.os = s.os ∧ AllBare s'.gens ∧ Un (frs outer) [] H H' s.heap s'.heap ∧ HOk P w H' s'.heap ∧ RelV v u ∧ Q v H'
noncomputable def CR (CX : CXT) (outer : List Env) (P : Program) (w : World) (H : Hp) (s : Shared) (Q : VK) (E : XK) (r : Result) (s' : Shared) : Prop :=
  match r with
  | .ok (.ret u) => CE outer P w H s Q u s'
  | .ok _ => False
  | .error e => CX outer H s E e s'
structure FnOk (P : Program) (w : World) (K : PySem.W.Frag) (mg : Str → Option Value) (base : Heap) (CX : CXT) (k : Nat) (f : Addr) (fd : FuncData) (ps : List Str) (sp : Sp) : Prop where
  len : ∀ vs H Q E, sp vs H Q E → vs.length = ps.length
  run : ∀ (A : Around) (outer : List Env) (s : Shared) (H : Hp) (args : Args) (us : List Value) (vs : List V) (Q : VK) (E : XK), Room k A → Env0 P w K mg base A outer s H → BindsTo s fd args (ps.zip us) → Vals vs us → sp vs H Q E →
    codeAny (model P w) A (.call (.ref f) args) (CR CX outer P w H s Q E) s
theorem FnOk.mono {P : Program} {w : World} {K : PySem.W.Frag} {mg : Str → Option Value} {base : Heap} {CX : CXT} {j k : Nat} {f : Addr} {fd : FuncData} {ps : List Str} {sp : Sp} (F : FnOk P w K mg base CX j f fd ps sp) (h : j ≤ k) :
    FnOk P w K mg base CX k f fd ps sp := ⟨F.len, fun A outer s H args us vs Q E hr => F.run A outer s H args us vs Q E (hr.mono h)⟩
/-- a weaker promise -/
theorem FnOk.imp {P : Program} {w : World} {K : PySem.W.Frag} {mg : Str → Option Value} {base : Heap} {CX : CXT} {k : Nat} {f : Addr} {fd : FuncData} {ps : List Str} {sp sp' : Sp} (F : FnOk P w K mg base CX k f fd ps sp)
    (h : ∀ vs H Q E, sp' vs H Q E → sp vs H Q E) : FnOk P w K mg base CX k f fd ps sp' :=
  ⟨fun vs H Q E q => F.len vs H Q E (h _ _ _ _ q), fun A outer s H args us vs Q E hr he hb hv hs => F.run A outer s H args us vs Q E hr he hb hv (h _ _ _ _ hs)⟩

theorem Env0.make {P : Program} {w : World} {K : PySem.W.Frag} {mg : Str → Option Value} {base : Heap} {A : Around} {outer : List Env} {s : Shared} {H : Hp} (e : Env0 P w K mg base A outer s H) (C : Addr) (us : List Value) (kw : List (Str × Value)) :
    Env0 P w K mg base (A.under (.builtin "type.__call__" ⟨.ref C :: us, kw⟩)) outer s H := ⟨by first | exact e.frames | (simpa [Around.under, Code.envs, Code.isFrame, pushEnvs] using e.frames), e.mod, e.bs, e.bsz, e.funs, e.frf, e.hok, e.bare⟩
section
variable {X : Cx} {pins : List (Addr × Obj)} {σ : St} {H : Hp} {s s' : Shared}
/-- from a body: what a callee wants -/
theorem Inv.env0 (I : Inv X pins σ H s) : Env0 X.prog X.w X.K X.mg X.base X.A X.stack s H :=
  ⟨I.ok.frames, I.ok.mod, I.bs, Nat.le_trans I.ok.bsz I.sz, I.stack, I.stkFree, I.hok, I.bare⟩
/-- behind a call -/
theorem Inv.after {Q : VK} {u : Value} (I : Inv X pins σ H s) (h : CE X.stack X.prog X.w H s Q u s') : EP X pins σ Q u s' := by
  obtain ⟨v, H', os, bare, un, hok, r, q⟩ := h
  obtain ⟨hh, g, d, t, os'⟩ := s'
  obtain rfl : os' = s.os := os
  exact ⟨v, H', I.call (h' := hh) (g' := g) (d' := d) (t' := t) (ch := []) un hok bare (fun b z => absurd z (by simp)), r, q⟩
end

/-! ### calls -/
/-- f(..): the written arguments, then the defaults dvs; E: what is wanted of an exception -/
noncomputable def tCall (sp : Sp) (dvs : List V) (E : XK) (t : TA) : TE := fun σ H Q => t σ H fun vs H1 => sp (vs ++ dvs) H1 Q E
/-- how the parameters are bound: us the positional arguments, kw the keywords' values by name, ds the defaults that fill up -/
noncomputable def Binds (K : PySem.W.Frag) (fd : FuncData) (ps : List Str) (ds : List Value) : Prop :=
  ∀ (s : Shared) (us : List Value), K.In s.heap → (us ++ ds).length = ps.length → BindsTo s fd ⟨us, []⟩ (ps.zip (us ++ ds))
/-- every parameter is given -/
theorem Binds.all {K : PySem.W.Frag} {fd : FuncData} {ps : List Str} (h : ∀ us : List Value, us.length = ps.length → bindArgs fd ⟨us, []⟩ = pure (ps.zip us)) : Binds K fd ps [] := fun s us _ hl => by
  rw [List.append_nil] at hl ⊢
  exact .of_eq (h us hl)

/-- an exception of a callee reaches what this body wants of exceptions -/
noncomputable def Passes (CX : CXT) (X : Cx) (E : XK) : Prop := ∀ (pins : List (Addr × Obj)) (σ : St) (H : Hp) (s : Shared) (e : Value) (s' : Shared), Inv X pins σ H s → CX X.stack H s E e s' → X.xe e s'

section
variable {X : Cx} {CX : CXT} {k : Nat} {f C : Addr} {fd : FuncData} {ps : List Str} {sp : Sp} {dvs : List V} {ds : List Value} {E : XK} {x m : Str} {p pos apos : Pos} {e o : Expr} {es : List Expr} {ta : TE} {t : TA}

/-- the callee runs -/
theorem run_fn {pins : List (Addr × Obj)} {σ : St} {H : Hp} {s : Shared} {Q : VK} {us : List Value} {vs : List V} (F : FnOk X.prog X.w X.K X.mg X.base CX k f fd ps sp) (hr : Room k X.A) (hb : Binds X.K fd ps ds) (hd : Vals dvs ds) (hx : Passes CX X E)
    (I : Inv X pins σ H s) (r : Vals vs us) (h : sp (vs ++ dvs) H Q E) : wpAny (model X.prog X.w) X.A (call (.ref f) us) (EP X pins σ Q) X.xe s := by
  have r2 : Vals (vs ++ dvs) (us ++ ds) := r.append hd
  have hl : (us ++ ds).length = ps.length := by rw [← r2.length]; exact F.len _ _ _ _ h
  refine wpAny_call (codeAny_mono (F.run X.A X.stack s H ⟨us, []⟩ (us ++ ds) (vs ++ dvs) Q E hr I.env0 (hb s us I.kIn hl) r2 h) fun r s' hq => ?_)
  cases r with
  | error e => exact hx pins σ H s e s' I hq
  | ok fl =>
    cases fl with
    | ret u => exact I.after hq
    | next => exact False.elim hq
    | brk => exact False.elim hq
    | cont => exact False.elim hq

theorem pe_call (F : FnOk X.prog X.w X.K X.mg X.base CX k f fd ps sp) (hr : Room k X.A) (hg : Gl X x) (hm : X.mg x = some (.ref f)) (hk : PySem.W.keepIn X.K (.ref f) = true) (hb : Binds X.K fd ps ds) (hd : Vals dvs ds) (hx : Passes CX X E)
    (ha : PA X (e :: es) t) (hdb : (x == ("__debug__" : Str)) = false := by decide) (he : starEach (e :: es) X.env = (false, eval e X.env) :: starEach es X.env := by rfl) (hpl : (backTo pos (starEach es X.env)).any (·.1) = false := by rfl) :
    PE X (.Call (.Name x p) (e :: es) [] pos) (tCall sp dvs E t) := by
  intro pins s σ H Q I h
  refine wpAny_Call_Name_kw (ld_glob I hg hm ?_ hdb)
  refine PySem.W.callWith_K (h₀ := X.base) I.ok.mod.kin hk (thn (ha s σ H _ I h) fun us s1 ⟨vs, H1, I1, r, q⟩ => ⟨I1.kIn, ?_⟩) he hpl
  exact run_fn F hr hb hd hx I1 r q
end

/-! ### keywords -/
section
variable {X : Cx} {CX : CXT} {k : Nat} {f C : Addr} {fd : FuncData} {ps ks : List Str} {sp : Sp} {E : XK} {x m : Str} {p pos apos kpos : Pos} {e o : Expr} {es : List Expr} {kws : List Keyword} {te ta : TE} {t tk : TA} {nm : Option Str}
variable {g : List Value → List Value → List Value} {gV : List V → List V → List V}
end

/-! ### a def's body keeps its promise -/
/-- names: the parameters first -/
structure FnScope (N P : List Str) (sc : Scope) : Prop where
  kind : sc.kind = .function
  co : sc.isCoroutine = false
  gen : sc.isGenerator = false
  nd : N.Nodup
  pre : N.take P.length = P
  par : ∀ x ∈ P, sc.names.lookup x = some .local ∨ sc.names.lookup x = some .cell
  nofree : ∀ y ∈ sc.names, y.2 ≠ .free

theorem bindL_out {kindOf : Str → Option NameKind} {x : Str} : ∀ {binds : List (Str × Value)} {m : Str → Option Value}, (∀ v, (x, v) ∉ binds) → bindL kindOf binds m x = m x
  | [], _, _ => rfl
  | (n, v) :: r, m, h => by
    unfold bindL
    rw [bindL_out fun w hw => h w (List.mem_cons_of_mem _ hw)]
    split
    · have : x ≠ n := by rintro rfl; exact h v List.mem_cons_self
      simp [this]
    · rfl
theorem bindC_out {kindOf : Str → Option NameKind} {x : Str} : ∀ {binds : List (Str × Value)} {m : Str → Option Value}, (∀ v, (x, v) ∉ binds) → bindC kindOf binds m x = m x
  | [], _, _ => rfl
  | (n, v) :: r, m, h => by
    unfold bindC
    rw [bindC_out fun w hw => h w (List.mem_cons_of_mem _ hw)]
    split
    · rfl
    · have : x ≠ n := by rintro rfl; exact h v List.mem_cons_self
      simp [this]
theorem bindL_get {kindOf : Str → Option NameKind} {x : Str} {v : Value} : ∀ {P : List Str} {vs : List Value} {i : Nat} {m : Str → Option Value}, P.Nodup → P[i]? = some x → vs[i]? = some v → kindOf x = some .local →
    bindL kindOf (P.zip vs) m x = some v
  | [], _, _, _, _, h, _, _ => by simp at h
  | _ :: _, [], _, _, _, _, h, _ => by simp at h
  | p :: P, w :: vs, 0, m, nd, h1, h2, hk => by
    simp at h1 h2; subst h1; subst h2
    show bindL kindOf ((p, w) :: P.zip vs) m p = _
    unfold bindL
    rw [bindL_out fun v hv => (List.nodup_cons.mp nd).1 (List.of_mem_zip hv).1, if_pos hk]
    simp
  | p :: P, w :: vs, i + 1, m, nd, h1, h2, hk => by
    show bindL kindOf ((p, w) :: P.zip vs) m x = _
    unfold bindL
    exact bindL_get (i := i) (List.nodup_cons.mp nd).2 (by simpa using h1) (by simpa using h2) hk
theorem bindC_get {kindOf : Str → Option NameKind} {x : Str} {v : Value} : ∀ {P : List Str} {vs : List Value} {i : Nat} {m : Str → Option Value}, P.Nodup → P[i]? = some x → vs[i]? = some v → kindOf x ≠ some .local →
    bindC kindOf (P.zip vs) m x = some v
  | [], _, _, _, _, h, _, _ => by simp at h
  | _ :: _, [], _, _, _, _, h, _ => by simp at h
  | p :: P, w :: vs, 0, m, nd, h1, h2, hk => by
    simp at h1 h2; subst h1; subst h2
    show bindC kindOf ((p, w) :: P.zip vs) m p = _
    unfold bindC
    rw [bindC_out fun v hv => (List.nodup_cons.mp nd).1 (List.of_mem_zip hv).1, if_neg hk]
    simp
  | p :: P, w :: vs, i + 1, m, nd, h1, h2, hk => by
    show bindC kindOf ((p, w) :: P.zip vs) m x = _
    unfold bindC
    exact bindC_get (i := i) (List.nodup_cons.mp nd).2 (by simpa using h1) (by simpa using h2) hk

/-- the names' values at the entry -/
noncomputable def start (N : List Str) (vs : List V) : St := vs.map some ++ List.replicate (N.length - vs.length) none

/-- the context of a def's body, at its entry; an exception leaves the frame, then lies as CX says -/
noncomputable def cxOf (CX : CXT) (P : Program) (w : World) (K : PySem.W.Frag) (mg : Str → Option Value) (base : Heap) (N : List Str) (qual : Str) (scope : Scope) (f : Addr) (cd : Value) (A : Around) (outer : List Env) (s : Shared) (H : Hp) (E : XK) : Cx where
  prog := P
  w := w
  K := K
  mg := mg
  base := base
  A := A.deeper (envOfC qual scope s.heap.objs.size f cd)
  N := N
  s₀ := s
  H₀ := H
  env := envOfC qual scope s.heap.objs.size f cd
  outer := outer
  stack := envOfC qual scope s.heap.objs.size f cd :: outer
  ex := []
  calm := true
  fn := fun _ => true
  pn := []
  xe := fun e s' => wpAny (model P w) (A.deeper (envOfC qual scope s.heap.objs.size f cd)) (leaving (envOfC qual scope s.heap.objs.size f cd) e) (fun _ s'' => CX outer H s E e s'') (fun e' s'' => CX outer H s E e' s'') s'

theorem cell_has {sc : Scope} {n : Nat} {x : Str} (h : sc.names.lookup x = some .cell) : ∃ c, (cellsFrom n sc.names []).lookup x = some c := by
  have q := PySem.W.cellsFrom_some sc.names n [] (.inl h)
  exact Option.isSome_iff_exists.mp q

theorem inv_start {CX : CXT} {P : Program} {w : World} {K : PySem.W.Frag} {mg : Str → Option Value} {base : Heap} {N ps : List Str} {qual : Str} {scope : Scope} {f : Addr} {cd : Value} {A : Around} {outer : List Env} {s s1 : Shared} {H : Hp} {E : XK} {us : List Value} {vs : List V}
    (S : FnScope N ps scope) (hd : A.handled = none) (e0 : Env0 P w K mg base A outer s H) (hl : vs.length = ps.length) (r : Vals vs us)
    (x : InCallC s s.heap.objs.size (bindL (envOfC qual scope s.heap.objs.size f cd).kindOf (ps.zip us) fun _ => none) (cellsFrom (s.heap.objs.size + 1) scope.names []) (bindC (envOfC qual scope s.heap.objs.size f cd).kindOf (ps.zip us) fun _ => none) s1) :
    Inv (cxOf CX P w K mg base N qual scope f cd A outer s H E) [] (start N vs) H s1 := by
  have hpl : ps.length ≤ N.length := by have := congrArg List.length S.pre; rw [List.length_take] at this; (first | lia | omega)
  obtain ⟨h1, tk, rfl, hk⟩ := x.done
  have noA : ∀ b : Addr, b ∉ (cxOf CX P w K mg base N qual scope f cd A outer s H E).ex := fun b z => absurd (show b ∈ ([] : List Addr) from z) (by simp)
  refine ⟨⟨e0.mod, S.kind, rfl, rfl, Nat.le_refl _, fun y z c h1 h2 => ?_, fun y hy => ?_, fun y c _ h => ?_, fun _ => hd, Around.frames_deeper e0.frames, .inr ⟨rfl, rfl⟩, fun b z => absurd z (noA b), e0.bs, e0.bsz, fun b _ _ => noA b, fun b z => absurd z (noA b), e0.funs, e0.frf⟩,
    rfl, e0.bare, Un.kept hk, ⟨_, x.toInCall.ns, fun i y v h1 h2 h3 => ?_⟩, fun y c h => ⟨_, x.cell y c h⟩, e0.hok.fresh (Nat.le_refl _), fun y c h => ?_, fun p hp => absurd (show p ∈ ([] : List (Addr × Obj)) from hp) (by simp), e0.hok.kept hk, ?_⟩
  · exact name_of_addr x.apart (PySem.mem_of_lookup h1) (PySem.mem_of_lookup h2)
  · have hy : scope.names.lookup y = some .cell ∨ scope.names.lookup y = some .free := hy
    rcases hy with hy | hy
    · exact cell_has hy
    · exact absurd rfl (S.nofree _ (PySem.mem_of_lookup hy))
  · exact Nat.le_of_lt (x.above y c (PySem.mem_of_lookup h))
  · have hi : i < vs.length := by
      unfold start at h2
      by_cases hi : i < vs.length
      · exact hi
      · rw [List.getElem?_append_right (by simpa using hi)] at h2
        rw [List.getElem?_replicate] at h2
        split at h2 <;> cases h2
    have ha : vs[i]? = some v := by
      unfold start at h2
      rw [List.getElem?_append_left (by simpa using hi), List.getElem?_map] at h2
      cases e : vs[i]? with
      | none => rw [e] at h2; cases h2
      | some a => rw [e] at h2; cases h2; rfl
    obtain ⟨u, hu, rv⟩ := r.get ha
    have hp : ps[i]? = some y := by
      rw [← S.pre, List.getElem?_take_of_lt (by (first | lia | omega))]; exact h1
    have ndP : ps.Nodup := by rw [← S.pre]; exact S.nd.sublist (List.take_sublist _ _)
    refine ⟨u, rv, ?_⟩
    rcases S.par y (List.mem_of_getElem? hp) with k | k
    · exact .inl ⟨k, bindL_get ndP hp hu k⟩
    · obtain ⟨c, e⟩ := cell_has (n := s.heap.objs.size + 1) k
      refine .inr ⟨.inl k, c, e, ?_⟩
      have q := x.cell y c e
      rw [bindC_get ndP hp hu (by show scope.names.lookup y ≠ _; rw [k]; decide)] at q
      exact q
  · exact e0.hok.fresh (Nat.le_of_lt (x.above y c (PySem.mem_of_lookup h)))
  · unfold start
    show _ = N.length
    rw [List.length_append, List.length_map, List.length_replicate]
    (first | lia | omega)

/-- THE RULE: a def (or a method) of the text, by its body. The body's reading t is chosen for each entry; it is run at the parameters' values -/
theorem fn_of {CX : CXT} {P : Program} {w : World} {K : PySem.W.Frag} {mg : Str → Option Value} {base : Heap} {k : Nat} {f : Addr} {name qual : Str} {params : Arguments} {body : List Stmt} {scope : Scope} {dV kV doc pm cdv ct oc : Value} {an od : Option Addr}
    {osl : Array (Option Value)} {N ps : List Str} {sp : Sp} (lk : K.lookup f = some ⟨oc, od, .func (PySem.W.fnOf name qual params body scope dV kV doc pm an cdv ct), osl⟩) (hcd : PySem.W.codeIn K cdv qual = true) (S : FnScope N ps scope)
    (len : ∀ vs H Q E, sp vs H Q E → vs.length = ps.length)
    (hbody : ∀ (A : Around) (outer : List Env) (s : Shared) (H : Hp) (vs : List V) (Q : VK) (E : XK), Room k (A.deeper (envOfC qual scope s.heap.objs.size f cdv)) → sp vs H Q E →
      ∃ t, PSs (cxOf CX P w K mg base N qual scope f cdv A outer s H E) body t ∧ t { nx := fun _ H' => Q .non H', rt := Q } (start N vs) H) :
    FnOk P w K mg base CX (k + 1) f (PySem.W.fnOf name qual params body scope dV kV doc pm an cdv ct) ps sp := by
  refine ⟨len, fun A outer s H args us vs Q E hr e0 hb r hsp => ?_⟩
  have hl := len _ _ _ _ hsp
  have KX : K.In s.heap := e0.mod.kin.keeps fun b o e => (e0.bs b o e).1
  have lim : s.heap.NoLimit := e0.mod.nolimit.keeps fun b o e => (e0.bs b o e).1
  have hkind : ∀ y ∈ ps.zip us, scope.names.lookup y.1 = some .local ∨ (scope.names.lookup y.1 = some .cell ∧ ((cellsFrom (s.heap.objs.size + 1) scope.names []).lookup y.1).isSome = true) := fun ⟨n, v⟩ hy => by
    rcases S.par n (List.of_mem_zip hy).1 with q | q
    · exact .inl q
    · exact .inr ⟨q, PySem.W.cellsFrom_some _ _ _ (.inl q)⟩
  refine codeAny_call_function hr.depth (KX _ _ lk) rfl S.co S.gen rfl (PySem.W.codeRec_of KX hcd) (hb _ _ _ _ ?_)
  refine wpAny_newFunctionEnv_cells S.kind hkind fun env he s1 x => ?_
  subst he
  refine ⟨lim.keeps x.toInCall.keep, codeAny_func ?_⟩
  obtain ⟨t, ht, hq⟩ := hbody A outer s H vs Q E (hr.deeper _) hsp
  have I : Inv (cxOf CX P w K mg base N qual scope f cdv A outer s H E) [] (start N vs) H s1 := inv_start S hr.hd e0 hl r x
  refine wpAny_mono (ht s1 (start N vs) H _ I hq) (fun fl s' hs => ?_) fun e s' hs => hs
  have fin : ∀ {σ' : St} {H' : Hp} {v : V} {u : Value}, Inv (cxOf CX P w K mg base N qual scope f cdv A outer s H E) [] σ' H' s' → RelV v u → Q v H' → CE outer P w H s Q u s' :=
    fun {σ' H' v u} J rv q => ⟨v, H', J.os, J.bare, J.base, J.hok, rv, q⟩
  cases fl with
  | ret u =>
    obtain ⟨v, σ', H', J, rv, q⟩ := hs
    exact fin J rv q
  | next =>
    obtain ⟨σ', H', J, q⟩ := hs
    exact fin (v := V.non) (u := Value.none) J rfl q
  | brk =>
    obtain ⟨_, _, _, q⟩ := hs
    exact False.elim q
  | cont =>
    obtain ⟨_, _, _, q⟩ := hs
    exact False.elim q
end L2

namespace L2
open PySem PySem.Spec PyProof.Rows
section
variable {X : Cx} {x : Str} {p pos : Pos} {e : Expr} {es : List Expr} {t : TA} {id T : String} {r : List V → Hp → VK → Prop}

noncomputable def tCB (r : List V → Hp → VK → Prop) (t : TA) : TE := fun σ H Q => t σ H fun vs H1 => r vs H1 Q
/-- f(e, ..), f a built-in function -/
theorem pe_callB (hc : CallR X (.builtin id) r) (hg : Gl X x) (hm : X.mg x = none) (hv : bootBuiltins x = some (.builtin id)) (ha : PA X (e :: es) t) (hn : x ≠ "__name__" := by decide) (hdb : (x == ("__debug__" : Str)) = false := by decide)
    (he : starEach (e :: es) X.env = (false, eval e X.env) :: starEach es X.env := by rfl) (hpl : (backTo pos (starEach es X.env)).any (·.1) = false := by rfl) : PE X (.Call (.Name x p) (e :: es) [] pos) (tCB r t) := by
  intro pins s σ H Q I h
  refine wpAny_Call_Name_kw (ld_blt I hg hm hv ?_ hn hdb)
  exact PyProof.Rows.callWith_builtin1 (thn (ha s σ H _ I h) fun us s1 ⟨vs, H1, I1, r1, q1⟩ => hc s1 σ H1 vs us Q I1 r1 q1) he hpl
/-- T(e, ..), T a built-in type -/
theorem pe_callTy (hc : CallR X (.type T) r) (hg : Gl X x) (hm : X.mg x = none) (hv : bootBuiltins x = some (.type T)) (ha : PA X (e :: es) t) (hn : x ≠ "__name__" := by decide) (hdb : (x == ("__debug__" : Str)) = false := by decide)
    (he : starEach (e :: es) X.env = (false, eval e X.env) :: starEach es X.env := by rfl) (hpl : (backTo pos (starEach es X.env)).any (·.1) = false := by rfl) : PE X (.Call (.Name x p) (e :: es) [] pos) (tCB r t) := by
  intro pins s σ H Q I h
  refine wpAny_Call_Name_kw (ld_blt I hg hm hv ?_ hn hdb)
  exact PyProof.Rows.callWith_type1 (thn (ha s σ H _ I h) fun us s1 ⟨vs, H1, I1, r1, q1⟩ => hc s1 σ H1 vs us Q I1 r1 q1) he hpl
end
end L2

namespace L2
open PySem PySem.Spec PyProof.Rows

/-! ### lists of pairs as tables -/
section
variable {κ : Type} [DecidableEq κ]
noncomputable def valV (kvs : List (κ × V)) (k : κ) : Option V := (kvs.find? fun kv => decide (kv.1 = k)).map (·.2)
/-- in its place, or at the end -/
noncomputable def putK (kvs : List (κ × V)) (k : κ) (v : V) : List (κ × V) :=
  if (kvs.any fun kv => decide (kv.1 = k)) = true then kvs.map (fun kv => if kv.1 = k then (kv.1, v) else kv) else kvs ++ [(k, v)]
theorem valV_pos {p : κ × V} {r : List (κ × V)} {k : κ} (e : p.1 = k) : valV (p :: r) k = some p.2 := by simp [valV, List.find?_cons, e]
theorem valV_neg {p : κ × V} {r : List (κ × V)} {k : κ} (e : ¬ p.1 = k) : valV (p :: r) k = valV r k := by simp [valV, List.find?_cons, e]
theorem valV_any (k : κ) : ∀ kvs : List (κ × V), (kvs.any fun kv => decide (kv.1 = k)) = (valV kvs k).isSome
  | [] => rfl
  | p :: r => by
    rw [List.any_cons]
    by_cases e : p.1 = k
    · simp only [valV_pos e, decide_eq_true e, Bool.true_or, Option.isSome_some]
    · rw [valV_neg e, decide_eq_false e, Bool.false_or]; exact valV_any k r
theorem length_putK (kvs : List (κ × V)) (k : κ) (v : V) : (putK kvs k v).length ≤ kvs.length + 1 := by
  unfold putK
  split
  · rw [List.length_map]; (first | lia | omega)
  · rw [List.length_append, List.length_cons, List.length_nil]; (first | lia | omega)
theorem RelO.isSome_eq {o : Option V} {u : Option Value} (r : RelO o u) : o.isSome = u.isSome := by
  cases o with
  | none => cases u with
    | none => rfl
    | some _ => exact (show False from r).elim
  | some _ => cases u with
    | none => exact (show False from r).elim
    | some _ => rfl
/-- raw tables of the same keys -/
theorem KV.val {kvs : List (κ × V)} {vs : List (κ × Value)} (r : KV kvs vs) (k : κ) : RelO (valV kvs k) (valueAt vs k) := by
  unfold KV at r
  induction r with
  | nil => exact True.intro
  | @cons p q ps qs h t ih =>
    obtain ⟨h1, h2⟩ := h
    by_cases e : p.1 = k
    · have e' : q.1 = k := h1.symm.trans e
      have b : valueAt (q :: qs) k = some q.2 := by simp [valueAt, List.find?_cons, e']
      rw [valV_pos e, b]; exact h2
    · have e' : ¬ q.1 = k := fun z => e (h1.trans z)
      have b : valueAt (q :: qs) k = valueAt qs k := by simp [valueAt, List.find?_cons, e']
      rw [valV_neg e, b]; exact ih
theorem KV.any {kvs : List (κ × V)} {vs : List (κ × Value)} (r : KV kvs vs) (k : κ) : (kvs.any fun kv => decide (kv.1 = k)) = vs.any fun kv => decide (kv.1 = k) := by
  unfold KV at r
  induction r with
  | nil => rfl
  | cons h t ih => rw [List.any_cons, List.any_cons, ih, h.1]
theorem KV.repl {kvs : List (κ × V)} {vs : List (κ × Value)} (r : KV kvs vs) (k : κ) {y : V} {u : Value} (ry : RelV y u) :
    KV (kvs.map fun kv => if kv.1 = k then (kv.1, y) else kv) (vs.map fun kv => if kv.1 = k then (kv.1, u) else kv) := by
  unfold KV at r ⊢
  induction r with
  | nil => exact .nil
  | @cons p q ps qs h t ih =>
    rw [List.map_cons, List.map_cons]
    refine .cons ?_ ih
    obtain ⟨h1, h2⟩ := h
    by_cases e : p.1 = k
    · rw [if_pos e, if_pos (h1.symm.trans e)]; exact ⟨h1, ry⟩
    · rw [if_neg e, if_neg (fun z => e (h1.trans z))]; exact ⟨h1, h2⟩
theorem KV.put {kvs : List (κ × V)} {vs : List (κ × Value)} (r : KV kvs vs) (k : κ) {y : V} {u : Value} (ry : RelV y u) : KV (putK kvs k y) (stored vs k u) := by
  unfold putK stored
  rw [r.any k]
  by_cases e : (vs.any fun kv => decide (kv.1 = k)) = true
  · rw [if_pos e, if_pos e]; exact r.repl k ry
  · rw [if_neg e, if_neg e]; exact Paired.snoc r ⟨rfl, ry⟩
theorem KV.length {kvs : List (κ × V)} {vs : List (κ × Value)} (r : KV kvs vs) : kvs.length = vs.length := Paired.length r
end


/-! ### a tracked dict, its keys ints and texts or tuples of these -/
theorem kV_is {P : Program} {w : World} {k : Key} {u : Value} (r : RelV (kV k) u) : (mixKind P w).is k u = true := by
  cases k with
  | inl i => obtain ⟨t, e⟩ := (show ∃ t, u = Value.int i t from r); subst e; exact mixKind_int P w i t
  | inr x => obtain ⟨t, e⟩ := (show ∃ t, u = Value.str x t from r); subst e; exact mixKind_str P w x t
theorem items_are {P : Program} {w : World} : ∀ {ks : List Key} {us : List Value}, Vals (ks.map kV) us → ItemsAre (mixKind P w) ks us
  | [], _, r => by rw [List.map_nil] at r; cases r; exact .nil
  | k :: ks, _, r => by
    rw [List.map_cons] at r
    cases r with
    | cons h t => exact .cons (kV_is h) (items_are t)

/-- raw entries of a dict with tuple keys -/
noncomputable abbrev KT (H : Hp) : List (List Key × V) → List (List Key × Addr × Value) → Prop := Paired fun p q => p.1 = q.1 ∧ H q.2.1 = some (.tup (p.1.map kV)) ∧ RelV p.2 q.2.2
theorem KT.val {H : Hp} {kvs : List (List Key × V)} {xs : List (List Key × Addr × Value)} (r : KT H kvs xs) (k : List Key) : RelO (valV kvs k) ((atKey xs k).map (·.2)) := by
  induction r with
  | nil => exact True.intro
  | @cons p q ps qs h t ih =>
    obtain ⟨h1, _, h2⟩ := h
    by_cases e : p.1 = k
    · have e' : q.1 = k := h1.symm.trans e
      have b : atKey (q :: qs) k = some q.2 := by simp [atKey, List.find?_cons, e']
      rw [valV_pos e, b]; exact h2
    · have e' : ¬ q.1 = k := fun z => e (h1.trans z)
      have b : atKey (q :: qs) k = atKey qs k := by simp [atKey, List.find?_cons, e']
      rw [valV_neg e, b]; exact ih
theorem KT.repl {H : Hp} {kvs : List (List Key × V)} {xs : List (List Key × Addr × Value)} (r : KT H kvs xs) (k : List Key) {y : V} {u : Value} (ry : RelV y u) :
    KT H (kvs.map fun kv => if kv.1 = k then (kv.1, y) else kv) (xs.map (putAt k u)) := by
  induction r with
  | nil => exact .nil
  | @cons p q ps qs h t ih =>
    rw [List.map_cons, List.map_cons]
    refine .cons ?_ ih
    obtain ⟨h1, h2, h3⟩ := h
    unfold putAt
    by_cases e : p.1 = k
    · rw [if_pos e, if_pos (h1.symm.trans e)]; exact ⟨h1, h2, ry⟩
    · rw [if_neg e, if_neg (fun z => e (h1.trans z))]; exact ⟨h1, h2, h3⟩
theorem KT.put {H : Hp} {kvs : List (List Key × V)} {xs : List (List Key × Addr × Value)} (r : KT H kvs xs) (k : List Key) {b : Addr} {y : V} {u : Value} (hb : H b = some (.tup (k.map kV))) (ry : RelV y u) :
    KT H (putK kvs k y) (storedH xs k b u) := by
  have e : (kvs.any fun kv => decide (kv.1 = k)) = (atKey xs k).isSome := by
    rw [valV_any, (r.val k).isSome_eq, Option.isSome_map]
  unfold putK storedH
  rw [e]
  by_cases q : (atKey xs k).isSome = true
  · rw [if_pos q, if_pos q]; exact r.repl k ry
  · rw [if_neg q, if_neg q]; exact Paired.snoc r ⟨rfl, hb, ry⟩
theorem KT.keeps {H H' : Hp} {kvs : List (List Key × V)} {xs : List (List Key × Addr × Value)} (r : KT H kvs xs) (ht : ∀ b ys, H b = some (.tup ys) → H' b = some (.tup ys)) : KT H' kvs xs :=
  Paired.mapP r fun _ _ z => ⟨z.1, ht _ _ z.2.1, z.2.2⟩

section
variable {P : Program} {w : World} {H : Hp} {h : Heap} {a : Addr}
theorem rd_of {u : HO} (ok : HOk P w H h) (e : Rd H a u) : ObjOk P w H h a u := e.ok ok
theorem dk_rd {kvs : List (Key × V)} (ok : HOk P w H h) (e : Rd H a (.dK kvs)) : kvs.length ≤ sizeLine ∧ (a == sysModules) = false ∧ ∃ vs, KV kvs vs ∧ h.DictOf (mixKind P w) a vs :=
  show ObjOk P w H h a (.dK kvs) from rd_of ok e
theorem dk_of {kvs : List (Key × V)} (ok : HOk P w H h) (e : H a = some (.dK kvs)) : kvs.length ≤ sizeLine ∧ (a == sysModules) = false ∧ ∃ vs, KV kvs vs ∧ h.DictOf (mixKind P w) a vs := dk_rd ok (.inl e)
/-- a tracked tuple of ints and texts is a key -/
theorem key_of {ks : List Key} (ok : HOk P w H h) (e : H a = some (.tup (ks.map kV))) : (tupleKind (mixKind P w)).is h ks a := by
  obtain ⟨_, its, r, o, h1, h2, n, h3⟩ := (show ObjOk P w H h a (.tup (ks.map kV)) from ok a _ e)
  exact ⟨o, its.toArray, n, h1, h2, h3, by simpa using items_are r⟩
theorem dt_rd {kvs : List (List Key × V)} (ok : HOk P w H h) (e : Rd H a (.dT kvs)) : kvs.length ≤ sizeLine ∧ (a == sysModules) = false ∧
    ∃ xs, KT H kvs xs ∧ h.DictOfH (tupleKind (mixKind P w)) a xs := by
  obtain ⟨z, y, xs, r, o, es, ep, h1, h2, h3, h4, h5⟩ := (show ObjOk P w H h a (.dT kvs) from rd_of ok e)
  refine ⟨z, y, xs, r, o, es, ep, h1, h2, h3, h4, fun x hx => ?_, h5⟩
  have all : ∀ {l : List (List Key × V)} {m : List (List Key × Addr × Value)}, KT H l m → ∀ x ∈ m, (tupleKind (mixKind P w)).is h x.1 x.2.1 := by
    intro l m q
    induction q with
    | nil => intro x hx; exact nomatch hx
    | @cons p q ps qs hq t ih =>
      intro x hx
      rcases List.mem_cons.mp hx with e | hx
      · subst e
        exact key_of ok (by rw [← hq.1]; exact hq.2.1)
      · exact ih x hx
  exact all r x hx
theorem dt_of {kvs : List (List Key × V)} (ok : HOk P w H h) (e : H a = some (.dT kvs)) : kvs.length ≤ sizeLine ∧ (a == sysModules) = false ∧
    ∃ xs, KT H kvs xs ∧ h.DictOfH (tupleKind (mixKind P w)) a xs := dt_rd ok (.inl e)
end

/-- what the dict at a holds at the key y -/
noncomputable def DGet (H : Hp) (a : Addr) (y : V) (r : Option V) : Prop :=
  (Ex2 fun kvs k => Rd H a (.dK kvs) ∧ y = kV k ∧ r = valV kvs k) ∨ Ex3 fun kvs k b => Rd H a (.dT kvs) ∧ y = .ref b ∧ H b = some (.tup (k.map kV)) ∧ r = valV kvs k
/-- the heap behind a[y] = v -/
noncomputable def DPut (H : Hp) (a : Addr) (y v : V) (H' : Hp) : Prop :=
  (Ex2 fun kvs k => H a = some (.dK kvs) ∧ y = kV k ∧ kvs.length < sizeLine ∧ H' = upd H a (.dK (putK kvs k v))) ∨
  Ex3 fun kvs k b => H a = some (.dT kvs) ∧ y = .ref b ∧ H b = some (.tup (k.map kV)) ∧ kvs.length < sizeLine ∧ H' = upd H a (.dT (putK kvs k v))
theorem DGet.k {H : Hp} {a : Addr} {kvs : List (Key × V)} {k : Key} (e : H a = some (.dK kvs)) : DGet H a (kV k) (valV kvs k) := .inl ⟨kvs, k, .inl e, rfl, rfl⟩
theorem DPut.k {H : Hp} {a : Addr} {kvs : List (Key × V)} {k : Key} {v : V} (e : H a = some (.dK kvs)) (hl : kvs.length < sizeLine) : DPut H a (kV k) v (upd H a (.dK (putK kvs k v))) := .inl ⟨kvs, k, e, rfl, hl, rfl⟩
section
variable {X : Cx} {pins : List (Addr × Obj)} {σ : St} {H : Hp} {s : Shared} {a : Addr} {y v : V} {u r : Value} {o : Option V} {A : Around} {E : Value → Shared → Prop}

theorem Inv.big (I : Inv X pins σ H s) : sysModules < s.heap.objs.size := by
  have h : mainGlobals < s.heap.objs.size := (I.mod.glob.keeps I.bk).lt
  exact Nat.lt_trans (by decide) h

/-- d[y], there -/
theorem d_getItem {Q : Value → Shared → Prop} (hu : A.units + 1 < cLine) (I : Inv X pins σ H s) (g : DGet H a y (some v)) (ry : RelV y u) (h : ∀ w' s', Inv X pins σ H s' → RelV v w' → Q w' s') :
    wpAny (model X.prog X.w) A (getItem (.ref a) u) Q E s := by
  rcases g with ⟨kvs, k, e, ey, l⟩ | ⟨kvs, k, b, e, ey, eb, l⟩
  · subst ey
    obtain ⟨z, hd, vs, rel, dd⟩ := dk_rd I.hok e
    obtain ⟨w', hw, rw'⟩ := RelO.some_of (v := v) (o := valueAt vs k) (by rw [l]; exact rel.val k)
    exact wpAny_getItem_of (kV_is ry) dd.mapOf hw (h w' _ (I.tok _) rw')
  · subst ey
    cases (show u = Value.ref b from ry)
    obtain ⟨z, hd, xs, rel, dd⟩ := dt_rd I.hok e
    obtain ⟨w', hw, rw'⟩ := RelO.some_of (v := v) (o := (atKey xs k).map (·.2)) (by rw [l]; exact rel.val k)
    obtain ⟨p, hp, hp2⟩ := Option.map_eq_some_iff.mp hw
    refine wpAny_getItem_heap (tupleKind_room_in1 hu) (key_of I.hok eb) dd hp ?_
    rw [hp2]
    exact h w' _ (I.tok _) rw'
/-- a dict's object is replaced -/
theorem d_write {h' : Heap} {t' : Nat} {ob : HO} (I : Inv X pins σ H s) (mu : Mut (H a)) (hs : Heap.SameBut a s.heap h') (he : ∃ q, h'.get? a = some q) (new : ObjOk X.prog X.w (upd H a ob) h' a ob) :
    Inv X pins σ (upd H a ob) { s with heap := h', toks := t' } :=
  I.write (x := a) (e := a) mu (.inl rfl) (fun b q hb z => (hs.2 b hb).trans z) he new
theorem dk_new {P : Program} {w : World} {H' : Hp} {h' : Heap} {kvs : List (Key × V)} {vs : List (Key × Value)} (z : kvs.length ≤ sizeLine) (hd : (a == sysModules) = false) (rel : KV kvs vs) (dd : h'.DictOf (mixKind P w) a vs) :
    ObjOk P w H' h' a (.dK kvs) := ⟨z, hd, vs, rel, dd⟩
/-- d[y] = v -/
theorem d_setItem {H' : Hp} {Q : Unit → Shared → Prop} (hu : A.units + 1 < cLine) (I : Inv X pins σ H s) (g : DPut H a y v H') (ry : RelV y u) (rv : RelV v r) (h : ∀ s', Inv X pins σ H' s' → Q () s') :
    wpAny (model X.prog X.w) A (setItem (.ref a) u r) Q E s := by
  rcases g with ⟨kvs, k, e, ey, l, eH⟩ | ⟨kvs, k, b, e, ey, eb, l, eH⟩
  · subst ey eH
    obtain ⟨z, hd, vs, rel, dd⟩ := dk_of I.hok e
    have hz : vs.length ≤ sizeLine := by rw [← rel.length]; exact z
    have hl : (putK kvs k v).length ≤ sizeLine := by have := length_putK kvs k v; (first | lia | omega)
    refine wpAny_setItem_pairs (hsz := hz) (kV_is ry) dd fun h' dd' hs => h _ ?_
    have he : ∃ q, h'.get? a = some q := let ⟨q, _, _, hq, _⟩ := dd'; ⟨q, hq⟩
    exact d_write I (by rw [e]; exact True.intro) hs he (dk_new hl hd (rel.put k rv) dd')
  · subst ey eH
    cases (show u = Value.ref b from ry)
    obtain ⟨z, hd, xs, rel, dd⟩ := dt_of I.hok e
    have hz : xs.length ≤ sizeLine := by rw [← Paired.length rel]; exact z
    have hl : (putK kvs k v).length ≤ sizeLine := by have := length_putK kvs k v; (first | lia | omega)
    refine wpAny_setItem_heap (hsz := hz) (tupleKind_room_in1 hu) (key_of I.hok eb) dd fun h' dd' hs => h _ ?_
    obtain ⟨q, es, ep, hq, h2, h3, h4, _, h5⟩ := dd'
    refine d_write I (by rw [e]; exact True.intro) hs ⟨q, hq⟩ ⟨hl, hd, _, (rel.put k eb rv).keeps fun c ys ec => ?_, q, es, ep, hq, h2, h3, h4, h5⟩
    rw [upd_ne (ne_of ec e (fun z => nomatch z))]
    exact ec
end

section
variable {X : Cx} {pins : List (Addr × Obj)} {σ : St} {H : Hp} {s : Shared} {a : Addr} {kvs : List (Key × V)} {k : Key} {u : Value} {A : Around} {E : Value → Shared → Prop}
end


/-! ### readings and rules -/
/-- the element of a subscription, not a slice -/
noncomputable def NoSl (i : Expr) : Prop := ∀ ov iv, subscripted i false ov iv = operate [ov, iv] (getItem ov iv)
theorem subD_of {prog : Program} {w : World} {A : Around} {E : Value → Shared → Prop} {s : Shared} {env : Env} {value slice : Expr} {pos : Pos} {T id : String} {Q : Value → Shared → Prop}
    (hl : typeLookup (.type T) "__getitem__" = pure (some (.builtin id))) (hs : NoSl slice)
    (h : wpAny (model prog w) A (eval value env) (fun o s₁ => wpAny (model prog w) A (eval slice env) (fun i s₂ => s₂.TypeIs o T ∧ wpAny (model prog w) A (getItem o i) Q E s₂) E s₁) E s) :
    wpAny (model prog w) A (eval (.Subscript value slice pos) env) Q E s := by
  refine Subscript_ (wpAny_mono h (fun o s₁ h₁ => wpAny_mono h₁ (fun i s₂ h₂ => ?_) fun _ _ x => x) fun _ _ x => x)
  obtain ⟨hT, h₂⟩ := h₂
  unfold subscriptTail
  refine wpAny_bind ?_
  rw [getitemInPython_of_ne hT.not_modules]
  refine wpAny_bind (wpAny_specialOf hT hl ?_)
  have fin : wpAny (model prog w) A (subscripted slice false o i) (fun r s₃ => wpAny (model prog w) A (letTemporaryGo value o r >>= fun _ => pure r) Q E s₃) E s₂ := by
    rw [hs o i]
    exact wpAny_operating (wpAny_mono h₂ (fun r s₃ h₃ => wpAny_bind (wpAny_letTemporaryGo (wpAny_pure h₃))) fun _ _ x => x)
  first
    | exact wpAny_pure (wpAny_bind fin)
    | exact wpAny_bind (wpAny_pure (wpAny_bind fin))
    | exact wpAny_bind fin

theorem dict_typeIs {X : Cx} {pins : List (Addr × Obj)} {σ : St} {H : Hp} {s : Shared} {a : Addr} {y : V} {o : Option V} (I : Inv X pins σ H s) (g : DGet H a y o) : s.TypeIs (.ref a) "dict" := by
  rcases g with ⟨kvs, k, e, _, _⟩ | ⟨kvs, k, b, e, _, _, _⟩
  · obtain ⟨_, _, vs, _, dd⟩ := dk_rd I.hok e
    exact dd.typeIs
  · obtain ⟨_, _, xs, _, dd⟩ := dt_rd I.hok e
    exact dd.typeIs
/-- d[y] -/
noncomputable def tDGet (td ty : TE) : TE := fun σ H Q => td σ H fun x H1 => ty σ H1 fun y H2 => Ex2 fun a v => x = .ref a ∧ DGet H2 a y (some v) ∧ Q v H2
/-- d[y] = v -/
noncomputable def sDPut (td ty tv : TE) : TS := fun D σ H => tv σ H fun v H1 => td σ H1 fun x H2 => ty σ H2 fun y H3 => Ex2 fun a H4 => x = .ref a ∧ DPut H3 a y v H4 ∧ D.nx σ H4
section
variable {X : Cx} {o i e value : Expr} {pos pos' tpos : Pos} {td ty tv : TE}
theorem pe_dget (hu : X.A.units + 1 < cLine) (ho : PE X o td) (hi : PE X i ty) (hs : NoSl i) : PE X (.Subscript o i pos) (tDGet td ty) := by
  intro pins s σ H Q I h
  refine subD_of PySem.F.slot_dict_getitem.lookup hs (thn (ho s σ H _ I h) fun u s1 ⟨x, H1, I1, rx, q1⟩ => thn (hi s1 σ H1 _ I1 q1) fun iv s2 ⟨y, H2, I2, ry, a, v, ex, g, q2⟩ => ?_)
  subst ex
  obtain rfl : u = Value.ref a := rx
  exact ⟨dict_typeIs I2 g, d_getItem hu I2 g ry fun w' s3 I3 rw' => ⟨v, H2, I3, rw', q2⟩⟩
theorem ps_dput (hu : X.A.units + 1 < cLine) (ho : PE X o td) (hi : PE X i ty) (hv : PE X value tv) (hs : swapsWith value (some (.Subscript o i pos')) pos.line X.env = pure false) :
    PS X (.Assign [.Subscript o i pos'] value pos) (sDPut td ty tv) := by
  intro pins s σ H D I h
  refine wpAny_Assign_Subscript (thn (hv s σ H _ I h) fun r s1 ⟨v, H1, I1, rv, q1⟩ => thn (ho s1 σ H1 _ I1 q1) fun u s2 ⟨x, H2, I2, rx, q2⟩ => thn (hi s2 σ H2 _ I2 q2) fun iv s3 ⟨y, H3, I3, ry, a, H4, ex, g, q3⟩ => ?_) hs
  subst ex
  obtain rfl : u = Value.ref a := rx
  exact d_setItem hu I3 g ry rv fun s4 I4 => ⟨σ, H4, I4, q3⟩
end


/-! ### displays -/
theorem dk_empty {P : Program} {w : World} {H : Hp} (h : Heap) (hb : sysModules < h.objs.size) : ObjOk P w H (h.push { cls := .type "dict", data := .dict #[] }) h.objs.size (.dK []) :=
  ⟨Nat.zero_le _, beq_eq_false_iff_ne.mpr (Ne.symm (Nat.ne_of_lt hb)), [], .nil, Heap.DictOf.new h⟩
section
variable {X : Cx} {pos : Pos}
end

/-- the pairs of a display, from the left -/
noncomputable def tPairs : List (TE × TE) → St → Hp → (List (V × V) → Hp → Prop) → Prop
  | [], _, H, Q => Q [] H
  | (tk, tv) :: r, σ, H, Q => tk σ H fun x H1 => tv σ H1 fun y H2 => tPairs r σ H2 fun ps H3 => Q ((x, y) :: ps) H3
noncomputable abbrev VV : List (V × V) → List (Value × Value) → Prop := Paired fun p q => RelV p.1 q.1 ∧ RelV p.2 q.2
noncomputable def PPs (X : Cx) (pos : Pos) (keys : List (Option Expr)) (values : List Expr) (trs : List (TE × TE)) : Prop :=
  ∀ ⦃pins : List (Addr × Obj)⦄ (s : Shared) (σ : St) (H : Hp) (Q : List (V × V) → Hp → Prop), Inv X pins σ H s → tPairs trs σ H Q →
    wpAny (model X.prog X.w) X.A (evalPairs (pairTrees keys values X.env pos)) (fun vs s' => Ex2 fun ps H' => Inv X pins σ H' s' ∧ VV ps vs ∧ Q ps H') X.xe s
theorem pps_nil {X : Cx} {pos : Pos} : PPs X pos [] [] [] := fun pins s σ H Q I h => pairTrees_nil_walk ⟨[], H, I, .nil, h⟩
theorem pps_cons {X : Cx} {pos : Pos} {k v : Expr} {ks : List (Option Expr)} {vs : List Expr} {tk tv : TE} {trs : List (TE × TE)} (hk : PE X k tk) (hv : PE X v tv) (hr : PPs X pos ks vs trs) :
    PPs X pos (some k :: ks) (v :: vs) ((tk, tv) :: trs) := fun pins s σ H Q I h =>
  pairTrees_cons_walk (thn (hk s σ H _ I h) fun u s1 ⟨x, H1, I1, rx, q1⟩ => thn (hv s1 σ H1 _ I1 q1) fun w2 s2 ⟨y, H2, I2, ry, q2⟩ =>
    thn (hr s2 σ H2 _ I2 q2) fun ws s3 ⟨ps, H3, I3, rel, q3⟩ => ⟨(x, y) :: ps, H3, I3, .cons ⟨rx, ry⟩ rel, q3⟩)

noncomputable def mergeK (kvs more : List (Key × V)) : List (Key × V) := more.foldl (fun acc kv => putK acc kv.1 kv.2) kvs
theorem KV.merge : ∀ {more : List (Key × V)} {rs : List (Key × Value)} {kvs : List (Key × V)} {vs : List (Key × Value)}, KV more rs → KV kvs vs → KV (mergeK kvs more) (merged vs rs) := by
  intro more rs kvs vs r
  unfold KV at r
  induction r generalizing kvs vs with
  | nil => intro q; exact q
  | @cons p q ps qs h t ih =>
    intro r0
    have e : KV (putK kvs p.1 p.2) (stored vs q.1 q.2) := by
      have := r0.put p.1 h.2
      rw [← h.1]; exact this
    exact ih e
theorem length_mergeK : ∀ (more kvs : List (Key × V)), (mergeK kvs more).length ≤ kvs.length + more.length
  | [], kvs => by show kvs.length ≤ kvs.length + 0; (first | lia | omega)
  | p :: r, kvs => by
    have h1 := length_mergeK r (putK kvs p.1 p.2)
    have h2 := length_putK kvs p.1 p.2
    show (mergeK (putK kvs p.1 p.2) r).length ≤ _
    rw [List.length_cons]; (first | lia | omega)
theorem carries_of {P : Program} {w : World} : ∀ {kvs : List (Key × V)} {ws : List (Value × Value)}, VV (kvs.map fun kv => (kV kv.1, kv.2)) ws → ∃ rs, Carries (mixKind P w) ws rs ∧ KV kvs rs
  | [], _, r => by rw [List.map_nil] at r; cases r; exact ⟨[], True.intro, .nil⟩
  | p :: kvs, _, r => by
    rw [List.map_cons] at r
    cases r with
    | @cons a b as bs h t =>
      obtain ⟨rs, c, q⟩ := carries_of (P := P) (w := w) t
      obtain ⟨b1, b2⟩ := b
      exact ⟨(p.1, b2) :: rs, ⟨kV_is h.1, rfl, c⟩, .cons ⟨rfl, h.2⟩ q⟩
/-- {k: v, ..} with keys ints and texts; the new dict stands empty while the pairs are made -/
noncomputable def tDisp (trs : List (TE × TE)) : TE := fun σ H Q => ∀ p, H p = none → tPairs trs σ (upd H p (.dK [])) fun ps H2 => H2 p = some (.dK []) ∧ ∃ kvs : List (Key × V), ps = kvs.map (fun kv => (kV kv.1, kv.2)) ∧ kvs.length ≤ 15 ∧ Q (.ref p) (upd H2 p (.dK (mergeK [] kvs)))
theorem pe_disp {X : Cx} {pos : Pos} {keys : List (Option Expr)} {values : List Expr} {trs : List (TE × TE)} (h : PPs X pos keys values trs) (hall : keys.all (·.isSome) = true) (hl : keys.length = values.length) (h0 : keys ≠ [])
    (h15 : keys.length ≤ 15) : PE X (.Dict keys values pos) (tDisp trs) := by
  intro pins s σ H Q I q
  have hn := I.hok.fresh (Nat.le_refl s.heap.objs.size)
  have I1 := I.laid (a := s.heap.objs.size) (o := .dK []) (h' := s.heap.push { cls := .type "dict", data := .dict #[] }) (t' := s.toks) (fun _ _ q => Heap.get?_push_of_some _ q) (Nat.le_refl _) (dk_empty s.heap I.big)
  refine wpAny_Dict_walk (knd := mixKind X.prog X.w) hall hl h0 h15 (thn (h _ σ _ _ I1 (q _ hn)) fun ws s2 ⟨ps, H2, I2, rel, e, kvs, ep, lk, q2⟩ => ?_)
  subst ep
  obtain ⟨rs, c, rk⟩ := carries_of (P := X.prog) (w := X.w) rel
  obtain ⟨z, hd, vs0, r0, dd⟩ := dk_of I2.hok e
  cases r0
  refine ⟨rs, c, dd, fun h' dd' hs => ⟨.ref s.heap.objs.size, _, ?_, rfl, q2⟩⟩
  have hz : (mergeK [] kvs).length ≤ sizeLine := by
    have h1 := length_mergeK kvs []
    rw [List.length_nil] at h1
    rw [sizeLine_eq]; (first | lia | omega)
  have he : ∃ q, h'.get? s.heap.objs.size = some q := let ⟨q, _, _, hq, _⟩ := dd'; ⟨q, hq⟩
  exact d_write I2 (by rw [e]; exact True.intro) hs he (dk_new hz hd (rk.merge .nil) dd')


/-! ### methods -/
section
variable {X : Cx} {pins : List (Addr × Obj)} {σ : St} {H : Hp} {s : Shared} {a : Addr} {y d : V} {u r : Value} {o : Option V} {A : Around} {E : Value → Shared → Prop}
end

section
variable {X : Cx} {o e f : Expr} {apos cpos : Pos} {td ty tx : TE}
end

/-! ### dict(d): a copy -/
section
variable {X : Cx} {pins : List (Addr × Obj)} {σ : St} {H : Hp} {s : Shared} {a : Addr} {kvs : List (Key × V)} {A : Around} {E : Value → Shared → Prop}
end


section
variable {X : Cx} {pins : List (Addr × Obj)} {σ : St} {H : Hp} {s : Shared} {a : Addr} {y : V} {u : Value} {A : Around} {E : Value → Shared → Prop}
end
end L2

namespace HT
open PySem PyProof.Rows

section
open PySem.SeqAt
open PySem.AutoSeq1 (wpAny_loadPart')
open PySem.MeetsSeq PySem.MeetsSeq2 PySem.MeetsSeq3

end

section
variable {prog : Program} {w : World} {A : Around} {E : Value → Shared → Prop} {s : Shared}

/-! ### t[a:b], not the whole -/
/-- a slice's bound as a place among n (d where it is left out) -/
noncomputable def sIx (n d : Nat) : Option Int → Nat
  | none => d
  | some v => if v < 0 then (v + (n : Int)).toNat else min v.toNat n
theorem sIx_none (n d : Nat) : sIx n d none = d := rfl
theorem sIx_nat (n d k : Nat) : sIx n d (some (k : Int)) = min k n := by
  show (if (k : Int) < 0 then ((k : Int) + (n : Int)).toNat else min (k : Int).toNat n) = min k n
  rw [if_neg (by (first | lia | omega)), Int.toNat_natCast]
end
end HT

namespace L2
open PySem PySem.Spec PyProof.Rows

/-! ### the parts of a slice -/
noncomputable abbrev TO := St → Hp → (Option Int → Hp → Prop) → Prop
/-- a slice's part (left out, or an int) -/
noncomputable def PO (X : Cx) (e : Option Expr) (t : TO) : Prop :=
  ∀ ⦃pins : List (Addr × Obj)⦄ (s : Shared) (σ : St) (H : Hp) (Q : Option Int → Hp → Prop), Inv X pins σ H s → t σ H Q →
    wpAny (model X.prog X.w) X.A (evalPart e X.env) (fun u s' => Ex2 fun o H' => Inv X pins σ H' s' ∧ IsPart u o ∧ Q o H') X.xe s
noncomputable def tNoPart : TO := fun _ H Q => Q none H
noncomputable def tPart (t : TE) : TO := fun σ H Q => t σ H fun x H1 => ∃ i, x = .int i ∧ Q (some i) H1

section
variable {X : Cx} {e : Expr} {te : TE} {lo hi : Option Expr} {tl th : TO} {pos p2 : Pos}

theorem po_none : PO X none tNoPart := by
  intro pins s σ H Q I h
  rw [evalPart_none]
  exact wpAny_pure ⟨none, H, I, .none, h⟩
theorem po_some (h : PE X e te) : PO X (some e) (tPart te) := by
  intro pins s σ H Q I hw
  rw [evalPart_some]
  refine thn (h s σ H _ I hw) fun u s1 ⟨x, H1, I1, r1, q1⟩ => ?_
  obtain ⟨i, rfl, q⟩ := q1
  obtain ⟨t, rfl⟩ := r1
  exact ⟨some i, H1, I1, .int i t, q⟩

/-- what a slice of a value is, by values: the slice object stands at sl -/
noncomputable def SlR (X : Cx) (r : V → Option Int → Option Int → Hp → VK → Prop) : Prop :=
  ∀ ⦃pins : List (Addr × Obj)⦄ (s : Shared) (σ : St) (H : Hp) (x : V) (v vl vu : Value) (lo hi : Option Int) (sl : Addr) (Q : VK), Inv X pins σ H s → RelV x v → s.heap.IsSliceOf sl vl vu .none → IsPart vl lo → IsPart vu hi → r x lo hi H Q →
    Ex2 fun T id => typeLookup (.type T) "__getitem__" = pure (some (.builtin id)) ∧ s.TypeIs v T ∧ wpAny (model X.prog X.w) X.A (getItem v (.ref sl)) (EP X pins σ Q) X.xe s
theorem SlR.or {r r' : V → Option Int → Option Int → Hp → VK → Prop} (h : SlR X r) (h' : SlR X r') : SlR X (fun x lo hi H Q => r x lo hi H Q ∨ r' x lo hi H Q) := by
  intro pins s σ H x v vl vu lo hi sl Q I rx hs pl pu q
  rcases q with q | q
  · exact h s σ H x v vl vu lo hi sl Q I rx hs pl pu q
  · exact h' s σ H x v vl vu lo hi sl Q I rx hs pl pu q
noncomputable def tSl (r : V → Option Int → Option Int → Hp → VK → Prop) (te : TE) (tl th : TO) : TE := fun σ H Q => te σ H fun x H1 => tl σ H1 fun l H2 => th σ H2 fun u H3 => r x l u H3 Q
/-- a[lo:hi], any a -/
theorem pe_slice {r : V → Option Int → Option Int → Hp → VK → Prop} (hr : SlR X r) (he : PE X e te) (hl : PO X lo tl) (hu : PO X hi th) : PE X (.Subscript e (.Slice lo hi none p2) pos) (tSl r te tl th) := by
  intro pins s σ H Q I h
  refine Subscript_ (thn (he s σ H _ I h) fun v s1 ⟨x, H1, I1, r1, q1⟩ => ?_)
  refine wpAny_Slice (thn (hl s1 σ H1 _ I1 q1) fun vl s2 ⟨l, H2, I2, pl, q2⟩ => thn (hu s2 σ H2 _ I2 q2) fun vu s3 ⟨u, H3, I3, pu, q3⟩ => ?_)
  rw [evalPart_none]
  refine wpAny_pure ?_
  have I4 : Inv X pins σ H3 { s3 with heap := s3.heap.push { cls := .type "slice", data := .fields #[vl, vu, .none] } } := I3.kept (t' := s3.toks) fun b ob q => Heap.get?_push_of_some _ q
  obtain ⟨T, id, hT, ht, hg⟩ := hr { s3 with heap := s3.heap.push { cls := .type "slice", data := .fields #[vl, vu, .none] } } σ H3 x v vl vu l u s3.heap.objs.size Q I4 r1 (Heap.IsSliceOf.new ..) pl pu q3
  show wpAny (model X.prog X.w) X.A (subscriptTail e (.Slice lo hi none p2) v (.ref s3.heap.objs.size)) (EP X pins σ Q) X.xe { s3 with heap := s3.heap.push { cls := .type "slice", data := .fields #[vl, vu, .none] } }
  exact tail_any (ops := [.ref s3.heap.objs.size, v]) ht hT hg (by with_unfolding_all rfl)

/-- the items of xs[lo:hi] -/
noncomputable def cutV (xs : List V) (lo hi : Option Int) : List V := (xs.drop (HT.sIx xs.length 0 lo)).take (HT.sIx xs.length xs.length hi - HT.sIx xs.length 0 lo)
theorem cutV_length (xs : List V) (lo hi : Option Int) : (cutV xs lo hi).length ≤ xs.length := by
  unfold cutV
  rw [List.length_take, List.length_drop]
  (first | lia | omega)
/-! ### t < u, t + u -/
end
end L2

namespace L2
open PySem PySem.Spec PyProof.Rows

/-! ### places -/
/-- the place that an index of any sign means -/
noncomputable def ixN (n : Nat) (i : Int) : Option Nat := if 0 ≤ i then (if i < n then some i.toNat else none) else if -(n : Int) ≤ i then some (i + n).toNat else none
noncomputable def atI {α : Type} (xs : List α) (i : Int) : Option α := (ixN xs.length i).bind fun j => xs[j]?
theorem ixN_seq {n : Nat} {i : Int} {j : Nat} (h : ixN n i = some j) : seqIndex? i n = some j ∧ j < n ∧ -(n : Int) ≤ i ∧ i < n := by
  unfold ixN at h
  by_cases h0 : 0 ≤ i
  · rw [if_pos h0] at h
    by_cases h1 : i < n
    · rw [if_pos h1] at h
      have e : i.toNat = j := Option.some.inj h
      exact ⟨by rw [seqIndex_of h0 h1, e], by (first | lia | omega), by (first | lia | omega), h1⟩
    · rw [if_neg h1] at h; cases h
  · rw [if_neg h0] at h
    by_cases h1 : -(n : Int) ≤ i
    · rw [if_pos h1] at h
      have e : (i + n).toNat = j := Option.some.inj h
      exact ⟨by rw [seqIndex_neg (by (first | lia | omega)) h1, e], by (first | lia | omega), h1, by (first | lia | omega)⟩
    · rw [if_neg h1] at h; cases h
theorem atI_get {α : Type} {xs : List α} {i : Int} {v : α} (h : atI xs i = some v) : ∃ j, seqIndex? i xs.length = some j ∧ xs[j]? = some v ∧ j < xs.length ∧ -(xs.length : Int) ≤ i ∧ i < xs.length := by
  unfold atI at h
  cases e : ixN xs.length i with
  | none => rw [e] at h; cases h
  | some j =>
    rw [e] at h
    obtain ⟨h1, h2, h3, h4⟩ := ixN_seq e
    exact ⟨j, h1, h, h2, h3, h4⟩
theorem atI_nat {α : Type} {xs : List α} {j : Nat} {v : α} (h : xs[j]? = some v) : atI xs (j : Int) = some v := by
  have hj : j < xs.length := (List.getElem?_eq_some_iff.mp h).1
  have e : ixN xs.length (j : Int) = some j := by
    unfold ixN
    rw [if_pos (by (first | lia | omega)), if_pos (by (first | lia | omega))]; simp
  unfold atI; rw [e]; exact h
/-! ### what may be subscripted -/
/-- what stands as an index of a plain subscript -/
noncomputable def PlainIx (b : Expr) : Prop := ∀ o i, subscripted b false o i = operate [o, i] (getItem o i)
/-- a subscript by values -/
noncomputable def IxR (X : Cx) (r : R2) : Prop :=
  ∀ ⦃value slice : Expr⦄ ⦃pins : List (Addr × Obj)⦄ (s : Shared) (σ : St) (H : Hp) (x y : V) (v u : Value) (Q : VK), Inv X pins σ H s → RelV x v → RelV y u → r x y H Q →
    subscripted slice false v u = operate [v, u] (getItem v u) → wpAny (model X.prog X.w) X.A (subscriptTail value slice v u) (EP X pins σ Q) X.xe s
/-- a call of a builtin's method by values: the receiver, the arguments -/
noncomputable def MtR (X : Cx) (id : String) (r : V → List V → Hp → VK → Prop) : Prop :=
  ∀ ⦃pins : List (Addr × Obj)⦄ (s : Shared) (σ : St) (H : Hp) (x : V) (xs : List V) (v : Value) (us : List Value) (Q : VK), Inv X pins σ H s → RelV x v → Vals xs us → r x xs H Q →
    wpAny (model X.prog X.w) X.A (call (.builtin id) (v :: us)) (EP X pins σ Q) X.xe s
section
variable {X : Cx} {a b : Expr} {ta tb : TE} {pos : Pos}
theorem IxR.or {r r' : R2} (h : IxR X r) (h' : IxR X r') : IxR X (fun x y H Q => r x y H Q ∨ r' x y H Q) := by
  intro value slice pins s σ H x y v u Q I rx ry q hs
  rcases q with q | q
  · exact h s σ H x y v u Q I rx ry q hs
  · exact h' s σ H x y v u Q I rx ry q hs
/-- a[b] -/
theorem pe_ix {r : R2} (hr : IxR X r) (ha : PE X a ta) (hb : PE X b tb) (hs : PlainIx b) : PE X (.Subscript a b pos) (tOp r ta tb) := by
  intro pins s σ H Q I h
  exact Subscript_ (binT ha hb I h fun v u s2 x y H2 I2 rx ry q => hr s2 σ H2 x y v u Q I2 rx ry q (hs _ _))

noncomputable def rIxL (K : PySem.W.Frag) : R2 := fun x y H Q => Ex4 fun p xs i v => x = .ref p ∧ y = .int i ∧ SqL K H p xs ∧ atI xs i = some v ∧ Q v H
noncomputable def rIxT (K : PySem.W.Frag) : R2 := fun x y H Q => Ex4 fun p xs i v => x = .ref p ∧ y = .int i ∧ SqT K H p xs ∧ atI xs i = some v ∧ Q v H
noncomputable def rIxS : R2 := fun x y H Q => Ex3 fun z i c => x = .str z ∧ y = .int i ∧ z.length ≤ sizeLine ∧ atI z.cps.toList i = some c ∧ Q (.str ⟨#[c]⟩) H
theorem ix_list : IxR X (rIxL X.K) := by
  intro value slice pins s σ H x y v u Q I rx ry h hs
  obtain ⟨p, xs, i, z, rfl, rfl, hq, he, q⟩ := h
  cases rx
  obtain ⟨t, rfl⟩ := ry
  obtain ⟨its, r, pl, hz⟩ := I.list hq
  obtain ⟨j, h1, h2, h3, h4, h5⟩ := atI_get he
  obtain ⟨w, ew, rw'⟩ := r.get h2
  have hl := r.length
  have hn := line63
  have fin : EP X pins σ Q w s := ⟨z, H, I, rw', q⟩
  by_cases h0 : 0 ≤ i
  · have hj : i.toNat = j := by
      rw [seqIndex_of h0 h5] at h1
      exact Option.some.inj h1
    exact item_listR pl.isList h0 (by (first | lia | omega)) (by rw [hj]; simpa using ew) fin hs
  · have hj : (i + (its.toArray.size : Int)).toNat = j := by
      rw [seqIndex_neg (by (first | lia | omega)) h4] at h1
      rw [List.size_toArray, ← hl]
      exact Option.some.inj h1
    exact subscriptTail_builtinR (x := w) pl.isList.typeIs slot_list_getitem.lookup
      (wpAny_getItem_list_neg (Q := fun r s' => r = w ∧ EP X pins σ Q r s') pl.isList (by (first | lia | omega)) (by rw [List.size_toArray] <;> (first | lia | omega)) (by (first | lia | omega)) (by rw [hj]; simpa using ew) ⟨rfl, fin⟩) hs
theorem ix_tup : IxR X (rIxT X.K) := by
  intro value slice pins s σ H x y v u Q I rx ry h hs
  obtain ⟨p, xs, i, z, rfl, rfl, hq, he, q⟩ := h
  cases rx
  obtain ⟨t, rfl⟩ := ry
  obtain ⟨its, r, pl, hz⟩ := I.tuple hq
  obtain ⟨j, h1, h2, h3, h4, h5⟩ := atI_get he
  obtain ⟨w, ew, rw'⟩ := r.get h2
  have hl := r.length
  have hn := line63
  have fin : EP X pins σ Q w s := ⟨z, H, I, rw', q⟩
  exact subscriptTail_builtinR (x := w) pl.typeIs slot_tuple_getitem.lookup
    (getItem_tuple (j := j) (Q := fun r s' => r = w ∧ EP X pins σ Q r s') pl (by (first | lia | omega)) (by (first | lia | omega)) (by rw [List.size_toArray, ← hl]; exact h1) (by simpa using ew) ⟨rfl, fin⟩) hs
theorem ix_str : IxR X rIxS := by
  intro value slice pins s σ H x y v u Q I rx ry h hs
  obtain ⟨z, i, c, rfl, rfl, hz, he, q⟩ := h
  obtain ⟨t, rfl⟩ := rx
  obtain ⟨t', rfl⟩ := ry
  obtain ⟨j, h1, h2, h3, h4, h5⟩ := atI_get he
  have hl : z.cps.toList.length = z.length := by simp [Str.length]
  rw [hl] at h1 h4 h5
  have hn := line63
  exact tail_any (typeIs_str s z t) slot_str_getitem.lookup (getItem_str (c := c) (by
    have e1 : decide (i < -(2 ^ 63 : Int)) = false := decide_eq_false (by (first | lia | omega))
    have e2 : decide (i ≥ 2 ^ 63) = false := decide_eq_false (by (first | lia | omega))
    rw [e1, e2, Bool.or_false]) (by rw [h1]; simpa using h2) ⟨.str ⟨#[c]⟩, H, I.tok _, ⟨_, rfl⟩, q⟩) hs
/-- list, tuple or str -/
noncomputable def rIx (K : PySem.W.Frag) : R2 := fun x y H Q => rIxL K x y H Q ∨ rIxT K x y H Q ∨ rIxS x y H Q
theorem ix_seq : IxR X (rIx X.K) := ix_list.or (ix_tup.or ix_str)

/-! ### xs[i] = v, any sign -/
/-- the list's object behind a store -/
theorem mapSeq_set (its : List Value) (n j : Nat) (u : Value) : Obj.mapSeq (·.setIfInBounds j u) { cls := .type "list", data := .seq its.toArray n } = { cls := .type "list", data := .seq (its.set j u).toArray n } := by
  simp [Obj.mapSeq]
theorem Inv.lst {pins : List (Addr × Obj)} {σ : St} {H : Hp} {s : Shared} {p : Addr} {xs : List V} (I : Inv X pins σ H s) (h : H p = some (.lst xs)) :
    ∃ (its : List Value) (n : Nat), Vals xs its ∧ s.heap.get? p = some { cls := .type "list", data := .seq its.toArray n } ∧ xs.length ≤ sizeLine := by
  obtain ⟨z, its, n, r, e⟩ := I.hok p _ h
  exact ⟨its, n, r, e, z⟩
/-- the list at p is written by an update of its object -/
theorem Inv.lstUpd {pins : List (Addr × Obj)} {σ : St} {H : Hp} {s : Shared} {p : Addr} {xs ys : List V} {its its' : List Value} {n n' : Nat} {f : Obj → Obj} (I : Inv X pins σ H s) (h : H p = some (.lst xs))
    (ho : s.heap.get? p = some { cls := .type "list", data := .seq its.toArray n }) (hf : f { cls := .type "list", data := .seq its.toArray n } = { cls := .type "list", data := .seq its'.toArray n' }) (r : Vals ys its') (hz : ys.length ≤ sizeLine) (t : Nat) :
    Inv X pins σ (upd H p (.lst ys)) { s with heap := s.heap.update p f, toks := t } := by
  have e : (s.heap.update p f).get? p = some { cls := .type "list", data := .seq its'.toArray n' } := by
    rw [Heap.get?_update_self f ho (by rw [hf] <;> rfl), hf]
  refine I.write (x := p) (e := p) (by rw [h]; trivial) (.inl rfl) (fun b u hb q => (Heap.get?_update_other _ _ (Ne.symm hb)).trans q) ⟨_, e⟩ ?_
  exact ⟨hz, its', n', r, e⟩
noncomputable def rSetL : V → V → V → Hp → (Hp → Prop) → Prop := fun o i v H Q => Ex4 fun p xs k j => o = .ref p ∧ i = .int k ∧ H p = some (.lst xs) ∧ ixN xs.length k = some j ∧ Q (upd H p (.lst (xs.set j v)))
theorem set_list : PSet X rSetL := by
  intro pins s σ H o i v ov iv u Q I ro ri rv h
  obtain ⟨p, xs, k, j, rfl, rfl, hp, hj, q⟩ := h
  cases ro
  obtain ⟨t, rfl⟩ := ri
  obtain ⟨its, n, r, ho, hz⟩ := I.lst hp
  obtain ⟨h1, h2, h3, h4⟩ := ixN_seq hj
  have hl := r.length
  have hn := line63
  have I' : Inv X pins σ (upd H p (.lst (xs.set j v))) { s with heap := s.heap.update p (Obj.mapSeq (·.setIfInBounds j u)) } :=
    I.lstUpd hp ho (mapSeq_set its n j u) (r.set rv j) (by rw [List.length_set]; exact hz) s.toks
  by_cases h0 : 0 ≤ k
  · have hk : k.toNat = j := by
      rw [seqIndex_of h0 h4] at h1
      exact Option.some.inj h1
    exact PySem.W.ki_setAt ho h0 (by (first | lia | omega)) (by rw [List.size_toArray, ← hl]; exact h4) (by rw [hk]; exact ⟨_, I', q⟩)
  · have hk : (k + (its.toArray.size : Int)).toNat = j := by
      rw [seqIndex_neg (by (first | lia | omega)) h3] at h1
      rw [List.size_toArray, ← hl]
      exact Option.some.inj h1
    exact PySem.W.ki_setBack ho (by (first | lia | omega)) (by rw [List.size_toArray, ← hl]; exact h3) (by (first | lia | omega)) (by rw [hk]; exact ⟨_, I', q⟩)

/-! ### slices -/
theorem slice_bounds (lo hi : Option Int) (n : Nat) : (sliceBounds lo hi none n).1 = ((HT.sIx n 0 lo : Nat) : Int) ∧ (sliceBounds lo hi none n).2.1 = ((HT.sIx n n hi : Nat) : Int) ∧ (sliceBounds lo hi none n).2.2 = 1 := by
  refine ⟨?_, ?_, rfl⟩
  · cases lo with
    | none => simp [sliceBounds, HT.sIx]
    | some i =>
      simp only [sliceBounds, HT.sIx, Option.getD_none, show (1 : Int) > 0 by decide, if_true]
      by_cases h : i < 0
      · simp only [h, if_true] <;> (first | lia | omega)
      · simp only [h, if_false] <;> (first | lia | omega)
  · cases hi with
    | none => simp [sliceBounds, HT.sIx]
    | some i =>
      simp only [sliceBounds, HT.sIx, Option.getD_none, show (1 : Int) > 0 by decide, if_true]
      by_cases h : i < 0
      · simp only [h, if_true] <;> (first | lia | omega)
      · simp only [h, if_false] <;> (first | lia | omega)
theorem slicePick_cut (its : List Value) (lo hi : Option Int) : slicePick its.toArray lo hi none = ((its.drop (HT.sIx its.length 0 lo)).take (HT.sIx its.length its.length hi - HT.sIx its.length 0 lo)).toArray := by
  obtain ⟨h1, h2, h3⟩ := slice_bounds lo hi its.toArray.size
  unfold slicePick
  rw [h1, h2, h3]
  simp only [sliceRange_one, pick_run, List.size_toArray] <;> rfl
/-- xs[lo:hi] of a list: a new list -/
noncomputable def rSlL (K : PySem.W.Frag) : V → Option Int → Option Int → Hp → VK → Prop := fun x lo hi H Q => Ex2 fun a xs => x = .ref a ∧ SqL K H a xs ∧ ∀ p, H p = none → Q (.ref p) (upd H p (.lst (cutV xs lo hi)))
theorem sl_list : SlR X (rSlL X.K) := by
  intro pins s σ H x v vl vu lo hi sl Q I rx hs pl pu h
  obtain ⟨a, xs, rfl, hx, q⟩ := h
  cases rx
  obtain ⟨its, r, ht, hz⟩ := I.list hx
  have hlen := r.length
  refine ⟨"list", _, slot_list_getitem.lookup, ht.isList.typeIs, ?_⟩
  refine wpAny_getItem_list_slice ht.isList hs pl pu .none (by simp) ?_ (by rw [List.size_toArray] <;> (first | lia | omega))
  rw [slicePick_cut, ← hlen]
  refine ⟨.ref s.heap.objs.size, _, I.laid (t' := s.toks) (o := .lst (cutV xs lo hi)) (fun b ob q => Heap.get?_push_of_some _ q) (Nat.le_refl _) ?_, rfl, q _ (I.hok.fresh (Nat.le_refl _))⟩
  exact ⟨Nat.le_trans (cutV_length xs lo hi) hz, _, 0, (r.drop (HT.sIx xs.length 0 lo)).take (HT.sIx xs.length xs.length hi - HT.sIx xs.length 0 lo), Heap.get?_push_size _ rfl⟩

/-! ### in, not in: flat items -/
/-! ### len, list(x), tuple(x) of any list or tuple that is read -/
theorem CallR.or {f : Value} {r r' : List V → Hp → VK → Prop} (h : CallR X f r) (h' : CallR X f r') : CallR X f (fun xs H Q => r xs H Q ∨ r' xs H Q) := by
  intro pins s σ H xs us Q I rs q
  rcases q with q | q
  · exact h s σ H xs us Q I rs q
  · exact h' s σ H xs us Q I rs q
theorem call_list_of : CallR X (.type "list") (fun xs H Q => ∃ p ys, xs = [.ref p] ∧ (SqL X.K H p ys ∨ SqT X.K H p ys) ∧ ∀ l, H l = none → Q (.ref l) (upd H l (.lst ys))) := by
  intro pins s σ H xs us Q I r h
  obtain ⟨p, ys, rfl, hq, q⟩ := h
  obtain ⟨u, rfl, rx⟩ := vals1 r
  cases rx
  have fin : ∀ (its : List Value), Vals ys its → ys.length ≤ sizeLine → ∀ (h' : Heap) (c' : Nat), (∀ b o', s.heap.get? b = some o' → h'.get? b = some o') →
      h'.get? s.heap.objs.size = some { cls := .type "list", dict := none, data := .seq its.toArray c', slots := #[] } → EP X pins σ Q (.ref s.heap.objs.size) { s with heap := h' } := fun its r' hz h' c' kp e =>
    ⟨.ref s.heap.objs.size, _, I.laid (t' := s.toks) kp (Nat.le_refl _) (show ObjOk X.prog X.w _ h' _ (.lst ys) from ⟨hz, its, c', r', e⟩), rfl, q _ (I.hok.fresh (Nat.le_refl _))⟩
  rcases hq with hq | hq
  · obtain ⟨its, r', pl, hz⟩ := I.list hq
    have hlen := r'.length
    obtain ⟨o, ho, hc, n, hd⟩ := pl.isList
    exact call_list_seq p (.inl rfl) ho hc hd (fun h' c' kp e => fin its r' hz h' c' kp e) (by simp only [List.size_toArray] <;> (first | lia | omega))
  · obtain ⟨its, r', pl, hz⟩ := I.tuple hq
    have hlen := r'.length
    obtain ⟨o, ho, hc, n, hd⟩ := pl
    exact call_list_seq p (.inr rfl) ho hc hd (fun h' c' kp e => fin its r' hz h' c' kp e) (by simp only [List.size_toArray] <;> (first | lia | omega))
/-! ### the call of a builtin's method: o.m(..) -/
/-- the value is of that builtin type -/
noncomputable def tyV (K : PySem.W.Frag) (T : String) (x : V) (H : Hp) : Prop := match x with
  | .str _ => T = "str"
  | .int _ => T = "int"
  | .ref p => (T = "list" ∧ ∃ xs, SqL K H p xs) ∨ (T = "tuple" ∧ ∃ o, K.lookup p = some o ∧ o.cls = .type "tuple" ∧ o.dict = none) ∨
      (T = "dict" ∧ ((∃ kvs, H p = some (.dK kvs)) ∨ ∃ kvs, H p = some (.dT kvs))) ∨ (T = "set" ∧ Ex2 fun S n => H p = some (.set S n))
  | _ => False
theorem tyV_is {pins : List (Addr × Obj)} {σ : St} {H : Hp} {s : Shared} {T : String} {x : V} {v : Value} (I : Inv X pins σ H s) (r : RelV x v) (ty : tyV X.K T x H) :
    s.TypeIs v T ∧ ∀ a, v = .ref a → ∃ ob, s.heap.get? a = some ob ∧ ob.dict = none := by
  cases x with
  | str z =>
    obtain ⟨t, rfl⟩ := r
    cases (show T = "str" from ty)
    exact ⟨typeIs_str s z t, fun _ e => nomatch e⟩
  | int i =>
    obtain ⟨t, rfl⟩ := r
    cases (show T = "int" from ty)
    exact ⟨typeIs_int s i t, fun _ e => nomatch e⟩
  | ref p =>
    cases r
    rcases ty with ⟨rfl, xs, hq⟩ | ⟨rfl, o, hk, hc, hd⟩ | ⟨rfl, hk⟩ | ⟨rfl, S, n, hk⟩
    · obtain ⟨its, _, pl, _⟩ := I.list hq
      refine ⟨pl.isList.typeIs, fun a e => ?_⟩
      cases e
      obtain ⟨o, n, e, c, hd, _⟩ := pl
      exact ⟨o, e, hd⟩
    · refine ⟨⟨o, I.kIn p o hk, hc⟩, fun a e => ?_⟩
      cases e
      exact ⟨o, I.kIn _ o hk, hd⟩
    · have z : ∃ o, s.heap.get? p = some o ∧ o.ExactDict := by
        rcases hk with ⟨kvs, hk⟩ | ⟨kvs, hk⟩
        · obtain ⟨_, _, _, _, o, _, _, e, ex, _⟩ := I.hok p _ hk
          exact ⟨o, e, ex⟩
        · obtain ⟨_, _, _, _, o, _, _, e, ex, _⟩ := I.hok p _ hk
          exact ⟨o, e, ex⟩
      obtain ⟨o, e, ex⟩ := z
      refine ⟨⟨o, e, ex.1⟩, fun a e2 => ?_⟩
      cases e2
      exact ⟨o, e, ex.2.1⟩
    · obtain ⟨o, _, _, _, e, ex, _⟩ := I.hok p _ hk
      refine ⟨⟨o, e, ex.1⟩, fun a e2 => ?_⟩
      cases e2
      exact ⟨o, e, ex.2.1⟩
  | _ => exact False.elim ty
noncomputable def tBM (K : PySem.W.Frag) (T : String) (r : V → List V → Hp → VK → Prop) (to : TE) (t : TA) : TE := fun σ H Q => to σ H fun x H1 => tyV K T x H1 ∧ t σ H1 fun xs H2 => r x xs H2 Q
variable {o e : Expr} {es : List Expr} {to : TE} {t : TA} {name : Str} {apos cpos : Pos} {T id : String} {r : V → List V → Hp → VK → Prop}
theorem pe_bm (pa : PlainAttrs T) (slot : Slot T name id) (hty : typeOf (.builtin id) = pure (.type "method_descriptor")) (hm : MtR X id r) (ho : PE X o to) (ha : PA X (e :: es) t)
    (hbase : attributeBase o name X.env (eval o X.env) = eval o X.env := by rfl)
    (hfew : ((backTo cpos (starEach (e :: es) X.env)).all (fun x => !x.1) && (backToKw cpos (keywordEach [] X.env)).all (fun x => x.1.isSome)
      && decide ((e :: es).length + ([] : List Keyword).length + (if ([] : List Keyword).isEmpty then 0 else 1) < 30)) = true := by rfl)
    (hline : (apos.endLine == cpos.line) = true := by rfl) (hs : starEach (e :: es) X.env = (false, eval e X.env) :: starEach es X.env := by rfl) (hplain : (backTo cpos (starEach es X.env)).any (·.1) = false := by rfl) :
    PE X (.Call (.Attribute o name apos) (e :: es) [] cpos) (tBM X.K T r to t) := by
  intro pins s σ H Q I h
  refine wpAny_Call_method_late hbase hfew hline rfl (thn (ho s σ H _ I h) fun v s1 ⟨x, H1, I1, r1, ty, q1⟩ => ?_)
  obtain ⟨h1, h2⟩ := tyV_is I1 r1 ty
  refine ⟨T, id, pa, slot, hty, h1, h2, ?_⟩
  have hA := ha (pos := cpos) s1 σ H1 _ I1 q1
  rw [hs] at hA ⊢
  refine Calls.callWith_builtin (by show (false || (backTo cpos (starEach es X.env)).any (·.1)) = false; rw [hplain] <;> rfl) (Calls.evalArgs_plain ?_)
  exact thn hA fun us s2 ⟨vs, H2, I2, r2, q2⟩ => hm s2 σ H2 x vs v us Q I2 r1 r2 q2
/- xs.append(e), list.index on a module's tuple .. are MtR facts of 06m -/
end
end L2

namespace L2
open PySem PySem.Spec PyProof.Rows

/-! ### lists of values -/
theorem Vals.hd {x : V} {xs : List V} {us : List Value} (h : Vals (x :: xs) us) : ∃ u r, us = u :: r ∧ RelV x u ∧ Vals xs r := by
  cases h with | cons a b => exact ⟨_, _, rfl, a, b⟩
theorem Vals.one {x : V} {us : List Value} (h : Vals [x] us) : ∃ u, us = [u] ∧ RelV x u := by
  obtain ⟨u, r, rfl, a, h⟩ := h.hd
  cases h
  exact ⟨_, rfl, a⟩
theorem Vals.rep {xs : List V} {us : List Value} (h : Vals xs us) : ∀ k : Nat, Vals (List.replicate k xs).flatten (List.replicate k us).flatten
  | 0 => .nil
  | k + 1 => by
    rw [List.replicate_succ, List.replicate_succ, List.flatten_cons, List.flatten_cons]
    exact Vals.append h (Vals.rep h k)
theorem foldl_rep (its : List Value) : ∀ (k : Nat) (acc : List Value),
    List.foldl (fun x1 x2 => x1 ++ x2) acc.toArray (List.replicate k its.toArray) = (acc ++ (List.replicate k its).flatten).toArray
  | 0, acc => by simp
  | k + 1, acc => by
    have e : acc.toArray ++ its.toArray = (acc ++ its).toArray := by simp
    have e2 : (acc ++ its) ++ (List.replicate k its).flatten = acc ++ (List.replicate (k + 1) its).flatten := by
      rw [List.replicate_succ, List.flatten_cons, List.append_assoc]
    rw [← e2, ← foldl_rep its k (acc ++ its), ← e, List.replicate_succ, List.foldl_cons]

section
variable {X : Cx} {pins : List (Addr × Obj)} {σ : St} {H : Hp} {s : Shared} {l b : Addr} {xs ys zs : List V}

/-! ### the two steps: a tracked list is rewritten, a new list is laid -/
theorem Inv.lnew {its : List Value} {t' : Nat} (I : Inv X pins σ H s) (hv : Vals ys its) (hz : ys.length ≤ sizeLine) :
    Inv X pins σ (upd H s.heap.objs.size (.lst ys)) { s with heap := s.heap.push { cls := .type "list", data := .seq its.toArray }, toks := t' } :=
  I.laid (fun _ _ q => Heap.get?_push_of_some _ q) (Nat.le_refl _) ⟨hz, its, 0, hv, Heap.get?_push_size _ rfl⟩
theorem Inv.fresh (I : Inv X pins σ H s) : H s.heap.objs.size = none := I.hok.fresh (Nat.le_refl _)
theorem Inv.lstM (I : Inv X pins σ H s) (hH : H l = some (.lst xs)) : xs.length ≤ sizeLine ∧ ∃ (its : List Value) (n : Nat), Vals xs its ∧ xs.length = its.length ∧ s.heap.get? l = some { cls := .type "list", data := .seq its.toArray n } := by
  obtain ⟨z, its, n, r, e⟩ := I.hok l _ hH
  exact ⟨z, its, n, r, r.length, e⟩

theorem notLongL {n : Nat} (h : n ≤ sizeLine) : Builtin.List.listTooLong n = false := by
  unfold Builtin.List.listTooLong
  exact decide_eq_false (by (first | lia | omega))
end

section
variable {X : Cx}

/-! ### methods -/
/-! ### list + list, list += list, list * int -/
noncomputable def rCat : R2 := fun x y H Q => Ex4 fun l b xs zs => x = .ref l ∧ y = .ref b ∧ H l = some (.lst xs) ∧ H b = some (.lst zs) ∧ xs.length + zs.length ≤ sizeLine ∧ ∀ p, H p = none → Q (.ref p) (upd H p (.lst (xs ++ zs)))
theorem op_cat : OpR X (binaryOp .Add) rCat := by
  intro pins s σ H x y v u Q I rx ry h
  obtain ⟨l, b, xs, zs, rfl, rfl, hH, hB, hz, q⟩ := h
  cases rx
  cases ry
  obtain ⟨z, its, n, r, hl, e⟩ := I.lstM hH
  obtain ⟨z2, its2, n2, r2, hl2, e2⟩ := I.lstM hB
  refine PySem.P.add_list e e2 ?_ (by rw [List.size_toArray, List.size_toArray]; (first | lia | omega))
  have ea : its.toArray ++ its2.toArray = (its ++ its2).toArray := by simp
  rw [ea]
  exact ⟨.ref _, _, I.lnew (t' := s.toks) (r.append r2) (by rw [List.length_append]; (first | lia | omega)), rfl, q _ I.fresh⟩
/-- a list times an int (a negative one is nothing) -/
noncomputable def rRep : R2 := fun x y H Q => Ex3 fun l k xs => x = .ref l ∧ y = .int k ∧ H l = some (.lst xs) ∧ -(2 ^ 63) ≤ k ∧ k < 2 ^ 63 ∧ xs.length * k.toNat ≤ sizeLine ∧
  ∀ p, H p = none → Q (.ref p) (upd H p (.lst (List.replicate k.toNat xs).flatten))
theorem len_rep {α : Type} (xs : List α) (k : Nat) : (List.replicate k xs).flatten.length = k * xs.length := by
  induction k with
  | zero => simp
  | succ k ih => rw [List.replicate_succ, List.flatten_cons, List.length_append, ih, Nat.succ_mul, Nat.add_comm]
theorem op_rep : OpR X (binaryOp .Mult) rRep := by
  intro pins s σ H x y v u Q I rx ry h
  obtain ⟨l, k, xs, rfl, rfl, hH, h1, h2, hz, q⟩ := h
  cases rx
  obtain ⟨t, rfl⟩ := ry
  obtain ⟨z, its, n, r, hl, e⟩ := I.lstM hH
  have hlen : its.toArray.size * k.toNat ≤ sizeLine := by rw [List.size_toArray, ← hl]; exact hz
  have hcap : ¬ its.toArray.size * k.toNat > (2 ^ 63 - 1) / 8 := by
    have : (sizeLine : Nat) ≤ (2 ^ 63 - 1) / 8 := by decide
    (first | lia | omega)
  have hfit : ¬ (!Builtin.List.listFitsIndex k) = true := by
    rw [fitsIndex_both h1 h2]
    exact Bool.false_ne_true
  have hlong : ¬ Builtin.List.listTooLong (its.toArray.size * k.toNat) = true := by
    rw [notLongL hlen]
    exact Bool.false_ne_true
  have hnew : List.foldl (fun x1 x2 => x1 ++ x2) #[] (List.replicate (if its.toArray.isEmpty = true then 0 else k.toNat) its.toArray) = (List.replicate k.toNat its).flatten.toArray := by
    have f0 : ∀ m : Nat, List.foldl (fun x1 x2 => x1 ++ x2) #[] (List.replicate m its.toArray) = (List.replicate m its).flatten.toArray := fun m => by
      have := foldl_rep its m []
      rw [List.nil_append] at this
      exact this
    rw [f0]
    cases its with
    | nil => simp
    | cons a r' => rw [if_neg (by simp)]
  refine wpAny_binaryOp_repeat_ref (T := "list") (U := "int") (by decide) ⟨_, e, rfl⟩ (fun s' => typeIs_int s' k t) noFill_list_mul F.fills_int_mul F.slot_int_rmul repeat_list F.slot_int_index.lookup
    (call_meets F.slot_int_rmul (typeIs_int s k t) F.entry_int_rmul (F.args_int_rmul_2 _ _) (int___rmul___int_list k t l its.toArray n)
      ⟨e, rfl, ⟨_, e, rfl⟩, call_meets F.slot_list_mul ⟨_, e, rfl⟩ F.entry_list_mul (F.args_list_mul_2 _ _) (AutoListH.list___mul___list_int_3 l its.toArray n k t hfit hcap hlong) ⟨e, ?_⟩⟩)
  rw [hnew]
  exact ⟨.ref _, _, I.lnew (t' := s.toks) (r.rep k.toNat) (by rw [len_rep, Nat.mul_comm]; exact hz), rfl, q _ I.fresh⟩

/-! ### del xs[i] -/
end

/-! ### xs[a:b] = ys -/
section
variable {prog : Program} {w : World} {A : Around} {E : Value → Shared → Prop} {s : Shared}
set_option maxRecDepth 100000 in
end

section
variable {X : Cx}
end
end L2

namespace Att
open PySem PySem.W PySem.Calls PyProof.Rows

/-! ### the script -/
theorem ints_of_wellAll {P : Params} {h : Heap} : ∀ (ns : List Int) (vs : List Value), WellAll P h vs (ns.map WData.int) → IntsAre vs ns := by
  intro ns
  induction ns with
  | nil =>
    intro vs w
    rw [List.map_nil] at w
    cases w
    exact .nil
  | cons n ns ih =>
    intro vs w
    rw [List.map_cons] at w
    cases w with
    | cons a b =>
      cases a
      exact .cons _ _ (ih _ b)

theorem script_of {l : OpenLaw} {n : Nat} (hn : l.most = some n) {P : Params} {h : Heap} {args : List WData} {vals : List Value}
    (hpre : l.row.toRowW.claim.pre args = true) (hwl : WellAll P h vals args) :
    ∃ a vs ns, vals = [Value.ref a] ∧ args = [WData.list (ns.map WData.int)] ∧ h.get? a = some { cls := .type "list", data := .seq vs.toArray } ∧ IntsAre vs ns ∧ ns.length ≤ n := by
  have hsh : WShape.hasAll [] args [.list .int] = true := (pre_splitW hpre).1
  have hc : l.pre.holds [] { args := args } = true := (pre_splitW hpre).2
  obtain ⟨d, r, rfl, h1, h2⟩ := hasAllW_cons hsh
  obtain rfl := hasAllW_nil h2
  obtain ⟨xs, rfl, h3⟩ := hasW_list h1
  obtain ⟨ns, rfl⟩ := items_int h3
  have hlen : ns.length ≤ n := by
    unfold OpenLaw.pre at hc
    have h4 : (WTm.not (.lt (.lit (.int (n : Int))) (.len (.arg 0)))).holds [] { args := [.list (ns.map .int)] } = true := by
      have h4 := (holds_andW hc).1
      rw [hn] at h4
      exact h4
    have h5 := condW_of h4 (w_not (w_lt w_lit (w_len_list (w_arg rfl))))
    rw [List.length_map] at h5
    refine Nat.le_of_not_lt fun q => ?_
    have q' : (n : Int) < ((ns.length : Nat) : Int) := by (first | lia | omega)
    first
      | (rw [decide_eq_true q'] at h5; exact absurd h5 (by decide))
      | (simp at h5; (first | lia | omega))
  cases hwl with
  | cons w1 w2 =>
    cases w2
    cases w1 with
    | list ho hall => exact ⟨_, _, ns, rfl, rfl, ho, ints_of_wellAll ns _ hall, hlen⟩

theorem post_true (l : OpenLaw) (args : List WData) : l.row.toRowW.claim.post args (.bool true) args = true :=
  postW_of (r := l.row.toRowW) (X := (true == true))
    (show WShape.has [] (.bool true) .bool = true by first | rfl | decide | simp [WShape.has, WShape.arms, WShape.armsAll])
    (show (WTm.eq .res (.lit (.bool true))).value [] { args := args, res := some (.bool true), after := args } = some (.bool (true == true)) from w_eq_bool (w_res rfl) w_lit) rfl

/-! ### the attachment: holds_open's last premise (the goal 'hc' behind k_head) from a wpAny of the law's body -/
/-- the same from a codeAny of the CALL (for a layer whose function contracts speak of calls) -/
theorem attach_call {l : OpenLaw} {n : Nat} {q : Program} {loose : List Str} {XP : (Str → Option Value) → Heap → Prop} {YP : World → Heap → Prop} {d : DefRec}
    (hn : l.most = some n) (hdf : d.params.defaults = [])
    (call : ∀ (w : World) (s₀ s₁ : Shared) (mg mb : Str → Option Value) (fa : Addr) (o : Obj) (pm cd doc : Value) (a : Addr) (vs : List Value) (ns : List Int),
      Ground q loose [] XP w s₀ mg mb s₁.heap → YP w s₁.heap →
      s₁.heap.get? fa = some o → o.data = .func (docDef d.name d.params d.body d.scope pm cd doc) → s₁.heap.CodeRec cd d.name → mg d.name = some (.ref fa) →
      s₁.heap.get? a = some { cls := .type "list", data := .seq vs.toArray } → IntsAre vs ns → ns.length ≤ n → s₁.gens = #[] →
      codeAny (model l.prog w) callerA (.call (.ref fa) ⟨[.ref a], []⟩) (fun r s' => r = .ok (.ret (.bool true)) ∧ OldK s₁.heap s'.heap ∧ s'.os = s₁.os ∧ AllBare s'.gens) s₁) :
    WalkO q loose XP YP l.row.toRowW d [] (fun f vs => PySem.call f vs) := by
  intro w s₀ s₁ mg mb G Y fa o pm cd doc dV kV ho hd hcd hD hmg hg args vals as hpre hlay hrd hwl hlo
  obtain rfl : dV = .none := Dflts.none hD hdf
  obtain rfl : kV = .none := Dflts.noKw hD
  obtain ⟨a, vs, ns, rfl, rfl, hobj, hints, hlen⟩ := script_of hn hpre hwl
  refine enter_call (codeAny_mono (call w s₀ s₁ mg mb fa o pm cd doc a vs ns G Y ho (fd_plain hd) hcd hmg hobj hints hlen hg) fun r s' hq => ?_)
  obtain ⟨rfl, h2, h3, h4⟩ := hq
  exact ⟨.inl ⟨.bool true, .bool true, [], rfl, fun _ => rfl, .bool true, post_true l _, fun _ => ⟨List.Pairwise.nil, fun _ hm => (nomatch hm)⟩⟩, h2, h3, h4⟩

/-! ### rules over ANY heap (no ledger) from facts about the written part K: the library's own take a ledger (News) for what they write -/
section
variable {prog : Program} {w : World} {A : Around} {E : Value → Shared → Prop} {s : Shared} {K : Frag}

/-! the whole heap as the ledger: makes every rule that writes through a ledger a rule over any heap -/
end
end Att

namespace L2
open PySem PySem.Spec PyProof.Rows

theorem vals_ints : ∀ {vs : List Value} {ns : List Int}, IntsAre vs ns → Vals (ns.map V.int) vs
  | _, _, .nil => .nil
  | _, _, .cons n t h => .cons ⟨t, rfl⟩ (vals_ints h)

/-- nothing is tracked but the script, known to the object (or it is an object of the module) -/
noncomputable def Only (H : Hp) : Prop := ∀ b, H b = none ∨ Ex2 fun o xs => H b = some (.frz o (.lst xs))

/-- THE HEAD: the law's promise, at the heap behind the top. F, the promise of the law's def, may use that base is part of the heap (so K.In base, base.Ns mainGlobals mg stand in Mod) -/
theorem law_call {P : Program} {w : World} {K : PySem.W.Frag} {mg mb : Str → Option Value} {CX : CXT} {k : Nat} {fa a : Addr} {fd : FuncData} {x : Str} {sp : Sp} {s₁ : Shared} {vs : List Value} {ns : List Int}
    (KX : K.In s₁.heap) (hns : s₁.heap.Ns mainGlobals mg) (hb : s₁.heap.Ns builtinsNs mb) (hbb : ∀ x : Str, x ≠ "__name__" → mb x = bootBuiltins x) (hlim : s₁.heap.NoLimit) (hg : s₁.gens = #[])
    (ha : s₁.heap.get? a = some { cls := .type "list", data := .seq vs.toArray }) (hi : IntsAre vs ns) (hl : ns.length ≤ sizeLine) (hr : Room k callerA)
    (F : ∀ base : Heap, K.In base → base.Ns mainGlobals mg → FnOk P w K mg base CX k fa fd [x] sp) (hbind : ∀ (s : Shared) (u : Value), BindsTo s fd ⟨[u], []⟩ [(x, u)])
    (hsp : ∀ H : Hp, Only H → SqL K H a (ns.map V.int) → sp [.ref a] H (fun v _ => v = .bl true) fun _ _ _ => False)
    (hCX : ∀ H e s', CX [] H s₁ (fun _ _ _ => False) e s' → False) :
    codeAny (model P w) callerA (.call (.ref fa) ⟨[.ref a], []⟩) (fun r s' => r = .ok (.ret (.bool true)) ∧ OldK s₁.heap s'.heap ∧ s'.os = s₁.os ∧ AllBare s'.gens) s₁ := by
  have rv := vals_ints hi
  have lenV := hi.length
  -- from an abstract heap in which nothing but the script may be tracked
  have core : ∀ H : Hp, Only H → SqL K H a (ns.map V.int) → HOk P w H s₁.heap → (∀ b, H b ≠ none → b = a) → (H a ≠ none → K.lookup a = none) →
      codeAny (model P w) callerA (.call (.ref fa) ⟨[.ref a], []⟩) (fun r s' => r = .ok (.ret (.bool true)) ∧ OldK s₁.heap s'.heap ∧ s'.os = s₁.os ∧ AllBare s'.gens) s₁ := by
    intro H hO hS hok hA hK
    have base_of : ∀ {b : Addr} {o : Obj}, s₁.heap.get? b = some o → H b = none → (hidT s₁.heap H).get? b = some o := fun e n => hidT_get e n
    have noA : ∀ {b : Addr} {o : Obj} {es : Array DictEntry} {ep : Nat}, s₁.heap.get? b = some o → o.data = .dict es ep → H b = none := fun {b o es ep} e d => by
      cases q : H b with
      | none => rfl
      | some u =>
        have e' : b = a := hA b (by rw [q]; simp)
        subst e'
        rw [ha] at e; cases e
        have d' : Data.seq vs.toArray _ = Data.dict es ep := d
        cases d'
    have nsK : ∀ {b : Addr} {m : Str → Option Value}, s₁.heap.Ns b m → (hidT s₁.heap H).Ns b m := fun {b m} ⟨o, es, ep, e, d, r⟩ => ⟨o, es, ep, base_of e (noA e d), d, r⟩
    have hKb : K.In (hidT s₁.heap H) := fun b o e => base_of (KX b o e) (by
      cases q : H b with
      | none => rfl
      | some u =>
        have e' : b = a := hA b (by rw [q]; simp)
        subst e'
        rw [hK (by rw [q]; simp)] at e; cases e)
    have hM : Mod K mg (hidT s₁.heap H) := ⟨hKb, nsK hns, ⟨mb, nsK hb, hbb⟩, let ⟨mc, h1, h2⟩ := hlim; ⟨mc, nsK h1, h2⟩⟩
    have e0 : Env0 P w K mg (hidT s₁.heap H) callerA [] s₁ H := ⟨rfl, hM, fun b o e => of_hidT e, Nat.le_of_eq (hidT_size _ _), trivial, fun b hb => absurd (show b ∈ ([] : List Addr) from hb) (by simp), hok, .of_eq hg⟩
    refine codeAny_mono ((F _ hKb (nsK hns)).run callerA [] s₁ H ⟨[.ref a], []⟩ [.ref a] [.ref a] _ _ hr e0 (hbind s₁ (.ref a)) (.cons rfl .nil) (hsp H hO hS)) fun r s' h => ?_
    cases r with
    | error e => exact (hCX H e s' h).elim
    | ok fl =>
      cases fl with
      | next => exact False.elim h
      | brk => exact False.elim h
      | cont => exact False.elim h
      | ret u =>
        obtain ⟨v, H', os, bare, un, hok', r', q⟩ := h
        have q' : v = .bl true := q
        subst q'
        obtain rfl : u = Value.bool true := r'
        refine ⟨rfl, OldK.of_keep fun b o e => ?_, os, bare⟩
        cases q : H b with
        | none => exact un.keep b o e q (by intro z; exact absurd (show b ∈ ([] : List Addr) from z) (by simp)) (by simp)
        | some u =>
          rcases hO b with z | ⟨ob, xs, z⟩
          · rw [q] at z; cases z
          · have z2 := un.frzs b ob _ z
            obtain ⟨e1, _⟩ := hok b _ z
            obtain ⟨e2, _⟩ := hok' b _ z2
            rw [e] at e1; cases e1
            exact e2
  cases hk : K.lookup a with
  | some o =>
    -- the script is one of the module's own objects
    have e := KX a o hk
    rw [ha] at e
    cases e
    refine core (fun _ => none) (fun _ => .inl rfl) (.inr ⟨_, vs.toArray, _, hk, rfl, rfl, rfl, by rw [List.size_toArray, lenV]; exact hl, by simpa using rv⟩) (fun b u z => by have z' : (none : Option HO) = some u := z; cases z') (fun b z => absurd rfl z) fun z => absurd rfl z
  | none =>
    refine core (fun b => if b = a then some (.frz { cls := .type "list", data := .seq vs.toArray } (.lst (ns.map V.int))) else none) (fun b => ?_) (.inl (.inr ⟨{ cls := .type "list", data := .seq vs.toArray }, if_pos rfl⟩)) (fun b u z => ?_) (fun b z => ?_) fun _ => hk
    · by_cases hb : b = a
      · exact .inr ⟨_, _, if_pos hb⟩
      · exact .inl (if_neg hb)
    · by_cases hb : b = a
      · have z' := (if_pos hb).symm.trans z
        cases z'
        subst hb
        exact ⟨ha, by rw [List.length_map]; exact hl, vs, _, rv, ha⟩
      · have z' := (if_neg hb).symm.trans z
        cases z'
    · by_cases hb : b = a
      · exact hb
      · exact absurd (if_neg hb) z
end L2

namespace L2
open PySem PySem.Spec PyProof.Rows

/-- the goal that k_head leaves (case hc), from the law's promise. F gives the function object fd (K's own) once, then the promise over every base -/
theorem walk_of {l : PySem.W.OpenLaw} {n k : Nat} {q : Program} {loose : List Str} {XP : (Str → Option Value) → Heap → Prop} {YP : World → Heap → Prop} {d : DefRec} {K : Params → PySem.W.Frag} {CX : World → CXT} {sp : World → Sp} {x : Str}
    (hn : l.most = some n) (hn2 : n ≤ sizeLine) (hdf : d.params.defaults = []) (hr : Room k callerA)
    (hY : ∀ (w : World) (h : Heap), YP w h → (K w.params).In h)
    (F : ∀ (w : World) (mg : Str → Option Value) (fa : Addr) (h : Heap), (K w.params).In h → h.Ns mainGlobals mg → mg d.name = some (.ref fa) →
      ∃ fd : FuncData, (∀ (s : Shared) (u : Value), BindsTo s fd ⟨[u], []⟩ [(x, u)]) ∧
        ∀ base : Heap, (K w.params).In base → base.Ns mainGlobals mg → FnOk l.prog w (K w.params) mg base (CX w) k fa fd [x] (sp w))
    (hsp : ∀ (w : World) (H : Hp) (a : Addr) (ns : List Int), ns.length ≤ n → Only H → SqL (K w.params) H a (ns.map V.int) → sp w [.ref a] H (fun v _ => v = .bl true) fun _ _ _ => False)
    (hCX : ∀ (w : World) (H : Hp) (s : Shared) (e : Value) (s' : Shared), CX w [] H s (fun _ _ _ => False) e s' → False) :
    PySem.W.WalkO q loose XP YP l.row.toRowW d [] (fun f vs => PySem.call f vs) := by
  refine Att.attach_call hn hdf fun w s₀ s₁ mg mb fa o pm cd doc a vs ns G Y ho hd hcd hmg hobj hints hlen hg => ?_
  have KX := hY w _ Y
  obtain ⟨fd, hb, hF⟩ := F w mg fa _ KX G.T.g hmg
  exact law_call KX G.T.g G.T.b G.T.builtins G.T.nolimit hg hobj hints (Nat.le_trans hlen hn2) hr hF hb (fun H hO hS => hsp w H a ns hlen hO hS) fun H e s' => hCX w H s₁ e s'
end L2

/- THE LAST THEOREM (shape; LID, My.* are yours):
   My.Adr: a structure of the addresses that your layer names (classes, functions); My.Txt K t: a structure (Prop) of the equations over K;
   My.txt_mk : {K} {implicit addresses ..} (e1 : nsIn K mainGlobals "law" = some (some (.ref f))) (e2 : K.lookup f = some ⟨oc, od, .func (fnOf "law" "law" params body scope dV kV doc pm an cdv ct), sl⟩) (e3 : codeIn K cdv "law" = true) .. : ∃ t, My.Txt K t

set_option maxRecDepth 100000 in
set_option maxHeartbeats 0 in
theorem PySem.Challenge.cw_LID_holds : PySem.Challenge.rw_LID.Holds := by
  w_on; o_law; k_head; (case hw => w_witness2)
  k_fill
  refine L2.walk_of (l := PySem.Challenge.rw_LID) (n := 63) (k := 40) (x := "script") (CX := fun w => ..) (sp := fun _ => My.sp_law) rfl (by decide) rfl ⟨rfl, by decide, by decide⟩ (fun w h Y => PySem.W.kIn_of Y) ?F ?S ?C
  case F =>
    intro w mg fa h KX G hmg
    have T : ∃ t, My.Txt (L2.KOf KX) t := by
      dsimp only [L2.KOf]                          -- K must stand as «<heap const> w.params» for k_is
      refine' My.txt_mk ?e1 ?e2 ?e3 ..
      (case e1 => PySem.W.k_is)                    -- in the order: a name -> its address -> its object -> its parts
      (case e2 => PySem.W.k_is)
      ..
    obtain ⟨t, T⟩ := T
    have e0 := hmg.symm.trans (PySem.W.mg_of KX G T.law)
    cases e0                                       -- fa is the law's own address
    exact ⟨_, fun s u => .of_eq rfl, fun base kb nb => My.law_fn T kb nb⟩     -- if «.of_eq rfl» comes too early: refine' ⟨_, ?b, fun base kb nb => My.law_fn T kb nb⟩; exact fun s u => .of_eq rfl
  case S => exact fun w H a ns hl hO hS => ..
  case C => exact ..
(the tactic k_is has no namespace: write k_is) -/

/-! SHORT WORDS over the layer: a def of the text, its body, what a loop and a test want. -/
namespace L2
open PySem PySem.Spec PyProof.Rows

/-! ### the text by places -/
/-- the j-th statement of a class's body -/
noncomputable def inClass (s : Stmt) (j : Nat) : Stmt := match s with
  | .ClassDef _ _ _ body _ _ _ _ _ _ _ => body.getD j (.Pass ⟨0, 0, 0, 0⟩)
  | _ => .Pass ⟨0, 0, 0, 0⟩
noncomputable def defArgs (s : Stmt) : Arguments := match s with
  | .FunctionDef _ a _ _ _ _ _ _ _ _ => a
  | _ => { posonlyargs := [], args := [], vararg := none, kwonlyargs := [], kw_defaults := [], kwarg := none, defaults := [] }
noncomputable def defBody (s : Stmt) : List Stmt := match s with
  | .FunctionDef _ _ b _ _ _ _ _ _ _ => b
  | _ => []
noncomputable def defScope (s : Stmt) : Scope := match s with
  | .FunctionDef _ _ _ _ _ _ sc _ _ _ => sc
  | _ => { kind := .function, names := [], isGenerator := false, isCoroutine := false }

/-! ### no exception leaves a def -/
noncomputable abbrev CX0 : CXT := fun _ _ _ _ _ _ => False
noncomputable abbrev E0 : XK := fun _ _ _ => False
theorem pass0 {X : Cx} : Passes CX0 X E0 := fun _ _ _ _ _ _ _ h => h.elim

/-! ### a def (or method) of the text as it stands behind the top -/
structure Fun (K : PySem.W.Frag) (x qual : Str) (st : Stmt) (f : Addr) (fd : FuncData) : Prop where
  ex : ∃ (oc : Value) (od : Option Addr) (kV doc pm : Value) (an : Option Addr) (cdv ct : Value) (osl : Array (Option Value)),
    fd = PySem.W.fnOf x qual (defArgs st) (defBody st) (defScope st) .none kV doc pm an cdv ct ∧ K.lookup f = some ⟨oc, od, .func fd, osl⟩ ∧ PySem.W.codeIn K cdv qual = true
  kp : PySem.W.keepIn K (.ref f) = true
section
variable {P : Program} {w : World} {K : PySem.W.Frag} {mg : Str → Option Value} {base : Heap}
/-- THE RULE for a def: its body as a term of rules, and the reading of that term -/
theorem Fun.ok {x qual : Str} {st : Stmt} {f : Addr} {fd : FuncData} {N ps : List Str} {k : Nat} {sp : Sp} (F : Fun K x qual st f fd) (S : FnScope N ps (defScope st)) (len : ∀ vs H Q E, sp vs H Q E → vs.length = ps.length)
    (hbody : ∀ (cdv : Value) (A : Around) (outer : List Env) (s : Shared) (H : Hp) (vs : List V) (Q : VK) (E : XK), Room k (A.deeper (envOfC qual (defScope st) s.heap.objs.size f cdv)) → sp vs H Q E →
      ∃ t, PSs (cxOf CX0 P w K mg base N qual (defScope st) f cdv A outer s H E).nox (defBody st) t ∧ t { nx := fun _ H' => Q .non H', rt := Q } (start N vs) H) : FnOk P w K mg base CX0 (k + 1) f fd ps sp := by
  obtain ⟨oc, od, kV, doc, pm, an, cdv, ct, osl, rfl, lk, hcd⟩ := F.ex
  refine fn_of lk hcd S len fun A outer s H vs Q E hr hsp => ?_
  obtain ⟨t, h, q⟩ := hbody cdv A outer s H vs Q E hr hsp
  exact ⟨t, h.nox, q⟩
/-- how its arguments bind (no defaults): h is «fun _ _ _ _ _ _ us hl => match us, hl with | [_, _], _ => rfl», one _ a parameter -/
theorem Fun.binds {x qual : Str} {st : Stmt} {f : Addr} {fd : FuncData} {ps : List Str} (F : Fun K x qual st f fd)
    (h : ∀ (kV doc pm : Value) (an : Option Addr) (cdv ct : Value) (us : List Value), us.length = ps.length → bindArgs (PySem.W.fnOf x qual (defArgs st) (defBody st) (defScope st) .none kV doc pm an cdv ct) ⟨us, []⟩ = pure (ps.zip us)) : Binds K fd ps [] := by
  obtain ⟨oc, od, kV, doc, pm, an, cdv, ct, osl, rfl, lk, hcd⟩ := F.ex
  exact .all (h kV doc pm an cdv ct)
theorem fun_mk {x qual : Str} {st : Stmt} {f : Addr} {oc : Value} {od an : Option Addr} {osl : Array (Option Value)} {kV doc pm cdv ct : Value} (l : K.lookup f = some ⟨oc, od, .func (PySem.W.fnOf x qual (defArgs st) (defBody st) (defScope st) .none kV doc pm an cdv ct), osl⟩)
    (c : PySem.W.codeIn K cdv qual = true) (k : PySem.W.keepIn K (.ref f) = true) : Fun K x qual st f (PySem.W.fnOf x qual (defArgs st) (defBody st) (defScope st) .none kV doc pm an cdv ct) := ⟨⟨oc, od, kV, doc, pm, an, cdv, ct, osl, rfl, l, c⟩, k⟩
end
theorem hu_of {A : Around} {k : Nat} (hr : Room k A) : A.units + 1 < cLine := Nat.lt_of_le_of_lt (Nat.add_le_add_left (by decide : 1 ≤ 64) _) hr.units
/-! ### expressions in short: the name that stands in the i-th slot -/
section
variable {X : Cx}
theorem pv (i : Nat) {x : Str} {pos : Pos} (hN : X.N[i]? = some x := by rfl) (hv : Vis X.env.scope x := by first | exact Or.inl rfl | exact Or.inr (Or.inl rfl) | exact Or.inr (Or.inr rfl)) (hd : (x == ("__debug__" : Str)) = false := by decide)
    (hcd : (x == ("__classdict__" : Str)) = false := by decide) : PE X (.Name x pos) (tVar i) := pe_var hN hv hd hcd
end

/-! ### tests -/
theorem iteF {A B : Prop} (h : B) : if false = true then A else B := by
  rw [if_neg Bool.false_ne_true]
  exact h
theorem ite2 {c A B : Prop} [Decidable c] (h1 : c → A) (h2 : ¬ c → B) : if c then A else B := by
  by_cases h : c
  · rw [if_pos h]
    exact h1 h
  · rw [if_neg h]
    exact h2 h
/-! ### heaps -/
/-- all that was tracked is as it was -/
noncomputable def Same (H H' : Hp) : Prop := ∀ b o, H b = some o → H' b = some o
theorem Same.refl (H : Hp) : Same H H := fun _ _ h => h
theorem Same.trans {H H1 H2 : Hp} (a : Same H H1) (b : Same H1 H2) : Same H H2 := fun c o h => b c o (a c o h)
theorem Same.free {H H' : Hp} (e : Same H H') {l : Addr} (h : H' l = Option.none) : H l = Option.none := by
  cases q : H l with
  | none => rfl
  | some o =>
    rw [e l o q] at h
    cases h
theorem Same.seq {K : PySem.W.Frag} {H H' : Hp} {a : Addr} {xs : List V} (e : Same H H') (h : SqL K H a xs) : SqL K H' a xs := by
  rcases h with (h | ⟨o, h⟩) | h
  · exact .inl (.inl (e _ _ h))
  · exact .inl (.inr ⟨o, e _ _ h⟩)
  · exact .inr h

end L2


namespace L2
open PySem PySem.Spec PyProof.Rows
section
variable {X : Cx}
end
end L2

namespace L2
open PySem PySem.Spec PyProof.Rows

/-! ### a dict's pairs: keys that differ -/
section
variable {κ : Type} [DecidableEq κ]
end
end L2

set_option Elab.async false
set_option linter.all false
set_option maxRecDepth 100000
set_option maxHeartbeats 4000000
/-! comprehensions over the hand layer -/
namespace L2
/-- what is known, taken apart with the goal said once -/
class Elim (P : Prop) (F : outParam (Prop → Prop)) : Prop where
  el : P → ∀ G : Prop, F G → G
noncomputable instance (priority := low) elimBase {P : Prop} : Elim P (fun G => P → G) := ⟨fun h _ k => k h⟩
noncomputable instance elimEx {α : Sort u} {P : α → Prop} {F : α → Prop → Prop} [h : ∀ x, Elim (P x) (F x)] : Elim (∃ x, P x) (fun G => ∀ x, F x G) := ⟨fun ⟨x, hx⟩ G k => (h x).el hx G (k x)⟩
noncomputable instance elimAnd {A B : Prop} {F : Prop → Prop} [h : Elim B F] : Elim (A ∧ B) (fun G => A → F G) := ⟨fun ⟨a, b⟩ G k => h.el b G (k a)⟩
noncomputable instance elimEx2 {α0 α1 : Type} {P : α0 → α1 → Prop} {F : α0 → α1 → Prop → Prop} [i : ∀ x0 x1, Elim (P x0 x1) (F x0 x1)] : Elim (Ex2 P) (fun G => ∀ x0 x1, F x0 x1 G) := ⟨fun ⟨x0, x1, h⟩ G k => (i x0 x1).el h G (k x0 x1)⟩
noncomputable instance elimEx3 {α0 α1 α2 : Type} {P : α0 → α1 → α2 → Prop} {F : α0 → α1 → α2 → Prop → Prop} [i : ∀ x0 x1 x2, Elim (P x0 x1 x2) (F x0 x1 x2)] : Elim (Ex3 P) (fun G => ∀ x0 x1 x2, F x0 x1 x2 G) := ⟨fun ⟨x0, x1, x2, h⟩ G k => (i x0 x1 x2).el h G (k x0 x1 x2)⟩
noncomputable instance elimEx4 {α0 α1 α2 α3 : Type} {P : α0 → α1 → α2 → α3 → Prop} {F : α0 → α1 → α2 → α3 → Prop → Prop} [i : ∀ x0 x1 x2 x3, Elim (P x0 x1 x2 x3) (F x0 x1 x2 x3)] : Elim (Ex4 P) (fun G => ∀ x0 x1 x2 x3, F x0 x1 x2 x3 G) := ⟨fun ⟨x0, x1, x2, x3, h⟩ G k => (i x0 x1 x2 x3).el h G (k x0 x1 x2 x3)⟩
noncomputable instance elimEx5 {α0 α1 α2 α3 α4 : Type} {P : α0 → α1 → α2 → α3 → α4 → Prop} {F : α0 → α1 → α2 → α3 → α4 → Prop → Prop} [i : ∀ x0 x1 x2 x3 x4, Elim (P x0 x1 x2 x3 x4) (F x0 x1 x2 x3 x4)] : Elim (Ex5 P) (fun G => ∀ x0 x1 x2 x3 x4, F x0 x1 x2 x3 x4 G) := ⟨fun ⟨x0, x1, x2, x3, x4, h⟩ G k => (i x0 x1 x2 x3 x4).el h G (k x0 x1 x2 x3 x4)⟩
end L2
namespace L2
open PySem PySem.Spec PyProof.Rows

noncomputable abbrev noE : Value → Shared → Prop := fun _ _ => False
theorem noE_to {α : Type} {M : Model} {A : Around} {t : Sem α} {Q : α → Shared → Prop} {E : Value → Shared → Prop} {s : Shared} (h : wpAny M A t Q noE s) : wpAny M A t Q E s :=
  wpAny_mono h (fun _ _ q => q) fun _ _ z => z.elim

theorem addr_ne {a b : Addr} {n : Nat} (h : a < n) (h' : n ≤ b) : a ≠ b := fun e => absurd (Nat.lt_of_lt_of_le h h') (by rw [e]; exact Nat.lt_irrefl _)
theorem addr_ne' {a b : Addr} {n : Nat} (h : a < n) (h' : n ≤ b) : b ≠ a := fun e => addr_ne h h' e.symm

theorem closure_go (env : Env) : ∀ (names : List (Str × NameKind)) (acc : List (Str × Addr)),
    (∀ y ∈ names, y.2 = .free → ∃ c, env.cells.lookup y.1 = some c) → (∀ n c, acc.lookup n = some c → env.cells.lookup n = some c) →
    ∃ cl, (forIn names acc fun (x : Str × NameKind) (cs : List (Str × Addr)) => (if (x.2 == NameKind.free) = true then do
        let a ← cellOf env x.1
        pure (ForInStep.yield ((x.1, a) :: cs)) else pure (ForInStep.yield cs) : Sem (ForInStep (List (Str × Addr))))) = pure cl ∧
      (∀ n c, cl.lookup n = some c → env.cells.lookup n = some c) ∧ (∀ n c, acc.lookup n = some c → ∃ c', cl.lookup n = some c') ∧ ∀ y ∈ names, y.2 = .free → ∃ c, cl.lookup y.1 = some c
  | [], acc, _, h2 => ⟨acc, rfl, h2, fun _ c h => ⟨c, h⟩, fun _ h => nomatch h⟩
  | (n, k) :: r, acc, h1, h2 => by
    have hr : ∀ y ∈ r, y.2 = .free → ∃ c, env.cells.lookup y.1 = some c := fun y hy => h1 y (List.mem_cons_of_mem _ hy)
    by_cases hk : k = .free
    · subst hk
      obtain ⟨c, hc⟩ := h1 (n, .free) List.mem_cons_self rfl
      obtain ⟨cl, e, p1, p2, p3⟩ := closure_go env r ((n, c) :: acc) hr (fun m d hm => by
        rw [List.lookup_cons] at hm
        by_cases q : m == n
        · rw [q] at hm
          have : m = n := by simpa using q
          subst this
          cases hm
          exact hc
        · have q' : (m == n) = false := by simpa using q
          rw [q'] at hm
          exact h2 m d hm)
      refine ⟨cl, ?_, p1, fun m d hm => ?_, fun y hy hf => ?_⟩
      · rw [List.forIn_cons]
        rw [← e]
        show (cellOf env n >>= fun a => _) >>= _ = _
        unfold cellOf
        rw [hc]
        rfl
      · by_cases q : m = n
        · subst q
          exact p2 m c (by rw [List.lookup_cons]; simp)
        · exact p2 m d (by rw [List.lookup_cons]; simp only [beq_eq_false_iff_ne.mpr q]; exact hm)
      · rcases List.mem_cons.mp hy with rfl | hy
        · exact p2 n c (by rw [List.lookup_cons]; simp)
        · exact p3 y hy hf
    · obtain ⟨cl, e, p1, p2, p3⟩ := closure_go env r acc hr h2
      refine ⟨cl, ?_, p1, p2, fun y hy hf => ?_⟩
      · rw [List.forIn_cons, ← e]
        have hb : (k == NameKind.free) = false := by simpa using hk
        simp only [hb, Bool.false_eq_true, if_false]
        rfl
      · rcases List.mem_cons.mp hy with rfl | hy
        · exact absurd hf hk
        · exact p3 y hy hf
theorem closure_of {scope : Scope} {env : Env} (h : ∀ y ∈ scope.names, y.2 = .free → ∃ c, env.cells.lookup y.1 = some c) :
    ∃ cl, closureFor scope env = pure cl ∧ (∀ n c, cl.lookup n = some c → env.cells.lookup n = some c) ∧ ∀ y ∈ scope.names, y.2 = .free → ∃ c, cl.lookup y.1 = some c := by
  obtain ⟨cl, e, p1, _, p3⟩ := closure_go env scope.names [] h (fun n c h => by simp at h)
  refine ⟨cl, ?_, p1, p3⟩
  unfold closureFor
  refine Eq.trans ?_ (congrArg (fun m => m >>= fun (cs : List (Str × Addr)) => (pure cs : Sem _)) e)
  rfl

noncomputable def testsOf (ifs : List Expr) (env : Env) : Sem Bool := forIn ifs true fun c r => if r = true then do let ok ← isTrue c env (eval c env); pure (ForInStep.yield ok) else pure (ForInStep.yield r)

section
variable {prog : Program} {w : World} {A : Around} {R : Result → Shared → Prop} {s : Shared}
theorem comp_turns {elt target iter : Expr} {ifs : List Expr} {scope : Scope} {pos : Pos} {it acc : Value} {env : Env} (I : Nat → Shared → Prop)
    (turn : ∀ n s, I n s → wpAny (model prog w) A (pyNext it) (fun r s1 => match r with
      | none => R (.ok .next) s1
      | some v => wpAny (model prog w) A (letOwnedTupleGo target it v) (fun _ s1' => wpAny (model prog w) A (assign target env v) (fun _ s2 =>
          wpAny (model prog w) A (testsOf ifs env) (fun ok s3 =>
            if ok = true then wpAny (model prog w) A (eval elt env) (fun x s4 =>
              wpAny (model prog w) A (call (.builtin "list.append") [acc, x]) (fun _ s5 => ∃ m, m < n ∧ I m s5) noE s4) noE s3
            else ∃ m, m < n ∧ I m s3) noE s2) noE s1') noE s1) noE s)
    (n : Nat) (h : I n s) : codeAny (model prog w) A (.compLoop (.ListComp elt [⟨target, iter, ifs, 0⟩] scope pos) 0 it acc env) R s := by
  refine codeAny_loop rfl I (fun n s hI => (show wpAny _ A (Sem.onRaise (compTurn (.ListComp elt [⟨target, iter, ifs, 0⟩] scope pos) 0 it acc env) (fun x => do noteFrame x env; theTreesLotGoes x)) _ _ s from wpAny_noted ?_)) n h
  rw [compTurn_list]
  refine wpAny_bind (wpAny_standAt (wpAny_bind (noE_to (thn (turn n s hI) fun r s1 h1 => ?_))))
  cases r with
  | none => exact wpAny_pure h1
  | some v =>
    refine wpAny_bind (noE_to (thn h1 fun _ s1' h1' => ?_))
    refine wpAny_bind (noE_to (thn h1' fun _ s2 h2 => wpAny_bind (noE_to (thn h2 fun ok s3 h3 => ?_))))
    cases ok with
    | false => exact wpAny_pure ⟨rfl, h3⟩
    | true => exact wpAny_bind (wpAny_bind (noE_to (thn h3 fun x s4 h4 => wpAny_bind (noE_to (thn h4 fun _ s5 h5 => wpAny_pure (wpAny_pure ⟨rfl, h5⟩))))))
end

theorem HOk.adopt {P : Program} {w : World} {H : Hp} {h : Heap} {a : Addr} {o : HO} (x : HOk P w H h) (hn : H a = none) (new : ObjOk P w (upd H a o) h a o) : HOk P w (upd H a o) h := fun b u e => by
  by_cases hb : b = a
  · subst hb; rw [upd_same] at e; cases e; exact new
  · rw [upd_ne hb] at e
    exact (x b u e).stay (fun c v _ q => q) (fun c q => by rw [upd_ne (ne_of_none q hn)]; exact q) fun c xs q => by rw [upd_ne (ne_of_none q hn)]; exact q

/-- what a comprehension's block stands in: Nc its own names, Fc the captured ones, js their places among the names around -/
structure CompOk (X : Cx) (scope : Scope) (Nc Fc : List Str) (js : List Nat) : Prop where
  kind : scope.kind = .function
  nocell : ∀ y ∈ scope.names, y.2 ≠ .cell
  names : ∀ y ∈ scope.names, y.2 = .local → scope.names.lookup y.1 = some .local
  free : ∀ y ∈ scope.names, y.2 = .free → X.env.kindOf y.1 = some .cell ∨ X.env.kindOf y.1 = some .free
  frees : ∀ (k : Nat) (x : Str), Fc[k]? = some x → scope.names.lookup x = some .free ∧ ∃ j, js[k]? = some j ∧ X.N[j]? = some x
  lens : js.length = Fc.length

noncomputable def cvals (σ : St) (js : List Nat) : St := js.map fun j => (σ[j]?).join

noncomputable def cxC (X : Cx) (Nc Fc : List Str) (scope : Scope) (cl : List (Str × Addr)) (C : Addr) (s : Shared) (H : Hp) (fp : List Addr) : Cx :=
  { X with N := Nc ++ Fc, s₀ := s, H₀ := H, env := compEnvC scope cl C X.env, outer := X.stack, stack := X.stack, ex := fp, fn := fun _ => false, pn := [], xe := noE }

theorem relabel_free {env : Env} : ∀ {names : List (Str × NameKind)} {x : Str} {k : NameKind}, (names.map fun (n, k) => if (k == NameKind.free && env.scope.kind == .function && env.kindOf n == some .cell) then (n, NameKind.cell) else (n, k)).lookup x = some k →
    names.lookup x = some k ∨ (k = .cell ∧ names.lookup x = some .free)
  | [], _, _, h => by simp at h
  | (n, k0) :: r, x, k, h => by
    have ih := @relabel_free env r x k
    rw [List.map_cons] at h
    dsimp only at h
    by_cases hx : x = n
    · subst hx
      by_cases hc : (k0 == NameKind.free && env.scope.kind == .function && env.kindOf x == some .cell) = true
      · rw [if_pos hc] at h
        simp only [List.lookup_cons, beq_self_eq_true] at h
        have hk : k0 = .free := by
          have := (Bool.and_eq_true _ _).mp ((Bool.and_eq_true _ _).mp hc).1
          simpa using this.1
        subst hk
        cases h
        exact .inr ⟨rfl, by simp only [List.lookup_cons, beq_self_eq_true]⟩
      · rw [if_neg hc] at h
        simp only [List.lookup_cons, beq_self_eq_true] at h ⊢
        exact .inl h
    · have hb : (x == n) = false := beq_eq_false_iff_ne.mpr hx
      have e : List.lookup x ((if (k0 == NameKind.free && env.scope.kind == .function && env.kindOf n == some .cell) = true then (n, NameKind.cell) else (n, k0)) :: (r.map fun (n, k) => if (k == NameKind.free && env.scope.kind == .function && env.kindOf n == some .cell) then (n, NameKind.cell) else (n, k))) = some k := h
      have e2 : List.lookup x (r.map fun (n, k) => if (k == NameKind.free && env.scope.kind == .function && env.kindOf n == some .cell) then (n, NameKind.cell) else (n, k)) = some k := by
        by_cases hc : (k0 == NameKind.free && env.scope.kind == .function && env.kindOf n == some .cell) = true
        · rw [if_pos hc] at e; simp only [List.lookup_cons, hb] at e; exact e
        · rw [if_neg hc] at e; simp only [List.lookup_cons, hb] at e; exact e
      simp only [List.lookup_cons, hb]
      exact ih e2
theorem relabel_of_free {env : Env} : ∀ {names : List (Str × NameKind)} {x : Str}, names.lookup x = some .free →
    (names.map fun (n, k) => if (k == NameKind.free && env.scope.kind == .function && env.kindOf n == some .cell) then (n, NameKind.cell) else (n, k)).lookup x = some .cell ∨
    (names.map fun (n, k) => if (k == NameKind.free && env.scope.kind == .function && env.kindOf n == some .cell) then (n, NameKind.cell) else (n, k)).lookup x = some .free
  | [], _, h => by simp at h
  | (n, k0) :: r, x, h => by
    have ih := @relabel_of_free env r x
    rw [List.map_cons]
    dsimp only
    by_cases hx : x = n
    · subst hx
      simp only [List.lookup_cons, beq_self_eq_true] at h
      cases h
      by_cases hc : (NameKind.free == NameKind.free && env.scope.kind == .function && env.kindOf x == some .cell) = true
      · rw [if_pos hc]; left; simp only [List.lookup_cons, beq_self_eq_true]
      · rw [if_neg hc]; right; simp only [List.lookup_cons, beq_self_eq_true]
    · have hb : (x == n) = false := beq_eq_false_iff_ne.mpr hx
      simp only [List.lookup_cons, hb] at h
      by_cases hc : (k0 == NameKind.free && env.scope.kind == .function && env.kindOf n == some .cell) = true
      · rw [if_pos hc]; simp only [List.lookup_cons, hb]; exact ih h
      · rw [if_neg hc]; simp only [List.lookup_cons, hb]; exact ih h
theorem mem_of_lookup' : ∀ {l : List (Str × NameKind)} {x : Str} {k : NameKind}, l.lookup x = some k → (x, k) ∈ l := fun h => PySem.mem_of_lookup h

section
variable {X : Cx} {pins : List (Addr × Obj)} {σ : St} {H : Hp} {s : Shared} {scope : Scope} {Nc Fc : List Str} {js : List Nat} {cl : List (Str × Addr)} {C D : Addr} {fp : List Addr}

theorem cxC_kind {x : Str} : (cxC X Nc Fc scope cl C s H fp).env.kindOf x = (scope.names.map fun (n, k) => if (k == NameKind.free && X.env.scope.kind == .function && X.env.kindOf n == some .cell) then (n, NameKind.cell) else (n, k)).lookup x := rfl

theorem cxC_ok (I : Inv X pins σ H s) (c : CompOk X scope Nc Fc js) (hsub : ∀ n c, cl.lookup n = some c → X.env.cells.lookup n = some c) (hhas : ∀ y ∈ scope.names, y.2 = .free → ∃ c, cl.lookup y.1 = some c)
    (hC : s.heap.objs.size ≤ C) (hf : ∀ b ∈ fp, FpOk X pins H b) (ho : ∀ b ∈ fp, ∃ o, s.heap.get? b = some o) : (cxC X Nc Fc scope cl C s H fp).Ok where
  mod := I.ok.mod
  kind := c.kind
  glob := I.ok.glob
  blt := I.ok.blt
  above := hC
  inj := fun x y a h1 h2 => I.ok.inj x y a (hsub _ _ h1) (hsub _ _ h2)
  has := fun x hx => by
    have key : scope.names.lookup x = some .free := by
      rw [cxC_kind] at hx
      rcases hx with h | h
      · rcases relabel_free h with q | ⟨_, q⟩
        · exact absurd rfl (c.nocell _ (mem_of_lookup' q))
        · exact q
      · rcases relabel_free h with q | ⟨q, _⟩
        · exact q
        · cases q
    exact hhas _ (mem_of_lookup' key) rfl
  cab := fun _ _ h => nomatch h
  hd := I.ok.hd
  frames := I.ok.frames
  stk := .inl rfl
  exf := fun b hb => ⟨fun z => by
      obtain ⟨o, e⟩ := ho b hb
      exact addr_ne (Heap.lt_size e) hC z, fun x a e z => (hf b hb).2.2.2.2.1 x a (hsub _ _ e) z⟩
  bs := fun b o e => I.bs b o e
  bsz := Nat.le_trans I.ok.bsz I.sz
  noex := fun b o e hb => by
    rcases (hf b hb).2.2.2.1 with z | z
    · exact I.ok.noex b o e z
    · exact absurd (Nat.lt_of_lt_of_le (Heap.lt_size (I.ok.bs b o e).1) z) (Nat.lt_irrefl _)
  exfs := fun b hb z => by
    rcases List.mem_cons.mp (I.stkSub b z) with q | q
    · exact (hf b hb).2.1 q
    · exact (hf b hb).2.2.1 q
  funs := I.stack
  frf := I.stkFree

/-- the state at the block's entry -/
theorem cxC_inv (I : Inv X pins σ H s) (c : CompOk X scope Nc Fc js) (hsub : ∀ n c, cl.lookup n = some c → X.env.cells.lookup n = some c) (hhas : ∀ y ∈ scope.names, y.2 = .free → ∃ c, cl.lookup y.1 = some c)
    (hC : s.heap.objs.size ≤ C) (hD : s.heap.objs.size ≤ D) (hDC : D ≠ C) (hf : ∀ b ∈ fp, FpOk X pins H b) (ho : ∀ b ∈ fp, ∃ o, s.heap.get? b = some o) {h1 : Heap} {t1 : Nat} {m : Str → Option Value} {ob : Obj}
    (hk : ∀ b o, s.heap.get? b = some o → h1.get? b = some o) (hm : h1.Ns C m) (hob : h1.get? D = some ob) (hnc : ∀ v, ob.data ≠ .cell v) :
    Inv (cxC X Nc Fc scope cl C s H fp) [(D, ob)] (List.replicate Nc.length none ++ cvals σ js) H { s with heap := h1, toks := t1 } := by
  refine ⟨cxC_ok I c hsub hhas hC hf ho, rfl, I.bare, Un.kept hk, ⟨m, hm, fun i x v e1 e2 e3 => ?_⟩, fun x a e => ?_, I.hok.fresh hC, fun x a e => I.freeC x a (hsub x a e), fun p hp => ?_, I.hok.kept hk, ?_⟩
  · have e1 : (Nc ++ Fc)[i]? = some x := e1
    have e2 : (List.replicate Nc.length none ++ cvals σ js)[i]? = some (some v) := e2
    by_cases hi : i < Nc.length
    · rw [List.getElem?_append_left (by simpa using hi), List.getElem?_replicate] at e2
      split at e2 <;> cases e2
    · rw [List.getElem?_append_right (by (first | lia | omega))] at e1
      rw [List.getElem?_append_right (by rw [List.length_replicate]; (first | lia | omega)), List.length_replicate] at e2
      obtain ⟨hfr, j, hj, hN⟩ := c.frees _ _ e1
      have hv : σ[j]? = some (some v) := by
        unfold cvals at e2
        rw [List.getElem?_map, hj] at e2
        have e2 : some ((σ[j]?).join) = some (some v) := e2
        cases q : σ[j]? with
        | none => rw [q] at e2; cases e2
        | some z => rw [q] at e2; cases e2; rfl
      have kx := c.free _ (mem_of_lookup' hfr) rfl
      obtain ⟨m0, hn0, hl0⟩ := I.loc
      have vis : Vis X.env.scope x := by
        rcases kx with k | k
        · exact .inr (.inl k)
        · exact .inr (.inr k)
      obtain ⟨u, ru, lk⟩ := hl0 j x v hN hv vis
      refine ⟨u, ru, .inr ⟨?_, ?_⟩⟩
      · rw [cxC_kind]; exact relabel_of_free hfr
      · obtain ⟨a, ha⟩ := hhas _ (mem_of_lookup' hfr) rfl
        refine ⟨a, ha, ?_⟩
        rcases lk with ⟨k, _⟩ | ⟨_, a', ha', hcell⟩
        · rcases kx with q | q <;> (rw [k] at q; cases q)
        · have e := hsub _ _ ha
          dsimp only at e
          rw [ha'] at e; cases e
          exact hcell.keeps hk
  · obtain ⟨v, z⟩ := I.cell x a (hsub x a e)
    exact ⟨v, z.keeps hk⟩
  · have hp : p = (D, ob) := by
      have : p ∈ [(D, ob)] := hp
      simpa using this
    subst hp
    refine ⟨hob, I.hok.fresh hD, hDC, fun z => ?_, hnc⟩
    have z : D ∈ frs X.stack := z
    rcases List.mem_cons.mp (I.stkSub D z) with q | q
    · exact addr_ne' I.lt hD q
    · exact I.nofs hD q
  · show (List.replicate Nc.length none ++ cvals σ js).length = (Nc ++ Fc).length
    unfold cvals
    rw [List.length_append, List.length_append, List.length_replicate, List.length_map, c.lens]
end

/-- tests of a clause: none, or one -/
noncomputable def PTs (X : Cx) (ifs : List Expr) (t : TT) : Prop :=
  ∀ ⦃pins : List (Addr × Obj)⦄ (s : Shared) (σ : St) (H : Hp) (Q : Bool → Hp → Prop), Inv X pins σ H s → t σ H Q → wpAny (model X.prog X.w) X.A (testsOf ifs X.env) (TP X pins σ Q) X.xe s
noncomputable def tYes : TT := fun _ H Q => Q true H
theorem pts_nil {X : Cx} : PTs X [] tYes := fun _ _ _ H _ I h => wpAny_tests_nil ⟨H, I, h⟩
/-- the reading: W i m ys H is what holds ahead of turn i, m falls -/
noncomputable def CompW (J : It) (n : Nat) (js : List Nat) (g : TG) (tc : TT) (te : TE) (σ : St) (H1 : Hp) (fin : List V → Hp → Prop) : Prop :=
  ∃ W : Nat → Nat → List V → Hp → Prop, (∃ m, W 0 m [] H1) ∧ ∀ i m ys H, W i m ys H →
    (J.stop i H ∧ fin ys H) ∨
    (J.go i H ∧ ys.length < sizeLine ∧ ∀ x H', J.yld i H x H' → g x (List.replicate n none ++ cvals σ js) H' fun σ2 H2 => tc σ2 H2 fun b H3 =>
      if b = true then te σ2 H3 fun y H4 => ∃ m', m' < m ∧ W (i + 1) m' (ys ++ [y]) H4 else ∃ m', m' < m ∧ W (i + 1) m' ys H3)
noncomputable def tComp (wi : TI) (n : Nat) (js : List Nat) (g : TG) (tc : TT) (te : TE) : TE := fun σ H Q => wi σ H fun J H1 =>
  CompW J n js g tc te σ H1 fun ys H2 => ∀ p, H2 p = none → Q (.ref p) (upd H2 p (.lst ys))

/-- a target that stores below place n alone -/
noncomputable def Gk (n : Nat) (g : TG) : Prop := ∀ x σ H Q, g x σ H Q → g x σ H fun σ' H' => Q σ' H' ∧ (∀ j, n ≤ j → σ'[j]? = σ[j]?) ∧ σ'.length = σ.length
theorem gk_name {n i : Nat} (h : i < n := by decide) : Gk n (gName i) := fun x σ H Q q => ⟨q, fun j hj => List.getElem?_set_ne (by (first | lia | omega)), List.length_set⟩
/-- the block, to the state behind it -/
theorem comp_core {X : Cx} {elt tg iter : Expr} {ifs : List Expr} {scope : Scope} {pos : Pos} {Nc Fc : List Str} {js : List Nat} {wi : TI} {g : TG} {tc : TT} {te : TE} {use : Option (Value → Sem Unit)} {QV : Value → Shared → Prop}
    (hcalm : X.calm = true) (c : CompOk X scope Nc Fc js) (hi : PI X tg iter wi)
    (hg : ∀ cl C s H fp, PG (cxC X Nc Fc scope cl C s H fp) tg g) (htc : ∀ cl C s H fp, PTs (cxC X Nc Fc scope cl C s H fp) ifs tc) (hte : ∀ cl C s H fp, PE (cxC X Nc Fc scope cl C s H fp) elt te) (gk : Gk Nc.length g)
    {pins : List (Addr × Obj)} {s : Shared} {σ : St} {H : Hp} {fin : List V → Hp → Prop} (I : Inv X pins σ H s)
    (h : wi σ H fun J H1 => CompW J Nc.length js g tc te σ H1 fin)
    (behind : ∀ (C D : Addr) (m : Str → Option Value) (ys : List V) (H2 : Hp) (s2 : Shared), Inv X pins σ (upd H2 D (.lst ys)) s2 → s2.heap.Ns C m → FpOk X pins (upd H2 D (.lst ys)) C → H2 D = none → fin ys H2 → compPost (model X.prog X.w) X.A X.xe use QV (.ref D) C (.ok .next) s2)
    (hs : ∀ x, foldedSetIterable iter X.env x = pure x) :
    wpAny (model X.prog X.w) X.A (comprehension (.ListComp elt [⟨tg, iter, ifs, 0⟩] scope pos) scope X.env (firstIterPos [⟨tg, iter, ifs, 0⟩] pos) (newList []) false (eval iter X.env) use) QV X.xe s := by
  obtain ⟨cl, hclos, hsub, hhas⟩ := closure_of (scope := scope) (env := X.env) fun y hy hf => I.ok.has y.1 (c.free y hy hf)
  refine wpAny_comprehension_free (use := use) rfl hs hclos c.kind c.names ?_
  refine thn (hi s σ H _ I h) fun v s1 h1 => thn h1 fun itv s2 h2 => ?_
  obtain ⟨it, fp, tn, J, H2, e, I2, T, st2, f2, W, ⟨m0, w0⟩, turn⟩ := h2
  subst e
  refine wpAny_newObj_type (wpAny_newFunctionEnv c.nocell (by intro y hy; simp at hy) (fun h1 hns1 hsb1 => ?_) c.kind)
  dsimp only at hns1 hsb1 ⊢
  generalize hG : s2.heap.push { cls := .type "list", dict := none, data := .seq ([] : List Value).toArray } = G at hns1 hsb1 ⊢
  have hC : G.objs.size = s2.heap.objs.size + 1 := by rw [← hG, Heap.size_push]
  have hDC : s2.heap.objs.size ≠ G.objs.size := by rw [hC]; exact Nat.ne_of_lt (Nat.lt_succ_self _)
  have hle : s2.heap.objs.size ≤ G.objs.size := by rw [hC]; exact Nat.le_succ _
  have old : ∀ b o, s2.heap.get? b = some o → h1.get? b = some o := fun b o e =>
    hsb1.extBut b o (addr_ne (Heap.lt_size e) hle) (Heap.get?_push_of_some _ (hG ▸ Heap.get?_push_of_some _ e))
  have hacc : h1.PlainList s2.heap.objs.size #[] := ⟨_, hsb1.extBut _ _ hDC (Heap.get?_push_of_some _ (hG ▸ Heap.get?_push_size _ rfl))⟩
  obtain ⟨n0, hacc⟩ := hacc
  have fo : ∀ b ∈ fp, ∃ o, s2.heap.get? b = some o := fun b hb => let ⟨o, e, _⟩ := T.obj 0 _ st2 b hb; ⟨o, e⟩
  have hDfp : ∀ b ∈ fp, b < s2.heap.objs.size := fun b hb => let ⟨o, e⟩ := fo b hb; Heap.lt_size e
  let Xc : Cx := cxC X Nc Fc scope cl G.objs.size s2 H2 fp
  let D : Addr := s2.heap.objs.size
  have stat : ∀ {pl : List (Addr × Obj)} {H' : Hp}, (∀ p ∈ pl, p.1 = D) → (∀ b ∈ fp, H' b = none) → ∀ b ∈ fp, FpOk Xc pl H' b := fun {pl H'} hp hn b hb => by
    refine ⟨hn b hb, ?_, ?_, .inl hb, fun x a e => ?_, fun p hq => ?_⟩
    · exact addr_ne (hDfp b hb) hle
    · exact (cxC_ok I2 c hsub hhas hle f2 fo).exfs b hb
    · exact (f2 b hb).2.2.2.2.1 x a (hsub _ _ e)
    · have q : p ∈ ([] : List (Addr × Obj)) ++ pl := hq
      rw [hp p (by simpa using q)]
      exact addr_ne' (hDfp b hb) (Nat.le_refl _)
  have loop : ∀ t1, codeAny (model X.prog X.w) X.A (.compLoop (.ListComp elt [⟨tg, iter, ifs, 0⟩] scope pos) 0 (.ref it) (.ref s2.heap.objs.size) (compEnvC scope cl G.objs.size X.env))
      (compPost (model X.prog X.w) X.A X.xe use QV (.ref s2.heap.objs.size) G.objs.size) { s2 with heap := h1, toks := t1 } := by
    intro t1
    refine comp_turns (fun n s' => ∃ i ys H' its k, Inv Xc [(D, { cls := .type "list", data := .seq its k })] (List.replicate Nc.length none ++ cvals σ js) H' s' ∧ Vals ys its.toList ∧ ys.length ≤ sizeLine ∧ tn i s'.heap ∧ (∀ b ∈ fp, H' b = none) ∧ W i n ys H') ?_ m0
      ⟨0, [], H2, #[], n0, cxC_inv I2 c hsub hhas hle (Nat.le_refl _) hDC f2 fo old hns1 hacc (fun _ z => nomatch z), .nil, Nat.zero_le _, T.keep _ _ _ st2 (fun b hb o e => old b o e), fun b hb => (f2 b hb).1, w0⟩
    rintro n s3 ⟨i, ys, H3, its, k, I3, rv, hz, st3, fr3, w3⟩
    have onlyD : ∀ p ∈ [(D, ({ cls := .type "list", data := .seq its k } : Obj))], p.1 = D := fun p hp => congrArg Prod.fst (List.mem_singleton.mp hp)
    rcases turn i n ys H3 w3 with ⟨stop, qn⟩ | ⟨go, hlt, step⟩
    · refine thn (T.done Xc rfl rfl rfl hcalm i _ s3 _ H3 noE I3 (stat onlyD fr3) st3 stop) fun r s4 ⟨hr, I4⟩ => ?_
      subst hr
      show compPost _ _ _ _ _ _ _ _ _
      obtain ⟨hDo, hDn, hDne, hDfs, _⟩ := I4.pin (D, _) (List.mem_append_right _ List.mem_cons_self)
      have hDC' : D ≠ G.objs.size := hDC
      obtain ⟨mC, hmC, _⟩ := I4.loc
      have hCn : H3 G.objs.size = none := I4.free
      have neD : ∀ b o, s2.heap.get? b = some o → b ≠ D := fun b o e => Nat.ne_of_lt (Heap.lt_size e)
      have u : Un (frs X.stack) fp H2 H3 s2.heap s4.heap := I4.base
      have hdn2 : H2 D = none := I2.hok.fresh (Nat.le_refl _)
      have u' : Un (frs X.stack) fp H2 (upd H3 D (.lst ys)) s2.heap s4.heap :=
        ⟨u.keep, u.slot, fun b o e n hx => by rw [upd_ne (neD b o e)]; exact u.free b o e n hx, u.there,
         fun b xs e => by rw [upd_ne (ne_of_none e hdn2)]; exact u.tups b xs e, fun b o xs e => by rw [upd_ne (ne_of_none e hdn2)]; exact u.frzs b o xs e,
         fun b ps e => by rw [upd_ne (ne_of_none e hdn2)]; exact u.tbls b ps e⟩
      have hok' : HOk X.prog X.w (upd H3 D (.lst ys)) s4.heap := I4.hok.adopt hDn ⟨hz, its.toList, k, rv, by simpa using hDo⟩
      have hch : ∀ b ∈ fp, (b ∈ X.ex ∨ X.s₀.heap.objs.size ≤ b) ∧ b ≠ X.env.locals ∧ (∀ x c, X.env.cells.lookup x = some c → c ≠ b) ∧ ∀ p ∈ X.pn ++ pins, p.1 ≠ b := fun b hb =>
        ⟨(f2 b hb).2.2.2.1, (f2 b hb).2.1, (f2 b hb).2.2.2.2.1, (f2 b hb).2.2.2.2.2⟩
      have os4 : s4.os = s2.os := I4.os
      have J4 : Inv X pins σ (upd H3 D (.lst ys)) s4 := I2.call' (H' := upd H3 D (.lst ys)) os4 u' hok' I4.bare hch
      refine behind G.objs.size D mC ys H3 s4 J4 hmC (I2.fpOk hle ?_) hDn qn
      rw [upd_ne (Ne.symm hDC')]
      exact hCn
    · refine thn (T.item Xc rfl rfl rfl hcalm i _ s3 _ H3 noE I3 (stat onlyD fr3) st3 go) fun r s4 ⟨u, hr, h4⟩ => ?_
      subst hr
      show wpAny _ _ (letOwnedTupleGo tg (.ref it) u) _ _ _
      refine thn h4 fun _ s5 ⟨x, H5, I5, r5, y5, st5, fr5⟩ => ?_
      have I5' := I5.pinned (stat onlyD fr5) (T.obj _ _ st5)
      refine thn (hg cl G.objs.size s2 H2 fp s5 _ H5 x u _ I5' r5 (gk _ _ _ _ (step x H5 y5))) fun _ s6 ⟨σ6, H6, I6, q6, kσ, kl⟩ => ?_
      refine thn (htc cl G.objs.size s2 H2 fp s6 σ6 H6 _ I6 q6) fun b s7 ⟨H7, I7, q7⟩ => ?_
      have later : ∀ {σ' : St} {H' : Hp} {s' : Shared}, Inv Xc ([(D, ({ cls := .type "list", data := .seq its k } : Obj))] ++ pinsAt fp s5.heap) σ' H' s' → tn (i + 1) s'.heap ∧ ∀ b ∈ fp, H' b = none := fun {σ' H' s'} Iz => by
        refine ⟨T.keep _ _ _ st5 fun b hb o e => (Iz.pin (b, o) (List.mem_append_right _ (List.mem_append_right _ (mem_pinsAt hb e)))).1, fun b hb => ?_⟩
        obtain ⟨o, e, d⟩ := T.obj _ _ st5 b hb
        exact (Iz.pin (b, o) (List.mem_append_right _ (List.mem_append_right _ (mem_pinsAt hb e)))).2.1
      have back : ∀ {pl : List (Addr × Obj)} {H' : Hp} {s' : Shared}, Inv Xc pl σ6 H' s' → Inv Xc pl (List.replicate Nc.length none ++ cvals σ js) H' s' := fun {pl H' s'} Iz => by
        refine Iz.weak (by rw [← kl]) fun j v hj => ?_
        by_cases hn : j < Nc.length
        · rw [List.getElem?_append_left (by simpa using hn), List.getElem?_replicate] at hj
          split at hj <;> cases hj
        · rw [kσ j (by (first | lia | omega))]; exact hj
      cases b with
      | false =>
        rw [if_neg Bool.false_ne_true] at q7 ⊢
        obtain ⟨m', hm', w7⟩ := q7
        obtain ⟨l1, l2⟩ := later I7
        exact ⟨m', hm', i + 1, ys, H7, its, k, back I7.unpinned, rv, hz, l1, l2, w7⟩
      | true =>
        rw [if_pos rfl] at q7 ⊢
        refine thn (hte cl G.objs.size s2 H2 fp s7 σ6 H7 _ I7 q7) fun yv s8 ⟨y, H8, I8, r8, q8⟩ => ?_
        obtain ⟨m', hm', w8⟩ := q8
        obtain ⟨hDo, hDn, hDne, hDfs, _⟩ := I8.pin (D, _) (List.mem_append_right _ (List.mem_append_left _ List.mem_cons_self))
        obtain ⟨l1, l2⟩ := later I8
        have hits : its.size = ys.length := by
          have e1 := rv.length
          simp only [Array.length_toList] at e1
          (first | lia | omega)
        refine wpAny_list_append_plain (hsz := by (first | lia | omega)) ⟨k, hDo⟩ fun h9 hl9 hs9 => ?_
        obtain ⟨k9, hD9⟩ := hl9
        have pinF : ∀ p ∈ pinsAt fp s5.heap, p.1 ≠ D := fun p hp => by
          obtain ⟨hb, _⟩ := of_pinsAt hp
          exact addr_ne (hDfp _ hb) (Nat.le_refl _)
        have I8' : Inv Xc (pinsAt fp s5.heap) σ6 H8 s8 := I8.pins_of fun p hp => I8.pin p (List.mem_append_right _ (List.mem_append_right _ hp))
        have I9 : Inv Xc (pinsAt fp s5.heap) σ6 H8 { s8 with heap := h9, toks := s8.toks } := I8'.turned (it := D) (fun b o hb e => hs9.extBut b o hb e) hDn hDC (.inr (Nat.le_refl _))
          (fun x a e z => by
            obtain ⟨v, q⟩ := I2.cell x a (hsub _ _ e)
            exact addr_ne q.lt (Nat.le_refl _) z) (fun p hp => pinF p (by
              have hp : p ∈ ([] : List (Addr × Obj)) ++ pinsAt fp s5.heap := hp
              simpa using hp))
        obtain ⟨st9, fr9⟩ : tn (i + 1) h9 ∧ ∀ b ∈ fp, H8 b = none := by
          refine ⟨T.keep _ _ _ l1 fun b hb o e => hs9.extBut b o ?_ e, l2⟩
          exact addr_ne (hDfp _ hb) (Nat.le_refl _)
        refine ⟨m', hm', i + 1, ys ++ [y], H8, its.push yv, k9, back (I9.pins_of fun p hp => ?_), ?_, ?_, st9, fr9, w8⟩
        · cases List.mem_singleton.mp hp
          exact ⟨hD9, hDn, hDne, hDfs, fun _ z => nomatch z⟩
        · rw [Array.toList_push]
          exact rv.append (.cons r8 .nil)
        · rw [List.length_append, List.length_singleton]; (first | lia | omega)
  exact codeAny_compStart_list (loop _) (T.self _ 0 _ _ _ (T.keep _ _ _ st2 fun b hb o e => old b o e) (loop _))

theorem pe_lcomp {X : Cx} {elt tg iter : Expr} {ifs : List Expr} {scope : Scope} {pos : Pos} {Nc Fc : List Str} {js : List Nat} {wi : TI} {g : TG} {tc : TT} {te : TE}
    (hcalm : X.calm = true) (c : CompOk X scope Nc Fc js) (hi : PI X tg iter wi) (gk : Gk Nc.length g)
    (hg : ∀ cl C s H fp, PG (cxC X Nc Fc scope cl C s H fp) tg g) (htc : ∀ cl C s H fp, PTs (cxC X Nc Fc scope cl C s H fp) ifs tc) (hte : ∀ cl C s H fp, PE (cxC X Nc Fc scope cl C s H fp) elt te)
    (hs : ∀ x, foldedSetIterable iter X.env x = pure x := by intro _; rfl) :
    PE X (.ListComp elt [⟨tg, iter, ifs, 0⟩] scope pos) (tComp wi Nc.length js g tc te) := by
  intro pins s σ H Q I h
  rw [eval_ListComp]
  refine comp_core (use := none) hcalm c hi hg htc hte gk I h (fun C D m ys H2 s2 I2 hm hC hD q => ?_) hs
  refine ⟨m, hm, fun h' hs' => ?_⟩
  refine ⟨.ref D, _, I2.turned (it := C) (t' := s2.toks) (fun b o hb e => hs'.extBut b o hb e) hC.1 (hC.2.1) hC.2.2.2.1 hC.2.2.2.2.1 hC.2.2.2.2.2, rfl, q D hD⟩
end L2

set_option Elab.async false
set_option linter.all false
set_option maxRecDepth 100000
set_option maxHeartbeats 4000000
/-! built-in calls over the hand layer -/
namespace L2
open PySem PySem.Spec PyProof.Rows

section
variable {X : Cx} {pins : List (Addr × Obj)} {σ : St} {H : Hp} {s : Shared} {p : Addr} {ys : List V}

/-- a list's iterator, as the consuming built-ins walk it -/
theorem walk_list {A : Around} (hh : A.handled = none) (I : Inv X pins σ H s) (hq : SqL X.K H p ys) {R : Value → Shared → Prop} {E : Value → Shared → Prop}
    (h : ∀ (its : List Value) (it : Addr) (s2 : Shared), Vals ys its → its.length ≤ sizeLine →
      Walks X.prog X.w A it [it, p] [it] its.toArray.size (fun i v => its.toArray[i]? = some v) (fun i h => h.IsListIter it p i ∧ h.IsList p its.toArray) → (s2.heap.IsListIter it p 0 ∧ s2.heap.IsList p its.toArray) → (∀ b ∈ [it, p], b < s2.heap.objs.size) →
      (∀ h' tk, (∀ b o, b ∉ [it] → s2.heap.get? b = some o → h'.get? b = some o) → Inv X pins σ H { s2 with heap := h', toks := tk }) → R (.ref it) s2) :
    wpAny (model X.prog X.w) A (pyIter (.ref p)) R E s := by
  obtain ⟨its, rv, pl, hz⟩ := I.list hq
  have hl := pl.isList
  have hp : p < s.heap.objs.size := by obtain ⟨o, e, _⟩ := hl; exact Heap.lt_size e
  refine wpAny_pyIter_list hl ?_
  refine h its s.heap.objs.size _ rv (by have := rv.length; (first | lia | omega)) (Walks.list hh _ p (Nat.ne_of_lt hp) its.toArray) ⟨⟨_, Heap.get?_push_size _ rfl, rfl, rfl⟩, hl.push _⟩ (fun b hb => ?_) fun h' tk hk => ?_
  · show b < (s.heap.push _).objs.size
    rw [Heap.size_push]
    rcases List.mem_cons.mp hb with rfl | hb
    · exact Nat.lt_succ_self _
    · rw [List.mem_singleton.mp hb]; exact Nat.lt_succ_of_lt hp
  · exact I.kept (t' := tk) fun b o e => hk b o (fun z => addr_ne (Heap.lt_size e) (Nat.le_refl _) (List.mem_singleton.mp z)) (Heap.get?_push_of_some _ e)

theorem vals_at {ys : List V} {its : List Value} (r : Vals ys its) {i : Nat} {v : Value} (e : its.toArray[i]? = some v) : ∃ y, ys[i]? = some y ∧ RelV y v := by
  have e' : its[i]? = some v := by simpa using e
  have hi : i < its.length := (List.getElem?_eq_some_iff.mp e').1
  have hl := r.length
  obtain ⟨u, h1, h2⟩ := r.get (i := i) (x := ys[i]'(by (first | lia | omega))) (by simp)
  rw [e'] at h1; cases h1
  exact ⟨_, by simp, h2⟩

theorem range_any (bs : List Bool) : (List.range bs.length).any (fun i => bs.getD i false) = bs.any id := by
  induction bs with
  | nil => rfl
  | cons b r ih =>
    rw [List.length_cons, List.range_succ_eq_map, List.any_cons, List.any_map, List.any_cons, ← ih]
    rfl
theorem truth_bl {A : Around} {bs : List Bool} {its : List Value} (r : Vals (bs.map V.bl) its) : TruthOf X.prog X.w A (fun i v => its.toArray[i]? = some v) (fun i => bs.getD i false) := by
  intro i v s Q E e hQ
  obtain ⟨y, h1, h2⟩ := vals_at r e
  rw [List.getElem?_map] at h1
  cases q : bs[i]? with
  | none => rw [q] at h1; cases h1
  | some b =>
    rw [q] at h1; cases h1
    cases h2
    have : bs.getD i false = b := by simp [List.getD, q]
    have hQ : Q (bs.getD i false) s := hQ
    rw [this] at hQ
    exact wpAny_pure hQ
theorem call_any_bl (hc : X.calm = true) : CallR X (.builtin "any") (fun xs H Q => ∃ (p : Addr) (bs : List Bool), xs = [.ref p] ∧ SqL X.K H p (bs.map V.bl) ∧ Q (.bl (bs.any id)) H) := by
  intro pins s σ H xs us Q I r h
  obtain ⟨p, bs, rfl, hq, q⟩ := h
  obtain ⟨u, rfl, ru⟩ := vals1 r
  cases ru
  refine call_any_walk (walk_list (A := X.A.in1) (I.ok.hd hc) I hq fun its it s2 rv hz W st hlt hI => ?_)
  refine ⟨it, _, _, _, _, _, fun i => bs.getD i false, rfl, W, st, truth_bl rv, fun h' tk hk => ?_⟩
  have hl : its.toArray.size = bs.length := by have := rv.length; simp at this ⊢; (first | lia | omega)
  rw [hl, range_any]
  exact ⟨.bl _, H, hI h' tk hk, rfl, q⟩

/-! the same, K named -/
theorem anyK (K : PySem.W.Frag) (hc : X.calm = true) (hK : X.K = K := by rfl) : CallR X (.builtin "any") (fun xs H Q => ∃ (p : Addr) (bs : List Bool), xs = [.ref p] ∧ SqL K H p (bs.map V.bl) ∧ Q (.bl (bs.any id)) H) := by subst hK; exact call_any_bl hc
/-! texts -/
theorem strs_are : ∀ {xs : List Str} {its : List Value}, Vals (xs.map V.str) its → StrsAre its xs := by
  intro xs its r
  induction xs generalizing its with
  | nil => cases r; exact StrsAre.nil
  | cons x xs ih =>
    cases r with
    | cons r1 r2 =>
      obtain ⟨t, rfl⟩ := r1
      exact StrsAre.cons x t (ih r2)
theorem mt_join : MtR X "str.join" (fun x vs H Q => ∃ (sep : Str) (p : Addr) (xs : List Str), x = .str sep ∧ vs = [.ref p] ∧ SqL X.K H p (xs.map V.str) ∧ (xs.map (·.length)).sum + xs.length * sep.length ≤ 16777216 ∧ Q (.str (Txt.join sep xs)) H) := by
  intro pins s σ H x vs v us Q I rx rv h
  obtain ⟨sep, p, xs, rfl, rfl, hq, hz, q⟩ := h
  obtain ⟨t, rfl⟩ := rx
  obtain ⟨u, rfl, ru⟩ := rv.one
  cases ru
  obtain ⟨its, r', pl, _⟩ := I.list hq
  exact join_list pl.isList (strs_are r') hz fun t' k => ⟨.str _, H, I.tok _, ⟨_, rfl⟩, q⟩
end
end L2

set_option Elab.async false
set_option linter.all false
set_option maxRecDepth 100000
set_option maxHeartbeats 4000000
/-! data in the heap, ==, isinstance, slices of texts, divmod -/
namespace L2
open PySem PySem.Spec PyProof.Rows

mutual
/-- the value tells this data -/
noncomputable def Den (K : PySem.W.Frag) (H : Hp) : PyData → V → Prop
  | .none, v => v = .non
  | .bool b, v => v = .bl b
  | .int i, v => v = .int i
  | .str x, v => v = .str x
  | .list ds, v => Ex2 fun a vs => v = .ref a ∧ SqL K H a vs ∧ Dens K H ds vs
  | .tuple ds, v => Ex2 fun a vs => v = .ref a ∧ SqT K H a vs ∧ Dens K H ds vs
  | .dict _, _ => False
noncomputable def Dens (K : PySem.W.Frag) (H : Hp) : List PyData → List V → Prop
  | [], vs => vs = []
  | d :: ds, vs => Ex2 fun v r => vs = v :: r ∧ Den K H d v ∧ Dens K H ds r
end

theorem Same.seqT {K : PySem.W.Frag} {H H' : Hp} {a : Addr} {xs : List V} (e : Same H H') (h : SqT K H a xs) : SqT K H' a xs := by
  rcases h with (h | ⟨o, h⟩) | h
  · exact .inl (.inl (e _ _ h))
  · exact .inl (.inr ⟨o, e _ _ h⟩)
  · exact .inr h
mutual
theorem Den.same {K : PySem.W.Frag} {H H' : Hp} (e : Same H H') : ∀ {d : PyData} {v : V}, Den K H d v → Den K H' d v
  | .none, _, h => by unfold Den at h ⊢; exact h
  | .bool _, _, h => by unfold Den at h ⊢; exact h
  | .int _, _, h => by unfold Den at h ⊢; exact h
  | .str _, _, h => by unfold Den at h ⊢; exact h
  | .list ds, _, h => by
    unfold Den at h ⊢
    obtain ⟨a, vs, h1, h2, h3⟩ := h
    exact ⟨a, vs, h1, e.seq h2, Dens.same e h3⟩
  | .tuple ds, _, h => by
    unfold Den at h ⊢
    obtain ⟨a, vs, h1, h2, h3⟩ := h
    exact ⟨a, vs, h1, e.seqT h2, Dens.same e h3⟩
  | .dict _, _, h => by unfold Den at h; exact h.elim
theorem Dens.same {K : PySem.W.Frag} {H H' : Hp} (e : Same H H') : ∀ {ds : List PyData} {vs : List V}, Dens K H ds vs → Dens K H' ds vs
  | [], _, h => by unfold Dens at h ⊢; exact h
  | d :: ds, _, h => by
    unfold Dens at h ⊢
    obtain ⟨v, r, h1, h2, h3⟩ := h
    exact ⟨v, r, h1, Den.same e h2, Dens.same e h3⟩
end
mutual
theorem Den.reads {X : Cx} {pins : List (Addr × Obj)} {σ : St} {H : Hp} {s : Shared} (I : Inv X pins σ H s) : ∀ {d : PyData} {v : V} {u : Value}, Den X.K H d v → RelV v u → ∃ as, Reads s.heap u d as
  | .none, _, _, h, r => by unfold Den at h; subst h; cases r; exact ⟨_, .none⟩
  | .bool _, _, _, h, r => by unfold Den at h; subst h; cases r; exact ⟨_, .bool _⟩
  | .int _, _, _, h, r => by unfold Den at h; subst h; obtain ⟨t, rfl⟩ := r; exact ⟨_, .int _ _⟩
  | .str _, _, _, h, r => by unfold Den at h; subst h; obtain ⟨t, rfl⟩ := r; exact ⟨_, .str _ _⟩
  | .list ds, _, _, h, r => by
    unfold Den at h
    obtain ⟨a, vs, rfl, h2, h3⟩ := h
    cases r
    obtain ⟨its, rv, ⟨o, n, e1, e2, _, e4⟩, _⟩ := I.list h2
    obtain ⟨as, q⟩ := Dens.reads I h3 rv
    exact ⟨_, .list e1 e2 e4 (by simpa using q)⟩
  | .tuple ds, _, _, h, r => by
    unfold Den at h
    obtain ⟨a, vs, rfl, h2, h3⟩ := h
    cases r
    obtain ⟨its, rv, ⟨o, e1, e2, n, e4⟩, _⟩ := I.tuple h2
    obtain ⟨as, q⟩ := Dens.reads I h3 rv
    exact ⟨_, .tuple e1 e2 e4 (by simpa using q)⟩
  | .dict _, _, _, h, _ => by unfold Den at h; exact h.elim
theorem Dens.reads {X : Cx} {pins : List (Addr × Obj)} {σ : St} {H : Hp} {s : Shared} (I : Inv X pins σ H s) : ∀ {ds : List PyData} {vs : List V} {us : List Value}, Dens X.K H ds vs → Vals vs us → ∃ as, ReadsAll s.heap us ds as
  | [], _, _, h, r => by unfold Dens at h; subst h; cases r; exact ⟨_, .nil⟩
  | d :: ds, _, _, h, r => by
    unfold Dens at h
    obtain ⟨v, q, rfl, h2, h3⟩ := h
    cases r with
    | cons r1 r2 =>
      obtain ⟨as, q1⟩ := Den.reads I h2 r1
      obtain ⟨bs, q2⟩ := Dens.reads I h3 r2
      exact ⟨_, .cons q1 q2⟩
end
section
variable {X : Cx}
open PySem.SeqAt in
theorem op_eqD (hu : X.A.units + 64 < cLine) : OpR X (compareOp .Eq) (fun x y H Q => ∃ d e, Den X.K H d x ∧ Den X.K H e y ∧ shaped d = true ∧ shaped e = true ∧ Q (.bl (PyData.eqv d e)) H) := by
  intro pins s σ H x y v u Q I rx ry h
  obtain ⟨d, e, hd, he, sd, se, q⟩ := h
  obtain ⟨as, r1⟩ := hd.reads I rx
  obtain ⟨bs, r2⟩ := he.reads I ry
  exact eq_dataH r1 r2 sd se hu ⟨.bl _, H, I, rfl, q⟩
open PySem.SeqAt in
theorem op_neD (hu : X.A.units + 64 < cLine) : OpR X (compareOp .NotEq) (fun x y H Q => ∃ d e, Den X.K H d x ∧ Den X.K H e y ∧ shaped d = true ∧ shaped e = true ∧ Q (.bl (!PyData.eqv d e)) H) := by
  intro pins s σ H x y v u Q I rx ry h
  obtain ⟨d, e, hd, he, sd, se, q⟩ := h
  obtain ⟨as, r1⟩ := hd.reads I rx
  obtain ⟨bs, r2⟩ := he.reads I ry
  exact ne_dataH r1 r2 sd se hu ⟨.bl _, H, I, rfl, q⟩

/-! isinstance -/
theorem call_isi : CallR X (.builtin "isinstance") (fun xs H Q => ∃ x T t b, xs = [x, .ty T] ∧ TyOf X.K H x t ∧ PySem.W.kitOne X.K t (.type T) = some b ∧ Q (.bl b) H) := by
  intro pins s σ H xs us Q I r h
  obtain ⟨x, T, t, b, rfl, ty, e, q⟩ := h
  obtain ⟨u, w', rfl, r1, r2⟩ := vals2 r
  cases r2
  exact isinst_ok I r1 ty e fun tk => ⟨.bl b, H, I.tok _, rfl, q⟩
/-! a slice of a text -/
theorem sl_str : SlR X (fun x lo hi H Q => ∃ z, x = .str z ∧ z.length ≤ sizeLine ∧ Q (.str (Txt.slice z lo hi)) H) := by
  intro pins s σ H x v vl vu lo hi sl Q I rx hs pl pu q
  obtain ⟨z, rfl, hz, q⟩ := q
  obtain ⟨t, rfl⟩ := rx
  refine ⟨"str", _, F.slot_str_getitem.lookup, typeIs_str _ _ _, ?_⟩
  have fin : ∀ t' k, EP X pins σ Q (.str (Txt.slice z lo hi) t') { s with toks := k } := fun t' k => ⟨.str _, H, I.tok _, ⟨_, rfl⟩, q⟩
  cases pl with
  | none =>
    cases pu with
    | none => exact wpAny_getItem_str_slice (l := none) (u := none) (st := none) hs rfl (post_val_or_str ⟨Nat.le_trans (Txt.slice_le z _ _) hz, fin⟩)
    | int j uj => exact wpAny_getItem_str_slice (l := none) (u := some (j, uj)) (st := none) hs rfl (post_val_or_str ⟨Nat.le_trans (Txt.slice_le z _ _) hz, fin⟩)
  | int i ui =>
    cases pu with
    | none => exact wpAny_getItem_str_slice (l := some (i, ui)) (u := none) (st := none) hs rfl (post_val_or_str ⟨Nat.le_trans (Txt.slice_le z _ _) hz, fin⟩)
    | int j uj => exact wpAny_getItem_str_slice (l := some (i, ui)) (u := some (j, uj)) (st := none) hs rfl (post_val_or_str ⟨Nat.le_trans (Txt.slice_le z _ _) hz, fin⟩)

end
end L2

set_option Elab.async false
set_option linter.all false
set_option maxRecDepth 100000
set_option maxHeartbeats 4000000
/-! zip and enumerate over lists -/
namespace L2
open PySem PySem.Spec PyProof.Rows

section
variable {X : Cx} {pins : List (Addr × Obj)} {σ : St} {H : Hp} {s : Shared} {h' : Heap}
theorem Inv.iter {t' : Nat} {ch : List Addr} (I : Inv X pins σ H s) (hf : ∀ b ∈ ch, FpOk X pins H b) (keep : ∀ b o, b ∉ ch → s.heap.get? b = some o → h'.get? b = some o) : Inv X pins σ H { s with heap := h', toks := t' } := by
  have nch : ∀ b u, H b = some u → b ∉ ch := fun b u e z => by rw [(hf b z).1] at e; cases e
  refine I.step (g' := s.gens) (d' := s.drawn) (ch := ch) (fun b hb => ⟨(hf b hb).2.2.2.1, (hf b hb).2.1, (hf b hb).2.2.2.2.1, (hf b hb).2.2.2.2.2⟩) (fun b o _ _ hc e _ => keep b o hc e) (fun b o _ _ hc e _ => ⟨o.slots, keep b o hc e⟩)
    (fun _ _ _ _ n => n) (fun b o hc e => ⟨o, keep b o hc e⟩) (fun _ _ e => e) (fun _ _ _ e => e) (fun b ps e => ⟨#[], by rw [e]; simp⟩) (fun m hm => hm.at' fun o e => keep _ o (fun z => (hf _ z).2.1 rfl) e) (fun b u e => ?_) I.bare
  refine (I.hok b u e).stay (fun c v hc q => keep c v ?_ q) (fun _ q => q) fun _ _ q => q
  rcases hc with z | z
  · rw [z]; exact nch b u e
  · exact nch c _ z
theorem Inv.adopt {T : Addr} {o : HO} (I : Inv X pins σ H s) (hT : FpOk X pins H T) (hex : X.s₀.heap.objs.size ≤ T) (new : ObjOk X.prog X.w (upd H T o) s.heap T o) : Inv X pins σ (upd H T o) s :=
  ⟨I.ok, I.os, I.bare, ⟨I.base.keep, I.base.slot, fun b ob e n hx => by rw [upd_ne (addr_ne (Heap.lt_size e) hex)]; exact I.base.free b ob e n hx, I.base.there,
      fun b xs e => by rw [upd_ne (ne_of_none (I.base.tups b xs e) hT.1)]; exact I.base.tups b xs e, fun b ob xs e => by rw [upd_ne (ne_of_none (I.base.frzs b ob xs e) hT.1)]; exact I.base.frzs b ob xs e,
      fun b ps e => by
        obtain ⟨m, q⟩ := I.base.tbls b ps e
        exact ⟨m, by rw [upd_ne (ne_of_none q hT.1)]; exact q⟩⟩,
    I.loc, I.cell, by rw [upd_ne (Ne.symm hT.2.1)]; exact I.free, fun x c e => by rw [upd_ne (hT.2.2.2.2.1 x c e)]; exact I.freeC x c e,
    fun p hp => by
      obtain ⟨a, b, c, d, f⟩ := I.pin p hp
      exact ⟨a, by rw [upd_ne (hT.2.2.2.2.2 p hp)]; exact b, c, d, f⟩, I.hok.adopt hT.1 new, I.len⟩
end

theorem vals_get {xs : List V} {its : List Value} {i : Nat} {x : V} (r : Vals xs its) (e : xs[i]? = some x) : ∃ u, its.toArray[i]? = some u ∧ RelV x u := by
  obtain ⟨u, h1, h2⟩ := r.get e
  exact ⟨u, by simpa using h1, h2⟩
section
variable {X : Cx}
end
end L2

set_option Elab.async false
set_option linter.all false
set_option maxRecDepth 100000
set_option maxHeartbeats 4000000
/-! enumerate of a list -/
namespace L2
open PySem PySem.Spec PyProof.Rows

noncomputable def Ite (K : PySem.W.Frag) (a : Addr) : It :=
  ⟨fun i H => Ex2 fun xs x => SqL K H a xs ∧ xs[i]? = some x,
   fun i H v H' => ∃ T, v = .ref T ∧ H T = none ∧ ∀ xs x, SqL K H a xs → xs[i]? = some x → H' = upd H T (.tup [.int i, x]),
   fun i H => ∃ xs, SqL K H a xs ∧ xs.length ≤ i⟩
theorem turn_enum {P : Program} {w : World} {K : PySem.W.Frag} {elts : List Expr} {k : Nat} {tp : Pos} (e it l : Addr) (hei : e ≠ it) (hle : l ≠ e) (hli : l ≠ it) :
    Turn P w K (.Tuple elts k tp) (Ite K l) [e, it] e (fun i h => (∃ old, IsEnum h e it i old) ∧ h.IsListIter it l i) where
  mem := by simp
  obj := fun i h st b hb => by
    obtain ⟨⟨_, h1⟩, ⟨o4, h4, _, d4⟩⟩ := st
    simp at hb
    rcases hb with rfl | rfl
    · exact ⟨_, h1, fun _ z => nomatch z⟩
    · exact ⟨_, h4, fun v q => by rw [d4] at q; cases q⟩
  keep := fun i h h' st hk => by
    obtain ⟨⟨a, h1⟩, h4⟩ := st
    exact ⟨⟨a, hk e (by simp) _ h1⟩, h4.at fun o e => hk it (by simp) o e⟩
  item := fun X hP hw hK hc i pins s σ H E I hf st go => by
    subst hP hw hK
    obtain ⟨⟨old, he⟩, h1⟩ := st
    obtain ⟨xs, x, q1, e1⟩ := go
    obtain ⟨its1, r1, p1, _⟩ := I.list q1
    obtain ⟨u1, g1, ru1⟩ := vals_get r1 e1
    refine wpAny_pyNext_enum_item he h1 p1.isList g1 hei fun h' a1 a3 a5 a6 a7 => ⟨_, rfl, ?_⟩
    refine wpAny_letOwnedTupleGo_enum a1 fun h'' b1 b2 => ?_
    have hTz : s.heap.objs.size ≠ e := addr_ne' (Heap.lt_size he) (Nat.le_refl _)
    have kp : ∀ c o, c ∉ [e, it] → s.heap.get? c = some o → h''.get? c = some o := fun c o hc z => by
      simp only [List.mem_cons, List.not_mem_nil, or_false, not_or] at hc
      exact b2.extBut c o hc.1 (a7 c o hc.1 hc.2 z)
    have I1 : Inv X pins σ H { s with heap := h'', toks := s.toks + 1 } := I.iter hf kp
    have fT : FpOk X pins H s.heap.objs.size := I.fpOk (Nat.le_refl _) (I.hok.fresh (Nat.le_refl _))
    have oT : h''.get? s.heap.objs.size = some { cls := .type "tuple", data := .seq #[.int i s.toks, u1] } := b2.extBut _ _ hTz a5
    have I2 := I1.adopt (T := s.heap.objs.size) (o := .tup [.int i, x]) fT I.sz ⟨by show 2 ≤ sizeLine; decide, [.int i s.toks, u1], .cons ⟨_, rfl⟩ (.cons ru1 .nil), ⟨_, oT, rfl, _, rfl⟩⟩
    refine ⟨.ref s.heap.objs.size, _, I2, rfl, ⟨_, rfl, fT.1, fun xs' x' q1' e1' => ?_⟩, ⟨⟨_, by
      have b1 : IsEnum h'' e it ((i : Int) + 1) u1 := b1
      have z : (((i + 1 : Nat) : Int)) = (i : Int) + 1 := by (first | lia | omega)
      show IsEnum h'' e it ((i + 1 : Nat) : Int) _
      rw [z]; exact b1⟩, a3.extBut b2.extBut (Ne.symm hei)⟩, fun c hc => ?_⟩
    · rw [I.list_inj q1' q1] at e1'
      rw [e1] at e1'; cases e1'; rfl
    · have hcs : c < s.heap.objs.size := by
        simp at hc
        obtain ⟨_, h1, _⟩ := h1
        rcases hc with rfl | rfl
        · exact Heap.lt_size he
        · exact Heap.lt_size h1
      rw [upd_ne (addr_ne hcs (Nat.le_refl _))]
      exact (hf c hc).1
  done := fun X hP hw hK hc i pins s σ H E I hf st stop => by
    subst hP hw hK
    obtain ⟨⟨old, he⟩, h1⟩ := st
    obtain ⟨xs, q1, e⟩ := stop
    obtain ⟨its1, r1, p1, _⟩ := I.list q1
    have l1' := r1.length
    refine wpAny_pyNext_enum_end (I.ok.hd hc) he h1 p1.isList (by simp; (first | lia | omega)) fun h' kp => ⟨rfl, ?_⟩
    refine I.iter (ch := [it]) (t' := s.toks) (fun c hc => hf c (by simp at hc ⊢; simp [hc])) fun c o hc z => kp c o (fun q => hc (by simp [q])) z
  self := fun A i s Q E st hQ => by
    obtain ⟨⟨old, he⟩, _⟩ := st
    exact wpAny_pyIter_enum he hQ
section
variable {X : Cx}
noncomputable def iEnum (K : PySem.W.Frag) (ta : TA) : TI := fun σ H R => ta σ H fun vs H1 => ∃ a, vs = [.ref a] ∧ (∃ xs, SqL K H1 a xs) ∧ R (Ite K a) H1
theorem pi_enum {elts : List Expr} {k : Nat} {tp : Pos} {a : Expr} {ta : TA} {p pos : Pos} (hg : Gl X "enumerate") (hm : X.mg "enumerate" = none) (ha : PA X [a] ta) (hb : bootBuiltins "enumerate" = some (.type "enumerate") := by first | rfl | decide) (hs : starEach [a] X.env = [(false, eval a X.env)] := by rfl) :
    PI X (.Tuple elts k tp) (.Call (.Name "enumerate" p) [a] [] pos) (iEnum X.K ta) := by
  intro pins s σ H R I h
  refine Call_ (ld_blt I hg hm hb (PyProof.Rows.callWith_type1 (thn (ha s σ H _ I h) fun us s1 ⟨vs, H1, I1, r1, q1⟩ => ?_) hs rfl))
  obtain ⟨l1, e, ⟨xs, q1⟩, q⟩ := q1
  subst e
  obtain ⟨u, rfl, ru⟩ := vals1 r1
  cases ru
  obtain ⟨its1, rv1, p1, _⟩ := I1.list q1
  have a1 : l1 < s1.heap.objs.size := by obtain ⟨_, e, _⟩ := p1.isList; exact Heap.lt_size e
  refine call_enumerate_list p1.isList (fun h' he hi1 hsz hk => ?_)
  refine wpAny_pyIter_enum he ?_
  have I2 : Inv X pins σ H1 { s1 with heap := h' } := I1.kept (t' := s1.toks) hk
  refine ⟨_, _, _, _, H1, rfl, I2, turn_enum _ _ _ (Nat.succ_ne_self _) (Nat.ne_of_lt (Nat.lt_succ_of_lt a1)) (Nat.ne_of_lt a1), ⟨⟨_, he⟩, hi1⟩, fun c hc => ?_, q⟩
  have hcs : s1.heap.objs.size ≤ c := by
    simp at hc
    rcases hc with rfl | rfl
    · exact Nat.le_add_right _ _
    · exact Nat.le_refl _
  exact I1.fpOk hcs (I1.hok.fresh hcs)
end
end L2

set_option Elab.async false
set_option linter.all false
set_option maxRecDepth 100000
set_option maxHeartbeats 4000000
/-! rules that do not ask for the kinds, calls of own defs, loops by turns -/
namespace L2
open PySem PySem.Spec PyProof.Rows

section
variable {X : Cx}
noncomputable def rAddA : R2 := fun x y H Q => (Ex2 fun i j => x = .int i ∧ y = .int j ∧ Q (.int (i + j)) H) ∨ (∃ i j, x = .str i ∧ y = .str j ∧ i.length + j.length ≤ sizeLine ∧ Q (.str (i ++ j)) H) ∨ rCat x y H Q
theorem g_add : OpR X (binaryOp .Add) rAddA := op_add.or (op_add_str.or op_cat)
noncomputable def rMulA : R2 := fun x y H Q => (Ex2 fun i j => x = .int i ∧ y = .int j ∧ CMul i j ∧ Q (.int (i * j)) H) ∨ rRep x y H Q
theorem g_mul : OpR X (binaryOp .Mult) rMulA := op_mul.or op_rep
/-- an own def, as callers use it -/
structure Fn (P : Program) (w : World) (K : PySem.W.Frag) (mg : Str → Option Value) (base : Heap) (k : Nat) (x : Str) (ps : List Str) (sp : Sp) : Prop where
  ex : ∃ f fd, FnOk P w K mg base CX0 k f fd ps sp ∧ Binds K fd ps [] ∧ PySem.W.keepIn K (.ref f) = true ∧ mg x = some (.ref f)
theorem Fn.mono {P : Program} {w : World} {K : PySem.W.Frag} {mg : Str → Option Value} {base : Heap} {j k : Nat} {x : Str} {ps : List Str} {sp : Sp} (F : Fn P w K mg base j x ps sp) (h : j ≤ k) : Fn P w K mg base k x ps sp := by
  obtain ⟨f, fd, a, b, c, d⟩ := F.ex
  exact ⟨f, fd, a.mono h, b, c, d⟩
theorem pe_fn {k : Nat} {x : Str} {ps : List Str} {sp : Sp} {p pos : Pos} {e : Expr} {es : List Expr} {t : TA} (F : Fn X.prog X.w X.K X.mg X.base k x ps sp) (hr : Room k X.A) (hg : Gl X x)
    (ha : PA X (e :: es) t) (hdb : (x == ("__debug__" : Str)) = false := by decide) (he : starEach (e :: es) X.env = (false, eval e X.env) :: starEach es X.env := by rfl) (hpl : (backTo pos (starEach es X.env)).any (·.1) = false := by rfl) :
    PE X (.Call (.Name x p) (e :: es) [] pos) (tCall sp [] E0 t) := by
  obtain ⟨f, fd, a, b, c, d⟩ := F.ex
  exact pe_call a hr hg d c b .nil pass0 ha hdb he hpl
end

/-- the closed look at a comprehension's scope -/
noncomputable def compChk (pn sn : List (Str × NameKind)) (N Fc : List Str) (js : List Nat) : Bool :=
  sn.all (fun y => y.2 != .cell) && sn.all (fun y => y.2 != .local || sn.lookup y.1 == some .local) && sn.all (fun y => y.2 != .free || pn.lookup y.1 == some .cell || pn.lookup y.1 == some .free) && js.length == Fc.length &&
  (List.range Fc.length).all fun k => match Fc[k]?, js[k]? with
    | some x, some j => sn.lookup x == some .free && N[j]? == some x
    | _, _ => false
theorem comp_ok {X : Cx} {scope : Scope} {Nc Fc : List Str} {js : List Nat} (hk : scope.kind = .function := by rfl) (h : compChk X.env.scope.names scope.names X.N Fc js = true := by rfl) : CompOk X scope Nc Fc js := by
  unfold compChk at h
  simp only [Bool.and_eq_true, List.all_eq_true, Bool.or_eq_true, bne_iff_ne, beq_iff_eq, ne_eq] at h
  obtain ⟨⟨⟨⟨h1, h2⟩, h3⟩, h4⟩, h5⟩ := h
  refine ⟨hk, h1, fun y hy hl => (h2 y hy).resolve_left (fun z => z hl), fun y hy hf => ?_, fun k x hx => ?_, h4⟩
  · rcases h3 y hy with (z | z) | z
    · exact absurd hf z
    · exact .inl z
    · exact .inr z
  · have hk' : k < Fc.length := (List.getElem?_eq_some_iff.mp hx).1
    have q := h5 k (List.mem_range.mpr hk')
    have hj : k < js.length := by (first | lia | omega)
    rw [hx, List.getElem?_eq_getElem hj] at q
    simp only [Bool.and_eq_true, beq_iff_eq] at q
    exact ⟨q.1, _, List.getElem?_eq_getElem hj, q.2⟩
end L2
namespace L2
open PySem PySem.Spec PyProof.Rows
section
variable {X : Cx}
theorem g_eq (hu : X.A.units + 64 < cLine) : OpR X (compareOp .Eq) (fun x y H Q => rEq x y H Q ∨ (∃ d e, Den X.K H d x ∧ Den X.K H e y ∧ SeqAt.shaped d = true ∧ SeqAt.shaped e = true ∧ Q (.bl (PyData.eqv d e)) H)) := op_eq.or (op_eqD hu)
theorem g_ne (hu : X.A.units + 64 < cLine) : OpR X (compareOp .NotEq) (fun x y H Q => rNe x y H Q ∨ (∃ d e, Den X.K H d x ∧ Den X.K H e y ∧ SeqAt.shaped d = true ∧ SeqAt.shaped e = true ∧ Q (.bl (!PyData.eqv d e)) H)) := op_ne.or (op_neD hu)
theorem g_sl : SlR X (fun x lo hi H Q => rSlL X.K x lo hi H Q ∨ (∃ z, x = .str z ∧ z.length ≤ sizeLine ∧ Q (.str (Txt.slice z lo hi)) H)) := sl_list.or sl_str
/-- the built-in names that no def of the text hides -/
structure Nm (mg : Str → Option Value) : Prop where
  n_len : mg "len" = none
  n_range : mg "range" = none
  n_max : mg "max" = none
  n_min : mg "min" = none
  n_sum : mg "sum" = none
  n_all : mg "all" = none
  n_any : mg "any" = none
  n_list : mg "list" = none
  n_tuple : mg "tuple" = none
  n_int : mg "int" = none
  n_str : mg "str" = none
  n_bool : mg "bool" = none
  n_zip : mg "zip" = none
  n_enumerate : mg "enumerate" = none
  n_isinstance : mg "isinstance" = none
  n_divmod : mg "divmod" = none
end
end L2

set_option Elab.async false
set_option linter.all false
set_option maxRecDepth 100000
set_option maxHeartbeats 4000000
/-! the same rules with the text's own objects K named (inside a comprehension no hole may hang on the block) -/
namespace L2
open PySem PySem.Spec PyProof.Rows
/-- a comprehension of N turns by what holds ahead of turn i; Nx is what is to be reached behind it -/
theorem comp_go {J : It} {n : Nat} {js : List Nat} {g : TG} {tc : TT} {te : TE} {σ : St} {H1 : Hp} {fin : List V → Hp → Prop} (N : Nat) (Pv : Nat → List V → Hp → Prop) (h0 : Pv 0 [] H1)
    (go : ∀ i ys H (Nx : List V → Hp → Prop), i < N → Pv i ys H → (∀ ys' H', Pv (i + 1) ys' H' → Nx ys' H') → J.go i H ∧ ys.length < sizeLine ∧
      ∀ x H', J.yld i H x H' → g x (List.replicate n none ++ cvals σ js) H' fun σ2 H2 => tc σ2 H2 fun b H3 => if b = true then te σ2 H3 fun y H4 => Nx (ys ++ [y]) H4 else Nx ys H3)
    (stop : ∀ ys H, Pv N ys H → J.stop N H ∧ fin ys H) : CompW J n js g tc te σ H1 fin := by
  refine ⟨fun i m ys H => m = N - i ∧ i ≤ N ∧ Pv i ys H, ⟨N, by simp, Nat.zero_le _, h0⟩, ?_⟩
  rintro i m ys H ⟨rfl, hi, p⟩
  by_cases hlt : i < N
  · exact .inr (go i ys H (fun ys' H' => ∃ m', m' < N - i ∧ (m' = N - (i + 1) ∧ i + 1 ≤ N ∧ Pv (i + 1) ys' H')) hlt p fun ys' H' q => ⟨_, by (first | lia | omega), rfl, hlt, q⟩)
  · have e : i = N := by (first | lia | omega)
    subst e
    exact .inl (stop ys H p)
section
variable {X : Cx} (K : PySem.W.Frag)
theorem ixK (hK : X.K = K := by rfl) : IxR X (rIx K) := by subst hK; exact ix_seq
theorem lenK (hK : X.K = K := by rfl) : CallR X (.builtin "len") (fun xs H Q => ∃ x n, xs = [x] ∧ LenV K x H n ∧ Q (.int n) H) := by subst hK; exact call_len
theorem joinK (hK : X.K = K := by rfl) : MtR X "str.join" (fun x vs H Q => ∃ (sep : Str) (p : Addr) (xs : List Str), x = .str sep ∧ vs = [.ref p] ∧ SqL K H p (xs.map V.str) ∧ (xs.map (·.length)).sum + xs.length * sep.length ≤ 16777216 ∧ Q (.str (Txt.join sep xs)) H) := by subst hK; exact mt_join
theorem piK {tg l : Expr} {tl : TE} (hl : PE X l tl) (hK : X.K = K := by rfl) : PI X tg l (iList K tl) := by subst hK; exact pi_list hl
theorem tupK {pos : Pos} {es : List Expr} {k : Nat} {t : TGs} (n : Nat) (hc : X.calm = true) (h : PGs X es t) (hn : (assignEach es X.env).length = n := by rfl) (hst : (assignEach es X.env).findIdx? (·.1) = none := by rfl) (hK : X.K = K := by rfl) : PG X (.Tuple es k pos) (gTup K n t) := by subst hK; exact pg_tup hc h hn hst
theorem bmK {o e : Expr} {es : List Expr} {to : TE} {t : TA} {name : Str} {apos cpos : Pos} {T id : String} {r : V → List V → Hp → VK → Prop} (pa : PlainAttrs T) (slot : Slot T name id) (hty : typeOf (.builtin id) = pure (.type "method_descriptor")) (hm : MtR X id r) (ho : PE X o to) (ha : PA X (e :: es) t)
    (hbase : attributeBase o name X.env (eval o X.env) = eval o X.env := by rfl)
    (hfew : ((backTo cpos (starEach (e :: es) X.env)).all (fun x => !x.1) && (backToKw cpos (keywordEach [] X.env)).all (fun x => x.1.isSome)
      && decide ((e :: es).length + ([] : List Keyword).length + (if ([] : List Keyword).isEmpty then 0 else 1) < 30)) = true := by rfl)
    (hline : (apos.endLine == cpos.line) = true := by rfl) (hs : starEach (e :: es) X.env = (false, eval e X.env) :: starEach es X.env := by rfl) (hplain : (backTo cpos (starEach es X.env)).any (·.1) = false := by rfl) (hK : X.K = K := by rfl) :
    PE X (.Call (.Attribute o name apos) (e :: es) [] cpos) (tBM K T r to t) := by subst hK; exact pe_bm pa slot hty hm ho ha hbase hfew hline hs hplain
theorem eqK (hu : X.A.units + 64 < cLine) (hK : X.K = K := by rfl) : OpR X (compareOp .Eq) (fun x y H Q => rEq x y H Q ∨ (∃ d e, Den K H d x ∧ Den K H e y ∧ SeqAt.shaped d = true ∧ SeqAt.shaped e = true ∧ Q (.bl (PyData.eqv d e)) H)) := by subst hK; exact g_eq hu
theorem neK (hu : X.A.units + 64 < cLine) (hK : X.K = K := by rfl) : OpR X (compareOp .NotEq) (fun x y H Q => rNe x y H Q ∨ (∃ d e, Den K H d x ∧ Den K H e y ∧ SeqAt.shaped d = true ∧ SeqAt.shaped e = true ∧ Q (.bl (!PyData.eqv d e)) H)) := by subst hK; exact g_ne hu
end
end L2

set_option Elab.async false
set_option linter.all false
set_option maxRecDepth 100000
set_option maxHeartbeats 4000000
/-! list(it) of anything that hands out items: what it must promise (Feed), and the list that comes of it -/
namespace L2
open PySem PySem.Spec PyProof.Rows

section
variable {prog : Program} {w : World} {A : Around} {it S : Addr} {T : String} {fp : Addr → Prop} {n : Nat} {P : Nat → Value → Heap → Prop} {R : Value → Value → Prop} {St : Nat → Heap → Prop}
end
end L2

set_option Elab.async false
set_option linter.all false
set_option maxRecDepth 100000
set_option maxHeartbeats 4000000
/-! zip of two lists as a Feed: every pair that it has handed out is still held, so it lays a new one each turn -/
namespace L2
open PySem PySem.Spec PyProof.Rows

section
variable {prog : Program} {w : World} {A : Around} {E : Value → Shared → Prop} {s : Shared} {z TI TO i1 i2 l1 l2 a : Addr} {f : Bool} {oa : Obj}
end
end L2

set_option Elab.async false
set_option linter.all false
set_option maxRecDepth 100000
set_option maxHeartbeats 4000000
/-! list(zip(a, b)) over the hand layer -/
namespace L2
open PySem PySem.Spec PyProof.Rows

section
variable {X : Cx}
end
end L2

set_option Elab.async false
set_option linter.all false
set_option maxRecDepth 100000
set_option maxHeartbeats 4000000
/-! the rules that lay or change an object, with the heap behind them as a letter -/
namespace L2
open PySem PySem.Spec PyProof.Rows
structure New (H : Hp) (p : Addr) (o : HO) (H' : Hp) : Prop where
  nn : H p = none
  eq : H' = upd H p o
theorem New.at {H H' : Hp} {p : Addr} {o : HO} (n : New H p o H') : H' p = some o := by rw [n.eq]; exact upd_same
theorem New.ne {H H' : Hp} {p a : Addr} {o : HO} (n : New H p o H') (h : a ≠ p) : H' a = H a := by rw [n.eq]; exact upd_ne h
theorem New.same {H H' : Hp} {p : Addr} {o : HO} (n : New H p o H') : Same H H' := fun a u e => by rw [n.ne (ne_of_none e n.nn)]; exact e
structure Chg (H : Hp) (p : Addr) (o : HO) (H' : Hp) : Prop where
  eq : H' = upd H p o
theorem Chg.at {H H' : Hp} {p : Addr} {o : HO} (n : Chg H p o H') : H' p = some o := by rw [n.eq]; exact upd_same
theorem Chg.ne {H H' : Hp} {p a : Addr} {o : HO} (n : Chg H p o H') (h : a ≠ p) : H' a = H a := by rw [n.eq]; exact upd_ne h
theorem new_all {H : Hp} {o : HO} {F : Addr → Hp → Prop} : (∀ p, H p = none → F p (upd H p o)) = ∀ p H', New H p o H' → F p H' :=
  propext ⟨fun h p H' n => by rw [n.eq]; exact h p n.nn, fun h p hp => h p _ ⟨hp, rfl⟩⟩
theorem chg_all {H : Hp} {p : Addr} {o : HO} {F : Hp → Prop} : F (upd H p o) = ∀ H', Chg H p o H' → F H' :=
  propext ⟨fun h H' n => by rw [n.eq]; exact h, fun h => h _ ⟨rfl⟩⟩
section
variable {X : Cx} {pos : Pos} {es : List Expr} {t : TA}
noncomputable def tLstN (t : TA) : TE := fun σ H Q => t σ H fun xs H1 => xs.length ≤ sizeLine ∧ ∀ p H', New H1 p (.lst xs) H' → Q (.ref p) H'
theorem lstN (h : PA X es t) : PE X (.List es pos) (tLstN t) := by
  have e : tLstN t = tLst t := by
    funext σ H Q
    show t σ H _ = t σ H _
    congr 1; funext xs H1
    exact congrArg (_ ∧ ·) (new_all (F := fun p H' => Q (.ref p) H')).symm
  rw [e]; exact pe_lst h
noncomputable def tDispN (trs : List (TE × TE)) : TE := fun σ H Q => ∀ p H0, New H p (.dK []) H0 → tPairs trs σ H0 fun ps H2 => H2 p = some (.dK []) ∧ ∃ kvs : List (Key × V), ps = kvs.map (fun kv => (kV kv.1, kv.2)) ∧ kvs.length ≤ 15 ∧ ∀ H3, Chg H2 p (.dK (mergeK [] kvs)) H3 → Q (.ref p) H3
theorem dispN {keys : List (Option Expr)} {values : List Expr} {trs : List (TE × TE)} (h : PPs X pos keys values trs) (hall : keys.all (·.isSome) = true) (hl : keys.length = values.length) (h0 : keys ≠ [])
    (h15 : keys.length ≤ 15) : PE X (.Dict keys values pos) (tDispN trs) := by
  have e : tDispN trs = tDisp trs := by
    funext σ H Q
    unfold tDispN tDisp
    rw [new_all (F := fun p H0 => tPairs trs σ H0 fun ps H2 => H2 p = some (.dK []) ∧ ∃ kvs : List (Key × V), ps = kvs.map (fun kv => (kV kv.1, kv.2)) ∧ kvs.length ≤ 15 ∧ Q (.ref p) (upd H2 p (.dK (mergeK [] kvs))))]
    simp only [← chg_all (F := fun H3 => Q (.ref _) H3)]
  rw [e]; exact pe_disp h hall hl h0 h15
end
section
variable {X : Cx} (K : PySem.W.Frag)
/-- x[lo:hi] of a list or a text -/
noncomputable def rSlN (K : PySem.W.Frag) : V → Option Int → Option Int → Hp → VK → Prop := fun x lo hi H Q => (Ex2 fun a xs => x = .ref a ∧ SqL K H a xs ∧ ∀ p H', New H p (.lst (cutV xs lo hi)) H' → Q (.ref p) H') ∨ (∃ z, x = .str z ∧ z.length ≤ sizeLine ∧ Q (.str (Txt.slice z lo hi)) H)
theorem slN (hK : X.K = K := by rfl) : SlR X (rSlN K) := by
  subst hK
  intro pins s σ H x v vl vu lo hi sl Q I rx hs pl pu q
  refine g_sl s σ H x v vl vu lo hi sl Q I rx hs pl pu ?_
  rcases q with ⟨a, xs, e, h, q⟩ | q
  · exact .inl ⟨a, xs, e, h, fun p hp => q p _ ⟨hp, rfl⟩⟩
  · exact .inr q
theorem listN (hK : X.K = K := by rfl) : CallR X (.type "list") (fun xs H Q => ∃ p ys, xs = [.ref p] ∧ (SqL K H p ys ∨ SqT K H p ys) ∧ ∀ l H', New H l (.lst ys) H' → Q (.ref l) H') := by
  subst hK
  intro pins s σ H xs us Q I r h
  obtain ⟨p, ys, e, h, q⟩ := h
  exact call_list_of s σ H xs us Q I r ⟨p, ys, e, h, fun l hl => q l _ ⟨hl, rfl⟩⟩
end
section
variable {X : Cx}
noncomputable def rAddN : R2 := fun x y H Q => (Ex2 fun i j => x = .int i ∧ y = .int j ∧ Q (.int (i + j)) H) ∨ (∃ i j, x = .str i ∧ y = .str j ∧ i.length + j.length ≤ sizeLine ∧ Q (.str (i ++ j)) H) ∨
  Ex4 fun l b xs zs => x = .ref l ∧ y = .ref b ∧ H l = some (.lst xs) ∧ H b = some (.lst zs) ∧ xs.length + zs.length ≤ sizeLine ∧ ∀ p H', New H p (.lst (xs ++ zs)) H' → Q (.ref p) H'
theorem addN : OpR X (binaryOp .Add) rAddN := by
  intro pins s σ H x y v u Q I rx ry h
  refine g_add s σ H x y v u Q I rx ry ?_
  rcases h with h | h | ⟨l, b, xs, zs, e1, e2, h1, h2, h3, q⟩
  · exact .inl h
  · exact .inr (.inl h)
  · exact .inr (.inr ⟨l, b, xs, zs, e1, e2, h1, h2, h3, fun p hp => q p _ ⟨hp, rfl⟩⟩)
noncomputable def rMulN : R2 := fun x y H Q => (Ex2 fun i j => x = .int i ∧ y = .int j ∧ CMul i j ∧ Q (.int (i * j)) H) ∨
  Ex3 fun l k xs => x = .ref l ∧ y = .int k ∧ H l = some (.lst xs) ∧ -(2 ^ 63) ≤ k ∧ k < 2 ^ 63 ∧ xs.length * k.toNat ≤ sizeLine ∧ ∀ p H', New H p (.lst (List.replicate k.toNat xs).flatten) H' → Q (.ref p) H'
theorem mulN : OpR X (binaryOp .Mult) rMulN := by
  intro pins s σ H x y v u Q I rx ry h
  refine g_mul s σ H x y v u Q I rx ry ?_
  rcases h with h | ⟨l, k, xs, e1, e2, h1, h2, h3, h4, q⟩
  · exact .inl h
  · exact .inr ⟨l, k, xs, e1, e2, h1, h2, h3, h4, fun p hp => q p _ ⟨hp, rfl⟩⟩
theorem divmodN : CallR X (.builtin "divmod") (fun xs H Q => ∃ i j, xs = [.int i, .int j] ∧ CDiv i j ∧ ∀ p H', New H p (.tup [.int (i / j), .int (i % j)]) H' → Q (.ref p) H') := by
  intro pins s σ H xs us Q I r h
  obtain ⟨i, j, e, c, q⟩ := h
  exact call_divmod s σ H xs us Q I r ⟨i, j, e, c, fun p hp => q p _ ⟨hp, rfl⟩⟩
end
/-- the reading of an index at a place in bounds -/
theorem at_nat {α : Type} {xs : List α} {i : Int} {v : α} (h0 : 0 ≤ i) (h : xs[i.toNat]? = some v) : atI xs i = some v := by
  have q := atI_nat h
  have e : ((i.toNat : Nat) : Int) = i := by (first | lia | omega)
  rw [e] at q
  exact q
end L2

set_option Elab.async false
set_option linter.all false
set_option maxRecDepth 100000
set_option maxHeartbeats 4000000
/-! isinstance of data -/
namespace L2
open PySem PySem.Spec PyProof.Rows
/-- a data's type -/
noncomputable def tyD : PyData → String
  | .none => "NoneType"
  | .bool _ => "bool"
  | .int _ => "int"
  | .str _ => "str"
  | .list _ => "list"
  | .tuple _ => "tuple"
  | .dict _ => "dict"
/-- is it one of this type -/
noncomputable def isD (d : PyData) (T : String) : Bool := tyD d == T || (tyD d == "bool" && T == "int")
theorem kitT (K : PySem.W.Frag) (d : PyData) : PySem.W.kitOne K (.type (tyD d)) (.type "bool") = some (isD d "bool") ∧ PySem.W.kitOne K (.type (tyD d)) (.type "int") = some (isD d "int") ∧ PySem.W.kitOne K (.type (tyD d)) (.type "str") = some (isD d "str") ∧
    PySem.W.kitOne K (.type (tyD d)) (.type "list") = some (isD d "list") ∧ PySem.W.kitOne K (.type (tyD d)) (.type "tuple") = some (isD d "tuple") := by
  cases d <;> exact ⟨rfl, rfl, rfl, rfl, rfl⟩
section
variable {X : Cx}
theorem den_kit {pins : List (Addr × Obj)} {σ : St} {H : Hp} {s : Shared} {x : V} {u : Value} {d : PyData} (I : Inv X pins σ H s) (rx : RelV x u) (h : Den X.K H d x) : ∃ HH : Heap → Prop, PySem.W.KitX X.K u (.type (tyD d)) HH ∧ HH s.heap ∧ u ≠ .builtin "__main__.__loader__#opaque" := by
  cases d with
  | none => unfold Den at h; subst h; cases rx; exact ⟨_, PySem.W.kitx_none, True.intro, fun z => nomatch z⟩
  | bool b => unfold Den at h; subst h; cases rx; exact ⟨_, PySem.W.kitx_bool, True.intro, fun z => nomatch z⟩
  | int i => unfold Den at h; subst h; obtain ⟨t, rfl⟩ := rx; exact ⟨_, PySem.W.kitx_int, True.intro, fun z => nomatch z⟩
  | str y => unfold Den at h; subst h; obtain ⟨t, rfl⟩ := rx; exact ⟨_, PySem.W.kitx_str, True.intro, fun z => nomatch z⟩
  | list ds =>
    unfold Den at h
    obtain ⟨a, vs, rfl, h2, _⟩ := h
    cases rx
    obtain ⟨its, _, ⟨o, n, e1, e2, _⟩, _⟩ := I.list h2
    exact ⟨_, PySem.W.kitx_list, ⟨o, e1, e2⟩, fun z => nomatch z⟩
  | tuple ds =>
    unfold Den at h
    obtain ⟨a, vs, rfl, h2, _⟩ := h
    cases rx
    obtain ⟨its, _, ⟨o, e1, e2, _⟩, _⟩ := I.tuple h2
    exact ⟨_, PySem.W.kitx_tuple, ⟨o, e1, e2⟩, fun z => nomatch z⟩
  | dict _ => unfold Den at h; exact h.elim
theorem call_isiD : CallR X (.builtin "isinstance") (fun xs H Q => ∃ (x : V) (T : String) (d : PyData) (b : Bool), xs = [x, .ty T] ∧ Den X.K H d x ∧ PySem.W.kitOne X.K (.type (tyD d)) (.type T) = some b ∧ Q (.bl b) H) := by
  intro pins s σ H xs us Q I r h
  obtain ⟨x, T, d, b, rfl, hd, e, q⟩ := h
  obtain ⟨u, w', rfl, r1, r2⟩ := vals2 r
  cases r2
  obtain ⟨HH, Z, hh, hx⟩ := den_kit I r1 hd
  exact PySem.W.kia_one Z I.kIn hh e hx fun tk => ⟨.bl b, H, I.tok _, rfl, q⟩
/-- by data, or by the type -/
noncomputable def rIsi (K : PySem.W.Frag) : List V → Hp → VK → Prop := fun xs H Q => (∃ (x : V) (T : String) (d : PyData) (b : Bool), xs = [x, .ty T] ∧ Den K H d x ∧ PySem.W.kitOne K (.type (tyD d)) (.type T) = some b ∧ Q (.bl b) H) ∨
  ∃ x T t b, xs = [x, .ty T] ∧ TyOf K H x t ∧ PySem.W.kitOne K t (.type T) = some b ∧ Q (.bl b) H
theorem isiK (K : PySem.W.Frag) (hK : X.K = K := by rfl) : CallR X (.builtin "isinstance") (rIsi K) := by subst hK; exact call_isiD.or call_isi
end
end L2

set_option Elab.async false
set_option linter.all false
set_option maxRecDepth 100000
set_option maxHeartbeats 4000000
/-! zip over lists and tuples (k: is it a tuple) -/
namespace L2
open PySem PySem.Spec PyProof.Rows
section
variable {prog : Program} {w : World} {A : Around} {E : Value → Shared → Prop} {s : Shared} {k : Bool} {it a : Addr} {i : Nat} {its : Array Value}
end
section
variable {prog : Program} {w : World} {A : Around} {E : Value → Shared → Prop} {s : Shared} {k1 k2 : Bool} {z TI TO i1 i2 l1 l2 : Addr} {i : Nat} {xs ys : Array Value}
end
end L2

set_option Elab.async false
set_option linter.all false
set_option maxRecDepth 100000
set_option maxHeartbeats 4000000
/-! zip in a loop's head, over lists and tuples -/
namespace L2
open PySem PySem.Spec PyProof.Rows
section
variable {prog : Program} {w : World} {A : Around} {E : Value → Shared → Prop} {s : Shared}
end
section
variable {X : Cx}
end
end L2

set_option Elab.async false
set_option linter.all false
set_option maxRecDepth 100000
set_option maxHeartbeats 4000000
/-! insert; loops over a list, a tuple or a text; xs[::-1]; the least of a list -/
namespace L2
open PySem PySem.Spec PyProof.Rows
section
variable {X : Cx}
end
section
variable {X : Cx} {tg : Expr}
end
/-! xs[::-1] -/
section
variable {X : Cx} {e : Expr} {te : TE} {pos p2 p3 p4 : Pos} {j : Nat}
end
end L2

set_option Elab.async false
set_option linter.all false
set_option maxRecDepth 100000
set_option maxHeartbeats 4000000
/-! the least of a list of things that are compared by what stands in the heap -/
namespace L2
open PySem PySem.Spec PyProof.Rows
section
variable {prog : Program} {w : World} {A : Around} {R : Result → Shared → Prop} {I S : Addr} {fp wr : List Addr} {n : Nat} {P : Nat → Value → Prop} {St : Nat → Heap → Prop}
end
/-! the least of a list of tuples of ints -/
section
variable {X : Cx} (K : PySem.W.Frag)
end
end L2
namespace L2
open PySem
section
variable {X : Cx} (K : PySem.W.Frag)
theorem enumK {elts : List Expr} {k : Nat} {tp : Pos} {a : Expr} {ta : TA} {p pos : Pos} (hg : Gl X "enumerate") (hm : X.mg "enumerate" = none) (ha : PA X [a] ta) (hb : bootBuiltins "enumerate" = some (.type "enumerate") := by first | rfl | decide) (hs : starEach [a] X.env = [(false, eval a X.env)] := by rfl) (hK : X.K = K := by rfl) :
    PI X (.Tuple elts k tp) (.Call (.Name "enumerate" p) [a] [] pos) (iEnum K ta) := by subst hK; exact pi_enum hg hm ha hb hs
end
end L2

set_option Elab.async false
set_option linter.all false
set_option maxRecDepth 100000
set_option maxHeartbeats 4000000
/-! {k: v for t in xs if c}: the new dict stands in the heap's letters from the start -/
namespace L2
open PySem PySem.Spec PyProof.Rows
section
variable {prog : Program} {w : World} {A : Around} {R : Result → Shared → Prop} {s : Shared}
end
section
variable {X : Cx} {pins : List (Addr × Obj)} {σ : St} {H : Hp} {s : Shared} {a : Addr} {y v : V} {u r : Value} {A : Around} {E : Value → Shared → Prop}
end

section
variable {X : Cx} {pins : List (Addr × Obj)} {σ : St} {H : Hp} {s : Shared} {scope : Scope} {Nc Fc : List Str} {js : List Nat} {cl : List (Str × Addr)} {C : Addr} {fp : List Addr}
end
end L2

set_option Elab.async false
set_option linter.all false
set_option maxRecDepth 100000
set_option maxHeartbeats 4000000
/-! sorted(xs) of fewer than 64 ints -/
namespace L2
open PySem PySem.Spec PyProof.Rows
section
variable {X : Cx} (K : PySem.W.Frag)
end
end L2

set_option Elab.async false
set_option linter.all false
set_option maxRecDepth 100000
set_option maxHeartbeats 4000000
/-! an exception of an own class: raised, passing the frames -/
namespace L2
open PySem PySem.Spec PyProof.Rows PySem.W
theorem ObjOk.ex {P : Program} {w : World} {H : Hp} {h : Heap} {a : Addr} {o : HO} (x : ObjOk P w H h a o) : ∃ q, h.get? a = some q := by
  cases o with
  | lst xs => obtain ⟨_, _, _, _, e⟩ := x; exact ⟨_, e⟩
  | tup xs => obtain ⟨_, _, _, _, e, _⟩ := x; exact ⟨_, e⟩
  | dK kvs => obtain ⟨_, _, _, _, _, _, _, e, _⟩ := x; exact ⟨_, e⟩
  | dT kvs => obtain ⟨_, _, _, _, _, _, _, e, _⟩ := x; exact ⟨_, e⟩
  | set S n => obtain ⟨_, _, _, _, e, _⟩ := x; exact ⟨_, e⟩
  | ins C dx fs => exact ⟨_, x.2.2.2.1⟩
  | own y => exact x
  | xd fs => obtain ⟨_, ⟨_, _, _, e, _⟩, _⟩ := x; exact ⟨_, e⟩
  | rng lo hi => obtain ⟨_, _, _, e⟩ := x; exact ⟨_, e⟩
  | frz ob u => exact ⟨_, x.1⟩
  | tbl ps => exact ⟨_, x⟩
  | met f y => exact ⟨_, x⟩
  | ext φ => exact x.2.1
section
variable {P : Program} {w : World} {K : PySem.W.Frag} {mg : Str → Option Value} {base : Heap} {N : List Str} {qual : Str} {scope : Scope} {f : Addr} {cd : Value} {A : Around} {outer : List Env} {s0 : Shared} {H0 : Hp} {E : XK}
end
end L2

set_option Elab.async false
set_option linter.all false
set_option maxRecDepth 100000
set_option maxHeartbeats 4000000
/-! try: body, except C: suite -/
namespace L2
open PySem PySem.Spec PyProof.Rows PySem.W
section
variable {X : Cx} {pins pins' : List (Addr × Obj)} {σ σ0 : St} {E' : XK} {H : Hp} {s : Shared}
end
section
variable {X : Cx} {L : Addr}
end
section
variable {X : Cx} {L : Addr} {pins : List (Addr × Obj)} {σ : St} {H : Hp} {s : Shared}
end
section
variable {X : Cx} {L : Addr} {pins : List (Addr × Obj)} {σ : St} {H : Hp} {s : Shared}
theorem Inv.adoptE {e : Addr} {o : HO} (I : Inv X pins σ H s) (h0 : H e = none) (h1 : e ≠ X.env.locals) (h2 : ∀ x c, X.env.cells.lookup x = some c → c ≠ e) (h3 : ∀ p ∈ X.pn ++ pins, p.1 ≠ e) (h4 : ∀ b u, X.s₀.heap.get? b = some u → b ≠ e)
    (new : ObjOk X.prog X.w (upd H e o) s.heap e o) : Inv X pins σ (upd H e o) s := by
  refine ⟨I.ok, I.os, I.bare, ⟨I.base.keep, I.base.slot, fun b u q n hx => ?_, I.base.there, fun b xs q => ?_, fun b u xs q => ?_, fun b ps q => ?_⟩, I.loc, I.cell, ?_, fun x c q => ?_, fun p hp => ?_, I.hok.adopt h0 new, I.len⟩
  · rw [upd_ne (h4 b u q)]; exact I.base.free b u q n hx
  · have z := I.base.tups b xs q
    rw [upd_ne (ne_of_none z h0)]; exact z
  · have z := I.base.frzs b u xs q
    rw [upd_ne (ne_of_none z h0)]; exact z
  · obtain ⟨m, z⟩ := I.base.tbls b ps q
    exact ⟨m, by rw [upd_ne (ne_of_none z h0)]; exact z⟩
  · rw [upd_ne (Ne.symm h1)]; exact I.free
  · rw [upd_ne (h2 x c q)]; exact I.freeC x c q
  · obtain ⟨p1, p2, p3⟩ := I.pin p hp
    exact ⟨p1, by rw [upd_ne (h3 p hp)]; exact p2, p3⟩
end
section
variable {P : Program} {w : World} {K : PySem.W.Frag} {mg : Str → Option Value} {base : Heap}
end
end L2

set_option Elab.async false
set_option linter.all false
set_option maxRecDepth 100000
set_option maxHeartbeats 4000000
/-! the sort of fewer than 64 things whose keys are all unlike -/
namespace L2
open PySem PySem.Spec PyProof.Rows PySem.W
section
variable {n : Nat} {key : Nat → Int} {cmp : Nat → Nat → (Bool → Shared → Prop) → Shared → Prop} {s : Shared}
end
end L2

set_option Elab.async false
set_option linter.all false
set_option maxRecDepth 100000
set_option maxHeartbeats 4000000
/-! sorted(xs) of int tuples, all unlike -/
namespace L2
open PySem PySem.Spec PyProof.Rows PySem.W
section
variable {prog : Program} {w : World} {A : Around} {E : Value → Shared → Prop} {s : Shared} {κ : SortKind} {key : Nat → Int}
end
section
variable {X : Cx} (K : PySem.W.Frag)
end
section
variable {prog : Program} {w : World} {A : Around} {E : Value → Shared → Prop} {s : Shared}
end
section
variable {X : Cx} (K : PySem.W.Frag)
end
end L2

set_option Elab.async false
set_option linter.all false
set_option maxRecDepth 100000
set_option maxHeartbeats 4000000
/-! a new dict, its heap a letter -/
namespace L2
open PySem PySem.Spec PyProof.Rows
section
variable {X : Cx} {pos : Pos}
end
end L2

set_option Elab.async false
set_option linter.all false
set_option maxRecDepth 100000
set_option maxHeartbeats 4000000
/-! a def that may raise, called where it is known that it doesn't -/
namespace L2
open PySem PySem.Spec PyProof.Rows PySem.W
end L2

set_option Elab.async false
set_option linter.all false
set_option maxRecDepth 100000
set_option maxHeartbeats 4000000
/-! an own class of exceptions, read off the written part of the heap -/
namespace L2
open PySem PySem.Spec PyProof.Rows PySem.W
end L2

set_option Elab.async false
set_option linter.all false
set_option maxRecDepth 100000
set_option maxHeartbeats 4000000
/-! isinstance of an exception of an own class -/
namespace L2
open PySem PySem.Spec PyProof.Rows PySem.W PySem.Calls Builtin Builtin.ObjectAttr Builtin.Getset_descriptor
/-- an object of this class stands there -/
noncomputable def ExcAt (e C : Addr) (h : Heap) : Prop := ∃ o, h.get? e = some o ∧ o.cls = .ref C
/-- what must be known of an own class of exceptions -/
structure ExcOk (K : Frag) (C : Addr) : Prop where
  cl : (clsIn K C).isSome = true
  ga : findIn K (.ref C) "__getattribute__" = some (some (.builtin "BaseException.__getattribute__"))
  gt : findIn K (.ref C) "__getattr__" = some none
  ca : findIn K (.ref C) "__class__" = some (some (.builtin "object.__class__"))
  cg : specialIn K (.builtin "object.__class__") "__get__" = some (some (.builtin "getset_descriptor.__get__"))
  ct : takesIn K (.builtin "object.__class__") = some true
  mo : mroIn K C (.type "object") = some true
  mb : mroIn K C (.type "BaseException") = some true
section
variable {K : Frag} {e C : Addr}
theorem exc_type {M : Model} {h : Heap} (p : ExcAt e C h) : Looks M h (typeOf (.ref e)) (.ref C) := by
  obtain ⟨o, h1, h2⟩ := p
  exact h2 ▸ (Looks.ld h1).andThen .now
theorem exc_find {M : Model} {h : Heap} {self : Value} (X : K.In h) (O : ExcOk K C) : Looks M h (find self (.ref C) "__class__") (.bind (.builtin "getset_descriptor.__get__") (.builtin "object.__class__")) := by
  have a := looks_findIn (M := M) X O.ca
  have g : Looks M h (getOf (some (.builtin "object.__class__"))) (some (.builtin "getset_descriptor.__get__")) := looks_specialIn X O.cg
  have t := looks_takesIn (M := M) X O.ct
  have d : Looks M h (dataDescriptor? (some (.builtin "object.__class__")) (some (.builtin "getset_descriptor.__get__"))) (some (.builtin "getset_descriptor.__get__", .builtin "object.__class__")) := t.andThen .now
  exact a.andThen (g.andThen (d.andThen (Looks.tag .now)))
variable {prog : Program} {w : World} {A : Around} {E : Value → Shared → Prop} {s : Shared}
theorem exc_cget {R : Result → Shared → Prop} {tp : Value} (X : K.In s.heap) (O : ExcOk K C) (p : ExcAt e C s.heap) (h : R (.ok (.ret (.ref C))) s) :
    codeAny (model prog w) A (.call (.builtin "getset_descriptor.__get__") ⟨[.builtin "object.__class__", .ref e, tp], []⟩) R s := by
  obtain ⟨hh, g, dr, t, os⟩ := s
  have T0 := exc_type (M := model prog w) p
  have T1 := looks_mroIn (M := model prog w) X O.mo
  refine codeAny_call_builtin KF.slot_gs.plain KF.entry_gs ?_
  refine KF.slot_gs.check _ _ _ _ _ _ _ _ KF.type_class (KF.args_gs _ _ _) ?_
  unfold Builtin.«getset_descriptor.__get__» descrGet
  rw [dga_obj]
  refine wpAny_bind (wpAny_pure ?_)
  unfold descrGetter descrCheckInstance descrNameAndClass isInstance
  simp only [KF.owner_class]
  repeat lk
  refine ⟨Code.quiet_builtin _ (by decide +kernel), ?_⟩
  refine codeAny_builtin KF.entry_class ?_
  unfold Builtin.«object.__class__» shownTypeOf
  repeat lk
  exact h
theorem exc_entry {tk : Tok} {Q : Fin → Shared → Prop} (X : K.In s.heap) (O : ExcOk K C) (p : ExcAt e C s.heap) (h : Q (.done (.ret (.ref C))) s) :
    wpAny (model prog w) A (Builtin.«object.__getattribute__» ⟨[.ref e, .str "__class__" tk], []⟩) Q E s := by
  obtain ⟨hh, g, dr, t, os⟩ := s
  have T0 := exc_type (M := model prog w) p
  have T1 := exc_find (M := model prog w) (self := .ref e) X O
  unfold Builtin.«object.__getattribute__»
  refine wpAny_bind (wpAny_pure ?_)
  refine wpAny_bind (wpAny_pure ?_)
  refine wpAny_bind (T0.at (wpAny_bind (T1.at ?_)))
  show wpAny _ _ (holding [.builtin "object.__class__"] (call (.builtin "getset_descriptor.__get__") [.builtin "object.__class__", .ref e, .ref C]) >>= ret) _ _ _
  exact wpAny_bind (wpAny_holding (wpAny_call (exc_cget X O p (wpAny_pure h))))
theorem exc_check {nameV : Value} {Q : Unit → Shared → Prop} (X : K.In s.heap) (O : ExcOk K C) (p : ExcAt e C s.heap) (h : Q () s) : wpAny (model prog w) A (checkBuiltinCall "BaseException.__getattribute__" ⟨[.ref e, nameV], []⟩) Q E s := by
  obtain ⟨hh, g, dr, t, os⟩ := s
  have T0 := exc_type (M := model prog w) p
  have T1 := looks_mroIn (M := model prog w) X O.mb
  have k1 : builtinKind "BaseException.__getattribute__" = some .slot := by decide +kernel
  have k2 : splitId "BaseException.__getattribute__" = some ("BaseException", "__getattribute__") := by decide +kernel
  have k3 := F.args_bexc_ga (.ref e) nameV
  simp only [checkBuiltinCall, k1, k2]
  unfold isInstance
  repeat (first | lk | wp_step)
  exact h
theorem exc_attr {Q : Option Value → Shared → Prop} (X : K.In s.heap) (O : ExcOk K C) (p : ExcAt e C s.heap) (h : Q (some (.ref C)) { s with toks := s.toks + 1 }) : wpAny (model prog w) A (getAttr? (.ref e) "__class__") Q E s := by
  obtain ⟨hh, g, dr, t, os⟩ := s
  have T0 := exc_type (M := model prog w) p
  have T1 := looks_findIn (M := model prog w) X O.ga
  have T2 := looks_findIn (M := model prog w) X O.gt
  have f3 := F.attr_ValueError.ga.bind (.ref e)
  unfold getAttr? getAttrBy?
  unfold getAttrBy
  refine wpAny_bind (wpAny_mkText ?_)
  refine wpAny_bind (wpAny_attempt (wpAny_holding ?_))
  refine wpAny_bind (T0.at ?_)
  refine wpAny_bind (T1.at ?_)
  show wpAny _ _ (getAttrByItsOwn _ _ _ _ _ _) _ _ _
  unfold getAttrByItsOwn
  refine wpAny_bind ?_
  show wpAny _ _ (typeLookup (.ref C) "__getattr__") _ _ _
  refine T2.at ?_
  refine wpAny_bind (wpAny_attempt (wpAny_holding ?_))
  show wpAny _ _ (boundAndCalled _ _ _) _ _ _
  unfold boundAndCalled
  rw [f3]
  refine wpAny_bind (wpAny_pure ?_)
  refine wpAny_call (codeAny_call_builtin F.attr_ValueError.ga.plain F.entry_bexc_ga (exc_check (s := ⟨hh, g, dr, t + 1, os⟩) X O p (exc_entry (s := ⟨hh, g, dr, t + 1, os⟩) X O p ?_)))
  exact handed_on rfl (wpAny_pure h)
theorem kitx_exc (O : ExcOk K C) : KitX K (.ref e) (.ref C) (ExcAt e C) where
  ty := fun _ _ _ p => exc_type p
  it := fun _ _ X _ => by
    have z := O.cl
    cases q : K.lookup C with
    | none => simp [clsIn, q] at z
    | some o =>
      obtain ⟨c1, c2, c3, c4⟩ := o
      cases c3 <;> simp [clsIn, q] at z
      intro A Q E s k h
      unfold isType loadHead
      exact wpAny_bind (wpAny_loadPart (k _ _ (X _ _ q)) (wpAny_pure h))
  ne := fun h tp dd its n sl X htp => Bool.eq_false_iff.mpr fun z => by
    have z : C = tp := Value.ref.inj (beq_iff_eq.mp z)
    subst z
    have z := O.cl
    cases q : K.lookup C with
    | none => simp [clsIn, q] at z
    | some o =>
      have w := (X _ _ q).symm.trans htp
      cases w
      simp [clsIn, q] at z
  ca := fun X p h => exc_attr X O p h
theorem kit_ref {C D : Addr} {cd} {b : Bool} (h1 : clsIn K D = some cd) (h2 : typeIn K (.ref D) = some (.type "type")) (h3 : subIn K (.ref C) (.ref D) = some b) (hne : (Value.ref C == Value.ref D) = false) : kitOne K (.ref C) (.ref D) = some b := by
  unfold kitOne kitCls
  rw [if_neg (by rw [hne]; decide)]
  simp [h1, h2, h3]
theorem cls_some {C : Addr} {cd} (h : clsIn K C = some cd) : (clsIn K C).isSome = true := by rw [h]; rfl
theorem kit_self {C : Addr} : kitOne K (.ref C) (.ref C) = some true := by
  unfold kitOne
  rw [if_pos (beq_iff_eq.mpr rfl)]
theorem kit_ty {C : Addr} {T : String} {b : Bool} (h1 : kitMeta T = true) (h3 : subIn K (.ref C) (.type T) = some b) : kitOne K (.ref C) (.type T) = some b := by
  unfold kitOne kitCls
  rw [if_neg (fun z => by cases beq_iff_eq.mp z)]
  simp [h1, h3]
end
section
variable {X : Cx}
/-- a class, by its name -/
theorem pe_gref {x : Str} {C : Addr} {pos : Pos} (hg : Gl X x) (hm : X.mg x = some (.ref C)) (hd : (x == ("__debug__" : Str)) = false := by decide) : PE X (.Name x pos) (tC (.ref C)) := pe_glob (v := .ref C) hg hm rfl hd
/-- the class that a name tells -/
noncomputable def clsV : V → Option Value
  | .ref D => some (.ref D)
  | .ty T => some (.type T)
  | _ => none
end
end L2

set_option Elab.async false
set_option linter.all false
set_option maxRecDepth 100000
set_option maxHeartbeats 4000000
/-! list(range(n)); a text n times -/
namespace L2
open PySem PySem.Spec PyProof.Rows
section
variable {X : Cx}
end
end L2

set_option Elab.async false
set_option linter.all false
set_option maxRecDepth 100000
set_option maxHeartbeats 4000000
/-! set(xs) of texts, and its len -/
namespace L2
open PySem PySem.Spec PyProof.Rows
section
variable {prog : Program} {w : World} {K : Type} [DecidableEq K] {knd : PySem.KeyKind prog w K}
variable {A : Around} {R : Result → Shared → Prop} {I : Addr} {fp wr : List Addr} {G : Array GenState → Array GenState → Prop} {n : Nat} {P : Nat → Value → Prop} {St : Nat → Shared → Prop}
end
section
variable {prog : Program} {w : World} {K : Type} [DecidableEq K] {knd : PySem.KeyKind prog w K} {A : Around} {E : Value → Shared → Prop} {s : Shared}
end
section
variable {X : Cx}
end
end L2

set_option Elab.async false
set_option linter.all false
set_option maxRecDepth 100000
set_option maxHeartbeats 4000000
/-! str(x) of data, however nested -/
namespace L2
open PySem PySem.Spec PyProof.Rows
section
variable {X : Cx} {pins : List (Addr × Obj)} {σ : St} {H : Hp} {s : Shared}
end
end L2

set_option Elab.async false
set_option linter.all false
set_option maxRecDepth 100000
set_option maxHeartbeats 4000000
/-! {e for t in xs if c}: a set's comprehension, of texts or of ints -/
namespace L2
open PySem PySem.Spec PyProof.Rows
section
variable {prog : Program} {w : World} {A : Around} {R : Result → Shared → Prop} {s : Shared}
end
section
end
end L2

set_option Elab.async false
set_option linter.all false
set_option maxRecDepth 100000
set_option maxHeartbeats 4000000
/-! reverse, clear, count of a list; texts and numbers of the module -/
namespace L2
open PySem PySem.Spec PyProof.Rows
section
variable {X : Cx}
end
end L2

set_option Elab.async false
set_option linter.all false
set_option maxRecDepth 100000
set_option maxHeartbeats 4000000
/-! sorted(xs) of fewer than 64 texts -/
namespace L2
open PySem PySem.Spec PyProof.Rows
section
variable {X : Cx} (K : PySem.W.Frag)
end
section
variable {X : Cx}
end
end L2

set_option Elab.async false
set_option linter.all false
set_option maxRecDepth 100000
set_option maxHeartbeats 4000000
/-! range with a step -/
namespace L2
open PySem PySem.Spec PyProof.Rows
section
variable {X : Cx} {tg : Expr}
end
end L2

set_option Elab.async false
set_option linter.all false
set_option maxRecDepth 100000
set_option maxHeartbeats 4000000
/-! a truth value plus a number -/
namespace L2
open PySem PySem.Spec PyProof.Rows
section
variable {X : Cx}
end
end L2

set_option Elab.async false
set_option linter.all false
set_option maxRecDepth 100000
set_option maxHeartbeats 4000000
/-! reversed(list) in a loop's head; list.index of a number; xs[i] += e -/
namespace L2
open PySem PySem.Spec PyProof.Rows
section
variable {X : Cx} {K : PySem.W.Frag}
end
end L2

set_option Elab.async false
set_option linter.all false
set_option maxRecDepth 100000
set_option maxHeartbeats 4000000
/-! a statement that raises nothing, in a def that may raise; isinstance of None or of a caught exception -/
namespace L2
open PySem PySem.Spec PyProof.Rows PySem.W
section
variable {X : Cx} {pins : List (Addr × Obj)} {σ : St} {H : Hp} {s : Shared}
end
section
variable {X : Cx}
end
end L2

set_option Elab.async false
set_option linter.all false
set_option maxRecDepth 100000
set_option maxHeartbeats 4000000
/-! min of a list of numbers; list.remove of a number -/
namespace L2
open PySem PySem.Spec PyProof.Rows
section
variable {X : Cx}
end
end L2

set_option Elab.async false
set_option linter.all false
set_option maxRecDepth 100000
set_option maxHeartbeats 4000000
/-! a text turned about: x[::-1] -/
namespace L2
open PySem PySem.Spec PyProof.Rows
section
variable {X : Cx} {e : Expr} {te : TE} {j p2 p3 p4 pos}
end
end L2

set_option Elab.async false
set_option linter.all false
set_option maxRecDepth 100000
set_option maxHeartbeats 4000000
/-! data written out in the text; a dict of the module; x in a sequence of data; upper -/
namespace L2
open PySem PySem.Spec PyProof.Rows
theorem PE.weak {X : Cx} {e : Expr} {t t' : TE} (h : PE X e t) (w : ∀ σ H Q, t' σ H Q → t σ H Q) : PE X e t' := fun _ s σ H Q I q => h s σ H Q I (w σ H Q q)
theorem PA.weak {X : Cx} {es : List Expr} {t t' : TA} (h : PA X es t) (w : ∀ σ H Q, t' σ H Q → t σ H Q) : PA X es t' := fun _ _ s σ H Q I q => h s σ H Q I (w σ H Q q)
/-- what is new in H' -/
noncomputable def newOf (H H' : Hp) : Hp := fun a => match H a with
  | none => H' a
  | some _ => none
theorem newOf_none {H H' : Hp} {a : Addr} (h : H a = none) : newOf H H' a = H' a := by unfold newOf; rw [h]
theorem of_newOf {H H' : Hp} {a : Addr} {o : HO} (h : newOf H H' a = some o) : H a = none ∧ H' a = some o := by
  unfold newOf at h
  cases e : H a with
  | none => rw [e] at h; exact ⟨rfl, h⟩
  | some u => rw [e] at h; cases h
theorem newOf_more {H H1 H2 : Hp} (s : Same H1 H2) : Same (newOf H H1) (newOf H H2) := fun a o h => by
  rw [newOf_none (of_newOf h).1]; exact s a o (of_newOf h).2
theorem newOf_less {H H1 H2 : Hp} (s : Same H H1) : Same (newOf H1 H2) (newOf H H2) := fun a o h => by
  rw [newOf_none (s.free (of_newOf h).1)]; exact (of_newOf h).2
/-- data of new objects alone -/
noncomputable def tLit (K : PySem.W.Frag) (d : PyData) : TE := fun _ H Q => ∀ v H', Same H H' → Den K (newOf H H') d v → Q v H'
noncomputable def tLits (K : PySem.W.Frag) (ds : List PyData) : TA := fun _ H Q => ∀ vs H', Same H H' → Dens K (newOf H H') ds vs → Q vs H'
section
variable {X : Cx} {K : PySem.W.Frag}
theorem lit_str {x : Str} {j pos} : PE X (.Constant (.str x) j pos) (tLit K (.str x)) := pe_str.weak fun σ H Q h => h _ H (Same.refl _) (by unfold Den; rfl)
theorem lits_nil : PA X [] (tLits K []) := pa_nil.weak fun σ H Q h => h [] H (Same.refl _) (by unfold Dens; rfl)
theorem lits_cons {e : Expr} {es : List Expr} {d : PyData} {ds : List PyData} (h : PE X e (tLit K d)) (hs : PA X es (tLits K ds)) (hst : starEach (e :: es) X.env = (false, eval e X.env) :: starEach es X.env := by rfl) : PA X (e :: es) (tLits K (d :: ds)) :=
  (pa_cons h hs hst).weak fun σ H Q q v H1 s1 d1 vs H2 s2 d2 => q (v :: vs) H2 (s1.trans s2) (by
    unfold Dens
    exact ⟨v, vs, rfl, d1.same (newOf_more s2), d2.same (newOf_less s1)⟩)
theorem lens_of {K : PySem.W.Frag} {H : Hp} : ∀ {ds : List PyData} {vs : List V}, Dens K H ds vs → vs.length = ds.length
  | [], _, h => by unfold Dens at h; subst h; rfl
  | d :: ds, vs, h => by
    unfold Dens at h
    obtain ⟨v, r, rfl, h1, h2⟩ := h
    rw [List.length_cons, List.length_cons, lens_of h2]
theorem lit_lst {es : List Expr} {ds : List PyData} {pos : Pos} (h : PA X es (tLits K ds)) (hl : ds.length ≤ 1000 := by decide) : PE X (.List es pos) (tLit K (.list ds)) :=
  (lstN h).weak fun σ H Q q vs H1 s1 d1 => ⟨Nat.le_trans (by rw [lens_of d1]; exact hl) (show 1000 ≤ sizeLine by decide), fun p H' n => q _ _ (s1.trans n.same) (by
    unfold Den
    exact ⟨p, vs, rfl, SqL.of (by rw [newOf_none (s1.free n.nn)]; exact n.at), d1.same (newOf_more n.same)⟩)⟩
end
/-! a dict of the module, its keys texts -/
section
variable {X : Cx} {o i : Expr} {td ty : TE} {pos : Pos}
end
/-! x in a sequence of data -/
section
variable {X : Cx} {pins : List (Addr × Obj)} {σ : St} {H : Hp} {s : Shared}
open Classical in
end
section
variable {X : Cx}
end
section
variable {X : Cx}
end
end L2

set_option Elab.async false
set_option linter.all false
set_option maxRecDepth 100000
set_option maxHeartbeats 4000000
/-! exceptions of own classes that are made by an own __init__, their fields -/
namespace L2
open PySem PySem.Spec PyProof.Rows PySem.W PySem.Calls Builtin Builtin.ObjectAttr
noncomputable abbrev tailVE : List Value := [.type "ValueError", .type "Exception", .type "BaseException", .type "object"]
/-- what must be known of such a class for the store and the load of a field -/
structure ExcSt (K : Frag) (C : Addr) (f : Str) : Prop where
  sa : findIn K (.ref C) "__setattr__" = some (some (.builtin "object.__setattr__"))
  na : findIn K (.ref C) f = some none
  mo : mroIn K C (.type "object") = some true
  cl : ∃ cd D, clsIn K C = some cd ∧ cd.mro = .ref C :: .ref D :: tailVE ∧ cd.hasDict = true
/-- an exception without fields; one whose fields stand in the dict at dx -/
noncomputable def excN (e C : Addr) : HO := .ext fun h => ∃ o, h.get? e = some o ∧ o.cls = .ref C ∧ o.dict = none ∧ notCls o = true
noncomputable def excF (e C dx : Addr) : HO := .ext fun h => ∃ o, h.get? e = some o ∧ o.cls = .ref C ∧ o.dict = some dx ∧ notCls o = true
section
variable {prog : Program} {w : World} {A : Around} {K : Frag} {C e : Addr} {s : Shared} {E : Value → Shared → Prop} {f : Str} {v : Value}
theorem exc_store {o : Obj} {Q : Unit → Shared → Prop} (X : K.In s.heap) (O : ExcSt K C f) (hx : s.heap.get? e = some o) (hc : o.cls = .ref C) (hd : o.dict = none) (hn : notCls o = true)
    (k : ∀ h' tk, h'.get? e = some { o with dict := some s.heap.objs.size } → h'.Ns1 s.heap.objs.size (fun y => if y = f then some v else none) → (∀ b ob, b ≠ e → s.heap.get? b = some ob → h'.get? b = some ob) → Q () { s with heap := h', toks := tk }) :
    wpAny (model prog w) A (setAttr (.ref e) f v) Q E s := by
  have J : InstAt s.heap e o C none := ⟨hx, hc, hn, by rw [hd]; trivial⟩
  obtain ⟨cd, D, c1, c2, c3⟩ := O.cl
  have SF := PySem.F.store_object
  have top : Looks (model prog w) s.heap (isInstance (.ref e) (.type "object")) true := J.type.andThen (looks_mroIn X O.mo)
  have mros : Looks (model prog w) s.heap (mroOf (.ref C)) cd.mro := (looks_clsIn X c1).andThen .now
  refine set_plain X J O.sa ?_
  refine codeAny_call_builtin SF.slot.plain SF.entry ?_
  refine @check_slot (model prog w) _ _ { s with toks := s.toks + 1 } "object.__setattr__" "object" "__setattr__" (.ref e) [.str f s.toks, v] [] _ SF.kind SF.split top (SF.args (.ref e) (.str f s.toks) v) ?_
  rw [osa_eq, refuse_eq]
  refine wpAny_bind (wpAny_bind (J.type.here (s := { s with toks := s.toks + 1 }) (wpAny_bind (mros.here (s := { s with toks := s.toks + 1 }) ?_))))
  rw [c2, refuseLoop_ref, refuseLoop_ref, PySem.F.store_ValueError.passes]
  refine wpAny_pure (wpAny_bind (J.type.here (s := { s with toks := s.toks + 1 }) ?_))
  refine wpAny_bind ((looks_findIn X O.na).here (s := { s with toks := s.toks + 1 }) ?_)
  refine wpAny_bind (wpAny_pure ?_)
  show wpAny _ _ (storeInOwnDict (.ref e) (.ref C) (.str f s.toks) f v false) _ _ _
  obtain ⟨oc, od, odt, osl⟩ := o
  dsimp only at hc hd
  subst hc hd
  have hfr := (Heap.get?_some_iff.mp hx).2
  have hes : e ≠ s.heap.objs.size := Nat.ne_of_lt (Heap.lt_size hx)
  refine wpAny_bind (wpAny_pure (wpAny_bind ?_))
  show wpAny _ _ (instanceDict e true) _ _ _
  unfold instanceDict
  refine wpAny_bind (wpAny_loadPart hx ?_)
  refine wpAny_bind ((looks_clsIn X c1).here (s := { s with toks := s.toks + 1 }) ?_)
  rw [c3]
  dsimp only
  rw [if_neg (by decide), if_neg (by simp [typeHasDict])]
  split
  · rename_i c
    exact absurd hn (by simp [notCls])
  have hx1 : (s.heap.push { cls := .type "dict", data := .dict #[] }).get? e = some ⟨.ref C, none, odt, osl⟩ := Heap.get?_push_of_some _ hx
  refine wpAny_bind (wpAny_alloc' ?_)
  refine wpAny_bind (wpAny_update' hx1 ?_)
  refine wpAny_pure ?_
  obtain ⟨G, hG⟩ : ∃ G, G = (s.heap.push { cls := .type "dict", data := .dict #[] }).update e fun o => { cls := o.cls, dict := some s.heap.objs.size, data := o.data, slots := o.slots } := ⟨_, rfl⟩
  have gd : G.get? s.heap.objs.size = some { cls := .type "dict", data := .dict #[] } := by
    rw [hG]
    exact (Heap.get?_update_ne _ _ _ _ hes.symm).trans (Heap.get?_push_at rfl rfl)
  have ge : G.get? e = some ⟨.ref C, some s.heap.objs.size, odt, osl⟩ := by
    rw [hG]
    refine Heap.get?_update_self _ hx1 ?_
    cases odt <;> first | rfl | exact hfr
  have go : ∀ b ob, b ≠ e → s.heap.get? b = some ob → G.get? b = some ob := fun b ob nb q => by
    rw [hG]
    exact (Heap.get?_update_ne _ _ _ _ nb).trans (Heap.get?_push_of_some _ q)
  have ns0 : G.Ns s.heap.objs.size (fun _ => none) := ⟨_, #[], _, gd, rfl, (fun a ha => absurd ha (by simp)), fun _ => rfl⟩
  rw [← hG]
  show wpAny _ _ (storeInDict s.heap.objs.size (.str f s.toks) f v) _ _ _
  unfold storeInDict newKeyGuard
  refine wpAny_bind (wpAny_pure (wpAny_bind (wpAny_nsSet1 (Heap.Ns1.of_empty ns0) fun h2 ns2 sb => ?_)))
  obtain ⟨oD, eD, pD, hoD, dD, cD⟩ := ns2.count (Within.cons f v Within.nil)
  refine wpAny_bind (wpAny_lookBehind hoD ?_ ?_)
  · rw [dD]
    refine pastItsLine_dict (Nat.le_trans cD ?_)
    rw [List.length_cons, List.length_nil, sizeLine_eq]
    (first | lia | omega)
  exact wpAny_pure (k h2 _ ((sb.2 e hes).trans ge) ns2 fun b ob nb q => (sb.2 b (Nat.ne_of_lt (Heap.lt_size q))).trans (go b ob nb q))
/-- e.f -/
theorem exc_load {o od : Obj} {dx : Addr} {Q : Value → Shared → Prop} (X : K.In s.heap) (O : ExcOk K C) (S : ExcSt K C f) (hx : s.heap.get? e = some o) (hc : o.cls = .ref C) (hd : o.dict = some dx) (hn : notCls o = true) (ho : s.heap.get? dx = some od)
    (hl : lookIn f od = some (some v)) (hv : handedIn v = true) (k : Q v { s with toks := s.toks + 1 }) : wpAny (model prog w) A (getAttr (.ref e) f true) Q E s := by
  have J : InstAt s.heap e o C (some od) := ⟨hx, hc, hn, by rw [hd]; exact ho⟩
  have p : ExcAt e C s.heap := ⟨o, hx, hc⟩
  obtain ⟨cd, D, c1, c2, c3⟩ := S.cl
  have fo : findObj K C (some od) f = some (.value v) := by
    unfold findObj PySem.W.ownOf
    simp only [c1, S.na, Option.bind_some, c3, if_true, hl]
  obtain ⟨hh, g, dr, t, os⟩ := s
  have T0 := exc_type (M := model prog w) p
  have T1 := looks_findIn (M := model prog w) X O.ga
  have T2 := looks_findIn (M := model prog w) X O.gt
  have T3 := looks_find (M := model prog w) X J fo
  have f3 := F.attr_ValueError.ga.bind (.ref e)
  unfold getAttr getAttrBy
  refine wpAny_bind (wpAny_mkText (wpAny_holding ?_))
  refine wpAny_bind (T0.at (wpAny_bind (T1.at ?_)))
  show wpAny _ _ (getAttrByItsOwn _ _ _ _ _ _) _ _ _
  unfold getAttrByItsOwn
  refine wpAny_bind ?_
  show wpAny _ _ (typeLookup (.ref C) "__getattr__") _ _ _
  refine T2.at (wpAny_bind (wpAny_attempt (wpAny_holding ?_)))
  show wpAny _ _ (boundAndCalled _ _ _) _ _ _
  unfold boundAndCalled
  rw [f3]
  refine wpAny_bind (wpAny_pure (wpAny_call (codeAny_call_builtin F.attr_ValueError.ga.plain F.entry_bexc_ga (exc_check (s := ⟨hh, g, dr, t + 1, os⟩) X O p ?_))))
  unfold Builtin.«object.__getattribute__»
  refine wpAny_bind (wpAny_pure (wpAny_bind (wpAny_pure (wpAny_bind (T0.at (wpAny_bind (T3.at ?_)))))))
  exact wpAny_pure (handed_on hv k)
end
section
variable {prog : Program} {w : World} {A : Around} {E : Value → Shared → Prop} {h0 : Heap} {g0 : Array GenState} {d0 : Drawn} {t0 : Nat} {os0 : OsState} {nm qn : Str} {C N fi : Addr} {bs up tail : List Value} {hdct : Bool} {sn : List Str} {sub : List Value} {ab : Bool}
  {col : Option Bool} {dd : Option Addr} {k0 k1 k2 k3 k5 : Option Value} {B newId initId : String}
/-- the class is called: its object, then its own __init__ -/
theorem xcls_call (FB : ExcBaseFacts B newId initId tail) (TL : OwnTail h0 tail up) {vs : List Value} {oi : Obj} {Q : Fin → Shared → Prop}
    (hcl : h0.get? C = some (excClassObj nm qn C N bs up hdct sn sub ab col dd k0 k1 k2 k3 k5 newId)) (hin : ∀ h1 : Heap, (∀ b o, h0.get? b = some o → h1.get? b = some o) → Looks (model prog w) h1 (typeLookup (.ref C) "__init__") (some (.ref fi))) (hfi : h0.get? fi = some oi) (hfk : oi.cls = .type "function") (fit : vs.length ≤ sizeLine)
    (run : ∀ h' e, Heap.MadeExcOf h0 h' e (.ref C) vs → wpAny (model prog w) A (call (.ref fi) (.ref e :: vs)) (fun r s' => r = .none ∧ Q (.done (.ret (.ref e))) s') E ⟨h', g0, d0, t0, os0⟩) :
    wpAny (model prog w) A (Builtin.«type.__call__» ⟨.ref C :: vs, []⟩) Q E ⟨h0, g0, d0, t0, os0⟩ := by
  repeat (first
    | with_reducible refine wpAny_loadPart_at hcl ?_
    | with_reducible refine wpAny_madeBy_exc hcl ?_
    | wp_step)
  refine codeAny_call_builtin_code (Code.quiet_builtin _ FB.quiet) ?_
  refine wpAny_check_new_subT FB TL hcl ?_
  refine codeAny_exc_new_subT FB TL hcl ?_ fit
  show wpAny _ _ _ _ _ _
  obtain ⟨H1, e1⟩ : ∃ H1, H1 = (h0.push { cls := .type "tuple", data := .seq vs.toArray }).push { cls := .ref C, data := .fields #[.ref h0.objs.size, .none, .none, .none, .bool false, .none] } := ⟨_, rfl⟩
  have kp : ∀ b o, h0.get? b = some o → H1.get? b = some o := fun b o z => by
    rw [e1]
    exact Heap.get?_push_of_some _ (Heap.get?_push_of_some _ z)
  have me : H1.get? (h0.objs.size + 1) = some { cls := .ref C, data := .fields #[.ref h0.objs.size, .none, .none, .none, .bool false, .none] } := by
    rw [e1]
    heap_get
  have mt : H1.get? h0.objs.size = some { cls := .type "tuple", data := .seq vs.toArray } := by
    rw [e1]
    exact Heap.get?_push_of_some _ (Heap.get?_push_at rfl rfl)
  rw [← e1]
  have hcl1 := kp _ _ hcl
  have self : (Value.ref C :: up).contains (.ref C) = true := by simp
  unfold isInstance
  repeat (first
    | with_reducible refine wpAny_loadPart_at me ?_
    | (with_reducible refine wpAny_isSubtype_exc hcl1 ?_; rw [self])
    | wp_step)
  show wpAny _ _ (typeLookup (.ref C) _) _ _ _
  refine (hin H1 kp).at ?_
  refine wpAny_holding (wpAny_bind ?_)
  unfold bindSpecial
  refine wpAny_bind (wpAny_typeOf (T := "function") ⟨_, kp _ _ hfi, hfk⟩ ?_)
  rw [if_pos (by decide)]
  have made : Heap.MadeExcOf h0 H1 (h0.objs.size + 1) (.ref C) vs := ⟨kp, Heap.get?_none_of_le (Nat.le_succ _), h0.objs.size, me, Heap.get?_none_of_le (Nat.le_refl _), mt⟩
  refine wpAny_pure (wpAny_bind (wpAny_mono (run H1 _ made) (fun r s' hr => ?_) fun _ _ x => x))
  obtain ⟨rfl, q⟩ := hr
  wp_walk
  exact q
theorem xcall (FB : ExcBaseFacts B newId initId tail) (TL : OwnTail h0 tail up) {vs : List Value} {oi : Obj} {Q : Value → Shared → Prop}
    (hcl : h0.get? C = some (excClassObj nm qn C N bs up hdct sn sub ab col dd k0 k1 k2 k3 k5 newId)) (hin : ∀ h1 : Heap, (∀ b o, h0.get? b = some o → h1.get? b = some o) → Looks (model prog w) h1 (typeLookup (.ref C) "__init__") (some (.ref fi))) (hfi : h0.get? fi = some oi) (hfk : oi.cls = .type "function") (fit : vs.length ≤ sizeLine)
    (run : ∀ h' e, Heap.MadeExcOf h0 h' e (.ref C) vs → wpAny (model prog w) (A.under (.builtin "type.__call__" ⟨.ref C :: vs, []⟩)) (call (.ref fi) (.ref e :: vs)) (fun r s' => r = .none ∧ Q (.ref e) s') E ⟨h', g0, d0, t0, os0⟩) :
    wpAny (model prog w) A (call (.ref C) vs) Q E ⟨h0, g0, d0, t0, os0⟩ := by
  have b1 := tc_lookup
  have b2 := tc_bind (.ref C)
  have ty : (⟨h0, g0, d0, t0, os0⟩ : Shared).TypeIs (.ref C) "type" := ⟨_, hcl, rfl⟩
  refine wpAny_call (codeAny_of_tree ?_)
  show wpAny _ _ (callAny (.ref C) _) _ _ _
  repeat (any_goals (first
    | assumption
    | with_reducible refine wpAny_loadPart_at hcl ?_
    | wp_step))
  refine ⟨rfl, codeAny_call_builtin_at (Code.quiet_builtin _ (by decide +kernel)) entry_typeCall ?_⟩
  exact wpAny_check_type_call_sub hcl (xcls_call FB TL hcl hin hfi hfk fit fun h' e m => run h' e m)
end
/-! the rules -/
section
variable {X : Cx} {pins : List (Addr × Obj)} {σ : St} {H : Hp} {s : Shared} {e C : Addr}
theorem excN_ok {P : Program} {w : World} {H : Hp} {h : Heap} {o : Obj} (h1 : h.get? e = some o) (h2 : o.cls = .ref C) (h3 : o.dict = none) (h4 : notCls o = true) : ObjOk P w H h e (excN e C) :=
  ⟨⟨o, h1, h2, h3, h4⟩, ⟨o, h1⟩, fun a b ⟨o, e1, r⟩ k => ⟨o, k _ e1, r⟩⟩
theorem excF_ok {P : Program} {w : World} {H : Hp} {h : Heap} {o : Obj} {dx : Addr} (h1 : h.get? e = some o) (h2 : o.cls = .ref C) (h3 : o.dict = some dx) (h4 : notCls o = true) : ObjOk P w H h e (excF e C dx) :=
  ⟨⟨o, h1, h2, h3, h4⟩, ⟨o, h1⟩, fun a b ⟨o, e1, r⟩ k => ⟨o, k _ e1, r⟩⟩
theorem Inv.noObj (I : Inv X pins σ H s) (h : s.heap.get? e = none) : H e = none := by
  cases z : H e with
  | none => rfl
  | some o => obtain ⟨q, hq⟩ := (I.hok e o z).ex; rw [hq] at h; cases h
/-- a made exception, tracked -/
theorem Inv.madeE {h' : Heap} {us : List Value} {tk : Nat} (I : Inv X pins σ H s) (m : Heap.MadeExcOf s.heap h' e (.ref C) us) (hex : X.ex = []) : Inv X pins σ (upd H e (excN e C)) { s with heap := h', toks := tk } := by
  obtain ⟨k, ne, t0, me, nt, mt⟩ := m
  have I2 : Inv X pins σ H { s with heap := h', toks := tk } := I.kept k
  have hs : ∀ b o, s.heap.get? b = some o → b ≠ e := fun b o q z => by rw [z, ne] at q; cases q
  refine I2.adoptE (I.noObj ne) (fun z => ?_) (fun x c q => ?_) (fun p hp => ?_) (fun b u q => ?_) (excN_ok me rfl rfl rfl)
  · obtain ⟨m, ⟨oL, _, _, q, _⟩, _⟩ := I.loc
    exact hs _ _ q z.symm
  · obtain ⟨v, o, e1, _⟩ := I.cell x c q
    exact hs _ _ e1
  · exact hs _ _ (I.pin p hp).1
  · obtain ⟨o', q'⟩ := I.base.there b u q (by rw [hex]; exact fun z => nomatch z)
    exact hs _ _ q'
/-- what must be known of a class that is made by its own __init__ -/
structure XMk (K : Frag) (C fi : Addr) : Prop where
  cl : ∃ nm qn N bs D hdct sn sub ab col dd k0 k1 k2 k3 k5, K.lookup C = some (excClassObj nm qn C N bs (.ref D :: tailVE) hdct sn sub ab col dd k0 k1 k2 k3 k5 "ValueError.__new__") ∧ ∀ h : Heap, K.In h → OwnTail h tailVE (.ref D :: tailVE)
  ini : findIn K (.ref C) "__init__" = some (some (.ref fi))
  fn : ∃ oi : Obj, K.lookup fi = some oi ∧ oi.cls = .type "function"
  kp : keepIn K (.ref C) = true
noncomputable def tXMake (C : Addr) (sp : Sp) (t : TA) : TE := fun σ H Q => t σ H fun vs H1 => vs.length ≤ 1000 ∧ ∀ e, H1 e = none → sp (.ref e :: vs) (upd H1 e (excN e C)) (fun v H2 => v = .non ∧ Q (.ref e) H2) E0
theorem run_xmake {k : Nat} {fi : Addr} {fd : FuncData} {ps : List Str} {sp : Sp} {Q : VK} {us : List Value} {vs : List V} (M : XMk X.K C fi) (F : FnOk X.prog X.w X.K X.mg X.base CX0 k fi fd ps sp) (hr : Room (k + 1) X.A) (hb : Binds X.K fd ps []) (hex : X.ex = [])
    (I : Inv X pins σ H s) (r : Vals vs us) (hl : vs.length ≤ 1000) (h : ∀ e, H e = none → sp (.ref e :: vs) (upd H e (excN e C)) (fun v H2 => v = .non ∧ Q (.ref e) H2) E0) : wpAny (model X.prog X.w) X.A (call (.ref C) us) (EP X pins σ Q) X.xe s := by
  obtain ⟨nm, qn, N, bs, D, hdct, sn, sub, ab, col, dd, k0, k1, k2, k3, k5, lk, TL⟩ := M.cl
  obtain ⟨oi, l2, ft⟩ := M.fn
  have kin := I.kIn
  refine xcall (h0 := s.heap) (g0 := s.gens) (d0 := s.drawn) (t0 := s.toks) (os0 := s.os) PySem.F.excBase_ValueError (TL _ kin) (kin _ _ lk) (fun h1 kp => looks_findIn (fun a o z => kp a o (kin a o z)) M.ini) (kin _ _ l2) ft (by rw [← r.length]; exact Nat.le_trans hl (by decide)) fun h' e m => ?_
  have I2 : Inv X pins σ (upd H e (excN e C)) { s with heap := h', toks := s.toks } := I.madeE m hex
  have hq := h e (I.noObj m.2)
  have r2 : Vals (V.ref e :: vs) (Value.ref e :: us) := .cons rfl r
  have hlen : (Value.ref e :: us).length = ps.length := by rw [← r2.length]; exact F.len _ _ _ _ hq
  have hb2 := hb { s with heap := h', toks := s.toks } (Value.ref e :: us) I2.kIn (by rw [List.append_nil]; exact hlen)
  rw [List.append_nil] at hb2
  refine wpAny_call (codeAny_mono (F.run _ X.stack { s with heap := h', toks := s.toks } _ ⟨Value.ref e :: us, []⟩ (Value.ref e :: us) _ _ E0 (hr.make C us []) (I2.env0.make C us []) hb2 r2 hq) fun rr s' hq' => ?_)
  cases rr with
  | error x => exact hq'.elim
  | ok fl =>
    cases fl with
    | ret u =>
      obtain ⟨v, H', I3, rv, ev, q3⟩ := I2.after hq'
      subst ev
      exact ⟨rv, ⟨V.ref e, H', I3, rfl, q3⟩⟩
    | next => exact hq'.elim
    | brk => exact hq'.elim
    | cont => exact hq'.elim
theorem pe_xmake {k : Nat} {fi : Addr} {fd : FuncData} {ps : List Str} {sp : Sp} {x : Str} {p pos : Pos} {a : Expr} {as : List Expr} {t : TA} (M : XMk X.K C fi) (F : FnOk X.prog X.w X.K X.mg X.base CX0 k fi fd ps sp) (hr : Room (k + 1) X.A) (hg : Gl X x) (hm : X.mg x = some (.ref C))
    (hb : Binds X.K fd ps []) (ha : PA X (a :: as) t) (hex : X.ex = [] := by rfl) (hdb : (x == ("__debug__" : Str)) = false := by decide) (he : starEach (a :: as) X.env = (false, eval a X.env) :: starEach as X.env := by rfl) (hpl : (backTo pos (starEach as X.env)).any (·.1) = false := by rfl) :
    PE X (.Call (.Name x p) (a :: as) [] pos) (tXMake C sp t) := by
  intro pins s σ H Q I h
  refine wpAny_Call_Name_kw (ld_glob I hg hm ?_ hdb)
  refine PySem.W.callWith_K (h₀ := X.base) I.ok.mod.kin M.kp (thn (ha s σ H _ I h) fun us s1 ⟨vs, H1, I1, r, q⟩ => ⟨I1.kIn, ?_⟩) he hpl
  exact run_xmake M F hr hb hex I1 r q.1 q.2
/-- a class without an __init__ of its own -/
structure XMk0 (K : Frag) (C : Addr) : Prop where
  cl : ∃ nm qn N bs D hdct sn sub ab col dd k0 k1 k2 k3 k5, K.lookup C = some (excClassObj nm qn C N bs (.ref D :: tailVE) hdct sn sub ab col dd k0 k1 k2 k3 k5 "ValueError.__new__") ∧ (∀ h : Heap, K.In h → OwnTail h tailVE (.ref D :: tailVE)) ∧ ∀ h : Heap, K.In h → ∃ mN, h.Ns N mN ∧ mN "__init__" = none
  kp : keepIn K (.ref C) = true
noncomputable def tXMake0 (C : Addr) (t : TA) : TE := fun σ H Q => t σ H fun vs H1 => vs.length ≤ 1000 ∧ ∀ e, H1 e = none → Q (.ref e) (upd H1 e (excN e C))
theorem pe_xmake0 {x : Str} {p pos : Pos} {a : Expr} {as : List Expr} {t : TA} (M : XMk0 X.K C) (hg : Gl X x) (hm : X.mg x = some (.ref C)) (ha : PA X (a :: as) t) (hex : X.ex = [] := by rfl) (hdb : (x == ("__debug__" : Str)) = false := by decide)
    (he : starEach (a :: as) X.env = (false, eval a X.env) :: starEach as X.env := by rfl) (hpl : (backTo pos (starEach as X.env)).any (·.1) = false := by rfl) : PE X (.Call (.Name x p) (a :: as) [] pos) (tXMake0 C t) := by
  intro pins s σ H Q I h
  refine wpAny_Call_Name_kw (ld_glob I hg hm ?_ hdb)
  refine PySem.W.callWith_K (h₀ := X.base) I.ok.mod.kin M.kp (thn (ha s σ H _ I h) fun us s1 ⟨vs, H1, I1, r, q⟩ => ⟨I1.kIn, ?_⟩) he hpl
  obtain ⟨nm, qn, N, bs, D, hdct, sn, sub, ab, col, dd, k0, k1, k2, k3, k5, lk, TL, ns⟩ := M.cl
  have kin := I1.kIn
  obtain ⟨mN, hN, hni⟩ := ns _ kin
  refine wpAny_call_exc_subT (h := s1.heap) (g := s1.gens) (d := s1.drawn) (t := s1.toks) (os := s1.os) PySem.F.excBase_ValueError (TL _ kin) (kin _ _ lk) hN hni (fun h' e m => ?_) (show us.length ≤ sizeLine by rw [← r.length]; exact Nat.le_trans q.1 (by decide))
  exact ⟨.ref e, _, I1.madeE (tk := s1.toks) m hex, rfl, q.2 e (I1.noObj m.2)⟩
/-- e.f = v, the first field -/
noncomputable def sXFld (K : Frag) (to tv : TE) (f : Str) : TS := fun D σ H => tv σ H fun v H1 => to σ H1 fun x H2 => ∃ e C, x = .ref e ∧ H2 e = some (excN e C) ∧ ExcSt K C f ∧ ∀ dx, H2 dx = none → dx ≠ e → D.nx σ (upd (upd H2 e (excF e C dx)) dx (.xd [(f, v)]))
theorem ps_xfld {o value : Expr} {f : Str} {to tv : TE} {pos pos' : Pos} (ho : PE X o to) (hv : PE X value tv) (hs : swapsWith value (some (.Attribute o f pos')) pos.line X.env = pure false) : PS X (.Assign [.Attribute o f pos'] value pos) (sXFld X.K to tv f) := by
  intro pins s σ H D I h
  refine plainObj_wpAny_Assign_Attribute (thn (hv s σ H _ I h) fun u s1 ⟨v, H1, I1, ru, q⟩ => thn (ho s1 σ H1 _ I1 q) fun ov s2 ⟨x, H2, I2, rx, e, C, ex, ee, S, q2⟩ => ?_) hs
  subst ex
  obtain rfl : ov = Value.ref e := rx
  obtain ⟨ob, b1, b2, b3, b4⟩ := (show ObjOk X.prog X.w H2 s2.heap e (excN e C) from I2.hok e _ ee).1
  have hes : e ≠ s2.heap.objs.size := Nat.ne_of_lt (Heap.lt_size b1)
  refine exc_store I2.kIn S b1 b2 b3 b4 fun h' tk a1 a2 a3 => ?_
  have I3 : Inv X pins σ (upd H2 e (excF e C s2.heap.objs.size)) { s2 with heap := h', toks := tk } := I2.write (x := e) (e := e) (by rw [ee]; exact True.intro) (.inl rfl) a3 ⟨_, a1⟩ (excF_ok a1 b2 rfl (by obtain ⟨_, _, dt, _⟩ := ob; exact b4))
  have hd : H2 s2.heap.objs.size = none := I2.hok.fresh (Nat.le_refl _)
  have fp := I2.fpOk (H' := H2) (Nat.le_refl _) hd
  refine ⟨σ, _, ?_, q2 _ hd hes.symm⟩
  refine I3.adoptE (by rw [upd_ne hes.symm]; exact hd) fp.2.1 fp.2.2.2.2.1 fp.2.2.2.2.2 (fun b u q z => ?_) ⟨_, a2, fun g => ?_⟩
  · have := Heap.lt_size q
    rw [z] at this
    exact absurd (Nat.lt_of_lt_of_le this I2.sz) (Nat.lt_irrefl _)
  · show RelO (List.lookup g [(f, v)]) (if g = f then some u else none)
    by_cases z : g = f
    · rw [if_pos z, z, List.lookup_cons_self]; exact ru
    · rw [if_neg z]
      have : List.lookup g [(f, v)] = none := by
        rw [List.lookup_cons]
        have : (g == f) = false := by simpa using z
        rw [this]; rfl
      rw [this]; trivial
/-- e.f -/
noncomputable def tXGet (K : Frag) (to : TE) (f : Str) : TE := fun σ H Q => to σ H fun x H1 => ∃ e C dx fs v, x = .ref e ∧ H1 e = some (excF e C dx) ∧ H1 dx = some (.xd fs) ∧ fs.lookup f = some v ∧ ExcOk K C ∧ ExcSt K C f ∧ ((∃ i, v = .int i) ∨ ∃ z, v = .str z) ∧ Q v H1
theorem pe_xget {o : Expr} {f : Str} {to : TE} {pos : Pos} (ho : PE X o to) (hb : attributeBase o f X.env (eval o X.env) = eval o X.env := by rfl) : PE X (.Attribute o f pos) (tXGet X.K to f) := by
  intro pins s σ H Q I h
  refine attr_of hb (thn (ho s σ H _ I h) fun ov s1 ⟨x, H1, I1, rx, e, C, dx, fs, v, ex, ee, ed, el, O, S, hv, q⟩ => ?_)
  subst ex
  obtain rfl : ov = Value.ref e := rx
  obtain ⟨ob, b1, b2, b3, b4⟩ := (show ObjOk X.prog X.w H1 s1.heap e (excF e C dx) from I1.hok e _ ee).1
  obtain ⟨mA, n1, n2⟩ := I1.hok dx _ ed
  obtain ⟨od, c1, c2⟩ := lookIn_ns n1
  have hf := n2 f
  rw [el] at hf
  cases hm : mA f with
  | none => rw [hm] at hf; exact hf.elim
  | some u =>
    rw [hm] at hf
    have ru : RelV v u := hf
    refine exc_load I1.kIn O S b1 b2 b3 b4 c1 (by rw [c2, hm]) ?_ ⟨v, H1, I1.tok _, ru, q⟩
    rcases hv with ⟨i, rfl⟩ | ⟨z, rfl⟩
    · obtain ⟨t, rfl⟩ := ru; rfl
    · obtain ⟨t, rfl⟩ := ru; rfl
/-- isinstance of a made exception -/
noncomputable def rIsM (K : Frag) : List V → Hp → VK → Prop := fun xs H Q => Ex5 fun (e C : Addr) (c : V) (cv : Value) (b : Bool) => xs = [.ref e, c] ∧ (H e = some (excN e C) ∨ ∃ dx, H e = some (excF e C dx)) ∧ ExcOk K C ∧ clsV c = some cv ∧ kitOne K (.ref C) cv = some b ∧ Q (.bl b) H
theorem isiM (K : Frag) (hK : X.K = K := by rfl) : CallR X (.builtin "isinstance") (rIsM K) := by
  subst hK
  intro pins s σ H xs us Q I r h
  obtain ⟨e, C, c, cv, b, rfl, hE, O, hc, hk, q⟩ := h
  obtain ⟨u, w', rfl, r1, r2⟩ := vals2 r
  cases r1
  have hx : ExcAt e C s.heap := by
    rcases hE with hE | ⟨dx, hE⟩
    · obtain ⟨ob, b1, b2, _⟩ := (show ObjOk X.prog X.w H s.heap e (excN e C) from I.hok e _ hE).1
      exact ⟨ob, b1, b2⟩
    · obtain ⟨ob, b1, b2, _⟩ := (show ObjOk X.prog X.w H s.heap e (excF e C dx) from I.hok e _ hE).1
      exact ⟨ob, b1, b2⟩
  have ew : w' = cv := by
    cases c <;> simp [clsV] at hc
    · subst hc; cases r2; rfl
    · subst hc; cases r2; rfl
  subst ew
  exact kia_one (kitx_exc O) I.kIn hx hk (fun z => nomatch z) fun tk => ⟨.bl b, H, I.tok _, rfl, q⟩
end
section
variable {K : Frag} {C D N : Addr} {nm qn : Str} {bs up : List Value} {hdct : Bool} {sn : List Str} {sub : List Value} {ab : Bool} {col : Option Bool} {dd : Option Addr} {k0 k1 k2 k3 k5 : Option Value}
theorem exc_parts (lk : K.lookup C = some (excClassObj nm qn C N bs up hdct sn sub ab col dd k0 k1 k2 k3 k5 "ValueError.__new__")) (made : excIn K C tailVE "ValueError.__new__" = true) : nsOkIn K N = true ∧ nsIn K N "__init__" = some none := by
  have h : (C == C && "ValueError.__new__" == "ValueError.__new__" && !false && tailIn K tailVE up && nsOkIn K N && nsIn K N "__init__" == some none) = true := by
    unfold excIn at made
    rw [lk] at made
    exact made
  have h1 := Bool.and_eq_true_iff.mp h
  exact ⟨(Bool.and_eq_true_iff.mp h1.1).2, beq_iff_eq.mp h1.2⟩
theorem own_tail (lk : K.lookup C = some (excClassObj nm qn C N bs tailVE hdct sn sub ab col dd k0 k1 k2 k3 k5 "ValueError.__new__")) (made : excIn K C tailVE "ValueError.__new__" = true) (h : Heap) (kin : K.In h) : OwnTail h tailVE (.ref C :: tailVE) := by
  obtain ⟨a, b⟩ := exc_parts lk made
  exact .own (kin _ _ lk) (.of_isNs (isNs_of_in kin a)) (nsMap_none_of_in kin a b) .base
theorem own_ns (lk : K.lookup C = some (excClassObj nm qn C N bs up hdct sn sub ab col dd k0 k1 k2 k3 k5 "ValueError.__new__")) (made : excIn K C tailVE "ValueError.__new__" = true) (h : Heap) (kin : K.In h) : ∃ mN, h.Ns N mN ∧ mN "__init__" = none := by
  obtain ⟨a, b⟩ := exc_parts lk made
  exact ⟨_, .of_isNs (isNs_of_in kin a), nsMap_none_of_in kin a b⟩
theorem excSt_mk {f : Str} (lk : K.lookup C = some (excClassObj nm qn C N bs (.ref D :: tailVE) true sn sub ab col dd k0 k1 k2 k3 k5 "ValueError.__new__")) (sa : findIn K (.ref C) "__setattr__" = some (some (.builtin "object.__setattr__"))) (na : findIn K (.ref C) f = some none)
    (mo : mroIn K C (.type "object") = some true) : ExcSt K C f := by
  refine ⟨sa, na, mo, ⟨{ name := nm, bases := bs, mro := .ref C :: .ref D :: tailVE, ns := N, qualname := qn, hasDict := true, slotNames := sn, subclasses := sub, abstract := ab, collection := col, hasDel := false }, D, ?_, rfl, rfl⟩⟩
  unfold clsIn
  rw [lk]
end
/-! a, b, .. = a list -/
section
variable {prog : Program} {w : World} {A : Around} {E : Value → Shared → Prop}
theorem drawn_list {j l : Addr} {xs : Array Value} (ne : l ≠ j) : ∀ (m i : Nat) (s : Shared) (Q : List Value → Shared → Prop), s.heap.IsListIter j l i → s.heap.IsList l xs → i + m ≤ xs.size →
    (∀ h', h'.IsListIter j l (i + m) → Heap.SameBut j s.heap h' → Q ((xs.toList.drop i).take m) { s with heap := h' }) → wpAny (model prog w) A (draw (.ref j) m) Q E s := by
  intro m
  induction m with
  | zero =>
    intro i s Q a b c k
    show wpAny _ _ (pure ([] : List Value)) Q E s
    refine wpAny_pure ?_
    have z := k s.heap a (Heap.SameBut.refl ..)
    rw [List.take_zero] at z
    exact z
  | succ m ih =>
    intro i s Q a b c k
    have lt : i < xs.size := by (first | lia | omega)
    show wpAny _ _ (pyNext (.ref j) >>= _) Q E s
    refine wpAny_bind (wpAny_pyNext_list_item a b (x := xs[i]) (by rw [Array.getElem?_eq_getElem lt]) fun h1 a1 s1 => ?_)
    have b1 : h1.IsList l xs := by
      obtain ⟨o, e1, e2⟩ := b
      exact ⟨o, (s1.2 l ne).trans e1, e2⟩
    refine wpAny_bind (wpAny_holding (ih (i + 1) { s with heap := h1 } _ a1 b1 (by (first | lia | omega)) fun h2 a2 s2 => wpAny_pure ?_))
    have z := k h2 (by rw [show i + (m + 1) = i + 1 + m by (first | lia | omega)]; exact a2) (s1.trans s2)
    have dr : xs.toList.drop i = xs[i] :: xs.toList.drop (i + 1) := by
      rw [List.drop_eq_getElem_cons (by simpa using lt)]
      simp
    rw [dr, List.take_succ_cons] at z
    exact z
theorem unpacked_list {l : Addr} {xs : Array Value} {s : Shared} {Q : List Value → Shared → Prop} (calm : A.handled = none) (b : s.heap.IsList l xs) (k : ∀ h', Heap.ExtBut s.heap.objs.size s.heap h' → Q xs.toList { s with heap := h' }) :
    wpAny (model prog w) A (unpackItems (.ref l) xs.size none) Q E s := by
  have ne : l ≠ s.heap.objs.size := by
    obtain ⟨o, e, _⟩ := b
    exact Nat.ne_of_lt (Heap.lt_size e)
  unfold unpackItems
  refine wpAny_bind ?_
  unfold notIterableAtAll
  refine wpAny_bind (wpAny_specialOf b.typeIs slot_list_iter.lookup (wpAny_pure ?_))
  simp only [Bool.false_eq_true, if_false]
  refine wpAny_bind (wpAny_holding (wpAny_pyIter_list b ?_))
  have b0 : (s.heap.push { cls := .type "list_iterator", data := .fields #[.ref l, .int 0 0] }).IsList l xs := by
    obtain ⟨o, e1, e2⟩ := b
    exact ⟨o, Heap.get?_push_of_some _ e1, e2⟩
  refine wpAny_bind (wpAny_holding (drawn_list ne xs.size 0 _ _ ⟨_, Heap.get?_push_size _ rfl, rfl, rfl⟩ b0 (by (first | lia | omega)) fun h1 a1 s1 => ?_))
  have whole : List.take xs.size (List.drop 0 xs.toList) = xs.toList := by
    rw [List.drop_zero]
    exact List.take_of_length_le (by simp)
  rw [whole, if_neg (by simp)]
  have b1 : h1.IsList l xs := by
    obtain ⟨o, e1, e2⟩ := b0
    exact ⟨o, (s1.2 l ne).trans e1, e2⟩
  refine wpAny_bind (wpAny_holding (wpAny_pyNext_list_end calm a1 b1 (by simp) fun h2 x2 => ?_))
  simp only [Option.isSome_none, Bool.false_eq_true, if_false]
  refine wpAny_pure (k h2 fun c o nc e => ?_)
  exact x2 c o nc ((s1.2 c nc).trans (Heap.get?_push_of_some _ e))
end
noncomputable def gLst (K : Frag) (n : Nat) (t : TGs) : TG := fun v σ H Q => Ex2 fun a xs => v = .ref a ∧ SqL K H a xs ∧ xs.length = n ∧ t xs σ H Q
theorem pg_lst {X : Cx} {pos : Pos} {es : List Expr} {k : Nat} {t : TGs} (K : Frag) (n : Nat) (hc : X.calm = true) (h : PGs X es t) (hn : (assignEach es X.env).length = n := by rfl) (hst : (assignEach es X.env).findIdx? (·.1) = none := by rfl) (hK : X.K = K := by rfl) : PG X (.Tuple es k pos) (gLst K n t) := by
  subst hK
  intro pins s σ H v u Q I r hw
  obtain ⟨a, xs, rfl, hq, hl, hw⟩ := hw
  cases r
  obtain ⟨its, rv, ht, hz⟩ := I.list hq
  have hsz : its.toArray.size = (assignEach es X.env).length := by rw [List.size_toArray, ← rv.length, hl, hn]
  rw [assign_Tuple]
  refine wpAny_bind (wpAny_standAt ?_)
  unfold unpack
  rw [hst, ← hsz]
  refine wpAny_bind (wpAny_holding (unpacked_list (I.ok.hd hc) ht.isList fun h' x' => ?_))
  have I1 : Inv X pins σ H { s with heap := h' } := I.kept (t' := s.toks) fun b o e => x' b o (Nat.ne_of_lt (Heap.lt_size e)) e
  exact h _ σ H xs _ Q I1 (by simpa using rv) hw
end L2

set_option Elab.async false
set_option linter.all false
namespace Z
open PySem L2
noncomputable def top (i : Nat) : Stmt := PySem.Challenge.pw_oddlong_k87_refusals_made.main.body.getD i (.Pass ⟨0, 0, 0, 0⟩)
noncomputable abbrev i_OddError : Nat := 1
noncomputable abbrev i_TooFull : Nat := 2
noncomputable abbrev i_NoPlace : Nat := 3
noncomputable abbrev i_NoName : Nat := 4
noncomputable abbrev i_BadText : Nat := 5
noncomputable abbrev i_NoForm : Nat := 6
noncomputable abbrev i_TooFar : Nat := 7
noncomputable abbrev i_NoTarget : Nat := 8
noncomputable abbrev i_BadRow : Nat := 9
noncomputable abbrev i_law_begin : Nat := 11
noncomputable abbrev i_law_take : Nat := 12
noncomputable abbrev i_law_word : Nat := 13
noncomputable abbrev i_law_kinds : Nat := 14
noncomputable abbrev i_law : Nat := 15
end Z

set_option Elab.async false
set_option linter.all false
set_option maxRecDepth 100000
set_option maxHeartbeats 4000000
namespace Z
open PySem L2
end Z

set_option Elab.async false
set_option linter.all false
set_option maxRecDepth 100000
set_option maxHeartbeats 4000000
namespace Z
open PySem L2
/-! the draws -/
structure Box (H : Hp) (b c : Addr) (t : Int) (ns : List Int) : Prop where
  d : H b = some (.dK [(.inr "cells", .ref c), (.inr "turn", .int t)])
  l : H c = some (.lst (ns.map V.int))
  ne : 0 < ns.length
  le : ns.length ≤ 64
noncomputable def hid (H : Hp) (b c : Addr) : Hp := fun a => if a = b ∨ a = c then none else H a
theorem hid_of {H : Hp} {b c a : Addr} (h1 : a ≠ b) (h2 : a ≠ c) : hid H b c a = H a := if_neg (fun z => z.elim h1 h2)
theorem of_hid {H : Hp} {b c a : Addr} {o : HO} (h : hid H b c a = some o) : H a = some o ∧ a ≠ b ∧ a ≠ c := by
  unfold hid at h
  split at h
  · cases h
  · rename_i n
    exact ⟨h, fun z => n (.inl z), fun z => n (.inr z)⟩
theorem Box.bc {H : Hp} {b c : Addr} {t : Int} {ns : List Int} (x : Box H b c t ns) : b ≠ c := ne_of x.d x.l (by intro z; cases z)
theorem Box.get_turn {H : Hp} {b c : Addr} {t : Int} {ns : List Int} (x : Box H b c t ns) : DGet H b (.str "turn") (some (.int t)) := DGet.k (k := Sum.inr "turn") x.d
theorem Box.get_cells {H : Hp} {b c : Addr} {t : Int} {ns : List Int} (x : Box H b c t ns) : DGet H b (.str "cells") (some (.ref c)) := DGet.k (k := Sum.inr "cells") x.d
theorem Box.put_turn {H : Hp} {b c : Addr} {t : Int} {ns : List Int} (x : Box H b c t ns) (t' : Int) : DPut H b (.str "turn") (.int t') (upd H b (.dK [(.inr "cells", .ref c), (.inr "turn", .int t')])) :=
  DPut.k (k := Sum.inr "turn") x.d (by show 2 < sizeLine; decide)
theorem Box.turned {H : Hp} {b c : Addr} {t : Int} {ns : List Int} (x : Box H b c t ns) (t' : Int) : Box (upd H b (.dK [(.inr "cells", .ref c), (.inr "turn", .int t')])) b c t' ns :=
  ⟨upd_same, by rw [upd_ne (Ne.symm x.bc)]; exact x.l, x.ne, x.le⟩
theorem hid_upd_b {H : Hp} {b c : Addr} {o : HO} : hid (upd H b o) b c = hid H b c := by
  funext a; unfold hid; split
  · rfl
  · rename_i n; exact upd_ne (fun z => n (.inl z))
theorem hid_upd_c {H : Hp} {b c : Addr} {o : HO} : hid (upd H c o) b c = hid H b c := by
  funext a; unfold hid; split
  · rfl
  · rename_i n; exact upd_ne (fun z => n (.inr z))
noncomputable def spTake : Sp := fun vs H Q _ => Ex5 fun (b c : Addr) (t : Int) (ns : List Int) (many : Int) => vs = [.ref b, .int many] ∧ Box H b c t ns ∧ 0 ≤ t ∧ t < 100000000 ∧ 0 < many ∧ many < 1073741824 ∧
  ∀ (r : Int) (H' : Hp) (ns' : List Int), 0 ≤ r → r < many → Box H' b c (t + 1) ns' → Same (hid H b c) (hid H' b c) → Q (.int r) H'
theorem at_of {ns : List Int} {p : Int} (h0 : 0 ≤ p) (h1 : p < ns.length) : ∃ v, atI (ns.map V.int) p = some (.int v) ∧ ns[p.toNat]? = some v := by
  have hk : p.toNat < ns.length := by (first | lia | omega)
  have ek : p = ((p.toNat : Nat) : Int) := by (first | lia | omega)
  have q : atI (ns.map V.int) ((p.toNat : Nat) : Int) = some (.int ns[p.toNat]) := atI_nat (by rw [List.getElem?_map, List.getElem?_eq_getElem hk] <;> rfl)
  rw [← ek] at q
  exact ⟨_, q, List.getElem?_eq_getElem hk⟩
theorem cm_mod {a j m : Int} (h0 : 0 < m) (h : m < 2 ^ 64) : CMul (a % m) j := by
  have h1 := Int.emod_nonneg a (b := m) (by (first | lia | omega))
  have h2 := Int.emod_lt_of_pos a h0
  exact .inl ⟨by (first | lia | omega), by (first | lia | omega)⟩
theorem ixN_of {n : Nat} {p : Int} (h0 : 0 ≤ p) (h1 : p < n) : ixN n p = some p.toNat := by unfold ixN; rw [if_pos h0, if_pos h1]
theorem hid_more {H H' : Hp} {b c : Addr} (h : ∀ a o, a ≠ b → a ≠ c → H a = some o → H' a = some o) : Same (hid H b c) (hid H' b c) := fun a o e => by
  refine Elim.el (of_hid e) _ ?_
  rintro e h1 h2
  rw [hid_of h1 h2]
  exact h a o h1 h2 e
end Z

set_option Elab.async false
set_option linter.all false
set_option maxRecDepth 100000
set_option maxHeartbeats 4000000
namespace L2
open PySem
end L2
namespace Z
open PySem L2
end Z

set_option Elab.async false
set_option linter.all false
set_option maxRecDepth 100000
set_option maxHeartbeats 4000000
namespace L2
open PySem
/-- a for over any iterator, N turns -/
theorem for_go {J : It} {g : TG} {tb : TS} {D : Ends} {σ : St} {H : Hp} (N : Nat) (Pv : Nat → St → Hp → Prop) (h0 : Pv 0 σ H)
    (go : ∀ i σ H, i < N → Pv i σ H → J.go i H ∧ ∀ x H', J.yld i H x H' → g x σ H' fun σ2 H2 => tb { D with nx := Pv (i + 1), ct := Pv (i + 1), bk := D.nx } σ2 H2)
    (stop : ∀ σ H, Pv N σ H → J.stop N H ∧ D.nx σ H) :
    ∃ W : Nat → Nat → St → Hp → Prop, (∃ m, W 0 m σ H) ∧ ∀ i m σ H, W i m σ H →
      (J.stop i H ∧ D.nx σ H) ∨ (J.go i H ∧ ∃ N : St → Hp → Prop, (∀ σ' H', N σ' H' → ∃ m', m' < m ∧ W (i + 1) m' σ' H') ∧ ∀ x H', J.yld i H x H' → g x σ H' fun σ2 H2 => tb { D with nx := N, ct := N, bk := D.nx } σ2 H2) := by
  refine ⟨fun i m σ H => m = N - i ∧ i ≤ N ∧ Pv i σ H, ⟨N, by simp, Nat.zero_le _, h0⟩, ?_⟩
  rintro i m σ H ⟨rfl, hi, p⟩
  by_cases hlt : i < N
  · obtain ⟨g1, g2⟩ := go i σ H hlt p
    exact .inr ⟨g1, Pv (i + 1), fun σ' H' p' => ⟨N - (i + 1), by (first | lia | omega), rfl, hlt, p'⟩, g2⟩
  · have e : i = N := by (first | lia | omega)
    subst e
    exact .inl (stop σ H p)
end L2
namespace L2
open PySem
/-- what holds behind a statement, said once -/
theorem seqCut {t u : TS} {D : Ends} {σ : St} {H : Hp} (Ex : St → Hp → Prop) (h : ∀ Nx : St → Hp → Prop, (∀ σ H, Ex σ H → Nx σ H) → t { D with nx := Nx } σ H) (fin : ∀ σ H, Ex σ H → u D σ H) : tSeq t u D σ H := h (u D) fin
end L2
namespace L2
open PySem
end L2
namespace L2
open PySem
/-- a name has been given -/
theorem gn {i : Nat} {v : V} {σ : St} {H : Hp} {Q : St → Hp → Prop} (h : Q (σ.set i (some v)) H) : gName i v σ H Q := h
end L2

set_option Elab.async false
set_option linter.all false
set_option maxRecDepth 100000
set_option maxHeartbeats 4000000
namespace Z
open PySem L2
/-- the box at b, its list at c, t draws done -/
noncomputable def Bx (H : Hp) (b c : Addr) (t : Int) : Prop := ∃ ns, Box H b c t ns
/-- from H to H': at most N draws more; all else stands -/
structure Step (b c : Addr) (H H' : Hp) (t t' N : Int) : Prop where
  le : t ≤ t'
  ub : t' ≤ t + N
  bx : Bx H' b c t'
  sm : Same (hid H b c) (hid H' b c)
theorem Step.refl {b c : Addr} {H : Hp} {t : Int} (h : Bx H b c t) : Step b c H H t t 0 := ⟨Int.le_refl _, by (first | lia | omega), h, Same.refl _⟩
theorem Step.trans {b c : Addr} {H H' H2 : Hp} {t t' t2 N M : Int} (x : Step b c H H' t t' N) (y : Step b c H' H2 t' t2 M) : Step b c H H2 t t2 (N + M) :=
  ⟨by have := x.le; have := y.le; (first | lia | omega), by have := x.ub; have := y.ub; (first | lia | omega), y.bx, x.sm.trans y.sm⟩
theorem Step.more {b c : Addr} {H H' : Hp} {t t' N M : Int} (x : Step b c H H' t t' N) (h : N ≤ M) : Step b c H H' t t' M := ⟨x.le, by have := x.ub; (first | lia | omega), x.bx, x.sm⟩
theorem Bx.ne_new {H : Hp} {b c p : Addr} {t : Int} (x : Bx H b c t) (h : H p = none) : p ≠ b ∧ p ≠ c := by
  obtain ⟨ns, x⟩ := x
  exact ⟨fun z => (by rw [z, x.d] at h; cases h), fun z => (by rw [z, x.l] at h; cases h)⟩
theorem Bx.upd {H : Hp} {b c p : Addr} {t : Int} {o : HO} (x : Bx H b c t) (h1 : p ≠ b) (h2 : p ≠ c) : Bx (upd H p o) b c t := by
  obtain ⟨ns, x⟩ := x
  exact ⟨ns, by rw [upd_ne (Ne.symm h1)]; exact x.d, by rw [upd_ne (Ne.symm h2)]; exact x.l, x.ne, x.le⟩
/-- a new object -/
theorem Step.new {b c p : Addr} {H H' : Hp} {t t' N : Int} (x : Step b c H H' t t' N) (h : H' p = none) (o : HO) : Step b c H (upd H' p o) t t' N :=
  ⟨x.le, x.ub, x.bx.upd (x.bx.ne_new h).1 (x.bx.ne_new h).2, x.sm.trans (hid_more fun a u _ _ e => by rw [upd_ne (ne_of_none e h)]; exact e)⟩
theorem Same.hid {H H' : Hp} {b c : Addr} (s : Same H H') : Same (hid H b c) (hid H' b c) := hid_more fun a o _ _ e => s a o e
theorem Bx.same {H H' : Hp} {b c : Addr} {t : Int} (x : Bx H b c t) (s : Same H H') : Bx H' b c t := by
  obtain ⟨ns, x⟩ := x
  exact ⟨ns, s _ _ x.d, s _ _ x.l, x.ne, x.le⟩
theorem Step.same {b c : Addr} {H H' : Hp} {t : Int} (x : Bx H b c t) (s : Same H H') : Step b c H H' t t 0 := ⟨Int.le_refl _, by (first | lia | omega), x.same s, Same.hid s⟩
/-- the draw, said so -/
noncomputable def spTk : Sp := fun vs H Q _ => Ex4 fun (b c : Addr) (t many : Int) => vs = [.ref b, .int many] ∧ Bx H b c t ∧ 0 ≤ t ∧ t < 100000000 ∧ 0 < many ∧ many < 1073741824 ∧
  ∀ (r : Int) (H' : Hp), 0 ≤ r → r < many → Step b c H H' t (t + 1) 1 → Q (.int r) H'
theorem spTk_of {vs : List V} {H : Hp} {Q : VK} {E : XK} (h : spTk vs H Q E) : spTake vs H Q E := by
  obtain ⟨b, c, t, many, e, ⟨ns, bx⟩, h1, h2, h3, h4, q⟩ := h
  exact ⟨b, c, t, ns, many, e, bx, h1, h2, h3, h4, fun r H' ns' r0 r1 bx' sm => q r H' r0 r1 ⟨by (first | lia | omega), by (first | lia | omega), ⟨ns', bx'⟩, sm⟩⟩
theorem cut_to (vs : List V) (j : Nat) : cutV vs none (some (j : Int)) = vs.take j := by
  unfold cutV
  rw [HT.sIx_none, HT.sIx_nat, List.drop_zero, Nat.sub_zero]
  rcases Nat.le_total j vs.length with h | h
  · rw [Nat.min_eq_left h]
  · rw [Nat.min_eq_right h, List.take_of_length_le (Nat.le_refl _), List.take_of_length_le h]
theorem Fn.imp {P : Program} {w : World} {K : PySem.W.Frag} {mg : Str → Option Value} {base : Heap} {k : Nat} {x : Str} {ps : List Str} {sp sp' : Sp} (F : Fn P w K mg base k x ps sp) (h : ∀ vs H Q E, sp' vs H Q E → sp vs H Q E) : Fn P w K mg base k x ps sp' := by
  obtain ⟨f, fd, a, b, c, d⟩ := F.ex
  exact ⟨f, fd, a.imp h, b, c, d⟩
end Z
namespace Z
open PySem L2
theorem Step.newN {b c p : Addr} {H H' H2 : Hp} {t t' N : Int} {o : HO} (x : Step b c H H' t t' N) (n : New H' p o H2) : Step b c H H2 t t' N := by rw [n.eq]; exact x.new n.nn _
end Z

set_option Elab.async false
set_option linter.all false
set_option maxRecDepth 100000
set_option maxHeartbeats 4000000
namespace Z
open PySem L2
theorem glued_list (g : Str) : ∀ (parts : List Str) (acc : Array Nat), (parts.foldl (fun acc p => acc ++ g.cps ++ p.cps) acc).toList = acc.toList ++ parts.flatMap (fun p => g.cps.toList ++ p.cps.toList)
  | [], acc => by simp
  | p :: r, acc => by rw [List.foldl_cons, glued_list g r]; simp
theorem join_list0 (xs : List Str) : (Txt.join "" xs).cps.toList = xs.flatMap (fun p => p.cps.toList) := by
  cases xs with
  | nil => rfl
  | cons x r =>
    show ((r.foldl (fun acc p => acc ++ (Str.ofString "").cps ++ p.cps) x.cps)).toList = _
    rw [glued_list]
    have e : (Str.ofString "").cps.toList = [] := rfl
    simp [e]
end Z

set_option Elab.async false
set_option linter.all false
set_option maxRecDepth 100000
set_option maxHeartbeats 4000000
namespace Z
open PySem L2
noncomputable abbrev abc : Str := "abcdefghijklmnopqrstuvwxyz"
theorem abc_list : abc.cps.toList = (List.range 26).map (97 + ·) := by decide +kernel
theorem abc_at {r : Int} (h0 : 0 ≤ r) (h1 : r < 26) : atI abc.cps.toList r = some (97 + r.toNat) := by
  refine at_nat h0 ?_
  rw [abc_list, List.getElem?_map, List.getElem?_range (by (first | lia | omega))]
  rfl
/-- small letters alone -/
noncomputable def Low (x : Str) : Prop := ∀ ch ∈ x.cps.toList, 97 ≤ ch ∧ ch ≤ 122
theorem len_one (ch : Nat) : (⟨#[ch]⟩ : Str).length = 1 := rfl
end Z

set_option Elab.async false
set_option linter.all false
set_option maxRecDepth 100000
set_option maxHeartbeats 4000000
namespace Z
open PySem L2
mutual
theorem eqv_refl : ∀ (d : PyData), d.canLay0 = true → PyData.eqv d d = true
  | .none, _ => by simp [PyData.eqv]
  | .bool _, _ => by simp [PyData.eqv]
  | .int _, _ => by simp [PyData.eqv]
  | .str _, _ => by simp [PyData.eqv]
  | .list ds, h => by
    simp only [PyData.eqv]
    exact eqvAll_refl ds (by simpa [PyData.canLay0] using h)
  | .tuple ds, h => by
    simp only [PyData.eqv]
    exact eqvAll_refl ds (by simpa [PyData.canLay0] using h)
  | .dict _, h => by simp [PyData.canLay0] at h
theorem eqvAll_refl : ∀ (ds : List PyData), PyData.canLayAll0 ds = true → PyData.eqvAll ds ds = true
  | [], _ => by simp [PyData.eqvAll]
  | d :: ds, h => by
    simp only [PyData.canLayAll0, Bool.and_eq_true] at h
    simp only [PyData.eqvAll, Bool.and_eq_true]
    exact ⟨eqv_refl d h.1, eqvAll_refl ds h.2⟩
end
/-- may be compared, and is no deeper than n -/
noncomputable def Sh (n : Nat) (d : PyData) : Prop := d.canLay0 = true ∧ d.depth ≤ n
theorem Sh.all {n : Nat} : ∀ {ds : List PyData}, (∀ d ∈ ds, Sh n d) → PyData.canLayAll0 ds = true ∧ PyData.depthAll ds ≤ n
  | [], _ => ⟨by simp [PyData.canLayAll0], by simp [PyData.depthAll]⟩
  | d :: ds, h => by
    obtain ⟨h1, h2⟩ := h d List.mem_cons_self
    obtain ⟨h3, h4⟩ := Sh.all fun e he => h e (List.mem_cons_of_mem _ he)
    exact ⟨by simp [PyData.canLayAll0, h1, h3], by simp only [PyData.depthAll]; (first | lia | omega)⟩
theorem Sh.list {n : Nat} {ds : List PyData} (h : ∀ d ∈ ds, Sh n d) : Sh (n + 1) (.list ds) := by
  obtain ⟨h1, h2⟩ := Sh.all h
  exact ⟨by simpa [PyData.canLay0] using h1, by simp only [PyData.depth]; (first | lia | omega)⟩
theorem Sh.shaped {n : Nat} {d : PyData} (h : Sh n d) (hn : n ≤ 64) : SeqAt.shaped d = true := by
  unfold SeqAt.shaped
  rw [h.1, decide_eq_true (Nat.le_trans h.2 hn)]
  rfl
theorem Sh.str {n : Nat} {x : Str} (h : PyData.canLay0 (.str x) = true) : Sh n (.str x) := ⟨h, by simp [PyData.depth]⟩
theorem Sh.int {n : Nat} {i : Int} : Sh n (.int i) := ⟨by simp [PyData.canLay0], by simp [PyData.depth]⟩
theorem canLay_small {x : Str} (h : ∀ ch ∈ x.cps.toList, ch < 128) : PyData.canLay0 (.str x) = true := by
  simp only [PyData.canLay0, PyData.strOk]
  rw [← Array.all_toList, List.all_eq_true]
  intro ch hc
  have := h ch hc
  exact decide_eq_true (by (first | lia | omega))
theorem Den.list {K : PySem.W.Frag} {H : Hp} {l : Addr} {ds : List PyData} {vs : List V} (h : SqL K H l vs) (hd : Dens K H ds vs) : Den K H (.list ds) (.ref l) := by
  unfold Den
  exact ⟨l, vs, rfl, h, hd⟩
end Z

set_option Elab.async false
set_option linter.all false
set_option maxRecDepth 100000
set_option maxHeartbeats 4000000
namespace Z
open PySem L2
end Z

set_option Elab.async false
set_option linter.all false
set_option maxRecDepth 100000
set_option maxHeartbeats 4000000
namespace Z
open PySem L2
theorem hid_same {H : Hp} {b c : Addr} : Same (hid H b c) H := fun a o e => (of_hid e).1
end Z

set_option Elab.async false
set_option linter.all false
set_option maxRecDepth 100000
set_option maxHeartbeats 4000000
namespace Z
open PySem L2
noncomputable def spBegin (K : PySem.W.Frag) : Sp := fun vs H Q _ => Ex2 fun (a : Addr) (ns : List Int) => vs = [.ref a] ∧ SqL K H a (ns.map V.int) ∧ ns.length ≤ 63 ∧
  ∀ (b c : Addr) (H' : Hp), Bx H' b c 0 → H b = none → H c = none → Same H (hid H' b c) → Q (.ref b) H'
theorem Den.ints {K : PySem.W.Frag} {H : Hp} : ∀ (ns : List Int), Dens K H (ns.map PyData.int) (ns.map V.int)
  | [] => by unfold Dens; rfl
  | n :: ns => by
    rw [List.map_cons, List.map_cons]
    unfold Dens
    exact ⟨_, _, rfl, by unfold Den; rfl, Den.ints ns⟩
theorem eqvNil (ds : List PyData) : PyData.eqv (.list ds) (.list []) = ds.isEmpty := by
  cases ds <;> simp [PyData.eqv, PyData.eqvAll]
theorem sh_ints {n : Nat} (ns : List Int) : Sh (n + 1) (.list (ns.map PyData.int)) := Sh.list fun d hd => by
  obtain ⟨i, _, rfl⟩ := List.mem_map.mp hd
  exact Sh.int
section
variable {P : Program} {w : World} {K : PySem.W.Frag} {mg : Str → Option Value} {base : Heap} {f : Addr} {fd : FuncData}
theorem sc_law_begin : FnScope ["_law_script", "_law_cells"] ["_law_script"] (defScope (top i_law_begin)) := ⟨rfl, rfl, rfl, by decide +kernel, rfl, by decide +kernel, by decide +kernel⟩
theorem ok_begin (F : Fun K "_law_begin" "_law_begin" (top i_law_begin) f fd) (T : Nm mg) : FnOk P w K mg base CX0 1 f fd ["_law_script"] (spBegin K) := by
  refine F.ok sc_law_begin (fun vs H Q E h => ?_) (fun cdv A outer s H vs Q E hr h => ?_)
  · obtain ⟨a, ns, rfl, _⟩ := h
    rfl
  obtain ⟨a, ns, rfl, hS, hlen, q⟩ := h
  have hu6 := hr.units
  refine ⟨_, (pss_cons (ps_set (i := 1) sc_law_begin.nd rfl (Or.inl rfl) (pe_callTy (listN K) rfl T.n_list (by rfl) (pa_cons (pe_slice (slN K) (pv 0) po_none (po_some pe_int)) pa_nil)))
    (pss_cons (ps_if (pt_cmpR (eqK K hu6) (pv 1) (lstN pa_nil) (nomark _)) (pss_one (ps_set (i := 1) sc_law_begin.nd rfl (Or.inl rfl) (lstN (pa_cons pe_int pa_nil)))) pss_nil)
    (pss_one (ps_ret (dispN (pps_cons pe_str (pv 1) (pps_cons pe_str pe_int pps_nil)) rfl rfl (by decide) (by decide)))))), ?_⟩
  refine ⟨_, rfl, _, rfl, .inl ⟨a, _, rfl, hS, fun r1 H1 n1 => ?_⟩⟩
  refine ⟨r1, _, rfl, .inl (SqL.of n1.at), fun r2 H2 n2 => gn ?_⟩
  have hc : cutV (ns.map V.int) none (some 63) = ns.map V.int := by
    have e := cut_to (ns.map V.int) 63
    rw [List.take_of_length_le (by rw [List.length_map]; exact hlen)] at e
    exact e
  have hn2 : H2 r2 = some (.lst (ns.map V.int)) := by rw [← hc]; exact n2.at
  have sm2 := n1.same.trans n2.same
  dsimp only
  refine seqCut (t := tIfS _ _ _) (fun σ H' => ∃ (r : Addr) (ns' : List Int), σ = [some (.ref a), some (.ref r)] ∧ H' r = some (.lst (ns'.map V.int)) ∧ 0 < ns'.length ∧ ns'.length ≤ 64 ∧ H r = none ∧ Same H H') (fun Nx nx => ?_) ?_
  · refine ⟨_, rfl, by show 0 ≤ sizeLine; decide, fun r3 H3 n3 => ?_⟩
    have d2 : Den K H3 (.list (ns.map PyData.int)) (.ref r2) := Den.list (SqL.of (n3.same _ _ hn2)) (Den.ints ns)
    have d3 : Den K H3 (.list []) (.ref r3) := Den.list (SqL.of n3.at) (Den.ints [])
    refine .inr ⟨_, _, d2, d3, (sh_ints (n := 1) ns).shaped (by decide), by decide +kernel, _, rfl, ?_⟩
    rw [eqvNil]
    refine ite2 (fun e => ?_) (fun e => ?_)
    · refine ⟨by show 1 ≤ sizeLine; decide, fun r4 H4 n4 => gn (nx _ _ ⟨r4, [_], rfl, n4.at, by decide, by decide, (sm2.trans n3.same).free n4.nn, sm2.trans (n3.same.trans n4.same)⟩)⟩
    · refine nx _ _ ⟨r2, ns, rfl, n3.same _ _ hn2, ?_, by (first | lia | omega), n1.same.free n2.nn, sm2.trans n3.same⟩
      cases ns with
      | nil => exact absurd rfl e
      | cons _ _ => exact Nat.succ_pos _
  rintro σ H3 ⟨r, ns', rfl, hr', l0, l1, hn, sm⟩
  intro p H0 n0
  refine ⟨_, rfl, ?_⟩
  refine ⟨n0.at, [(.inr "cells", .ref r), (.inr "turn", .int 0)], rfl, by show 2 ≤ 15; decide, fun H6 n6 => ?_⟩
  have hpr : r ≠ p := ne_of_none hr' n0.nn
  have hp : H p = none := sm.free n0.nn
  refine q p r H6 ⟨ns', ?_, ?_, l0, l1⟩ hp hn (fun b o e => ?_)
  · rw [n6.at]; rfl
  · rw [n6.ne hpr, n0.ne hpr]; exact hr'
  · have hb1 : b ≠ p := ne_of_none e hp
    have hb2 : b ≠ r := ne_of_none e hn
    rw [hid_of hb1 hb2, n6.ne hb1, n0.ne hb1]
    exact sm _ _ e
end
end Z

set_option Elab.async false
set_option linter.all false
set_option maxRecDepth 100000
set_option maxHeartbeats 4000000
namespace Z
open PySem L2
/-! the plain draw -/
theorem Box.same {H H' : Hp} {b c : Addr} {t : Int} {ns : List Int} (x : Box H b c t ns) (s : Same H H') : Box H' b c t ns := ⟨s _ _ x.d, s _ _ x.l, x.ne, x.le⟩
section
variable {P : Program} {w : World} {K : PySem.W.Frag} {mg : Str → Option Value} {base : Heap} {f : Addr} {fd : FuncData}
theorem sc_law_take : FnScope ["_law_state", "_law_many", "_law_turn", "_law_place", "_law_cell", "_law_digit", "_law_mixed"] ["_law_state", "_law_many"] (defScope (top i_law_take)) := ⟨rfl, rfl, rfl, by decide +kernel, rfl, by decide +kernel, by decide +kernel⟩
theorem ok_take (F : Fun K "_law_take" "_law_take" (top i_law_take) f fd) (T : Nm mg) : FnOk P w K mg base CX0 1 f fd ["_law_state", "_law_many"] spTake := by
  refine F.ok sc_law_take (fun vs H Q E h => ?_) (fun cdv A outer s H vs Q E hr h => ?_)
  · obtain ⟨b, c, t, ns, many, rfl, _⟩ := h
    rfl
  obtain ⟨b, c, t, ns, many, rfl, bx, t0, t1, m0, m1, q⟩ := h
  have hu := hu_of hr
  refine ⟨_, (pss_cons (ps_set (i := 2) sc_law_take.nd rfl (Or.inl rfl) (pe_op addN (pe_dget hu (pv 0) pe_str (fun _ _ => rfl)) pe_int))
    (pss_cons (ps_dput hu (pv 0) pe_str (pv 2) rfl)
    (pss_cons (ps_set (i := 3) sc_law_take.nd rfl (Or.inl rfl) (pe_op op_mod (pv 2) (pe_callB (lenK K) rfl T.n_len (by rfl) (pa_cons (pe_dget hu (pv 0) pe_str (fun _ _ => rfl)) pa_nil))))
    (pss_cons (ps_set (i := 4) sc_law_take.nd rfl (Or.inl rfl) (pe_ix (ixK K) (pe_dget hu (pv 0) pe_str (fun _ _ => rfl)) (pv 3) (fun _ _ => rfl)))
    (pss_cons (ps_if (pt_cmpR op_ge (pv 4) (pe_op op_pow pe_int pe_int) (nomark _)) (pss_cons (ps_asg (pe_callB divmodN rfl T.n_divmod (by rfl) (pa_cons (pv 4) (pa_cons (pv 1) pa_nil))) (tupK K 2 rfl (pgs_cons (pg_sub (pe_dget hu (pv 0) pe_str (fun _ _ => rfl)) (pv 3) set_list) (pgs_cons (pg_name (i := 5) sc_law_take.nd rfl (Or.inl rfl)) pgs_nil))))
    (pss_one (ps_ret (pv 5)))) pss_nil)
    (pss_cons (ps_set (i := 6) sc_law_take.nd rfl (Or.inl rfl) (pe_op op_mod (pe_op mulN (pe_op addN (pe_op addN (pe_op op_mod (pv 4) pe_int) (pe_op mulN (pe_op mulN (pv 2) (pv 2)) pe_int)) pe_int) pe_int) pe_int))
    (pss_cons (ps_set (i := 6) sc_law_take.nd rfl (Or.inl rfl) (pe_op op_mod (pe_op mulN (pv 6) (pv 6)) pe_int))
    (pss_one (ps_ret (pe_op op_mod (pe_op op_fdiv (pe_op op_mod (pe_op mulN (pe_op addN (pv 6) (pe_op mulN (pv 2) pe_int)) pe_int) pe_int) pe_int) (pv 1))))))))))), ?_⟩
  refine ⟨_, rfl, b, _, rfl, bx.get_turn, .inl ⟨_, _, rfl, rfl, ?_⟩⟩
  refine ⟨_, rfl, _, rfl, b, _, rfl, bx.put_turn (t + 1), ?_⟩
  have bx1 := bx.turned (t + 1)
  refine ⟨_, rfl, _, rfl, b, _, rfl, bx1.get_cells, _, _, rfl, .inl ⟨_, SqL.of bx1.l, rfl⟩, _, _, rfl, rfl, ?_, ?_⟩
  · rw [List.length_map]; have := bx1.ne; (first | lia | omega)
  have hlen : (ns.map V.int).length = ns.length := List.length_map _
  have hp0 : 0 ≤ (t + 1) % ((ns.map V.int).length : Int) := Int.emod_nonneg _ (by have := bx1.ne; (first | lia | omega))
  have hp1 : (t + 1) % ((ns.map V.int).length : Int) < ns.length := by rw [hlen]; exact Int.emod_lt_of_pos _ (by have := bx1.ne; (first | lia | omega))
  refine Elim.el (at_of hp0 hp1) _ ?_
  rintro v hv hv'
  refine ⟨_, rfl, b, _, rfl, bx1.get_cells, _, rfl, .inl ⟨c, _, _, _, rfl, rfl, SqL.of bx1.l, hv, ?_⟩⟩
  refine ⟨_, rfl, _, _, rfl, rfl, ⟨by decide, by decide, by decide⟩, _, _, rfl, rfl, _, rfl, ?_⟩
  refine ite2 (fun _ => ?_) (fun _ => ?_)
  · refine ⟨_, rfl, _, rfl, v, many, rfl, ⟨m0, by (first | lia | omega)⟩, fun pt H2 n2 => ?_⟩
    obtain ⟨hpb, hpc⟩ : pt ≠ b ∧ pt ≠ c := ⟨fun z => (by have := n2.nn; rw [z, bx1.d] at this; cases this), fun z => (by have := n2.nn; rw [z, bx1.l] at this; cases this)⟩
    have bx2 := bx1.same n2.same
    refine ⟨pt, _, rfl, SqT.of n2.at, rfl, _, _, rfl, ?_⟩
    refine ⟨_, rfl, b, _, rfl, bx2.get_cells, _, rfl, c, _, _, _, rfl, rfl, bx2.l, ixN_of hp0 (by simpa only [hlen] using hp1), ?_⟩
    refine ⟨_, _, rfl, rfl, _, rfl, ?_⟩
    refine q (v % many) _ (ns.set ((t + 1) % ((ns.map V.int).length : Int)).toNat (v / many)) (Int.emod_nonneg _ (by (first | lia | omega))) (Int.emod_lt_of_pos _ m0) ⟨?_, ?_, ?_, ?_⟩ ?_
    · rw [upd_ne bx2.bc]; exact bx2.d
    · rw [upd_same, List.map_set]
    · rw [List.length_set]; exact bx1.ne
    · rw [List.length_set]; exact bx1.le
    · rw [hid_upd_c]
      refine hid_more fun a o h1 h2 e => ?_
      rw [n2.ne (fun z => ?_), upd_ne h1]
      · exact e
      · have z2 := n2.nn
        rw [upd_ne hpb, ← z, e] at z2
        cases z2
  · refine ⟨_, rfl, _, _, rfl, rfl, (by dsimp only; decide), _, rfl, _, rfl, .inl ⟨_, _, rfl, rfl, .inl ⟨by (first | lia | omega), by (first | lia | omega)⟩, .inl ⟨_, _, rfl, rfl, .inr ⟨by decide, by decide⟩, .inl ⟨_, _, rfl, rfl, .inl ⟨_, _, rfl, rfl, .inl ⟨_, _, rfl, rfl, .inr ⟨by decide, by decide⟩, _, _, rfl, rfl, (by dsimp only; decide), ?_⟩⟩⟩⟩⟩⟩
    have cm : ∀ (x y p : Int), 0 < p → p < 2 ^ 64 → CMul (x % p) y := fun x y p h0 h1 => cm_mod h0 h1
    refine ⟨_, rfl, _, rfl, .inl ⟨_, _, rfl, rfl, cm _ _ _ (by decide) (by decide), ?_⟩⟩
    refine ⟨_, _, rfl, rfl, (by dsimp only; decide), ?_⟩
    refine ⟨_, rfl, _, rfl, .inl ⟨_, _, rfl, rfl, .inl ⟨by (first | lia | omega), by (first | lia | omega)⟩, .inl ⟨_, _, rfl, rfl, .inl ⟨_, _, rfl, rfl, .inr ⟨by decide, by decide⟩, _, _, rfl, rfl, (by dsimp only; decide), _, _, rfl, rfl, ⟨by decide, by decide⟩, _, rfl, _, _, rfl, rfl, m0, ?_⟩⟩⟩⟩
    exact q _ _ ns (Int.emod_nonneg _ (by (first | lia | omega))) (Int.emod_lt_of_pos _ m0) bx1 (by rw [hid_upd_b]; exact Same.refl _)
end
end Z

set_option Elab.async false
set_option linter.all false
set_option maxRecDepth 100000
set_option maxHeartbeats 4000000
namespace Z
open PySem L2
/-- a field is stored -/
noncomputable def spIni (C : Addr) (f : Str) : Sp := fun vs H Q _ => ∃ (e : Addr) (v : V), vs = [.ref e, v] ∧ H e = some (excN e C) ∧ ∀ dx, H dx = none → dx ≠ e → Q .non (upd (upd H e (excF e C dx)) dx (.xd [(f, v)]))
/-- an exception with its field -/
noncomputable def Fld (H : Hp) (e C : Addr) (f : Str) (v : V) : Prop := ∃ dx, H e = some (excF e C dx) ∧ H dx = some (.xd [(f, v)])
theorem Fld.same {H H' : Hp} {e C : Addr} {f : Str} {v : V} (h : Fld H e C f v) (s : Same H H') : Fld H' e C f v := let ⟨dx, a, b⟩ := h; ⟨dx, s _ _ a, s _ _ b⟩
theorem made_in {C : Addr} {f : Str} {H : Hp} {v : V} {R : Hp → Prop} {e : Addr} (he : H e = none) (q : ∀ H', Same H H' → Fld H' e C f v → R H') : spIni C f [.ref e, v] (upd H e (excN e C)) (fun u H2 => u = .non ∧ R H2) E0 := by
  refine ⟨e, v, rfl, upd_same, fun dx h1 h2 => ⟨rfl, q _ (fun a o z => ?_) ⟨dx, ?_, upd_same⟩⟩⟩
  · have na : a ≠ e := ne_of_none z he
    have nd : a ≠ dx := fun y => by
      rw [upd_ne h2, ← y, z] at h1
      cases h1
    rw [upd_ne nd, upd_ne na, upd_ne na]
    exact z
  · rw [upd_ne (Ne.symm h2), upd_same]
structure Cs87 (K : PySem.W.Frag) (c : Nat → Addr) (odd : Addr) : Prop where
  kit : ∀ i j, i < 8 → j < 8 → PySem.W.kitOne K (.ref (c i)) (.ref (c j)) = some (decide (i = j))
  kodd : ∀ i, i < 8 → PySem.W.kitOne K (.ref (c i)) (.ref odd) = some true
  kval : ∀ i, i < 8 → PySem.W.kitOne K (.ref (c i)) (.type "ValueError") = some true
  ok : ∀ i, i < 8 → ExcOk K (c i)
/-- an exception of the i-th class -/
noncomputable def IsX (H : Hp) (e C : Addr) : Prop := H e = some (excN e C) ∨ ∃ dx, H e = some (excF e C dx)
theorem IsX.same {H H' : Hp} {e C : Addr} (h : IsX H e C) (s : Same H H') : IsX H' e C := h.elim (fun h => .inl (s _ _ h)) fun ⟨dx, h⟩ => .inr ⟨dx, s _ _ h⟩
theorem Fld.isx {H : Hp} {e C : Addr} {f : Str} {v : V} (h : Fld H e C f v) : IsX H e C := let ⟨dx, a, _⟩ := h; .inr ⟨dx, a⟩
noncomputable def spKinds (c : Nat → Addr) : Sp := fun vs H Q _ => ∃ (e : Addr) (k : Nat), vs = [.ref e] ∧ k < 8 ∧ IsX H e (c k) ∧ ∀ p H', Same H H' → H' p = some (.lst ((List.range 8).map fun j => .bl (decide (k = j)))) → Q (.ref p) H'
noncomputable def spWord : Sp := fun vs H Q _ => ∃ (b c : Addr) (t : Int), vs = [.ref b, .int 8] ∧ Bx H b c t ∧ 0 ≤ t ∧ t < 1000000 ∧ ∀ (z : Str) (H' : Hp) (t' : Int), Low z → Step b c H H' t t' 10 → Q (.str z) H'
theorem dens_strs {K : PySem.W.Frag} {H : Hp} : ∀ {ks : List Str} {vs : List V}, Dens K H (ks.map PyData.str) vs → vs = ks.map V.str
  | [], _, h => by rw [List.map_nil] at h; unfold Dens at h; exact h
  | n :: ns, _, h => by
    rw [List.map_cons] at h
    unfold Dens at h
    obtain ⟨v, r, rfl, h1, h2⟩ := h
    unfold Den at h1
    rw [h1, dens_strs h2]; rfl
theorem lit_strs {K : PySem.W.Frag} {H : Hp} {ks : List Str} {v : V} (h : Den K H (.list (ks.map PyData.str)) v) : ∃ p, v = .ref p ∧ SqL K H p (ks.map V.str) := by
  unfold Den at h
  obtain ⟨p, vs, rfl, h1, h2⟩ := h
  rw [dens_strs h2] at h1
  exact ⟨p, rfl, h1⟩
section
variable {P : Program} {w : World} {K : PySem.W.Frag} {mg : Str → Option Value} {base : Heap} {f : Addr} {fd : FuncData} {C odd : Addr} {c : Nat → Addr}
theorem sc_ini_NoName : FnScope ["self", "name"] ["self", "name"] (defScope (inClass (top i_NoName) 0)) := ⟨rfl, rfl, rfl, by decide +kernel, rfl, by decide +kernel, by decide +kernel⟩
theorem ok_ini_NoName (F : Fun K "__init__" "NoName.__init__" (inClass (top i_NoName) 0) f fd) (S : ExcSt K C "name") : FnOk P w K mg base CX0 1 f fd ["self", "name"] (spIni C "name") := by
  refine F.ok sc_ini_NoName (fun vs H Q E h => ?_) (fun cdv A outer s H vs Q E hr h => ?_)
  · obtain ⟨e, v, rfl, _⟩ := h
    rfl
  obtain ⟨e, v, rfl, he, q⟩ := h
  refine ⟨_, (pss_one (ps_xfld (pv 0) (pv 1) rfl)), ?_⟩
  exact ⟨_, rfl, _, rfl, e, C, rfl, he, S, fun dx h1 h2 => q dx h1 h2⟩
theorem sc_ini_BadText : FnScope ["self", "place"] ["self", "place"] (defScope (inClass (top i_BadText) 0)) := ⟨rfl, rfl, rfl, by decide +kernel, rfl, by decide +kernel, by decide +kernel⟩
theorem ok_ini_BadText (F : Fun K "__init__" "BadText.__init__" (inClass (top i_BadText) 0) f fd) (S : ExcSt K C "place") : FnOk P w K mg base CX0 1 f fd ["self", "place"] (spIni C "place") := by
  refine F.ok sc_ini_BadText (fun vs H Q E h => ?_) (fun cdv A outer s H vs Q E hr h => ?_)
  · obtain ⟨e, v, rfl, _⟩ := h
    rfl
  obtain ⟨e, v, rfl, he, q⟩ := h
  refine ⟨_, (pss_one (ps_xfld (pv 0) (pv 1) rfl)), ?_⟩
  exact ⟨_, rfl, _, rfl, e, C, rfl, he, S, fun dx h1 h2 => q dx h1 h2⟩
theorem sc_ini_NoForm : FnScope ["self", "why"] ["self", "why"] (defScope (inClass (top i_NoForm) 0)) := ⟨rfl, rfl, rfl, by decide +kernel, rfl, by decide +kernel, by decide +kernel⟩
theorem ok_ini_NoForm (F : Fun K "__init__" "NoForm.__init__" (inClass (top i_NoForm) 0) f fd) (S : ExcSt K C "why") : FnOk P w K mg base CX0 1 f fd ["self", "why"] (spIni C "why") := by
  refine F.ok sc_ini_NoForm (fun vs H Q E h => ?_) (fun cdv A outer s H vs Q E hr h => ?_)
  · obtain ⟨e, v, rfl, _⟩ := h
    rfl
  obtain ⟨e, v, rfl, he, q⟩ := h
  refine ⟨_, (pss_one (ps_xfld (pv 0) (pv 1) rfl)), ?_⟩
  exact ⟨_, rfl, _, rfl, e, C, rfl, he, S, fun dx h1 h2 => q dx h1 h2⟩
theorem sc_ini_TooFar : FnScope ["self", "row"] ["self", "row"] (defScope (inClass (top i_TooFar) 0)) := ⟨rfl, rfl, rfl, by decide +kernel, rfl, by decide +kernel, by decide +kernel⟩
theorem ok_ini_TooFar (F : Fun K "__init__" "TooFar.__init__" (inClass (top i_TooFar) 0) f fd) (S : ExcSt K C "row") : FnOk P w K mg base CX0 1 f fd ["self", "row"] (spIni C "row") := by
  refine F.ok sc_ini_TooFar (fun vs H Q E h => ?_) (fun cdv A outer s H vs Q E hr h => ?_)
  · obtain ⟨e, v, rfl, _⟩ := h
    rfl
  obtain ⟨e, v, rfl, he, q⟩ := h
  refine ⟨_, (pss_one (ps_xfld (pv 0) (pv 1) rfl)), ?_⟩
  exact ⟨_, rfl, _, rfl, e, C, rfl, he, S, fun dx h1 h2 => q dx h1 h2⟩
theorem sc_ini_NoTarget : FnScope ["self", "place"] ["self", "place"] (defScope (inClass (top i_NoTarget) 0)) := ⟨rfl, rfl, rfl, by decide +kernel, rfl, by decide +kernel, by decide +kernel⟩
theorem ok_ini_NoTarget (F : Fun K "__init__" "NoTarget.__init__" (inClass (top i_NoTarget) 0) f fd) (S : ExcSt K C "place") : FnOk P w K mg base CX0 1 f fd ["self", "place"] (spIni C "place") := by
  refine F.ok sc_ini_NoTarget (fun vs H Q E h => ?_) (fun cdv A outer s H vs Q E hr h => ?_)
  · obtain ⟨e, v, rfl, _⟩ := h
    rfl
  obtain ⟨e, v, rfl, he, q⟩ := h
  refine ⟨_, (pss_one (ps_xfld (pv 0) (pv 1) rfl)), ?_⟩
  exact ⟨_, rfl, _, rfl, e, C, rfl, he, S, fun dx h1 h2 => q dx h1 h2⟩
theorem sc_ini_BadRow : FnScope ["self", "row"] ["self", "row"] (defScope (inClass (top i_BadRow) 0)) := ⟨rfl, rfl, rfl, by decide +kernel, rfl, by decide +kernel, by decide +kernel⟩
theorem ok_ini_BadRow (F : Fun K "__init__" "BadRow.__init__" (inClass (top i_BadRow) 0) f fd) (S : ExcSt K C "row") : FnOk P w K mg base CX0 1 f fd ["self", "row"] (spIni C "row") := by
  refine F.ok sc_ini_BadRow (fun vs H Q E h => ?_) (fun cdv A outer s H vs Q E hr h => ?_)
  · obtain ⟨e, v, rfl, _⟩ := h
    rfl
  obtain ⟨e, v, rfl, he, q⟩ := h
  refine ⟨_, (pss_one (ps_xfld (pv 0) (pv 1) rfl)), ?_⟩
  exact ⟨_, rfl, _, rfl, e, C, rfl, he, S, fun dx h1 h2 => q dx h1 h2⟩
theorem sc_law_kinds : FnScope ["_law_error", "_law_found"] ["_law_error"] (defScope (top i_law_kinds)) := ⟨rfl, rfl, rfl, by decide +kernel, rfl, by decide +kernel, by decide +kernel⟩
theorem ok_kinds (F : Fun K "_law_kinds" "_law_kinds" (top i_law_kinds) f fd) (T : Nm mg) (S : Cs87 K c odd) (g_NoName : mg "NoName" = some (.ref (c 0))) (g_BadText : mg "BadText" = some (.ref (c 1))) (g_NoForm : mg "NoForm" = some (.ref (c 2))) (g_TooFar : mg "TooFar" = some (.ref (c 3))) (g_NoTarget : mg "NoTarget" = some (.ref (c 4)))
    (g_BadRow : mg "BadRow" = some (.ref (c 5))) (g_TooFull : mg "TooFull" = some (.ref (c 6))) (g_NoPlace : mg "NoPlace" = some (.ref (c 7))) : FnOk P w K mg base CX0 1 f fd ["_law_error"] (spKinds c) := by
  refine F.ok sc_law_kinds (fun vs H Q E h => ?_) (fun cdv A outer s H vs Q E hr h => ?_)
  · obtain ⟨e, k, rfl, _⟩ := h
    rfl
  obtain ⟨e, k, rfl, hk, hx, q⟩ := h
  refine ⟨_, (pss_cons (ps_set (i := 1) sc_law_kinds.nd rfl (Or.inl rfl) (lstN (pa_cons (pe_callB (isiM K) rfl T.n_isinstance (by rfl) (pa_cons (pv 0) (pa_cons (pe_gref rfl g_NoName) pa_nil))) (pa_cons (pe_callB (isiM K) rfl T.n_isinstance (by rfl) (pa_cons (pv 0) (pa_cons (pe_gref rfl g_BadText) pa_nil))) (pa_cons (pe_callB (isiM K) rfl T.n_isinstance (by rfl) (pa_cons (pv 0) (pa_cons (pe_gref rfl g_NoForm) pa_nil))) pa_nil)))))
    (pss_cons (ps_set (i := 1) sc_law_kinds.nd rfl (Or.inl rfl) (pe_op addN (pv 1) (lstN (pa_cons (pe_callB (isiM K) rfl T.n_isinstance (by rfl) (pa_cons (pv 0) (pa_cons (pe_gref rfl g_TooFar) pa_nil))) (pa_cons (pe_callB (isiM K) rfl T.n_isinstance (by rfl) (pa_cons (pv 0) (pa_cons (pe_gref rfl g_NoTarget) pa_nil))) (pa_cons (pe_callB (isiM K) rfl T.n_isinstance (by rfl) (pa_cons (pv 0) (pa_cons (pe_gref rfl g_BadRow) pa_nil))) pa_nil))))))
    (pss_one (ps_ret (pe_op addN (pv 1) (lstN (pa_cons (pe_callB (isiM K) rfl T.n_isinstance (by rfl) (pa_cons (pv 0) (pa_cons (pe_gref rfl g_TooFull) pa_nil))) (pa_cons (pe_callB (isiM K) rfl T.n_isinstance (by rfl) (pa_cons (pv 0) (pa_cons (pe_gref rfl g_NoPlace) pa_nil))) pa_nil)))))))), ?_⟩
  have O := S.ok k hk
  refine ⟨_, rfl, e, _, _, _, _, rfl, hx, O, rfl, S.kit k 0 hk (by decide), ?_⟩
  refine ⟨_, rfl, e, _, _, _, _, rfl, hx, O, rfl, S.kit k 1 hk (by decide), ?_⟩
  refine ⟨_, rfl, e, _, _, _, _, rfl, hx, O, rfl, S.kit k 2 hk (by decide), ?_⟩
  refine ⟨by show 3 ≤ sizeLine; decide, fun p1 H1 n1 => gn ?_⟩
  have hx1 := hx.same n1.same
  refine ⟨_, rfl, _, rfl, e, _, _, _, _, rfl, hx1, O, rfl, S.kit k 3 hk (by decide), ?_⟩
  refine ⟨_, rfl, e, _, _, _, _, rfl, hx1, O, rfl, S.kit k 4 hk (by decide), ?_⟩
  refine ⟨_, rfl, e, _, _, _, _, rfl, hx1, O, rfl, S.kit k 5 hk (by decide), ?_⟩
  refine ⟨by show 3 ≤ sizeLine; decide, fun p2 H2 n2 => .inr (.inr ⟨p1, p2, _, _, rfl, rfl, n2.same _ _ n1.at, n2.at, by show 3 + 3 ≤ sizeLine; decide, fun p3 H3 n3 => gn ?_⟩)⟩
  have hx3 := hx1.same (n2.same.trans n3.same)
  refine ⟨_, rfl, _, rfl, e, _, _, _, _, rfl, hx3, O, rfl, S.kit k 6 hk (by decide), ?_⟩
  refine ⟨_, rfl, e, _, _, _, _, rfl, hx3, O, rfl, S.kit k 7 hk (by decide), ?_⟩
  refine ⟨by show 2 ≤ sizeLine; decide, fun p4 H4 n4 => .inr (.inr ⟨p3, p4, _, _, rfl, rfl, n4.same _ _ n3.at, n4.at, by show 6 + 2 ≤ sizeLine; decide, fun p5 H5 n5 => ?_⟩)⟩
  exact q _ _ (n1.same.trans (n2.same.trans (n3.same.trans (n4.same.trans n5.same)))) n5.at
theorem sc_law_word : FnScope ["_law_state", "_law_most", "_law_letters"] ["_law_state", "_law_most"] (defScope (top i_law_word)) := ⟨rfl, rfl, rfl, by decide +kernel, rfl, by decide +kernel, by decide +kernel⟩
theorem ok_word (F : Fun K "_law_word" "_law_word" (top i_law_word) f fd) (T : Nm mg) (f_law_take : Fn P w K mg base 1 "_law_take" ["_law_state", "_law_many"] spTk) : FnOk P w K mg base CX0 2 f fd ["_law_state", "_law_most"] spWord := by
  refine F.ok sc_law_word (fun vs H Q E h => ?_) (fun cdv A outer s H vs Q E hr h => ?_)
  · obtain ⟨b, c, t, rfl, _⟩ := h
    rfl
  obtain ⟨b, c, t, rfl, bx, t0, t1, q⟩ := h
  refine ⟨_, (pss_cons (ps_set (i := 2) sc_law_word.nd rfl (Or.inr rfl) pe_str)
    (pss_one (ps_ret (bmK K PySem.F.plainAttrs_str PySem.F.slot_str_join PySem.F.type_str_join (joinK K) pe_str (pa_cons (pe_lcomp rfl (comp_ok (Nc := ["_law_turn"]) (Fc := ["_law_letters", "_law_state"]) (js := [2, 0])) (pi_range1 rfl T.n_range (pa_cons (pe_op addN pe_int (pe_fn (f_law_take.mono (by first | decide | exact Nat.le_refl _ | (first | lia | omega))) hr rfl (pa_cons (pv 0) (pa_cons (pv 1) pa_nil)))) pa_nil)) (gk_name (i := 0) (n := 1) (by decide)) (fun _ _ _ _ _ => (pg_name (i := 0) (show (["_law_turn", "_law_letters", "_law_state"] : List Str).Nodup by decide +kernel) rfl (Or.inl rfl))) (fun _ _ _ _ _ => pts_nil) (fun _ _ _ _ _ => (pe_ix (ixK K) (pv 1) (pe_fn (f_law_take.mono (by first | decide | exact Nat.le_refl _ | (first | lia | omega))) hr rfl (pa_cons (pv 2) (pa_cons pe_int pa_nil))) (fun _ _ => rfl)))) pa_nil))))), ?_⟩
  refine gn ?_
  refine ⟨rfl, _, rfl, _, rfl, b, c, t, 8, rfl, bx, t0, by (first | lia | omega), by decide, by decide, fun r H1 r0 r1 st1 => .inl ⟨_, _, rfl, rfl, _, rfl, by (first | lia | omega), by (first | lia | omega), ?_⟩⟩
  refine comp_go (N := (1 + r).toNat) (fun i ys H' => ∃ (xs : List Str) (t' : Int), ys = xs.map V.str ∧ xs.length = i ∧ (∀ x ∈ xs, ∃ ch : Nat, x = ⟨#[ch]⟩ ∧ 97 ≤ ch ∧ ch ≤ 122) ∧ Step b c H H' t t' (1 + i)) ⟨[], _, rfl, rfl, (fun x m => nomatch m), st1.more (by (first | lia | omega))⟩ ?_ ?_
  · rintro i ys H2 Nx hi ⟨xs, t2, rfl, hxl, hx, st2⟩ nx
    have ub2 := st2.ub
    have lo2 := st2.le
    refine ⟨hi, Nat.lt_of_le_of_lt (show _ ≤ 1000 by rw [List.length_map]; (first | lia | omega)) (by decide), ?_⟩
    rintro x' H3 ⟨rfl, rfl⟩
    refine gn ⟨_, rfl, _, rfl, b, c, t2, 26, rfl, st2.bx, by (first | lia | omega), by (first | lia | omega), by decide, by decide, fun d H4 d0 d1 st4 => ?_⟩
    refine .inr (.inr ⟨_, d, _, rfl, rfl, by decide +kernel, abc_at d0 d1, nx _ _ ⟨xs ++ [⟨#[97 + d.toNat]⟩], t2 + 1, by rw [List.map_append]; rfl, by rw [List.length_append, hxl]; rfl, fun x m => ?_, (st2.trans st4).more (by (first | lia | omega))⟩⟩)
    rcases List.mem_append.mp m with m | m
    · exact hx x m
    · exact ⟨_, List.mem_singleton.mp m, by (first | lia | omega), by (first | lia | omega)⟩
  · rintro ys H2 ⟨xs, t2, rfl, hxl, hx, st2⟩
    refine ⟨Nat.le_refl _, fun p hp => ?_⟩
    have hlen : ∀ xs : List Str, (∀ x ∈ xs, ∃ ch : Nat, x = ⟨#[ch]⟩ ∧ 97 ≤ ch ∧ ch ≤ 122) → (xs.map (·.length)).sum = xs.length := fun xs => by
      induction xs with
      | nil => exact fun _ => rfl
      | cons x xs ih =>
        intro h
        obtain ⟨ch, rfl, _⟩ := h x List.mem_cons_self
        rw [List.map_cons, List.sum_cons, ih fun y m => h y (List.mem_cons_of_mem _ m), len_one, List.length_cons]
        (first | lia | omega)
    refine ⟨_, p, xs, rfl, rfl, SqL.of upd_same, ?_, ?_⟩
    · have e0 : (Str.ofString "").length = 0 := rfl
      rw [hlen xs hx, e0]; (first | lia | omega)
    · refine q _ _ t2 (fun ch hc => ?_) ((st2.new hp _).more (by (first | lia | omega)))
      have hc : ch ∈ (Txt.join "" xs).cps.toList := hc
      rw [join_list0] at hc
      obtain ⟨x, hm, hc⟩ := List.mem_flatMap.mp hc
      obtain ⟨d, rfl, d1, d2⟩ := hx x hm
      have : ch = d := by simpa using hc
      (first | lia | omega)
end
end Z

set_option Elab.async false
set_option linter.all false
set_option maxRecDepth 100000
set_option maxHeartbeats 4000000
namespace Z
open PySem L2
noncomputable def spLaw (K : PySem.W.Frag) : Sp := fun vs H Q _ => ∃ (a : Addr) (ns : List Int), vs = [.ref a] ∧ SqL K H a (ns.map V.int) ∧ ns.length ≤ 63 ∧ ∀ H', Q (.bl true) H'
theorem new_hid {H H' : Hp} {b c : Addr} {t : Int} (bx : Bx H b c t) : Same (newOf H H') (hid H' b c) := fun a o e => by
  obtain ⟨h1, h2⟩ := of_newOf e
  obtain ⟨n1, n2⟩ := bx.ne_new h1
  rw [hid_of n1 n2]; exact h2
theorem at_mem {α : Type} {xs : List α} {r : Int} (h0 : 0 ≤ r) (h1 : r < xs.length) : ∃ v, atI xs r = some v ∧ v ∈ xs := by
  have hk : r.toNat < xs.length := by (first | lia | omega)
  exact ⟨xs[r.toNat], at_nat h0 (List.getElem?_eq_getElem hk), List.getElem_mem hk⟩
theorem dens_bls {K : PySem.W.Frag} {H : Hp} : ∀ (bs : List Bool), Dens K H (bs.map PyData.bool) (bs.map V.bl)
  | [] => by unfold Dens; rfl
  | n :: ns => by
    rw [List.map_cons, List.map_cons]
    unfold Dens
    exact ⟨_, _, rfl, by unfold Den; rfl, dens_bls ns⟩
theorem sh_bls (bs : List Bool) : SeqAt.shaped (.list (bs.map PyData.bool)) = true := (Sh.list (n := 1) fun d hd => by
  obtain ⟨i, _, rfl⟩ := List.mem_map.mp hd
  exact ⟨by simp [PyData.canLay0], by simp [PyData.depth]⟩).shaped (by decide)
noncomputable abbrev whys : List Str := ["kinds", "spots", "sizes", "near", "far"]
theorem whys_ok : ∀ x ∈ whys, PyData.canLay0 (.str x) = true := by decide +kernel
section
variable {P : Program} {w : World} {K : PySem.W.Frag} {mg : Str → Option Value} {base : Heap} {f : Addr} {fd : FuncData} {odd : Addr} {c : Nat → Addr} {f0 f1 f2 f3 f4 f5 : Addr} {d0 d1 d2 d3 d4 d5 : FuncData}
theorem sc_law : FnScope ["_law_script", "_law_state", "_law_turn", "_law_name", "_law_why", "_law_place", "_law_row", "_law_goal", "_law_line", "_law_made_of", "_law_k", "_law_error", "_law_told"] ["_law_script"] (defScope (top i_law)) := ⟨rfl, rfl, rfl, by decide +kernel, rfl, by decide +kernel, by decide +kernel⟩
theorem ok_law (F : Fun K "law" "law" (top i_law) f fd) (T : Nm mg) (n_ValueError : mg "ValueError" = none) (S : Cs87 K c odd) (g_OddError : mg "OddError" = some (.ref odd)) (g_NoName : mg "NoName" = some (.ref (c 0))) (g_BadText : mg "BadText" = some (.ref (c 1))) (g_NoForm : mg "NoForm" = some (.ref (c 2)))
    (g_TooFar : mg "TooFar" = some (.ref (c 3))) (g_NoTarget : mg "NoTarget" = some (.ref (c 4))) (g_BadRow : mg "BadRow" = some (.ref (c 5))) (g_TooFull : mg "TooFull" = some (.ref (c 6))) (g_NoPlace : mg "NoPlace" = some (.ref (c 7)))
    (M_NoName : XMk K (c 0) f0) (M_BadText : XMk K (c 1) f1) (M_NoForm : XMk K (c 2) f2) (M_TooFar : XMk K (c 3) f3) (M_NoTarget : XMk K (c 4) f4) (M_BadRow : XMk K (c 5) f5) (M_TooFull : XMk0 K (c 6)) (M_NoPlace : XMk0 K (c 7))
    (F_NoName : FnOk P w K mg base CX0 1 f0 d0 ["self", "name"] (spIni (c 0) "name")) (F_BadText : FnOk P w K mg base CX0 1 f1 d1 ["self", "place"] (spIni (c 1) "place")) (F_NoForm : FnOk P w K mg base CX0 1 f2 d2 ["self", "why"] (spIni (c 2) "why"))
    (F_TooFar : FnOk P w K mg base CX0 1 f3 d3 ["self", "row"] (spIni (c 3) "row")) (F_NoTarget : FnOk P w K mg base CX0 1 f4 d4 ["self", "place"] (spIni (c 4) "place")) (F_BadRow : FnOk P w K mg base CX0 1 f5 d5 ["self", "row"] (spIni (c 5) "row"))
    (b_NoName : Binds K d0 ["self", "name"] []) (b_BadText : Binds K d1 ["self", "place"] []) (b_NoForm : Binds K d2 ["self", "why"] []) (b_TooFar : Binds K d3 ["self", "row"] []) (b_NoTarget : Binds K d4 ["self", "place"] []) (b_BadRow : Binds K d5 ["self", "row"] [])
    (S0 : ExcSt K (c 0) "name") (S1 : ExcSt K (c 1) "place") (S2 : ExcSt K (c 2) "why") (S3 : ExcSt K (c 3) "row") (S4 : ExcSt K (c 4) "place") (S5 : ExcSt K (c 5) "row")
    (f_law_begin : Fn P w K mg base 1 "_law_begin" ["_law_script"] (spBegin K)) (f_law_word : Fn P w K mg base 2 "_law_word" ["_law_state", "_law_most"] spWord) (f_law_take : Fn P w K mg base 1 "_law_take" ["_law_state", "_law_many"] spTk) (f_law_kinds : Fn P w K mg base 1 "_law_kinds" ["_law_error"] (spKinds c)) : FnOk P w K mg base CX0 4 f fd ["_law_script"] (spLaw K) := by
  refine F.ok sc_law (fun vs H Q E h => ?_) (fun cdv A outer s H vs Q E hr h => ?_)
  · obtain ⟨a, ns, rfl, _⟩ := h
    rfl
  obtain ⟨a, ns, rfl, hS, hlen, q⟩ := h
  have hu6 := hr.units
  refine ⟨_, (pss_cons (ps_set (i := 1) sc_law.nd rfl (Or.inr rfl) (pe_fn (f_law_begin.mono (by first | decide | exact Nat.le_refl _ | (first | lia | omega))) hr rfl (pa_cons (pv 0) pa_nil)))
    (pss_cons (ps_for PassesOwn.never rfl (pi_range1 rfl T.n_range (pa_cons pe_int pa_nil)) (pg_name (i := 2) sc_law.nd rfl (Or.inl rfl)) (pss_cons (ps_par (i := 3) (j := 4) rfl sc_law.nd rfl rfl (by decide) rfl rfl (pa_cons (pe_fn (f_law_word.mono (by first | decide | exact Nat.le_refl _ | (first | lia | omega))) hr rfl (pa_cons (pv 1) (pa_cons pe_int pa_nil))) (pa_cons (pe_ix (ixK K) (lit_lst (K := K) (lits_cons lit_str (lits_cons lit_str (lits_cons lit_str (lits_cons lit_str (lits_cons lit_str lits_nil)))))) (pe_fn (f_law_take.mono (by first | decide | exact Nat.le_refl _ | (first | lia | omega))) hr rfl (pa_cons (pv 1) (pa_cons pe_int pa_nil))) (fun _ _ => rfl)) pa_nil)) rfl)
    (pss_cons (ps_asg (pe_lcomp rfl (comp_ok (Nc := ["_law_k"]) (Fc := ["_law_state"]) (js := [1])) (pi_range1 rfl T.n_range (pa_cons pe_int pa_nil)) (gk_name (i := 0) (n := 1) (by decide)) (fun _ _ _ _ _ => (pg_name (i := 0) (show (["_law_k", "_law_state"] : List Str).Nodup by decide +kernel) rfl (Or.inl rfl))) (fun _ _ _ _ _ => pts_nil) (fun _ _ _ _ _ => (pe_fn (f_law_take.mono (by first | decide | exact Nat.le_refl _ | (first | lia | omega))) hr rfl (pa_cons (pv 1) (pa_cons pe_int pa_nil))))) (pg_lst K 4 rfl (pgs_cons (pg_name (i := 5) sc_law.nd rfl (Or.inl rfl)) (pgs_cons (pg_name (i := 6) sc_law.nd rfl (Or.inl rfl)) (pgs_cons (pg_name (i := 7) sc_law.nd rfl (Or.inl rfl)) (pgs_cons (pg_name (i := 8) sc_law.nd rfl (Or.inl rfl)) pgs_nil))))))
    (pss_cons (ps_set (i := 9) sc_law.nd rfl (Or.inl rfl) (lstN (pa_cons (pe_xmake (k := 1) M_NoName F_NoName (hr.mono (by decide)) rfl g_NoName b_NoName (pa_cons (pv 3) pa_nil)) (pa_cons (pe_xmake (k := 1) M_BadText F_BadText (hr.mono (by decide)) rfl g_BadText b_BadText (pa_cons (pv 5) pa_nil)) (pa_cons (pe_xmake (k := 1) M_NoForm F_NoForm (hr.mono (by decide)) rfl g_NoForm b_NoForm (pa_cons (pv 4) pa_nil)) (pa_cons (pe_xmake (k := 1) M_TooFar F_TooFar (hr.mono (by decide)) rfl g_TooFar b_TooFar (pa_cons (pv 6) pa_nil)) (pa_cons (pe_xmake (k := 1) M_NoTarget F_NoTarget (hr.mono (by decide)) rfl g_NoTarget b_NoTarget (pa_cons (pv 7) pa_nil)) (pa_cons (pe_xmake (k := 1) M_BadRow F_BadRow (hr.mono (by decide)) rfl g_BadRow b_BadRow (pa_cons (pv 8) pa_nil)) pa_nil))))))))
    (pss_cons (ps_set (i := 9) sc_law.nd rfl (Or.inl rfl) (pe_op addN (pv 9) (lstN (pa_cons (pe_xmake0 M_TooFull rfl g_TooFull (pa_cons pe_str pa_nil)) (pa_cons (pe_xmake0 M_NoPlace rfl g_NoPlace (pa_cons pe_str pa_nil)) pa_nil)))))
    (pss_cons (ps_for PassesOwn.never rfl (enumK K rfl T.n_enumerate (pa_cons (pv 9) pa_nil)) (tupK K 2 rfl (pgs_cons (pg_name (i := 10) sc_law.nd rfl (Or.inr rfl)) (pgs_cons (pg_name (i := 11) sc_law.nd rfl (Or.inl rfl)) pgs_nil))) (pss_cons (ps_if (PW.pt (pw_or (pt_not (pt_val (pe_callB (isiM K) rfl T.n_isinstance (by rfl) (pa_cons (pv 11) (pa_cons (pe_gref rfl g_OddError) pa_nil))))) (pw_or1 (pt_not (pt_val (pe_callB (isiM K) rfl T.n_isinstance (by rfl) (pa_cons (pv 11) (pa_cons (pe_bltn rfl n_ValueError (by rfl) (v := .ty "ValueError") rfl) pa_nil)))))))) (pss_one (ps_ret pe_bl)) pss_nil)
    (pss_one (ps_if (pt_cmpR (neK K hu6) (pe_fn (f_law_kinds.mono (by first | decide | exact Nat.le_refl _ | (first | lia | omega))) hr rfl (pa_cons (pv 11) pa_nil)) (pe_lcomp rfl (comp_ok (Nc := ["_law_j"]) (Fc := ["_law_k"]) (js := [10])) (pi_range1 rfl T.n_range (pa_cons pe_int pa_nil)) (gk_name (i := 0) (n := 1) (by decide)) (fun _ _ _ _ _ => (pg_name (i := 0) (show (["_law_j", "_law_k"] : List Str).Nodup by decide +kernel) rfl (Or.inl rfl))) (fun _ _ _ _ _ => pts_nil) (fun _ _ _ _ _ => (pe_cmpR (eqK K hu6) (pv 1) (pv 0) (nomark _)))) (nomark _)) (pss_one (ps_ret pe_bl)) pss_nil))))
    (pss_cons (ps_set (i := 12) sc_law.nd rfl (Or.inl rfl) (lstN (pa_cons (pe_xget (pe_ix (ixK K) (pv 9) pe_int (fun _ _ => rfl))) (pa_cons (pe_xget (pe_ix (ixK K) (pv 9) pe_int (fun _ _ => rfl))) (pa_cons (pe_xget (pe_ix (ixK K) (pv 9) pe_int (fun _ _ => rfl))) (pa_cons (pe_xget (pe_ix (ixK K) (pv 9) pe_int (fun _ _ => rfl))) (pa_cons (pe_xget (pe_ix (ixK K) (pv 9) pe_int (fun _ _ => rfl))) (pa_cons (pe_xget (pe_ix (ixK K) (pv 9) pe_int (fun _ _ => rfl))) pa_nil))))))))
    (pss_one (ps_if (PW.pt (pw_or (pt_cmpR (neK K hu6) (pv 12) (lstN (pa_cons (pv 3) (pa_cons (pv 5) (pa_cons (pv 4) (pa_cons (pv 6) (pa_cons (pv 7) (pa_cons (pv 8) pa_nil))))))) (nomark _)) (pw_or1 (pt_val (pe_callB (anyK K rfl) rfl T.n_any (by rfl) (pa_cons (pe_lcomp rfl (comp_ok (Nc := ["_law_one"]) (Fc := []) (js := [])) (piK K (pv 12)) (gk_name (i := 0) (n := 1) (by decide)) (fun _ _ _ _ _ => (pg_name (i := 0) (show (["_law_one"] : List Str).Nodup by decide +kernel) rfl (Or.inl rfl))) (fun _ _ _ _ _ => pts_nil) (fun _ _ _ _ _ => (pe_callB (isiK K) rfl T.n_isinstance (by rfl) (pa_cons (pv 0) (pa_cons (pe_bltn rfl T.n_bool (by rfl) (v := .ty "bool") rfl) pa_nil))))) pa_nil)))))) (pss_one (ps_ret pe_bl)) pss_nil)))))))))
    (pss_one (ps_ret pe_bl)))), ?_⟩
  refine ⟨_, rfl, a, ns, rfl, hS, hlen, fun b bc H1 bx1 hb hc sm1 => ?_⟩
  refine gn ?_
  dsimp only
  refine ⟨3, rfl, by decide, by decide, ?_⟩
  refine for_range (lo := 0) (n := 3) (fun i σ H' => ∃ (t' : Int) (x2 x3 x4 x5 x6 x7 x8 x9 x10 x11 x12 : Option V), σ = [some (.ref a), some (.ref b), x2, x3, x4, x5, x6, x7, x8, x9, x10, x11, x12] ∧ Step b bc H1 H' 0 t' (100 * i)) ⟨0, _, _, _, _, _, _, _, _, _, _, _, rfl, (Step.refl bx1).more (by (first | lia | omega))⟩ ?_ ?_
  · rintro i σ H2 hi ⟨t2, x2, x3, x4, x5, x6, x7, x8, x9, x10, x11, x12, rfl, st2⟩
    have ub2 := st2.ub
    have lo2 := st2.le
    refine ⟨_, rfl, b, bc, t2, rfl, st2.bx, by (first | lia | omega), by (first | lia | omega), fun nm H3 t3 low st3 => ?_⟩
    have ub3 := st3.ub
    have lo3 := st3.le
    intro v4 H4 sm4 d4
    obtain ⟨p4, rfl, hS4⟩ := lit_strs (ks := whys) (d4.same (new_hid st3.bx))
    have st4 := Step.same st3.bx sm4
    refine ⟨_, rfl, b, bc, t3, 5, rfl, st4.bx, by (first | lia | omega), by (first | lia | omega), by decide, by decide, fun r H5 r0 r1 st5 => ?_⟩
    obtain ⟨kv, hk1, hk2⟩ := at_mem (xs := whys.map V.str) r0 (show r < ((whys.map V.str).length : Nat) from r1)
    obtain ⟨wy, hk3, rfl⟩ := List.mem_map.mp hk2
    have hwy := whys_ok wy hk3
    refine .inl ⟨p4, _, _, _, rfl, rfl, (st5.sm.trans hid_same).seq hS4, hk1, _, _, rfl, ?_⟩
    have st5' := st2.trans (st3.trans (st4.trans st5))
    dsimp only
    refine ⟨4, rfl, by decide, by decide, ?_⟩
    refine comp_go (N := 4) (fun k ys H' => ∃ (ns : List Int) (t' : Int), ys = ns.map V.int ∧ ns.length = k ∧ (∀ n ∈ ns, 0 ≤ n ∧ n < 20000) ∧ Step b bc H1 H' 0 t' (100 * i + 11 + k)) ⟨[], _, rfl, rfl, (fun n m => nomatch m), st5'.more (by (first | lia | omega))⟩ ?_ ?_
    · rintro k ys H6 Nx hk ⟨ns6, t6, rfl, hl6, hn6, st6⟩ nx
      have ub6 := st6.ub
      have lo6 := st6.le
      refine ⟨hk, Nat.lt_of_le_of_lt (show _ ≤ 1000 by rw [List.length_map]; (first | lia | omega)) (by decide), ?_⟩
      rintro x' H7 ⟨rfl, rfl⟩
      refine gn ⟨_, rfl, b, bc, t6, 20000, rfl, st6.bx, by (first | lia | omega), by (first | lia | omega), by decide, by decide, fun m H8 m0 m1 st8 => nx _ _ ⟨ns6 ++ [m], _, by rw [List.map_append]; rfl, by rw [List.length_append, hl6]; rfl, fun n hn => ?_, (st6.trans st8).more (by (first | lia | omega))⟩⟩
      rcases List.mem_append.mp hn with hn | hn
      · exact hn6 n hn
      · rw [List.mem_singleton.mp hn]; exact ⟨m0, m1⟩
    rintro ys H6 ⟨ns6, t6, rfl, hl6, hn6, st6⟩
    refine ⟨Nat.le_refl _, fun p6 hp6 => ?_⟩
    obtain ⟨H7, n7⟩ : ∃ H7, New H6 p6 (.lst (ns6.map V.int)) H7 := ⟨_, hp6, rfl⟩
    rw [← n7.eq]
    match ns6, hl6, n7 with
    | [i1, i2, i3, i4], _, n7 =>
    refine ⟨p6, _, rfl, SqL.of n7.at, rfl, _, _, rfl, _, _, rfl, _, _, rfl, _, _, rfl, rfl, ?_⟩
    have st7 := st6.newN n7
    clear st5' hS4 hk1 hk2 d4 sm4 st4 st5 n7
    dsimp only
    -- the refusals
    refine ⟨_, rfl, by show 1 ≤ 1000; decide, fun e0 h0 => made_in h0 fun A0 s0 g0 => ?_⟩
    refine ⟨_, rfl, by show 1 ≤ 1000; decide, fun e1 h1 => made_in h1 fun A1 s1 g1 => ?_⟩
    refine ⟨_, rfl, by show 1 ≤ 1000; decide, fun e2 h2 => made_in h2 fun A2 s2 g2 => ?_⟩
    refine ⟨_, rfl, by show 1 ≤ 1000; decide, fun e3 h3 => made_in h3 fun A3 s3 g3 => ?_⟩
    refine ⟨_, rfl, by show 1 ≤ 1000; decide, fun e4 h4 => made_in h4 fun A4 s4 g4 => ?_⟩
    refine ⟨_, rfl, by show 1 ≤ 1000; decide, fun e5 h5 => made_in h5 fun A5 s5 g5 => ?_⟩
    refine ⟨by show 6 ≤ sizeLine; decide, fun q1 B1 m1 => gn ?_⟩
    refine ⟨_, rfl, by show 1 ≤ 1000; decide, fun e6 h6 => ?_⟩
    refine ⟨by show 1 ≤ 1000; decide, fun e7 h7 => ?_⟩
    obtain ⟨B2, k2⟩ : ∃ B2, New B1 e6 (excN e6 (c 6)) B2 := ⟨_, h6, rfl⟩
    rw [← k2.eq] at h7 ⊢
    obtain ⟨B3, k3⟩ : ∃ B3, New B2 e7 (excN e7 (c 7)) B3 := ⟨_, h7, rfl⟩
    rw [← k3.eq]
    refine ⟨by show 2 ≤ sizeLine; decide, fun q2 B4 m2 => .inr (.inr ⟨q1, q2, _, _, rfl, rfl, m2.same _ _ (k3.same _ _ (k2.same _ _ m1.at)), m2.at, by show 6 + 2 ≤ sizeLine; decide, fun q3 B5 m3 => gn ?_⟩)⟩
    have m15 : Same B1 B5 := k2.same.trans (k3.same.trans (m2.same.trans m3.same))
    have hx6 : B5 e6 = some (excN e6 (c 6)) := (k3.same.trans (m2.same.trans m3.same)) _ _ k2.at
    have hx7 : B5 e7 = some (excN e7 (c 7)) := (m2.same.trans m3.same) _ _ k3.at
    have g0 := g0.same (s1.trans (s2.trans (s3.trans (s4.trans (s5.trans (m1.same.trans m15))))))
    have g1 := g1.same (s2.trans (s3.trans (s4.trans (s5.trans (m1.same.trans m15)))))
    have g2 := g2.same (s3.trans (s4.trans (s5.trans (m1.same.trans m15))))
    have g3 := g3.same (s4.trans (s5.trans (m1.same.trans m15)))
    have g4 := g4.same (s5.trans (m1.same.trans m15))
    have g5 := g5.same (m1.same.trans m15)
    have sm7 : Same H7 B5 := s0.trans (s1.trans (s2.trans (s3.trans (s4.trans (s5.trans (m1.same.trans m15))))))
    have stB := st7.trans (Step.same st7.bx sm7)
    have hl := m3.at
    clear m15 k2 k3 m1 m2 m3 s0 s1 s2 s3 s4 s5 h0 h1 h2 h3 h4 h5 h6 h7 sm7 st7
    let es : List V := [.ref e0, .ref e1, .ref e2, .ref e3, .ref e4, .ref e5, .ref e6, .ref e7]
    have hes : ∀ k, k < 8 → ∃ e, es[k]? = some (.ref e) ∧ IsX B5 e (c k) := fun k hk => by
      match k, hk with
      | 0, _ => exact ⟨e0, rfl, g0.isx⟩
      | 1, _ => exact ⟨e1, rfl, g1.isx⟩
      | 2, _ => exact ⟨e2, rfl, g2.isx⟩
      | 3, _ => exact ⟨e3, rfl, g3.isx⟩
      | 4, _ => exact ⟨e4, rfl, g4.isx⟩
      | 5, _ => exact ⟨e5, rfl, g5.isx⟩
      | 6, _ => exact ⟨e6, rfl, .inl hx6⟩
      | 7, _ => exact ⟨e7, rfl, .inl hx7⟩
      | n + 8, h => exact absurd h (by (first | lia | omega))
    have hl : B5 q3 = some (.lst es) := hl
    have z0 : es[0]? = some (.ref e0) := rfl
    have z1 : es[1]? = some (.ref e1) := rfl
    have z2 : es[2]? = some (.ref e2) := rfl
    have z3 : es[3]? = some (.ref e3) := rfl
    have z4 : es[4]? = some (.ref e4) := rfl
    have z5 : es[5]? = some (.ref e5) := rfl
    have e8 : es.length = 8 := rfl
    clear_value es
    dsimp only
    refine seqCut (t := tFor _ _ _) (fun σ H' => ∃ (x10 x11 : Option V), σ = [some (.ref a), some (.ref b), some (.int (0 + i)), some (.str nm), some (.str wy), some (.int i1), some (.int i2), some (.int i3), some (.int i4), some (.ref q3), x10, x11, x12] ∧ Same B5 H') (fun Nx nx => ?_) ?_
    · refine ⟨_, rfl, q3, rfl, ⟨_, SqL.of hl⟩, ?_⟩
      refine for_go (N := 8) (fun k σ H' => ∃ (x10 x11 : Option V), σ = [some (.ref a), some (.ref b), some (.int (0 + i)), some (.str nm), some (.str wy), some (.int i1), some (.int i2), some (.int i3), some (.int i4), some (.ref q3), x10, x11, x12] ∧ Same B5 H') ⟨_, _, rfl, Same.refl _⟩ ?_ ?_
      · rintro k σ H8 hk ⟨y10, y11, rfl, sm8⟩
        obtain ⟨e, he, hx⟩ := hes k hk
        have hS8 : SqL K H8 q3 es := SqL.of (sm8 _ _ hl)
        refine ⟨⟨_, _, hS8, he⟩, ?_⟩
        rintro x' H9 ⟨T', rfl, hT, hy⟩
        have e9 := hy _ _ hS8 he
        have n9 : New H8 T' (.tup [.int k, .ref e]) H9 := ⟨hT, e9⟩
        clear e9 hy
        refine ⟨T', _, rfl, SqT.of n9.at, rfl, _, _, rfl, _, _, rfl, rfl, ?_⟩
        have hx9 := hx.same (sm8.trans n9.same)
        have O := S.ok k hk
        dsimp only
        refine ⟨_, rfl, e, _, _, _, _, rfl, hx9, O, rfl, S.kodd k hk, _, rfl, iteF ?_⟩
        refine ⟨_, rfl, e, _, _, _, _, rfl, hx9, O, rfl, S.kval k hk, _, rfl, iteF ?_⟩
        dsimp only [tNext]
        refine ⟨_, rfl, e, k, rfl, hk, hx9, fun p10 H10 sm10 h10 => ?_⟩
        refine ⟨8, rfl, by decide, by decide, ?_⟩
        refine comp_go (N := 8) (fun j ys H' => H' = H10 ∧ ys = ((List.range j).map fun j => decide (k = j)).map V.bl) ⟨rfl, rfl⟩ ?_ ?_
        · rintro j ys H' Nx2 hj ⟨rfl, rfl⟩ nx2
          refine ⟨hj, Nat.lt_of_le_of_lt (show _ ≤ 1000 by rw [List.length_map, List.length_map, List.length_range]; (first | lia | omega)) (by decide), ?_⟩
          rintro x' H11 ⟨rfl, rfl⟩
          refine gn ⟨_, rfl, _, rfl, .inl ⟨rfl, nx2 _ _ ⟨rfl, ?_⟩⟩⟩
          rw [List.range_succ, List.map_append, List.map_append]
          congr 1
          show [V.bl (decide (V.int (k : Int) = V.int (0 + (j : Int))))] = [V.bl (decide (k = j))]
          congr 2
          by_cases z : k = j
          · rw [decide_eq_true z, decide_eq_true (by rw [z]; simp)]
          · rw [decide_eq_false z, decide_eq_false (fun y => z (by injection y with y; (first | lia | omega)))]
        · rintro ys H' ⟨rfl, rfl⟩
          refine ⟨Nat.le_refl _, fun p11 hp11 => ?_⟩
          obtain ⟨H12, n12⟩ : ∃ H12, New H' p11 (.lst (((List.range 8).map fun j => decide (k = j)).map V.bl)) H12 := ⟨_, hp11, rfl⟩
          rw [← n12.eq]
          have h10' : H12 p10 = some (.lst (((List.range 8).map fun j => decide (k = j)).map V.bl)) := by
            rw [List.map_map]
            exact n12.same _ _ h10
          have da : Den K H12 (.list (((List.range 8).map fun j => decide (k = j)).map PyData.bool)) (.ref p10) := Den.list (SqL.of h10') (dens_bls _)
          have db : Den K H12 (.list (((List.range 8).map fun j => decide (k = j)).map PyData.bool)) (.ref p11) := Den.list (SqL.of n12.at) (dens_bls _)
          have sh := sh_bls ((List.range 8).map fun j => decide (k = j))
          refine .inr ⟨_, _, da, db, sh, sh, _, rfl, ?_⟩
          rw [eqv_refl _ (SeqAt.canLay_of_shaped sh)]
          exact iteF ⟨_, _, rfl, sm8.trans (n9.same.trans (sm10.trans n12.same))⟩
      · rintro σ H8 ⟨y10, y11, rfl, sm8⟩
        exact ⟨⟨_, SqL.of (sm8 _ _ hl), by (first | lia | omega)⟩, nx _ _ ⟨_, _, rfl, sm8⟩⟩
    rintro σ H8 ⟨y10, y11, rfl, sm8⟩
    have hq8 : SqL K H8 q3 es := SqL.of (sm8 _ _ hl)
    obtain ⟨x0, u0, w0⟩ := g0.same sm8
    obtain ⟨x1, u1, w1⟩ := g1.same sm8
    obtain ⟨y2, u2, w2⟩ := g2.same sm8
    obtain ⟨y3, u3, w3⟩ := g3.same sm8
    obtain ⟨y4, u4, w4⟩ := g4.same sm8
    obtain ⟨y5, u5, w5⟩ := g5.same sm8
    refine ⟨_, rfl, .inl ⟨q3, _, 0, _, rfl, rfl, hq8, at_nat (by decide) z0, e0, _, x0, _, _, rfl, u0, w0, rfl, S.ok 0 (by decide), S0, .inr ⟨_, rfl⟩, ?_⟩⟩
    refine ⟨_, rfl, .inl ⟨q3, _, 1, _, rfl, rfl, hq8, at_nat (by decide) z1, e1, _, x1, _, _, rfl, u1, w1, rfl, S.ok 1 (by decide), S1, .inl ⟨_, rfl⟩, ?_⟩⟩
    refine ⟨_, rfl, .inl ⟨q3, _, 2, _, rfl, rfl, hq8, at_nat (by decide) z2, e2, _, y2, _, _, rfl, u2, w2, rfl, S.ok 2 (by decide), S2, .inr ⟨_, rfl⟩, ?_⟩⟩
    refine ⟨_, rfl, .inl ⟨q3, _, 3, _, rfl, rfl, hq8, at_nat (by decide) z3, e3, _, y3, _, _, rfl, u3, w3, rfl, S.ok 3 (by decide), S3, .inl ⟨_, rfl⟩, ?_⟩⟩
    refine ⟨_, rfl, .inl ⟨q3, _, 4, _, rfl, rfl, hq8, at_nat (by decide) z4, e4, _, y4, _, _, rfl, u4, w4, rfl, S.ok 4 (by decide), S4, .inl ⟨_, rfl⟩, ?_⟩⟩
    refine ⟨_, rfl, .inl ⟨q3, _, 5, _, rfl, rfl, hq8, at_nat (by decide) z5, e5, _, y5, _, _, rfl, u5, w5, rfl, S.ok 5 (by decide), S5, .inl ⟨_, rfl⟩, ?_⟩⟩
    refine ⟨by show 6 ≤ sizeLine; decide, fun p9 H9 n9 => gn ?_⟩
    dsimp only
    refine ⟨_, rfl, _, rfl, _, rfl, _, rfl, _, rfl, _, rfl, _, rfl, by show 6 ≤ sizeLine; decide, fun p10 H10 n10 => ?_⟩
    have dl : ∀ p, H10 p = some (.lst [.str nm, .int i1, .str wy, .int i2, .int i3, .int i4]) → Den K H10 (.list [.str nm, .int i1, .str wy, .int i2, .int i3, .int i4]) (.ref p) := fun p hp => by
      refine Den.list (SqL.of hp) ?_
      simp only [Dens, Den]
      exact ⟨_, _, rfl, rfl, _, _, rfl, rfl, _, _, rfl, rfl, _, _, rfl, rfl, _, _, rfl, rfl, _, _, rfl, rfl, rfl⟩
    have hnm : PyData.canLay0 (.str nm) = true := canLay_small fun ch hc => by have := low ch hc; (first | lia | omega)
    have sh : SeqAt.shaped (.list [.str nm, .int i1, .str wy, .int i2, .int i3, .int i4]) = true := (Sh.list (n := 1) fun d hd => by
      simp only [List.mem_cons, List.not_mem_nil, or_false] at hd
      rcases hd with rfl | rfl | rfl | rfl | rfl | rfl
      · exact Sh.str hnm
      · exact Sh.int
      · exact Sh.str hwy
      · exact Sh.int
      · exact Sh.int
      · exact Sh.int).shaped (by decide)
    refine .inr ⟨_, _, dl p9 (n10.same _ _ n9.at), dl p10 n10.at, sh, sh, _, rfl, ?_⟩
    rw [eqv_refl _ (SeqAt.canLay_of_shaped sh)]
    refine iteF ?_
    have hS9 : SqL K H10 p9 [.str nm, .int i1, .str wy, .int i2, .int i3, .int i4] := SqL.of (n10.same _ _ n9.at)
    refine ⟨_, rfl, p9, rfl, ⟨_, hS9⟩, ?_⟩
    refine comp_go (N := 6) (fun k ys H' => H' = H10 ∧ ys = (List.replicate k false).map V.bl) ⟨rfl, rfl⟩ ?_ ?_
    · rintro k ys H' Nx hk ⟨rfl, rfl⟩ nx
      have hgt : ∃ (x : V) (d : PyData), ([.str nm, .int i1, .str wy, .int i2, .int i3, .int i4] : List V)[k]? = some x ∧ Den K H' d x ∧ isD d "bool" = false := by
        match k, hk with
        | 0, _ => exact ⟨_, .str nm, rfl, by unfold Den; rfl, rfl⟩
        | 1, _ => exact ⟨_, .int i1, rfl, by unfold Den; rfl, rfl⟩
        | 2, _ => exact ⟨_, .str wy, rfl, by unfold Den; rfl, rfl⟩
        | 3, _ => exact ⟨_, .int i2, rfl, by unfold Den; rfl, rfl⟩
        | 4, _ => exact ⟨_, .int i3, rfl, by unfold Den; rfl, rfl⟩
        | 5, _ => exact ⟨_, .int i4, rfl, by unfold Den; rfl, rfl⟩
        | n + 6, h => exact absurd h (by (first | lia | omega))
      obtain ⟨x, d, hx, hd, hb⟩ := hgt
      refine ⟨⟨_, _, hS9, hx⟩, Nat.lt_of_le_of_lt (show _ ≤ 1000 by rw [List.length_map, List.length_replicate]; (first | lia | omega)) (by decide), ?_⟩
      rintro x' H11 ⟨rfl, hy⟩
      have e := hy _ hS9
      rw [hx] at e; cases e
      refine gn ⟨_, rfl, .inl ⟨_, "bool", d, _, rfl, hd, (kitT K d).1, nx _ _ ⟨rfl, ?_⟩⟩⟩
      rw [hb, List.replicate_succ', List.map_append]
      rfl
    · rintro ys H' ⟨rfl, rfl⟩
      refine ⟨⟨_, hS9, by show 6 ≤ 6; decide⟩, fun p11 hp11 => ?_⟩
      obtain ⟨H12, n12⟩ : ∃ H12, New H' p11 (.lst ((List.replicate 6 false).map V.bl)) H12 := ⟨_, hp11, rfl⟩
      rw [← n12.eq]
      refine ⟨p11, _, rfl, SqL.of n12.at, _, rfl, iteF ?_⟩
      have smF : Same B5 H12 := sm8.trans (n9.same.trans (n10.same.trans n12.same))
      exact ⟨_, _, _, _, _, _, _, _, _, _, _, _, rfl, (stB.trans (Step.same stB.bx smF)).more (by (first | lia | omega))⟩
  · rintro σ H2 ⟨t2, x2, x3, x4, x5, x6, x7, x8, x9, x10, x11, x12, rfl, st2⟩
    exact q H2
end
end Z

namespace Z
open PySem L2
theorem lenZ {α : Type} {P : List α → Prop} (h : P []) : ∀ us : List α, us.length = 0 → P us := fun us e => List.eq_nil_of_length_eq_zero e ▸ h
theorem lenS {α : Type} {P : List α → Prop} {n : Nat} (h : ∀ a (us : List α), us.length = n → P (a :: us)) (us : List α) (e : us.length = n + 1) : P us := by
  cases us with | nil => cases e | cons a us => exact h a us (Nat.succ.inj e)
theorem all_mk {l : PySem.W.OpenLaw} {w : World} {K : PySem.W.Frag} {h : Heap} {mg : Str → Option Value} {fa f1 f2 f3 f4 f5 : Addr} (X : K.In h) (G : h.Ns mainGlobals mg) (hfa : mg "law" = some (.ref fa))
    {od1 an1 : Option Addr} {sl1 : Array (Option Value)} {oc1 kV1 dc1 pm1 cd1 ct1 : Value}
    {od2 an2 : Option Addr} {sl2 : Array (Option Value)} {oc2 kV2 dc2 pm2 cd2 ct2 : Value}
    {od3 an3 : Option Addr} {sl3 : Array (Option Value)} {oc3 kV3 dc3 pm3 cd3 ct3 : Value}
    {od4 an4 : Option Addr} {sl4 : Array (Option Value)} {oc4 kV4 dc4 pm4 cd4 ct4 : Value}
    {od5 an5 : Option Addr} {sl5 : Array (Option Value)} {oc5 kV5 dc5 pm5 cd5 ct5 : Value}
    {G_OddError : Addr}
    {G_NoName : Addr}
    {G_BadText : Addr}
    {G_NoForm : Addr}
    {G_TooFar : Addr}
    {G_NoTarget : Addr}
    {G_BadRow : Addr}
    {G_TooFull : Addr}
    {G_NoPlace : Addr}
    {N_OddError : Addr} {nm_OddError q_OddError : Str} {bs_OddError : List Value} {hd_OddError : Bool} {sn_OddError : List Str} {su_OddError : List Value} {ab_OddError : Bool} {co_OddError : Option Bool} {dd_OddError : Option Addr} {k0_OddError k1_OddError k2_OddError k3_OddError k5_OddError : Option Value}
    {N_NoName : Addr} {nm_NoName q_NoName : Str} {bs_NoName : List Value} {sn_NoName : List Str} {su_NoName : List Value} {ab_NoName : Bool} {co_NoName : Option Bool} {dd_NoName : Option Addr} {k0_NoName k1_NoName k2_NoName k3_NoName k5_NoName : Option Value}
    {f_NoName : Addr} {od_NoName an_NoName : Option Addr} {sl_NoName : Array (Option Value)} {kV_NoName dc_NoName pm_NoName cd_NoName ct_NoName : Value}
    {N_BadText : Addr} {nm_BadText q_BadText : Str} {bs_BadText : List Value} {sn_BadText : List Str} {su_BadText : List Value} {ab_BadText : Bool} {co_BadText : Option Bool} {dd_BadText : Option Addr} {k0_BadText k1_BadText k2_BadText k3_BadText k5_BadText : Option Value}
    {f_BadText : Addr} {od_BadText an_BadText : Option Addr} {sl_BadText : Array (Option Value)} {kV_BadText dc_BadText pm_BadText cd_BadText ct_BadText : Value}
    {N_NoForm : Addr} {nm_NoForm q_NoForm : Str} {bs_NoForm : List Value} {sn_NoForm : List Str} {su_NoForm : List Value} {ab_NoForm : Bool} {co_NoForm : Option Bool} {dd_NoForm : Option Addr} {k0_NoForm k1_NoForm k2_NoForm k3_NoForm k5_NoForm : Option Value}
    {f_NoForm : Addr} {od_NoForm an_NoForm : Option Addr} {sl_NoForm : Array (Option Value)} {kV_NoForm dc_NoForm pm_NoForm cd_NoForm ct_NoForm : Value}
    {N_TooFar : Addr} {nm_TooFar q_TooFar : Str} {bs_TooFar : List Value} {sn_TooFar : List Str} {su_TooFar : List Value} {ab_TooFar : Bool} {co_TooFar : Option Bool} {dd_TooFar : Option Addr} {k0_TooFar k1_TooFar k2_TooFar k3_TooFar k5_TooFar : Option Value}
    {f_TooFar : Addr} {od_TooFar an_TooFar : Option Addr} {sl_TooFar : Array (Option Value)} {kV_TooFar dc_TooFar pm_TooFar cd_TooFar ct_TooFar : Value}
    {N_NoTarget : Addr} {nm_NoTarget q_NoTarget : Str} {bs_NoTarget : List Value} {sn_NoTarget : List Str} {su_NoTarget : List Value} {ab_NoTarget : Bool} {co_NoTarget : Option Bool} {dd_NoTarget : Option Addr} {k0_NoTarget k1_NoTarget k2_NoTarget k3_NoTarget k5_NoTarget : Option Value}
    {f_NoTarget : Addr} {od_NoTarget an_NoTarget : Option Addr} {sl_NoTarget : Array (Option Value)} {kV_NoTarget dc_NoTarget pm_NoTarget cd_NoTarget ct_NoTarget : Value}
    {N_BadRow : Addr} {nm_BadRow q_BadRow : Str} {bs_BadRow : List Value} {sn_BadRow : List Str} {su_BadRow : List Value} {ab_BadRow : Bool} {co_BadRow : Option Bool} {dd_BadRow : Option Addr} {k0_BadRow k1_BadRow k2_BadRow k3_BadRow k5_BadRow : Option Value}
    {f_BadRow : Addr} {od_BadRow an_BadRow : Option Addr} {sl_BadRow : Array (Option Value)} {kV_BadRow dc_BadRow pm_BadRow cd_BadRow ct_BadRow : Value}
    {N_TooFull : Addr} {nm_TooFull q_TooFull : Str} {bs_TooFull : List Value} {hd_TooFull : Bool} {sn_TooFull : List Str} {su_TooFull : List Value} {ab_TooFull : Bool} {co_TooFull : Option Bool} {dd_TooFull : Option Addr} {k0_TooFull k1_TooFull k2_TooFull k3_TooFull k5_TooFull : Option Value}
    {N_NoPlace : Addr} {nm_NoPlace q_NoPlace : Str} {bs_NoPlace : List Value} {hd_NoPlace : Bool} {sn_NoPlace : List Str} {su_NoPlace : List Value} {ab_NoPlace : Bool} {co_NoPlace : Option Bool} {dd_NoPlace : Option Addr} {k0_NoPlace k1_NoPlace k2_NoPlace k3_NoPlace k5_NoPlace : Option Value}
    (a1 : PySem.W.nsIn K mainGlobals "_law_begin" = some (some (.ref f1))) (l1 : K.lookup f1 = some ⟨oc1, od1, .func (PySem.W.fnOf "_law_begin" "_law_begin" (defArgs (top i_law_begin)) (defBody (top i_law_begin)) (defScope (top i_law_begin)) .none kV1 dc1 pm1 an1 cd1 ct1), sl1⟩) (c1 : PySem.W.codeIn K cd1 "_law_begin" = true) (k1 : PySem.W.keepIn K (.ref f1) = true)
    (a2 : PySem.W.nsIn K mainGlobals "_law_take" = some (some (.ref f2))) (l2 : K.lookup f2 = some ⟨oc2, od2, .func (PySem.W.fnOf "_law_take" "_law_take" (defArgs (top i_law_take)) (defBody (top i_law_take)) (defScope (top i_law_take)) .none kV2 dc2 pm2 an2 cd2 ct2), sl2⟩) (c2 : PySem.W.codeIn K cd2 "_law_take" = true) (k2 : PySem.W.keepIn K (.ref f2) = true)
    (a3 : PySem.W.nsIn K mainGlobals "_law_word" = some (some (.ref f3))) (l3 : K.lookup f3 = some ⟨oc3, od3, .func (PySem.W.fnOf "_law_word" "_law_word" (defArgs (top i_law_word)) (defBody (top i_law_word)) (defScope (top i_law_word)) .none kV3 dc3 pm3 an3 cd3 ct3), sl3⟩) (c3 : PySem.W.codeIn K cd3 "_law_word" = true) (k3 : PySem.W.keepIn K (.ref f3) = true)
    (a4 : PySem.W.nsIn K mainGlobals "_law_kinds" = some (some (.ref f4))) (l4 : K.lookup f4 = some ⟨oc4, od4, .func (PySem.W.fnOf "_law_kinds" "_law_kinds" (defArgs (top i_law_kinds)) (defBody (top i_law_kinds)) (defScope (top i_law_kinds)) .none kV4 dc4 pm4 an4 cd4 ct4), sl4⟩) (c4 : PySem.W.codeIn K cd4 "_law_kinds" = true) (k4 : PySem.W.keepIn K (.ref f4) = true)
    (a5 : PySem.W.nsIn K mainGlobals "law" = some (some (.ref f5))) (l5 : K.lookup f5 = some ⟨oc5, od5, .func (PySem.W.fnOf "law" "law" (defArgs (top i_law)) (defBody (top i_law)) (defScope (top i_law)) .none kV5 dc5 pm5 an5 cd5 ct5), sl5⟩) (c5 : PySem.W.codeIn K cd5 "law" = true) (k5 : PySem.W.keepIn K (.ref f5) = true)
    (gn_OddError : PySem.W.nsIn K mainGlobals "OddError" = some (some (.ref G_OddError)))
    (gn_NoName : PySem.W.nsIn K mainGlobals "NoName" = some (some (.ref G_NoName)))
    (gn_BadText : PySem.W.nsIn K mainGlobals "BadText" = some (some (.ref G_BadText)))
    (gn_NoForm : PySem.W.nsIn K mainGlobals "NoForm" = some (some (.ref G_NoForm)))
    (gn_TooFar : PySem.W.nsIn K mainGlobals "TooFar" = some (some (.ref G_TooFar)))
    (gn_NoTarget : PySem.W.nsIn K mainGlobals "NoTarget" = some (some (.ref G_NoTarget)))
    (gn_BadRow : PySem.W.nsIn K mainGlobals "BadRow" = some (some (.ref G_BadRow)))
    (gn_TooFull : PySem.W.nsIn K mainGlobals "TooFull" = some (some (.ref G_TooFull)))
    (gn_NoPlace : PySem.W.nsIn K mainGlobals "NoPlace" = some (some (.ref G_NoPlace)))
    (kt0 : PySem.W.kitOne K (.ref G_NoName) (.ref G_NoName) = some true)
    (kt1 : PySem.W.kitOne K (.ref G_NoName) (.ref G_BadText) = some false)
    (kt2 : PySem.W.kitOne K (.ref G_NoName) (.ref G_NoForm) = some false)
    (kt3 : PySem.W.kitOne K (.ref G_NoName) (.ref G_TooFar) = some false)
    (kt4 : PySem.W.kitOne K (.ref G_NoName) (.ref G_NoTarget) = some false)
    (kt5 : PySem.W.kitOne K (.ref G_NoName) (.ref G_BadRow) = some false)
    (kt6 : PySem.W.kitOne K (.ref G_NoName) (.ref G_TooFull) = some false)
    (kt7 : PySem.W.kitOne K (.ref G_NoName) (.ref G_NoPlace) = some false)
    (kt8 : PySem.W.kitOne K (.ref G_BadText) (.ref G_NoName) = some false)
    (kt9 : PySem.W.kitOne K (.ref G_BadText) (.ref G_BadText) = some true)
    (kt10 : PySem.W.kitOne K (.ref G_BadText) (.ref G_NoForm) = some false)
    (kt11 : PySem.W.kitOne K (.ref G_BadText) (.ref G_TooFar) = some false)
    (kt12 : PySem.W.kitOne K (.ref G_BadText) (.ref G_NoTarget) = some false)
    (kt13 : PySem.W.kitOne K (.ref G_BadText) (.ref G_BadRow) = some false)
    (kt14 : PySem.W.kitOne K (.ref G_BadText) (.ref G_TooFull) = some false)
    (kt15 : PySem.W.kitOne K (.ref G_BadText) (.ref G_NoPlace) = some false)
    (kt16 : PySem.W.kitOne K (.ref G_NoForm) (.ref G_NoName) = some false)
    (kt17 : PySem.W.kitOne K (.ref G_NoForm) (.ref G_BadText) = some false)
    (kt18 : PySem.W.kitOne K (.ref G_NoForm) (.ref G_NoForm) = some true)
    (kt19 : PySem.W.kitOne K (.ref G_NoForm) (.ref G_TooFar) = some false)
    (kt20 : PySem.W.kitOne K (.ref G_NoForm) (.ref G_NoTarget) = some false)
    (kt21 : PySem.W.kitOne K (.ref G_NoForm) (.ref G_BadRow) = some false)
    (kt22 : PySem.W.kitOne K (.ref G_NoForm) (.ref G_TooFull) = some false)
    (kt23 : PySem.W.kitOne K (.ref G_NoForm) (.ref G_NoPlace) = some false)
    (kt24 : PySem.W.kitOne K (.ref G_TooFar) (.ref G_NoName) = some false)
    (kt25 : PySem.W.kitOne K (.ref G_TooFar) (.ref G_BadText) = some false)
    (kt26 : PySem.W.kitOne K (.ref G_TooFar) (.ref G_NoForm) = some false)
    (kt27 : PySem.W.kitOne K (.ref G_TooFar) (.ref G_TooFar) = some true)
    (kt28 : PySem.W.kitOne K (.ref G_TooFar) (.ref G_NoTarget) = some false)
    (kt29 : PySem.W.kitOne K (.ref G_TooFar) (.ref G_BadRow) = some false)
    (kt30 : PySem.W.kitOne K (.ref G_TooFar) (.ref G_TooFull) = some false)
    (kt31 : PySem.W.kitOne K (.ref G_TooFar) (.ref G_NoPlace) = some false)
    (kt32 : PySem.W.kitOne K (.ref G_NoTarget) (.ref G_NoName) = some false)
    (kt33 : PySem.W.kitOne K (.ref G_NoTarget) (.ref G_BadText) = some false)
    (kt34 : PySem.W.kitOne K (.ref G_NoTarget) (.ref G_NoForm) = some false)
    (kt35 : PySem.W.kitOne K (.ref G_NoTarget) (.ref G_TooFar) = some false)
    (kt36 : PySem.W.kitOne K (.ref G_NoTarget) (.ref G_NoTarget) = some true)
    (kt37 : PySem.W.kitOne K (.ref G_NoTarget) (.ref G_BadRow) = some false)
    (kt38 : PySem.W.kitOne K (.ref G_NoTarget) (.ref G_TooFull) = some false)
    (kt39 : PySem.W.kitOne K (.ref G_NoTarget) (.ref G_NoPlace) = some false)
    (kt40 : PySem.W.kitOne K (.ref G_BadRow) (.ref G_NoName) = some false)
    (kt41 : PySem.W.kitOne K (.ref G_BadRow) (.ref G_BadText) = some false)
    (kt42 : PySem.W.kitOne K (.ref G_BadRow) (.ref G_NoForm) = some false)
    (kt43 : PySem.W.kitOne K (.ref G_BadRow) (.ref G_TooFar) = some false)
    (kt44 : PySem.W.kitOne K (.ref G_BadRow) (.ref G_NoTarget) = some false)
    (kt45 : PySem.W.kitOne K (.ref G_BadRow) (.ref G_BadRow) = some true)
    (kt46 : PySem.W.kitOne K (.ref G_BadRow) (.ref G_TooFull) = some false)
    (kt47 : PySem.W.kitOne K (.ref G_BadRow) (.ref G_NoPlace) = some false)
    (kt48 : PySem.W.kitOne K (.ref G_TooFull) (.ref G_NoName) = some false)
    (kt49 : PySem.W.kitOne K (.ref G_TooFull) (.ref G_BadText) = some false)
    (kt50 : PySem.W.kitOne K (.ref G_TooFull) (.ref G_NoForm) = some false)
    (kt51 : PySem.W.kitOne K (.ref G_TooFull) (.ref G_TooFar) = some false)
    (kt52 : PySem.W.kitOne K (.ref G_TooFull) (.ref G_NoTarget) = some false)
    (kt53 : PySem.W.kitOne K (.ref G_TooFull) (.ref G_BadRow) = some false)
    (kt54 : PySem.W.kitOne K (.ref G_TooFull) (.ref G_TooFull) = some true)
    (kt55 : PySem.W.kitOne K (.ref G_TooFull) (.ref G_NoPlace) = some false)
    (kt56 : PySem.W.kitOne K (.ref G_NoPlace) (.ref G_NoName) = some false)
    (kt57 : PySem.W.kitOne K (.ref G_NoPlace) (.ref G_BadText) = some false)
    (kt58 : PySem.W.kitOne K (.ref G_NoPlace) (.ref G_NoForm) = some false)
    (kt59 : PySem.W.kitOne K (.ref G_NoPlace) (.ref G_TooFar) = some false)
    (kt60 : PySem.W.kitOne K (.ref G_NoPlace) (.ref G_NoTarget) = some false)
    (kt61 : PySem.W.kitOne K (.ref G_NoPlace) (.ref G_BadRow) = some false)
    (kt62 : PySem.W.kitOne K (.ref G_NoPlace) (.ref G_TooFull) = some false)
    (kt63 : PySem.W.kitOne K (.ref G_NoPlace) (.ref G_NoPlace) = some true)
    (kt64 : PySem.W.kitOne K (.ref G_NoName) (.ref G_OddError) = some true)
    (kt65 : PySem.W.kitOne K (.ref G_BadText) (.ref G_OddError) = some true)
    (kt66 : PySem.W.kitOne K (.ref G_NoForm) (.ref G_OddError) = some true)
    (kt67 : PySem.W.kitOne K (.ref G_TooFar) (.ref G_OddError) = some true)
    (kt68 : PySem.W.kitOne K (.ref G_NoTarget) (.ref G_OddError) = some true)
    (kt69 : PySem.W.kitOne K (.ref G_BadRow) (.ref G_OddError) = some true)
    (kt70 : PySem.W.kitOne K (.ref G_TooFull) (.ref G_OddError) = some true)
    (kt71 : PySem.W.kitOne K (.ref G_NoPlace) (.ref G_OddError) = some true)
    (kt72 : PySem.W.kitOne K (.ref G_NoName) (.type "ValueError") = some true)
    (kt73 : PySem.W.kitOne K (.ref G_BadText) (.type "ValueError") = some true)
    (kt74 : PySem.W.kitOne K (.ref G_NoForm) (.type "ValueError") = some true)
    (kt75 : PySem.W.kitOne K (.ref G_TooFar) (.type "ValueError") = some true)
    (kt76 : PySem.W.kitOne K (.ref G_NoTarget) (.type "ValueError") = some true)
    (kt77 : PySem.W.kitOne K (.ref G_BadRow) (.type "ValueError") = some true)
    (kt78 : PySem.W.kitOne K (.ref G_TooFull) (.type "ValueError") = some true)
    (kt79 : PySem.W.kitOne K (.ref G_NoPlace) (.type "ValueError") = some true)
    (xo0 : ExcOk K G_NoName)
    (xo1 : ExcOk K G_BadText)
    (xo2 : ExcOk K G_NoForm)
    (xo3 : ExcOk K G_TooFar)
    (xo4 : ExcOk K G_NoTarget)
    (xo5 : ExcOk K G_BadRow)
    (xo6 : ExcOk K G_TooFull)
    (xo7 : ExcOk K G_NoPlace)
    (lOddError : K.lookup G_OddError = some (excClassObj nm_OddError q_OddError G_OddError N_OddError bs_OddError ([.type "ValueError", .type "Exception", .type "BaseException", .type "object"]) hd_OddError sn_OddError su_OddError ab_OddError co_OddError dd_OddError k0_OddError k1_OddError k2_OddError k3_OddError k5_OddError "ValueError.__new__"))
    (xOddError : PySem.W.excIn K G_OddError [.type "ValueError", .type "Exception", .type "BaseException", .type "object"] "ValueError.__new__" = true)
    (lNoName : K.lookup G_NoName = some (excClassObj nm_NoName q_NoName G_NoName N_NoName bs_NoName (.ref G_OddError :: [.type "ValueError", .type "Exception", .type "BaseException", .type "object"]) true sn_NoName su_NoName ab_NoName co_NoName dd_NoName k0_NoName k1_NoName k2_NoName k3_NoName k5_NoName "ValueError.__new__"))
    (kpNoName : PySem.W.keepIn K (.ref G_NoName) = true)
    (iniNoName : PySem.W.findIn K (.ref G_NoName) "__init__" = some (some (.ref f_NoName)))
    (lfNoName : K.lookup f_NoName = some ⟨.type "function", od_NoName, .func (PySem.W.fnOf "__init__" "NoName.__init__" (defArgs (inClass (top i_NoName) 0)) (defBody (inClass (top i_NoName) 0)) (defScope (inClass (top i_NoName) 0)) .none kV_NoName dc_NoName pm_NoName an_NoName cd_NoName ct_NoName), sl_NoName⟩)
    (cfNoName : PySem.W.codeIn K cd_NoName "NoName.__init__" = true)
    (kfNoName : PySem.W.keepIn K (.ref f_NoName) = true)
    (saNoName : PySem.W.findIn K (.ref G_NoName) "__setattr__" = some (some (.builtin "object.__setattr__")))
    (naNoName : PySem.W.findIn K (.ref G_NoName) "name" = some none)
    (moNoName : PySem.W.mroIn K G_NoName (.type "object") = some true)
    (lBadText : K.lookup G_BadText = some (excClassObj nm_BadText q_BadText G_BadText N_BadText bs_BadText (.ref G_OddError :: [.type "ValueError", .type "Exception", .type "BaseException", .type "object"]) true sn_BadText su_BadText ab_BadText co_BadText dd_BadText k0_BadText k1_BadText k2_BadText k3_BadText k5_BadText "ValueError.__new__"))
    (kpBadText : PySem.W.keepIn K (.ref G_BadText) = true)
    (iniBadText : PySem.W.findIn K (.ref G_BadText) "__init__" = some (some (.ref f_BadText)))
    (lfBadText : K.lookup f_BadText = some ⟨.type "function", od_BadText, .func (PySem.W.fnOf "__init__" "BadText.__init__" (defArgs (inClass (top i_BadText) 0)) (defBody (inClass (top i_BadText) 0)) (defScope (inClass (top i_BadText) 0)) .none kV_BadText dc_BadText pm_BadText an_BadText cd_BadText ct_BadText), sl_BadText⟩)
    (cfBadText : PySem.W.codeIn K cd_BadText "BadText.__init__" = true)
    (kfBadText : PySem.W.keepIn K (.ref f_BadText) = true)
    (saBadText : PySem.W.findIn K (.ref G_BadText) "__setattr__" = some (some (.builtin "object.__setattr__")))
    (naBadText : PySem.W.findIn K (.ref G_BadText) "place" = some none)
    (moBadText : PySem.W.mroIn K G_BadText (.type "object") = some true)
    (lNoForm : K.lookup G_NoForm = some (excClassObj nm_NoForm q_NoForm G_NoForm N_NoForm bs_NoForm (.ref G_OddError :: [.type "ValueError", .type "Exception", .type "BaseException", .type "object"]) true sn_NoForm su_NoForm ab_NoForm co_NoForm dd_NoForm k0_NoForm k1_NoForm k2_NoForm k3_NoForm k5_NoForm "ValueError.__new__"))
    (kpNoForm : PySem.W.keepIn K (.ref G_NoForm) = true)
    (iniNoForm : PySem.W.findIn K (.ref G_NoForm) "__init__" = some (some (.ref f_NoForm)))
    (lfNoForm : K.lookup f_NoForm = some ⟨.type "function", od_NoForm, .func (PySem.W.fnOf "__init__" "NoForm.__init__" (defArgs (inClass (top i_NoForm) 0)) (defBody (inClass (top i_NoForm) 0)) (defScope (inClass (top i_NoForm) 0)) .none kV_NoForm dc_NoForm pm_NoForm an_NoForm cd_NoForm ct_NoForm), sl_NoForm⟩)
    (cfNoForm : PySem.W.codeIn K cd_NoForm "NoForm.__init__" = true)
    (kfNoForm : PySem.W.keepIn K (.ref f_NoForm) = true)
    (saNoForm : PySem.W.findIn K (.ref G_NoForm) "__setattr__" = some (some (.builtin "object.__setattr__")))
    (naNoForm : PySem.W.findIn K (.ref G_NoForm) "why" = some none)
    (moNoForm : PySem.W.mroIn K G_NoForm (.type "object") = some true)
    (lTooFar : K.lookup G_TooFar = some (excClassObj nm_TooFar q_TooFar G_TooFar N_TooFar bs_TooFar (.ref G_OddError :: [.type "ValueError", .type "Exception", .type "BaseException", .type "object"]) true sn_TooFar su_TooFar ab_TooFar co_TooFar dd_TooFar k0_TooFar k1_TooFar k2_TooFar k3_TooFar k5_TooFar "ValueError.__new__"))
    (kpTooFar : PySem.W.keepIn K (.ref G_TooFar) = true)
    (iniTooFar : PySem.W.findIn K (.ref G_TooFar) "__init__" = some (some (.ref f_TooFar)))
    (lfTooFar : K.lookup f_TooFar = some ⟨.type "function", od_TooFar, .func (PySem.W.fnOf "__init__" "TooFar.__init__" (defArgs (inClass (top i_TooFar) 0)) (defBody (inClass (top i_TooFar) 0)) (defScope (inClass (top i_TooFar) 0)) .none kV_TooFar dc_TooFar pm_TooFar an_TooFar cd_TooFar ct_TooFar), sl_TooFar⟩)
    (cfTooFar : PySem.W.codeIn K cd_TooFar "TooFar.__init__" = true)
    (kfTooFar : PySem.W.keepIn K (.ref f_TooFar) = true)
    (saTooFar : PySem.W.findIn K (.ref G_TooFar) "__setattr__" = some (some (.builtin "object.__setattr__")))
    (naTooFar : PySem.W.findIn K (.ref G_TooFar) "row" = some none)
    (moTooFar : PySem.W.mroIn K G_TooFar (.type "object") = some true)
    (lNoTarget : K.lookup G_NoTarget = some (excClassObj nm_NoTarget q_NoTarget G_NoTarget N_NoTarget bs_NoTarget (.ref G_OddError :: [.type "ValueError", .type "Exception", .type "BaseException", .type "object"]) true sn_NoTarget su_NoTarget ab_NoTarget co_NoTarget dd_NoTarget k0_NoTarget k1_NoTarget k2_NoTarget k3_NoTarget k5_NoTarget "ValueError.__new__"))
    (kpNoTarget : PySem.W.keepIn K (.ref G_NoTarget) = true)
    (iniNoTarget : PySem.W.findIn K (.ref G_NoTarget) "__init__" = some (some (.ref f_NoTarget)))
    (lfNoTarget : K.lookup f_NoTarget = some ⟨.type "function", od_NoTarget, .func (PySem.W.fnOf "__init__" "NoTarget.__init__" (defArgs (inClass (top i_NoTarget) 0)) (defBody (inClass (top i_NoTarget) 0)) (defScope (inClass (top i_NoTarget) 0)) .none kV_NoTarget dc_NoTarget pm_NoTarget an_NoTarget cd_NoTarget ct_NoTarget), sl_NoTarget⟩)
    (cfNoTarget : PySem.W.codeIn K cd_NoTarget "NoTarget.__init__" = true)
    (kfNoTarget : PySem.W.keepIn K (.ref f_NoTarget) = true)
    (saNoTarget : PySem.W.findIn K (.ref G_NoTarget) "__setattr__" = some (some (.builtin "object.__setattr__")))
    (naNoTarget : PySem.W.findIn K (.ref G_NoTarget) "place" = some none)
    (moNoTarget : PySem.W.mroIn K G_NoTarget (.type "object") = some true)
    (lBadRow : K.lookup G_BadRow = some (excClassObj nm_BadRow q_BadRow G_BadRow N_BadRow bs_BadRow (.ref G_OddError :: [.type "ValueError", .type "Exception", .type "BaseException", .type "object"]) true sn_BadRow su_BadRow ab_BadRow co_BadRow dd_BadRow k0_BadRow k1_BadRow k2_BadRow k3_BadRow k5_BadRow "ValueError.__new__"))
    (kpBadRow : PySem.W.keepIn K (.ref G_BadRow) = true)
    (iniBadRow : PySem.W.findIn K (.ref G_BadRow) "__init__" = some (some (.ref f_BadRow)))
    (lfBadRow : K.lookup f_BadRow = some ⟨.type "function", od_BadRow, .func (PySem.W.fnOf "__init__" "BadRow.__init__" (defArgs (inClass (top i_BadRow) 0)) (defBody (inClass (top i_BadRow) 0)) (defScope (inClass (top i_BadRow) 0)) .none kV_BadRow dc_BadRow pm_BadRow an_BadRow cd_BadRow ct_BadRow), sl_BadRow⟩)
    (cfBadRow : PySem.W.codeIn K cd_BadRow "BadRow.__init__" = true)
    (kfBadRow : PySem.W.keepIn K (.ref f_BadRow) = true)
    (saBadRow : PySem.W.findIn K (.ref G_BadRow) "__setattr__" = some (some (.builtin "object.__setattr__")))
    (naBadRow : PySem.W.findIn K (.ref G_BadRow) "row" = some none)
    (moBadRow : PySem.W.mroIn K G_BadRow (.type "object") = some true)
    (lTooFull : K.lookup G_TooFull = some (excClassObj nm_TooFull q_TooFull G_TooFull N_TooFull bs_TooFull (.ref G_OddError :: [.type "ValueError", .type "Exception", .type "BaseException", .type "object"]) hd_TooFull sn_TooFull su_TooFull ab_TooFull co_TooFull dd_TooFull k0_TooFull k1_TooFull k2_TooFull k3_TooFull k5_TooFull "ValueError.__new__"))
    (kpTooFull : PySem.W.keepIn K (.ref G_TooFull) = true)
    (xTooFull : PySem.W.excIn K G_TooFull [.type "ValueError", .type "Exception", .type "BaseException", .type "object"] "ValueError.__new__" = true)
    (lNoPlace : K.lookup G_NoPlace = some (excClassObj nm_NoPlace q_NoPlace G_NoPlace N_NoPlace bs_NoPlace (.ref G_OddError :: [.type "ValueError", .type "Exception", .type "BaseException", .type "object"]) hd_NoPlace sn_NoPlace su_NoPlace ab_NoPlace co_NoPlace dd_NoPlace k0_NoPlace k1_NoPlace k2_NoPlace k3_NoPlace k5_NoPlace "ValueError.__new__"))
    (kpNoPlace : PySem.W.keepIn K (.ref G_NoPlace) = true)
    (xNoPlace : PySem.W.excIn K G_NoPlace [.type "ValueError", .type "Exception", .type "BaseException", .type "object"] "ValueError.__new__" = true)
    (y0 : PySem.W.nsIn K mainGlobals "ValueError" = some none)
    (z0 : PySem.W.nsIn K mainGlobals "len" = some none) (z1 : PySem.W.nsIn K mainGlobals "range" = some none) (z2 : PySem.W.nsIn K mainGlobals "max" = some none) (z3 : PySem.W.nsIn K mainGlobals "min" = some none) (z4 : PySem.W.nsIn K mainGlobals "sum" = some none) (z5 : PySem.W.nsIn K mainGlobals "all" = some none) (z6 : PySem.W.nsIn K mainGlobals "any" = some none) (z7 : PySem.W.nsIn K mainGlobals "list" = some none) (z8 : PySem.W.nsIn K mainGlobals "tuple" = some none) (z9 : PySem.W.nsIn K mainGlobals "int" = some none) (z10 : PySem.W.nsIn K mainGlobals "str" = some none) (z11 : PySem.W.nsIn K mainGlobals "bool" = some none) (z12 : PySem.W.nsIn K mainGlobals "zip" = some none) (z13 : PySem.W.nsIn K mainGlobals "enumerate" = some none) (z14 : PySem.W.nsIn K mainGlobals "isinstance" = some none) (z15 : PySem.W.nsIn K mainGlobals "divmod" = some none) :
    ∃ fd : FuncData, (∀ (s : Shared) (v : Value), BindsTo s fd ⟨[v], []⟩ [("_law_script", v)]) ∧ ∀ base : Heap, K.In base → base.Ns mainGlobals mg → FnOk l.prog w K mg base CX0 4 fa fd ["_law_script"] (spLaw K) := by
  have e := hfa.symm.trans (PySem.W.mg_of X G a5)
  cases e
  have T : Nm mg := ⟨PySem.W.mg_none_of X G z0, PySem.W.mg_none_of X G z1, PySem.W.mg_none_of X G z2, PySem.W.mg_none_of X G z3, PySem.W.mg_none_of X G z4, PySem.W.mg_none_of X G z5, PySem.W.mg_none_of X G z6, PySem.W.mg_none_of X G z7, PySem.W.mg_none_of X G z8, PySem.W.mg_none_of X G z9, PySem.W.mg_none_of X G z10, PySem.W.mg_none_of X G z11, PySem.W.mg_none_of X G z12, PySem.W.mg_none_of X G z13, PySem.W.mg_none_of X G z14, PySem.W.mg_none_of X G z15⟩
  have n_ValueError := PySem.W.mg_none_of X G y0
  let cs : Nat → Addr := fun i => [G_NoName, G_BadText, G_NoForm, G_TooFar, G_NoTarget, G_BadRow, G_TooFull, G_NoPlace].getD i 0
  have S_NoName : ExcSt K G_NoName "name" := excSt_mk lNoName saNoName naNoName moNoName
  have M_NoName : XMk K G_NoName f_NoName := ⟨⟨_, _, _, _, _, _, _, _, _, _, _, _, _, _, _, _, lNoName, own_tail lOddError xOddError⟩, iniNoName, ⟨_, lfNoName, rfl⟩, kpNoName⟩
  have FF_NoName := fun_mk (st := inClass (top i_NoName) 0) lfNoName cfNoName kfNoName
  have b_NoName := FF_NoName.binds (ps := ["self", "name"]) fun _ _ _ _ _ _ => lenS fun _ => lenS fun _ => lenZ rfl
  have S_BadText : ExcSt K G_BadText "place" := excSt_mk lBadText saBadText naBadText moBadText
  have M_BadText : XMk K G_BadText f_BadText := ⟨⟨_, _, _, _, _, _, _, _, _, _, _, _, _, _, _, _, lBadText, own_tail lOddError xOddError⟩, iniBadText, ⟨_, lfBadText, rfl⟩, kpBadText⟩
  have FF_BadText := fun_mk (st := inClass (top i_BadText) 0) lfBadText cfBadText kfBadText
  have b_BadText := FF_BadText.binds (ps := ["self", "place"]) fun _ _ _ _ _ _ => lenS fun _ => lenS fun _ => lenZ rfl
  have S_NoForm : ExcSt K G_NoForm "why" := excSt_mk lNoForm saNoForm naNoForm moNoForm
  have M_NoForm : XMk K G_NoForm f_NoForm := ⟨⟨_, _, _, _, _, _, _, _, _, _, _, _, _, _, _, _, lNoForm, own_tail lOddError xOddError⟩, iniNoForm, ⟨_, lfNoForm, rfl⟩, kpNoForm⟩
  have FF_NoForm := fun_mk (st := inClass (top i_NoForm) 0) lfNoForm cfNoForm kfNoForm
  have b_NoForm := FF_NoForm.binds (ps := ["self", "why"]) fun _ _ _ _ _ _ => lenS fun _ => lenS fun _ => lenZ rfl
  have S_TooFar : ExcSt K G_TooFar "row" := excSt_mk lTooFar saTooFar naTooFar moTooFar
  have M_TooFar : XMk K G_TooFar f_TooFar := ⟨⟨_, _, _, _, _, _, _, _, _, _, _, _, _, _, _, _, lTooFar, own_tail lOddError xOddError⟩, iniTooFar, ⟨_, lfTooFar, rfl⟩, kpTooFar⟩
  have FF_TooFar := fun_mk (st := inClass (top i_TooFar) 0) lfTooFar cfTooFar kfTooFar
  have b_TooFar := FF_TooFar.binds (ps := ["self", "row"]) fun _ _ _ _ _ _ => lenS fun _ => lenS fun _ => lenZ rfl
  have S_NoTarget : ExcSt K G_NoTarget "place" := excSt_mk lNoTarget saNoTarget naNoTarget moNoTarget
  have M_NoTarget : XMk K G_NoTarget f_NoTarget := ⟨⟨_, _, _, _, _, _, _, _, _, _, _, _, _, _, _, _, lNoTarget, own_tail lOddError xOddError⟩, iniNoTarget, ⟨_, lfNoTarget, rfl⟩, kpNoTarget⟩
  have FF_NoTarget := fun_mk (st := inClass (top i_NoTarget) 0) lfNoTarget cfNoTarget kfNoTarget
  have b_NoTarget := FF_NoTarget.binds (ps := ["self", "place"]) fun _ _ _ _ _ _ => lenS fun _ => lenS fun _ => lenZ rfl
  have S_BadRow : ExcSt K G_BadRow "row" := excSt_mk lBadRow saBadRow naBadRow moBadRow
  have M_BadRow : XMk K G_BadRow f_BadRow := ⟨⟨_, _, _, _, _, _, _, _, _, _, _, _, _, _, _, _, lBadRow, own_tail lOddError xOddError⟩, iniBadRow, ⟨_, lfBadRow, rfl⟩, kpBadRow⟩
  have FF_BadRow := fun_mk (st := inClass (top i_BadRow) 0) lfBadRow cfBadRow kfBadRow
  have b_BadRow := FF_BadRow.binds (ps := ["self", "row"]) fun _ _ _ _ _ _ => lenS fun _ => lenS fun _ => lenZ rfl
  have M_TooFull : XMk0 K G_TooFull := ⟨⟨_, _, _, _, _, _, _, _, _, _, _, _, _, _, _, _, lTooFull, own_tail lOddError xOddError, own_ns lTooFull xTooFull⟩, kpTooFull⟩
  have M_NoPlace : XMk0 K G_NoPlace := ⟨⟨_, _, _, _, _, _, _, _, _, _, _, _, _, _, _, _, lNoPlace, own_tail lOddError xOddError, own_ns lNoPlace xNoPlace⟩, kpNoPlace⟩
  have S87 : Cs87 K cs G_OddError := ⟨fun i j hi hj => (match i, hi with | 0, _ => (match j, hj with | 0, _ => kt0 | 1, _ => kt1 | 2, _ => kt2 | 3, _ => kt3 | 4, _ => kt4 | 5, _ => kt5 | 6, _ => kt6 | 7, _ => kt7 | n + 8, h => absurd h (by (first | lia | omega))) | 1, _ => (match j, hj with | 0, _ => kt8 | 1, _ => kt9 | 2, _ => kt10 | 3, _ => kt11 | 4, _ => kt12 | 5, _ => kt13 | 6, _ => kt14 | 7, _ => kt15 | n + 8, h => absurd h (by (first | lia | omega))) | 2, _ => (match j, hj with | 0, _ => kt16 | 1, _ => kt17 | 2, _ => kt18 | 3, _ => kt19 | 4, _ => kt20 | 5, _ => kt21 | 6, _ => kt22 | 7, _ => kt23 | n + 8, h => absurd h (by (first | lia | omega))) | 3, _ => (match j, hj with | 0, _ => kt24 | 1, _ => kt25 | 2, _ => kt26 | 3, _ => kt27 | 4, _ => kt28 | 5, _ => kt29 | 6, _ => kt30 | 7, _ => kt31 | n + 8, h => absurd h (by (first | lia | omega))) | 4, _ => (match j, hj with | 0, _ => kt32 | 1, _ => kt33 | 2, _ => kt34 | 3, _ => kt35 | 4, _ => kt36 | 5, _ => kt37 | 6, _ => kt38 | 7, _ => kt39 | n + 8, h => absurd h (by (first | lia | omega))) | 5, _ => (match j, hj with | 0, _ => kt40 | 1, _ => kt41 | 2, _ => kt42 | 3, _ => kt43 | 4, _ => kt44 | 5, _ => kt45 | 6, _ => kt46 | 7, _ => kt47 | n + 8, h => absurd h (by (first | lia | omega))) | 6, _ => (match j, hj with | 0, _ => kt48 | 1, _ => kt49 | 2, _ => kt50 | 3, _ => kt51 | 4, _ => kt52 | 5, _ => kt53 | 6, _ => kt54 | 7, _ => kt55 | n + 8, h => absurd h (by (first | lia | omega))) | 7, _ => (match j, hj with | 0, _ => kt56 | 1, _ => kt57 | 2, _ => kt58 | 3, _ => kt59 | 4, _ => kt60 | 5, _ => kt61 | 6, _ => kt62 | 7, _ => kt63 | n + 8, h => absurd h (by (first | lia | omega))) | n + 8, h => absurd h (by (first | lia | omega))), fun i hi => (match i, hi with | 0, _ => kt64 | 1, _ => kt65 | 2, _ => kt66 | 3, _ => kt67 | 4, _ => kt68 | 5, _ => kt69 | 6, _ => kt70 | 7, _ => kt71 | n + 8, h => absurd h (by (first | lia | omega))), fun i hi => (match i, hi with | 0, _ => kt72 | 1, _ => kt73 | 2, _ => kt74 | 3, _ => kt75 | 4, _ => kt76 | 5, _ => kt77 | 6, _ => kt78 | 7, _ => kt79 | n + 8, h => absurd h (by (first | lia | omega))), fun i hi => (match i, hi with | 0, _ => xo0 | 1, _ => xo1 | 2, _ => xo2 | 3, _ => xo3 | 4, _ => xo4 | 5, _ => xo5 | 6, _ => xo6 | 7, _ => xo7 | n + 8, h => absurd h (by (first | lia | omega)))⟩
  have g_OddError := PySem.W.mg_of X G gn_OddError
  have g_NoName := PySem.W.mg_of X G gn_NoName
  have g_BadText := PySem.W.mg_of X G gn_BadText
  have g_NoForm := PySem.W.mg_of X G gn_NoForm
  have g_TooFar := PySem.W.mg_of X G gn_TooFar
  have g_NoTarget := PySem.W.mg_of X G gn_NoTarget
  have g_BadRow := PySem.W.mg_of X G gn_BadRow
  have g_TooFull := PySem.W.mg_of X G gn_TooFull
  have g_NoPlace := PySem.W.mg_of X G gn_NoPlace
  have F1 := fun_mk (st := top i_law_begin) l1 c1 k1
  have b1 := F1.binds (ps := ["_law_script"]) fun _ _ _ _ _ _ => lenS fun _ => lenZ rfl
  have F2 := fun_mk (st := top i_law_take) l2 c2 k2
  have b2 := F2.binds (ps := ["_law_state", "_law_many"]) fun _ _ _ _ _ _ => lenS fun _ => lenS fun _ => lenZ rfl
  have F3 := fun_mk (st := top i_law_word) l3 c3 k3
  have b3 := F3.binds (ps := ["_law_state", "_law_most"]) fun _ _ _ _ _ _ => lenS fun _ => lenS fun _ => lenZ rfl
  have F4 := fun_mk (st := top i_law_kinds) l4 c4 k4
  have b4 := F4.binds (ps := ["_law_error"]) fun _ _ _ _ _ _ => lenS fun _ => lenZ rfl
  have F5 := fun_mk (st := top i_law) l5 c5 k5
  refine ⟨PySem.W.fnOf "law" "law" (defArgs (top i_law)) (defBody (top i_law)) (defScope (top i_law)) .none kV5 dc5 pm5 an5 cd5 ct5, fun s v => .of_eq rfl, fun base hB hG => ?_⟩
  have F_NoName := ok_ini_NoName (P := l.prog) (w := w) (mg := mg) (base := base) FF_NoName S_NoName
  have F_BadText := ok_ini_BadText (P := l.prog) (w := w) (mg := mg) (base := base) FF_BadText S_BadText
  have F_NoForm := ok_ini_NoForm (P := l.prog) (w := w) (mg := mg) (base := base) FF_NoForm S_NoForm
  have F_TooFar := ok_ini_TooFar (P := l.prog) (w := w) (mg := mg) (base := base) FF_TooFar S_TooFar
  have F_NoTarget := ok_ini_NoTarget (P := l.prog) (w := w) (mg := mg) (base := base) FF_NoTarget S_NoTarget
  have F_BadRow := ok_ini_BadRow (P := l.prog) (w := w) (mg := mg) (base := base) FF_BadRow S_BadRow
  have fBegin : Fn l.prog w K mg base 1 "_law_begin" ["_law_script"] (spBegin K) := ⟨f1, _, ok_begin F1 T, b1, k1, PySem.W.mg_of X G a1⟩
  have fTake : Fn l.prog w K mg base 1 "_law_take" ["_law_state", "_law_many"] (spTake) := ⟨f2, _, ok_take F2 T, b2, k2, PySem.W.mg_of X G a2⟩
  have fTk : Fn l.prog w K mg base 1 "_law_take" ["_law_state", "_law_many"] (spTk) := Fn.imp fTake (fun _ _ _ _ h => spTk_of h)
  have fWord : Fn l.prog w K mg base 2 "_law_word" ["_law_state", "_law_most"] (spWord) := ⟨f3, _, ok_word F3 T fTk, b3, k3, PySem.W.mg_of X G a3⟩
  have fKinds : Fn l.prog w K mg base 1 "_law_kinds" ["_law_error"] (spKinds cs) := ⟨f4, _, ok_kinds F4 T S87 g_NoName g_BadText g_NoForm g_TooFar g_NoTarget g_BadRow g_TooFull g_NoPlace, b4, k4, PySem.W.mg_of X G a4⟩
  exact ok_law F5 T n_ValueError S87 g_OddError g_NoName g_BadText g_NoForm g_TooFar g_NoTarget g_BadRow g_TooFull g_NoPlace M_NoName M_BadText M_NoForm M_TooFar M_NoTarget M_BadRow M_TooFull M_NoPlace F_NoName F_BadText F_NoForm F_TooFar F_NoTarget F_BadRow b_NoName b_BadText b_NoForm b_TooFar b_NoTarget b_BadRow S_NoName S_BadText S_NoForm S_TooFar S_NoTarget S_BadRow fBegin fWord fTk fKinds
theorem walk {l : PySem.W.OpenLaw} {q : Program} {loose : List Str} {XP : (Str → Option Value) → Heap → Prop} {YP : World → Heap → Prop} {d : DefRec} {K : Params → PySem.W.Frag} (hn : l.most = some 63) (hdf : d.params.defaults = [])
    (hY : ∀ (w : World) (h : Heap), YP w h → (K w.params).In h)
    (F : ∀ (w : World) (mg : Str → Option Value) (fa : Addr) (h : Heap), (K w.params).In h → h.Ns mainGlobals mg → mg d.name = some (.ref fa) →
      ∃ fd : FuncData, (∀ (s : Shared) (u : Value), BindsTo s fd ⟨[u], []⟩ [("_law_script", u)]) ∧ ∀ base : Heap, (K w.params).In base → base.Ns mainGlobals mg → FnOk l.prog w (K w.params) mg base CX0 4 fa fd ["_law_script"] (spLaw (K w.params))) :
    PySem.W.WalkO q loose XP YP l.row.toRowW d [] (fun f vs => PySem.call f vs) :=
  L2.walk_of (n := 63) (k := 4) (x := "_law_script") (CX := fun _ => CX0) (sp := fun w => spLaw (K w.params)) hn (by decide) hdf ⟨rfl, by decide, by decide, rfl⟩ hY F (fun _ _ a ns hl _ hS => ⟨a, ns, rfl, hS, hl, fun _ => rfl⟩) fun _ _ _ _ _ z => z
end Z
open PySem PySem.W PyProof.Rows L2
set_option maxRecDepth 100000 in
set_option maxHeartbeats 0 in
theorem PySem.Challenge.cw_oddlong_k87_refusals_made_holds : PySem.Challenge.rw_oddlong_k87_refusals_made.Holds := by
  w_on; o_law; k_head; (case hw => w_witness2)
  k_fill
  refine Z.walk (l := PySem.Challenge.rw_oddlong_k87_refusals_made) rfl rfl (fun w h Y => PySem.W.kIn_of Y) ?F
  case F =>
    intro w mg fa h KX G hmg
    refine' Z.all_mk KX G hmg ?a1 ?l1 ?c1 ?k1 ?a2 ?l2 ?c2 ?k2 ?a3 ?l3 ?c3 ?k3 ?a4 ?l4 ?c4 ?k4 ?a5 ?l5 ?c5 ?k5 ?gn_OddError ?gn_NoName ?gn_BadText ?gn_NoForm ?gn_TooFar ?gn_NoTarget ?gn_BadRow ?gn_TooFull ?gn_NoPlace ?kt0 ?kt1 ?kt2 ?kt3 ?kt4 ?kt5 ?kt6 ?kt7 ?kt8 ?kt9 ?kt10 ?kt11 ?kt12 ?kt13 ?kt14 ?kt15 ?kt16 ?kt17 ?kt18 ?kt19 ?kt20 ?kt21 ?kt22 ?kt23 ?kt24 ?kt25 ?kt26 ?kt27 ?kt28 ?kt29 ?kt30 ?kt31 ?kt32 ?kt33 ?kt34 ?kt35 ?kt36 ?kt37 ?kt38 ?kt39 ?kt40 ?kt41 ?kt42 ?kt43 ?kt44 ?kt45 ?kt46 ?kt47 ?kt48 ?kt49 ?kt50 ?kt51 ?kt52 ?kt53 ?kt54 ?kt55 ?kt56 ?kt57 ?kt58 ?kt59 ?kt60 ?kt61 ?kt62 ?kt63 ?kt64 ?kt65 ?kt66 ?kt67 ?kt68 ?kt69 ?kt70 ?kt71 ?kt72 ?kt73 ?kt74 ?kt75 ?kt76 ?kt77 ?kt78 ?kt79 ?xo0 ?xo1 ?xo2 ?xo3 ?xo4 ?xo5 ?xo6 ?xo7 ?lOddError ?xOddError ?lNoName ?kpNoName ?iniNoName ?lfNoName ?cfNoName ?kfNoName ?saNoName ?naNoName ?moNoName ?lBadText ?kpBadText ?iniBadText ?lfBadText ?cfBadText ?kfBadText ?saBadText ?naBadText ?moBadText ?lNoForm ?kpNoForm ?iniNoForm ?lfNoForm ?cfNoForm ?kfNoForm ?saNoForm ?naNoForm ?moNoForm ?lTooFar ?kpTooFar ?iniTooFar ?lfTooFar ?cfTooFar ?kfTooFar ?saTooFar ?naTooFar ?moTooFar ?lNoTarget ?kpNoTarget ?iniNoTarget ?lfNoTarget ?cfNoTarget ?kfNoTarget ?saNoTarget ?naNoTarget ?moNoTarget ?lBadRow ?kpBadRow ?iniBadRow ?lfBadRow ?cfBadRow ?kfBadRow ?saBadRow ?naBadRow ?moBadRow ?lTooFull ?kpTooFull ?xTooFull ?lNoPlace ?kpNoPlace ?xNoPlace ?y0 ?z0 ?z1 ?z2 ?z3 ?z4 ?z5 ?z6 ?z7 ?z8 ?z9 ?z10 ?z11 ?z12 ?z13 ?z14 ?z15
    (case a1 => k_is); (case l1 => k_is); (case c1 => k_is); (case k1 => k_is); (case a2 => k_is); (case l2 => k_is); (case c2 => k_is); (case k2 => k_is)
    (case a3 => k_is); (case l3 => k_is); (case c3 => k_is); (case k3 => k_is); (case a4 => k_is); (case l4 => k_is); (case c4 => k_is); (case k4 => k_is)
    (case a5 => k_is); (case l5 => k_is); (case c5 => k_is); (case k5 => k_is); (case gn_OddError => k_is); (case gn_NoName => k_is); (case gn_BadText => k_is); (case gn_NoForm => k_is)
    (case gn_TooFar => k_is); (case gn_NoTarget => k_is); (case gn_BadRow => k_is); (case gn_TooFull => k_is); (case gn_NoPlace => k_is); (case kt0 => exact kit_self); (case kt1 => exact kit_ref (by k_is) (by k_is) (by k_is) rfl); (case kt2 => exact kit_ref (by k_is) (by k_is) (by k_is) rfl)
    (case kt3 => exact kit_ref (by k_is) (by k_is) (by k_is) rfl); (case kt4 => exact kit_ref (by k_is) (by k_is) (by k_is) rfl); (case kt5 => exact kit_ref (by k_is) (by k_is) (by k_is) rfl); (case kt6 => exact kit_ref (by k_is) (by k_is) (by k_is) rfl); (case kt7 => exact kit_ref (by k_is) (by k_is) (by k_is) rfl); (case kt8 => exact kit_ref (by k_is) (by k_is) (by k_is) rfl); (case kt9 => exact kit_self); (case kt10 => exact kit_ref (by k_is) (by k_is) (by k_is) rfl)
    (case kt11 => exact kit_ref (by k_is) (by k_is) (by k_is) rfl); (case kt12 => exact kit_ref (by k_is) (by k_is) (by k_is) rfl); (case kt13 => exact kit_ref (by k_is) (by k_is) (by k_is) rfl); (case kt14 => exact kit_ref (by k_is) (by k_is) (by k_is) rfl); (case kt15 => exact kit_ref (by k_is) (by k_is) (by k_is) rfl); (case kt16 => exact kit_ref (by k_is) (by k_is) (by k_is) rfl); (case kt17 => exact kit_ref (by k_is) (by k_is) (by k_is) rfl); (case kt18 => exact kit_self)
    (case kt19 => exact kit_ref (by k_is) (by k_is) (by k_is) rfl); (case kt20 => exact kit_ref (by k_is) (by k_is) (by k_is) rfl); (case kt21 => exact kit_ref (by k_is) (by k_is) (by k_is) rfl); (case kt22 => exact kit_ref (by k_is) (by k_is) (by k_is) rfl); (case kt23 => exact kit_ref (by k_is) (by k_is) (by k_is) rfl); (case kt24 => exact kit_ref (by k_is) (by k_is) (by k_is) rfl); (case kt25 => exact kit_ref (by k_is) (by k_is) (by k_is) rfl); (case kt26 => exact kit_ref (by k_is) (by k_is) (by k_is) rfl)
    (case kt27 => exact kit_self); (case kt28 => exact kit_ref (by k_is) (by k_is) (by k_is) rfl); (case kt29 => exact kit_ref (by k_is) (by k_is) (by k_is) rfl); (case kt30 => exact kit_ref (by k_is) (by k_is) (by k_is) rfl); (case kt31 => exact kit_ref (by k_is) (by k_is) (by k_is) rfl); (case kt32 => exact kit_ref (by k_is) (by k_is) (by k_is) rfl); (case kt33 => exact kit_ref (by k_is) (by k_is) (by k_is) rfl); (case kt34 => exact kit_ref (by k_is) (by k_is) (by k_is) rfl)
    (case kt35 => exact kit_ref (by k_is) (by k_is) (by k_is) rfl); (case kt36 => exact kit_self); (case kt37 => exact kit_ref (by k_is) (by k_is) (by k_is) rfl); (case kt38 => exact kit_ref (by k_is) (by k_is) (by k_is) rfl); (case kt39 => exact kit_ref (by k_is) (by k_is) (by k_is) rfl); (case kt40 => exact kit_ref (by k_is) (by k_is) (by k_is) rfl); (case kt41 => exact kit_ref (by k_is) (by k_is) (by k_is) rfl); (case kt42 => exact kit_ref (by k_is) (by k_is) (by k_is) rfl)
    (case kt43 => exact kit_ref (by k_is) (by k_is) (by k_is) rfl); (case kt44 => exact kit_ref (by k_is) (by k_is) (by k_is) rfl); (case kt45 => exact kit_self); (case kt46 => exact kit_ref (by k_is) (by k_is) (by k_is) rfl); (case kt47 => exact kit_ref (by k_is) (by k_is) (by k_is) rfl); (case kt48 => exact kit_ref (by k_is) (by k_is) (by k_is) rfl); (case kt49 => exact kit_ref (by k_is) (by k_is) (by k_is) rfl); (case kt50 => exact kit_ref (by k_is) (by k_is) (by k_is) rfl)
    (case kt51 => exact kit_ref (by k_is) (by k_is) (by k_is) rfl); (case kt52 => exact kit_ref (by k_is) (by k_is) (by k_is) rfl); (case kt53 => exact kit_ref (by k_is) (by k_is) (by k_is) rfl); (case kt54 => exact kit_self); (case kt55 => exact kit_ref (by k_is) (by k_is) (by k_is) rfl); (case kt56 => exact kit_ref (by k_is) (by k_is) (by k_is) rfl); (case kt57 => exact kit_ref (by k_is) (by k_is) (by k_is) rfl); (case kt58 => exact kit_ref (by k_is) (by k_is) (by k_is) rfl)
    (case kt59 => exact kit_ref (by k_is) (by k_is) (by k_is) rfl); (case kt60 => exact kit_ref (by k_is) (by k_is) (by k_is) rfl); (case kt61 => exact kit_ref (by k_is) (by k_is) (by k_is) rfl); (case kt62 => exact kit_ref (by k_is) (by k_is) (by k_is) rfl); (case kt63 => exact kit_self); (case kt64 => exact kit_ref (by k_is) (by k_is) (by k_is) rfl); (case kt65 => exact kit_ref (by k_is) (by k_is) (by k_is) rfl); (case kt66 => exact kit_ref (by k_is) (by k_is) (by k_is) rfl)
    (case kt67 => exact kit_ref (by k_is) (by k_is) (by k_is) rfl); (case kt68 => exact kit_ref (by k_is) (by k_is) (by k_is) rfl); (case kt69 => exact kit_ref (by k_is) (by k_is) (by k_is) rfl); (case kt70 => exact kit_ref (by k_is) (by k_is) (by k_is) rfl); (case kt71 => exact kit_ref (by k_is) (by k_is) (by k_is) rfl); (case kt72 => exact kit_ty (by decide +kernel) (by k_is)); (case kt73 => exact kit_ty (by decide +kernel) (by k_is)); (case kt74 => exact kit_ty (by decide +kernel) (by k_is))
    (case kt75 => exact kit_ty (by decide +kernel) (by k_is)); (case kt76 => exact kit_ty (by decide +kernel) (by k_is)); (case kt77 => exact kit_ty (by decide +kernel) (by k_is)); (case kt78 => exact kit_ty (by decide +kernel) (by k_is)); (case kt79 => exact kit_ty (by decide +kernel) (by k_is)); (case xo0 => exact ⟨cls_some (by k_is), by k_is, by k_is, by k_is, by k_is, by k_is, by k_is, by k_is⟩); (case xo1 => exact ⟨cls_some (by k_is), by k_is, by k_is, by k_is, by k_is, by k_is, by k_is, by k_is⟩); (case xo2 => exact ⟨cls_some (by k_is), by k_is, by k_is, by k_is, by k_is, by k_is, by k_is, by k_is⟩)
    (case xo3 => exact ⟨cls_some (by k_is), by k_is, by k_is, by k_is, by k_is, by k_is, by k_is, by k_is⟩); (case xo4 => exact ⟨cls_some (by k_is), by k_is, by k_is, by k_is, by k_is, by k_is, by k_is, by k_is⟩); (case xo5 => exact ⟨cls_some (by k_is), by k_is, by k_is, by k_is, by k_is, by k_is, by k_is, by k_is⟩); (case xo6 => exact ⟨cls_some (by k_is), by k_is, by k_is, by k_is, by k_is, by k_is, by k_is, by k_is⟩); (case xo7 => exact ⟨cls_some (by k_is), by k_is, by k_is, by k_is, by k_is, by k_is, by k_is, by k_is⟩); (case lOddError => k_is); (case xOddError => k_exc); (case lNoName => k_is)
    (case kpNoName => k_is); (case iniNoName => k_is); (case lfNoName => k_is); (case cfNoName => k_is); (case kfNoName => k_is); (case saNoName => k_is); (case naNoName => k_is); (case moNoName => k_is)
    (case lBadText => k_is); (case kpBadText => k_is); (case iniBadText => k_is); (case lfBadText => k_is); (case cfBadText => k_is); (case kfBadText => k_is); (case saBadText => k_is); (case naBadText => k_is)
    (case moBadText => k_is); (case lNoForm => k_is); (case kpNoForm => k_is); (case iniNoForm => k_is); (case lfNoForm => k_is); (case cfNoForm => k_is); (case kfNoForm => k_is); (case saNoForm => k_is)
    (case naNoForm => k_is); (case moNoForm => k_is); (case lTooFar => k_is); (case kpTooFar => k_is); (case iniTooFar => k_is); (case lfTooFar => k_is); (case cfTooFar => k_is); (case kfTooFar => k_is)
    (case saTooFar => k_is); (case naTooFar => k_is); (case moTooFar => k_is); (case lNoTarget => k_is); (case kpNoTarget => k_is); (case iniNoTarget => k_is); (case lfNoTarget => k_is); (case cfNoTarget => k_is)
    (case kfNoTarget => k_is); (case saNoTarget => k_is); (case naNoTarget => k_is); (case moNoTarget => k_is); (case lBadRow => k_is); (case kpBadRow => k_is); (case iniBadRow => k_is); (case lfBadRow => k_is)
    (case cfBadRow => k_is); (case kfBadRow => k_is); (case saBadRow => k_is); (case naBadRow => k_is); (case moBadRow => k_is); (case lTooFull => k_is); (case kpTooFull => k_is); (case xTooFull => k_exc)
    (case lNoPlace => k_is); (case kpNoPlace => k_is); (case xNoPlace => k_exc); (case y0 => k_is); (case z0 => k_is); (case z1 => k_is); (case z2 => k_is); (case z3 => k_is)
    (case z4 => k_is); (case z5 => k_is); (case z6 => k_is); (case z7 => k_is); (case z8 => k_is); (case z9 => k_is); (case z10 => k_is); (case z11 => k_is)
    (case z12 => k_is); (case z13 => k_is); (case z14 => k_is); (case z15 => k_is)
