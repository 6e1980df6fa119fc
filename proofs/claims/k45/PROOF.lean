import PyProof.Rows.All
import Wide.All
import OpenK.AllK
import Wide.FinOn
import PyProof.EqAt
import PyProof.EqKinds
import PyProof.TupleCall
import PyProof.DictCompW
import PyProof.Rows.SortWalk
import OpenK.KRaise
import PyProof.ExcClass2
import KE.KTryMore
import KE.KSortTup
import KE.KIsAll
import PyProof.ListRange
import PyProof.StrBlock2
import PyProof.Rows.SetFrom
import PyProof.SetRoads
import PyProof.ReprRoads
import PyProof.CallStr
import PyProof.Rows.SortStr
import PyProof.Rows.Range3
import PyProof.Rows.IntBool
import KE.KRevIter
import PyProof.MeetsSeq
import PyProof.MinMaxWalk
import PyProof.SliceStr2
import PyProof.P3Eq
import PyProof.Rows.StrLen
import PyProof.Rows.StrCase
import PyProof.InstStoreFacts
import PyProof.ExcInit
import PyProof.StrCalls
import PyProof.StrLawsRepr
import PyProof.Rows.StrJoinMade
import Lean
import PySem.Challenge.RW_oddlong_k45_numbers_given
set_option Elab.async false
set_option linter.all false
set_option maxRecDepth 100000
/-! THE HAND LAYER, for ints, bools, texts, own classes, LISTS and tuples (index, slices, in, append, pop ..), calls, loops. Paste it whole ahead of your own text; what your proof does not reach may be deleted. -/
namespace L2
/-! several things there are, with one constructor: what is said of them is stored once -/
set_option genSizeOf false
set_option genInjectivity false
inductive Ex2 {α0 α1 : Type} (P : α0 → α1 → Prop) : Prop | mk (x0 : α0) (x1 : α1) (h : P x0 x1) : Ex2 P
inductive Ex3 {α0 α1 α2 : Type} (P : α0 → α1 → α2 → Prop) : Prop | mk (x0 : α0) (x1 : α1) (x2 : α2) (h : P x0 x1 x2) : Ex3 P
inductive Ex4 {α0 α1 α2 α3 : Type} (P : α0 → α1 → α2 → α3 → Prop) : Prop | mk (x0 : α0) (x1 : α1) (x2 : α2) (x3 : α3) (h : P x0 x1 x2 x3) : Ex4 P
inductive Ex5 {α0 α1 α2 α3 α4 : Type} (P : α0 → α1 → α2 → α3 → α4 → Prop) : Prop | mk (x0 : α0) (x1 : α1) (x2 : α2) (x3 : α3) (x4 : α4) (h : P x0 x1 x2 x3 x4) : Ex5 P
set_option genSizeOf true
set_option genInjectivity true
end L2
namespace L2
open PySem PySem.Spec PyProof.Rows

/-- a key: an int or a str -/
noncomputable abbrev Key := Sum Int Str
noncomputable def keyIs : Key → Value → Bool
  | .inl k, v => Value.isInt k v
  | .inr x, v => Value.isStrOf x v
noncomputable def keyH (w : World) : Key → Int
  | .inl k => hashInt k
  | .inr x => hashStr w x
theorem keyIs_shape : ∀ {k : Key} {v : Value}, keyIs k v = true → (∃ i t, k = Sum.inl i ∧ v = Value.int i t) ∨ (∃ x t, k = Sum.inr x ∧ v = Value.str x t)
  | .inl i, v, h => by
    obtain ⟨t, e⟩ := Value.isInt_shape (k := i) (v := v) h
    exact .inl ⟨i, t, rfl, e⟩
  | .inr x, v, h => by
    obtain ⟨t, e⟩ := Value.isStrOf_shape (x := x) (v := v) h
    exact .inr ⟨x, t, rfl, e⟩
theorem keyIs_int (i : Int) (t : Tok) : keyIs (.inl i) (.int i t) = true := by simp [keyIs, Value.isInt]
theorem keyIs_str (x : Str) (t : Tok) : keyIs (.inr x) (.str x t) = true := by simp [keyIs, Value.isStrOf]
theorem key_ll (a b : Int) : decide ((Sum.inl a : Key) = Sum.inl b) = (a == b) := by
  by_cases e : a = b
  · subst e; simp
  · have h : ¬ (Sum.inl a : Key) = Sum.inl b := fun q => e (Sum.inl.inj q)
    rw [decide_eq_false h]
    exact (beq_eq_false_iff_ne.mpr e).symm
theorem key_rr (a b : Str) : decide ((Sum.inr a : Key) = Sum.inr b) = decide (a = b) := by
  by_cases e : a = b
  · subst e; simp
  · have h : ¬ (Sum.inr a : Key) = Sum.inr b := fun q => e (Sum.inr.inj q)
    rw [decide_eq_false h, decide_eq_false e]
theorem key_lr (a : Int) (b : Str) : decide ((Sum.inl a : Key) = Sum.inr b) = false := decide_eq_false (fun q => nomatch q)
theorem key_rl (a : Str) (b : Int) : decide ((Sum.inr a : Key) = Sum.inl b) = false := decide_eq_false (fun q => nomatch q)

noncomputable def mixKind (prog : Program) (w : World) : PySem.KeyKind prog w Key where
  is := keyIs
  hash := keyH w
  inj := fun v a b ha hb => by
    rcases keyIs_shape ha with ⟨i, t, rfl, rfl⟩ | ⟨x, t, rfl, rfl⟩
    · rcases keyIs_shape hb with ⟨j, u, rfl, e⟩ | ⟨y, u, rfl, e⟩
      · injection e with e1 _; rw [e1]
      · exact nomatch e
    · rcases keyIs_shape hb with ⟨j, u, rfl, e⟩ | ⟨y, u, rfl, e⟩
      · exact nomatch e
      · injection e with e1 _; rw [e1]
  byValue := fun k v h => by
    rcases keyIs_shape h with ⟨i, t, rfl, rfl⟩ | ⟨x, t, rfl, rfl⟩ <;> rfl
  pyHash := fun hv h => by
    rcases keyIs_shape hv with ⟨i, t, rfl, rfl⟩ | ⟨x, t, rfl, rfl⟩
    · exact wpAny_pyHash_int h
    · exact wpAny_pyHash_str h
  eqBool := fun hu hv h => by
    rcases keyIs_shape hu with ⟨i, t, rfl, rfl⟩ | ⟨x, t, rfl, rfl⟩
    · rcases keyIs_shape hv with ⟨j, u, rfl, rfl⟩ | ⟨y, u, rfl, rfl⟩
      · rw [key_ll] at h; exact wpAny_eqBool_int h
      · rw [key_lr] at h; exact SeqAt.EqAt.int_str i t y u _ _ _ _ h
    · rcases keyIs_shape hv with ⟨j, u, rfl, rfl⟩ | ⟨y, u, rfl, rfl⟩
      · rw [key_rl] at h; exact SeqAt.EqAt.str_int x t j u _ _ _ _ h
      · rw [key_rr] at h; exact wpAny_eqBool_str h
  «strs» := fun k x t v h => by
    rcases keyIs_shape h with ⟨i, u, rfl, e⟩ | ⟨y, u, rfl, e⟩
    · exact nomatch e
    · injection e with e1 _
      subst e1
      cases v <;> rfl

theorem mixKind_int (prog : Program) (w : World) (i : Int) (t : Tok) : (mixKind prog w).is (.inl i) (.int i t) = true := keyIs_int i t
theorem mixKind_str (prog : Program) (w : World) (x : Str) (t : Tok) : (mixKind prog w).is (.inr x) (.str x t) = true := keyIs_str x t
end L2

namespace L2
open PySem PySem.Spec PyProof.Rows

/-- a value, without the heap -/
inductive V where
  | non | bl (b : Bool) | int (i : Int) | str (x : Str) | byt (b : Array UInt8) | flt (b : UInt64) | ref (a : Addr) | ty (n : String)
  deriving DecidableEq

noncomputable def RelV : V → Value → Prop
  | .non, u => u = Value.none
  | .bl b, u => u = Value.bool b
  | .int i, u => ∃ t, u = Value.int i t
  | .str x, u => ∃ t, u = Value.str x t
  | .byt b, u => ∃ t, u = Value.bytes b t
  | .flt b, u => ∃ t, u = Value.float b t
  | .ref a, u => u = Value.ref a
  | .ty n, u => u = Value.type n

noncomputable abbrev Vals : List V → List Value → Prop := Paired RelV
theorem Vals.length {xs : List V} {us : List Value} (r : Vals xs us) : xs.length = us.length := Paired.length r
theorem Vals.get : ∀ {xs : List V} {us : List Value} {i : Nat} {x : V}, Vals xs us → xs[i]? = some x → ∃ u, us[i]? = some u ∧ RelV x u
  | _, _, _, _, .nil, e => by simp at e
  | _, _, 0, _, .cons r _, e => by simp at e; subst e; exact ⟨_, rfl, r⟩
  | _, _, i + 1, x, .cons _ t, e => by
    obtain ⟨u, h1, h2⟩ := Vals.get (i := i) (x := x) t (by simpa using e)
    exact ⟨u, by simpa using h1, h2⟩
theorem Vals.set {x : V} {u : Value} (r : RelV x u) : ∀ {xs : List V} {us : List Value} (i : Nat), Vals xs us → Vals (xs.set i x) (us.set i u)
  | _, _, _, .nil => .nil
  | _, _, 0, .cons _ t => .cons r t
  | _, _, i + 1, .cons q t => .cons q (Vals.set r i t)
theorem Vals.append : ∀ {xs ys : List V} {us ws : List Value}, Vals xs us → Vals ys ws → Vals (xs ++ ys) (us ++ ws)
  | _, _, _, _, .nil, s => s
  | _, _, _, _, .cons r t, s => .cons r (Vals.append t s)
theorem Vals.take : ∀ {xs : List V} {us : List Value} (n : Nat), Vals xs us → Vals (xs.take n) (us.take n)
  | _, _, 0, _ => .nil
  | _, _, _ + 1, .nil => .nil
  | _, _, n + 1, .cons r t => .cons r (Vals.take n t)
theorem Vals.drop : ∀ {xs : List V} {us : List Value} (n : Nat), Vals xs us → Vals (xs.drop n) (us.drop n)
  | _, _, 0, r => r
  | _, _, _ + 1, .nil => .nil
  | _, _, n + 1, .cons _ t => Vals.drop n t
noncomputable def RelO : Option V → Option Value → Prop
  | some v, some u => RelV v u
  | none, none => True
  | _, _ => False
noncomputable def KV {κ : Type} : List (κ × V) → List (κ × Value) → Prop := Paired fun (p : κ × V) (q : κ × Value) => p.1 = q.1 ∧ RelV p.2 q.2

/-- a key of a dict (00_mix): an int or a text -/
noncomputable def kV : Key → V
  | .inl i => .int i
  | .inr x => .str x

/-- what stands at a tracked address -/
inductive HO where
  /-- a list -/
  | lst (xs : List V)
  /-- a tuple (never changes) -/
  | tup (xs : List V)
  /-- a dict whose keys are ints and texts; one whose keys are tuples of ints and texts (the empty one is both) -/
  | dK (kvs : List (Key × V)) | dT (kvs : List (List Key × V))
  /-- a set of ints: its members, its size -/
  | set (S : Int → Bool) (n : Nat)
  /-- an instance of the class at C, its dict at dx, its attributes -/
  | ins (C dx : Addr) (fs : List (Str × V))
  /-- the dict of the instance at x -/
  | own (x : Addr)
  /-- the dict of an exception -/
  | xd (fs : List (Str × V))
  /-- a bound method, f of x -/
  | met (f x : Addr)
  /-- a range object lo, lo + 1, .. below hi -/
  | rng (lo hi : Int)
  /-- a thing that is known to the object (the script; a dict while a loop walks it): read, never written while it is so -/
  | frz (o : Obj) (u : HO)
  /-- a code object's table -/
  | tbl (ps : Array Value)
  /-- any other thing, by what is true of its one object (a def of one's own: SetO a S n := HO.ext fun h => ..) -/
  | ext (φ : Heap → Prop)

noncomputable abbrev Hp := Addr → Option HO
noncomputable def upd (H : Hp) (a : Addr) (o : HO) : Hp := fun b => if b = a then some o else H b
theorem upd_same {H : Hp} {a : Addr} {o : HO} : upd H a o a = some o := by unfold upd; rw [if_pos rfl]
theorem upd_ne {H : Hp} {a b : Addr} {o : HO} (h : b ≠ a) : upd H a o b = H b := by unfold upd; rw [if_neg h]
theorem upd_upd {H : Hp} {a : Addr} {o u : HO} : upd (upd H a o) a u = upd H a u := by
  funext b; unfold upd; split <;> rfl
/-- two objects of different content stand apart -/
theorem ne_of {H : Hp} {a b : Addr} {o u : HO} (h : H a = some o) (h' : H b = some u) (d : o ≠ u) : a ≠ b := by
  intro e; subst e; rw [h] at h'; exact d (Option.some.inj h')
theorem ne_of_none {H : Hp} {a b : Addr} {o : HO} (h : H a = some o) (h' : H b = none) : a ≠ b := by
  intro e; subst e; rw [h] at h'; cases h'

section
variable (P : Program) (w : World)
noncomputable def ObjOk (H : Hp) (h : Heap) (a : Addr) : HO → Prop
  | .lst xs => xs.length ≤ sizeLine ∧ Ex2 fun (its : List Value) (n : Nat) => Vals xs its ∧ h.get? a = some { cls := .type "list", data := .seq its.toArray n }
  | .tup xs => xs.length ≤ sizeLine ∧ ∃ its : List Value, Vals xs its ∧ IsTup h a its.toArray
  | .dK kvs => kvs.length ≤ sizeLine ∧ (a == sysModules) = false ∧ ∃ vs, KV kvs vs ∧ h.DictOf (mixKind P w) a vs
  | .dT kvs => kvs.length ≤ sizeLine ∧ (a == sysModules) = false ∧ ∃ xs : List (List Key × Addr × Value),
      Paired (fun (p : List Key × V) (q : List Key × Addr × Value) => p.1 = q.1 ∧ H q.2.1 = some (.tup (p.1.map kV)) ∧ RelV p.2 q.2.2) kvs xs ∧
      Ex3 fun o es ep => h.get? a = some o ∧ o.ExactDict ∧ o.data = .dict es ep ∧ es.toList = xs.map (entryOfKey (tupleKind (mixKind P w))) ∧ (xs.map (·.1)).Nodup
  | .set S n => h.SetOf (intKind P w) a S n
  | .ins C dx fs => H dx = some (.own a) ∧ fs.length ≤ 1000 ∧ dx ≠ a ∧ h.get? a = some (PySem.W.instObj C dx) ∧
      ∃ mA, h.Ns1 dx mA ∧ (∀ f, RelO (fs.lookup f) (mA f)) ∧ PySem.Within mA (fs.map (·.1))
  | .own _ => ∃ o, h.get? a = some o
  | .xd fs => ∃ mA, h.Ns1 a mA ∧ ∀ f, RelO (fs.lookup f) (mA f)
  | .rng lo hi => Ex3 fun t u v => h.get? a = some { cls := .type "range", data := .fields #[.int lo t, .int hi u, .int 1 v] }
  | .frz o u => h.get? a = some o ∧ ObjOk H h a u
  | .tbl ps => h.get? a = some { cls := .none, data := .fields ps }
  | .met f x => h.get? a = some (PySem.W.methodObj (.ref f) (.ref x))
  | .ext φ => φ h ∧ (∃ o, h.get? a = some o) ∧ ∀ h1 h2 : Heap, φ h1 → (∀ o, h1.get? a = some o → h2.get? a = some o) → φ h2
/-- the abstract heap is held -/
noncomputable def HOk (H : Hp) (h : Heap) : Prop := ∀ a o, H a = some o → ObjOk P w H h a o
end

section
variable {P : Program} {w : World} {H H' : Hp} {h h' : Heap} {a : Addr} {o : HO}
theorem ObjOk.lt (x : ObjOk P w H h a o) : a < h.objs.size := by
  cases o with
  | lst xs => obtain ⟨_, _, _, _, e⟩ := x; exact Heap.lt_size e
  | tup xs => obtain ⟨_, _, _, p⟩ := x; exact p.lt
  | dK kvs => obtain ⟨_, _, _, _, o, _, _, e, _⟩ := x; exact Heap.lt_size e
  | dT kvs => obtain ⟨_, _, _, _, o, _, _, e, _⟩ := x; exact Heap.lt_size e
  | set S n => obtain ⟨o, _, _, _, e, _⟩ := x; exact Heap.lt_size e
  | ins C dx fs => obtain ⟨_, _, _, e, _⟩ := x; exact Heap.lt_size e
  | own y => obtain ⟨_, e⟩ := x; exact Heap.lt_size e
  | xd fs => obtain ⟨_, ⟨_, _, _, e, _⟩, _⟩ := x; exact Heap.lt_size e
  | rng lo hi => obtain ⟨_, _, _, e⟩ := x; exact Heap.lt_size e
  | frz ob u => obtain ⟨e, _⟩ := x; exact Heap.lt_size e
  | tbl ps => exact Heap.lt_size (show h.get? a = some _ from x)
  | met f y => exact Heap.lt_size (show h.get? a = some _ from x)
  | ext φ => obtain ⟨_, ⟨_, e⟩, _⟩ := x; exact Heap.lt_size e
theorem Paired.mapP {α β : Type} {F G : α → β → Prop} : ∀ {l₁ : List α} {l₂ : List β}, Paired F l₁ l₂ → (∀ a b, F a b → G a b) → Paired G l₁ l₂
  | _, _, .nil, _ => .nil
  | _, _, .cons r t, f => .cons (f _ _ r) (Paired.mapP t f)
/-- what an object's description leans on: its own object, its own dict, the tuples -/
theorem ObjOk.stay (x : ObjOk P w H h a o) (k : ∀ b u, (b = a ∨ H b = some (.own a)) → h.get? b = some u → h'.get? b = some u)
    (ho : ∀ b, H b = some (.own a) → H' b = some (.own a)) (ht : ∀ b xs, H b = some (.tup xs) → H' b = some (.tup xs)) : ObjOk P w H' h' a o := by
  induction o with
  | lst xs => obtain ⟨z, its, n, r, e⟩ := x; exact ⟨z, its, n, r, k _ _ (.inl rfl) e⟩
  | tup xs => obtain ⟨z, its, r, ob, e, c⟩ := x; exact ⟨z, its, r, ob, k _ _ (.inl rfl) e, c⟩
  | dK kvs => obtain ⟨z, y, vs, r, ob, es, ep, e, c⟩ := x; exact ⟨z, y, vs, r, ob, es, ep, k _ _ (.inl rfl) e, c⟩
  | dT kvs =>
    obtain ⟨z, y, xs, r, ob, es, ep, e, c⟩ := x
    exact ⟨z, y, xs, Paired.mapP r fun p q z => ⟨z.1, ht _ _ z.2.1, z.2.2⟩, ob, es, ep, k _ _ (.inl rfl) e, c⟩
  | set S n => obtain ⟨ob, es, ep, t, e, c⟩ := x; exact ⟨ob, es, ep, t, k _ _ (.inl rfl) e, c⟩
  | ins C dx fs =>
    obtain ⟨d, z, ne, e, mA, ⟨od, es, ep, e2, c⟩, r⟩ := x
    exact ⟨ho _ d, z, ne, k _ _ (.inl rfl) e, mA, ⟨od, es, ep, k _ _ (.inr d) e2, c⟩, r⟩
  | own y => obtain ⟨ob, e⟩ := x; exact ⟨ob, k _ _ (.inl rfl) e⟩
  | xd fs => obtain ⟨mA, ⟨od, es, ep, e, c⟩, r⟩ := x; exact ⟨mA, ⟨od, es, ep, k _ _ (.inl rfl) e, c⟩, r⟩
  | rng lo hi => obtain ⟨t, u, v, e⟩ := x; exact ⟨t, u, v, k _ _ (.inl rfl) e⟩
  | frz ob u ih => obtain ⟨e, q⟩ := x; exact ⟨k _ _ (.inl rfl) e, ih q⟩
  | tbl ps =>
    have e : h.get? a = some { cls := .none, data := .fields ps } := x
    show h'.get? a = some { cls := .none, data := .fields ps }
    exact k a _ (.inl rfl) e
  | met f y =>
    have e : h.get? a = some (PySem.W.methodObj (.ref f) (.ref y)) := x
    show h'.get? a = some (PySem.W.methodObj (.ref f) (.ref y))
    exact k a _ (.inl rfl) e
  | ext φ => obtain ⟨p, ⟨o, e⟩, st⟩ := x; exact ⟨st _ _ p fun o q => k _ _ (.inl rfl) q, ⟨o, k _ _ (.inl rfl) e⟩, st⟩
theorem HOk.lt (x : HOk P w H h) (e : H a = some o) : a < h.objs.size := (x a o e).lt
theorem HOk.fresh (x : HOk P w H h) (e : h.objs.size ≤ a) : H a = none := by
  cases q : H a with
  | none => rfl
  | some u => exact absurd (Nat.lt_of_lt_of_le (x.lt q) e) (Nat.lt_irrefl _)
/-- every object of the heap is kept -/
theorem HOk.kept (x : HOk P w H h) (k : ∀ b u, h.get? b = some u → h'.get? b = some u) : HOk P w H h' := fun a o e =>
  (x a o e).stay (fun b u _ q => k b u q) (fun _ q => q) fun _ _ q => q
/-- a new object is laid and tracked -/
theorem HOk.laid (x : HOk P w H h) (k : ∀ b u, h.get? b = some u → h'.get? b = some u) (hp : h.objs.size ≤ a) (new : ObjOk P w (upd H a o) h' a o) : HOk P w (upd H a o) h' := fun b u e => by
  have hn := x.fresh hp
  by_cases hb : b = a
  · subst hb; rw [upd_same] at e; cases e; exact new
  · rw [upd_ne hb] at e
    exact (x b u e).stay (fun c v _ q => k c v q) (fun c q => by rw [upd_ne (ne_of_none q hn)]; exact q) fun c xs q => by rw [upd_ne (ne_of_none q hn)]; exact q
end

/-- what may be read as u: it is u, or a known u -/
noncomputable def Rd (H : Hp) (a : Addr) (u : HO) : Prop := H a = some u ∨ ∃ o, H a = some (.frz o u)
theorem Rd.ok {P : Program} {w : World} {H : Hp} {h : Heap} {a : Addr} {u : HO} (r : Rd H a u) (x : HOk P w H h) : ObjOk P w H h a u := by
  rcases r with r | ⟨o, r⟩
  · exact x a u r
  · obtain ⟨_, q⟩ := x a _ r
    exact q
/-- what may be written -/
noncomputable def Mut : Option HO → Prop
  | some (.lst _) => True
  | some (.dK _) => True
  | some (.dT _) => True
  | some (.set _ _) => True
  | some (.ins _ _ _) => True
  | some (.ext _) => True
  | _ => False
section
variable {P : Program} {w : World} {H : Hp} {h h' : Heap} {x e : Addr} {o' : HO}
/-- the object at e is changed: x itself, or the dict of the instance x -/
theorem HOk.write (ok : HOk P w H h) (mu : Mut (H x)) (he : e = x ∨ H e = some (.own x)) (k : ∀ b u, b ≠ e → h.get? b = some u → h'.get? b = some u) (heo : ∃ u, h'.get? e = some u)
    (new : ObjOk P w (upd H x o') h' x o') : HOk P w (upd H x o') h' := fun b u q => by
  have nown : ∀ c y, H c = some (.own y) → c ≠ x := fun c y r z => by subst z; rw [r] at mu; exact mu
  have ntup : ∀ c xs, H c = some (.tup xs) → c ≠ x := fun c xs r z => by subst z; rw [r] at mu; exact mu
  by_cases hb : b = x
  · subst hb; rw [upd_same] at q; cases q; exact new
  · rw [upd_ne hb] at q
    by_cases hbe : b = e
    · have q' : H b = some (.own x) := by
        rcases he with z | z
        · exact absurd (hbe.trans z) hb
        · rw [hbe]; exact z
      rw [q] at q'; cases q'
      obtain ⟨v, hv⟩ := heo
      exact ⟨v, by rw [hbe]; exact hv⟩
    · refine (ok b u q).stay (fun c v hc r => k c v ?_ r) (fun c r => by rw [upd_ne (nown c b r)]; exact r) fun c xs r => by rw [upd_ne (ntup c xs r)]; exact r
      rcases hc with rfl | hc
      · exact hbe
      · rintro rfl
        rcases he with z | z
        · exact nown c b hc z
        · rw [hc] at z; cases z; exact hb rfl
end

/-! ### kept unless tracked; of the frames at fs (the callers') the slots may change (an exception that passes writes there); of the records at ex (iterators) nothing is said -/
structure Un (fs ex : List Addr) (H H' : Hp) (h h' : Heap) : Prop where
  keep : ∀ b o, h.get? b = some o → H b = none → b ∉ fs → b ∉ ex → h'.get? b = some o
  slot : ∀ b o, h.get? b = some o → H b = none → b ∈ fs → b ∉ ex → ∃ sl, h'.get? b = some { o with slots := sl }
  free : ∀ b o, h.get? b = some o → H b = none → b ∉ ex → H' b = none
  there : ∀ b o, h.get? b = some o → b ∉ ex → ∃ o', h'.get? b = some o'
  tups : ∀ b xs, H b = some (.tup xs) → H' b = some (.tup xs)
  frzs : ∀ b o u, H b = some (.frz o u) → H' b = some (.frz o u)
  tbls : ∀ b ps, H b = some (.tbl ps) → ∃ more, H' b = some (.tbl (ps ++ more))
section
variable {fs fs' ex ex' : List Addr} {H H1 H2 : Hp} {h h1 h2 h' : Heap} {a x e : Addr} {o : HO}
theorem Un.any (u : Un fs ex H H1 h h1) {b : Addr} {ob : Obj} (q : h.get? b = some ob) (n : H b = none) (hx : b ∉ ex) : ∃ sl, h1.get? b = some { ob with slots := sl } := by
  by_cases hb : b ∈ fs
  · exact u.slot b ob q n hb hx
  · exact ⟨ob.slots, u.keep b ob q n hb hx⟩
theorem Un.kept (k : ∀ b u, h.get? b = some u → h'.get? b = some u) : Un fs ex H H h h' :=
  ⟨fun b ob q _ _ _ => k b ob q, fun b ob q _ _ _ => ⟨ob.slots, k b ob q⟩, fun _ _ _ n _ => n, fun b ob q _ => ⟨ob, k b ob q⟩, fun _ _ q => q, fun _ _ _ q => q, fun _ ps q => ⟨#[], by rw [q]; simp⟩⟩
theorem Un.refl : Un fs ex H H h h := Un.kept fun _ _ q => q
theorem Un.laid (k : ∀ b u, h.get? b = some u → h'.get? b = some u) (hp : h.objs.size ≤ a) (hn : H a = none) : Un fs ex H (upd H a o) h h' where
  keep := fun b u q _ _ _ => k b u q
  slot := fun b u q _ _ _ => ⟨u.slots, k b u q⟩
  free := fun b u q n _ => by rw [upd_ne (Nat.ne_of_lt (Nat.lt_of_lt_of_le (Heap.lt_size q) hp))]; exact n
  there := fun b u q _ => ⟨u, k b u q⟩
  tups := fun b xs q => by rw [upd_ne (ne_of_none q hn)]; exact q
  frzs := fun b u xs q => by rw [upd_ne (ne_of_none q hn)]; exact q
  tbls := fun b ps q => ⟨#[], by rw [upd_ne (ne_of_none q hn), q]; simp⟩
theorem Un.write (mu : Mut (H x)) (he : e = x ∨ H e = some (.own x)) (k : ∀ b u, b ≠ e → h.get? b = some u → h'.get? b = some u) (heo : ∃ u, h'.get? e = some u) : Un fs ex H (upd H x o) h h' := by
  have hx : ∀ b, H b = none → b ≠ x := fun b n z => by subst z; rw [n] at mu; exact mu
  have hb : ∀ b, H b = none → b ≠ e := fun b n z => by
    subst z
    rcases he with r | r
    · exact hx b n r
    · rw [n] at r; cases r
  have hm : ∀ b u, H b = some u → ¬ Mut (some u) → b ≠ x := fun b u q nm z => by subst z; rw [q] at mu; exact nm mu
  refine ⟨fun b u q n _ _ => k b u (hb b n) q, fun b u q n _ _ => ⟨u.slots, k b u (hb b n) q⟩, fun b u q n _ => by rw [upd_ne (hx b n)]; exact n, fun b u q _ => ?_,
    fun b xs q => by rw [upd_ne (hm b _ q fun z => z)]; exact q, fun b u xs q => by rw [upd_ne (hm b _ q fun z => z)]; exact q, fun b ps q => ⟨#[], by rw [upd_ne (hm b _ q fun z => z), q]; simp⟩⟩
  by_cases hbe : b = e
  · subst hbe; exact heo
  · exact ⟨u, k b u hbe q⟩
end

/-! ### the heap without what is tracked -/
noncomputable def trk (h : Heap) (H : Hp) : List Addr := (List.range h.objs.size).filter fun a => (H a).isSome
noncomputable def hidT (h : Heap) (H : Hp) : Heap := PySem.W.hideAll h (trk h H)
theorem hidT_size (h : Heap) (H : Hp) : (hidT h H).objs.size = h.objs.size := PySem.W.hideAll_size _ _
theorem hidT_get {h : Heap} {H : Hp} {b : Addr} {o : Obj} (e : h.get? b = some o) (n : H b = none) : (hidT h H).get? b = some o :=
  PySem.W.hideAll_get _ e fun hm => by
    have q : (H b).isSome = true := (List.mem_filter.mp hm).2
    rw [n] at q; simp at q
theorem of_hidT {h : Heap} {H : Hp} {b : Addr} {o : Obj} (e : (hidT h H).get? b = some o) : h.get? b = some o ∧ H b = none := by
  have e' : h.get? b = some o := PySem.W.of_hideAll (trk h H) e
  refine ⟨e', ?_⟩
  cases q : H b with
  | none => rfl
  | some x =>
    have hm : b ∈ trk h H := List.mem_filter.mpr ⟨List.mem_range.mpr (Heap.lt_size e'), by simp [q]⟩
    have z : (hidT h H).get? b = none := PySem.W.hideAll_none (trk h H) hm
    rw [z] at e; cases e

/-! ### OpenK's ledger, filled with every new object but one -/
end L2

namespace L2
open PySem PySem.Spec PyProof.Rows

/-- the module's facts, over the base: the heap at the law's entry without what is tracked there -/
structure Mod (K : PySem.W.Frag) (mg : Str → Option Value) (base : Heap) : Prop where
  kin : K.In base
  glob : base.Ns mainGlobals mg
  blt : ∃ mb, base.Ns builtinsNs mb ∧ ∀ x : Str, x ≠ "__name__" → mb x = bootBuiltins x
  nolimit : base.NoLimit

/-- the context: a def's body (or a comprehension's block) running. base: fixed through the whole law; s₀, H₀: the entry; outer: the frames whose slots others may change (a def's callers); stack: all frames that run;
   ex: iterators that were made ahead of the entry and are walked here (a comprehension's); fn: the names whose cells were made at the entry (a def: all; a comprehension's block: its own); calm: not within an except suite; pn: pins that every state bears; xe: what is wanted of an exception that leaves the code -/
structure Cx where
  prog : Program
  w : World
  K : PySem.W.Frag
  mg : Str → Option Value
  base : Heap
  A : Around
  N : List Str
  s₀ : Shared
  H₀ : Hp
  env : Env
  outer : List Env
  stack : List Env
  ex : List Addr
  fn : Str → Bool
  calm : Bool
  pn : List (Addr × Obj)
  xe : Value → Shared → Prop
/-- the callers' frames -/
noncomputable def frs (l : List Env) : List Addr := l.filterMap (·.frame)
noncomputable abbrev Cx.fs (X : Cx) : List Addr := frs X.outer

noncomputable def Vis (sc : Scope) (x : Str) : Prop := sc.names.lookup x = some .local ∨ sc.names.lookup x = some .cell ∨ sc.names.lookup x = some .free
noncomputable def Loc (sc : Scope) (x : Str) : Prop := sc.names.lookup x = some .local ∨ sc.names.lookup x = some .cell
noncomputable def Look (env : Env) (h : Heap) (m : Str → Option Value) (x : Str) (u : Value) : Prop :=
  (env.kindOf x = some .local ∧ m x = some u) ∨ ((env.kindOf x = some .cell ∨ env.kindOf x = some .free) ∧ ∃ c, env.cells.lookup x = some c ∧ h.IsCell c (some u))

structure Cx.Ok (X : Cx) : Prop where
  mod : Mod X.K X.mg X.base
  kind : X.env.scope.kind = .function
  glob : X.env.globals = mainGlobals
  blt : X.env.builtins = builtinsNs
  above : X.s₀.heap.objs.size ≤ X.env.locals
  inj : ∀ x y c, X.env.cells.lookup x = some c → X.env.cells.lookup y = some c → x = y
  has : ∀ x, (X.env.kindOf x = some .cell ∨ X.env.kindOf x = some .free) → ∃ c, X.env.cells.lookup x = some c
  cab : ∀ x c, X.fn x = true → X.env.cells.lookup x = some c → X.s₀.heap.objs.size ≤ c
  hd : X.calm = true → X.A.handled = none
  frames : X.A.frames = some X.stack
  stk : X.stack = X.outer ∨ (X.stack = X.env :: X.outer ∧ X.env.frame = some X.env.locals)
  exf : ∀ b ∈ X.ex, b ≠ X.env.locals ∧ ∀ x c, X.env.cells.lookup x = some c → c ≠ b
  bs : ∀ b o, X.base.get? b = some o → X.s₀.heap.get? b = some o ∧ X.H₀ b = none
  bsz : X.base.objs.size ≤ X.s₀.heap.objs.size
  noex : ∀ b o, X.base.get? b = some o → b ∉ X.ex
  exfs : ∀ b ∈ X.ex, b ∉ X.fs
  funs : X.s₀.heap.FunFrames X.base X.outer
  frf : ∀ b ∈ X.fs, X.H₀ b = none

structure Inv (X : Cx) (pins : List (Addr × Obj)) (σ : List (Option V)) (H : Hp) (s : Shared) : Prop where
  ok : X.Ok
  os : s.os = X.s₀.os
  bare : AllBare s.gens
  base : Un X.fs X.ex X.H₀ H X.s₀.heap s.heap
  loc : ∃ m, s.heap.Ns X.env.locals m ∧ ∀ (i : Nat) (x : Str) (v : V), X.N[i]? = some x → σ[i]? = some (some v) → Vis X.env.scope x → ∃ u, RelV v u ∧ Look X.env s.heap m x u
  cell : ∀ x c, X.env.cells.lookup x = some c → ∃ v, s.heap.IsCell c v
  free : H X.env.locals = none
  freeC : ∀ x c, X.env.cells.lookup x = some c → H c = none
  pin : ∀ p ∈ X.pn ++ pins, s.heap.get? p.1 = some p.2 ∧ H p.1 = none ∧ p.1 ≠ X.env.locals ∧ p.1 ∉ X.fs ∧ ∀ v, p.2.data ≠ .cell v
  hok : HOk X.prog X.w H s.heap
  len : σ.length = X.N.length

section
variable {X : Cx} {pins : List (Addr × Obj)} {σ : List (Option V)} {H H' : Hp} {s : Shared} {h' : Heap}

theorem Cx.Ok.nofr (ok : X.Ok) {b : Addr} {o : Obj} (e : X.base.get? b = some o) : b ∉ X.fs := fun hb => by
  have := (ok.funs.mem hb).1
  rw [e] at this; cases this
theorem Inv.bs (I : Inv X pins σ H s) : ∀ b o, X.base.get? b = some o → s.heap.get? b = some o ∧ H b = none := fun b o e =>
  ⟨I.base.keep b o (I.ok.bs b o e).1 (I.ok.bs b o e).2 (I.ok.nofr e) (I.ok.noex b o e), I.base.free b o (I.ok.bs b o e).1 (I.ok.bs b o e).2 (I.ok.noex b o e)⟩
theorem Inv.bk (I : Inv X pins σ H s) : ∀ b o, X.base.get? b = some o → s.heap.get? b = some o := fun b o e => (I.bs b o e).1
theorem Inv.mod (I : Inv X pins σ H s) : Mod X.K X.mg X.base := I.ok.mod
theorem Inv.kIn (I : Inv X pins σ H s) : X.K.In s.heap := I.ok.mod.kin.keeps I.bk
theorem Inv.lt (I : Inv X pins σ H s) : X.env.locals < s.heap.objs.size := let ⟨_, hn, _⟩ := I.loc; hn.lt
theorem Inv.sz (I : Inv X pins σ H s) : X.s₀.heap.objs.size ≤ s.heap.objs.size := Nat.le_trans I.ok.above (Nat.le_of_lt I.lt)
theorem Inv.nofs (I : Inv X pins σ H s) {a : Addr} (h : s.heap.objs.size ≤ a) : a ∉ X.fs := fun hb => by
  obtain ⟨_, o, ho, _⟩ := I.ok.funs.mem hb
  exact absurd (Nat.lt_of_lt_of_le (Heap.lt_size ho) (Nat.le_trans I.sz h)) (Nat.lt_irrefl _)
theorem Inv.cne (I : Inv X pins σ H s) : ∀ x c, X.env.cells.lookup x = some c → c ≠ X.env.locals := fun x c e z => by
  obtain ⟨v, o, ho, hd⟩ := I.cell x c e
  obtain ⟨m, ⟨o', es, ep, ho', hd', _⟩, _⟩ := I.loc
  rw [z, ho'] at ho; cases ho; rw [hd'] at hd; cases hd
theorem Inv.funs (I : Inv X pins σ H s) : s.heap.FunFrames X.base X.outer := by
  have all : ∀ (l : List Env), (∀ b ∈ frs l, b ∈ X.fs) → X.s₀.heap.FunFrames X.base l → s.heap.FunFrames X.base l := by
    intro l
    induction l with
    | nil => intro _ _; trivial
    | cons env r ih =>
      intro hs hl
      obtain ⟨hk, ⟨L, o, hf, hn, ho, hd⟩, hr⟩ := hl
      have hL : L ∈ X.fs := hs L (by unfold frs; rw [List.filterMap_cons, hf]; exact List.mem_cons_self)
      obtain ⟨sl, e⟩ := I.base.slot L o ho (I.ok.frf L hL) hL fun z => I.ok.exfs L z hL
      exact ⟨hk, ⟨L, _, hf, hn, e, hd⟩, ih (fun b hb => hs b (by unfold frs; rw [List.filterMap_cons, hf]; exact List.mem_cons_of_mem _ hb)) hr⟩
  exact all X.outer (fun _ hb => hb) I.ok.funs

/-- the frames that run, for a call -/
theorem Inv.stack (I : Inv X pins σ H s) : s.heap.FunFrames X.base X.stack := by
  rcases I.ok.stk with e | ⟨e, hf⟩
  · rw [e]; exact I.funs
  · rw [e]
    obtain ⟨m, hn, _⟩ := I.loc
    refine .cons (by rw [I.ok.kind]; decide) hf hn ?_ I.funs
    exact Heap.get?_none_of_le (Nat.le_trans I.ok.bsz I.ok.above)
theorem Inv.stkSub (I : Inv X pins σ H s) : ∀ b ∈ frs X.stack, b ∈ X.env.locals :: X.fs := fun b hb => by
  rcases I.ok.stk with e | ⟨e, hf⟩
  · rw [e] at hb; exact List.mem_cons_of_mem _ hb
  · rw [e] at hb
    unfold frs at hb
    rw [List.filterMap_cons, hf] at hb
    exact hb
theorem Inv.stkFree (I : Inv X pins σ H s) : ∀ b ∈ frs X.stack, H b = none := fun b hb => by
  rcases List.mem_cons.mp (I.stkSub b hb) with e | hb
  · rw [e]; exact I.free
  · obtain ⟨_, o, ho, _⟩ := I.ok.funs.mem hb
    exact I.base.free b o ho (I.ok.frf b hb) fun z => I.ok.exfs b z hb

/-- THE STEP: the untracked objects but the frame and the records at ch are kept (the callers' frames up to slots), the frame's map is kept, the new abstract heap is held -/
theorem Inv.step {g' : Array GenState} {t' : Nat} {d' : Drawn} {ch : List Addr} (I : Inv X pins σ H s)
    (hch : ∀ b ∈ ch, (b ∈ X.ex ∨ X.s₀.heap.objs.size ≤ b) ∧ b ≠ X.env.locals ∧ (∀ x c, X.env.cells.lookup x = some c → c ≠ b) ∧ ∀ p ∈ X.pn ++ pins, p.1 ≠ b)
    (keep : ∀ b o, b ≠ X.env.locals → b ∉ X.fs → b ∉ ch → s.heap.get? b = some o → H b = none → h'.get? b = some o)
    (slot : ∀ b o, b ≠ X.env.locals → b ∈ X.fs → b ∉ ch → s.heap.get? b = some o → H b = none → ∃ sl, h'.get? b = some { o with slots := sl }) (free : ∀ b o, b ∉ ch → s.heap.get? b = some o → H b = none → H' b = none)
    (there : ∀ b o, b ∉ ch → s.heap.get? b = some o → ∃ o', h'.get? b = some o')
    (tups : ∀ b xs, H b = some (.tup xs) → H' b = some (.tup xs)) (frzs : ∀ b o u, H b = some (.frz o u) → H' b = some (.frz o u)) (tbls : ∀ b ps, H b = some (.tbl ps) → ∃ more, H' b = some (.tbl (ps ++ more)))
    (ns : ∀ m, s.heap.Ns X.env.locals m → h'.Ns X.env.locals m) (hok : HOk X.prog X.w H' h') (hg : AllBare g') :
    Inv X pins σ H' { s with heap := h', gens := g', drawn := d', toks := t' } := by
  have neL : ∀ b o, X.s₀.heap.get? b = some o → b ≠ X.env.locals := fun b o e => Nat.ne_of_lt (Nat.lt_of_lt_of_le (Heap.lt_size e) I.ok.above)
  have neC : ∀ b o, X.s₀.heap.get? b = some o → b ∉ X.ex → b ∉ ch := fun b o e hx hb => by
    rcases (hch b hb).1 with z | z
    · exact hx z
    · exact absurd (Nat.lt_of_lt_of_le (Heap.lt_size e) z) (Nat.lt_irrefl _)
  have cellK : ∀ x c, X.env.cells.lookup x = some c → ∀ v, s.heap.IsCell c v → h'.IsCell c v := fun x c e v ⟨o, ho, hd⟩ => by
    have nch : c ∉ ch := fun z => (hch c z).2.2.1 x c e rfl
    by_cases hc : c ∈ X.fs
    · obtain ⟨sl, q⟩ := slot c o (I.cne x c e) hc nch ho (I.freeC x c e)
      exact ⟨_, q, hd⟩
    · exact ⟨o, keep c o (I.cne x c e) hc nch ho (I.freeC x c e), hd⟩
  refine ⟨I.ok, I.os, hg, ⟨fun b o e n hb hx => ?_, fun b o e n hb hx => ?_, fun b o e n hx => ?_, fun b o e hx => ?_, fun b xs e => tups b xs (I.base.tups b xs e), fun b o xs e => frzs b o xs (I.base.frzs b o xs e), fun b ps e => ?_⟩, ?_, fun x c e => ?_, ?_, fun x c e => ?_, fun p hp => ?_, hok, I.len⟩
  · exact keep b o (neL b o e) hb (neC b o e hx) (I.base.keep b o e n hb hx) (I.base.free b o e n hx)
  · obtain ⟨sl, e1⟩ := I.base.slot b o e n hb hx
    obtain ⟨sl', e2⟩ := slot b _ (neL b o e) hb (neC b o e hx) e1 (I.base.free b o e n hx)
    exact ⟨sl', e2⟩
  · obtain ⟨o', e1⟩ := I.base.there b o e hx
    exact free b o' (neC b o e hx) e1 (I.base.free b o e n hx)
  · obtain ⟨o', e1⟩ := I.base.there b o e hx
    exact there b o' (neC b o e hx) e1
  · obtain ⟨m1, e1⟩ := I.base.tbls b ps e
    obtain ⟨m2, e2⟩ := tbls b _ e1
    exact ⟨m1 ++ m2, by rw [e2, Array.append_assoc]⟩
  · obtain ⟨m, hn, hl⟩ := I.loc
    refine ⟨m, ns m hn, fun i x v e1 e2 e3 => ?_⟩
    obtain ⟨u, r, l⟩ := hl i x v e1 e2 e3
    refine ⟨u, r, ?_⟩
    rcases l with l | ⟨k, c, e, z⟩
    · exact .inl l
    · exact .inr ⟨k, c, e, cellK x c e _ z⟩
  · obtain ⟨v, z⟩ := I.cell x c e
    exact ⟨v, cellK x c e v z⟩
  · obtain ⟨m, ⟨o, _, _, ho, _⟩, _⟩ := I.loc
    exact free _ o (fun z => (hch _ z).2.1 rfl) ho I.free
  · obtain ⟨v, o, ho, hd⟩ := I.cell x c e
    exact free c o (fun z => (hch c z).2.2.1 x c e rfl) ho (I.freeC x c e)
  · obtain ⟨e, n, ne, nf, d⟩ := I.pin p hp
    have nch : p.1 ∉ ch := fun z => (hch p.1 z).2.2.2 p hp rfl
    exact ⟨keep p.1 p.2 ne nf nch e n, free p.1 p.2 nch e n, ne, nf, d⟩
/-- .. where the frame's own object is kept too -/
theorem Inv.un {t' : Nat} (I : Inv X pins σ H s) (u : Un X.fs [] H H' s.heap h') (hok : HOk X.prog X.w H' h') : Inv X pins σ H' { s with heap := h', toks := t' } := by
  obtain ⟨m, ⟨o, es, ep, ho, r⟩, _⟩ := id I.loc
  obtain ⟨sl, hL⟩ := u.any ho I.free (by simp)
  exact I.step (g' := s.gens) (d' := s.drawn) (ch := []) (fun _ z => nomatch z) (fun b o _ hb _ e n => u.keep b o e n hb (by simp)) (fun b o _ hb _ e n => u.slot b o e n hb (by simp)) (fun b o _ e n => u.free b o e n (by simp)) (fun b o _ e => u.there b o e (by simp)) u.tups u.frzs u.tbls (fun m' hm => by
    obtain ⟨o', es', ep', ho', r'⟩ := hm
    rw [ho] at ho'; cases ho'
    exact ⟨_, es', ep', hL, r'⟩) hok I.bare
/-- behind a call (or a comprehension's block): the slots of this frame may have changed too, the records at ch may have turned -/
theorem Inv.call {g' : Array GenState} {t' : Nat} {d' : Drawn} {ch : List Addr} (I : Inv X pins σ H s) (u : Un (frs X.stack) ch H H' s.heap h') (hok : HOk X.prog X.w H' h') (hg : AllBare g')
    (hch : ∀ b ∈ ch, (b ∈ X.ex ∨ X.s₀.heap.objs.size ≤ b) ∧ b ≠ X.env.locals ∧ (∀ x c, X.env.cells.lookup x = some c → c ≠ b) ∧ ∀ p ∈ X.pn ++ pins, p.1 ≠ b) :
    Inv X pins σ H' { s with heap := h', gens := g', drawn := d', toks := t' } := by
  obtain ⟨m, ⟨o, es, ep, ho, r⟩, _⟩ := id I.loc
  obtain ⟨sl, hL⟩ := u.any ho I.free fun z => (hch _ z).2.1 rfl
  exact I.step (ch := ch) hch (fun b o hL hb hc e n => u.keep b o e n (fun z => (List.mem_cons.mp (I.stkSub b z)).elim hL hb) hc) (fun b o _ _ hc e n => u.any e n hc) (fun b o hc e n => u.free b o e n hc) (fun b o hc e => u.there b o e hc) u.tups u.frzs u.tbls (fun m' hm => by
    obtain ⟨o', es', ep', ho', r'⟩ := hm
    rw [ho] at ho'; cases ho'
    exact ⟨_, es', ep', hL, r'⟩) hok hg
/-- an untracked record of ours (an iterator) has turned -/
theorem Inv.turned {t' : Nat} {it : Addr} (I : Inv X pins σ H s) (k : ∀ b o, b ≠ it → s.heap.get? b = some o → h'.get? b = some o) (hn : H it = none) (hL : it ≠ X.env.locals)
    (h1 : it ∈ X.ex ∨ X.s₀.heap.objs.size ≤ it) (h2 : ∀ x c, X.env.cells.lookup x = some c → c ≠ it) (h3 : ∀ p ∈ X.pn ++ pins, p.1 ≠ it) : Inv X pins σ H { s with heap := h', toks := t' } := by
  have nit : ∀ b u, H b = some u → b ≠ it := fun b u e z => by rw [z, hn] at e; cases e
  refine I.step (g' := s.gens) (d' := s.drawn) (ch := [it]) (fun b hb => ?_) (fun b o _ _ hc e _ => k b o (fun z => hc (by simp [z])) e) (fun b o _ _ hc e _ => ⟨o.slots, k b o (fun z => hc (by simp [z])) e⟩) (fun _ _ _ _ n => n)
    (fun b o hc e => ⟨o, k b o (fun z => hc (by simp [z])) e⟩) (fun _ _ e => e) (fun _ _ _ e => e) (fun b ps e => ⟨#[], by rw [e]; simp⟩) (fun m hm => ?_) (fun b u e => ?_) I.bare
  · have e : b = it := by simpa using hb
    subst e
    exact ⟨h1, hL, h2, h3⟩
  · obtain ⟨o, es, ep, ho, r⟩ := hm
    exact ⟨o, es, ep, k _ o (Ne.symm hL) ho, r⟩
  · refine (I.hok b u e).stay (fun c v hc q => k c v ?_ q) (fun _ q => q) fun _ _ q => q
    rcases hc with z | z
    · rw [z]; exact nit b u e
    · exact nit c _ z
theorem Inv.tok (I : Inv X pins σ H s) (t : Nat) : Inv X pins σ H { s with toks := t } := I.un (h' := s.heap) (t' := t) Un.refl I.hok
/-- all objects kept -/
theorem Inv.kept {t' : Nat} (I : Inv X pins σ H s) (k : ∀ b u, s.heap.get? b = some u → h'.get? b = some u) : Inv X pins σ H { s with heap := h', toks := t' } := I.un (Un.kept k) (I.hok.kept k)
/-- a new object laid and tracked -/
theorem Inv.laid {a : Addr} {o : HO} {t' : Nat} (I : Inv X pins σ H s) (k : ∀ b u, s.heap.get? b = some u → h'.get? b = some u) (hp : s.heap.objs.size ≤ a) (new : ObjOk X.prog X.w (upd H a o) h' a o) :
    Inv X pins σ (upd H a o) { s with heap := h', toks := t' } := I.un (Un.laid k hp (I.hok.fresh hp)) (I.hok.laid k hp new)
/-- an object written -/
theorem Inv.write {x e : Addr} {o : HO} {t' : Nat} (I : Inv X pins σ H s) (mu : Mut (H x)) (he : e = x ∨ H e = some (.own x)) (k : ∀ b u, b ≠ e → s.heap.get? b = some u → h'.get? b = some u) (heo : ∃ u, h'.get? e = some u)
    (new : ObjOk X.prog X.w (upd H x o) h' x o) : Inv X pins σ (upd H x o) { s with heap := h', toks := t' } := I.un (Un.write mu he k heo) (I.hok.write mu he k heo new)
/-- forgetting slots, pins -/
theorem Inv.weak {σ' : List (Option V)} (I : Inv X pins σ H s) (hl : σ'.length = σ.length) (w : ∀ (i : Nat) v, σ'[i]? = some (some v) → σ[i]? = some (some v)) : Inv X pins σ' H s :=
  ⟨I.ok, I.os, I.bare, I.base, let ⟨m, hn, hl'⟩ := I.loc; ⟨m, hn, fun i x v e1 e2 e3 => hl' i x v e1 (w i v e2) e3⟩, I.cell, I.free, I.freeC, I.pin, I.hok, hl.trans I.len⟩
theorem Inv.pins_of {pins' : List (Addr × Obj)} (I : Inv X pins σ H s) (h : ∀ p ∈ pins', s.heap.get? p.1 = some p.2 ∧ H p.1 = none ∧ p.1 ≠ X.env.locals ∧ p.1 ∉ X.fs ∧ ∀ v, p.2.data ≠ .cell v) : Inv X pins' σ H s :=
  ⟨I.ok, I.os, I.bare, I.base, I.loc, I.cell, I.free, I.freeC, fun p hp => (List.mem_append.mp hp).elim (fun z => I.pin p (List.mem_append_left _ z)) (h p), I.hok, I.len⟩

theorem nodup_ix {N : List Str} (hN : N.Nodup) {i j : Nat} {x : Str} (a : N[i]? = some x) (b : N[j]? = some x) : i = j := by
  obtain ⟨h1, e1⟩ := List.getElem?_eq_some_iff.mp a
  obtain ⟨h2, e2⟩ := List.getElem?_eq_some_iff.mp b
  exact (List.getElem_inj hN).mp (e1.trans e2.symm)

/-- a name is stored; what changed -/
theorem store_ok2 {M : Model} {A : Around} {E : Value → Shared → Prop} {i : Nat} {x : Str} {v : V} {u : Value} {Q : Unit → Shared → Prop} (I : Inv X pins σ H s) (hN : X.N.Nodup) (hi : X.N[i]? = some x) (hx : Loc X.env.scope x) (r : RelV v u)
    (h : ∀ s', Inv X pins (σ.set i (some v)) H s' → (∃ a, Heap.SameBut a s.heap s'.heap ∧ (a = X.env.locals ∨ X.env.cells.lookup x = some a)) → Q () s') (hf : X.fn x = true ∨ X.env.scope.names.lookup x = some .local := by first | exact .inl rfl | exact .inr rfl | assumption) : wpAny M A (storeName X.env x u) Q E s := by
  obtain ⟨m, hn, hl⟩ := id I.loc
  have hcls : (X.env.scope.kind == .class || (X.env.scope.kind == .module && X.env.locals != X.env.globals)) = false := by rw [I.ok.kind]; rfl
  have hiσ : i < σ.length := by rw [I.len]; exact (List.getElem?_eq_some_iff.mp hi).1
  have cne := I.cne
  have tracked : ∀ {a : Addr} {h' : Heap}, (∃ o, s.heap.get? a = some o ∧ H a = none) → Heap.SameBut a s.heap h' → HOk X.prog X.w H h' := fun {a h'} ha hs b ob e => by
    obtain ⟨_, _, hfree⟩ := ha
    refine (I.hok b ob e).stay (fun c w' hc q => (hs.2 c ?_).trans q) (fun _ q => q) fun _ _ q => q
    rintro rfl
    rcases hc with rfl | hc
    · rw [hfree] at e; cases e
    · rw [hfree] at hc; cases hc
  rcases hx with hk | hk
  · refine wpAny_storeName_local hk hn (fun h' hn' hs => ?_) hcls
    obtain ⟨oL, _, _, hoL, _⟩ := id hn
    refine h _ ⟨I.ok, I.os, I.bare, ⟨fun b o e n hb hx => ?_, fun b o e n hb hx => ?_, I.base.free, fun b o e hx => ?_, I.base.tups, I.base.frzs, I.base.tbls⟩, ⟨_, hn', fun j y v' e1 e2 e3 => ?_⟩, fun y c e => ?_, I.free, I.freeC, fun p hp => ?_, tracked ⟨oL, hoL, I.free⟩ hs, by simpa using I.len⟩ ⟨_, hs, .inl rfl⟩
    · exact (hs.2 b (Nat.ne_of_lt (Nat.lt_of_lt_of_le (Heap.lt_size e) I.ok.above))).trans (I.base.keep b o e n hb hx)
    · obtain ⟨sl, e1⟩ := I.base.slot b o e n hb hx
      exact ⟨sl, (hs.2 b (Nat.ne_of_lt (Nat.lt_of_lt_of_le (Heap.lt_size e) I.ok.above))).trans e1⟩
    · obtain ⟨o', e1⟩ := I.base.there b o e hx
      exact ⟨o', (hs.2 b (Nat.ne_of_lt (Nat.lt_of_lt_of_le (Heap.lt_size e) I.ok.above))).trans e1⟩
    · by_cases hj : j = i
      · subst hj
        rw [hi] at e1; cases e1
        rw [List.getElem?_set_self hiσ] at e2
        cases e2
        exact ⟨u, r, .inl ⟨hk, by simp⟩⟩
      · rw [List.getElem?_set_ne (Ne.symm hj)] at e2
        obtain ⟨u', r', q⟩ := hl j y v' e1 e2 e3
        refine ⟨u', r', ?_⟩
        rcases q with ⟨k, e⟩ | ⟨k, c, e, z⟩
        · refine .inl ⟨k, ?_⟩
          have : y ≠ x := fun e => hj (nodup_ix hN e1 (e ▸ hi))
          simp [this, e]
        · exact .inr ⟨k, c, e, z.sameBut hs (cne y c e)⟩
    · obtain ⟨w', z⟩ := I.cell y c e
      exact ⟨w', z.sameBut hs (cne y c e)⟩
    · obtain ⟨e, n, ne, nf, d⟩ := I.pin p hp
      exact ⟨(hs.2 p.1 ne).trans e, n, ne, nf, d⟩
  · have hfn : X.fn x = true := by
      rcases hf with z | z
      · exact z
      · rw [z] at hk; cases hk
    obtain ⟨c, hc⟩ := I.ok.has x (.inl hk)
    obtain ⟨w', z⟩ := I.cell x c hc
    refine wpAny_storeName_cell I.ok.kind hk hc z (fun h' hc' hs => ?_)
    obtain ⟨oc, hoc, hocd⟩ := id z
    refine h { s with heap := h' } ⟨I.ok, I.os, I.bare, ⟨fun b o e n hb hx => ?_, fun b o e n hb hx => ?_, I.base.free, fun b o e hx => ?_, I.base.tups, I.base.frzs, I.base.tbls⟩, ⟨m, hn.sameBut hs (Ne.symm (cne x c hc)), fun j y v' e1 e2 e3 => ?_⟩, fun y c' e => ?_, I.free, I.freeC, fun p hp => ?_, tracked ⟨oc, hoc, I.freeC x c hc⟩ hs, by simpa using I.len⟩ ⟨c, hs, .inr hc⟩
    · exact (hs.2 b (Nat.ne_of_lt (Nat.lt_of_lt_of_le (Heap.lt_size e) (I.ok.cab x c hfn hc)))).trans (I.base.keep b o e n hb hx)
    · obtain ⟨sl, e1⟩ := I.base.slot b o e n hb hx
      exact ⟨sl, (hs.2 b (Nat.ne_of_lt (Nat.lt_of_lt_of_le (Heap.lt_size e) (I.ok.cab x c hfn hc)))).trans e1⟩
    · obtain ⟨o', e1⟩ := I.base.there b o e hx
      exact ⟨o', (hs.2 b (Nat.ne_of_lt (Nat.lt_of_lt_of_le (Heap.lt_size e) (I.ok.cab x c hfn hc)))).trans e1⟩
    · by_cases hj : j = i
      · subst hj
        rw [hi] at e1; cases e1
        rw [List.getElem?_set_self hiσ] at e2
        cases e2
        exact ⟨u, r, .inr ⟨.inl hk, c, hc, hc'⟩⟩
      · rw [List.getElem?_set_ne (Ne.symm hj)] at e2
        obtain ⟨u', r', q⟩ := hl j y v' e1 e2 e3
        refine ⟨u', r', ?_⟩
        rcases q with q | ⟨k, c', e, z'⟩
        · exact .inl q
        · refine .inr ⟨k, c', e, z'.sameBut hs ?_⟩
          rintro rfl
          exact hj (nodup_ix hN e1 (I.ok.inj _ _ _ e hc ▸ hi))
    · by_cases hcc : c' = c
      · subst hcc; exact ⟨_, hc'⟩
      · obtain ⟨w2, z2⟩ := I.cell y c' e
        exact ⟨w2, z2.sameBut hs hcc⟩
    · obtain ⟨e, n, ne, nf, d⟩ := I.pin p hp
      refine ⟨(hs.2 p.1 ?_).trans e, n, ne, nf, d⟩
      intro q
      rw [q, hoc] at e
      have q' : oc = p.2 := Option.some.inj e
      exact d w' (by rw [← q']; exact hocd)
theorem store_ok {M : Model} {A : Around} {E : Value → Shared → Prop} {i : Nat} {x : Str} {v : V} {u : Value} {Q : Unit → Shared → Prop} (I : Inv X pins σ H s) (hN : X.N.Nodup) (hi : X.N[i]? = some x) (hx : Loc X.env.scope x) (r : RelV v u)
    (h : ∀ s', Inv X pins (σ.set i (some v)) H s' → Q () s') (hf : X.fn x = true ∨ X.env.scope.names.lookup x = some .local := by first | exact .inl rfl | exact .inr rfl | assumption) : wpAny M A (storeName X.env x u) Q E s :=
  store_ok2 I hN hi hx r (fun s' I' _ => h s' I') hf
/-- behind a call or a block, the state as it is -/
theorem Inv.call' {s' : Shared} {ch : List Addr} (I : Inv X pins σ H s) (ho : s'.os = s.os) (u : Un (frs X.stack) ch H H' s.heap s'.heap) (hok : HOk X.prog X.w H' s'.heap) (hg : AllBare s'.gens)
    (hch : ∀ b ∈ ch, (b ∈ X.ex ∨ X.s₀.heap.objs.size ≤ b) ∧ b ≠ X.env.locals ∧ (∀ x c, X.env.cells.lookup x = some c → c ≠ b) ∧ ∀ p ∈ X.pn ++ pins, p.1 ≠ b) : Inv X pins σ H' s' := by
  obtain ⟨h', g', d', t', o'⟩ := s'
  have e : o' = s.os := ho
  subst e
  exact I.call (g' := g') (t' := t') (d' := d') u hok hg hch
end

/-! ### the judgements -/
/-- an exception: its class, its own dict's address (where it has one), the abstract heap behind it -/
noncomputable abbrev XK := Value → Option Addr → Hp → Prop
noncomputable abbrev St := List (Option V)
noncomputable abbrev VK := V → Hp → Prop
/-- an expression's reading; a test's; an argument list's -/
noncomputable abbrev TE := St → Hp → VK → Prop
noncomputable abbrev TT := St → Hp → (Bool → Hp → Prop) → Prop
noncomputable abbrev TA := St → Hp → (List V → Hp → Prop) → Prop
/-- what is wanted behind a statement -/
structure Ends where
  nx : St → Hp → Prop
  rt : VK
  bk : St → Hp → Prop := fun _ _ => False
  ct : St → Hp → Prop := fun _ _ => False
noncomputable abbrev TS := Ends → St → Hp → Prop

noncomputable def EP (X : Cx) (pins : List (Addr × Obj)) (σ : St) (Q : VK) (u : Value) (s' : Shared) : Prop := Ex2 fun v H' => Inv X pins σ H' s' ∧ RelV v u ∧ Q v H'
noncomputable def TP (X : Cx) (pins : List (Addr × Obj)) (σ : St) (Q : Bool → Hp → Prop) (b : Bool) (s' : Shared) : Prop := ∃ H', Inv X pins σ H' s' ∧ Q b H'
noncomputable def AP (X : Cx) (pins : List (Addr × Obj)) (σ : St) (Q : List V → Hp → Prop) (us : List Value) (s' : Shared) : Prop := Ex2 fun vs H' => Inv X pins σ H' s' ∧ Vals vs us ∧ Q vs H'
noncomputable def SP (X : Cx) (pins : List (Addr × Obj)) (D : Ends) (f : Flow) (s' : Shared) : Prop :=
  match f with
  | .next => Ex2 fun σ' H' => Inv X pins σ' H' s' ∧ D.nx σ' H'
  | .brk => Ex2 fun σ' H' => Inv X pins σ' H' s' ∧ D.bk σ' H'
  | .cont => Ex2 fun σ' H' => Inv X pins σ' H' s' ∧ D.ct σ' H'
  | .ret u => Ex3 fun v σ' H' => Inv X pins σ' H' s' ∧ RelV v u ∧ D.rt v H'

noncomputable def PE (X : Cx) (e : Expr) (t : TE) : Prop :=
  ∀ ⦃pins : List (Addr × Obj)⦄ (s : Shared) (σ : St) (H : Hp) (Q : VK), Inv X pins σ H s → t σ H Q → wpAny (model X.prog X.w) X.A (eval e X.env) (EP X pins σ Q) X.xe s
noncomputable def PT (X : Cx) (e : Expr) (t : TT) : Prop :=
  ∀ ⦃pins : List (Addr × Obj)⦄ (s : Shared) (σ : St) (H : Hp) (Q : Bool → Hp → Prop), Inv X pins σ H s → t σ H Q → wpAny (model X.prog X.w) X.A (isTrue e X.env (eval e X.env)) (TP X pins σ Q) X.xe s
/-- a test whatever its 'whole' is (and, or) -/
noncomputable def PW (X : Cx) (e : Expr) (t : TT) : Prop :=
  ∀ ⦃whole : Sem Value⦄ ⦃pins : List (Addr × Obj)⦄ (s : Shared) (σ : St) (H : Hp) (Q : Bool → Hp → Prop), Inv X pins σ H s → t σ H Q → wpAny (model X.prog X.w) X.A (isTrue e X.env whole) (TP X pins σ Q) X.xe s
theorem PW.pt {X : Cx} {e : Expr} {t : TT} (h : PW X e t) : PT X e t := fun pins s σ H Q I q => h s σ H Q I q
/-- an argument list (no star), from the left -/
noncomputable def PA (X : Cx) (es : List Expr) (t : TA) : Prop :=
  ∀ ⦃pos : Pos⦄ ⦃pins : List (Addr × Obj)⦄ (s : Shared) (σ : St) (H : Hp) (Q : List V → Hp → Prop), Inv X pins σ H s → t σ H Q → wpAny (model X.prog X.w) X.A (spliced (backTo pos (starEach es X.env))) (AP X pins σ Q) X.xe s
noncomputable def PS (X : Cx) (st : Stmt) (t : TS) : Prop :=
  ∀ ⦃pins : List (Addr × Obj)⦄ (s : Shared) (σ : St) (H : Hp) (D : Ends), Inv X pins σ H s → t D σ H → wpAny (model X.prog X.w) X.A (exec st X.env) (SP X pins D) X.xe s
noncomputable def PSs (X : Cx) (st : List Stmt) (t : TS) : Prop :=
  ∀ ⦃pins : List (Addr × Obj)⦄ (s : Shared) (σ : St) (H : Hp) (D : Ends), Inv X pins σ H s → t D σ H → wpAny (model X.prog X.w) X.A (execs st X.env) (SP X pins D) X.xe s
/-- weaken the end -/
theorem thn {α : Type} {t : Sem α} {Q Q' : α → Shared → Prop} {M : Model} {A : Around} {E : Value → Shared → Prop} {s : Shared} (h : wpAny M A t Q E s) (hQ : ∀ a s, Q a s → Q' a s) : wpAny M A t Q' E s := wpAny_mono h hQ fun _ _ x => x
end L2

namespace L2
open PySem PySem.Spec PyProof.Rows
section
variable {X : Cx}

/-! ### names and constants -/
noncomputable def tVar (i : Nat) : TE := fun σ H Q => ∃ v, σ[i]? = some (some v) ∧ Q v H
noncomputable def tC (v : V) : TE := fun _ H Q => Q v H
theorem pe_var {i : Nat} {x : Str} {pos : Pos} (hN : X.N[i]? = some x) (hv : Vis X.env.scope x) (hd : (x == ("__debug__" : Str)) = false := by decide) (hcd : (x == ("__classdict__" : Str)) = false := by decide) : PE X (.Name x pos) (tVar i) := by
  intro pins s σ H Q I h
  obtain ⟨v, e, h⟩ := h
  obtain ⟨m, hn, hl⟩ := I.loc
  obtain ⟨u, r, l⟩ := hl i x v hN e hv
  have fin : EP X pins σ Q u s := ⟨v, H, I, r, h⟩
  rcases l with ⟨hk, hm⟩ | ⟨hk, c, hc, hcell⟩
  · exact wpAny_Name (wpAny_loadName_local I.ok.kind hk hn hm fin) hd
  · rcases hk with hk | hk
    · exact wpAny_Name (wpAny_loadName_cell I.ok.kind hk hc hcell fin) hd
    · exact wpAny_Name (wpAny_loadName_free I.ok.kind hk hc hcell fin hcd) hd
theorem pe_int {i j pos} : PE X (.Constant (.int i) j pos) (tC (.int i)) := fun _ _ _ H _ I h => wpAny_Constant_int ⟨.int i, H, I.tok _, ⟨_, rfl⟩, h⟩
theorem pe_bl {b j pos} : PE X (.Constant (.bool b) j pos) (tC (.bl b)) := fun _ _ _ H _ I h => Constant_bool ⟨.bl b, H, I, rfl, h⟩
theorem pe_str {x j pos} : PE X (.Constant (.str x) j pos) (tC (.str x)) := fun _ _ _ H _ I h => Calls.Constant_str ⟨.str x, H, I.tok _, ⟨_, rfl⟩, h⟩

/-- a global name of the def -/
noncomputable def Gl (X : Cx) (x : Str) : Prop := X.env.kindOf x = some .globalImplicit
theorem ld_glob {E : Value → Shared → Prop} {pins : List (Addr × Obj)} {s : Shared} {σ : St} {H : Hp} {x : Str} {u : Value} {pos : Pos} {Q : Value → Shared → Prop} (I : Inv X pins σ H s) (hg : Gl X x) (hm : X.mg x = some u) (h : Q u s)
    (hd : (x == ("__debug__" : Str)) = false := by decide) : wpAny (model X.prog X.w) X.A (eval (.Name x pos) X.env) Q E s :=
  Calls.Name_function_global I.ok.kind hg (Calls.loadGlobal_global (by rw [I.ok.glob]; exact I.mod.glob.keeps I.bk) hm h) hd
theorem ld_blt {E : Value → Shared → Prop} {pins : List (Addr × Obj)} {s : Shared} {σ : St} {H : Hp} {x : Str} {u : Value} {pos : Pos} {Q : Value → Shared → Prop} (I : Inv X pins σ H s) (hg : Gl X x) (hm : X.mg x = none) (hv : bootBuiltins x = some u) (h : Q u s)
    (hn : x ≠ "__name__" := by decide) (hd : (x == ("__debug__" : Str)) = false := by decide) : wpAny (model X.prog X.w) X.A (eval (.Name x pos) X.env) Q E s := by
  obtain ⟨mb, h1, h2⟩ := I.mod.blt
  exact Calls.Name_function_global I.ok.kind hg (Calls.loadGlobal_builtin (by rw [I.ok.glob]; exact I.mod.glob.keeps I.bk) hm (by rw [I.ok.blt]; exact h1.keeps I.bk) ((h2 x hn).trans hv) h) hd
/-- a module's constant, a class, a function, as a value -/
theorem pe_glob {x : Str} {v : V} {u : Value} {pos : Pos} (hg : Gl X x) (hm : X.mg x = some u) (r : RelV v u) (hd : (x == ("__debug__" : Str)) = false := by decide) : PE X (.Name x pos) (tC v) :=
  fun _ _ _ H _ I h => ld_glob I hg hm ⟨v, H, I, r, h⟩ hd
/-! ### arithmetic -/
variable {a b : Expr} {ta tb : TE} {pos : Pos}
/-! ### comparisons -/
/-- a comparison as a value, as a test -/
noncomputable def tB (t : TE) : TT := fun σ H Q => t σ H fun x H1 => ∃ c, x = .bl c ∧ Q c H1
/-- an expression whose value is a bool, as a test -/
theorem pt_val {e : Expr} {t : TE} (h : PE X e t) (he : ∀ whole, isTrue e X.env whole = (do let v ← whole; standAt e.pos; holding [v] (truthy v)) := by intro _; rfl) : PT X e (tB t) := by
  intro pins s σ H Q I hw
  refine isTrue_plain (thn (h s σ H _ I hw) fun v s1 ⟨x, H1, I1, r1, q1⟩ => ?_) (he _)
  obtain ⟨d, rfl, q⟩ := q1
  cases r1
  exact wpAny_truthy_bool ⟨H1, I1, q⟩

/-! ### and, or, not -/
variable {tA tB' : TT} {rest : List Expr}
noncomputable def tAnd (t u : TT) : TT := fun σ H Q => t σ H fun c H1 => if c = true then u σ H1 Q else Q false H1
noncomputable def tOr (t u : TT) : TT := fun σ H Q => t σ H fun c H1 => if c = true then Q true H1 else u σ H1 Q
noncomputable def tNot (t : TT) : TT := fun σ H Q => t σ H fun c H1 => Q (!c) H1
theorem pw_and1 (ha : PT X a tA) : PW X (.BoolOp .And [a] pos) tA := by
  intro wh pins s σ H Q I h
  refine isTrue_and (thn (ha s σ H Q I h) fun c s1 e => ?_)
  cases c with
  | true => exact isTrue_and_nil e
  | false => exact e
theorem pw_or1 (ha : PT X a tA) : PW X (.BoolOp .Or [a] pos) tA := by
  intro wh pins s σ H Q I h
  refine isTrue_or (thn (ha s σ H Q I h) fun c s1 e => ?_)
  cases c with
  | false => exact isTrue_or_nil e
  | true => exact e
theorem pw_and (ha : PT X a tA) (hb : PW X (.BoolOp .And (b :: rest) pos) tB') : PW X (.BoolOp .And (a :: b :: rest) pos) (tAnd tA tB') := by
  intro wh pins s σ H Q I h
  refine isTrue_and (thn (ha s σ H _ I h) fun c s1 ⟨H1, I1, q1⟩ => ?_)
  cases c with
  | true => exact hb s1 σ H1 Q I1 q1
  | false => exact ⟨H1, I1, q1⟩
theorem pw_or (ha : PT X a tA) (hb : PW X (.BoolOp .Or (b :: rest) pos) tB') : PW X (.BoolOp .Or (a :: b :: rest) pos) (tOr tA tB') := by
  intro wh pins s σ H Q I h
  refine isTrue_or (thn (ha s σ H _ I h) fun c s1 ⟨H1, I1, q1⟩ => ?_)
  cases c with
  | true => exact ⟨H1, I1, q1⟩
  | false => exact hb s1 σ H1 Q I1 q1
theorem pt_not (ha : PT X a tA) : PT X (.UnaryOp .Not a pos) (tNot tA) := by
  intro pins s σ H Q I h
  exact isTrue_not (ha s σ H (fun c H1 => Q (!c) H1) I h)
/-- .. as values (bools) -/
noncomputable def tAndV (ta tb : TE) : TE := fun σ H Q => ta σ H fun x H1 => ∃ c, x = .bl c ∧ if c = true then tb σ H1 Q else Q (.bl false) H1
noncomputable def tOrV (ta tb : TE) : TE := fun σ H Q => ta σ H fun x H1 => ∃ c, x = .bl c ∧ if c = true then Q (.bl true) H1 else tb σ H1 Q
theorem pe_one {op} {t : TE} (h : PE X a t) : PE X (.BoolOp op [a] pos) t := fun pins s σ H Q I hw => BoolOp_one (h s σ H Q I hw)
theorem pe_and (ha : PE X a ta) (hb : PE X (.BoolOp .And (b :: rest) pos) tb) : PE X (.BoolOp .And (a :: b :: rest) pos) (tAndV ta tb) := by
  intro pins s σ H Q I h
  refine BoolOp_and (thn (ha s σ H _ I h) fun v s1 ⟨x, H1, I1, r1, q1⟩ => ?_)
  obtain ⟨c, rfl, q1⟩ := q1
  cases r1
  refine wpAny_truthy_bool ?_
  cases c with
  | true => exact hb s1 σ H1 Q I1 q1
  | false => exact ⟨.bl false, H1, I1, rfl, q1⟩
theorem pe_or (ha : PE X a ta) (hb : PE X (.BoolOp .Or (b :: rest) pos) tb) : PE X (.BoolOp .Or (a :: b :: rest) pos) (tOrV ta tb) := by
  intro pins s σ H Q I h
  refine BoolOp_or (thn (ha s σ H _ I h) fun v s1 ⟨x, H1, I1, r1, q1⟩ => ?_)
  obtain ⟨c, rfl, q1⟩ := q1
  cases r1
  refine wpAny_truthy_bool ?_
  cases c with
  | false => exact hb s1 σ H1 Q I1 q1
  | true => exact ⟨.bl true, H1, I1, rfl, q1⟩
/-- a if t else b -/
noncomputable def tIf (t : TT) (ta tb : TE) : TE := fun σ H Q => t σ H fun c H1 => if c = true then ta σ H1 Q else tb σ H1 Q
theorem pe_ifExp {c : Expr} (hc : PT X c tA) (ha : PE X a ta) (hb : PE X b tb) : PE X (.IfExp c a b pos) (tIf tA ta tb) := by
  intro pins s σ H Q I h
  refine wpAny_IfExp (thn (hc s σ H _ I h) fun d s1 ⟨H1, I1, q1⟩ => ?_)
  cases d with
  | true => exact ha s1 σ H1 Q I1 q1
  | false => exact hb s1 σ H1 Q I1 q1
end
end L2

namespace L2
open PySem PySem.Spec PyProof.Rows

/-! ### a list, a tuple that is read: tracked, frozen, or an object of the module -/
noncomputable def SqL (K : PySem.W.Frag) (H : Hp) (a : Addr) (xs : List V) : Prop :=
  Rd H a (.lst xs) ∨
    Ex3 fun (o : Obj) (its : Array Value) (n : Nat) => K.lookup a = some o ∧ o.cls = .type "list" ∧ o.dict = none ∧ o.data = .seq its n ∧ its.size ≤ sizeLine ∧ Vals xs its.toList
noncomputable def SqT (K : PySem.W.Frag) (H : Hp) (a : Addr) (xs : List V) : Prop :=
  Rd H a (.tup xs) ∨
    Ex3 fun (o : Obj) (its : Array Value) (n : Nat) => K.lookup a = some o ∧ o.cls = .type "tuple" ∧ o.data = .seq its n ∧ its.size ≤ sizeLine ∧ Vals xs its.toList
noncomputable def absV : Value → Option V
  | .none => some .non
  | .bool b => some (.bl b)
  | .int i _ => some (.int i)
  | .str x _ => some (.str x)
  | .bytes b _ => some (.byt b)
  | .float b _ => some (.flt b)
  | .ref a => some (.ref a)
  | .type n => some (.ty n)
  | _ => none
theorem RelV.abs {x : V} {u : Value} (r : RelV x u) : absV u = some x := by
  cases x with
  | non => cases r; rfl
  | bl _ => cases r; rfl
  | int _ => obtain ⟨t, rfl⟩ := r; rfl
  | str _ => obtain ⟨t, rfl⟩ := r; rfl
  | byt _ => obtain ⟨t, rfl⟩ := r; rfl
  | flt _ => obtain ⟨t, rfl⟩ := r; rfl
  | ref _ => cases r; rfl
  | ty _ => cases r; rfl
theorem RelV.inj {x y : V} {u : Value} (r : RelV x u) (q : RelV y u) : x = y := Option.some.inj (r.abs.symm.trans q.abs)
theorem Vals.inj : ∀ {xs ys : List V} {us : List Value}, Vals xs us → Vals ys us → xs = ys
  | _, _, _, .nil, .nil => rfl
  | _, _, _, .cons r t, .cons r' t' => by rw [r.inj r', Vals.inj t t']
section
variable {X : Cx} {pins : List (Addr × Obj)} {σ : St} {H : Hp} {s : Shared} {a : Addr} {xs ys : List V}
theorem SqL.of {K : PySem.W.Frag} (h : H a = some (.lst xs)) : SqL K H a xs := .inl (.inl h)
theorem SqT.of {K : PySem.W.Frag} (h : H a = some (.tup xs)) : SqT K H a xs := .inl (.inl h)
theorem Inv.list (I : Inv X pins σ H s) (h : SqL X.K H a xs) : ∃ its : List Value, Vals xs its ∧ PlainL s.heap a its.toArray ∧ xs.length ≤ sizeLine := by
  rcases h with h | ⟨o, its, n, hk, hc, hd, hs, hz, r⟩
  · obtain ⟨z, its, n, r, e⟩ := h.ok I.hok
    exact ⟨its, r, ⟨_, n, e, rfl, rfl, rfl⟩, z⟩
  · refine ⟨its.toList, r, ⟨o, n, I.kIn a o hk, hc, hd, by simpa using hs⟩, ?_⟩
    have e := r.length
    simp only [Array.length_toList] at e
    (first | lia | omega)
theorem Inv.tuple (I : Inv X pins σ H s) (h : SqT X.K H a xs) : ∃ its : List Value, Vals xs its ∧ IsTup s.heap a its.toArray ∧ xs.length ≤ sizeLine := by
  rcases h with h | ⟨o, its, n, hk, hc, hs, hz, r⟩
  · obtain ⟨z, its, r, p⟩ := h.ok I.hok
    exact ⟨its, r, p, z⟩
  · refine ⟨its.toList, r, ⟨o, I.kIn a o hk, hc, n, by simpa using hs⟩, ?_⟩
    have e := r.length
    simp only [Array.length_toList] at e
    (first | lia | omega)
theorem Inv.list_inj (I : Inv X pins σ H s) (h : SqL X.K H a xs) (h' : SqL X.K H a ys) : xs = ys := by
  obtain ⟨its, r, ⟨o, n, e, _, _, d⟩, _⟩ := I.list h
  obtain ⟨its', r', ⟨o', n', e', _, _, d'⟩, _⟩ := I.list h'
  rw [e] at e'; cases e'
  rw [d] at d'
  injection d' with d1 _
  have : its = its' := by simpa using congrArg Array.toList d1
  subst this
  exact r.inj r'
theorem Inv.tuple_inj (I : Inv X pins σ H s) (h : SqT X.K H a xs) (h' : SqT X.K H a ys) : xs = ys := by
  obtain ⟨its, r, ⟨o, e, _, n, d⟩, _⟩ := I.tuple h
  obtain ⟨its', r', ⟨o', e', _, n', d'⟩, _⟩ := I.tuple h'
  rw [e] at e'; cases e'
  rw [d] at d'
  injection d' with d1 _
  have : its = its' := by simpa using congrArg Array.toList d1
  subst this
  exact r.inj r'
end

/-! ### another wish about exceptions -/
noncomputable abbrev Cx.wish (X : Cx) (E : Value → Shared → Prop) : Cx := { X with xe := E }
/-- no exception leaves -/
noncomputable abbrev Cx.nox (X : Cx) : Cx := X.wish fun _ _ => False
theorem Cx.Ok.wish {X : Cx} (ok : X.Ok) (E : Value → Shared → Prop) : (X.wish E).Ok :=
  ⟨ok.mod, ok.kind, ok.glob, ok.blt, ok.above, ok.inj, ok.has, ok.cab, ok.hd, ok.frames, ok.stk, ok.exf, ok.bs, ok.bsz, ok.noex, ok.exfs, ok.funs, ok.frf⟩
theorem Cx.Ok.unwish {X : Cx} {E : Value → Shared → Prop} (ok : (X.wish E).Ok) : X.Ok :=
  ⟨ok.mod, ok.kind, ok.glob, ok.blt, ok.above, ok.inj, ok.has, ok.cab, ok.hd, ok.frames, ok.stk, ok.exf, ok.bs, ok.bsz, ok.noex, ok.exfs, ok.funs, ok.frf⟩
section
variable {X : Cx} {pins : List (Addr × Obj)} {σ : St} {H : Hp} {s : Shared} {E : Value → Shared → Prop}
theorem Inv.wish (I : Inv X pins σ H s) (E : Value → Shared → Prop) : Inv (X.wish E) pins σ H s := ⟨I.ok.wish E, I.os, I.bare, I.base, I.loc, I.cell, I.free, I.freeC, I.pin, I.hok, I.len⟩
theorem Inv.unwish (I : Inv (X.wish E) pins σ H s) : Inv X pins σ H s := ⟨I.ok.unwish, I.os, I.bare, I.base, I.loc, I.cell, I.free, I.freeC, I.pin, I.hok, I.len⟩
theorem SP.unwish {D : Ends} {f : Flow} {s' : Shared} (h : SP (X.wish E) pins D f s') : SP X pins D f s' := by
  cases f with
  | next => obtain ⟨σ', H', I, q⟩ := h; exact ⟨σ', H', I.unwish, q⟩
  | brk => obtain ⟨σ', H', I, q⟩ := h; exact ⟨σ', H', I.unwish, q⟩
  | cont => obtain ⟨σ', H', I, q⟩ := h; exact ⟨σ', H', I.unwish, q⟩
  | ret u => obtain ⟨v, σ', H', I, r, q⟩ := h; exact ⟨v, σ', H', I.unwish, r, q⟩
theorem PSs.nox {st : List Stmt} {t : TS} (h : PSs X.nox st t) : PSs X st t := fun pins s σ H D I hw =>
  wpAny_mono (h s σ H D (I.wish _) hw) (fun _ _ q => q.unwish) fun _ _ z => False.elim z
end

/-! ### blocks and small statements -/
section
variable {X : Cx} {st : Stmt} {rest : List Stmt} {t u : TS} {e : Expr} {te : TE} {pos : Pos}
noncomputable def tNext : TS := fun D σ H => D.nx σ H
noncomputable def tSeq (t u : TS) : TS := fun D σ H => t { D with nx := u D } σ H
theorem pss_nil : PSs X [] tNext := fun _ _ σ H _ I h => wpAny_execs_nil ⟨σ, H, I, h⟩
theorem pss_cons (h1 : PS X st t) (h2 : PSs X rest u) : PSs X (st :: rest) (tSeq t u) := by
  intro pins s σ H D I h
  refine wpAny_execs_cons (thn (h1 s σ H { D with nx := u D } I h) fun f s1 q => ?_)
  cases f with
  | next =>
    obtain ⟨σ', H', I', q⟩ := q
    exact h2 s1 σ' H' D I' q
  | ret v => exact q
  | brk => exact q
  | cont => exact q
theorem pss_one (h1 : PS X st t) : PSs X [st] t := by
  intro pins s σ H D I h
  refine wpAny_execs_cons (thn (h1 s σ H D I h) fun f s1 q => ?_)
  cases f with
  | next => exact wpAny_execs_nil q
  | ret v => exact q
  | brk => exact q
  | cont => exact q
noncomputable def tBreak : TS := fun D σ H => D.bk σ H
theorem ps_break : PS X (.Break pos) tBreak := fun _ _ σ H _ I h => wpAny_Break ⟨σ, H, I, h⟩
/-- in a def's body nothing is shown -/
theorem Inv.quiet {pins : List (Addr × Obj)} {σ : St} {H : Hp} {s : Shared} (I : Inv X pins σ H s) : interactive X.env = false := by simp [interactive, I.ok.kind]
/-- an expression whose value is dropped -/
noncomputable def tDrop (te : TE) : TS := fun D σ H => te σ H fun _ H1 => D.nx σ H1
theorem ps_expr (he : PE X e te) (hs : swapsWith e none pos.line X.env = pure false := by rfl) : PS X (.Expr e pos) (tDrop te) := by
  intro pins s σ H D I h
  exact wpAny_Expr_any (thn (he s σ H _ I h) fun v s1 ⟨x, H1, I1, r1, q1⟩ => ⟨σ, H1, I1, q1⟩) I.quiet hs
noncomputable def tRet (te : TE) : TS := fun D σ H => te σ H D.rt
theorem ps_ret (he : PE X e te) : PS X (.Return (some e) pos) (tRet te) := by
  intro pins s σ H D I h
  exact wpAny_Return_some (thn (he s σ H _ I h) fun v s1 ⟨x, H1, I1, r1, q1⟩ => ⟨x, σ, H1, I1, r1, q1⟩)
noncomputable def tIfS (c : TT) (t u : TS) : TS := fun D σ H => c σ H fun b H1 => if b = true then t D σ H1 else u D σ H1
theorem ps_if {c : Expr} {a b : List Stmt} {tc : TT} (hc : PT X c tc) (ha : PSs X a t) (hb : PSs X b u) : PS X (.If c a b pos) (tIfS tc t u) := by
  intro pins s σ H D I h
  refine wpAny_If (thn (hc s σ H _ I h) fun d s1 ⟨H1, I1, q1⟩ => ?_)
  cases d with
  | true => exact ha s1 σ H1 D I1 q1
  | false => exact hb s1 σ H1 D I1 q1
end

/-! ### targets -/
noncomputable abbrev TG := V → St → Hp → (St → Hp → Prop) → Prop
noncomputable abbrev TGs := List V → St → Hp → (St → Hp → Prop) → Prop
noncomputable def PG (X : Cx) (target : Expr) (t : TG) : Prop :=
  ∀ ⦃pins : List (Addr × Obj)⦄ (s : Shared) (σ : St) (H : Hp) (v : V) (u : Value) (Q : St → Hp → Prop), Inv X pins σ H s → RelV v u → t v σ H Q →
    wpAny (model X.prog X.w) X.A (assign target X.env u) (fun _ s' => Ex2 fun σ' H' => Inv X pins σ' H' s' ∧ Q σ' H') X.xe s
/-- several targets, one after another -/
noncomputable def PGs (X : Cx) (ts : List Expr) (t : TGs) : Prop :=
  ∀ ⦃pins : List (Addr × Obj)⦄ (s : Shared) (σ : St) (H : Hp) (vs : List V) (us : List Value) (Q : St → Hp → Prop), Inv X pins σ H s → Vals vs us → t vs σ H Q →
    wpAny (model X.prog X.w) X.A (assignInOrder ((assignEach ts X.env).map (·.2)) us) (fun _ s' => Ex2 fun σ' H' => Inv X pins σ' H' s' ∧ Q σ' H') X.xe s
/-- o[i] = v, by values -/
noncomputable abbrev TSet := V → V → V → Hp → (Hp → Prop) → Prop
noncomputable def PSet (X : Cx) (t : TSet) : Prop :=
  ∀ ⦃pins : List (Addr × Obj)⦄ (s : Shared) (σ : St) (H : Hp) (o i v : V) (ov iv u : Value) (Q : Hp → Prop), Inv X pins σ H s → RelV o ov → RelV i iv → RelV v u → t o i v H Q →
    wpAny (model X.prog X.w) X.A (setItem ov iv u) (fun _ s' => ∃ H', Inv X pins σ H' s' ∧ Q H') X.xe s
section
variable {X : Cx} {pos : Pos}
noncomputable def gName (i : Nat) : TG := fun v σ H Q => Q (σ.set i (some v)) H
theorem pg_name {i : Nat} {x : Str} (hN : X.N.Nodup) (hi : X.N[i]? = some x) (hx : Loc X.env.scope x) (hf : X.fn x = true ∨ X.env.scope.names.lookup x = some .local := by first | exact .inl rfl | exact .inr rfl | assumption) : PG X (.Name x pos) (gName i) := by
  intro pins s σ H v u Q I r h
  exact wpAny_assign_Name (store_ok I hN hi hx r (fun s' I' => ⟨_, H, I', h⟩) hf)
noncomputable def gNil : TGs := fun vs σ H Q => vs = [] ∧ Q σ H
noncomputable def gCons (t : TG) (u : TGs) : TGs := fun vs σ H Q => Ex2 fun v r => vs = v :: r ∧ t v σ H fun σ' H' => u r σ' H' Q
theorem pgs_nil : PGs X [] gNil := by
  intro pins s σ H vs us Q I r h
  obtain ⟨e, h⟩ := h
  subst e
  cases r
  exact assignInOrder_nil ⟨σ, H, I, h⟩
theorem pgs_cons {e : Expr} {es : List Expr} {t : TG} {u : TGs} (h1 : PG X e t) (h2 : PGs X es u)
    (hs : (assignEach (e :: es) X.env).map (·.2) = assign e X.env :: (assignEach es X.env).map (·.2) := by rfl) : PGs X (e :: es) (gCons t u) := by
  intro pins s σ H vs us Q I r h
  obtain ⟨v, vr, e1, h⟩ := h
  subst e1
  cases r with
  | cons r rr =>
    rw [hs]
    refine assignInOrder_cons (thn (h1 s σ H _ _ _ I r h) fun _ s1 ⟨σ1, H1, I1, q1⟩ => ?_)
    exact h2 s1 σ1 H1 _ _ Q I1 rr q1
/-- (a, b, ..) = a tuple of that length -/
noncomputable def gTup (K : PySem.W.Frag) (n : Nat) (t : TGs) : TG := fun v σ H Q => Ex2 fun a xs => v = .ref a ∧ SqT K H a xs ∧ xs.length = n ∧ t xs σ H Q
theorem pg_tup {es : List Expr} {k : Nat} {t : TGs} {n : Nat} (hc : X.calm = true) (h : PGs X es t)
    (hn : (assignEach es X.env).length = n := by rfl) (hst : (assignEach es X.env).findIdx? (·.1) = none := by rfl) : PG X (.Tuple es k pos) (gTup X.K n t) := by
  intro pins s σ H v u Q I r hw
  obtain ⟨a, xs, e1, hq, hl, hw⟩ := hw
  subst e1
  cases r
  obtain ⟨its, rv, ht, hz⟩ := I.tuple hq
  refine assign_Tuple_tuple (I.ok.hd hc) ht (by simp [hn, ← hl, rv.length]) hst fun h' hx => ?_
  have I1 : Inv X pins σ H { s with heap := h' } := I.kept (t' := s.toks) fun b o e => hx b o (Nat.ne_of_lt (Heap.lt_size e)) e
  exact h _ σ H xs _ Q I1 (by simpa using rv) hw
/-- o[i] = .. -/
noncomputable def gSub (to ti : TE) (t : TSet) : TG := fun v σ H Q => to σ H fun o H1 => ti σ H1 fun i H2 => t o i v H2 fun H3 => Q σ H3
theorem pg_sub {o i : Expr} {to ti : TE} {t : TSet} (ho : PE X o to) (hi : PE X i ti) (hs : PSet X t)
    (ha : ∀ v, assign (.Subscript o i pos) X.env v = (do
      let ov ← holding [v] (eval o X.env)
      let iv ← holding [v, ov] (eval i X.env)
      standAt pos
      holding [v, ov, iv] (setItem ov iv v)
      release [v, ov, iv] []) := by intro _; rfl) : PG X (.Subscript o i pos) (gSub to ti t) := by
  intro pins s σ H v u Q I r h
  rw [ha]
  refine wpAny_bind (wpAny_holding (thn (ho s σ H _ I h) fun ov s1 ⟨x, H1, I1, r1, q1⟩ => ?_))
  refine wpAny_bind (wpAny_holding (thn (hi s1 σ H1 _ I1 q1) fun iv s2 ⟨y, H2, I2, r2, q2⟩ => ?_))
  refine wpAny_bind (wpAny_standAt (wpAny_bind (wpAny_holding (thn (hs s2 σ H2 x y v ov iv u _ I2 r1 r2 r q2) fun _ s3 ⟨H3, I3, q3⟩ => ?_))))
  exact wpAny_release ⟨σ, H3, I3, q3⟩
/-- target = value -/
noncomputable def tAsg (te : TE) (g : TG) : TS := fun D σ H => te σ H fun x H1 => g x σ H1 D.nx
theorem ps_asg {tg e : Expr} {te : TE} {g : TG} (he : PE X e te) (hg : PG X tg g) (hs : swapsWithSole [tg] e pos.line X.env = pure false := by rfl) (hw : swappedStores [tg] e X.env = pure none := by rfl)
    (h1 : (assignEach [tg] X.env).map (·.2) = [assign tg X.env] := by rfl) : PS X (.Assign [tg] e pos) (tAsg te g) := by
  intro pins s σ H D I h
  refine wpAny_Assign_stores (thn (he s σ H _ I h) fun v s1 ⟨x, H1, I1, r1, q1⟩ => ?_) hs hw
  rw [h1]
  exact thn (hg s1 σ H1 x v _ I1 r1 q1) fun _ s2 q => q
/-- name = value -/
theorem ps_set {i : Nat} {x : Str} {e : Expr} {te : TE} {pos' : Pos} (hN : X.N.Nodup) (hi : X.N[i]? = some x) (hx : Loc X.env.scope x) (he : PE X e te) (hs : swapsWith e (some (.Name x pos')) pos.line X.env = pure false := by rfl) (hf : X.fn x = true ∨ X.env.scope.names.lookup x = some .local := by first | exact .inl rfl | exact .inr rfl | assumption) :
    PS X (.Assign [.Name x pos'] e pos) (tAsg te (gName i)) := by
  intro pins s σ H D I h
  refine wpAny_Assign_Name (thn (he s σ H _ I h) fun v s1 ⟨y, H1, I1, r1, q1⟩ => ?_) hs
  exact store_ok I1 hN hi hx r1 (fun s2 I2 => ⟨_, H1, I2, q1⟩) hf
/-- a, b = x, y with plain local names: stored from the right; the pair itself is not tracked (the opening rows as in PyProof/Rows/TupAssign.lean:23) -/
noncomputable def tPar (i j : Nat) (ta : TA) : TS := fun D σ H => ta σ H fun vs H1 => Ex2 fun v w => vs = [v, w] ∧ D.nx ((σ.set i (some v)).set j (some w)) H1
theorem ps_par {i j : Nat} {x y : Str} {a b : Expr} {ta : TA} {px py pt : Pos} {kt k2 pt2} (hc : X.calm = true) (hN : X.N.Nodup) (hi : X.N[i]? = some x) (hj : X.N[j]? = some y) (hij : i ≠ j)
    (hx : X.env.scope.names.lookup x = some .local) (hy : X.env.scope.names.lookup y = some .local) (ha : PA X [a, b] ta)
    (hw : swappedStores [.Tuple [.Name x px, .Name y py] kt pt] (.Tuple [a, b] k2 pt2) X.env = pure (some [x, y]))
    (hs : swapsWithSole [.Tuple [.Name x px, .Name y py] kt pt] (.Tuple [a, b] k2 pt2) pos.line X.env = pure false := by rfl) :
    PS X (.Assign [.Tuple [.Name x px, .Name y py] kt pt] (.Tuple [a, b] k2 pt2) pos) (tPar i j ta) := by
  intro pins s σ H D I h
  rw [exec_Assign_arm]
  refine wpAny_bind (wpAny_standAt ?_)
  rw [hs]
  refine wpAny_bind (wpAny_pure ?_)
  rw [if_neg (by decide)]
  refine wpAny_bind (Tuple_ (thn (ha s σ H _ I h) fun us s1 ⟨vs, H1, I1, r1, q1⟩ => ?_))
  obtain ⟨v, w, e1, q1⟩ := q1
  subst e1
  obtain ⟨u1, u2, rfl, rv, rw'⟩ : ∃ u1 u2, us = [u1, u2] ∧ RelV v u1 ∧ RelV w u2 := by
    cases r1 with
    | cons p q =>
      cases q with
      | cons p' q' =>
        cases q'
        exact ⟨_, _, rfl, p, p'⟩
  refine wpAny_newObj_type ?_ (by show 2 ≤ sizeLine; decide)
  have I2 : Inv X pins σ H1 { s1 with heap := s1.heap.push { cls := .type "tuple", data := .seq [u1, u2].toArray } } := I1.kept (t' := s1.toks) fun b o e => Heap.get?_push_of_some _ e
  rw [hw]
  refine wpAny_bind (wpAny_pure ?_)
  show wpAny (model X.prog X.w) X.A (do rule "assign.swapped-stores"; let items ← unpackItems (.ref s1.heap.objs.size) 2 none; assignInOrder [fun v => bindName X.env y v, fun v => bindName X.env x v] items.reverse; pure Flow.next) _ _ _
  refine wpAny_bind (wpAny_rule (wpAny_bind (unpackItems_tuple (items := #[u1, u2]) (I.ok.hd hc) (IsTup.new s1.heap _) fun h' hx' => ?_)))
  have I3 := I2.kept (h' := h') (t' := s1.toks) fun b o e => hx' b o (Nat.ne_of_lt (Heap.lt_size e)) e
  show wpAny _ _ (assignInOrder [fun v => bindName X.env y v, fun v => bindName X.env x v] [u2, u1] >>= fun _ => pure Flow.next) _ _ _
  refine wpAny_bind (assignInOrder_cons (wpAny_bindName (store_ok I3 hN hj (.inl hy) rw' (fun s2 I4 => ?_) (.inr hy))))
  refine assignInOrder_cons (wpAny_bindName (store_ok I4 hN hi (.inl hx) rv (fun s3 I5 => assignInOrder_nil (wpAny_pure ?_)) (.inr hx)))
  rw [List.set_comm _ _ (Ne.symm hij)] at I5
  exact ⟨_, H1, I5, q1⟩
end

/-! ### while -/
section
variable {X : Cx} {pos : Pos}
/-- the invariant W with its measure -/
noncomputable def tWhile (c : TT) (tb : TS) : TS := fun D σ H => ∃ W : Nat → St → Hp → Prop, (∃ m, W m σ H) ∧ ∀ m σ H, W m σ H →
  c σ H fun b H1 => if b = true then ∃ N : St → Hp → Prop, (∀ σ' H', N σ' H' → ∃ m', m' < m ∧ W m' σ' H') ∧ tb { D with nx := N, ct := N, bk := D.nx } σ H1 else D.nx σ H1
theorem ps_while {c : Expr} {body : List Stmt} {tc : TT} {tb : TS} (hp : PassesOwn (model X.prog X.w) X.A X.env X.xe) (hc : PT X c tc) (hb : PSs X body tb) : PS X (.While c body [] pos) (tWhile tc tb) := by
  intro pins s σ H D I h
  obtain ⟨W, ⟨m0, w0⟩, turn⟩ := h
  refine wpAny_While (codeAny_whileLoop (fun n s' => ∃ σ' H', Inv X pins σ' H' s' ∧ W n σ' H') ?_ m0 ⟨σ, H, I, w0⟩)
  rintro n s1 ⟨σ1, H1, I1, w1⟩
  refine wpAny_passesOwn hp (thn (hc s1 σ1 H1 _ I1 (turn n σ1 H1 w1)) fun b s2 ⟨H2, I2, q2⟩ => ?_)
  cases b with
  | true =>
    obtain ⟨N, hN, q2⟩ := q2
    rw [if_pos rfl]
    refine wpAny_passesOwn hp (thn (hb s2 σ1 H2 _ I2 q2) fun f s3 q3 => ?_)
    cases f with
    | next =>
      obtain ⟨σ3, H3, I3, n3⟩ := q3
      obtain ⟨m', hm, w3⟩ := hN σ3 H3 n3
      exact ⟨m', hm, σ3, H3, I3, w3⟩
    | cont =>
      obtain ⟨σ3, H3, I3, n3⟩ := q3
      obtain ⟨m', hm, w3⟩ := hN σ3 H3 n3
      exact ⟨m', hm, σ3, H3, I3, w3⟩
    | brk => exact q3
    | ret v => exact q3
  | false =>
    rw [if_neg Bool.false_ne_true]
    exact wpAny_execs_nil ⟨σ1, H2, I2, q2⟩
end

/-! ### what a loop or a comprehension walks -/
/-- at turn i: it yields x (the heap may grow), or it stops -/
structure It where
  go : Nat → Hp → Prop
  yld : Nat → Hp → V → Hp → Prop
  stop : Nat → Hp → Prop
/-- the iterator's own objects may turn: they are not the frame's, not pinned, younger than the entry (or a comprehension's own) -/
noncomputable def FpOk (X : Cx) (pins : List (Addr × Obj)) (H : Hp) (b : Addr) : Prop :=
  H b = none ∧ b ≠ X.env.locals ∧ b ∉ X.fs ∧ (b ∈ X.ex ∨ X.s₀.heap.objs.size ≤ b) ∧ (∀ x c, X.env.cells.lookup x = some c → c ≠ b) ∧ ∀ p ∈ X.pn ++ pins, p.1 ≠ b
theorem Inv.fpOk {X : Cx} {pins : List (Addr × Obj)} {σ : St} {H H' : Hp} {s : Shared} {b : Addr} (I : Inv X pins σ H s) (hb : s.heap.objs.size ≤ b) (hn : H' b = none) : FpOk X pins H' b := by
  refine ⟨hn, Nat.ne_of_gt (Nat.lt_of_lt_of_le I.lt hb), I.nofs hb, .inr (Nat.le_trans I.sz hb), fun x c e z => ?_, fun p hp z => ?_⟩
  · obtain ⟨v, q⟩ := I.cell x c e
    exact absurd (Nat.lt_of_lt_of_le q.lt (by rw [z]; exact hb)) (Nat.lt_irrefl _)
  · exact absurd (Nat.lt_of_lt_of_le (Heap.lt_size (I.pin p hp).1) (by rw [z]; exact hb)) (Nat.lt_irrefl _)
structure Turn (P : Program) (w : World) (K : PySem.W.Frag) (tg : Expr) (J : It) (fp : List Addr) (it : Addr) (tn : Nat → Heap → Prop) : Prop where
  mem : it ∈ fp
  obj : ∀ i h, tn i h → ∀ b ∈ fp, ∃ o, h.get? b = some o ∧ ∀ v, o.data ≠ .cell v
  keep : ∀ i h h', tn i h → (∀ b ∈ fp, ∀ o, h.get? b = some o → h'.get? b = some o) → tn i h'
  item : ∀ (X : Cx), X.prog = P → X.w = w → X.K = K → X.calm = true → ∀ (i : Nat) (pins : List (Addr × Obj)) (s : Shared) (σ : St) (H : Hp) (E : Value → Shared → Prop), Inv X pins σ H s → (∀ b ∈ fp, FpOk X pins H b) → tn i s.heap → J.go i H →
    wpAny (model P w) X.A (pyNext (.ref it)) (fun r s1 => ∃ u, r = some u ∧
      wpAny (model P w) X.A (letOwnedTupleGo tg (.ref it) u) (fun _ s2 => ∃ x H', Inv X pins σ H' s2 ∧ RelV x u ∧ J.yld i H x H' ∧ tn (i + 1) s2.heap ∧ ∀ b ∈ fp, H' b = none) E s1) E s
  done : ∀ (X : Cx), X.prog = P → X.w = w → X.K = K → X.calm = true → ∀ (i : Nat) (pins : List (Addr × Obj)) (s : Shared) (σ : St) (H : Hp) (E : Value → Shared → Prop), Inv X pins σ H s → (∀ b ∈ fp, FpOk X pins H b) → tn i s.heap → J.stop i H →
    wpAny (model P w) X.A (pyNext (.ref it)) (fun r s1 => r = none ∧ Inv X pins σ H s1) E s
  self : ∀ (A : Around) (i : Nat) (s : Shared) (Q : Value → Shared → Prop) (E : Value → Shared → Prop), tn i s.heap → Q (.ref it) s → wpAny (model P w) A (pyIter (.ref it)) Q E s
noncomputable abbrev TI := St → Hp → (It → Hp → Prop) → Prop
/-- an iterator has come -/
noncomputable def PIE (X : Cx) (pins : List (Addr × Obj)) (σ : St) (tg : Expr) (R : It → Hp → Prop) (itv : Value) (s2 : Shared) : Prop :=
  Ex5 fun (it : Addr) (fp : List Addr) (tn : Nat → Heap → Prop) (J : It) (H' : Hp) => itv = .ref it ∧ Inv X pins σ H' s2 ∧ Turn X.prog X.w X.K tg J fp it tn ∧ tn 0 s2.heap ∧ (∀ b ∈ fp, FpOk X pins H' b) ∧ R J H'
noncomputable def PI (X : Cx) (tg iter : Expr) (wi : TI) : Prop :=
  ∀ ⦃pins : List (Addr × Obj)⦄ (s : Shared) (σ : St) (H : Hp) (R : It → Hp → Prop), Inv X pins σ H s → wi σ H R →
    wpAny (model X.prog X.w) X.A (eval iter X.env) (fun v s1 => wpAny (model X.prog X.w) X.A (pyIter v) (PIE X pins σ tg R) X.xe s1) X.xe s

/-- the step ahead of the store is nothing for an iterator that keeps no tuple -/
theorem go_of {M : Model} {A : Around} {E : Value → Shared → Prop} {s : Shared} {tg : Expr} {it : Addr} {u : Value} {o : Obj} {n : String} {vs : Array Value} {Q : Unit → Shared → Prop} (ho : s.heap.get? it = some o) (hc : o.cls = .type n) (hd : o.data = .fields vs)
    (hn : ["enumerate", "zip", "dict_itemiterator", "dict_reverseitemiterator", "odict_iterator", "itertools.zip_longest", "itertools.pairwise"].contains n = false) (hQ : Q () s) : wpAny M A (letOwnedTupleGo tg (.ref it) u) Q E s := by
  unfold letOwnedTupleGo
  cases tg <;> first
    | exact wpAny_pure hQ
    | (cases u <;> first
        | exact wpAny_pure hQ
        | (refine wpAny_bind (wpAny_load ho ?_)
           rw [hc, hd]
           show wpAny M A (if (["enumerate", "zip", "dict_itemiterator", "dict_reverseitemiterator", "odict_iterator", "itertools.zip_longest", "itertools.pairwise"].contains n && vs[0]? == some (rawInt _)) = true then _ else _) Q E s
           rw [if_neg (by intro h; rw [hn, Bool.false_and] at h; cases h)]
           exact wpAny_pure hQ))

/-- the list at a, as it stands at each turn (a loop may append to it) -/
noncomputable def Itl (K : PySem.W.Frag) (a : Addr) : It :=
  ⟨fun i H => Ex2 fun xs x => SqL K H a xs ∧ xs[i]? = some x, fun i H x H' => H' = H ∧ ∀ xs, SqL K H a xs → xs[i]? = some x, fun i H => ∃ xs, SqL K H a xs ∧ xs.length ≤ i⟩
noncomputable def Itt (K : PySem.W.Frag) (a : Addr) : It :=
  ⟨fun i H => Ex2 fun xs x => SqT K H a xs ∧ xs[i]? = some x, fun i H x H' => H' = H ∧ ∀ xs, SqT K H a xs → xs[i]? = some x, fun i H => ∃ xs, SqT K H a xs ∧ xs.length ≤ i⟩
/-- lo, lo + 1, .. (n of them) -/
noncomputable def Itr (lo : Int) (n : Nat) : It := ⟨fun i _ => i < n, fun i H x H' => H' = H ∧ x = .int (lo + i), fun i _ => n ≤ i⟩
theorem turn_list {P : Program} {w : World} {K : PySem.W.Frag} {tg : Expr} (a it : Addr) : Turn P w K tg (Itl K a) [it] it (fun i h => h.IsListIter it a i) where
  mem := by simp
  obj := fun i h st b hb => by
    have e : b = it := by simpa using hb
    subst e
    obtain ⟨o, e, c, d⟩ := st
    exact ⟨o, e, fun v z => by rw [d] at z; cases z⟩
  keep := fun i h h' st k => st.at fun o e => k it (by simp) o e
  item := by
    intro X hP hw hK hc i pins s σ H E I hf st hg
    subst hP hw hK
    obtain ⟨xs, x, hq, hx⟩ := hg
    obtain ⟨its, rv, p, hz⟩ := I.list hq
    obtain ⟨u, hu, ru⟩ := rv.get hx
    obtain ⟨f0, f1, f2, f3, f4, f5⟩ := hf it (by simp)
    refine wpAny_pyNext_list_item st p.isList (x := u) (by simpa using hu) fun h' st' sb => ?_
    have I1 : Inv X pins σ H { s with heap := h' } := I.turned (t' := s.toks) (fun b o hb e => (sb.2 b hb).trans e) f0 f1 f3 f4 f5
    obtain ⟨o, e, c, d⟩ := id st'
    exact ⟨u, rfl, go_of (s := { s with heap := h' }) e c d (by decide) ⟨x, H, I1, ru, ⟨rfl, fun ys hy => by rw [I.list_inj hy hq]; exact hx⟩, st', fun b hb => (hf b hb).1⟩⟩
  done := by
    intro X hP hw hK hc i pins s σ H E I hf st hg
    subst hP hw hK
    obtain ⟨xs, hq, hx⟩ := hg
    obtain ⟨its, rv, p, hz⟩ := I.list hq
    obtain ⟨f0, f1, f2, f3, f4, f5⟩ := hf it (by simp)
    have hl := rv.length
    exact wpAny_pyNext_list_end (I.ok.hd hc) st p.isList (by simp; (first | lia | omega)) fun h' eb => ⟨rfl, I.turned (t' := s.toks) (fun b o hb e => eb b o hb e) f0 f1 f3 f4 f5⟩
  self := fun _ _ _ _ _ st h => wpAny_pyIter_listiter st h
theorem turn_tuple {P : Program} {w : World} {K : PySem.W.Frag} {tg : Expr} (a it : Addr) : Turn P w K tg (Itt K a) [it] it (fun i h => h.IsTupleIter it a i) where
  mem := by simp
  obj := fun i h st b hb => by
    have e : b = it := by simpa using hb
    subst e
    obtain ⟨o, e, c, d⟩ := st
    exact ⟨o, e, fun v z => by rw [d] at z; cases z⟩
  keep := fun i h h' st k => st.at fun o e => k it (by simp) o e
  item := by
    intro X hP hw hK hc i pins s σ H E I hf st hg
    subst hP hw hK
    obtain ⟨xs, x, hq, hx⟩ := hg
    obtain ⟨its, rv, p, hz⟩ := I.tuple hq
    obtain ⟨u, hu, ru⟩ := rv.get hx
    obtain ⟨f0, f1, f2, f3, f4, f5⟩ := hf it (by simp)
    refine wpAny_pyNext_tuple_item st (show s.heap.IsTuple a its.toArray from p) (x := u) (by simpa using hu) fun h' st' sb => ?_
    have I1 : Inv X pins σ H { s with heap := h' } := I.turned (t' := s.toks) (fun b o hb e => (sb.2 b hb).trans e) f0 f1 f3 f4 f5
    obtain ⟨o, e, c, d⟩ := id st'
    exact ⟨u, rfl, go_of (s := { s with heap := h' }) e c d (by decide) ⟨x, H, I1, ru, ⟨rfl, fun ys hy => by rw [I.tuple_inj hy hq]; exact hx⟩, st', fun b hb => (hf b hb).1⟩⟩
  done := by
    intro X hP hw hK hc i pins s σ H E I hf st hg
    subst hP hw hK
    obtain ⟨xs, hq, hx⟩ := hg
    obtain ⟨its, rv, p, hz⟩ := I.tuple hq
    obtain ⟨f0, f1, f2, f3, f4, f5⟩ := hf it (by simp)
    have hl := rv.length
    exact wpAny_pyNext_tuple_end (I.ok.hd hc) st (show s.heap.IsTuple a its.toArray from p) (by simp; (first | lia | omega)) fun h' eb => ⟨rfl, I.turned (t' := s.toks) (fun b o hb e => eb b o hb e) f0 f1 f3 f4 f5⟩
  self := fun _ _ _ _ _ st h => wpAny_pyIter_tupleiter st h
theorem turn_range {P : Program} {w : World} {K : PySem.W.Frag} {tg : Expr} (it : Addr) (lo : Int) (n : Nat) : Turn P w K tg (Itr lo n) [it] it (fun i h => IsRangeIter h it (lo + (i : Nat) * 1) ((n : Int) - (i : Nat)) 1) where
  mem := by simp
  obj := fun i h st b hb => by
    have e : b = it := by simpa using hb
    subst e
    exact ⟨_, st, fun v z => by
      have z' : Data.fields _ = Data.cell v := z
      cases z'⟩
  keep := fun i h h' st k => k it (by simp) _ st
  item := by
    intro X hP hw hK hc i pins s σ H E I hf st hg
    subst hP hw hK
    obtain ⟨f0, f1, f2, f3, f4, f5⟩ := hf it (by simp)
    have W := Walks.range (prog := X.prog) (w := X.w) (I.ok.hd hc) it lo 1 n
    refine W.item i s _ _ hg st fun v h' tk hv st' kk => ?_
    obtain ⟨t, rfl⟩ := hv
    have I1 : Inv X pins σ H { s with heap := h', toks := tk } := I.turned (fun b o hb e => kk b o (by simpa using hb) e) f0 f1 f3 f4 f5
    refine ⟨_, rfl, go_of (s := { s with heap := h', toks := tk }) (n := "range_iterator") st' rfl rfl (by decide) ⟨.int (lo + i), H, I1, ⟨t, ?_⟩, ⟨rfl, rfl⟩, st', fun b hb => (hf b hb).1⟩⟩
    rw [Int.mul_one]
  done := by
    intro X hP hw hK hc i pins s σ H E I hf st hg
    subst hP hw hK
    obtain ⟨f0, f1, f2, f3, f4, f5⟩ := hf it (by simp)
    exact wpAny_pyNext_range_end (I.ok.hd hc) st (by have : n ≤ i := hg; (first | lia | omega)) fun h' eb => ⟨rfl, I.turned (t' := s.toks) (fun b o hb e => eb b o hb e) f0 f1 f3 f4 f5⟩
  self := fun _ _ _ _ _ st h => wpAny_pyIter_rangeiter st h
end L2

namespace L2
open PySem PySem.Spec PyProof.Rows
section
variable {X : Cx} {tg : Expr}
noncomputable def iList (K : PySem.W.Frag) (tl : TE) : TI := fun σ H R => tl σ H fun x H1 => ∃ a, x = .ref a ∧ (∃ xs, SqL K H1 a xs) ∧ R (Itl K a) H1
noncomputable def iTup (K : PySem.W.Frag) (tl : TE) : TI := fun σ H R => tl σ H fun x H1 => ∃ a, x = .ref a ∧ (∃ xs, SqT K H1 a xs) ∧ R (Itt K a) H1
theorem pi_list {l : Expr} {tl : TE} (hl : PE X l tl) : PI X tg l (iList X.K tl) := by
  intro pins s σ H R I h
  refine thn (hl s σ H _ I h) fun v s1 ⟨x, H1, I1, r1, q1⟩ => ?_
  obtain ⟨a, e, ⟨xs, hq⟩, q⟩ := q1
  subst e
  cases r1
  obtain ⟨its, rv, p, hz⟩ := I1.list hq
  refine wpAny_pyIter_list p.isList ?_
  refine ⟨s1.heap.objs.size, [s1.heap.objs.size], _, _, H1, rfl, I1.kept (t' := s1.toks) fun b o e => Heap.get?_push_of_some _ e, turn_list a _, ⟨_, Heap.get?_push_size _ rfl, rfl, rfl⟩, fun b hb => ?_, q⟩
  have e : b = s1.heap.objs.size := by simpa using hb
  subst e
  exact I1.fpOk (Nat.le_refl _) (I1.hok.fresh (Nat.le_refl _))
theorem pi_tup {l : Expr} {tl : TE} (hl : PE X l tl) : PI X tg l (iTup X.K tl) := by
  intro pins s σ H R I h
  refine thn (hl s σ H _ I h) fun v s1 ⟨x, H1, I1, r1, q1⟩ => ?_
  obtain ⟨a, e, ⟨xs, hq⟩, q⟩ := q1
  subst e
  cases r1
  obtain ⟨its, rv, p, hz⟩ := I1.tuple hq
  refine wpAny_pyIter_tuple (show s1.heap.IsTuple a its.toArray from p) ?_
  refine ⟨s1.heap.objs.size, [s1.heap.objs.size], _, _, H1, rfl, I1.kept (t' := s1.toks) fun b o e => Heap.get?_push_of_some _ e, turn_tuple a _, ⟨_, Heap.get?_push_size _ rfl, rfl, rfl⟩, fun b hb => ?_, q⟩
  have e : b = s1.heap.objs.size := by simpa using hb
  subst e
  exact I1.fpOk (Nat.le_refl _) (I1.hok.fresh (Nat.le_refl _))
/-- a range object just made, walked -/
theorem range_it {pins : List (Addr × Obj)} {σ : St} {H : Hp} {s : Shared} {R : It → Hp → Prop} {E : Value → Shared → Prop} {lo hi : Int} {t u v : Tok} {tk : Nat} (I : Inv X pins σ H s) (h1 : -(2 ^ 62) ≤ lo) (h2 : lo < 2 ^ 62) (h3 : -(2 ^ 62) ≤ hi) (h4 : hi < 2 ^ 62)
    (q : R (Itr lo (hi - lo).toNat) H) : wpAny (model X.prog X.w) X.A (pyIter (.ref s.heap.objs.size)) (PIE X pins σ tg R) E { s with heap := s.heap.push { cls := .type "range", data := .fields #[.int lo t, .int hi u, .int 1 v] }, toks := tk } := by
  refine wpAny_pyIter_range (IsRange.new ..) (small_one h1 h2 h3 h4) ?_
  have I1 : Inv X pins σ H { s with heap := s.heap.push { cls := .type "range", data := .fields #[.int lo t, .int hi u, .int 1 v] }, toks := tk } := I.kept fun b o e => Heap.get?_push_of_some _ e
  refine ⟨(s.heap.push { cls := .type "range", data := .fields #[.int lo t, .int hi u, .int 1 v] }).objs.size, [(s.heap.push { cls := .type "range", data := .fields #[.int lo t, .int hi u, .int 1 v] }).objs.size], _, _, H, rfl,
    I1.kept (t' := tk) fun b o e => Heap.get?_push_of_some _ e, turn_range _ lo (hi - lo).toNat, ?_, fun b hb => ?_, q⟩
  · have e1 : lo + ((0 : Nat) : Int) * 1 = lo := by simp
    have e2 : (((hi - lo).toNat : Nat) : Int) - ((0 : Nat) : Int) = Builtin.Range.rangeSize lo hi 1 := by rw [rangeSize_one]; split <;> (first | lia | omega)
    show IsRangeIter _ _ (lo + ((0 : Nat) : Int) * 1) ((((hi - lo).toNat : Nat) : Int) - ((0 : Nat) : Int)) 1
    rw [e1, e2]
    exact Heap.get?_push_size _ rfl
  · have e : b = (s.heap.push { cls := .type "range", data := .fields #[.int lo t, .int hi u, .int 1 v] }).objs.size := by simpa using hb
    subst e
    exact I1.fpOk (Nat.le_refl _) (I1.hok.fresh (Nat.le_refl _))
noncomputable def iRng1 (ta : TA) : TI := fun σ H R => ta σ H fun vs H1 => ∃ j : Int, vs = [.int j] ∧ -(2 ^ 62) ≤ j ∧ j < 2 ^ 62 ∧ R (Itr 0 j.toNat) H1
theorem pi_range1 {a : Expr} {ta : TA} {p pos : Pos} (hg : Gl X "range") (hm : X.mg "range" = none) (ha : PA X [a] ta) (hs : starEach [a] X.env = [(false, eval a X.env)] := by rfl) : PI X tg (.Call (.Name "range" p) [a] [] pos) (iRng1 ta) := by
  intro pins s σ H R I h
  refine Call_ (ld_blt I hg hm boot_range (PyProof.Rows.callWith_type1 (thn (ha s σ H _ I h) fun us s1 ⟨vs, H1, I1, r1, q1⟩ => ?_) hs rfl))
  obtain ⟨j, e, q1, q2, q⟩ := q1
  subst e
  cases r1 with
  | cons r rr =>
    cases rr
    obtain ⟨t, rfl⟩ := r
    exact call_range_1 (range_it I1 (by (first | lia | omega)) (by (first | lia | omega)) q1 q2 (by simpa using q))
/-! ### for -/
/-- W: the invariant by the turn and a measure; N: what the body is to reach -/
noncomputable def tFor (wi : TI) (g : TG) (tb : TS) : TS := fun D σ H => wi σ H fun J H1 => ∃ W : Nat → Nat → St → Hp → Prop, (∃ m, W 0 m σ H1) ∧ ∀ i m σ H, W i m σ H →
  (J.stop i H ∧ D.nx σ H) ∨ (J.go i H ∧ ∃ N : St → Hp → Prop, (∀ σ' H', N σ' H' → ∃ m', m' < m ∧ W (i + 1) m' σ' H') ∧ ∀ x H', J.yld i H x H' → g x σ H' fun σ2 H2 => tb { D with nx := N, ct := N, bk := D.nx } σ2 H2)
/-- the records at fp as they stand -/
noncomputable def pinsAt (fp : List Addr) (h : Heap) : List (Addr × Obj) := fp.filterMap fun b => (h.get? b).map fun o => (b, o)
theorem mem_pinsAt {fp : List Addr} {h : Heap} {b : Addr} {o : Obj} (hb : b ∈ fp) (e : h.get? b = some o) : (b, o) ∈ pinsAt fp h := List.mem_filterMap.mpr ⟨b, hb, by rw [e]; rfl⟩
theorem of_pinsAt {fp : List Addr} {h : Heap} {p : Addr × Obj} (hp : p ∈ pinsAt fp h) : p.1 ∈ fp ∧ h.get? p.1 = some p.2 := by
  obtain ⟨b, hb, e⟩ := List.mem_filterMap.mp hp
  cases q : h.get? b with
  | none => rw [q] at e; cases e
  | some o =>
    rw [q] at e
    have e' : (b, o) = p := Option.some.inj e
    subst e'
    exact ⟨hb, q⟩
theorem Inv.pinned {pins : List (Addr × Obj)} {σ : St} {H : Hp} {s : Shared} {fp : List Addr} (I : Inv X pins σ H s) (hf : ∀ b ∈ fp, FpOk X pins H b) (ho : ∀ b ∈ fp, ∃ o, s.heap.get? b = some o ∧ ∀ v, o.data ≠ .cell v) : Inv X (pins ++ pinsAt fp s.heap) σ H s :=
  I.pins_of fun p hp => (List.mem_append.mp hp).elim (fun z => I.pin p (List.mem_append_right _ z)) fun z => by
    obtain ⟨hb, e⟩ := of_pinsAt z
    obtain ⟨f0, f1, f2, _⟩ := hf p.1 hb
    obtain ⟨o, e', d⟩ := ho p.1 hb
    rw [e] at e'; cases e'
    exact ⟨e, f0, f1, f2, d⟩
theorem Inv.unpinned {pins pl : List (Addr × Obj)} {σ : St} {H : Hp} {s : Shared} (I : Inv X (pins ++ pl) σ H s) : Inv X pins σ H s := I.pins_of fun p hp => I.pin p (List.mem_append_right _ (List.mem_append_left _ hp))
theorem ps_for {iter : Expr} {body : List Stmt} {wi : TI} {g : TG} {tb : TS} {pos : Pos} (hp : PassesOwn (model X.prog X.w) X.A X.env X.xe) (hc : X.calm = true) (hi : PI X tg iter wi) (hg : PG X tg g) (hb : PSs X body tb)
    (hs : ∀ x, foldedSetIterable iter X.env x = pure x := by intro _; rfl) : PS X (.For tg iter body [] pos) (tFor wi g tb) := by
  intro pins s σ H D I h
  refine wpAny_For (thn (hi s σ H _ I h) fun v s1 h1 => thn h1 fun itv s2 h2 => ?_) hs
  obtain ⟨it, fp, tn, J, H2, e, I2, T, st2, f2, W, ⟨m0, w0⟩, turn⟩ := h2
  subst e
  -- what stays true of the iterator's objects through the loop
  have stat : ∀ {H' : Hp}, (∀ b ∈ fp, H' b = none) → ∀ b ∈ fp, FpOk X pins H' b := fun hn b hb => ⟨hn b hb, (f2 b hb).2⟩
  refine codeAny_forLoop_any (fun n s' => ∃ i σ' H', Inv X pins σ' H' s' ∧ tn i s'.heap ∧ (∀ b ∈ fp, H' b = none) ∧ W i n σ' H') ?_ m0 ⟨0, σ, H2, I2, st2, fun b hb => (f2 b hb).1, w0⟩
  rintro n s3 ⟨i, σ3, H3, I3, st3, fr3, w3⟩
  rcases turn i n σ3 H3 w3 with ⟨stop, qn⟩ | ⟨go, N, hN, step⟩
  · refine wpAny_passesOwn hp (thn (T.done X rfl rfl rfl hc i pins s3 σ3 H3 X.xe I3 (stat fr3) st3 stop) fun r s4 ⟨hr, I4⟩ => ?_)
    subst hr
    exact wpAny_execs_nil ⟨σ3, H3, I4, qn⟩
  · refine wpAny_passesOwn hp (thn (T.item X rfl rfl rfl hc i pins s3 σ3 H3 X.xe I3 (stat fr3) st3 go) fun r s4 ⟨u, hr, h4⟩ => ?_)
    subst hr
    refine wpAny_passesOwn hp (thn h4 fun _ s5 ⟨x, H5, I5, r5, y5, st5, fr5⟩ => ?_)
    have I5' := I5.pinned (stat fr5) (T.obj _ _ st5)
    refine wpAny_passesOwn hp (thn (hg s5 σ3 H5 x u _ I5' r5 (step x H5 y5)) fun _ s6 ⟨σ6, H6, I6, q6⟩ => ?_)
    refine wpAny_passesOwn hp (thn (hb s6 σ6 H6 _ I6 q6) fun f s7 q7 => ?_)
    have again : ∀ {σ7 : St} {H7 : Hp}, Inv X (pins ++ pinsAt fp s5.heap) σ7 H7 s7 → N σ7 H7 → ∃ m, m < n ∧ ∃ i σ' H', Inv X pins σ' H' s7 ∧ tn i s7.heap ∧ (∀ b ∈ fp, H' b = none) ∧ W i m σ' H' := fun {σ7 H7} I7 n7 => by
      obtain ⟨m', hm, w7⟩ := hN σ7 H7 n7
      refine ⟨m', hm, i + 1, σ7, H7, I7.unpinned, T.keep _ _ _ st5 fun b hb o e => (I7.pin (b, o) (List.mem_append_right _ (List.mem_append_right _ (mem_pinsAt hb e)))).1, fun b hb => ?_, w7⟩
      obtain ⟨o, e, d⟩ := T.obj _ _ st5 b hb
      exact (I7.pin (b, o) (List.mem_append_right _ (List.mem_append_right _ (mem_pinsAt hb e)))).2.1
    cases f with
    | next => obtain ⟨σ7, H7, I7, n7⟩ := q7; exact again I7 n7
    | cont => obtain ⟨σ7, H7, I7, n7⟩ := q7; exact again I7 n7
    | brk => obtain ⟨σ7, H7, I7, q7⟩ := q7; exact ⟨σ7, H7, I7.unpinned, q7⟩
    | ret v => obtain ⟨x7, σ7, H7, I7, r7, q7⟩ := q7; exact ⟨x7, σ7, H7, I7.unpinned, r7, q7⟩
end

/-! ### the forms one uses -/
end L2

namespace L2
open PySem PySem.Spec PyProof.Rows

noncomputable abbrev R2 := V → V → Hp → VK → Prop
/-- a two-place operation on values: f is binaryOp op, inplaceOp op or compareOp op -/
noncomputable def OpR (X : Cx) (f : Value → Value → Sem Value) (r : R2) : Prop :=
  ∀ ⦃pins : List (Addr × Obj)⦄ (s : Shared) (σ : St) (H : Hp) (x y : V) (v u : Value) (Q : VK), Inv X pins σ H s → RelV x v → RelV y u → r x y H Q →
    wpAny (model X.prog X.w) X.A (f v u) (EP X pins σ Q) X.xe s
/-- a one-place operation -/
noncomputable def UnR (X : Cx) (f : Value → Sem Value) (r : V → Hp → VK → Prop) : Prop :=
  ∀ ⦃pins : List (Addr × Obj)⦄ (s : Shared) (σ : St) (H : Hp) (x : V) (v : Value) (Q : VK), Inv X pins σ H s → RelV x v → r x H Q →
    wpAny (model X.prog X.w) X.A (f v) (EP X pins σ Q) X.xe s
/-- a call of a value that is known (a builtin, a type) with values -/
noncomputable def CallR (X : Cx) (f : Value) (r : List V → Hp → VK → Prop) : Prop :=
  ∀ ⦃pins : List (Addr × Obj)⦄ (s : Shared) (σ : St) (H : Hp) (xs : List V) (us : List Value) (Q : VK), Inv X pins σ H s → Vals xs us → r xs H Q →
    wpAny (model X.prog X.w) X.A (call f us) (EP X pins σ Q) X.xe s
noncomputable def tOp (r : R2) (ta tb : TE) : TE := fun σ H Q => ta σ H fun x H1 => tb σ H1 fun y H2 => r x y H2 Q
noncomputable def tUn (r : V → Hp → VK → Prop) (ta : TE) : TE := fun σ H Q => ta σ H fun x H1 => r x H1 Q
/-- ints in, under C, and a value out -/
noncomputable def rI (C : Int → Int → Prop) (g : Int → Int → V) : R2 := fun x y H Q => Ex2 fun i j => x = .int i ∧ y = .int j ∧ C i j ∧ Q (g i j) H
noncomputable def rI0 (g : Int → Int → V) : R2 := fun x y H Q => Ex2 fun i j => x = .int i ∧ y = .int j ∧ Q (g i j) H
noncomputable def rU (g : Int → V) : V → Hp → VK → Prop := fun x H Q => ∃ i, x = .int i ∧ Q (g i) H

section
variable {X : Cx} {a b c : Expr} {ta tb tc : TE} {pos : Pos}

theorem binT (ha : PE X a ta) (hb : PE X b tb) {pins : List (Addr × Obj)} {s : Shared} {σ : St} {H : Hp} {R : V → V → Hp → Prop} (I : Inv X pins σ H s)
    (h : ta σ H fun x H1 => tb σ H1 fun y H2 => R x y H2) {Q : Value → Shared → Prop} {f : Value → Value → Sem Value}
    (hf : ∀ v u s2 x y H2, Inv X pins σ H2 s2 → RelV x v → RelV y u → R x y H2 → wpAny (model X.prog X.w) X.A (f v u) Q X.xe s2) :
    wpAny (model X.prog X.w) X.A (eval a X.env) (fun v s₁ => wpAny (model X.prog X.w) X.A (eval b X.env) (fun u s₂ => wpAny (model X.prog X.w) X.A (f v u) Q X.xe s₂) X.xe s₁) X.xe s := by
  refine thn (ha s σ H _ I h) fun v s1 ⟨x, H1, I1, r1, q1⟩ => ?_
  refine thn (hb s1 σ H1 _ I1 q1) fun u s2 ⟨y, H2, I2, r2, q2⟩ => ?_
  exact hf v u s2 x y H2 I2 r1 r2 q2

theorem pe_op {op : Operator} {r : R2} (ho : OpR X (binaryOp op) r) (ha : PE X a ta) (hb : PE X b tb) : PE X (.BinOp a op b pos) (tOp r ta tb) := by
  intro pins s σ H Q I h
  exact wpAny_BinOp (binT ha hb I h fun v u s2 x y H2 I2 rx ry q => ho s2 σ H2 x y v u Q I2 rx ry q)
theorem pe_un {op : UnaryOp} {r : V → Hp → VK → Prop} (ho : UnR X (unaryOp op) r) (ha : PE X a ta) : PE X (.UnaryOp op a pos) (tUn r ta) := by
  intro pins s σ H Q I h
  exact UnaryOp_ (thn (ha s σ H _ I h) fun v s1 ⟨x, H1, I1, r1, q1⟩ => ho s1 σ H1 x v Q I1 r1 q1)
/-! ### ints -/
theorem opI {f : Value → Value → Sem Value} {C : Int → Int → Prop} {g : Int → Int → Int}
    (rule : ∀ (i j : Int) (t u : Tok) (s : Shared) (Q : Value → Shared → Prop) (E : Value → Shared → Prop), C i j → Q (.int (g i j) s.toks) { s with toks := s.toks + 1 } → wpAny (model X.prog X.w) X.A (f (.int i t) (.int j u)) Q E s) :
    OpR X f (rI C fun i j => .int (g i j)) := by
  intro pins s σ H x y v u Q I rx ry h
  obtain ⟨i, j, rfl, rfl, hc, q⟩ := h
  obtain ⟨t, rfl⟩ := rx
  obtain ⟨t', rfl⟩ := ry
  exact rule i j t t' s _ _ hc ⟨.int (g i j), H, I.tok _, ⟨_, rfl⟩, q⟩
theorem opI0 {f : Value → Value → Sem Value} {g : Int → Int → Int}
    (rule : ∀ (i j : Int) (t u : Tok) (s : Shared) (Q : Value → Shared → Prop) (E : Value → Shared → Prop), Q (.int (g i j) s.toks) { s with toks := s.toks + 1 } → wpAny (model X.prog X.w) X.A (f (.int i t) (.int j u)) Q E s) :
    OpR X f (rI0 fun i j => .int (g i j)) := by
  intro pins s σ H x y v u Q I rx ry h
  obtain ⟨i, j, rfl, rfl, q⟩ := h
  obtain ⟨t, rfl⟩ := rx
  obtain ⟨t', rfl⟩ := ry
  exact rule i j t t' s _ _ ⟨.int (g i j), H, I.tok _, ⟨_, rfl⟩, q⟩
theorem opB0 {f : Value → Value → Sem Value} {g : Int → Int → Bool}
    (rule : ∀ (i j : Int) (t u : Tok) (s : Shared) (Q : Value → Shared → Prop) (E : Value → Shared → Prop), Q (.bool (g i j)) s → wpAny (model X.prog X.w) X.A (f (.int i t) (.int j u)) Q E s) :
    OpR X f (rI0 fun i j => .bl (g i j)) := by
  intro pins s σ H x y v u Q I rx ry h
  obtain ⟨i, j, rfl, rfl, q⟩ := h
  obtain ⟨t, rfl⟩ := rx
  obtain ⟨t', rfl⟩ := ry
  exact rule i j t t' s _ _ ⟨.bl (g i j), H, I, rfl, q⟩

noncomputable def CDiv (i j : Int) : Prop := 0 < j ∧ j < 1073741824
noncomputable def CPow (i j : Int) : Prop := 0 ≤ j ∧ j ≤ 1000000 ∧ i.natAbs < 2 ^ 64
noncomputable def CMul (i j : Int) : Prop := (-(2 ^ 64) < i ∧ i < 2 ^ 64) ∨ (-(2 ^ 64) < j ∧ j < 2 ^ 64)
theorem CMul.ok {i j : Int} (h : CMul i j) : IntMulOk i j := by
  rcases h with ⟨h1, h2⟩ | ⟨h1, h2⟩
  · exact .of_left (intBits_le_64 h1 h2)
  · exact .of_right (intBits_le_64 h1 h2)
theorem op_add : OpR X (binaryOp .Add) (rI0 fun i j => .int (i + j)) := opI0 fun _ _ _ _ _ _ _ q => add_int q
theorem op_sub : OpR X (binaryOp .Sub) (rI0 fun i j => .int (i - j)) := opI0 fun _ _ _ _ _ _ _ q => sub_int q
theorem op_mul : OpR X (binaryOp .Mult) (rI CMul fun i j => .int (i * j)) := opI fun _ _ _ _ _ _ _ hc q => mul_int q hc.ok
/-- // by a positive divisor -/
theorem op_fdiv : OpR X (binaryOp .FloorDiv) (rI CDiv fun i j => .int (i / j)) := opI fun i j _ _ _ _ _ hc q => by
  have h1 : (0 : Int) < j := hc.1
  have h2 : j < 1073741824 := hc.2
  exact floordiv_int (by (first | lia | omega)) (by rw [Int.fdiv_eq_ediv_of_nonneg i (by (first | lia | omega))]; exact q) (.inl (PyProof.noPylong_small (by (first | lia | omega))))
/-- % by a positive divisor of any size -/
theorem op_mod : OpR X (binaryOp .Mod) (rI (fun _ j => 0 < j) fun i j => .int (i % j)) := opI fun i j _ _ _ _ _ hc q => by
  have h1 : (0 : Int) < j := hc
  exact mod_int' (by (first | lia | omega)) (by rw [Int.fmod_eq_emod_of_nonneg i (by (first | lia | omega))]; exact q)
theorem op_pow : OpR X (binaryOp .Pow) (rI CPow fun i j => .int (i ^ j.toNat)) := opI fun _ _ _ _ _ _ _ hc q => pow_int_small hc.1 hc.2.1 hc.2.2 q
theorem unI {f : Value → Sem Value} {g : Int → Int}
    (rule : ∀ (i : Int) (t : Tok) (s : Shared) (Q : Value → Shared → Prop) (E : Value → Shared → Prop), Q (.int (g i) s.toks) { s with toks := s.toks + 1 } → wpAny (model X.prog X.w) X.A (f (.int i t)) Q E s) :
    UnR X f (rU fun i => .int (g i)) := by
  intro pins s σ H x v Q I rx h
  obtain ⟨i, rfl, q⟩ := h
  obtain ⟨t, rfl⟩ := rx
  exact rule i t s _ _ ⟨.int (g i), H, I.tok _, ⟨_, rfl⟩, q⟩
theorem un_neg : UnR X (unaryOp .USub) (rU fun i => .int (-i)) := unI fun _ _ _ _ _ q => neg_int q
/-! ### bools among ints: n += (a < b) -/
end

/-! ### comparisons -/
/-- the scalars that == tells apart as data does -/
noncomputable def scal : V → V → Bool
  | .non, .non => true | .non, .int _ => true | .int _, .non => true | .non, .bl _ => true | .bl _, .non => true | .non, .str _ => true | .str _, .non => true
  | .int _, .int _ => true | .bl _, .bl _ => true | .str _, .str _ => true | .byt _, .byt _ => true
  | .int _, .str _ => true | .str _, .int _ => true | .bl _, .str _ => true | .str _, .bl _ => true
  | _, _ => false
noncomputable def rEq : R2 := fun x y H Q => scal x y = true ∧ Q (.bl (decide (x = y))) H
noncomputable def rNe : R2 := fun x y H Q => scal x y = true ∧ Q (.bl (!decide (x = y))) H

theorem dec_int {i j : Int} : decide (V.int i = V.int j) = (i == j) := by
  rw [Bool.eq_iff_iff]
  simp
theorem dec_bl {i j : Bool} : decide (V.bl i = V.bl j) = (i == j) := by
  rw [Bool.eq_iff_iff]
  simp
theorem dec_str {i j : Str} : decide (V.str i = V.str j) = (i == j) := by
  rw [Bool.eq_iff_iff]
  simp
theorem dec_byt {i j : Array UInt8} : decide (V.byt i = V.byt j) = (i.toList == j.toList) := by
  rw [Bool.eq_iff_iff]
  cases i
  cases j
  simp

section
variable {X : Cx} {a b c : Expr} {ta tb tc : TE} {pos : Pos}
theorem fin_bl {pins : List (Addr × Obj)} {σ : St} {H : Hp} {s : Shared} {Q : VK} {k k' : Bool} (I : Inv X pins σ H s) (q : Q (.bl k) H) (e : k = k') : EP X pins σ Q (.bool k') s := by
  subst e
  exact ⟨.bl k, H, I, rfl, q⟩
theorem op_eq : OpR X (compareOp .Eq) rEq := by
  intro pins s σ H x y v u Q I rx ry h
  obtain ⟨hs, q⟩ := h
  cases x with
  | non =>
    cases rx
    cases y with
    | non => cases ry; exact PySem.EqNone.eq_none_none (fin_bl I q (by simp))
    | bl j => cases ry; exact PySem.EqNone.eq_none_bool (fin_bl I q (by simp))
    | int j => obtain ⟨t', rfl⟩ := ry; exact PySem.EqNone.eq_none_int (fin_bl I q (by simp))
    | str j => obtain ⟨t', rfl⟩ := ry; exact PySem.EqNone.eq_none_str (fin_bl I q (by simp))
    | _ => exact absurd (show false = true from hs) Bool.false_ne_true
  | bl i =>
    cases rx
    cases y with
    | non => cases ry; exact PySem.EqNone.eq_bool_none (fin_bl I q (by simp))
    | bl j => cases ry; exact eq_bool (fin_bl I q dec_bl)
    | str j => obtain ⟨t', rfl⟩ := ry; exact PySem.EqMixed.eq_bool_str (fin_bl I q (by simp))
    | _ => exact absurd (show false = true from hs) Bool.false_ne_true
  | int i =>
    obtain ⟨t, rfl⟩ := rx
    cases y with
    | non => cases ry; exact PySem.EqNone.eq_int_none (fin_bl I q (by simp))
    | int j => obtain ⟨t', rfl⟩ := ry; exact eq_int (fin_bl I q dec_int)
    | str j => obtain ⟨t', rfl⟩ := ry; exact PySem.EqMixed.eq_int_str (fin_bl I q (by simp))
    | _ => exact absurd (show false = true from hs) Bool.false_ne_true
  | str i =>
    obtain ⟨t, rfl⟩ := rx
    cases y with
    | non => cases ry; exact PySem.EqNone.eq_str_none (fin_bl I q (by simp))
    | bl j => cases ry; exact PySem.EqMixed.eq_str_bool (fin_bl I q (by simp))
    | int j => obtain ⟨t', rfl⟩ := ry; exact PySem.EqMixed.eq_str_int (fin_bl I q (by simp))
    | str j => obtain ⟨t', rfl⟩ := ry; exact eq_str (fin_bl I q dec_str)
    | _ => exact absurd (show false = true from hs) Bool.false_ne_true
  | byt i =>
    obtain ⟨t, rfl⟩ := rx
    cases y with
    | byt j => obtain ⟨t', rfl⟩ := ry; exact PySem.W.eq_bytes (fin_bl I q dec_byt)
    | _ => exact absurd (show false = true from hs) Bool.false_ne_true
  | _ => cases y <;> exact absurd (show false = true from hs) Bool.false_ne_true
theorem op_ne : OpR X (compareOp .NotEq) rNe := by
  intro pins s σ H x y v u Q I rx ry h
  obtain ⟨hs, q⟩ := h
  cases x with
  | non =>
    cases rx
    cases y with
    | non => cases ry; exact PySem.EqNone.ne_none_none (fin_bl I q (by simp))
    | bl j => cases ry; exact PySem.EqNone.ne_none_bool (fin_bl I q (by simp))
    | int j => obtain ⟨t', rfl⟩ := ry; exact PySem.EqNone.ne_none_int (fin_bl I q (by simp))
    | str j => obtain ⟨t', rfl⟩ := ry; exact PySem.EqNone.ne_none_str (fin_bl I q (by simp))
    | _ => exact absurd (show false = true from hs) Bool.false_ne_true
  | bl i =>
    cases rx
    cases y with
    | non => cases ry; exact PySem.EqNone.ne_bool_none (fin_bl I q (by simp))
    | bl j => cases ry; exact ne_bool (fin_bl I q (congrArg not dec_bl))
    | str j => obtain ⟨t', rfl⟩ := ry; exact PySem.EqMixed.ne_bool_str (fin_bl I q (by simp))
    | _ => exact absurd (show false = true from hs) Bool.false_ne_true
  | int i =>
    obtain ⟨t, rfl⟩ := rx
    cases y with
    | non => cases ry; exact PySem.EqNone.ne_int_none (fin_bl I q (by simp))
    | int j => obtain ⟨t', rfl⟩ := ry; exact ne_int (fin_bl I q (congrArg not dec_int))
    | str j => obtain ⟨t', rfl⟩ := ry; exact PySem.EqMixed.ne_int_str (fin_bl I q (by simp))
    | _ => exact absurd (show false = true from hs) Bool.false_ne_true
  | str i =>
    obtain ⟨t, rfl⟩ := rx
    cases y with
    | non => cases ry; exact PySem.EqNone.ne_str_none (fin_bl I q (by simp))
    | bl j => cases ry; exact PySem.EqMixed.ne_str_bool (fin_bl I q (by simp))
    | int j => obtain ⟨t', rfl⟩ := ry; exact PySem.EqMixed.ne_str_int (fin_bl I q (by simp))
    | str j => obtain ⟨t', rfl⟩ := ry; exact ne_str (fin_bl I q (congrArg not dec_str))
    | _ => exact absurd (show false = true from hs) Bool.false_ne_true
  | byt i =>
    obtain ⟨t, rfl⟩ := rx
    cases y with
    | byt j => obtain ⟨t', rfl⟩ := ry; exact PySem.W.ne_bytes (fin_bl I q (congrArg not dec_byt))
    | _ => exact absurd (show false = true from hs) Bool.false_ne_true
  | _ => cases y <;> exact absurd (show false = true from hs) Bool.false_ne_true

theorem op_lt : OpR X (compareOp .Lt) (rI0 fun i j => .bl (decide (i < j))) := opB0 fun _ _ _ _ _ _ _ q => lt_int q
theorem op_le : OpR X (compareOp .LtE) (rI0 fun i j => .bl (decide (i ≤ j))) := opB0 fun _ _ _ _ _ _ _ q => le_int q
theorem op_gt : OpR X (compareOp .Gt) (rI0 fun i j => .bl (decide (j < i))) := opB0 fun _ _ _ _ _ _ _ q => gt_int q
theorem op_ge : OpR X (compareOp .GtE) (rI0 fun i j => .bl (decide (j ≤ i))) := opB0 fun _ _ _ _ _ _ _ q => ge_int q
/-- two rules for one operation: by cases -/
theorem OpR.or {f : Value → Value → Sem Value} {r r' : R2} (h : OpR X f r) (h' : OpR X f r') : OpR X f (fun x y H Q => r x y H Q ∨ r' x y H Q) := by
  intro pins s σ H x y v u Q I rx ry q
  rcases q with q | q
  · exact h s σ H x y v u Q I rx ry q
  · exact h' s σ H x y v u Q I rx ry q

theorem nomark (b : Expr) {op : CmpOp} (h : op ≠ .In := by decide) (h2 : op ≠ .NotIn := by decide) : behindInMarks op b = false := by
  have e1 : (op == CmpOp.In) = false := by cases op <;> first | rfl | exact absurd rfl h
  have e2 : (op == CmpOp.NotIn) = false := by cases op <;> first | rfl | exact absurd rfl h2
  cases b <;> simp [behindInMarks, e1, e2]
/-- a comparison as a value; hm: nomark b, or (for in, not in) by with_unfolding_all rfl -/
theorem pe_cmpR {op : CmpOp} {r : R2} (ho : OpR X (compareOp op) r) (ha : PE X a ta) (hb : PE X b tb) (hm : behindInMarks op b = false) : PE X (.Compare a [op] [b] pos) (tOp r ta tb) := by
  intro pins s σ H Q I h
  exact wpAny_Compare1 (binT ha hb I h fun v u s2 x y H2 I2 rx ry q => ho s2 σ H2 x y v u Q I2 rx ry q) hm
/-- a reading of a value as a test -/
noncomputable def tTest (t : TE) : TT := fun σ H Q => t σ H fun x H' => ∃ k, x = .bl k ∧ Q k H'
theorem pt_cmpR {op : CmpOp} {r : R2} (ho : OpR X (compareOp op) r) (ha : PE X a ta) (hb : PE X b tb) (hm : behindInMarks op b = false) : PT X (.Compare a [op] [b] pos) (tTest (tOp r ta tb)) := by
  intro pins s σ H Q I h
  refine wpAny_isTrue_Compare1 (thn (ha s σ H _ I h) fun v s1 ⟨x, H1, I1, r1, q1⟩ => thn (hb s1 σ H1 _ I1 q1) fun u s2 ⟨y, H2, I2, r2, q2⟩ =>
    thn (ho s2 σ H2 x y v u _ I2 r1 r2 q2) fun c s3 ⟨z, H3, I3, r3, k, e, q3⟩ => ?_) hm
  subst e
  cases r3
  exact wpAny_truthy_bool ⟨H3, I3, q3⟩
/-! ### truth -/
theorem line63 : (sizeLine : Nat) < 2 ^ 63 := by rw [sizeLine_eq]; decide
/-! ### strs and bytes -/
theorem op_add_str : OpR X (binaryOp .Add) (fun x y H Q => ∃ i j, x = .str i ∧ y = .str j ∧ i.length + j.length ≤ sizeLine ∧ Q (.str (i ++ j)) H) := by
  intro pins s σ H x y v u Q I rx ry h
  obtain ⟨i, j, rfl, rfl, hz, q⟩ := h
  obtain ⟨t, rfl⟩ := rx
  obtain ⟨t', rfl⟩ := ry
  exact add_str (fun t' tk => ⟨.str (i ++ j), H, I.tok _, ⟨_, rfl⟩, q⟩) hz
/-! ### scalar builtins, by CallR -/
theorem vals1 {x : V} {us : List Value} (r : Vals [x] us) : ∃ u, us = [u] ∧ RelV x u := by
  cases r with
  | cons r1 r2 => cases r2; exact ⟨_, rfl, r1⟩
theorem vals2 {x y : V} {us : List Value} (r : Vals [x, y] us) : ∃ u w', us = [u, w'] ∧ RelV x u ∧ RelV y w' := by
  cases r with
  | cons r1 r2 =>
    cases r2 with
    | cons r3 r4 => cases r4; exact ⟨_, _, rfl, r1, r3⟩
theorem call_max2 (hc : X.calm = true) : CallR X (.builtin "max") (fun xs H Q => ∃ i j, xs = [.int i, .int j] ∧ Q (.int (if j > i then j else i)) H) := by
  intro pins s σ H xs us Q I r h
  obtain ⟨i, j, rfl, q⟩ := h
  obtain ⟨u, w', rfl, ⟨t, rfl⟩, ⟨t', rfl⟩⟩ := vals2 r
  refine max_two_ints (I.ok.hd hc) fun h' tk k => ⟨_, H, I.kept k, ?_, q⟩
  by_cases hj : j > i
  · rw [if_pos hj, if_pos hj]; exact ⟨_, rfl⟩
  · rw [if_neg hj, if_neg hj]; exact ⟨_, rfl⟩
theorem call_min2 (hc : X.calm = true) : CallR X (.builtin "min") (fun xs H Q => ∃ i j, xs = [.int i, .int j] ∧ Q (.int (if j < i then j else i)) H) := by
  intro pins s σ H xs us Q I r h
  obtain ⟨i, j, rfl, q⟩ := h
  obtain ⟨u, w', rfl, ⟨t, rfl⟩, ⟨t', rfl⟩⟩ := vals2 r
  refine min_two_ints (I.ok.hd hc) fun h' tk k => ⟨_, H, I.kept k, ?_, q⟩
  by_cases hj : j < i
  · rw [if_pos hj, if_pos hj]; exact ⟨_, rfl⟩
  · rw [if_neg hj, if_neg hj]; exact ⟨_, rfl⟩
theorem call_int1 : CallR X (.type "int") (fun xs H Q => (∃ i, xs = [.int i] ∧ Q (.int i) H) ∨ ∃ k, xs = [.bl k] ∧ Q (.int (if k then 1 else 0)) H) := by
  intro pins s σ H xs us Q I r h
  rcases h with ⟨i, rfl, q⟩ | ⟨k, rfl, q⟩
  · obtain ⟨u, rfl, t, rfl⟩ := vals1 r
    exact call_int_int ⟨.int i, H, I, ⟨_, rfl⟩, q⟩
  · obtain ⟨u, rfl, r1⟩ := vals1 r
    cases r1
    exact call_int_bool ⟨.int (if k then 1 else 0), H, I.tok _, ⟨_, rfl⟩, q⟩
/-- len of a str, a bytes, a list, a tuple -/
noncomputable def LenV (K : PySem.W.Frag) (x : V) (H : Hp) (n : Nat) : Prop :=
  match x with
  | .str y => y.length ≤ sizeLine ∧ n = y.length
  | .byt y => y.size ≤ sizeLine ∧ n = y.size
  | .ref p => (∃ xs, SqL K H p xs ∧ n = xs.length) ∨ ∃ xs, SqT K H p xs ∧ n = xs.length
  | _ => False
theorem call_len : CallR X (.builtin "len") (fun xs H Q => ∃ x n, xs = [x] ∧ LenV X.K x H n ∧ Q (.int n) H) := by
  intro pins s σ H xs us Q I r h
  obtain ⟨x, n, rfl, e, q⟩ := h
  obtain ⟨u, rfl, rx⟩ := vals1 r
  have hl := line63
  have hs : sizeLine = 16777216 := sizeLine_eq
  cases x with
  | str y =>
    obtain ⟨t, rfl⟩ := rx
    obtain ⟨hy, e'⟩ : y.length ≤ sizeLine ∧ n = y.length := e
    subst e'
    exact len_str (by (first | lia | omega)) ⟨.int _, H, I.tok _, ⟨_, rfl⟩, q⟩
  | byt y =>
    obtain ⟨t, rfl⟩ := rx
    obtain ⟨hy, e'⟩ : y.size ≤ sizeLine ∧ n = y.size := e
    subst e'
    exact PySem.W.len_bytes (by (first | lia | omega)) ⟨.int _, H, I.tok _, ⟨_, rfl⟩, q⟩
  | ref p =>
    cases rx
    have e' : (∃ xs, SqL X.K H p xs ∧ n = xs.length) ∨ ∃ xs, SqT X.K H p xs ∧ n = xs.length := e
    rcases e' with ⟨xs, hx, e'⟩ | ⟨xs, hx, e'⟩
    · subst e'
      obtain ⟨its, r', pl, hz⟩ := I.list hx
      have hlen := r'.length
      exact Calls.call_len_list pl.isList (by simp only [List.size_toArray]; (first | lia | omega)) ⟨.int xs.length, H, I.tok _, ⟨_, by simp only [List.size_toArray]; rw [hlen]⟩, q⟩
    · subst e'
      obtain ⟨its, r', pl, hz⟩ := I.tuple hx
      have hlen := r'.length
      exact len_tuple pl (by simp only [List.size_toArray]; (first | lia | omega)) ⟨.int xs.length, H, I.tok _, ⟨_, by simp only [List.size_toArray]; rw [hlen]⟩, q⟩
  | _ => exact (show False from e).elim
/-- divmod: a new tuple -/
theorem call_divmod : CallR X (.builtin "divmod") (fun xs H Q => ∃ i j, xs = [.int i, .int j] ∧ CDiv i j ∧ ∀ p, H p = none → Q (.ref p) (upd H p (.tup [.int (i / j), .int (i % j)]))) := by
  intro pins s σ H xs us Q I r h
  obtain ⟨i, j, rfl, ⟨h1, h2⟩, q⟩ := h
  obtain ⟨u, w', rfl, ⟨t, rfl⟩, ⟨t', rfl⟩⟩ := vals2 r
  refine divmod_int (by (first | lia | omega)) ?_ (.inl (PyProof.noPylong_small (by (first | lia | omega))))
  rw [Int.fdiv_eq_ediv_of_nonneg i (by (first | lia | omega)), Int.fmod_eq_emod_of_nonneg i (by (first | lia | omega))]
  have hn : H s.heap.objs.size = none := I.hok.fresh (Nat.le_refl _)
  refine ⟨.ref s.heap.objs.size, _, ?_, rfl, q _ hn⟩
  refine I.laid (fun b o e => Heap.get?_push_of_some _ e) (Nat.le_refl _) ⟨by simp only [List.length_cons, List.length_nil]; rw [sizeLine_eq]; decide, [.int (i / j) s.toks, .int (i % j) (s.toks + 1)], .cons ⟨_, rfl⟩ (.cons ⟨_, rfl⟩ .nil), ?_⟩
  exact ⟨_, Heap.get?_push_size s.heap rfl, rfl, 0, rfl⟩
end
end L2

namespace L2
open PySem PySem.Spec PyProof.Rows

/-! ### an instance, its attributes a map -/
structure ObjM (h : Heap) (x dx C : Addr) (mA : Str → Option Value) : Prop where
  obj : h.get? x = some (PySem.W.instObj C dx)
  ns : h.Ns1 dx mA
  ne : dx ≠ x

theorem lookIn_ns {h : Heap} {dx : Addr} {mA : Str → Option Value} (n : h.Ns1 dx mA) : ∃ od, h.get? dx = some od ∧ ∀ name, PySem.W.lookIn name od = some (mA name) := by
  obtain ⟨o, es, ep, ho, hd, hk, _, hm⟩ := n
  refine ⟨o, ho, fun name => ?_⟩
  have e := hm name
  unfold nsFind findBy at e
  rw [← Array.find?_toList] at e
  unfold PySem.W.lookIn
  rw [hd]
  dsimp only
  split
  · rename_i y q
    rw [q] at e
    exact congrArg some e
  · rename_i q
    rw [q] at e
    have a : es.toList.any (·.refKey) = false := by
      rw [List.any_eq_false]
      intro y hy
      obtain ⟨z, t, hkey⟩ := hk y (Array.mem_toList_iff.mp hy)
      simp [DictEntry.refKey, hkey]
    have a' : ¬ es.toList.any (·.refKey) = true := by rw [a]; exact Bool.false_ne_true
    rw [if_neg a']
    exact congrArg some e

theorem ObjM.look {h : Heap} {x dx C : Addr} {mA : Str → Option Value} (I : ObjM h x dx C mA) : ∃ od, PySem.W.InstAt h x (PySem.W.instObj C dx) C (some od) ∧ ∀ name, PySem.W.lookIn name od = some (mA name) :=
  let ⟨od, ho, hl⟩ := lookIn_ns I.ns
  ⟨od, ⟨I.obj, rfl, rfl, ho⟩, hl⟩

section
variable {prog : Program} {w : World} {A : Around} {E : Value → Shared → Prop} {s : Shared} {K : PySem.W.Frag} {x dx C f : Addr} {mA : Str → Option Value} {name : Str} {v : Value}

theorem get_map {expr : Bool} {Q : Value → Shared → Prop} (X : K.In s.heap) (I : ObjM s.heap x dx C mA) (hg : PySem.W.plainGet K C name = true) (hh : PySem.W.hasDictIn K C = true)
    (ha : PySem.W.findIn K (.ref C) name = some none) (hv : mA name = some v) (hv' : PySem.W.handedIn v = true) (h : Q v { s with toks := s.toks + 1 }) :
    wpAny (model prog w) A (getAttr (.ref x) name expr) Q E s := by
  obtain ⟨od, J, hl⟩ := I.look
  exact PySem.W.get_value X J (PySem.W.plainGet_of hg).1 (PySem.W.findObj_own hh ha rfl (by rw [hl, hv])) hv' h

theorem get_meth {pl : Sem Bool} {Q : Value × List Value → Shared → Prop} (X : K.In s.heap) (I : ObjM s.heap x dx C mA) (hg : PySem.W.plainGet K C name = true)
    (hf : PySem.W.findIn K (.ref C) name = some (some (.ref f))) (ht : PySem.W.isFn K (.ref f) = true) (hv : mA name = none) (h : Q (.ref f, [.ref x]) s) :
    wpAny (model prog w) A (getMethod (.ref x) name pl) Q E s := by
  obtain ⟨od, J, hl⟩ := I.look
  exact PySem.W.method_fn X J (PySem.W.plainGet_of hg).1 (PySem.W.plainGet_of hg).2 hf (beq_iff_eq.mp ht) (by show (PySem.W.lookIn name od).map (·.isSome) = some false; rw [hl, hv]; rfl) h

theorem set_map {ns : List Str} {Q : Unit → Shared → Prop} (X : K.In s.heap) (I : ObjM s.heap x dx C mA)
    (hs : PySem.W.findIn K (.ref C) "__setattr__" = some (some (.builtin "object.__setattr__"))) (hp : PySem.W.plainOver K C = true) (ht : PySem.W.takerIn K C name = some none) (hh : PySem.W.hasDictIn K C = true)
    (hw : PySem.Within mA ns) (hsz : ns.length ≤ sizeLine)
    (h : ∀ h', ObjM h' x dx C (fun y => if y = name then some v else mA y) → Heap.SameBut dx s.heap h' → Q () { s with heap := h', toks := s.toks + 2 }) :
    wpAny (model prog w) A (setAttr (.ref x) name v) Q E s := by
  obtain ⟨od, J, hl⟩ := I.look
  refine PySem.W.set_plain X J hs (PySem.W.osa_open (s := { s with toks := s.toks + 1 }) (r := none) X J hp ht fun b => ?_)
  obtain ⟨cd, hc, hd'⟩ := PySem.W.any_some hh
  have hx : s.heap.get? x = some ⟨.ref C, some dx, .plain, #[]⟩ := I.obj
  refine wpAny_bind (wpAny_pure (wpAny_bind (wpAny_bind (wpAny_loadPart hx (wpAny_bind (PySem.W.Looks.here (s := { s with toks := s.toks + 1 }) (PySem.W.looks_clsIn X hc) ?_))))))
  rw [hd']
  refine wpAny_pure (a := some dx) (wpAny_bind (wpAny_pure (wpAny_bind ?_)))
  refine wpAny_nsSet1 (s := { s with toks := s.toks + 1 }) I.ns fun h' hn2 hs2 => ?_
  obtain ⟨oD, esD, epD, hoD, hdD, hcD⟩ := hn2.count (PySem.Within.cons name v hw)
  refine wpAny_bind (wpAny_lookBehind hoD (by rw [hdD]; exact pastItsLine_dict (Nat.le_trans hcD (by rw [List.length_cons]; (first | lia | omega)))) ?_)
  exact wpAny_pure (h _ ⟨(hs2.2 _ (Ne.symm I.ne)).trans I.obj, hn2, I.ne⟩ hs2)

/-- C(..): the dict at the heap's end, the instance behind it; then its __init__ -/
theorem make_map {R : Result → Shared → Prop} {vs : List Value} {kw : List (Str × Value)} (X : K.In s.heap) (hm : PySem.W.makesIn K C = true)
    (hi : PySem.W.findIn K (.ref C) "__init__" = some (some (.ref f))) (hf : PySem.W.typeIn K (.ref f) = some (.type "function"))
    (h : codeAny (model prog w) (A.under (.builtin "type.__call__" ⟨.ref C :: vs, kw⟩)) (.call (.ref f) ⟨.ref (s.heap.objs.size + 1) :: vs, kw⟩) (PySem.W.InitBack (s.heap.objs.size + 1) R)
      { s with heap := (s.heap.push PySem.W.emptyDict).push (PySem.W.instObj C s.heap.objs.size) }) :
    codeAny (model prog w) A (.call (.ref C) ⟨vs, kw⟩) R s := by
  obtain ⟨hh, g, d, t, os⟩ := s
  exact PySem.W.make_core (PySem.W.makes_of X hm) (PySem.W.looks_findIn X hi) (fun self => PySem.W.bind_fn X self hf) (.inl rfl) h
end

/-! ### the attributes as a list of pairs -/
noncomputable def putF (f : Str) (v : V) : List (Str × V) → List (Str × V)
  | [] => [(f, v)]
  | (g, x) :: r => if g = f then (g, v) :: r else (g, x) :: putF f v r
theorem lookup_putF (f g : Str) (v : V) : ∀ fs : List (Str × V), (putF f v fs).lookup g = if g = f then some v else fs.lookup g
  | [] => by
    show List.lookup g [(f, v)] = _
    by_cases h : g = f
    · have hb : (g == f) = true := beq_iff_eq.mpr h
      simp only [List.lookup, hb, if_pos h]
    · have hb : (g == f) = false := beq_eq_false_iff_ne.mpr h
      simp only [List.lookup, hb, if_neg h]
  | (k, x) :: r => by
    have ih := lookup_putF f g v r
    rw [show putF f v ((k, x) :: r) = (if k = f then (k, v) :: r else (k, x) :: putF f v r) from rfl]
    by_cases hk : k = f
    · rw [if_pos hk]
      by_cases h : g = k
      · have hb : (g == k) = true := beq_iff_eq.mpr h
        simp only [List.lookup, hb, if_pos (h.trans hk)]
      · have hb : (g == k) = false := beq_eq_false_iff_ne.mpr h
        simp only [List.lookup, hb, if_neg (fun e : g = f => h (e.trans hk.symm))]
    · rw [if_neg hk]
      by_cases h : g = k
      · have hb : (g == k) = true := beq_iff_eq.mpr h
        simp only [List.lookup, hb, if_neg (fun e : g = f => hk (h.symm.trans e))]
      · have hb : (g == k) = false := beq_eq_false_iff_ne.mpr h
        simp only [List.lookup, hb]
        exact ih
theorem keys_putF (f : Str) (v : V) : ∀ fs : List (Str × V), f ∈ (putF f v fs).map (·.1) ∧ ∀ g, g ∈ fs.map (·.1) → g ∈ (putF f v fs).map (·.1)
  | [] => ⟨by simp [putF], fun g h => by simp at h⟩
  | (k, x) :: r => by
    obtain ⟨i1, i2⟩ := keys_putF f v r
    rw [show putF f v ((k, x) :: r) = (if k = f then (k, v) :: r else (k, x) :: putF f v r) from rfl]
    by_cases hk : k = f
    · rw [if_pos hk]
      subst hk
      exact ⟨by simp, fun g h => by simpa using h⟩
    · rw [if_neg hk]
      refine ⟨?_, fun g h => ?_⟩
      · rw [List.map_cons]
        exact List.mem_cons_of_mem _ i1
      · rw [List.map_cons] at h ⊢
        rcases List.mem_cons.mp h with e | e
        · exact List.mem_cons.mpr (.inl e)
        · exact List.mem_cons_of_mem _ (i2 g e)
theorem length_putF (f : Str) (v : V) : ∀ fs : List (Str × V), (putF f v fs).length ≤ fs.length + 1
  | [] => by simp [putF]
  | (k, x) :: r => by
    have ih := length_putF f v r
    rw [show putF f v ((k, x) :: r) = (if k = f then (k, v) :: r else (k, x) :: putF f v r) from rfl]
    by_cases hk : k = f
    · rw [if_pos hk, List.length_cons, List.length_cons]; (first | lia | omega)
    · rw [if_neg hk, List.length_cons, List.length_cons]; (first | lia | omega)

theorem RelO.some_of {v : V} {o : Option Value} (r : RelO (some v) o) : ∃ u, o = some u ∧ RelV v u := by
  cases o with
  | none => exact (show False from r).elim
  | some u => exact ⟨u, rfl, r⟩
theorem RelO.none_of {o : Option Value} (r : RelO none o) : o = none := by
  cases o with
  | none => rfl
  | some u => exact (show False from r).elim
theorem handed_of {v : V} {u : Value} (r : RelV v u) : PySem.W.handedIn u = true := by
  cases v with
  | non => cases (show u = Value.none from r); rfl
  | bl b => cases (show u = Value.bool b from r); rfl
  | int i => obtain ⟨t, e⟩ := (show ∃ t, u = Value.int i t from r); cases e; rfl
  | str x => obtain ⟨t, e⟩ := (show ∃ t, u = Value.str x t from r); cases e; rfl
  | byt b => obtain ⟨t, e⟩ := (show ∃ t, u = Value.bytes b t from r); cases e; rfl
  | flt b => obtain ⟨t, e⟩ := (show ∃ t, u = Value.float b t from r); cases e; rfl
  | ref a => cases (show u = Value.ref a from r); rfl
  | ty n => cases (show u = Value.type n from r); rfl

section
variable {P : Program} {w : World} {H H' : Hp} {h h' : Heap} {a C dx : Addr} {fs fs' : List (Str × V)}
theorem ins_get (hok : HOk P w H h) (e : H a = some (.ins C dx fs)) : ∃ mA, ObjM h a dx C mA ∧ (∀ f, RelO (fs.lookup f) (mA f)) ∧ PySem.Within mA (fs.map (·.1)) ∧ fs.length ≤ 1000 ∧ H dx = some (.own a) := by
  obtain ⟨d, z, ne, ob, mA, n, r, q⟩ := (show ObjOk P w H h a (.ins C dx fs) from hok a _ e)
  exact ⟨mA, ⟨ob, n, ne⟩, r, q, z, d⟩
end

/-! ### what of the text a class must have -/
structure Cls (K : PySem.W.Frag) (C : Addr) : Prop where
  pg : PySem.W.plainGet K C Str.empty = true
  hd : PySem.W.hasDictIn K C = true
  po : PySem.W.plainOver K C = true
  sa : PySem.W.findIn K (.ref C) "__setattr__" = some (some (.builtin "object.__setattr__"))
theorem Cls.get {K : PySem.W.Frag} {C : Addr} (c : Cls K C) (f : Str) : PySem.W.plainGet K C f = true := c.pg
/-- no class of it has the name -/
noncomputable def NoAttr (K : PySem.W.Frag) (C : Addr) (f : Str) : Prop := PySem.W.findIn K (.ref C) f = some none
theorem NoAttr.taker {K : PySem.W.Frag} {C : Addr} {f : Str} (n : NoAttr K C f) : PySem.W.takerIn K C f = some none := by
  unfold PySem.W.takerIn
  rw [show PySem.W.findIn K (.ref C) f = some none from n]
  rfl
/-- a method: a plain def of the class or of one above it -/
structure Meth (K : PySem.W.Frag) (C : Addr) (m : Str) (f : Addr) : Prop where
  at_ : PySem.W.findIn K (.ref C) m = some (some (.ref f))
  fn : PySem.W.isFn K (.ref f) = true
  kp : PySem.W.keepIn K (.ref f) = true

section
variable {X : Cx} {pins : List (Addr × Obj)} {σ : St} {H : Hp} {s : Shared} {a C dx : Addr} {fs : List (Str × V)} {f : Str} {v : V} {A : Around} {E : Value → Shared → Prop}

theorem getattr_ok {b : Bool} {Q : Value → Shared → Prop} (I : Inv X pins σ H s) (e : H a = some (.ins C dx fs)) (c : Cls X.K C) (n : NoAttr X.K C f) (l : fs.lookup f = some v)
    (h : ∀ u s', Inv X pins σ H s' → RelV v u → Q u s') : wpAny (model X.prog X.w) A (getAttr (.ref a) f b) Q E s := by
  obtain ⟨mA, O, r, _, _, _⟩ := ins_get I.hok e
  obtain ⟨u, hu, ru⟩ := RelO.some_of (v := v) (o := mA f) (by rw [← l]; exact r f)
  exact get_map I.kIn O (c.get f) c.hd n hu (handed_of ru) (h u _ (I.tok _) ru)

theorem getmeth_ok {m : Str} {g : Addr} {pl : Sem Bool} {Q : Value × List Value → Shared → Prop} (I : Inv X pins σ H s) (e : H a = some (.ins C dx fs)) (c : Cls X.K C) (k : Meth X.K C m g) (l : fs.lookup m = none)
    (h : Q (.ref g, [.ref a]) s) : wpAny (model X.prog X.w) A (getMethod (.ref a) m pl) Q E s := by
  obtain ⟨mA, O, r, _, _, _⟩ := ins_get I.hok e
  have hn : mA m = none := RelO.none_of (by rw [← l]; exact r m)
  exact get_meth I.kIn O (c.get m) k.at_ k.fn hn h

theorem setattr_ok {y : V} {u : Value} {Q : Unit → Shared → Prop} (I : Inv X pins σ H s) (e : H a = some (.ins C dx fs)) (c : Cls X.K C) (n : NoAttr X.K C f) (hl : fs.length < 1000) (ry : RelV y u)
    (h : ∀ s', Inv X pins σ (upd H a (.ins C dx (putF f y fs))) s' → Q () s') : wpAny (model X.prog X.w) A (setAttr (.ref a) f u) Q E s := by
  obtain ⟨mA, O, r, wi, _, ho⟩ := ins_get I.hok e
  have hz : (fs.map (·.1)).length ≤ sizeLine := by rw [List.length_map, sizeLine_eq]; (first | lia | omega)
  refine set_map I.kIn O c.sa c.po n.taker c.hd wi hz fun h' O' sb => h _ ?_
  have hd : ∃ o, h'.get? dx = some o := let ⟨o, _, _, e', _⟩ := O'.ns; ⟨o, e'⟩
  refine I.write (x := a) (e := dx) (by rw [e]; exact True.intro) (.inr ho) (fun b q hb z => (sb.2 b hb).trans z) hd ?_
  refine ⟨by rw [upd_ne O.ne]; exact ho, ?_, O.ne, O'.obj, _, O'.ns, fun g => ?_, fun g hg => ?_⟩
  · have := length_putF f y fs; (first | lia | omega)
  · show RelO ((putF f y fs).lookup g) (if g = f then some u else mA g)
    rw [lookup_putF]
    by_cases q : g = f
    · rw [if_pos q, if_pos q]; exact ry
    · rw [if_neg q, if_neg q]; exact r g
  · by_cases q : g = f
    · rw [q]; exact (keys_putF f y fs).1
    · refine (keys_putF f y fs).2 g (wi g fun z => hg ?_)
      show (if g = f then some u else mA g) = none
      rw [if_neg q]; exact z

/-- a new instance, tracked, without attributes -/
theorem Inv.made (I : Inv X pins σ H s) : Inv X pins σ (upd (upd H s.heap.objs.size (.own (s.heap.objs.size + 1))) (s.heap.objs.size + 1) (.ins C s.heap.objs.size []))
    { s with heap := (s.heap.push PySem.W.emptyDict).push (PySem.W.instObj C s.heap.objs.size) } := by
  have e1 : (s.heap.push PySem.W.emptyDict).get? s.heap.objs.size = some PySem.W.emptyDict := Heap.get?_push_size s.heap rfl
  have e2 : ((s.heap.push PySem.W.emptyDict).push (PySem.W.instObj C s.heap.objs.size)).get? (s.heap.objs.size + 1) = some (PySem.W.instObj C s.heap.objs.size) := by
    have := Heap.get?_push_size (s.heap.push PySem.W.emptyDict) (o := PySem.W.instObj C s.heap.objs.size) rfl
    rwa [Heap.size_push] at this
  have e3 : (s.heap.push PySem.W.emptyDict).Ns s.heap.objs.size (fun _ => none) := ⟨PySem.W.emptyDict, #[], _, e1, rfl, (fun e he => absurd he (by simp)), fun _ => rfl⟩
  have I1 := I.laid (a := s.heap.objs.size) (o := .own (s.heap.objs.size + 1)) (h' := s.heap.push PySem.W.emptyDict) (t' := s.toks) (fun b u q => Heap.get?_push_of_some _ q) (Nat.le_refl _) ⟨_, e1⟩
  refine I1.laid (a := s.heap.objs.size + 1) (o := .ins C s.heap.objs.size []) (t' := s.toks) (fun b u q => Heap.get?_push_of_some _ q) (Nat.le_of_eq (Heap.size_push _ _)) ?_
  have ne : s.heap.objs.size ≠ s.heap.objs.size + 1 := Nat.ne_of_lt (Nat.lt_succ_self _)
  refine ⟨by rw [upd_ne ne, upd_same], Nat.zero_le _, ne, e2, fun _ => none, (Heap.Ns1.of_empty e3).at fun o q => Heap.get?_push_of_some _ q, fun _ => True.intro, fun y hy => absurd rfl hy⟩

/-- e.f where nothing but the object is asked: through attributeBase (super) and the last hold -/
theorem attr_of {prog : Program} {w : World} {env : Env} {e : Expr} {f : Str} {pos : Pos} {s : Shared} {Q : Value → Shared → Prop} (hb : attributeBase e f env (eval e env) = eval e env)
    (h : wpAny (model prog w) A (eval e env) (fun o s₁ => wpAny (model prog w) A (getAttr o f true) Q E s₁) E s) : wpAny (model prog w) A (eval (.Attribute e f pos) env) Q E s :=
  Attribute_any_ h (by rw [arm_eval_Attribute, hb])
end

/-! ### readings and rules -/
/-- e.f, an attribute of the instance -/
noncomputable def tFld (K : PySem.W.Frag) (ta : TE) (f : Str) : TE := fun σ H Q => ta σ H fun x H1 => Ex5 fun a C dx fs v => x = .ref a ∧ H1 a = some (.ins C dx fs) ∧ Cls K C ∧ NoAttr K C f ∧ fs.lookup f = some v ∧ Q v H1
/-- e.f = value -/
noncomputable def sFld (K : PySem.W.Frag) (ta tv : TE) (f : Str) : TS := fun D σ H => tv σ H fun y H1 => ta σ H1 fun x H2 => Ex4 fun a C dx fs => x = .ref a ∧ H2 a = some (.ins C dx fs) ∧ Cls K C ∧ NoAttr K C f ∧ fs.length < 1000 ∧
  D.nx σ (upd H2 a (.ins C dx (putF f y fs)))
/-- an augmented operator on two values -/
noncomputable def InOp (X : Cx) (op : Operator) (rd : V → V → Hp → VK → Prop) : Prop :=
  ∀ ⦃pins : List (Addr × Obj)⦄ (s : Shared) (σ : St) (H : Hp) (x y : V) (u v : Value) (Q : VK), Inv X pins σ H s → RelV x u → RelV y v → rd x y H Q → wpAny (model X.prog X.w) X.A (inplaceOp op u v) (EP X pins σ Q) X.xe s
/-- e.f op= value -/
noncomputable def sFldAug (K : PySem.W.Frag) (ta tv : TE) (rd : V → V → Hp → VK → Prop) (f : Str) : TS := fun D σ H => ta σ H fun x H1 => Ex5 fun a C dx fs v => x = .ref a ∧ H1 a = some (.ins C dx fs) ∧ Cls K C ∧ NoAttr K C f ∧ fs.lookup f = some v ∧
  tv σ H1 fun y H2 => rd v y H2 fun z H3 => Ex2 fun dx' fs' => H3 a = some (.ins C dx' fs') ∧ fs'.length < 1000 ∧ D.nx σ (upd H3 a (.ins C dx' (putF f z fs')))

section
variable {X : Cx} {o e value : Expr} {f : Str} {pos pos' tpos : Pos} {ta tv : TE}
theorem pe_fld (he : PE X e ta) (hb : attributeBase e f X.env (eval e X.env) = eval e X.env) : PE X (.Attribute e f pos) (tFld X.K ta f) := by
  intro pins s σ H Q I h
  refine attr_of hb (thn (he s σ H _ I h) fun u s1 ⟨x, H1, I1, rx, a, C, dx, fs, v, ex, ea, c, n, l, q⟩ => ?_)
  subst ex
  obtain rfl : u = Value.ref a := rx
  exact getattr_ok I1 ea c n l fun u' s2 I2 ru => ⟨v, H1, I2, ru, q⟩
theorem ps_fld (ha : PE X o ta) (hv : PE X value tv) (hs : swapsWith value (some (.Attribute o f pos')) pos.line X.env = pure false) : PS X (.Assign [.Attribute o f pos'] value pos) (sFld X.K ta tv f) := by
  intro pins s σ H D I h
  refine plainObj_wpAny_Assign_Attribute (thn (hv s σ H _ I h) fun u s1 ⟨y, H1, I1, ry, q⟩ => thn (ha s1 σ H1 _ I1 q) fun ov s2 ⟨x, H2, I2, rx, a, C, dx, fs, ex, ea, c, n, l, q2⟩ => ?_) hs
  subst ex
  obtain rfl : ov = Value.ref a := rx
  exact setattr_ok I2 ea c n l ry fun s3 I3 => ⟨σ, _, I3, q2⟩
theorem ps_fldaug {op : Operator} {rd : V → V → Hp → VK → Prop} (ha : PE X o ta) (hv : PE X value tv) (hop : InOp X op rd) : PS X (.AugAssign (.Attribute o f tpos) op value pos) (sFldAug X.K ta tv rd f) := by
  intro pins s σ H D I h
  refine wpAny_AugAssign_AttributeAny (thn (ha s σ H _ I h) fun ov s1 ⟨x, H1, I1, rx, a, C, dx, fs, v, ex, ea, c, n, l, q⟩ => ?_)
  subst ex
  obtain rfl : ov = Value.ref a := rx
  refine getattr_ok I1 ea c n l fun u s2 I2 ru => thn (hv s2 σ H1 _ I2 q) fun w3 s3 ⟨y, H2, I3, ry, q3⟩ => thn (hop s3 σ H2 v y u w3 _ I3 ru ry q3) fun w4 s4 ⟨z, H3, I4, rz, dx', fs', ea', l', q4⟩ => ?_
  exact setattr_ok I4 ea' c n l' rz fun s5 I5 => ⟨σ, _, I5, q4⟩
noncomputable def rAdd : V → V → Hp → VK → Prop := fun x y H Q => Ex2 fun i j => x = .int i ∧ y = .int j ∧ Q (.int (i + j)) H
theorem in_add : InOp X .Add rAdd := by
  rintro pins s σ H x y u v Q I rx ry ⟨i, j, rfl, rfl, q⟩
  obtain ⟨t, rfl⟩ := (show ∃ t, u = Value.int i t from rx)
  obtain ⟨t', rfl⟩ := (show ∃ t', v = Value.int j t' from ry)
  exact PyProof.Rows.iadd_int ⟨.int (i + j), H, I.tok _, ⟨_, rfl⟩, q⟩
end

/-! ### isinstance -/
section
variable {X : Cx} {pins : List (Addr × Obj)} {σ : St} {H : Hp} {s : Shared} {A : Around} {E : Value → Shared → Prop} {Q : Value → Shared → Prop} {c : Value} {b : Bool}
end
end L2

namespace L2
open PySem PySem.Spec PyProof.Rows

/-! ### room -/
structure Room (k : Nat) (A : Around) : Prop where
  hd : A.handled = none
  dp : A.depth + 3 * k + 5 < recursionLimit
  un : A.units + 16 * k + 200 < cLine
  gd : A.guards = some []
theorem Room.mono {j k : Nat} {A : Around} (r : Room k A) (h : j ≤ k) : Room j A := ⟨r.hd, by have := r.dp; (first | lia | omega), by have := r.un; (first | lia | omega), r.gd⟩
theorem Room.deeper {k : Nat} {A : Around} (r : Room (k + 1) A) (env : Env) : Room k (A.deeper env) :=
  ⟨r.hd, by have := r.dp; show A.depth + 1 + 3 * k + 5 < _; (first | lia | omega), by have := r.un; show A.units + 3 + 16 * k + 200 < _; (first | lia | omega), r.gd⟩
theorem make_depth {A : Around} {C : Addr} {us : List Value} {kw : List (Str × Value)} : (A.under (.builtin "type.__call__" ⟨.ref C :: us, kw⟩)).depth = A.depth + 1 := by
  first | rfl | simp [Around.under, Code.weight, Code.isCreation, Code.isGuard, Code.isCaller, Code.frames, Code.isFrame, guardIds]
theorem make_units {A : Around} {C : Addr} {us : List Value} {kw : List (Str × Value)} : (A.under (.builtin "type.__call__" ⟨.ref C :: us, kw⟩)).units = A.units + 1 := by
  first | rfl | simp [Around.under, Code.cUnits, Code.frames, Code.isFrame]
theorem make_guards {A : Around} {C : Addr} {us : List Value} {kw : List (Str × Value)} : (A.under (.builtin "type.__call__" ⟨.ref C :: us, kw⟩)).guards = A.guards := by
  first | rfl | simp [Around.under, Code.guards, Code.isGuard, guardIds, pushGuards]
theorem Room.make {k : Nat} {A : Around} (r : Room (k + 1) A) (C : Addr) (us : List Value) (kw : List (Str × Value)) : Room k (A.under (.builtin "type.__call__" ⟨.ref C :: us, kw⟩)) :=
  ⟨r.hd, by have := r.dp; rw [make_depth]; (first | lia | omega), by have := r.un; rw [make_units]; (first | lia | omega), by rw [make_guards]; exact r.gd⟩
theorem Room.depth {k : Nat} {A : Around} (r : Room k A) : A.depth < recursionLimit := by have := r.dp; (first | lia | omega)
theorem Room.units {k : Nat} {A : Around} (r : Room k A) : A.units + 64 < cLine := by have := r.un; (first | lia | omega)
/-! ### argument lists and displays -/
noncomputable def tNil : TA := fun _ H Q => Q [] H
noncomputable def tCons (ta : TE) (tr : TA) : TA := fun σ H Q => ta σ H fun x H1 => tr σ H1 fun xs H2 => Q (x :: xs) H2
section
variable {X : Cx} {e : Expr} {es : List Expr} {te : TE} {t : TA} {pos : Pos}
theorem pa_nil : PA X [] tNil := fun _ _ _ _ H Q I h => Calls.spliced_nil ⟨[], H, I, .nil, h⟩
theorem pa_cons (ha : PE X e te) (hr : PA X es t) (hs : starEach (e :: es) X.env = (false, eval e X.env) :: starEach es X.env := by rfl) : PA X (e :: es) (tCons te t) := by
  intro pos pins s σ H Q I h
  rw [hs]
  show wpAny _ _ (spliced ((false, eval e X.env) :: backTo pos (starEach es X.env))) _ _ s
  refine Calls.spliced_cons (thn (ha s σ H _ I h) fun u s1 ⟨x, H1, I1, r1, q1⟩ => ?_)
  exact thn (hr s1 σ H1 _ I1 q1) fun us s2 ⟨xs, H2, I2, r2, q2⟩ => ⟨x :: xs, H2, I2, .cons r1 r2, q2⟩

/-- a tuple, a list of written items -/
noncomputable def tTup (t : TA) : TE := fun σ H Q => t σ H fun xs H1 => xs.length ≤ sizeLine ∧ ∀ p, H1 p = none → Q (.ref p) (upd H1 p (.tup xs))
noncomputable def tLst (t : TA) : TE := fun σ H Q => t σ H fun xs H1 => xs.length ≤ sizeLine ∧ ∀ p, H1 p = none → Q (.ref p) (upd H1 p (.lst xs))
theorem pe_tup {x1} (h : PA X es t) : PE X (.Tuple es x1 pos) (tTup t) := by
  intro pins s σ H Q I hq
  refine wpAny_Tuple_spliced (thn (h s σ H _ I hq) fun us s1 ⟨xs, H1, I1, r, z, q⟩ => ⟨by rw [← r.length]; exact z, ?_⟩)
  have hf : H1 s1.heap.objs.size = none := I1.hok.fresh (Nat.le_refl _)
  refine ⟨.ref s1.heap.objs.size, upd H1 s1.heap.objs.size (.tup xs), I1.laid (t' := s1.toks) (fun b u e => Heap.get?_push_of_some _ e) (Nat.le_refl _) ?_, rfl, q _ hf⟩
  exact ⟨z, us, r, ⟨_, Heap.get?_push_size _ rfl, rfl, _, rfl⟩⟩
theorem pe_lst (h : PA X es t) : PE X (.List es pos) (tLst t) := by
  intro pins s σ H Q I hq
  refine wpAny_List_spliced (thn (h s σ H _ I hq) fun us s1 ⟨xs, H1, I1, r, z, q⟩ => ⟨by rw [← r.length]; exact z, ?_⟩)
  have hf : H1 s1.heap.objs.size = none := I1.hok.fresh (Nat.le_refl _)
  refine ⟨.ref s1.heap.objs.size, upd H1 s1.heap.objs.size (.lst xs), I1.laid (t' := s1.toks) (fun b u e => Heap.get?_push_of_some _ e) (Nat.le_refl _) ?_, rfl, q _ hf⟩
  exact ⟨z, us, 0, r, Heap.get?_push_size _ rfl⟩
end

/-! ### what a def promises -/
/-- a def's promise: the bound arguments in the parameters' order, the heap, the wanted end, the wanted exception -/
noncomputable abbrev Sp := List V → Hp → VK → XK → Prop
/-- how an exception lies behind a call (file 08 gives it): the callers' frames, abstract heap and state ahead of the call, the wish, the exception, the state -/
noncomputable abbrev CXT := List Env → Hp → Shared → XK → Value → Shared → Prop

/-- the state at a call -/
structure Env0 (P : Program) (w : World) (K : PySem.W.Frag) (mg : Str → Option Value) (base : Heap) (A : Around) (outer : List Env) (s : Shared) (H : Hp) : Prop where
  frames : A.frames = some outer
  mod : Mod K mg base
  bs : ∀ b o, base.get? b = some o → s.heap.get? b = some o ∧ H b = none
  bsz : base.objs.size ≤ s.heap.objs.size
  funs : s.heap.FunFrames base outer
  frf : ∀ b ∈ frs outer, H b = none
  hok : HOk P w H s.heap
  bare : AllBare s.gens
/-- a call's end -/
noncomputable def CE (outer : List Env) (P : Program) (w : World) (H : Hp) (s : Shared) (Q : VK) (u : Value) (s' : Shared) : Prop :=
  Ex2 fun v H' => s'.os = s.os ∧ AllBare s'.gens ∧ Un (frs outer) [] H H' s.heap s'.heap ∧ HOk P w H' s'.heap ∧ RelV v u ∧ Q v H'
noncomputable def CR (CX : CXT) (outer : List Env) (P : Program) (w : World) (H : Hp) (s : Shared) (Q : VK) (E : XK) (r : Result) (s' : Shared) : Prop :=
  match r with
  | .ok (.ret u) => CE outer P w H s Q u s'
  | .ok _ => False
  | .error e => CX outer H s E e s'
structure FnOk (P : Program) (w : World) (K : PySem.W.Frag) (mg : Str → Option Value) (base : Heap) (CX : CXT) (k : Nat) (f : Addr) (fd : FuncData) (ps : List Str) (sp : Sp) : Prop where
  len : ∀ vs H Q E, sp vs H Q E → vs.length = ps.length
  run : ∀ (A : Around) (outer : List Env) (s : Shared) (H : Hp) (args : Args) (us : List Value) (vs : List V) (Q : VK) (E : XK), Room k A → Env0 P w K mg base A outer s H → BindsTo s fd args (ps.zip us) → Vals vs us → sp vs H Q E →
    codeAny (model P w) A (.call (.ref f) args) (CR CX outer P w H s Q E) s
theorem FnOk.mono {P : Program} {w : World} {K : PySem.W.Frag} {mg : Str → Option Value} {base : Heap} {CX : CXT} {j k : Nat} {f : Addr} {fd : FuncData} {ps : List Str} {sp : Sp} (F : FnOk P w K mg base CX j f fd ps sp) (h : j ≤ k) :
    FnOk P w K mg base CX k f fd ps sp := ⟨F.len, fun A outer s H args us vs Q E hr => F.run A outer s H args us vs Q E (hr.mono h)⟩
/-- a weaker promise -/
theorem FnOk.imp {P : Program} {w : World} {K : PySem.W.Frag} {mg : Str → Option Value} {base : Heap} {CX : CXT} {k : Nat} {f : Addr} {fd : FuncData} {ps : List Str} {sp sp' : Sp} (F : FnOk P w K mg base CX k f fd ps sp)
    (h : ∀ vs H Q E, sp' vs H Q E → sp vs H Q E) : FnOk P w K mg base CX k f fd ps sp' :=
  ⟨fun vs H Q E q => F.len vs H Q E (h _ _ _ _ q), fun A outer s H args us vs Q E hr he hb hv hs => F.run A outer s H args us vs Q E hr he hb hv (h _ _ _ _ hs)⟩

theorem Env0.make {P : Program} {w : World} {K : PySem.W.Frag} {mg : Str → Option Value} {base : Heap} {A : Around} {outer : List Env} {s : Shared} {H : Hp} (e : Env0 P w K mg base A outer s H) (C : Addr) (us : List Value) (kw : List (Str × Value)) :
    Env0 P w K mg base (A.under (.builtin "type.__call__" ⟨.ref C :: us, kw⟩)) outer s H := ⟨by first | exact e.frames | (simpa [Around.under, Code.envs, Code.isFrame, pushEnvs] using e.frames), e.mod, e.bs, e.bsz, e.funs, e.frf, e.hok, e.bare⟩
section
variable {X : Cx} {pins : List (Addr × Obj)} {σ : St} {H : Hp} {s s' : Shared}
/-- from a body: what a callee wants -/
theorem Inv.env0 (I : Inv X pins σ H s) : Env0 X.prog X.w X.K X.mg X.base X.A X.stack s H :=
  ⟨I.ok.frames, I.ok.mod, I.bs, Nat.le_trans I.ok.bsz I.sz, I.stack, I.stkFree, I.hok, I.bare⟩
/-- behind a call -/
theorem Inv.after {Q : VK} {u : Value} (I : Inv X pins σ H s) (h : CE X.stack X.prog X.w H s Q u s') : EP X pins σ Q u s' := by
  obtain ⟨v, H', os, bare, un, hok, r, q⟩ := h
  obtain ⟨hh, g, d, t, os'⟩ := s'
  obtain rfl : os' = s.os := os
  exact ⟨v, H', I.call (h' := hh) (g' := g) (d' := d) (t' := t) (ch := []) un hok bare (fun b z => absurd z (by simp)), r, q⟩
end

/-! ### calls -/
/-- f(..): the written arguments, then the defaults dvs; E: what is wanted of an exception -/
noncomputable def tCall (sp : Sp) (dvs : List V) (E : XK) (t : TA) : TE := fun σ H Q => t σ H fun vs H1 => sp (vs ++ dvs) H1 Q E
/-- o.m(..) of an instance of the class at C -/
noncomputable def tMeth (C : Addr) (m : Str) (sp : Sp) (dvs : List V) (E : XK) (ta : TE) (t : TA) : TE := fun σ H Q => ta σ H fun x H1 => Ex3 fun a dx fs => x = .ref a ∧ H1 a = some (.ins C dx fs) ∧ fs.lookup m = none ∧
  t σ H1 fun vs H2 => sp (x :: (vs ++ dvs)) H2 Q E
/-- C(..): a new instance and its dict, then __init__ -/
noncomputable def tMake (C : Addr) (sp : Sp) (dvs : List V) (E : XK) (t : TA) : TE := fun σ H Q => t σ H fun vs H1 => ∀ x dx, H1 x = none → H1 dx = none → dx ≠ x →
  sp (.ref x :: (vs ++ dvs)) (upd (upd H1 dx (.own x)) x (.ins C dx [])) (fun v H2 => v = .non ∧ Q (.ref x) H2) E

/-- how the parameters are bound: us the positional arguments, kw the keywords' values by name, ds the defaults that fill up -/
noncomputable def Binds (K : PySem.W.Frag) (fd : FuncData) (ps : List Str) (ds : List Value) : Prop :=
  ∀ (s : Shared) (us : List Value), K.In s.heap → (us ++ ds).length = ps.length → BindsTo s fd ⟨us, []⟩ (ps.zip (us ++ ds))
/-- every parameter is given -/
theorem Binds.all {K : PySem.W.Frag} {fd : FuncData} {ps : List Str} (h : ∀ us : List Value, us.length = ps.length → bindArgs fd ⟨us, []⟩ = pure (ps.zip us)) : Binds K fd ps [] := fun s us _ hl => by
  rw [List.append_nil] at hl ⊢
  exact .of_eq (h us hl)

/-- an exception of a callee reaches what this body wants of exceptions -/
noncomputable def Passes (CX : CXT) (X : Cx) (E : XK) : Prop := ∀ (pins : List (Addr × Obj)) (σ : St) (H : Hp) (s : Shared) (e : Value) (s' : Shared), Inv X pins σ H s → CX X.stack H s E e s' → X.xe e s'

section
variable {X : Cx} {CX : CXT} {k : Nat} {f C : Addr} {fd : FuncData} {ps : List Str} {sp : Sp} {dvs : List V} {ds : List Value} {E : XK} {x m : Str} {p pos apos : Pos} {e o : Expr} {es : List Expr} {ta : TE} {t : TA}

/-- the callee runs -/
theorem run_fn {pins : List (Addr × Obj)} {σ : St} {H : Hp} {s : Shared} {Q : VK} {us : List Value} {vs : List V} (F : FnOk X.prog X.w X.K X.mg X.base CX k f fd ps sp) (hr : Room k X.A) (hb : Binds X.K fd ps ds) (hd : Vals dvs ds) (hx : Passes CX X E)
    (I : Inv X pins σ H s) (r : Vals vs us) (h : sp (vs ++ dvs) H Q E) : wpAny (model X.prog X.w) X.A (call (.ref f) us) (EP X pins σ Q) X.xe s := by
  have r2 : Vals (vs ++ dvs) (us ++ ds) := r.append hd
  have hl : (us ++ ds).length = ps.length := by rw [← r2.length]; exact F.len _ _ _ _ h
  refine wpAny_call (codeAny_mono (F.run X.A X.stack s H ⟨us, []⟩ (us ++ ds) (vs ++ dvs) Q E hr I.env0 (hb s us I.kIn hl) r2 h) fun r s' hq => ?_)
  cases r with
  | error e => exact hx pins σ H s e s' I hq
  | ok fl =>
    cases fl with
    | ret u => exact I.after hq
    | next => exact False.elim hq
    | brk => exact False.elim hq
    | cont => exact False.elim hq

theorem pe_call (F : FnOk X.prog X.w X.K X.mg X.base CX k f fd ps sp) (hr : Room k X.A) (hg : Gl X x) (hm : X.mg x = some (.ref f)) (hk : PySem.W.keepIn X.K (.ref f) = true) (hb : Binds X.K fd ps ds) (hd : Vals dvs ds) (hx : Passes CX X E)
    (ha : PA X (e :: es) t) (hdb : (x == ("__debug__" : Str)) = false := by decide) (he : starEach (e :: es) X.env = (false, eval e X.env) :: starEach es X.env := by rfl) (hpl : (backTo pos (starEach es X.env)).any (·.1) = false := by rfl) :
    PE X (.Call (.Name x p) (e :: es) [] pos) (tCall sp dvs E t) := by
  intro pins s σ H Q I h
  refine wpAny_Call_Name_kw (ld_glob I hg hm ?_ hdb)
  refine PySem.W.callWith_K (h₀ := X.base) I.ok.mod.kin hk (thn (ha s σ H _ I h) fun us s1 ⟨vs, H1, I1, r, q⟩ => ⟨I1.kIn, ?_⟩) he hpl
  exact run_fn F hr hb hd hx I1 r q
/-- o.m(e, ..) -/
theorem pe_meth {pl : Sem Bool} (he : PE X o ta) (c : Cls X.K C) (hm : Meth X.K C m f) (F : FnOk X.prog X.w X.K X.mg X.base CX k f fd ps sp) (hr : Room k X.A) (hb : Binds X.K fd ps ds) (hd : Vals dvs ds) (hx : Passes CX X E) (ha : PA X (e :: es) t)
    (hst : starEach (e :: es) X.env = (false, eval e X.env) :: starEach es X.env := by rfl) (hpl : (backTo pos (starEach es X.env)).any (·.1) = false := by rfl)
    (ht : eval (.Call (.Attribute o m apos) (e :: es) [] pos) X.env = (do
      let ov ← eval o X.env
      standAt apos.atName
      let (f, first) ← holding [ov] (getMethod ov m pl)
      callWith pos f first (backTo pos (starEach (e :: es) X.env)) (backToKw pos (keywordEach [] X.env))) := by rfl) :
    PE X (.Call (.Attribute o m apos) (e :: es) [] pos) (tMeth C m sp dvs E ta t) := by
  intro pins s σ H Q I h
  refine PySem.W.methodCall_KW (pl := pl) (thn (he s σ H _ I h) fun u s1 ⟨x, H1, I1, rx, a, dx, fs, ex, ea, l, q⟩ => ?_) ht
  subst ex
  obtain rfl : u = Value.ref a := rx
  refine getmeth_ok I1 ea c hm l ?_
  refine PySem.W.callWith_K (first := [.ref a]) (h₀ := X.base) I.ok.mod.kin hm.kp (thn (ha s1 σ H1 _ I1 q) fun us s2 ⟨vs, H2, I2, r, q2⟩ => ⟨I2.kIn, ?_⟩) hst hpl
  exact run_fn (us := .ref a :: us) (vs := .ref a :: vs) F hr hb hd hx I2 (.cons rfl r) q2
/-- o.m() -/
theorem pe_meth0 {pl : Sem Bool} (he : PE X o ta) (c : Cls X.K C) (hm : Meth X.K C m f) (F : FnOk X.prog X.w X.K X.mg X.base CX k f fd ps sp) (hr : Room k X.A) (hb : Binds X.K fd ps ds) (hd : Vals dvs ds) (hx : Passes CX X E)
    (ht : eval (.Call (.Attribute o m apos) [] [] pos) X.env = (do
      let ov ← eval o X.env
      standAt apos.atName
      let (f, first) ← holding [ov] (getMethod ov m pl)
      callWith pos f first (backTo pos (starEach [] X.env)) (backToKw pos (keywordEach [] X.env))) := by rfl) :
    PE X (.Call (.Attribute o m apos) [] [] pos) (tMeth C m sp dvs E ta tNil) := by
  intro pins s σ H Q I h
  refine PySem.W.methodCall_KW (pl := pl) (thn (he s σ H _ I h) fun u s1 ⟨x, H1, I1, rx, a, dx, fs, ex, ea, l, q⟩ => ?_) ht
  subst ex
  obtain rfl : u = Value.ref a := rx
  refine getmeth_ok I1 ea c hm l ?_
  exact PySem.W.callWith_K0 (first := [.ref a]) I1.kIn hm.kp (run_fn (us := [.ref a]) (vs := [.ref a]) F hr hb hd hx I1 (.cons rfl .nil) q)

/-- what a class must have to be made -/
structure Mk (K : PySem.W.Frag) (C f : Addr) : Prop where
  makes : PySem.W.makesIn K C = true
  init : PySem.W.findIn K (.ref C) "__init__" = some (some (.ref f))
  fn : PySem.W.isFn K (.ref f) = true
  kp : PySem.W.keepIn K (.ref C) = true

theorem run_make {pins : List (Addr × Obj)} {σ : St} {H : Hp} {s : Shared} {Q : VK} {us : List Value} {vs : List V} (M : Mk X.K C f) (F : FnOk X.prog X.w X.K X.mg X.base CX k f fd ps sp) (hr : Room (k + 1) X.A) (hb : Binds X.K fd ps ds) (hd : Vals dvs ds)
    (hx : Passes CX X E) (I : Inv X pins σ H s) (r : Vals vs us)
    (h : ∀ x dx, H x = none → H dx = none → dx ≠ x → sp (.ref x :: (vs ++ dvs)) (upd (upd H dx (.own x)) x (.ins C dx [])) (fun v H2 => v = .non ∧ Q (.ref x) H2) E) :
    wpAny (model X.prog X.w) X.A (call (.ref C) us) (EP X pins σ Q) X.xe s := by
  have hq := h (s.heap.objs.size + 1) s.heap.objs.size (I.hok.fresh (Nat.le_succ _)) (I.hok.fresh (Nat.le_refl _)) (Nat.ne_of_lt (Nat.lt_succ_self _))
  have I2 := Inv.made (C := C) I
  have r2 : Vals (V.ref (s.heap.objs.size + 1) :: (vs ++ dvs)) (Value.ref (s.heap.objs.size + 1) :: (us ++ ds)) := .cons rfl (r.append hd)
  have hl : (Value.ref (s.heap.objs.size + 1) :: us ++ ds).length = ps.length := by
    have e := r2.length
    rw [F.len _ _ _ _ hq] at e
    exact e.symm
  refine wpAny_call (make_map (f := f) I.kIn M.makes M.init (beq_iff_eq.mp M.fn) (codeAny_mono (F.run _ X.stack _ _ ⟨Value.ref (s.heap.objs.size + 1) :: us, []⟩ (Value.ref (s.heap.objs.size + 1) :: (us ++ ds)) _ _ E (hr.make C us [])
    (I2.env0.make C us []) (hb _ (Value.ref (s.heap.objs.size + 1) :: us) I2.kIn hl) r2 hq) fun r s' hq' => ?_))
  cases r with
  | error e => exact hx pins σ _ _ e s' I2 hq'
  | ok fl =>
    cases fl with
    | ret u =>
      obtain ⟨v, H', I3, rv, ev, q3⟩ := I2.after hq'
      subst ev
      exact ⟨rv, ⟨V.ref (s.heap.objs.size + 1), H', I3, rfl, q3⟩⟩
    | next => exact False.elim hq'
    | brk => exact False.elim hq'
    | cont => exact False.elim hq'
theorem pe_make (M : Mk X.K C f) (F : FnOk X.prog X.w X.K X.mg X.base CX k f fd ps sp) (hr : Room (k + 1) X.A) (hg : Gl X x) (hm : X.mg x = some (.ref C)) (hb : Binds X.K fd ps ds) (hd : Vals dvs ds) (hx : Passes CX X E)
    (ha : PA X (e :: es) t) (hdb : (x == ("__debug__" : Str)) = false := by decide) (he : starEach (e :: es) X.env = (false, eval e X.env) :: starEach es X.env := by rfl) (hpl : (backTo pos (starEach es X.env)).any (·.1) = false := by rfl) :
    PE X (.Call (.Name x p) (e :: es) [] pos) (tMake C sp dvs E t) := by
  intro pins s σ H Q I h
  refine wpAny_Call_Name_kw (ld_glob I hg hm ?_ hdb)
  refine PySem.W.callWith_K (h₀ := X.base) I.ok.mod.kin M.kp (thn (ha s σ H _ I h) fun us s1 ⟨vs, H1, I1, r, q⟩ => ⟨I1.kIn, ?_⟩) he hpl
  exact run_make M F hr hb hd hx I1 r q
end

/-! ### keywords -/
section
variable {X : Cx} {CX : CXT} {k : Nat} {f C : Addr} {fd : FuncData} {ps ks : List Str} {sp : Sp} {E : XK} {x m : Str} {p pos apos kpos : Pos} {e o : Expr} {es : List Expr} {kws : List Keyword} {te ta : TE} {t tk : TA} {nm : Option Str}
variable {g : List Value → List Value → List Value} {gV : List V → List V → List V}
end

/-! ### a def's body keeps its promise -/
/-- names: the parameters first -/
structure FnScope (N P : List Str) (sc : Scope) : Prop where
  kind : sc.kind = .function
  co : sc.isCoroutine = false
  gen : sc.isGenerator = false
  nd : N.Nodup
  pre : N.take P.length = P
  par : ∀ x ∈ P, sc.names.lookup x = some .local ∨ sc.names.lookup x = some .cell
  nofree : ∀ y ∈ sc.names, y.2 ≠ .free

theorem bindL_out {kindOf : Str → Option NameKind} {x : Str} : ∀ {binds : List (Str × Value)} {m : Str → Option Value}, (∀ v, (x, v) ∉ binds) → bindL kindOf binds m x = m x
  | [], _, _ => rfl
  | (n, v) :: r, m, h => by
    unfold bindL
    rw [bindL_out fun w hw => h w (List.mem_cons_of_mem _ hw)]
    split
    · have : x ≠ n := by rintro rfl; exact h v List.mem_cons_self
      simp [this]
    · rfl
theorem bindC_out {kindOf : Str → Option NameKind} {x : Str} : ∀ {binds : List (Str × Value)} {m : Str → Option Value}, (∀ v, (x, v) ∉ binds) → bindC kindOf binds m x = m x
  | [], _, _ => rfl
  | (n, v) :: r, m, h => by
    unfold bindC
    rw [bindC_out fun w hw => h w (List.mem_cons_of_mem _ hw)]
    split
    · rfl
    · have : x ≠ n := by rintro rfl; exact h v List.mem_cons_self
      simp [this]
theorem bindL_get {kindOf : Str → Option NameKind} {x : Str} {v : Value} : ∀ {P : List Str} {vs : List Value} {i : Nat} {m : Str → Option Value}, P.Nodup → P[i]? = some x → vs[i]? = some v → kindOf x = some .local →
    bindL kindOf (P.zip vs) m x = some v
  | [], _, _, _, _, h, _, _ => by simp at h
  | _ :: _, [], _, _, _, _, h, _ => by simp at h
  | p :: P, w :: vs, 0, m, nd, h1, h2, hk => by
    simp at h1 h2; subst h1; subst h2
    show bindL kindOf ((p, w) :: P.zip vs) m p = _
    unfold bindL
    rw [bindL_out fun v hv => (List.nodup_cons.mp nd).1 (List.of_mem_zip hv).1, if_pos hk]
    simp
  | p :: P, w :: vs, i + 1, m, nd, h1, h2, hk => by
    show bindL kindOf ((p, w) :: P.zip vs) m x = _
    unfold bindL
    exact bindL_get (i := i) (List.nodup_cons.mp nd).2 (by simpa using h1) (by simpa using h2) hk
theorem bindC_get {kindOf : Str → Option NameKind} {x : Str} {v : Value} : ∀ {P : List Str} {vs : List Value} {i : Nat} {m : Str → Option Value}, P.Nodup → P[i]? = some x → vs[i]? = some v → kindOf x ≠ some .local →
    bindC kindOf (P.zip vs) m x = some v
  | [], _, _, _, _, h, _, _ => by simp at h
  | _ :: _, [], _, _, _, _, h, _ => by simp at h
  | p :: P, w :: vs, 0, m, nd, h1, h2, hk => by
    simp at h1 h2; subst h1; subst h2
    show bindC kindOf ((p, w) :: P.zip vs) m p = _
    unfold bindC
    rw [bindC_out fun v hv => (List.nodup_cons.mp nd).1 (List.of_mem_zip hv).1, if_neg hk]
    simp
  | p :: P, w :: vs, i + 1, m, nd, h1, h2, hk => by
    show bindC kindOf ((p, w) :: P.zip vs) m x = _
    unfold bindC
    exact bindC_get (i := i) (List.nodup_cons.mp nd).2 (by simpa using h1) (by simpa using h2) hk

/-- the names' values at the entry -/
noncomputable def start (N : List Str) (vs : List V) : St := vs.map some ++ List.replicate (N.length - vs.length) none

/-- the context of a def's body, at its entry; an exception leaves the frame, then lies as CX says -/
noncomputable def cxOf (CX : CXT) (P : Program) (w : World) (K : PySem.W.Frag) (mg : Str → Option Value) (base : Heap) (N : List Str) (qual : Str) (scope : Scope) (f : Addr) (cd : Value) (A : Around) (outer : List Env) (s : Shared) (H : Hp) (E : XK) : Cx where
  prog := P
  w := w
  K := K
  mg := mg
  base := base
  A := A.deeper (envOfC qual scope s.heap.objs.size f cd)
  N := N
  s₀ := s
  H₀ := H
  env := envOfC qual scope s.heap.objs.size f cd
  outer := outer
  stack := envOfC qual scope s.heap.objs.size f cd :: outer
  ex := []
  calm := true
  fn := fun _ => true
  pn := []
  xe := fun e s' => wpAny (model P w) (A.deeper (envOfC qual scope s.heap.objs.size f cd)) (leaving (envOfC qual scope s.heap.objs.size f cd) e) (fun _ s'' => CX outer H s E e s'') (fun e' s'' => CX outer H s E e' s'') s'

theorem cell_has {sc : Scope} {n : Nat} {x : Str} (h : sc.names.lookup x = some .cell) : ∃ c, (cellsFrom n sc.names []).lookup x = some c := by
  have q := PySem.W.cellsFrom_some sc.names n [] (.inl h)
  exact Option.isSome_iff_exists.mp q

theorem inv_start {CX : CXT} {P : Program} {w : World} {K : PySem.W.Frag} {mg : Str → Option Value} {base : Heap} {N ps : List Str} {qual : Str} {scope : Scope} {f : Addr} {cd : Value} {A : Around} {outer : List Env} {s s1 : Shared} {H : Hp} {E : XK} {us : List Value} {vs : List V}
    (S : FnScope N ps scope) (hd : A.handled = none) (e0 : Env0 P w K mg base A outer s H) (hl : vs.length = ps.length) (r : Vals vs us)
    (x : InCallC s s.heap.objs.size (bindL (envOfC qual scope s.heap.objs.size f cd).kindOf (ps.zip us) fun _ => none) (cellsFrom (s.heap.objs.size + 1) scope.names []) (bindC (envOfC qual scope s.heap.objs.size f cd).kindOf (ps.zip us) fun _ => none) s1) :
    Inv (cxOf CX P w K mg base N qual scope f cd A outer s H E) [] (start N vs) H s1 := by
  have hpl : ps.length ≤ N.length := by have := congrArg List.length S.pre; rw [List.length_take] at this; (first | lia | omega)
  obtain ⟨h1, tk, rfl, hk⟩ := x.done
  have noA : ∀ b : Addr, b ∉ (cxOf CX P w K mg base N qual scope f cd A outer s H E).ex := fun b z => absurd (show b ∈ ([] : List Addr) from z) (by simp)
  refine ⟨⟨e0.mod, S.kind, rfl, rfl, Nat.le_refl _, fun y z c h1 h2 => ?_, fun y hy => ?_, fun y c _ h => ?_, fun _ => hd, Around.frames_deeper e0.frames, .inr ⟨rfl, rfl⟩, fun b z => absurd z (noA b), e0.bs, e0.bsz, fun b _ _ => noA b, fun b z => absurd z (noA b), e0.funs, e0.frf⟩,
    rfl, e0.bare, Un.kept hk, ⟨_, x.toInCall.ns, fun i y v h1 h2 h3 => ?_⟩, fun y c h => ⟨_, x.cell y c h⟩, e0.hok.fresh (Nat.le_refl _), fun y c h => ?_, fun p hp => absurd (show p ∈ ([] : List (Addr × Obj)) from hp) (by simp), e0.hok.kept hk, ?_⟩
  · exact name_of_addr x.apart (PySem.mem_of_lookup h1) (PySem.mem_of_lookup h2)
  · have hy : scope.names.lookup y = some .cell ∨ scope.names.lookup y = some .free := hy
    rcases hy with hy | hy
    · exact cell_has hy
    · exact absurd rfl (S.nofree _ (PySem.mem_of_lookup hy))
  · exact Nat.le_of_lt (x.above y c (PySem.mem_of_lookup h))
  · have hi : i < vs.length := by
      unfold start at h2
      by_cases hi : i < vs.length
      · exact hi
      · rw [List.getElem?_append_right (by simpa using hi)] at h2
        rw [List.getElem?_replicate] at h2
        split at h2 <;> cases h2
    have ha : vs[i]? = some v := by
      unfold start at h2
      rw [List.getElem?_append_left (by simpa using hi), List.getElem?_map] at h2
      cases e : vs[i]? with
      | none => rw [e] at h2; cases h2
      | some a => rw [e] at h2; cases h2; rfl
    obtain ⟨u, hu, rv⟩ := r.get ha
    have hp : ps[i]? = some y := by
      rw [← S.pre, List.getElem?_take_of_lt (by (first | lia | omega))]; exact h1
    have ndP : ps.Nodup := by rw [← S.pre]; exact S.nd.sublist (List.take_sublist _ _)
    refine ⟨u, rv, ?_⟩
    rcases S.par y (List.mem_of_getElem? hp) with k | k
    · exact .inl ⟨k, bindL_get ndP hp hu k⟩
    · obtain ⟨c, e⟩ := cell_has (n := s.heap.objs.size + 1) k
      refine .inr ⟨.inl k, c, e, ?_⟩
      have q := x.cell y c e
      rw [bindC_get ndP hp hu (by show scope.names.lookup y ≠ _; rw [k]; decide)] at q
      exact q
  · exact e0.hok.fresh (Nat.le_of_lt (x.above y c (PySem.mem_of_lookup h)))
  · unfold start
    show _ = N.length
    rw [List.length_append, List.length_map, List.length_replicate]
    (first | lia | omega)

/-- THE RULE: a def (or a method) of the text, by its body. The body's reading t is chosen for each entry; it is run at the parameters' values -/
theorem fn_of {CX : CXT} {P : Program} {w : World} {K : PySem.W.Frag} {mg : Str → Option Value} {base : Heap} {k : Nat} {f : Addr} {name qual : Str} {params : Arguments} {body : List Stmt} {scope : Scope} {dV kV doc pm cdv ct oc : Value} {an od : Option Addr}
    {osl : Array (Option Value)} {N ps : List Str} {sp : Sp} (lk : K.lookup f = some ⟨oc, od, .func (PySem.W.fnOf name qual params body scope dV kV doc pm an cdv ct), osl⟩) (hcd : PySem.W.codeIn K cdv qual = true) (S : FnScope N ps scope)
    (len : ∀ vs H Q E, sp vs H Q E → vs.length = ps.length)
    (hbody : ∀ (A : Around) (outer : List Env) (s : Shared) (H : Hp) (vs : List V) (Q : VK) (E : XK), Room k (A.deeper (envOfC qual scope s.heap.objs.size f cdv)) → sp vs H Q E →
      ∃ t, PSs (cxOf CX P w K mg base N qual scope f cdv A outer s H E) body t ∧ t { nx := fun _ H' => Q .non H', rt := Q } (start N vs) H) :
    FnOk P w K mg base CX (k + 1) f (PySem.W.fnOf name qual params body scope dV kV doc pm an cdv ct) ps sp := by
  refine ⟨len, fun A outer s H args us vs Q E hr e0 hb r hsp => ?_⟩
  have hl := len _ _ _ _ hsp
  have KX : K.In s.heap := e0.mod.kin.keeps fun b o e => (e0.bs b o e).1
  have lim : s.heap.NoLimit := e0.mod.nolimit.keeps fun b o e => (e0.bs b o e).1
  have hkind : ∀ y ∈ ps.zip us, scope.names.lookup y.1 = some .local ∨ (scope.names.lookup y.1 = some .cell ∧ ((cellsFrom (s.heap.objs.size + 1) scope.names []).lookup y.1).isSome = true) := fun ⟨n, v⟩ hy => by
    rcases S.par n (List.of_mem_zip hy).1 with q | q
    · exact .inl q
    · exact .inr ⟨q, PySem.W.cellsFrom_some _ _ _ (.inl q)⟩
  refine codeAny_call_function hr.depth (KX _ _ lk) rfl S.co S.gen rfl (PySem.W.codeRec_of KX hcd) (hb _ _ _ _ ?_)
  refine wpAny_newFunctionEnv_cells S.kind hkind fun env he s1 x => ?_
  subst he
  refine ⟨lim.keeps x.toInCall.keep, codeAny_func ?_⟩
  obtain ⟨t, ht, hq⟩ := hbody A outer s H vs Q E (hr.deeper _) hsp
  have I : Inv (cxOf CX P w K mg base N qual scope f cdv A outer s H E) [] (start N vs) H s1 := inv_start S hr.hd e0 hl r x
  refine wpAny_mono (ht s1 (start N vs) H _ I hq) (fun fl s' hs => ?_) fun e s' hs => hs
  have fin : ∀ {σ' : St} {H' : Hp} {v : V} {u : Value}, Inv (cxOf CX P w K mg base N qual scope f cdv A outer s H E) [] σ' H' s' → RelV v u → Q v H' → CE outer P w H s Q u s' :=
    fun {σ' H' v u} J rv q => ⟨v, H', J.os, J.bare, J.base, J.hok, rv, q⟩
  cases fl with
  | ret u =>
    obtain ⟨v, σ', H', J, rv, q⟩ := hs
    exact fin J rv q
  | next =>
    obtain ⟨σ', H', J, q⟩ := hs
    exact fin (v := V.non) (u := Value.none) J rfl q
  | brk =>
    obtain ⟨_, _, _, q⟩ := hs
    exact False.elim q
  | cont =>
    obtain ⟨_, _, _, q⟩ := hs
    exact False.elim q
end L2

namespace L2
open PySem PySem.Spec PyProof.Rows
section
variable {X : Cx} {x : Str} {p pos : Pos} {e : Expr} {es : List Expr} {t : TA} {id T : String} {r : List V → Hp → VK → Prop}

noncomputable def tCB (r : List V → Hp → VK → Prop) (t : TA) : TE := fun σ H Q => t σ H fun vs H1 => r vs H1 Q
/-- f(e, ..), f a built-in function -/
theorem pe_callB (hc : CallR X (.builtin id) r) (hg : Gl X x) (hm : X.mg x = none) (hv : bootBuiltins x = some (.builtin id)) (ha : PA X (e :: es) t) (hn : x ≠ "__name__" := by decide) (hdb : (x == ("__debug__" : Str)) = false := by decide)
    (he : starEach (e :: es) X.env = (false, eval e X.env) :: starEach es X.env := by rfl) (hpl : (backTo pos (starEach es X.env)).any (·.1) = false := by rfl) : PE X (.Call (.Name x p) (e :: es) [] pos) (tCB r t) := by
  intro pins s σ H Q I h
  refine wpAny_Call_Name_kw (ld_blt I hg hm hv ?_ hn hdb)
  exact PyProof.Rows.callWith_builtin1 (thn (ha s σ H _ I h) fun us s1 ⟨vs, H1, I1, r1, q1⟩ => hc s1 σ H1 vs us Q I1 r1 q1) he hpl
/-- T(e, ..), T a built-in type -/
theorem pe_callTy (hc : CallR X (.type T) r) (hg : Gl X x) (hm : X.mg x = none) (hv : bootBuiltins x = some (.type T)) (ha : PA X (e :: es) t) (hn : x ≠ "__name__" := by decide) (hdb : (x == ("__debug__" : Str)) = false := by decide)
    (he : starEach (e :: es) X.env = (false, eval e X.env) :: starEach es X.env := by rfl) (hpl : (backTo pos (starEach es X.env)).any (·.1) = false := by rfl) : PE X (.Call (.Name x p) (e :: es) [] pos) (tCB r t) := by
  intro pins s σ H Q I h
  refine wpAny_Call_Name_kw (ld_blt I hg hm hv ?_ hn hdb)
  exact PyProof.Rows.callWith_type1 (thn (ha s σ H _ I h) fun us s1 ⟨vs, H1, I1, r1, q1⟩ => hc s1 σ H1 vs us Q I1 r1 q1) he hpl
end
end L2

namespace L2
open PySem PySem.Spec PyProof.Rows

/-! ### lists of pairs as tables -/
section
variable {κ : Type} [DecidableEq κ]
noncomputable def valV (kvs : List (κ × V)) (k : κ) : Option V := (kvs.find? fun kv => decide (kv.1 = k)).map (·.2)
/-- in its place, or at the end -/
noncomputable def putK (kvs : List (κ × V)) (k : κ) (v : V) : List (κ × V) :=
  if (kvs.any fun kv => decide (kv.1 = k)) = true then kvs.map (fun kv => if kv.1 = k then (kv.1, v) else kv) else kvs ++ [(k, v)]
theorem valV_pos {p : κ × V} {r : List (κ × V)} {k : κ} (e : p.1 = k) : valV (p :: r) k = some p.2 := by simp [valV, List.find?_cons, e]
theorem valV_neg {p : κ × V} {r : List (κ × V)} {k : κ} (e : ¬ p.1 = k) : valV (p :: r) k = valV r k := by simp [valV, List.find?_cons, e]
theorem valV_any (k : κ) : ∀ kvs : List (κ × V), (kvs.any fun kv => decide (kv.1 = k)) = (valV kvs k).isSome
  | [] => rfl
  | p :: r => by
    rw [List.any_cons]
    by_cases e : p.1 = k
    · simp only [valV_pos e, decide_eq_true e, Bool.true_or, Option.isSome_some]
    · rw [valV_neg e, decide_eq_false e, Bool.false_or]; exact valV_any k r
theorem length_putK (kvs : List (κ × V)) (k : κ) (v : V) : (putK kvs k v).length ≤ kvs.length + 1 := by
  unfold putK
  split
  · rw [List.length_map]; (first | lia | omega)
  · rw [List.length_append, List.length_cons, List.length_nil]; (first | lia | omega)
theorem RelO.isSome_eq {o : Option V} {u : Option Value} (r : RelO o u) : o.isSome = u.isSome := by
  cases o with
  | none => cases u with
    | none => rfl
    | some _ => exact (show False from r).elim
  | some _ => cases u with
    | none => exact (show False from r).elim
    | some _ => rfl
/-- raw tables of the same keys -/
theorem KV.val {kvs : List (κ × V)} {vs : List (κ × Value)} (r : KV kvs vs) (k : κ) : RelO (valV kvs k) (valueAt vs k) := by
  unfold KV at r
  induction r with
  | nil => exact True.intro
  | @cons p q ps qs h t ih =>
    obtain ⟨h1, h2⟩ := h
    by_cases e : p.1 = k
    · have e' : q.1 = k := h1.symm.trans e
      have b : valueAt (q :: qs) k = some q.2 := by simp [valueAt, List.find?_cons, e']
      rw [valV_pos e, b]; exact h2
    · have e' : ¬ q.1 = k := fun z => e (h1.trans z)
      have b : valueAt (q :: qs) k = valueAt qs k := by simp [valueAt, List.find?_cons, e']
      rw [valV_neg e, b]; exact ih
theorem KV.any {kvs : List (κ × V)} {vs : List (κ × Value)} (r : KV kvs vs) (k : κ) : (kvs.any fun kv => decide (kv.1 = k)) = vs.any fun kv => decide (kv.1 = k) := by
  unfold KV at r
  induction r with
  | nil => rfl
  | cons h t ih => rw [List.any_cons, List.any_cons, ih, h.1]
theorem KV.repl {kvs : List (κ × V)} {vs : List (κ × Value)} (r : KV kvs vs) (k : κ) {y : V} {u : Value} (ry : RelV y u) :
    KV (kvs.map fun kv => if kv.1 = k then (kv.1, y) else kv) (vs.map fun kv => if kv.1 = k then (kv.1, u) else kv) := by
  unfold KV at r ⊢
  induction r with
  | nil => exact .nil
  | @cons p q ps qs h t ih =>
    rw [List.map_cons, List.map_cons]
    refine .cons ?_ ih
    obtain ⟨h1, h2⟩ := h
    by_cases e : p.1 = k
    · rw [if_pos e, if_pos (h1.symm.trans e)]; exact ⟨h1, ry⟩
    · rw [if_neg e, if_neg (fun z => e (h1.trans z))]; exact ⟨h1, h2⟩
theorem KV.put {kvs : List (κ × V)} {vs : List (κ × Value)} (r : KV kvs vs) (k : κ) {y : V} {u : Value} (ry : RelV y u) : KV (putK kvs k y) (stored vs k u) := by
  unfold putK stored
  rw [r.any k]
  by_cases e : (vs.any fun kv => decide (kv.1 = k)) = true
  · rw [if_pos e, if_pos e]; exact r.repl k ry
  · rw [if_neg e, if_neg e]; exact Paired.snoc r ⟨rfl, ry⟩
theorem KV.length {kvs : List (κ × V)} {vs : List (κ × Value)} (r : KV kvs vs) : kvs.length = vs.length := Paired.length r
end


/-! ### a tracked dict, its keys ints and texts or tuples of these -/
theorem kV_is {P : Program} {w : World} {k : Key} {u : Value} (r : RelV (kV k) u) : (mixKind P w).is k u = true := by
  cases k with
  | inl i => obtain ⟨t, e⟩ := (show ∃ t, u = Value.int i t from r); subst e; exact mixKind_int P w i t
  | inr x => obtain ⟨t, e⟩ := (show ∃ t, u = Value.str x t from r); subst e; exact mixKind_str P w x t
theorem items_are {P : Program} {w : World} : ∀ {ks : List Key} {us : List Value}, Vals (ks.map kV) us → ItemsAre (mixKind P w) ks us
  | [], _, r => by rw [List.map_nil] at r; cases r; exact .nil
  | k :: ks, _, r => by
    rw [List.map_cons] at r
    cases r with
    | cons h t => exact .cons (kV_is h) (items_are t)

/-- raw entries of a dict with tuple keys -/
noncomputable abbrev KT (H : Hp) : List (List Key × V) → List (List Key × Addr × Value) → Prop := Paired fun p q => p.1 = q.1 ∧ H q.2.1 = some (.tup (p.1.map kV)) ∧ RelV p.2 q.2.2
theorem KT.val {H : Hp} {kvs : List (List Key × V)} {xs : List (List Key × Addr × Value)} (r : KT H kvs xs) (k : List Key) : RelO (valV kvs k) ((atKey xs k).map (·.2)) := by
  induction r with
  | nil => exact True.intro
  | @cons p q ps qs h t ih =>
    obtain ⟨h1, _, h2⟩ := h
    by_cases e : p.1 = k
    · have e' : q.1 = k := h1.symm.trans e
      have b : atKey (q :: qs) k = some q.2 := by simp [atKey, List.find?_cons, e']
      rw [valV_pos e, b]; exact h2
    · have e' : ¬ q.1 = k := fun z => e (h1.trans z)
      have b : atKey (q :: qs) k = atKey qs k := by simp [atKey, List.find?_cons, e']
      rw [valV_neg e, b]; exact ih
theorem KT.repl {H : Hp} {kvs : List (List Key × V)} {xs : List (List Key × Addr × Value)} (r : KT H kvs xs) (k : List Key) {y : V} {u : Value} (ry : RelV y u) :
    KT H (kvs.map fun kv => if kv.1 = k then (kv.1, y) else kv) (xs.map (putAt k u)) := by
  induction r with
  | nil => exact .nil
  | @cons p q ps qs h t ih =>
    rw [List.map_cons, List.map_cons]
    refine .cons ?_ ih
    obtain ⟨h1, h2, h3⟩ := h
    unfold putAt
    by_cases e : p.1 = k
    · rw [if_pos e, if_pos (h1.symm.trans e)]; exact ⟨h1, h2, ry⟩
    · rw [if_neg e, if_neg (fun z => e (h1.trans z))]; exact ⟨h1, h2, h3⟩
theorem KT.put {H : Hp} {kvs : List (List Key × V)} {xs : List (List Key × Addr × Value)} (r : KT H kvs xs) (k : List Key) {b : Addr} {y : V} {u : Value} (hb : H b = some (.tup (k.map kV))) (ry : RelV y u) :
    KT H (putK kvs k y) (storedH xs k b u) := by
  have e : (kvs.any fun kv => decide (kv.1 = k)) = (atKey xs k).isSome := by
    rw [valV_any, (r.val k).isSome_eq, Option.isSome_map]
  unfold putK storedH
  rw [e]
  by_cases q : (atKey xs k).isSome = true
  · rw [if_pos q, if_pos q]; exact r.repl k ry
  · rw [if_neg q, if_neg q]; exact Paired.snoc r ⟨rfl, hb, ry⟩
theorem KT.keeps {H H' : Hp} {kvs : List (List Key × V)} {xs : List (List Key × Addr × Value)} (r : KT H kvs xs) (ht : ∀ b ys, H b = some (.tup ys) → H' b = some (.tup ys)) : KT H' kvs xs :=
  Paired.mapP r fun _ _ z => ⟨z.1, ht _ _ z.2.1, z.2.2⟩

section
variable {P : Program} {w : World} {H : Hp} {h : Heap} {a : Addr}
theorem rd_of {u : HO} (ok : HOk P w H h) (e : Rd H a u) : ObjOk P w H h a u := e.ok ok
theorem dk_rd {kvs : List (Key × V)} (ok : HOk P w H h) (e : Rd H a (.dK kvs)) : kvs.length ≤ sizeLine ∧ (a == sysModules) = false ∧ ∃ vs, KV kvs vs ∧ h.DictOf (mixKind P w) a vs :=
  show ObjOk P w H h a (.dK kvs) from rd_of ok e
theorem dk_of {kvs : List (Key × V)} (ok : HOk P w H h) (e : H a = some (.dK kvs)) : kvs.length ≤ sizeLine ∧ (a == sysModules) = false ∧ ∃ vs, KV kvs vs ∧ h.DictOf (mixKind P w) a vs := dk_rd ok (.inl e)
/-- a tracked tuple of ints and texts is a key -/
theorem key_of {ks : List Key} (ok : HOk P w H h) (e : H a = some (.tup (ks.map kV))) : (tupleKind (mixKind P w)).is h ks a := by
  obtain ⟨_, its, r, o, h1, h2, n, h3⟩ := (show ObjOk P w H h a (.tup (ks.map kV)) from ok a _ e)
  exact ⟨o, its.toArray, n, h1, h2, h3, by simpa using items_are r⟩
theorem dt_rd {kvs : List (List Key × V)} (ok : HOk P w H h) (e : Rd H a (.dT kvs)) : kvs.length ≤ sizeLine ∧ (a == sysModules) = false ∧
    ∃ xs, KT H kvs xs ∧ h.DictOfH (tupleKind (mixKind P w)) a xs := by
  obtain ⟨z, y, xs, r, o, es, ep, h1, h2, h3, h4, h5⟩ := (show ObjOk P w H h a (.dT kvs) from rd_of ok e)
  refine ⟨z, y, xs, r, o, es, ep, h1, h2, h3, h4, fun x hx => ?_, h5⟩
  have all : ∀ {l : List (List Key × V)} {m : List (List Key × Addr × Value)}, KT H l m → ∀ x ∈ m, (tupleKind (mixKind P w)).is h x.1 x.2.1 := by
    intro l m q
    induction q with
    | nil => intro x hx; exact nomatch hx
    | @cons p q ps qs hq t ih =>
      intro x hx
      rcases List.mem_cons.mp hx with e | hx
      · subst e
        exact key_of ok (by rw [← hq.1]; exact hq.2.1)
      · exact ih x hx
  exact all r x hx
theorem dt_of {kvs : List (List Key × V)} (ok : HOk P w H h) (e : H a = some (.dT kvs)) : kvs.length ≤ sizeLine ∧ (a == sysModules) = false ∧
    ∃ xs, KT H kvs xs ∧ h.DictOfH (tupleKind (mixKind P w)) a xs := dt_rd ok (.inl e)
end

/-- what the dict at a holds at the key y -/
noncomputable def DGet (H : Hp) (a : Addr) (y : V) (r : Option V) : Prop :=
  (Ex2 fun kvs k => Rd H a (.dK kvs) ∧ y = kV k ∧ r = valV kvs k) ∨ Ex3 fun kvs k b => Rd H a (.dT kvs) ∧ y = .ref b ∧ H b = some (.tup (k.map kV)) ∧ r = valV kvs k
/-- the heap behind a[y] = v -/
noncomputable def DPut (H : Hp) (a : Addr) (y v : V) (H' : Hp) : Prop :=
  (Ex2 fun kvs k => H a = some (.dK kvs) ∧ y = kV k ∧ kvs.length < sizeLine ∧ H' = upd H a (.dK (putK kvs k v))) ∨
  Ex3 fun kvs k b => H a = some (.dT kvs) ∧ y = .ref b ∧ H b = some (.tup (k.map kV)) ∧ kvs.length < sizeLine ∧ H' = upd H a (.dT (putK kvs k v))
theorem DGet.k {H : Hp} {a : Addr} {kvs : List (Key × V)} {k : Key} (e : H a = some (.dK kvs)) : DGet H a (kV k) (valV kvs k) := .inl ⟨kvs, k, .inl e, rfl, rfl⟩
theorem DPut.k {H : Hp} {a : Addr} {kvs : List (Key × V)} {k : Key} {v : V} (e : H a = some (.dK kvs)) (hl : kvs.length < sizeLine) : DPut H a (kV k) v (upd H a (.dK (putK kvs k v))) := .inl ⟨kvs, k, e, rfl, hl, rfl⟩
section
variable {X : Cx} {pins : List (Addr × Obj)} {σ : St} {H : Hp} {s : Shared} {a : Addr} {y v : V} {u r : Value} {o : Option V} {A : Around} {E : Value → Shared → Prop}

theorem Inv.big (I : Inv X pins σ H s) : sysModules < s.heap.objs.size := by
  have h : mainGlobals < s.heap.objs.size := (I.mod.glob.keeps I.bk).lt
  exact Nat.lt_trans (by decide) h

/-- d[y], there -/
theorem d_getItem {Q : Value → Shared → Prop} (hu : A.units + 1 < cLine) (I : Inv X pins σ H s) (g : DGet H a y (some v)) (ry : RelV y u) (h : ∀ w' s', Inv X pins σ H s' → RelV v w' → Q w' s') :
    wpAny (model X.prog X.w) A (getItem (.ref a) u) Q E s := by
  rcases g with ⟨kvs, k, e, ey, l⟩ | ⟨kvs, k, b, e, ey, eb, l⟩
  · subst ey
    obtain ⟨z, hd, vs, rel, dd⟩ := dk_rd I.hok e
    obtain ⟨w', hw, rw'⟩ := RelO.some_of (v := v) (o := valueAt vs k) (by rw [l]; exact rel.val k)
    exact wpAny_getItem_of (kV_is ry) dd.mapOf hw (h w' _ (I.tok _) rw')
  · subst ey
    cases (show u = Value.ref b from ry)
    obtain ⟨z, hd, xs, rel, dd⟩ := dt_rd I.hok e
    obtain ⟨w', hw, rw'⟩ := RelO.some_of (v := v) (o := (atKey xs k).map (·.2)) (by rw [l]; exact rel.val k)
    obtain ⟨p, hp, hp2⟩ := Option.map_eq_some_iff.mp hw
    refine wpAny_getItem_heap (tupleKind_room_in1 hu) (key_of I.hok eb) dd hp ?_
    rw [hp2]
    exact h w' _ (I.tok _) rw'
/-- a dict's object is replaced -/
theorem d_write {h' : Heap} {t' : Nat} {ob : HO} (I : Inv X pins σ H s) (mu : Mut (H a)) (hs : Heap.SameBut a s.heap h') (he : ∃ q, h'.get? a = some q) (new : ObjOk X.prog X.w (upd H a ob) h' a ob) :
    Inv X pins σ (upd H a ob) { s with heap := h', toks := t' } :=
  I.write (x := a) (e := a) mu (.inl rfl) (fun b q hb z => (hs.2 b hb).trans z) he new
theorem dk_new {P : Program} {w : World} {H' : Hp} {h' : Heap} {kvs : List (Key × V)} {vs : List (Key × Value)} (z : kvs.length ≤ sizeLine) (hd : (a == sysModules) = false) (rel : KV kvs vs) (dd : h'.DictOf (mixKind P w) a vs) :
    ObjOk P w H' h' a (.dK kvs) := ⟨z, hd, vs, rel, dd⟩
/-- d[y] = v -/
theorem d_setItem {H' : Hp} {Q : Unit → Shared → Prop} (hu : A.units + 1 < cLine) (I : Inv X pins σ H s) (g : DPut H a y v H') (ry : RelV y u) (rv : RelV v r) (h : ∀ s', Inv X pins σ H' s' → Q () s') :
    wpAny (model X.prog X.w) A (setItem (.ref a) u r) Q E s := by
  rcases g with ⟨kvs, k, e, ey, l, eH⟩ | ⟨kvs, k, b, e, ey, eb, l, eH⟩
  · subst ey eH
    obtain ⟨z, hd, vs, rel, dd⟩ := dk_of I.hok e
    have hz : vs.length ≤ sizeLine := by rw [← rel.length]; exact z
    have hl : (putK kvs k v).length ≤ sizeLine := by have := length_putK kvs k v; (first | lia | omega)
    refine wpAny_setItem_pairs (hsz := hz) (kV_is ry) dd fun h' dd' hs => h _ ?_
    have he : ∃ q, h'.get? a = some q := let ⟨q, _, _, hq, _⟩ := dd'; ⟨q, hq⟩
    exact d_write I (by rw [e]; exact True.intro) hs he (dk_new hl hd (rel.put k rv) dd')
  · subst ey eH
    cases (show u = Value.ref b from ry)
    obtain ⟨z, hd, xs, rel, dd⟩ := dt_of I.hok e
    have hz : xs.length ≤ sizeLine := by rw [← Paired.length rel]; exact z
    have hl : (putK kvs k v).length ≤ sizeLine := by have := length_putK kvs k v; (first | lia | omega)
    refine wpAny_setItem_heap (hsz := hz) (tupleKind_room_in1 hu) (key_of I.hok eb) dd fun h' dd' hs => h _ ?_
    obtain ⟨q, es, ep, hq, h2, h3, h4, _, h5⟩ := dd'
    refine d_write I (by rw [e]; exact True.intro) hs ⟨q, hq⟩ ⟨hl, hd, _, (rel.put k eb rv).keeps fun c ys ec => ?_, q, es, ep, hq, h2, h3, h4, h5⟩
    rw [upd_ne (ne_of ec e (fun z => nomatch z))]
    exact ec
end

section
variable {X : Cx} {pins : List (Addr × Obj)} {σ : St} {H : Hp} {s : Shared} {a : Addr} {kvs : List (Key × V)} {k : Key} {u : Value} {A : Around} {E : Value → Shared → Prop}
end


/-! ### readings and rules -/
/-- the element of a subscription, not a slice -/
noncomputable def NoSl (i : Expr) : Prop := ∀ ov iv, subscripted i false ov iv = operate [ov, iv] (getItem ov iv)
theorem subD_of {prog : Program} {w : World} {A : Around} {E : Value → Shared → Prop} {s : Shared} {env : Env} {value slice : Expr} {pos : Pos} {T id : String} {Q : Value → Shared → Prop}
    (hl : typeLookup (.type T) "__getitem__" = pure (some (.builtin id))) (hs : NoSl slice)
    (h : wpAny (model prog w) A (eval value env) (fun o s₁ => wpAny (model prog w) A (eval slice env) (fun i s₂ => s₂.TypeIs o T ∧ wpAny (model prog w) A (getItem o i) Q E s₂) E s₁) E s) :
    wpAny (model prog w) A (eval (.Subscript value slice pos) env) Q E s := by
  refine Subscript_ (wpAny_mono h (fun o s₁ h₁ => wpAny_mono h₁ (fun i s₂ h₂ => ?_) fun _ _ x => x) fun _ _ x => x)
  obtain ⟨hT, h₂⟩ := h₂
  unfold subscriptTail
  refine wpAny_bind ?_
  rw [getitemInPython_of_ne hT.not_modules]
  refine wpAny_bind (wpAny_specialOf hT hl ?_)
  have fin : wpAny (model prog w) A (subscripted slice false o i) (fun r s₃ => wpAny (model prog w) A (letTemporaryGo value o r >>= fun _ => pure r) Q E s₃) E s₂ := by
    rw [hs o i]
    exact wpAny_operating (wpAny_mono h₂ (fun r s₃ h₃ => wpAny_bind (wpAny_letTemporaryGo (wpAny_pure h₃))) fun _ _ x => x)
  first
    | exact wpAny_pure (wpAny_bind fin)
    | exact wpAny_bind (wpAny_pure (wpAny_bind fin))
    | exact wpAny_bind fin

theorem dict_typeIs {X : Cx} {pins : List (Addr × Obj)} {σ : St} {H : Hp} {s : Shared} {a : Addr} {y : V} {o : Option V} (I : Inv X pins σ H s) (g : DGet H a y o) : s.TypeIs (.ref a) "dict" := by
  rcases g with ⟨kvs, k, e, _, _⟩ | ⟨kvs, k, b, e, _, _, _⟩
  · obtain ⟨_, _, vs, _, dd⟩ := dk_rd I.hok e
    exact dd.typeIs
  · obtain ⟨_, _, xs, _, dd⟩ := dt_rd I.hok e
    exact dd.typeIs
/-- d[y] -/
noncomputable def tDGet (td ty : TE) : TE := fun σ H Q => td σ H fun x H1 => ty σ H1 fun y H2 => Ex2 fun a v => x = .ref a ∧ DGet H2 a y (some v) ∧ Q v H2
/-- d[y] = v -/
noncomputable def sDPut (td ty tv : TE) : TS := fun D σ H => tv σ H fun v H1 => td σ H1 fun x H2 => ty σ H2 fun y H3 => Ex2 fun a H4 => x = .ref a ∧ DPut H3 a y v H4 ∧ D.nx σ H4
section
variable {X : Cx} {o i e value : Expr} {pos pos' tpos : Pos} {td ty tv : TE}
theorem pe_dget (hu : X.A.units + 1 < cLine) (ho : PE X o td) (hi : PE X i ty) (hs : NoSl i) : PE X (.Subscript o i pos) (tDGet td ty) := by
  intro pins s σ H Q I h
  refine subD_of PySem.F.slot_dict_getitem.lookup hs (thn (ho s σ H _ I h) fun u s1 ⟨x, H1, I1, rx, q1⟩ => thn (hi s1 σ H1 _ I1 q1) fun iv s2 ⟨y, H2, I2, ry, a, v, ex, g, q2⟩ => ?_)
  subst ex
  obtain rfl : u = Value.ref a := rx
  exact ⟨dict_typeIs I2 g, d_getItem hu I2 g ry fun w' s3 I3 rw' => ⟨v, H2, I3, rw', q2⟩⟩
theorem ps_dput (hu : X.A.units + 1 < cLine) (ho : PE X o td) (hi : PE X i ty) (hv : PE X value tv) (hs : swapsWith value (some (.Subscript o i pos')) pos.line X.env = pure false) :
    PS X (.Assign [.Subscript o i pos'] value pos) (sDPut td ty tv) := by
  intro pins s σ H D I h
  refine wpAny_Assign_Subscript (thn (hv s σ H _ I h) fun r s1 ⟨v, H1, I1, rv, q1⟩ => thn (ho s1 σ H1 _ I1 q1) fun u s2 ⟨x, H2, I2, rx, q2⟩ => thn (hi s2 σ H2 _ I2 q2) fun iv s3 ⟨y, H3, I3, ry, a, H4, ex, g, q3⟩ => ?_) hs
  subst ex
  obtain rfl : u = Value.ref a := rx
  exact d_setItem hu I3 g ry rv fun s4 I4 => ⟨σ, H4, I4, q3⟩
end


/-! ### displays -/
theorem dk_empty {P : Program} {w : World} {H : Hp} (h : Heap) (hb : sysModules < h.objs.size) : ObjOk P w H (h.push { cls := .type "dict", data := .dict #[] }) h.objs.size (.dK []) :=
  ⟨Nat.zero_le _, beq_eq_false_iff_ne.mpr (Ne.symm (Nat.ne_of_lt hb)), [], .nil, Heap.DictOf.new h⟩
section
variable {X : Cx} {pos : Pos}
end

/-- the pairs of a display, from the left -/
noncomputable def tPairs : List (TE × TE) → St → Hp → (List (V × V) → Hp → Prop) → Prop
  | [], _, H, Q => Q [] H
  | (tk, tv) :: r, σ, H, Q => tk σ H fun x H1 => tv σ H1 fun y H2 => tPairs r σ H2 fun ps H3 => Q ((x, y) :: ps) H3
noncomputable abbrev VV : List (V × V) → List (Value × Value) → Prop := Paired fun p q => RelV p.1 q.1 ∧ RelV p.2 q.2
noncomputable def PPs (X : Cx) (pos : Pos) (keys : List (Option Expr)) (values : List Expr) (trs : List (TE × TE)) : Prop :=
  ∀ ⦃pins : List (Addr × Obj)⦄ (s : Shared) (σ : St) (H : Hp) (Q : List (V × V) → Hp → Prop), Inv X pins σ H s → tPairs trs σ H Q →
    wpAny (model X.prog X.w) X.A (evalPairs (pairTrees keys values X.env pos)) (fun vs s' => Ex2 fun ps H' => Inv X pins σ H' s' ∧ VV ps vs ∧ Q ps H') X.xe s
theorem pps_nil {X : Cx} {pos : Pos} : PPs X pos [] [] [] := fun pins s σ H Q I h => pairTrees_nil_walk ⟨[], H, I, .nil, h⟩
theorem pps_cons {X : Cx} {pos : Pos} {k v : Expr} {ks : List (Option Expr)} {vs : List Expr} {tk tv : TE} {trs : List (TE × TE)} (hk : PE X k tk) (hv : PE X v tv) (hr : PPs X pos ks vs trs) :
    PPs X pos (some k :: ks) (v :: vs) ((tk, tv) :: trs) := fun pins s σ H Q I h =>
  pairTrees_cons_walk (thn (hk s σ H _ I h) fun u s1 ⟨x, H1, I1, rx, q1⟩ => thn (hv s1 σ H1 _ I1 q1) fun w2 s2 ⟨y, H2, I2, ry, q2⟩ =>
    thn (hr s2 σ H2 _ I2 q2) fun ws s3 ⟨ps, H3, I3, rel, q3⟩ => ⟨(x, y) :: ps, H3, I3, .cons ⟨rx, ry⟩ rel, q3⟩)

noncomputable def mergeK (kvs more : List (Key × V)) : List (Key × V) := more.foldl (fun acc kv => putK acc kv.1 kv.2) kvs
theorem KV.merge : ∀ {more : List (Key × V)} {rs : List (Key × Value)} {kvs : List (Key × V)} {vs : List (Key × Value)}, KV more rs → KV kvs vs → KV (mergeK kvs more) (merged vs rs) := by
  intro more rs kvs vs r
  unfold KV at r
  induction r generalizing kvs vs with
  | nil => intro q; exact q
  | @cons p q ps qs h t ih =>
    intro r0
    have e : KV (putK kvs p.1 p.2) (stored vs q.1 q.2) := by
      have := r0.put p.1 h.2
      rw [← h.1]; exact this
    exact ih e
theorem length_mergeK : ∀ (more kvs : List (Key × V)), (mergeK kvs more).length ≤ kvs.length + more.length
  | [], kvs => by show kvs.length ≤ kvs.length + 0; (first | lia | omega)
  | p :: r, kvs => by
    have h1 := length_mergeK r (putK kvs p.1 p.2)
    have h2 := length_putK kvs p.1 p.2
    show (mergeK (putK kvs p.1 p.2) r).length ≤ _
    rw [List.length_cons]; (first | lia | omega)
theorem carries_of {P : Program} {w : World} : ∀ {kvs : List (Key × V)} {ws : List (Value × Value)}, VV (kvs.map fun kv => (kV kv.1, kv.2)) ws → ∃ rs, Carries (mixKind P w) ws rs ∧ KV kvs rs
  | [], _, r => by rw [List.map_nil] at r; cases r; exact ⟨[], True.intro, .nil⟩
  | p :: kvs, _, r => by
    rw [List.map_cons] at r
    cases r with
    | @cons a b as bs h t =>
      obtain ⟨rs, c, q⟩ := carries_of (P := P) (w := w) t
      obtain ⟨b1, b2⟩ := b
      exact ⟨(p.1, b2) :: rs, ⟨kV_is h.1, rfl, c⟩, .cons ⟨rfl, h.2⟩ q⟩
/-- {k: v, ..} with keys ints and texts; the new dict stands empty while the pairs are made -/
noncomputable def tDisp (trs : List (TE × TE)) : TE := fun σ H Q => ∀ p, H p = none → tPairs trs σ (upd H p (.dK [])) fun ps H2 => H2 p = some (.dK []) ∧ ∃ kvs : List (Key × V), ps = kvs.map (fun kv => (kV kv.1, kv.2)) ∧ kvs.length ≤ 15 ∧ Q (.ref p) (upd H2 p (.dK (mergeK [] kvs)))
theorem pe_disp {X : Cx} {pos : Pos} {keys : List (Option Expr)} {values : List Expr} {trs : List (TE × TE)} (h : PPs X pos keys values trs) (hall : keys.all (·.isSome) = true) (hl : keys.length = values.length) (h0 : keys ≠ [])
    (h15 : keys.length ≤ 15) : PE X (.Dict keys values pos) (tDisp trs) := by
  intro pins s σ H Q I q
  have hn := I.hok.fresh (Nat.le_refl s.heap.objs.size)
  have I1 := I.laid (a := s.heap.objs.size) (o := .dK []) (h' := s.heap.push { cls := .type "dict", data := .dict #[] }) (t' := s.toks) (fun _ _ q => Heap.get?_push_of_some _ q) (Nat.le_refl _) (dk_empty s.heap I.big)
  refine wpAny_Dict_walk (knd := mixKind X.prog X.w) hall hl h0 h15 (thn (h _ σ _ _ I1 (q _ hn)) fun ws s2 ⟨ps, H2, I2, rel, e, kvs, ep, lk, q2⟩ => ?_)
  subst ep
  obtain ⟨rs, c, rk⟩ := carries_of (P := X.prog) (w := X.w) rel
  obtain ⟨z, hd, vs0, r0, dd⟩ := dk_of I2.hok e
  cases r0
  refine ⟨rs, c, dd, fun h' dd' hs => ⟨.ref s.heap.objs.size, _, ?_, rfl, q2⟩⟩
  have hz : (mergeK [] kvs).length ≤ sizeLine := by
    have h1 := length_mergeK kvs []
    rw [List.length_nil] at h1
    rw [sizeLine_eq]; (first | lia | omega)
  have he : ∃ q, h'.get? s.heap.objs.size = some q := let ⟨q, _, _, hq, _⟩ := dd'; ⟨q, hq⟩
  exact d_write I2 (by rw [e]; exact True.intro) hs he (dk_new hz hd (rk.merge .nil) dd')


/-! ### methods -/
section
variable {X : Cx} {pins : List (Addr × Obj)} {σ : St} {H : Hp} {s : Shared} {a : Addr} {y d : V} {u r : Value} {o : Option V} {A : Around} {E : Value → Shared → Prop}
end

section
variable {X : Cx} {o e f : Expr} {apos cpos : Pos} {td ty tx : TE}
end

/-! ### dict(d): a copy -/
section
variable {X : Cx} {pins : List (Addr × Obj)} {σ : St} {H : Hp} {s : Shared} {a : Addr} {kvs : List (Key × V)} {A : Around} {E : Value → Shared → Prop}
end


section
variable {X : Cx} {pins : List (Addr × Obj)} {σ : St} {H : Hp} {s : Shared} {a : Addr} {y : V} {u : Value} {A : Around} {E : Value → Shared → Prop}
end
end L2

namespace HT
open PySem PyProof.Rows

section
open PySem.SeqAt
open PySem.AutoSeq1 (wpAny_loadPart')
open PySem.MeetsSeq PySem.MeetsSeq2 PySem.MeetsSeq3

end

section
variable {prog : Program} {w : World} {A : Around} {E : Value → Shared → Prop} {s : Shared}

/-! ### t[a:b], not the whole -/
/-- a slice's bound as a place among n (d where it is left out) -/
noncomputable def sIx (n d : Nat) : Option Int → Nat
  | none => d
  | some v => if v < 0 then (v + (n : Int)).toNat else min v.toNat n
theorem sIx_none (n d : Nat) : sIx n d none = d := rfl
theorem sIx_nat (n d k : Nat) : sIx n d (some (k : Int)) = min k n := by
  show (if (k : Int) < 0 then ((k : Int) + (n : Int)).toNat else min (k : Int).toNat n) = min k n
  rw [if_neg (by (first | lia | omega)), Int.toNat_natCast]
end
end HT

namespace L2
open PySem PySem.Spec PyProof.Rows

/-! ### the parts of a slice -/
noncomputable abbrev TO := St → Hp → (Option Int → Hp → Prop) → Prop
/-- a slice's part (left out, or an int) -/
noncomputable def PO (X : Cx) (e : Option Expr) (t : TO) : Prop :=
  ∀ ⦃pins : List (Addr × Obj)⦄ (s : Shared) (σ : St) (H : Hp) (Q : Option Int → Hp → Prop), Inv X pins σ H s → t σ H Q →
    wpAny (model X.prog X.w) X.A (evalPart e X.env) (fun u s' => Ex2 fun o H' => Inv X pins σ H' s' ∧ IsPart u o ∧ Q o H') X.xe s
noncomputable def tNoPart : TO := fun _ H Q => Q none H
noncomputable def tPart (t : TE) : TO := fun σ H Q => t σ H fun x H1 => ∃ i, x = .int i ∧ Q (some i) H1

section
variable {X : Cx} {e : Expr} {te : TE} {lo hi : Option Expr} {tl th : TO} {pos p2 : Pos}

theorem po_none : PO X none tNoPart := by
  intro pins s σ H Q I h
  rw [evalPart_none]
  exact wpAny_pure ⟨none, H, I, .none, h⟩
theorem po_some (h : PE X e te) : PO X (some e) (tPart te) := by
  intro pins s σ H Q I hw
  rw [evalPart_some]
  refine thn (h s σ H _ I hw) fun u s1 ⟨x, H1, I1, r1, q1⟩ => ?_
  obtain ⟨i, rfl, q⟩ := q1
  obtain ⟨t, rfl⟩ := r1
  exact ⟨some i, H1, I1, .int i t, q⟩

/-- what a slice of a value is, by values: the slice object stands at sl -/
noncomputable def SlR (X : Cx) (r : V → Option Int → Option Int → Hp → VK → Prop) : Prop :=
  ∀ ⦃pins : List (Addr × Obj)⦄ (s : Shared) (σ : St) (H : Hp) (x : V) (v vl vu : Value) (lo hi : Option Int) (sl : Addr) (Q : VK), Inv X pins σ H s → RelV x v → s.heap.IsSliceOf sl vl vu .none → IsPart vl lo → IsPart vu hi → r x lo hi H Q →
    Ex2 fun T id => typeLookup (.type T) "__getitem__" = pure (some (.builtin id)) ∧ s.TypeIs v T ∧ wpAny (model X.prog X.w) X.A (getItem v (.ref sl)) (EP X pins σ Q) X.xe s
theorem SlR.or {r r' : V → Option Int → Option Int → Hp → VK → Prop} (h : SlR X r) (h' : SlR X r') : SlR X (fun x lo hi H Q => r x lo hi H Q ∨ r' x lo hi H Q) := by
  intro pins s σ H x v vl vu lo hi sl Q I rx hs pl pu q
  rcases q with q | q
  · exact h s σ H x v vl vu lo hi sl Q I rx hs pl pu q
  · exact h' s σ H x v vl vu lo hi sl Q I rx hs pl pu q
noncomputable def tSl (r : V → Option Int → Option Int → Hp → VK → Prop) (te : TE) (tl th : TO) : TE := fun σ H Q => te σ H fun x H1 => tl σ H1 fun l H2 => th σ H2 fun u H3 => r x l u H3 Q
/-- a[lo:hi], any a -/
theorem pe_slice {r : V → Option Int → Option Int → Hp → VK → Prop} (hr : SlR X r) (he : PE X e te) (hl : PO X lo tl) (hu : PO X hi th) : PE X (.Subscript e (.Slice lo hi none p2) pos) (tSl r te tl th) := by
  intro pins s σ H Q I h
  refine Subscript_ (thn (he s σ H _ I h) fun v s1 ⟨x, H1, I1, r1, q1⟩ => ?_)
  refine wpAny_Slice (thn (hl s1 σ H1 _ I1 q1) fun vl s2 ⟨l, H2, I2, pl, q2⟩ => thn (hu s2 σ H2 _ I2 q2) fun vu s3 ⟨u, H3, I3, pu, q3⟩ => ?_)
  rw [evalPart_none]
  refine wpAny_pure ?_
  have I4 : Inv X pins σ H3 { s3 with heap := s3.heap.push { cls := .type "slice", data := .fields #[vl, vu, .none] } } := I3.kept (t' := s3.toks) fun b ob q => Heap.get?_push_of_some _ q
  obtain ⟨T, id, hT, ht, hg⟩ := hr { s3 with heap := s3.heap.push { cls := .type "slice", data := .fields #[vl, vu, .none] } } σ H3 x v vl vu l u s3.heap.objs.size Q I4 r1 (Heap.IsSliceOf.new ..) pl pu q3
  show wpAny (model X.prog X.w) X.A (subscriptTail e (.Slice lo hi none p2) v (.ref s3.heap.objs.size)) (EP X pins σ Q) X.xe { s3 with heap := s3.heap.push { cls := .type "slice", data := .fields #[vl, vu, .none] } }
  exact tail_any (ops := [.ref s3.heap.objs.size, v]) ht hT hg (by with_unfolding_all rfl)

/-- the items of xs[lo:hi] -/
noncomputable def cutV (xs : List V) (lo hi : Option Int) : List V := (xs.drop (HT.sIx xs.length 0 lo)).take (HT.sIx xs.length xs.length hi - HT.sIx xs.length 0 lo)
theorem cutV_length (xs : List V) (lo hi : Option Int) : (cutV xs lo hi).length ≤ xs.length := by
  unfold cutV
  rw [List.length_take, List.length_drop]
  (first | lia | omega)
/-! ### t < u, t + u -/
end
end L2

namespace L2
open PySem PySem.Spec PyProof.Rows

/-! ### places -/
/-- the place that an index of any sign means -/
noncomputable def ixN (n : Nat) (i : Int) : Option Nat := if 0 ≤ i then (if i < n then some i.toNat else none) else if -(n : Int) ≤ i then some (i + n).toNat else none
noncomputable def atI {α : Type} (xs : List α) (i : Int) : Option α := (ixN xs.length i).bind fun j => xs[j]?
theorem ixN_seq {n : Nat} {i : Int} {j : Nat} (h : ixN n i = some j) : seqIndex? i n = some j ∧ j < n ∧ -(n : Int) ≤ i ∧ i < n := by
  unfold ixN at h
  by_cases h0 : 0 ≤ i
  · rw [if_pos h0] at h
    by_cases h1 : i < n
    · rw [if_pos h1] at h
      have e : i.toNat = j := Option.some.inj h
      exact ⟨by rw [seqIndex_of h0 h1, e], by (first | lia | omega), by (first | lia | omega), h1⟩
    · rw [if_neg h1] at h; cases h
  · rw [if_neg h0] at h
    by_cases h1 : -(n : Int) ≤ i
    · rw [if_pos h1] at h
      have e : (i + n).toNat = j := Option.some.inj h
      exact ⟨by rw [seqIndex_neg (by (first | lia | omega)) h1, e], by (first | lia | omega), h1, by (first | lia | omega)⟩
    · rw [if_neg h1] at h; cases h
theorem atI_get {α : Type} {xs : List α} {i : Int} {v : α} (h : atI xs i = some v) : ∃ j, seqIndex? i xs.length = some j ∧ xs[j]? = some v ∧ j < xs.length ∧ -(xs.length : Int) ≤ i ∧ i < xs.length := by
  unfold atI at h
  cases e : ixN xs.length i with
  | none => rw [e] at h; cases h
  | some j =>
    rw [e] at h
    obtain ⟨h1, h2, h3, h4⟩ := ixN_seq e
    exact ⟨j, h1, h, h2, h3, h4⟩
theorem atI_nat {α : Type} {xs : List α} {j : Nat} {v : α} (h : xs[j]? = some v) : atI xs (j : Int) = some v := by
  have hj : j < xs.length := (List.getElem?_eq_some_iff.mp h).1
  have e : ixN xs.length (j : Int) = some j := by
    unfold ixN
    rw [if_pos (by (first | lia | omega)), if_pos (by (first | lia | omega))]; simp
  unfold atI; rw [e]; exact h
theorem atI_last {α : Type} (xs : List α) (v : α) : atI (xs ++ [v]) (-1) = some v := by
  have hl : (xs ++ [v]).length = xs.length + 1 := by simp
  have e : ixN (xs ++ [v]).length (-1) = some xs.length := by
    unfold ixN
    rw [hl, if_neg (by decide), if_pos (by (first | lia | omega))]
    congr 1
    (first | lia | omega)
  unfold atI
  rw [e]
  show (xs ++ [v])[xs.length]? = some v
  simp

/-! ### what may be subscripted -/
/-- what stands as an index of a plain subscript -/
noncomputable def PlainIx (b : Expr) : Prop := ∀ o i, subscripted b false o i = operate [o, i] (getItem o i)
/-- a subscript by values -/
noncomputable def IxR (X : Cx) (r : R2) : Prop :=
  ∀ ⦃value slice : Expr⦄ ⦃pins : List (Addr × Obj)⦄ (s : Shared) (σ : St) (H : Hp) (x y : V) (v u : Value) (Q : VK), Inv X pins σ H s → RelV x v → RelV y u → r x y H Q →
    subscripted slice false v u = operate [v, u] (getItem v u) → wpAny (model X.prog X.w) X.A (subscriptTail value slice v u) (EP X pins σ Q) X.xe s
/-- a call of a builtin's method by values: the receiver, the arguments -/
noncomputable def MtR (X : Cx) (id : String) (r : V → List V → Hp → VK → Prop) : Prop :=
  ∀ ⦃pins : List (Addr × Obj)⦄ (s : Shared) (σ : St) (H : Hp) (x : V) (xs : List V) (v : Value) (us : List Value) (Q : VK), Inv X pins σ H s → RelV x v → Vals xs us → r x xs H Q →
    wpAny (model X.prog X.w) X.A (call (.builtin id) (v :: us)) (EP X pins σ Q) X.xe s
section
variable {X : Cx} {a b : Expr} {ta tb : TE} {pos : Pos}
theorem IxR.or {r r' : R2} (h : IxR X r) (h' : IxR X r') : IxR X (fun x y H Q => r x y H Q ∨ r' x y H Q) := by
  intro value slice pins s σ H x y v u Q I rx ry q hs
  rcases q with q | q
  · exact h s σ H x y v u Q I rx ry q hs
  · exact h' s σ H x y v u Q I rx ry q hs
/-- a[b] -/
theorem pe_ix {r : R2} (hr : IxR X r) (ha : PE X a ta) (hb : PE X b tb) (hs : PlainIx b) : PE X (.Subscript a b pos) (tOp r ta tb) := by
  intro pins s σ H Q I h
  exact Subscript_ (binT ha hb I h fun v u s2 x y H2 I2 rx ry q => hr s2 σ H2 x y v u Q I2 rx ry q (hs _ _))

noncomputable def rIxL (K : PySem.W.Frag) : R2 := fun x y H Q => Ex4 fun p xs i v => x = .ref p ∧ y = .int i ∧ SqL K H p xs ∧ atI xs i = some v ∧ Q v H
noncomputable def rIxT (K : PySem.W.Frag) : R2 := fun x y H Q => Ex4 fun p xs i v => x = .ref p ∧ y = .int i ∧ SqT K H p xs ∧ atI xs i = some v ∧ Q v H
noncomputable def rIxS : R2 := fun x y H Q => Ex3 fun z i c => x = .str z ∧ y = .int i ∧ z.length ≤ sizeLine ∧ atI z.cps.toList i = some c ∧ Q (.str ⟨#[c]⟩) H
theorem ix_list : IxR X (rIxL X.K) := by
  intro value slice pins s σ H x y v u Q I rx ry h hs
  obtain ⟨p, xs, i, z, rfl, rfl, hq, he, q⟩ := h
  cases rx
  obtain ⟨t, rfl⟩ := ry
  obtain ⟨its, r, pl, hz⟩ := I.list hq
  obtain ⟨j, h1, h2, h3, h4, h5⟩ := atI_get he
  obtain ⟨w, ew, rw'⟩ := r.get h2
  have hl := r.length
  have hn := line63
  have fin : EP X pins σ Q w s := ⟨z, H, I, rw', q⟩
  by_cases h0 : 0 ≤ i
  · have hj : i.toNat = j := by
      rw [seqIndex_of h0 h5] at h1
      exact Option.some.inj h1
    exact item_listR pl.isList h0 (by (first | lia | omega)) (by rw [hj]; simpa using ew) fin hs
  · have hj : (i + (its.toArray.size : Int)).toNat = j := by
      rw [seqIndex_neg (by (first | lia | omega)) h4] at h1
      rw [List.size_toArray, ← hl]
      exact Option.some.inj h1
    exact subscriptTail_builtinR (x := w) pl.isList.typeIs slot_list_getitem.lookup
      (wpAny_getItem_list_neg (Q := fun r s' => r = w ∧ EP X pins σ Q r s') pl.isList (by (first | lia | omega)) (by rw [List.size_toArray] <;> (first | lia | omega)) (by (first | lia | omega)) (by rw [hj]; simpa using ew) ⟨rfl, fin⟩) hs
theorem ix_tup : IxR X (rIxT X.K) := by
  intro value slice pins s σ H x y v u Q I rx ry h hs
  obtain ⟨p, xs, i, z, rfl, rfl, hq, he, q⟩ := h
  cases rx
  obtain ⟨t, rfl⟩ := ry
  obtain ⟨its, r, pl, hz⟩ := I.tuple hq
  obtain ⟨j, h1, h2, h3, h4, h5⟩ := atI_get he
  obtain ⟨w, ew, rw'⟩ := r.get h2
  have hl := r.length
  have hn := line63
  have fin : EP X pins σ Q w s := ⟨z, H, I, rw', q⟩
  exact subscriptTail_builtinR (x := w) pl.typeIs slot_tuple_getitem.lookup
    (getItem_tuple (j := j) (Q := fun r s' => r = w ∧ EP X pins σ Q r s') pl (by (first | lia | omega)) (by (first | lia | omega)) (by rw [List.size_toArray, ← hl]; exact h1) (by simpa using ew) ⟨rfl, fin⟩) hs
theorem ix_str : IxR X rIxS := by
  intro value slice pins s σ H x y v u Q I rx ry h hs
  obtain ⟨z, i, c, rfl, rfl, hz, he, q⟩ := h
  obtain ⟨t, rfl⟩ := rx
  obtain ⟨t', rfl⟩ := ry
  obtain ⟨j, h1, h2, h3, h4, h5⟩ := atI_get he
  have hl : z.cps.toList.length = z.length := by simp [Str.length]
  rw [hl] at h1 h4 h5
  have hn := line63
  exact tail_any (typeIs_str s z t) slot_str_getitem.lookup (getItem_str (c := c) (by
    have e1 : decide (i < -(2 ^ 63 : Int)) = false := decide_eq_false (by (first | lia | omega))
    have e2 : decide (i ≥ 2 ^ 63) = false := decide_eq_false (by (first | lia | omega))
    rw [e1, e2, Bool.or_false]) (by rw [h1]; simpa using h2) ⟨.str ⟨#[c]⟩, H, I.tok _, ⟨_, rfl⟩, q⟩) hs
/-- list, tuple or str -/
noncomputable def rIx (K : PySem.W.Frag) : R2 := fun x y H Q => rIxL K x y H Q ∨ rIxT K x y H Q ∨ rIxS x y H Q
theorem ix_seq : IxR X (rIx X.K) := ix_list.or (ix_tup.or ix_str)

/-! ### xs[i] = v, any sign -/
/-- the list's object behind a store -/
theorem mapSeq_set (its : List Value) (n j : Nat) (u : Value) : Obj.mapSeq (·.setIfInBounds j u) { cls := .type "list", data := .seq its.toArray n } = { cls := .type "list", data := .seq (its.set j u).toArray n } := by
  simp [Obj.mapSeq]
theorem Inv.lst {pins : List (Addr × Obj)} {σ : St} {H : Hp} {s : Shared} {p : Addr} {xs : List V} (I : Inv X pins σ H s) (h : H p = some (.lst xs)) :
    ∃ (its : List Value) (n : Nat), Vals xs its ∧ s.heap.get? p = some { cls := .type "list", data := .seq its.toArray n } ∧ xs.length ≤ sizeLine := by
  obtain ⟨z, its, n, r, e⟩ := I.hok p _ h
  exact ⟨its, n, r, e, z⟩
/-- the list at p is written by an update of its object -/
theorem Inv.lstUpd {pins : List (Addr × Obj)} {σ : St} {H : Hp} {s : Shared} {p : Addr} {xs ys : List V} {its its' : List Value} {n n' : Nat} {f : Obj → Obj} (I : Inv X pins σ H s) (h : H p = some (.lst xs))
    (ho : s.heap.get? p = some { cls := .type "list", data := .seq its.toArray n }) (hf : f { cls := .type "list", data := .seq its.toArray n } = { cls := .type "list", data := .seq its'.toArray n' }) (r : Vals ys its') (hz : ys.length ≤ sizeLine) (t : Nat) :
    Inv X pins σ (upd H p (.lst ys)) { s with heap := s.heap.update p f, toks := t } := by
  have e : (s.heap.update p f).get? p = some { cls := .type "list", data := .seq its'.toArray n' } := by
    rw [Heap.get?_update_self f ho (by rw [hf] <;> rfl), hf]
  refine I.write (x := p) (e := p) (by rw [h]; trivial) (.inl rfl) (fun b u hb q => (Heap.get?_update_other _ _ (Ne.symm hb)).trans q) ⟨_, e⟩ ?_
  exact ⟨hz, its', n', r, e⟩
noncomputable def rSetL : V → V → V → Hp → (Hp → Prop) → Prop := fun o i v H Q => Ex4 fun p xs k j => o = .ref p ∧ i = .int k ∧ H p = some (.lst xs) ∧ ixN xs.length k = some j ∧ Q (upd H p (.lst (xs.set j v)))
theorem set_list : PSet X rSetL := by
  intro pins s σ H o i v ov iv u Q I ro ri rv h
  obtain ⟨p, xs, k, j, rfl, rfl, hp, hj, q⟩ := h
  cases ro
  obtain ⟨t, rfl⟩ := ri
  obtain ⟨its, n, r, ho, hz⟩ := I.lst hp
  obtain ⟨h1, h2, h3, h4⟩ := ixN_seq hj
  have hl := r.length
  have hn := line63
  have I' : Inv X pins σ (upd H p (.lst (xs.set j v))) { s with heap := s.heap.update p (Obj.mapSeq (·.setIfInBounds j u)) } :=
    I.lstUpd hp ho (mapSeq_set its n j u) (r.set rv j) (by rw [List.length_set]; exact hz) s.toks
  by_cases h0 : 0 ≤ k
  · have hk : k.toNat = j := by
      rw [seqIndex_of h0 h4] at h1
      exact Option.some.inj h1
    exact PySem.W.ki_setAt ho h0 (by (first | lia | omega)) (by rw [List.size_toArray, ← hl]; exact h4) (by rw [hk]; exact ⟨_, I', q⟩)
  · have hk : (k + (its.toArray.size : Int)).toNat = j := by
      rw [seqIndex_neg (by (first | lia | omega)) h3] at h1
      rw [List.size_toArray, ← hl]
      exact Option.some.inj h1
    exact PySem.W.ki_setBack ho (by (first | lia | omega)) (by rw [List.size_toArray, ← hl]; exact h3) (by (first | lia | omega)) (by rw [hk]; exact ⟨_, I', q⟩)

/-! ### slices -/
theorem slice_bounds (lo hi : Option Int) (n : Nat) : (sliceBounds lo hi none n).1 = ((HT.sIx n 0 lo : Nat) : Int) ∧ (sliceBounds lo hi none n).2.1 = ((HT.sIx n n hi : Nat) : Int) ∧ (sliceBounds lo hi none n).2.2 = 1 := by
  refine ⟨?_, ?_, rfl⟩
  · cases lo with
    | none => simp [sliceBounds, HT.sIx]
    | some i =>
      simp only [sliceBounds, HT.sIx, Option.getD_none, show (1 : Int) > 0 by decide, if_true]
      by_cases h : i < 0
      · simp only [h, if_true] <;> (first | lia | omega)
      · simp only [h, if_false] <;> (first | lia | omega)
  · cases hi with
    | none => simp [sliceBounds, HT.sIx]
    | some i =>
      simp only [sliceBounds, HT.sIx, Option.getD_none, show (1 : Int) > 0 by decide, if_true]
      by_cases h : i < 0
      · simp only [h, if_true] <;> (first | lia | omega)
      · simp only [h, if_false] <;> (first | lia | omega)
theorem slicePick_cut (its : List Value) (lo hi : Option Int) : slicePick its.toArray lo hi none = ((its.drop (HT.sIx its.length 0 lo)).take (HT.sIx its.length its.length hi - HT.sIx its.length 0 lo)).toArray := by
  obtain ⟨h1, h2, h3⟩ := slice_bounds lo hi its.toArray.size
  unfold slicePick
  rw [h1, h2, h3]
  simp only [sliceRange_one, pick_run, List.size_toArray] <;> rfl
/-- xs[lo:hi] of a list: a new list -/
noncomputable def rSlL (K : PySem.W.Frag) : V → Option Int → Option Int → Hp → VK → Prop := fun x lo hi H Q => Ex2 fun a xs => x = .ref a ∧ SqL K H a xs ∧ ∀ p, H p = none → Q (.ref p) (upd H p (.lst (cutV xs lo hi)))
theorem sl_list : SlR X (rSlL X.K) := by
  intro pins s σ H x v vl vu lo hi sl Q I rx hs pl pu h
  obtain ⟨a, xs, rfl, hx, q⟩ := h
  cases rx
  obtain ⟨its, r, ht, hz⟩ := I.list hx
  have hlen := r.length
  refine ⟨"list", _, slot_list_getitem.lookup, ht.isList.typeIs, ?_⟩
  refine wpAny_getItem_list_slice ht.isList hs pl pu .none (by simp) ?_ (by rw [List.size_toArray] <;> (first | lia | omega))
  rw [slicePick_cut, ← hlen]
  refine ⟨.ref s.heap.objs.size, _, I.laid (t' := s.toks) (o := .lst (cutV xs lo hi)) (fun b ob q => Heap.get?_push_of_some _ q) (Nat.le_refl _) ?_, rfl, q _ (I.hok.fresh (Nat.le_refl _))⟩
  exact ⟨Nat.le_trans (cutV_length xs lo hi) hz, _, 0, (r.drop (HT.sIx xs.length 0 lo)).take (HT.sIx xs.length xs.length hi - HT.sIx xs.length 0 lo), Heap.get?_push_size _ rfl⟩

/-! ### in, not in: flat items -/
noncomputable def flatV : V → Bool
  | .non => true
  | .bl _ => true
  | .int _ => true
  | .str _ => true
  | _ => false
/-- == of flat values -/
noncomputable def eqV : V → V → Bool
  | .non, .non => true
  | .bl a, .bl b => a == b
  | .bl a, .int b => (if a then 1 else 0) == b
  | .int a, .bl b => a == (if b then 1 else 0)
  | .int a, .int b => a == b
  | .str a, .str b => a == b
  | _, _ => false
theorem eqAt_V {A : Around} {s : Shared} {y x : V} {u v : Value} (ry : RelV y u) (rx : RelV x v) (fy : flatV y = true) (fx : flatV x = true) : SeqAt.EqAt A s u v (eqV y x) := by
  cases y with
  | non =>
    cases ry
    cases x with
    | non => cases rx; exact SeqAt.EqAt.same _
    | bl b => cases rx; exact SeqAt.EqAt.none_bool b
    | int b => obtain ⟨t, rfl⟩ := rx; exact SeqAt.EqAt.none_int b t
    | str b => obtain ⟨t, rfl⟩ := rx; exact SeqAt.EqAt.none_str b t
    | _ => exact absurd (show false = true from fx) Bool.false_ne_true
  | bl a =>
    cases ry
    cases x with
    | non => cases rx; exact SeqAt.EqAt.bool_none a
    | bl b => cases rx; exact SeqAt.EqAt.bool_bool a b
    | int b => obtain ⟨t, rfl⟩ := rx; exact SeqAt.EqAt.bool_int a b t
    | str b => obtain ⟨t, rfl⟩ := rx; exact SeqAt.EqAt.bool_str a b t
    | _ => exact absurd (show false = true from fx) Bool.false_ne_true
  | int a =>
    obtain ⟨t', rfl⟩ := ry
    cases x with
    | non => cases rx; exact SeqAt.EqAt.int_none a t'
    | bl b => cases rx; exact SeqAt.EqAt.int_bool a t' b
    | int b => obtain ⟨t, rfl⟩ := rx; exact SeqAt.EqAt.int_int a t' b t
    | str b => obtain ⟨t, rfl⟩ := rx; exact SeqAt.EqAt.int_str a t' b t
    | _ => exact absurd (show false = true from fx) Bool.false_ne_true
  | str a =>
    obtain ⟨t', rfl⟩ := ry
    cases x with
    | non => cases rx; exact SeqAt.EqAt.str_none a t'
    | bl b => cases rx; exact SeqAt.EqAt.str_bool a t' b
    | int b => obtain ⟨t, rfl⟩ := rx; exact SeqAt.EqAt.str_int a t' b t
    | str b => obtain ⟨t, rfl⟩ := rx; exact SeqAt.EqAt.str_str a t' b t
    | _ => exact absurd (show false = true from fx) Bool.false_ne_true
  | _ => exact absurd (show false = true from fy) Bool.false_ne_true
/-- the items' answers, read off the values (a value's own answer does not lean on its token) -/
noncomputable def eqU (x : V) (u : Value) : Bool := match u with
  | .none => eqV .non x
  | .bool b => eqV (.bl b) x
  | .int i _ => eqV (.int i) x
  | .str z _ => eqV (.str z) x
  | _ => false
theorem eqU_of {x y : V} {u : Value} (r : RelV y u) (f : flatV y = true) : eqU x u = eqV y x := by
  cases y with
  | non => cases r; rfl
  | bl b => cases r; rfl
  | int i => obtain ⟨t, rfl⟩ := r; rfl
  | str z => obtain ⟨t, rfl⟩ := r; rfl
  | _ => exact absurd (show false = true from f) Bool.false_ne_true
theorem any_eqU {x : V} : ∀ {xs : List V} {us : List Value}, Vals xs us → xs.all flatV = true → us.any (eqU x) = xs.any fun y => eqV y x
  | _, _, .nil, _ => rfl
  | y :: xs, u :: us, .cons r t, f => by
    rw [List.all_cons, Bool.and_eq_true] at f
    rw [List.any_cons, List.any_cons, eqU_of r f.1, any_eqU t f.2]
theorem mem_eqAt {A : Around} {s : Shared} {x : V} {v : Value} (rx : RelV x v) (fx : flatV x = true) : ∀ {xs : List V} {us : List Value}, Vals xs us → xs.all flatV = true → ∀ u ∈ us, SeqAt.EqAt A s u v (eqU x u)
  | _, _, .nil, _ => fun u hu => by cases hu
  | y :: xs, u :: us, .cons r t, f => fun u' hu => by
    rw [List.all_cons, Bool.and_eq_true] at f
    rcases List.mem_cons.mp hu with rfl | hu
    · rw [eqU_of r f.1]; exact eqAt_V r rx f.1 fx
    · exact mem_eqAt rx fx t f.2 u' hu
noncomputable def inV (x : V) (xs : List V) : Bool := xs.any fun y => eqV y x
/-- x in a list or tuple of flat items -/
noncomputable def rIn (K : PySem.W.Frag) (neg : Bool) : R2 := fun x y H Q => Ex2 fun p xs => y = .ref p ∧ (SqL K H p xs ∨ SqT K H p xs) ∧ flatV x = true ∧ xs.all flatV = true ∧ Q (.bl (if neg then !inV x xs else inV x xs)) H
theorem op_in_seq : OpR X (compareOp .In) (rIn X.K false) := by
  intro pins s σ H x y v u Q I rx ry h
  obtain ⟨p, xs, rfl, hq, fx, fs, q⟩ := h
  cases ry
  rcases hq with hq | hq
  · obtain ⟨its, r, pl, hz⟩ := I.list hq
    refine SeqAt.in_listAt (eqU x) pl.isList (fun w hw => mem_eqAt rx fx r fs w (by simpa using hw)) ⟨.bl _, H, I, rfl, ?_⟩
    rw [show its.toArray.any (eqU x) = its.any (eqU x) by simp, any_eqU r fs]
    exact q
  · obtain ⟨its, r, pl, hz⟩ := I.tuple hq
    refine SeqAt.in_tupleAt (eqU x) pl (fun w hw => mem_eqAt rx fx r fs w (by simpa using hw)) ⟨.bl _, H, I, rfl, ?_⟩
    rw [show its.toArray.any (eqU x) = its.any (eqU x) by simp, any_eqU r fs]
    exact q
/-! ### len, list(x), tuple(x) of any list or tuple that is read -/
theorem call_list_of : CallR X (.type "list") (fun xs H Q => ∃ p ys, xs = [.ref p] ∧ (SqL X.K H p ys ∨ SqT X.K H p ys) ∧ ∀ l, H l = none → Q (.ref l) (upd H l (.lst ys))) := by
  intro pins s σ H xs us Q I r h
  obtain ⟨p, ys, rfl, hq, q⟩ := h
  obtain ⟨u, rfl, rx⟩ := vals1 r
  cases rx
  have fin : ∀ (its : List Value), Vals ys its → ys.length ≤ sizeLine → ∀ (h' : Heap) (c' : Nat), (∀ b o', s.heap.get? b = some o' → h'.get? b = some o') →
      h'.get? s.heap.objs.size = some { cls := .type "list", dict := none, data := .seq its.toArray c', slots := #[] } → EP X pins σ Q (.ref s.heap.objs.size) { s with heap := h' } := fun its r' hz h' c' kp e =>
    ⟨.ref s.heap.objs.size, _, I.laid (t' := s.toks) kp (Nat.le_refl _) (show ObjOk X.prog X.w _ h' _ (.lst ys) from ⟨hz, its, c', r', e⟩), rfl, q _ (I.hok.fresh (Nat.le_refl _))⟩
  rcases hq with hq | hq
  · obtain ⟨its, r', pl, hz⟩ := I.list hq
    have hlen := r'.length
    obtain ⟨o, ho, hc, n, hd⟩ := pl.isList
    exact call_list_seq p (.inl rfl) ho hc hd (fun h' c' kp e => fin its r' hz h' c' kp e) (by simp only [List.size_toArray] <;> (first | lia | omega))
  · obtain ⟨its, r', pl, hz⟩ := I.tuple hq
    have hlen := r'.length
    obtain ⟨o, ho, hc, n, hd⟩ := pl
    exact call_list_seq p (.inr rfl) ho hc hd (fun h' c' kp e => fin its r' hz h' c' kp e) (by simp only [List.size_toArray] <;> (first | lia | omega))
theorem call_tuple_of : CallR X (.type "tuple") (fun xs H Q => ∃ p ys, xs = [.ref p] ∧ ((SqL X.K H p ys ∧ ∀ l, H l = none → Q (.ref l) (upd H l (.tup ys))) ∨ (SqT X.K H p ys ∧ Q (.ref p) H))) := by
  intro pins s σ H xs us Q I r h
  obtain ⟨p, ys, rfl, h⟩ := h
  obtain ⟨u, rfl, rx⟩ := vals1 r
  cases rx
  rcases h with ⟨hq, q⟩ | ⟨hq, q⟩
  · obtain ⟨its, r', pl, hz⟩ := I.list hq
    have hlen := r'.length
    refine call_tuple_list pl.isList (fun h' kp => ?_) (by simp only [List.size_toArray] <;> (first | lia | omega))
    have I1 : Inv X pins σ H { s with heap := h' } := I.kept (t' := s.toks) kp
    have I2 : Inv X pins σ (upd H h'.objs.size (.tup ys)) { s with heap := h'.push { cls := .type "tuple", data := .seq its.toArray } } :=
      I1.laid (t' := s.toks) (fun b o e => Heap.get?_push_of_some _ e) (Nat.le_refl _) (show ObjOk X.prog X.w _ _ _ (.tup ys) from ⟨hz, its, r', IsTup.new _ _⟩)
    exact ⟨.ref h'.objs.size, _, I2, rfl, q _ (I1.hok.fresh (Nat.le_refl _))⟩
  · obtain ⟨its, r', pl, hz⟩ := I.tuple hq
    exact call_tuple_same pl ⟨.ref p, H, I, rfl, q⟩

/-! ### the call of a builtin's method: o.m(..) -/
/-- the value is of that builtin type -/
noncomputable def tyV (K : PySem.W.Frag) (T : String) (x : V) (H : Hp) : Prop := match x with
  | .str _ => T = "str"
  | .int _ => T = "int"
  | .ref p => (T = "list" ∧ ∃ xs, SqL K H p xs) ∨ (T = "tuple" ∧ ∃ o, K.lookup p = some o ∧ o.cls = .type "tuple" ∧ o.dict = none) ∨
      (T = "dict" ∧ ((∃ kvs, H p = some (.dK kvs)) ∨ ∃ kvs, H p = some (.dT kvs))) ∨ (T = "set" ∧ Ex2 fun S n => H p = some (.set S n))
  | _ => False
theorem tyV_is {pins : List (Addr × Obj)} {σ : St} {H : Hp} {s : Shared} {T : String} {x : V} {v : Value} (I : Inv X pins σ H s) (r : RelV x v) (ty : tyV X.K T x H) :
    s.TypeIs v T ∧ ∀ a, v = .ref a → ∃ ob, s.heap.get? a = some ob ∧ ob.dict = none := by
  cases x with
  | str z =>
    obtain ⟨t, rfl⟩ := r
    cases (show T = "str" from ty)
    exact ⟨typeIs_str s z t, fun _ e => nomatch e⟩
  | int i =>
    obtain ⟨t, rfl⟩ := r
    cases (show T = "int" from ty)
    exact ⟨typeIs_int s i t, fun _ e => nomatch e⟩
  | ref p =>
    cases r
    rcases ty with ⟨rfl, xs, hq⟩ | ⟨rfl, o, hk, hc, hd⟩ | ⟨rfl, hk⟩ | ⟨rfl, S, n, hk⟩
    · obtain ⟨its, _, pl, _⟩ := I.list hq
      refine ⟨pl.isList.typeIs, fun a e => ?_⟩
      cases e
      obtain ⟨o, n, e, c, hd, _⟩ := pl
      exact ⟨o, e, hd⟩
    · refine ⟨⟨o, I.kIn p o hk, hc⟩, fun a e => ?_⟩
      cases e
      exact ⟨o, I.kIn _ o hk, hd⟩
    · have z : ∃ o, s.heap.get? p = some o ∧ o.ExactDict := by
        rcases hk with ⟨kvs, hk⟩ | ⟨kvs, hk⟩
        · obtain ⟨_, _, _, _, o, _, _, e, ex, _⟩ := I.hok p _ hk
          exact ⟨o, e, ex⟩
        · obtain ⟨_, _, _, _, o, _, _, e, ex, _⟩ := I.hok p _ hk
          exact ⟨o, e, ex⟩
      obtain ⟨o, e, ex⟩ := z
      refine ⟨⟨o, e, ex.1⟩, fun a e2 => ?_⟩
      cases e2
      exact ⟨o, e, ex.2.1⟩
    · obtain ⟨o, _, _, _, e, ex, _⟩ := I.hok p _ hk
      refine ⟨⟨o, e, ex.1⟩, fun a e2 => ?_⟩
      cases e2
      exact ⟨o, e, ex.2.1⟩
  | _ => exact False.elim ty
noncomputable def tBM (K : PySem.W.Frag) (T : String) (r : V → List V → Hp → VK → Prop) (to : TE) (t : TA) : TE := fun σ H Q => to σ H fun x H1 => tyV K T x H1 ∧ t σ H1 fun xs H2 => r x xs H2 Q
variable {o e : Expr} {es : List Expr} {to : TE} {t : TA} {name : Str} {apos cpos : Pos} {T id : String} {r : V → List V → Hp → VK → Prop}
theorem pe_bm (pa : PlainAttrs T) (slot : Slot T name id) (hty : typeOf (.builtin id) = pure (.type "method_descriptor")) (hm : MtR X id r) (ho : PE X o to) (ha : PA X (e :: es) t)
    (hbase : attributeBase o name X.env (eval o X.env) = eval o X.env := by rfl)
    (hfew : ((backTo cpos (starEach (e :: es) X.env)).all (fun x => !x.1) && (backToKw cpos (keywordEach [] X.env)).all (fun x => x.1.isSome)
      && decide ((e :: es).length + ([] : List Keyword).length + (if ([] : List Keyword).isEmpty then 0 else 1) < 30)) = true := by rfl)
    (hline : (apos.endLine == cpos.line) = true := by rfl) (hs : starEach (e :: es) X.env = (false, eval e X.env) :: starEach es X.env := by rfl) (hplain : (backTo cpos (starEach es X.env)).any (·.1) = false := by rfl) :
    PE X (.Call (.Attribute o name apos) (e :: es) [] cpos) (tBM X.K T r to t) := by
  intro pins s σ H Q I h
  refine wpAny_Call_method_late hbase hfew hline rfl (thn (ho s σ H _ I h) fun v s1 ⟨x, H1, I1, r1, ty, q1⟩ => ?_)
  obtain ⟨h1, h2⟩ := tyV_is I1 r1 ty
  refine ⟨T, id, pa, slot, hty, h1, h2, ?_⟩
  have hA := ha (pos := cpos) s1 σ H1 _ I1 q1
  rw [hs] at hA ⊢
  refine Calls.callWith_builtin (by show (false || (backTo cpos (starEach es X.env)).any (·.1)) = false; rw [hplain] <;> rfl) (Calls.evalArgs_plain ?_)
  exact thn hA fun us s2 ⟨vs, H2, I2, r2, q2⟩ => hm s2 σ H2 x vs v us Q I2 r1 r2 q2
/- xs.append(e), list.index on a module's tuple .. are MtR facts of 06m -/
end
end L2

namespace L2
open PySem PySem.Spec PyProof.Rows

noncomputable def MtM (X : Cx) (id : String) (r : V → List V → Hp → VK → Prop) : Prop :=
  ∀ ⦃pins : List (Addr × Obj)⦄ (s : Shared) (σ : St) (H : Hp) (x : V) (xs : List V) (v : Value) (us : List Value) (Q : VK), Inv X pins σ H s → RelV x v → Vals xs us → r x xs H Q →
    wpAny (model X.prog X.w) X.A (call (.builtin id) (v :: us)) (EP X pins σ Q) X.xe s

/-! ### lists of values -/
theorem Vals.hd {x : V} {xs : List V} {us : List Value} (h : Vals (x :: xs) us) : ∃ u r, us = u :: r ∧ RelV x u ∧ Vals xs r := by
  cases h with | cons a b => exact ⟨_, _, rfl, a, b⟩
theorem Vals.one {x : V} {us : List Value} (h : Vals [x] us) : ∃ u, us = [u] ∧ RelV x u := by
  obtain ⟨u, r, rfl, a, h⟩ := h.hd
  cases h
  exact ⟨_, rfl, a⟩
theorem Vals.eraseIdx : ∀ {xs : List V} {us : List Value} (i : Nat), Vals xs us → Vals (xs.eraseIdx i) (us.eraseIdx i)
  | _, _, _, .nil => .nil
  | _, _, 0, .cons _ t => t
  | _, _, i + 1, .cons r t => .cons r (Vals.eraseIdx i t)
theorem Vals.rep {xs : List V} {us : List Value} (h : Vals xs us) : ∀ k : Nat, Vals (List.replicate k xs).flatten (List.replicate k us).flatten
  | 0 => .nil
  | k + 1 => by
    rw [List.replicate_succ, List.replicate_succ, List.flatten_cons, List.flatten_cons]
    exact Vals.append h (Vals.rep h k)
theorem len_erase {α : Type} : ∀ (l : List α) (i : Nat), (l.eraseIdx i).length ≤ l.length
  | [], _ => Nat.le_refl _
  | _ :: _, 0 => Nat.le_succ _
  | _ :: r, i + 1 => Nat.succ_le_succ (len_erase r i)
theorem foldl_rep (its : List Value) : ∀ (k : Nat) (acc : List Value),
    List.foldl (fun x1 x2 => x1 ++ x2) acc.toArray (List.replicate k its.toArray) = (acc ++ (List.replicate k its).flatten).toArray
  | 0, acc => by simp
  | k + 1, acc => by
    have e : acc.toArray ++ its.toArray = (acc ++ its).toArray := by simp
    have e2 : (acc ++ its) ++ (List.replicate k its).flatten = acc ++ (List.replicate (k + 1) its).flatten := by
      rw [List.replicate_succ, List.flatten_cons, List.append_assoc]
    rw [← e2, ← foldl_rep its k (acc ++ its), ← e, List.replicate_succ, List.foldl_cons]

section
variable {X : Cx} {pins : List (Addr × Obj)} {σ : St} {H : Hp} {s : Shared} {l b : Addr} {xs ys zs : List V}

/-! ### the two steps: a tracked list is rewritten, a new list is laid -/
theorem Inv.lset {its its' : List Value} {n : Nat} {f : Array Value → Array Value} {t' : Nat} (I : Inv X pins σ H s) (hH : H l = some (.lst xs))
    (e : s.heap.get? l = some { cls := .type "list", data := .seq its.toArray n }) (hf : f its.toArray = its'.toArray) (hv : Vals ys its') (hz : ys.length ≤ sizeLine) :
    Inv X pins σ (upd H l (.lst ys)) { s with heap := s.heap.update l (Obj.mapSeq f), toks := t' } := by
  have q := PySem.IsL.update e f
  rw [hf] at q
  refine I.write (x := l) (e := l) (by rw [hH]; exact trivial) (.inl rfl) (fun b' u hb hu => (Heap.get?_update_other s.heap (Obj.mapSeq f) (Ne.symm hb)).trans hu) ⟨_, q⟩ ?_
  exact ⟨hz, its', _, hv, q⟩
theorem Inv.lnew {its : List Value} {t' : Nat} (I : Inv X pins σ H s) (hv : Vals ys its) (hz : ys.length ≤ sizeLine) :
    Inv X pins σ (upd H s.heap.objs.size (.lst ys)) { s with heap := s.heap.push { cls := .type "list", data := .seq its.toArray }, toks := t' } :=
  I.laid (fun _ _ q => Heap.get?_push_of_some _ q) (Nat.le_refl _) ⟨hz, its, 0, hv, Heap.get?_push_size _ rfl⟩
theorem Inv.fresh (I : Inv X pins σ H s) : H s.heap.objs.size = none := I.hok.fresh (Nat.le_refl _)
theorem Inv.lstM (I : Inv X pins σ H s) (hH : H l = some (.lst xs)) : xs.length ≤ sizeLine ∧ ∃ (its : List Value) (n : Nat), Vals xs its ∧ xs.length = its.length ∧ s.heap.get? l = some { cls := .type "list", data := .seq its.toArray n } := by
  obtain ⟨z, its, n, r, e⟩ := I.hok l _ hH
  exact ⟨z, its, n, r, r.length, e⟩

theorem notLongL {n : Nat} (h : n ≤ sizeLine) : Builtin.List.listTooLong n = false := by
  unfold Builtin.List.listTooLong
  exact decide_eq_false (by (first | lia | omega))
end

section
variable {X : Cx}

/-! ### methods -/
noncomputable def rAppend : V → List V → Hp → VK → Prop := fun x vs H Q => Ex3 fun l xs y => x = .ref l ∧ vs = [y] ∧ H l = some (.lst xs) ∧ xs.length < sizeLine ∧ Q .non (upd H l (.lst (xs ++ [y])))
theorem mt_append : MtM X "list.append" rAppend := by
  intro pins s σ H x vs v us Q I rx rv h
  obtain ⟨l, xs, y, rfl, rfl, hH, hz, q⟩ := h
  cases rx
  obtain ⟨u, rfl, ru⟩ := rv.one
  obtain ⟨z, its, n, r, hl, e⟩ := I.lstM hH
  refine call_meets F.slot_list_append ⟨_, e, rfl⟩ F.entry_list_append (F.args_list_append_2 _ _) (PySem.list_append l its.toArray n u (by rw [List.size_toArray]; (first | lia | omega))) ⟨e, ?_⟩
  refine ⟨.non, _, I.lset (its' := its ++ [u]) hH e (by simp) (r.append (.cons ru .nil)) ?_, rfl, q⟩
  rw [List.length_append, List.length_singleton]
  (first | lia | omega)

noncomputable def rPopAt : V → List V → Hp → VK → Prop := fun x vs H Q => Ex5 fun l xs i k y => x = .ref l ∧ vs = [.int i] ∧ H l = some (.lst xs) ∧ -(2 ^ 63) ≤ i ∧ i < 2 ^ 63 ∧ seqIndex? i xs.length = some k ∧ xs[k]? = some y ∧ Q y (upd H l (.lst (xs.eraseIdx k)))
theorem mt_popAt : MtM X "list.pop" rPopAt := by
  intro pins s σ H x vs v us Q I rx rv h
  obtain ⟨l, xs, i, k, y, rfl, rfl, hH, h1, h2, hk, hy, q⟩ := h
  cases rx
  obtain ⟨u, rfl, ru⟩ := rv.one
  obtain ⟨t, rfl⟩ := ru
  obtain ⟨z, its, n, r, hl, e⟩ := I.lstM hH
  obtain ⟨w, hw, rw'⟩ := r.get hy
  refine call_meets F.slot_list_pop ⟨_, e, rfl⟩ F.entry_list_pop (F.args_list_pop_2 _ _)
    (MeetsSeq.list_pop_at l its.toArray n i t k w (fitsIndex_both h1 h2) (by rw [List.size_toArray, ← hl]; exact hk) (by rw [← Array.getElem?_toList]; exact hw) (by rw [List.size_toArray]; (first | lia | omega))) ⟨e, ?_⟩
  refine ⟨y, _, I.lset (its' := its.eraseIdx k) hH e ?_ (r.eraseIdx k) ?_, rw', q⟩
  · show its.toArray.eraseIdxIfInBounds k = (its.eraseIdx k).toArray
    rw [List.eraseIdxIfInBounds_toArray]
  · have := len_erase xs k
    (first | lia | omega)

/-! ### list + list, list += list, list * int -/
noncomputable def rCat : R2 := fun x y H Q => Ex4 fun l b xs zs => x = .ref l ∧ y = .ref b ∧ H l = some (.lst xs) ∧ H b = some (.lst zs) ∧ xs.length + zs.length ≤ sizeLine ∧ ∀ p, H p = none → Q (.ref p) (upd H p (.lst (xs ++ zs)))
theorem op_cat : OpR X (binaryOp .Add) rCat := by
  intro pins s σ H x y v u Q I rx ry h
  obtain ⟨l, b, xs, zs, rfl, rfl, hH, hB, hz, q⟩ := h
  cases rx
  cases ry
  obtain ⟨z, its, n, r, hl, e⟩ := I.lstM hH
  obtain ⟨z2, its2, n2, r2, hl2, e2⟩ := I.lstM hB
  refine PySem.P.add_list e e2 ?_ (by rw [List.size_toArray, List.size_toArray]; (first | lia | omega))
  have ea : its.toArray ++ its2.toArray = (its ++ its2).toArray := by simp
  rw [ea]
  exact ⟨.ref _, _, I.lnew (t' := s.toks) (r.append r2) (by rw [List.length_append]; (first | lia | omega)), rfl, q _ I.fresh⟩
/-- a list times an int (a negative one is nothing) -/
noncomputable def rRep : R2 := fun x y H Q => Ex3 fun l k xs => x = .ref l ∧ y = .int k ∧ H l = some (.lst xs) ∧ -(2 ^ 63) ≤ k ∧ k < 2 ^ 63 ∧ xs.length * k.toNat ≤ sizeLine ∧
  ∀ p, H p = none → Q (.ref p) (upd H p (.lst (List.replicate k.toNat xs).flatten))
theorem len_rep {α : Type} (xs : List α) (k : Nat) : (List.replicate k xs).flatten.length = k * xs.length := by
  induction k with
  | zero => simp
  | succ k ih => rw [List.replicate_succ, List.flatten_cons, List.length_append, ih, Nat.succ_mul, Nat.add_comm]
theorem op_rep : OpR X (binaryOp .Mult) rRep := by
  intro pins s σ H x y v u Q I rx ry h
  obtain ⟨l, k, xs, rfl, rfl, hH, h1, h2, hz, q⟩ := h
  cases rx
  obtain ⟨t, rfl⟩ := ry
  obtain ⟨z, its, n, r, hl, e⟩ := I.lstM hH
  have hlen : its.toArray.size * k.toNat ≤ sizeLine := by rw [List.size_toArray, ← hl]; exact hz
  have hcap : ¬ its.toArray.size * k.toNat > (2 ^ 63 - 1) / 8 := by
    have : (sizeLine : Nat) ≤ (2 ^ 63 - 1) / 8 := by decide
    (first | lia | omega)
  have hfit : ¬ (!Builtin.List.listFitsIndex k) = true := by
    rw [fitsIndex_both h1 h2]
    exact Bool.false_ne_true
  have hlong : ¬ Builtin.List.listTooLong (its.toArray.size * k.toNat) = true := by
    rw [notLongL hlen]
    exact Bool.false_ne_true
  have hnew : List.foldl (fun x1 x2 => x1 ++ x2) #[] (List.replicate (if its.toArray.isEmpty = true then 0 else k.toNat) its.toArray) = (List.replicate k.toNat its).flatten.toArray := by
    have f0 : ∀ m : Nat, List.foldl (fun x1 x2 => x1 ++ x2) #[] (List.replicate m its.toArray) = (List.replicate m its).flatten.toArray := fun m => by
      have := foldl_rep its m []
      rw [List.nil_append] at this
      exact this
    rw [f0]
    cases its with
    | nil => simp
    | cons a r' => rw [if_neg (by simp)]
  refine wpAny_binaryOp_repeat_ref (T := "list") (U := "int") (by decide) ⟨_, e, rfl⟩ (fun s' => typeIs_int s' k t) noFill_list_mul F.fills_int_mul F.slot_int_rmul repeat_list F.slot_int_index.lookup
    (call_meets F.slot_int_rmul (typeIs_int s k t) F.entry_int_rmul (F.args_int_rmul_2 _ _) (int___rmul___int_list k t l its.toArray n)
      ⟨e, rfl, ⟨_, e, rfl⟩, call_meets F.slot_list_mul ⟨_, e, rfl⟩ F.entry_list_mul (F.args_list_mul_2 _ _) (AutoListH.list___mul___list_int_3 l its.toArray n k t hfit hcap hlong) ⟨e, ?_⟩⟩)
  rw [hnew]
  exact ⟨.ref _, _, I.lnew (t' := s.toks) (r.rep k.toNat) (by rw [len_rep, Nat.mul_comm]; exact hz), rfl, q _ I.fresh⟩

/-! ### del xs[i] -/
end

/-! ### xs[a:b] = ys -/
section
variable {prog : Program} {w : World} {A : Around} {E : Value → Shared → Prop} {s : Shared}
set_option maxRecDepth 100000 in
end

section
variable {X : Cx}
end
end L2

namespace Att
open PySem PySem.W PySem.Calls PyProof.Rows

/-! ### the script -/
theorem ints_of_wellAll {P : Params} {h : Heap} : ∀ (ns : List Int) (vs : List Value), WellAll P h vs (ns.map WData.int) → IntsAre vs ns := by
  intro ns
  induction ns with
  | nil =>
    intro vs w
    rw [List.map_nil] at w
    cases w
    exact .nil
  | cons n ns ih =>
    intro vs w
    rw [List.map_cons] at w
    cases w with
    | cons a b =>
      cases a
      exact .cons _ _ (ih _ b)

theorem script_of {l : OpenLaw} {n : Nat} (hn : l.most = some n) {P : Params} {h : Heap} {args : List WData} {vals : List Value}
    (hpre : l.row.toRowW.claim.pre args = true) (hwl : WellAll P h vals args) :
    ∃ a vs ns, vals = [Value.ref a] ∧ args = [WData.list (ns.map WData.int)] ∧ h.get? a = some { cls := .type "list", data := .seq vs.toArray } ∧ IntsAre vs ns ∧ ns.length ≤ n := by
  have hsh : WShape.hasAll [] args [.list .int] = true := (pre_splitW hpre).1
  have hc : l.pre.holds [] { args := args } = true := (pre_splitW hpre).2
  obtain ⟨d, r, rfl, h1, h2⟩ := hasAllW_cons hsh
  obtain rfl := hasAllW_nil h2
  obtain ⟨xs, rfl, h3⟩ := hasW_list h1
  obtain ⟨ns, rfl⟩ := items_int h3
  have hlen : ns.length ≤ n := by
    unfold OpenLaw.pre at hc
    have h4 : (WTm.not (.lt (.lit (.int (n : Int))) (.len (.arg 0)))).holds [] { args := [.list (ns.map .int)] } = true := by
      have h4 := (holds_andW hc).1
      rw [hn] at h4
      exact h4
    have h5 := condW_of h4 (w_not (w_lt w_lit (w_len_list (w_arg rfl))))
    rw [List.length_map] at h5
    refine Nat.le_of_not_lt fun q => ?_
    have q' : (n : Int) < ((ns.length : Nat) : Int) := by (first | lia | omega)
    first
      | (rw [decide_eq_true q'] at h5; exact absurd h5 (by decide))
      | (simp at h5; (first | lia | omega))
  cases hwl with
  | cons w1 w2 =>
    cases w2
    cases w1 with
    | list ho hall => exact ⟨_, _, ns, rfl, rfl, ho, ints_of_wellAll ns _ hall, hlen⟩

theorem post_true (l : OpenLaw) (args : List WData) : l.row.toRowW.claim.post args (.bool true) args = true :=
  postW_of (r := l.row.toRowW) (X := (true == true))
    (show WShape.has [] (.bool true) .bool = true by first | rfl | decide | simp [WShape.has, WShape.arms, WShape.armsAll])
    (show (WTm.eq .res (.lit (.bool true))).value [] { args := args, res := some (.bool true), after := args } = some (.bool (true == true)) from w_eq_bool (w_res rfl) w_lit) rfl

/-! ### the attachment: holds_open's last premise (the goal 'hc' behind k_head) from a wpAny of the law's body -/
/-- the same from a codeAny of the CALL (for a layer whose function contracts speak of calls) -/
theorem attach_call {l : OpenLaw} {n : Nat} {q : Program} {loose : List Str} {XP : (Str → Option Value) → Heap → Prop} {YP : World → Heap → Prop} {d : DefRec}
    (hn : l.most = some n) (hdf : d.params.defaults = [])
    (call : ∀ (w : World) (s₀ s₁ : Shared) (mg mb : Str → Option Value) (fa : Addr) (o : Obj) (pm cd doc : Value) (a : Addr) (vs : List Value) (ns : List Int),
      Ground q loose [] XP w s₀ mg mb s₁.heap → YP w s₁.heap →
      s₁.heap.get? fa = some o → o.data = .func (docDef d.name d.params d.body d.scope pm cd doc) → s₁.heap.CodeRec cd d.name → mg d.name = some (.ref fa) →
      s₁.heap.get? a = some { cls := .type "list", data := .seq vs.toArray } → IntsAre vs ns → ns.length ≤ n → s₁.gens = #[] →
      codeAny (model l.prog w) callerA (.call (.ref fa) ⟨[.ref a], []⟩) (fun r s' => r = .ok (.ret (.bool true)) ∧ OldK s₁.heap s'.heap ∧ s'.os = s₁.os ∧ AllBare s'.gens) s₁) :
    WalkO q loose XP YP l.row.toRowW d [] (fun f vs => PySem.call f vs) := by
  intro w s₀ s₁ mg mb G Y fa o pm cd doc dV kV ho hd hcd hD hmg hg args vals as hpre hlay hrd hwl hlo
  obtain rfl : dV = .none := Dflts.none hD hdf
  obtain rfl : kV = .none := Dflts.noKw hD
  obtain ⟨a, vs, ns, rfl, rfl, hobj, hints, hlen⟩ := script_of hn hpre hwl
  refine enter_call (codeAny_mono (call w s₀ s₁ mg mb fa o pm cd doc a vs ns G Y ho (fd_plain hd) hcd hmg hobj hints hlen hg) fun r s' hq => ?_)
  obtain ⟨rfl, h2, h3, h4⟩ := hq
  exact ⟨.inl ⟨.bool true, .bool true, [], rfl, fun _ => rfl, .bool true, post_true l _, fun _ => ⟨List.Pairwise.nil, fun _ hm => (nomatch hm)⟩⟩, h2, h3, h4⟩

/-! ### rules over ANY heap (no ledger) from facts about the written part K: the library's own take a ledger (News) for what they write -/
section
variable {prog : Program} {w : World} {A : Around} {E : Value → Shared → Prop} {s : Shared} {K : Frag}

/-! the whole heap as the ledger: makes every rule that writes through a ledger a rule over any heap -/
end
end Att

namespace L2
open PySem PySem.Spec PyProof.Rows

theorem vals_ints : ∀ {vs : List Value} {ns : List Int}, IntsAre vs ns → Vals (ns.map V.int) vs
  | _, _, .nil => .nil
  | _, _, .cons n t h => .cons ⟨t, rfl⟩ (vals_ints h)

/-- nothing is tracked but the script, known to the object (or it is an object of the module) -/
noncomputable def Only (H : Hp) : Prop := ∀ b, H b = none ∨ Ex2 fun o xs => H b = some (.frz o (.lst xs))

/-- THE HEAD: the law's promise, at the heap behind the top. F, the promise of the law's def, may use that base is part of the heap (so K.In base, base.Ns mainGlobals mg stand in Mod) -/
theorem law_call {P : Program} {w : World} {K : PySem.W.Frag} {mg mb : Str → Option Value} {CX : CXT} {k : Nat} {fa a : Addr} {fd : FuncData} {x : Str} {sp : Sp} {s₁ : Shared} {vs : List Value} {ns : List Int}
    (KX : K.In s₁.heap) (hns : s₁.heap.Ns mainGlobals mg) (hb : s₁.heap.Ns builtinsNs mb) (hbb : ∀ x : Str, x ≠ "__name__" → mb x = bootBuiltins x) (hlim : s₁.heap.NoLimit) (hg : s₁.gens = #[])
    (ha : s₁.heap.get? a = some { cls := .type "list", data := .seq vs.toArray }) (hi : IntsAre vs ns) (hl : ns.length ≤ sizeLine) (hr : Room k callerA)
    (F : ∀ base : Heap, K.In base → base.Ns mainGlobals mg → FnOk P w K mg base CX k fa fd [x] sp) (hbind : ∀ (s : Shared) (u : Value), BindsTo s fd ⟨[u], []⟩ [(x, u)])
    (hsp : ∀ H : Hp, Only H → SqL K H a (ns.map V.int) → sp [.ref a] H (fun v _ => v = .bl true) fun _ _ _ => False)
    (hCX : ∀ H e s', CX [] H s₁ (fun _ _ _ => False) e s' → False) :
    codeAny (model P w) callerA (.call (.ref fa) ⟨[.ref a], []⟩) (fun r s' => r = .ok (.ret (.bool true)) ∧ OldK s₁.heap s'.heap ∧ s'.os = s₁.os ∧ AllBare s'.gens) s₁ := by
  have rv := vals_ints hi
  have lenV := hi.length
  -- from an abstract heap in which nothing but the script may be tracked
  have core : ∀ H : Hp, Only H → SqL K H a (ns.map V.int) → HOk P w H s₁.heap → (∀ b, H b ≠ none → b = a) → (H a ≠ none → K.lookup a = none) →
      codeAny (model P w) callerA (.call (.ref fa) ⟨[.ref a], []⟩) (fun r s' => r = .ok (.ret (.bool true)) ∧ OldK s₁.heap s'.heap ∧ s'.os = s₁.os ∧ AllBare s'.gens) s₁ := by
    intro H hO hS hok hA hK
    have base_of : ∀ {b : Addr} {o : Obj}, s₁.heap.get? b = some o → H b = none → (hidT s₁.heap H).get? b = some o := fun e n => hidT_get e n
    have noA : ∀ {b : Addr} {o : Obj} {es : Array DictEntry} {ep : Nat}, s₁.heap.get? b = some o → o.data = .dict es ep → H b = none := fun {b o es ep} e d => by
      cases q : H b with
      | none => rfl
      | some u =>
        have e' : b = a := hA b (by rw [q]; simp)
        subst e'
        rw [ha] at e; cases e
        have d' : Data.seq vs.toArray _ = Data.dict es ep := d
        cases d'
    have nsK : ∀ {b : Addr} {m : Str → Option Value}, s₁.heap.Ns b m → (hidT s₁.heap H).Ns b m := fun {b m} ⟨o, es, ep, e, d, r⟩ => ⟨o, es, ep, base_of e (noA e d), d, r⟩
    have hKb : K.In (hidT s₁.heap H) := fun b o e => base_of (KX b o e) (by
      cases q : H b with
      | none => rfl
      | some u =>
        have e' : b = a := hA b (by rw [q]; simp)
        subst e'
        rw [hK (by rw [q]; simp)] at e; cases e)
    have hM : Mod K mg (hidT s₁.heap H) := ⟨hKb, nsK hns, ⟨mb, nsK hb, hbb⟩, let ⟨mc, h1, h2⟩ := hlim; ⟨mc, nsK h1, h2⟩⟩
    have e0 : Env0 P w K mg (hidT s₁.heap H) callerA [] s₁ H := ⟨rfl, hM, fun b o e => of_hidT e, Nat.le_of_eq (hidT_size _ _), trivial, fun b hb => absurd (show b ∈ ([] : List Addr) from hb) (by simp), hok, .of_eq hg⟩
    refine codeAny_mono ((F _ hKb (nsK hns)).run callerA [] s₁ H ⟨[.ref a], []⟩ [.ref a] [.ref a] _ _ hr e0 (hbind s₁ (.ref a)) (.cons rfl .nil) (hsp H hO hS)) fun r s' h => ?_
    cases r with
    | error e => exact (hCX H e s' h).elim
    | ok fl =>
      cases fl with
      | next => exact False.elim h
      | brk => exact False.elim h
      | cont => exact False.elim h
      | ret u =>
        obtain ⟨v, H', os, bare, un, hok', r', q⟩ := h
        have q' : v = .bl true := q
        subst q'
        obtain rfl : u = Value.bool true := r'
        refine ⟨rfl, OldK.of_keep fun b o e => ?_, os, bare⟩
        cases q : H b with
        | none => exact un.keep b o e q (by intro z; exact absurd (show b ∈ ([] : List Addr) from z) (by simp)) (by simp)
        | some u =>
          rcases hO b with z | ⟨ob, xs, z⟩
          · rw [q] at z; cases z
          · have z2 := un.frzs b ob _ z
            obtain ⟨e1, _⟩ := hok b _ z
            obtain ⟨e2, _⟩ := hok' b _ z2
            rw [e] at e1; cases e1
            exact e2
  cases hk : K.lookup a with
  | some o =>
    -- the script is one of the module's own objects
    have e := KX a o hk
    rw [ha] at e
    cases e
    refine core (fun _ => none) (fun _ => .inl rfl) (.inr ⟨_, vs.toArray, _, hk, rfl, rfl, rfl, by rw [List.size_toArray, lenV]; exact hl, by simpa using rv⟩) (fun b u z => by have z' : (none : Option HO) = some u := z; cases z') (fun b z => absurd rfl z) fun z => absurd rfl z
  | none =>
    refine core (fun b => if b = a then some (.frz { cls := .type "list", data := .seq vs.toArray } (.lst (ns.map V.int))) else none) (fun b => ?_) (.inl (.inr ⟨{ cls := .type "list", data := .seq vs.toArray }, if_pos rfl⟩)) (fun b u z => ?_) (fun b z => ?_) fun _ => hk
    · by_cases hb : b = a
      · exact .inr ⟨_, _, if_pos hb⟩
      · exact .inl (if_neg hb)
    · by_cases hb : b = a
      · have z' := (if_pos hb).symm.trans z
        cases z'
        subst hb
        exact ⟨ha, by rw [List.length_map]; exact hl, vs, _, rv, ha⟩
      · have z' := (if_neg hb).symm.trans z
        cases z'
    · by_cases hb : b = a
      · exact hb
      · exact absurd (if_neg hb) z
end L2

namespace L2
open PySem PySem.Spec PyProof.Rows

/-- the goal that k_head leaves (case hc), from the law's promise. F gives the function object fd (K's own) once, then the promise over every base -/
theorem walk_of {l : PySem.W.OpenLaw} {n k : Nat} {q : Program} {loose : List Str} {XP : (Str → Option Value) → Heap → Prop} {YP : World → Heap → Prop} {d : DefRec} {K : Params → PySem.W.Frag} {CX : World → CXT} {sp : World → Sp} {x : Str}
    (hn : l.most = some n) (hn2 : n ≤ sizeLine) (hdf : d.params.defaults = []) (hr : Room k callerA)
    (hY : ∀ (w : World) (h : Heap), YP w h → (K w.params).In h)
    (F : ∀ (w : World) (mg : Str → Option Value) (fa : Addr) (h : Heap), (K w.params).In h → h.Ns mainGlobals mg → mg d.name = some (.ref fa) →
      ∃ fd : FuncData, (∀ (s : Shared) (u : Value), BindsTo s fd ⟨[u], []⟩ [(x, u)]) ∧
        ∀ base : Heap, (K w.params).In base → base.Ns mainGlobals mg → FnOk l.prog w (K w.params) mg base (CX w) k fa fd [x] (sp w))
    (hsp : ∀ (w : World) (H : Hp) (a : Addr) (ns : List Int), ns.length ≤ n → Only H → SqL (K w.params) H a (ns.map V.int) → sp w [.ref a] H (fun v _ => v = .bl true) fun _ _ _ => False)
    (hCX : ∀ (w : World) (H : Hp) (s : Shared) (e : Value) (s' : Shared), CX w [] H s (fun _ _ _ => False) e s' → False) :
    PySem.W.WalkO q loose XP YP l.row.toRowW d [] (fun f vs => PySem.call f vs) := by
  refine Att.attach_call hn hdf fun w s₀ s₁ mg mb fa o pm cd doc a vs ns G Y ho hd hcd hmg hobj hints hlen hg => ?_
  have KX := hY w _ Y
  obtain ⟨fd, hb, hF⟩ := F w mg fa _ KX G.T.g hmg
  exact law_call KX G.T.g G.T.b G.T.builtins G.T.nolimit hg hobj hints (Nat.le_trans hlen hn2) hr hF hb (fun H hO hS => hsp w H a ns hlen hO hS) fun H e s' => hCX w H s₁ e s'
end L2

/- THE LAST THEOREM (shape; LID, My.* are yours):
   My.Adr: a structure of the addresses that your layer names (classes, functions); My.Txt K t: a structure (Prop) of the equations over K;
   My.txt_mk : {K} {implicit addresses ..} (e1 : nsIn K mainGlobals "law" = some (some (.ref f))) (e2 : K.lookup f = some ⟨oc, od, .func (fnOf "law" "law" params body scope dV kV doc pm an cdv ct), sl⟩) (e3 : codeIn K cdv "law" = true) .. : ∃ t, My.Txt K t

set_option maxRecDepth 100000 in
set_option maxHeartbeats 0 in
theorem PySem.Challenge.cw_LID_holds : PySem.Challenge.rw_LID.Holds := by
  w_on; o_law; k_head; (case hw => w_witness2)
  k_fill
  refine L2.walk_of (l := PySem.Challenge.rw_LID) (n := 63) (k := 40) (x := "script") (CX := fun w => ..) (sp := fun _ => My.sp_law) rfl (by decide) rfl ⟨rfl, by decide, by decide⟩ (fun w h Y => PySem.W.kIn_of Y) ?F ?S ?C
  case F =>
    intro w mg fa h KX G hmg
    have T : ∃ t, My.Txt (L2.KOf KX) t := by
      dsimp only [L2.KOf]                          -- K must stand as «<heap const> w.params» for k_is
      refine' My.txt_mk ?e1 ?e2 ?e3 ..
      (case e1 => PySem.W.k_is)                    -- in the order: a name -> its address -> its object -> its parts
      (case e2 => PySem.W.k_is)
      ..
    obtain ⟨t, T⟩ := T
    have e0 := hmg.symm.trans (PySem.W.mg_of KX G T.law)
    cases e0                                       -- fa is the law's own address
    exact ⟨_, fun s u => .of_eq rfl, fun base kb nb => My.law_fn T kb nb⟩     -- if «.of_eq rfl» comes too early: refine' ⟨_, ?b, fun base kb nb => My.law_fn T kb nb⟩; exact fun s u => .of_eq rfl
  case S => exact fun w H a ns hl hO hS => ..
  case C => exact ..
(the tactic k_is has no namespace: write k_is) -/

/-! SHORT WORDS over the layer: a def of the text, its body, what a loop and a test want. -/
namespace L2
open PySem PySem.Spec PyProof.Rows

/-! ### the text by places -/
/-- the j-th statement of a class's body -/
noncomputable def inClass (s : Stmt) (j : Nat) : Stmt := match s with
  | .ClassDef _ _ _ body _ _ _ _ _ _ _ => body.getD j (.Pass ⟨0, 0, 0, 0⟩)
  | _ => .Pass ⟨0, 0, 0, 0⟩
noncomputable def defArgs (s : Stmt) : Arguments := match s with
  | .FunctionDef _ a _ _ _ _ _ _ _ _ => a
  | _ => { posonlyargs := [], args := [], vararg := none, kwonlyargs := [], kw_defaults := [], kwarg := none, defaults := [] }
noncomputable def defBody (s : Stmt) : List Stmt := match s with
  | .FunctionDef _ _ b _ _ _ _ _ _ _ => b
  | _ => []
noncomputable def defScope (s : Stmt) : Scope := match s with
  | .FunctionDef _ _ _ _ _ _ sc _ _ _ => sc
  | _ => { kind := .function, names := [], isGenerator := false, isCoroutine := false }

/-! ### no exception leaves a def -/
noncomputable abbrev CX0 : CXT := fun _ _ _ _ _ _ => False
noncomputable abbrev E0 : XK := fun _ _ _ => False
theorem pass0 {X : Cx} : Passes CX0 X E0 := fun _ _ _ _ _ _ _ h => h.elim

/-! ### a def (or method) of the text as it stands behind the top -/
structure Fun (K : PySem.W.Frag) (x qual : Str) (st : Stmt) (f : Addr) (fd : FuncData) : Prop where
  ex : ∃ (oc : Value) (od : Option Addr) (kV doc pm : Value) (an : Option Addr) (cdv ct : Value) (osl : Array (Option Value)),
    fd = PySem.W.fnOf x qual (defArgs st) (defBody st) (defScope st) .none kV doc pm an cdv ct ∧ K.lookup f = some ⟨oc, od, .func fd, osl⟩ ∧ PySem.W.codeIn K cdv qual = true
  kp : PySem.W.keepIn K (.ref f) = true
section
variable {P : Program} {w : World} {K : PySem.W.Frag} {mg : Str → Option Value} {base : Heap}
/-- THE RULE for a def: its body as a term of rules, and the reading of that term -/
theorem Fun.ok {x qual : Str} {st : Stmt} {f : Addr} {fd : FuncData} {N ps : List Str} {k : Nat} {sp : Sp} (F : Fun K x qual st f fd) (S : FnScope N ps (defScope st)) (len : ∀ vs H Q E, sp vs H Q E → vs.length = ps.length)
    (hbody : ∀ (cdv : Value) (A : Around) (outer : List Env) (s : Shared) (H : Hp) (vs : List V) (Q : VK) (E : XK), Room k (A.deeper (envOfC qual (defScope st) s.heap.objs.size f cdv)) → sp vs H Q E →
      ∃ t, PSs (cxOf CX0 P w K mg base N qual (defScope st) f cdv A outer s H E).nox (defBody st) t ∧ t { nx := fun _ H' => Q .non H', rt := Q } (start N vs) H) : FnOk P w K mg base CX0 (k + 1) f fd ps sp := by
  obtain ⟨oc, od, kV, doc, pm, an, cdv, ct, osl, rfl, lk, hcd⟩ := F.ex
  refine fn_of lk hcd S len fun A outer s H vs Q E hr hsp => ?_
  obtain ⟨t, h, q⟩ := hbody cdv A outer s H vs Q E hr hsp
  exact ⟨t, h.nox, q⟩
/-- how its arguments bind (no defaults): h is «fun _ _ _ _ _ _ us hl => match us, hl with | [_, _], _ => rfl», one _ a parameter -/
theorem Fun.binds {x qual : Str} {st : Stmt} {f : Addr} {fd : FuncData} {ps : List Str} (F : Fun K x qual st f fd)
    (h : ∀ (kV doc pm : Value) (an : Option Addr) (cdv ct : Value) (us : List Value), us.length = ps.length → bindArgs (PySem.W.fnOf x qual (defArgs st) (defBody st) (defScope st) .none kV doc pm an cdv ct) ⟨us, []⟩ = pure (ps.zip us)) : Binds K fd ps [] := by
  obtain ⟨oc, od, kV, doc, pm, an, cdv, ct, osl, rfl, lk, hcd⟩ := F.ex
  exact .all (h kV doc pm an cdv ct)
theorem fun_mk {x qual : Str} {st : Stmt} {f : Addr} {oc : Value} {od an : Option Addr} {osl : Array (Option Value)} {kV doc pm cdv ct : Value} (l : K.lookup f = some ⟨oc, od, .func (PySem.W.fnOf x qual (defArgs st) (defBody st) (defScope st) .none kV doc pm an cdv ct), osl⟩)
    (c : PySem.W.codeIn K cdv qual = true) (k : PySem.W.keepIn K (.ref f) = true) : Fun K x qual st f (PySem.W.fnOf x qual (defArgs st) (defBody st) (defScope st) .none kV doc pm an cdv ct) := ⟨⟨oc, od, kV, doc, pm, an, cdv, ct, osl, rfl, l, c⟩, k⟩
end
theorem hu_of {A : Around} {k : Nat} (hr : Room k A) : A.units + 1 < cLine := Nat.lt_of_le_of_lt (Nat.add_le_add_left (by decide : 1 ≤ 64) _) hr.units
/-! ### expressions in short: the name that stands in the i-th slot -/
section
variable {X : Cx}
theorem pv (i : Nat) {x : Str} {pos : Pos} (hN : X.N[i]? = some x := by rfl) (hv : Vis X.env.scope x := by first | exact Or.inl rfl | exact Or.inr (Or.inl rfl) | exact Or.inr (Or.inr rfl)) (hd : (x == ("__debug__" : Str)) = false := by decide)
    (hcd : (x == ("__classdict__" : Str)) = false := by decide) : PE X (.Name x pos) (tVar i) := pe_var hN hv hd hcd
end

/-! ### tests -/
theorem iteF {A B : Prop} (h : B) : if false = true then A else B := by
  rw [if_neg Bool.false_ne_true]
  exact h
theorem iteT {A B : Prop} (h : A) : if true = true then A else B := by
  rw [if_pos rfl]
  exact h
theorem ite2 {c A B : Prop} [Decidable c] (h1 : c → A) (h2 : ¬ c → B) : if c then A else B := by
  by_cases h : c
  · rw [if_pos h]
    exact h1 h
  · rw [if_neg h]
    exact h2 h
/-! ### heaps -/
/-- all that was tracked is as it was -/
noncomputable def Same (H H' : Hp) : Prop := ∀ b o, H b = some o → H' b = some o
theorem Same.refl (H : Hp) : Same H H := fun _ _ h => h
theorem Same.trans {H H1 H2 : Hp} (a : Same H H1) (b : Same H1 H2) : Same H H2 := fun c o h => b c o (a c o h)
theorem Same.free {H H' : Hp} (e : Same H H') {l : Addr} (h : H' l = Option.none) : H l = Option.none := by
  cases q : H l with
  | none => rfl
  | some o =>
    rw [e l o q] at h
    cases h
theorem Same.seq {K : PySem.W.Frag} {H H' : Hp} {a : Addr} {xs : List V} (e : Same H H') (h : SqL K H a xs) : SqL K H' a xs := by
  rcases h with (h | ⟨o, h⟩) | h
  · exact .inl (.inl (e _ _ h))
  · exact .inl (.inr ⟨o, e _ _ h⟩)
  · exact .inr h

end L2


namespace L2
open PySem PySem.Spec PyProof.Rows
section
variable {X : Cx}
end
end L2

namespace L2
open PySem PySem.Spec PyProof.Rows

/-! ### a dict's pairs: keys that differ -/
section
variable {κ : Type} [DecidableEq κ]
end
end L2

set_option Elab.async false
set_option linter.all false
set_option maxRecDepth 100000
set_option maxHeartbeats 4000000
/-! comprehensions over the hand layer -/
namespace L2
/-- what is known, taken apart with the goal said once -/
class Elim (P : Prop) (F : outParam (Prop → Prop)) : Prop where
  el : P → ∀ G : Prop, F G → G
noncomputable instance (priority := low) elimBase {P : Prop} : Elim P (fun G => P → G) := ⟨fun h _ k => k h⟩
noncomputable instance elimEx {α : Sort u} {P : α → Prop} {F : α → Prop → Prop} [h : ∀ x, Elim (P x) (F x)] : Elim (∃ x, P x) (fun G => ∀ x, F x G) := ⟨fun ⟨x, hx⟩ G k => (h x).el hx G (k x)⟩
noncomputable instance elimAnd {A B : Prop} {F : Prop → Prop} [h : Elim B F] : Elim (A ∧ B) (fun G => A → F G) := ⟨fun ⟨a, b⟩ G k => h.el b G (k a)⟩
noncomputable instance elimEx2 {α0 α1 : Type} {P : α0 → α1 → Prop} {F : α0 → α1 → Prop → Prop} [i : ∀ x0 x1, Elim (P x0 x1) (F x0 x1)] : Elim (Ex2 P) (fun G => ∀ x0 x1, F x0 x1 G) := ⟨fun ⟨x0, x1, h⟩ G k => (i x0 x1).el h G (k x0 x1)⟩
noncomputable instance elimEx3 {α0 α1 α2 : Type} {P : α0 → α1 → α2 → Prop} {F : α0 → α1 → α2 → Prop → Prop} [i : ∀ x0 x1 x2, Elim (P x0 x1 x2) (F x0 x1 x2)] : Elim (Ex3 P) (fun G => ∀ x0 x1 x2, F x0 x1 x2 G) := ⟨fun ⟨x0, x1, x2, h⟩ G k => (i x0 x1 x2).el h G (k x0 x1 x2)⟩
noncomputable instance elimEx4 {α0 α1 α2 α3 : Type} {P : α0 → α1 → α2 → α3 → Prop} {F : α0 → α1 → α2 → α3 → Prop → Prop} [i : ∀ x0 x1 x2 x3, Elim (P x0 x1 x2 x3) (F x0 x1 x2 x3)] : Elim (Ex4 P) (fun G => ∀ x0 x1 x2 x3, F x0 x1 x2 x3 G) := ⟨fun ⟨x0, x1, x2, x3, h⟩ G k => (i x0 x1 x2 x3).el h G (k x0 x1 x2 x3)⟩
noncomputable instance elimEx5 {α0 α1 α2 α3 α4 : Type} {P : α0 → α1 → α2 → α3 → α4 → Prop} {F : α0 → α1 → α2 → α3 → α4 → Prop → Prop} [i : ∀ x0 x1 x2 x3 x4, Elim (P x0 x1 x2 x3 x4) (F x0 x1 x2 x3 x4)] : Elim (Ex5 P) (fun G => ∀ x0 x1 x2 x3 x4, F x0 x1 x2 x3 x4 G) := ⟨fun ⟨x0, x1, x2, x3, x4, h⟩ G k => (i x0 x1 x2 x3 x4).el h G (k x0 x1 x2 x3 x4)⟩
end L2
namespace L2
open PySem PySem.Spec PyProof.Rows

noncomputable abbrev noE : Value → Shared → Prop := fun _ _ => False
theorem noE_to {α : Type} {M : Model} {A : Around} {t : Sem α} {Q : α → Shared → Prop} {E : Value → Shared → Prop} {s : Shared} (h : wpAny M A t Q noE s) : wpAny M A t Q E s :=
  wpAny_mono h (fun _ _ q => q) fun _ _ z => z.elim

theorem addr_ne {a b : Addr} {n : Nat} (h : a < n) (h' : n ≤ b) : a ≠ b := fun e => absurd (Nat.lt_of_lt_of_le h h') (by rw [e]; exact Nat.lt_irrefl _)
theorem addr_ne' {a b : Addr} {n : Nat} (h : a < n) (h' : n ≤ b) : b ≠ a := fun e => addr_ne h h' e.symm

theorem closure_go (env : Env) : ∀ (names : List (Str × NameKind)) (acc : List (Str × Addr)),
    (∀ y ∈ names, y.2 = .free → ∃ c, env.cells.lookup y.1 = some c) → (∀ n c, acc.lookup n = some c → env.cells.lookup n = some c) →
    ∃ cl, (forIn names acc fun (x : Str × NameKind) (cs : List (Str × Addr)) => (if (x.2 == NameKind.free) = true then do
        let a ← cellOf env x.1
        pure (ForInStep.yield ((x.1, a) :: cs)) else pure (ForInStep.yield cs) : Sem (ForInStep (List (Str × Addr))))) = pure cl ∧
      (∀ n c, cl.lookup n = some c → env.cells.lookup n = some c) ∧ (∀ n c, acc.lookup n = some c → ∃ c', cl.lookup n = some c') ∧ ∀ y ∈ names, y.2 = .free → ∃ c, cl.lookup y.1 = some c
  | [], acc, _, h2 => ⟨acc, rfl, h2, fun _ c h => ⟨c, h⟩, fun _ h => nomatch h⟩
  | (n, k) :: r, acc, h1, h2 => by
    have hr : ∀ y ∈ r, y.2 = .free → ∃ c, env.cells.lookup y.1 = some c := fun y hy => h1 y (List.mem_cons_of_mem _ hy)
    by_cases hk : k = .free
    · subst hk
      obtain ⟨c, hc⟩ := h1 (n, .free) List.mem_cons_self rfl
      obtain ⟨cl, e, p1, p2, p3⟩ := closure_go env r ((n, c) :: acc) hr (fun m d hm => by
        rw [List.lookup_cons] at hm
        by_cases q : m == n
        · rw [q] at hm
          have : m = n := by simpa using q
          subst this
          cases hm
          exact hc
        · have q' : (m == n) = false := by simpa using q
          rw [q'] at hm
          exact h2 m d hm)
      refine ⟨cl, ?_, p1, fun m d hm => ?_, fun y hy hf => ?_⟩
      · rw [List.forIn_cons]
        rw [← e]
        show (cellOf env n >>= fun a => _) >>= _ = _
        unfold cellOf
        rw [hc]
        rfl
      · by_cases q : m = n
        · subst q
          exact p2 m c (by rw [List.lookup_cons]; simp)
        · exact p2 m d (by rw [List.lookup_cons]; simp only [beq_eq_false_iff_ne.mpr q]; exact hm)
      · rcases List.mem_cons.mp hy with rfl | hy
        · exact p2 n c (by rw [List.lookup_cons]; simp)
        · exact p3 y hy hf
    · obtain ⟨cl, e, p1, p2, p3⟩ := closure_go env r acc hr h2
      refine ⟨cl, ?_, p1, p2, fun y hy hf => ?_⟩
      · rw [List.forIn_cons, ← e]
        have hb : (k == NameKind.free) = false := by simpa using hk
        simp only [hb, Bool.false_eq_true, if_false]
        rfl
      · rcases List.mem_cons.mp hy with rfl | hy
        · exact absurd hf hk
        · exact p3 y hy hf
theorem closure_of {scope : Scope} {env : Env} (h : ∀ y ∈ scope.names, y.2 = .free → ∃ c, env.cells.lookup y.1 = some c) :
    ∃ cl, closureFor scope env = pure cl ∧ (∀ n c, cl.lookup n = some c → env.cells.lookup n = some c) ∧ ∀ y ∈ scope.names, y.2 = .free → ∃ c, cl.lookup y.1 = some c := by
  obtain ⟨cl, e, p1, _, p3⟩ := closure_go env scope.names [] h (fun n c h => by simp at h)
  refine ⟨cl, ?_, p1, p3⟩
  unfold closureFor
  refine Eq.trans ?_ (congrArg (fun m => m >>= fun (cs : List (Str × Addr)) => (pure cs : Sem _)) e)
  rfl

noncomputable def testsOf (ifs : List Expr) (env : Env) : Sem Bool := forIn ifs true fun c r => if r = true then do let ok ← isTrue c env (eval c env); pure (ForInStep.yield ok) else pure (ForInStep.yield r)

section
variable {prog : Program} {w : World} {A : Around} {R : Result → Shared → Prop} {s : Shared}
theorem comp_turns {elt target iter : Expr} {ifs : List Expr} {scope : Scope} {pos : Pos} {it acc : Value} {env : Env} (I : Nat → Shared → Prop)
    (turn : ∀ n s, I n s → wpAny (model prog w) A (pyNext it) (fun r s1 => match r with
      | none => R (.ok .next) s1
      | some v => wpAny (model prog w) A (letOwnedTupleGo target it v) (fun _ s1' => wpAny (model prog w) A (assign target env v) (fun _ s2 =>
          wpAny (model prog w) A (testsOf ifs env) (fun ok s3 =>
            if ok = true then wpAny (model prog w) A (eval elt env) (fun x s4 =>
              wpAny (model prog w) A (call (.builtin "list.append") [acc, x]) (fun _ s5 => ∃ m, m < n ∧ I m s5) noE s4) noE s3
            else ∃ m, m < n ∧ I m s3) noE s2) noE s1') noE s1) noE s)
    (n : Nat) (h : I n s) : codeAny (model prog w) A (.compLoop (.ListComp elt [⟨target, iter, ifs, 0⟩] scope pos) 0 it acc env) R s := by
  refine codeAny_loop rfl I (fun n s hI => (show wpAny _ A (Sem.onRaise (compTurn (.ListComp elt [⟨target, iter, ifs, 0⟩] scope pos) 0 it acc env) (fun x => do noteFrame x env; theTreesLotGoes x)) _ _ s from wpAny_noted ?_)) n h
  rw [compTurn_list]
  refine wpAny_bind (wpAny_standAt (wpAny_bind (noE_to (thn (turn n s hI) fun r s1 h1 => ?_))))
  cases r with
  | none => exact wpAny_pure h1
  | some v =>
    refine wpAny_bind (noE_to (thn h1 fun _ s1' h1' => ?_))
    refine wpAny_bind (noE_to (thn h1' fun _ s2 h2 => wpAny_bind (noE_to (thn h2 fun ok s3 h3 => ?_))))
    cases ok with
    | false => exact wpAny_pure ⟨rfl, h3⟩
    | true => exact wpAny_bind (wpAny_bind (noE_to (thn h3 fun x s4 h4 => wpAny_bind (noE_to (thn h4 fun _ s5 h5 => wpAny_pure (wpAny_pure ⟨rfl, h5⟩))))))
end

theorem HOk.adopt {P : Program} {w : World} {H : Hp} {h : Heap} {a : Addr} {o : HO} (x : HOk P w H h) (hn : H a = none) (new : ObjOk P w (upd H a o) h a o) : HOk P w (upd H a o) h := fun b u e => by
  by_cases hb : b = a
  · subst hb; rw [upd_same] at e; cases e; exact new
  · rw [upd_ne hb] at e
    exact (x b u e).stay (fun c v _ q => q) (fun c q => by rw [upd_ne (ne_of_none q hn)]; exact q) fun c xs q => by rw [upd_ne (ne_of_none q hn)]; exact q

/-- what a comprehension's block stands in: Nc its own names, Fc the captured ones, js their places among the names around -/
structure CompOk (X : Cx) (scope : Scope) (Nc Fc : List Str) (js : List Nat) : Prop where
  kind : scope.kind = .function
  nocell : ∀ y ∈ scope.names, y.2 ≠ .cell
  names : ∀ y ∈ scope.names, y.2 = .local → scope.names.lookup y.1 = some .local
  free : ∀ y ∈ scope.names, y.2 = .free → X.env.kindOf y.1 = some .cell ∨ X.env.kindOf y.1 = some .free
  frees : ∀ (k : Nat) (x : Str), Fc[k]? = some x → scope.names.lookup x = some .free ∧ ∃ j, js[k]? = some j ∧ X.N[j]? = some x
  lens : js.length = Fc.length

noncomputable def cvals (σ : St) (js : List Nat) : St := js.map fun j => (σ[j]?).join

noncomputable def cxC (X : Cx) (Nc Fc : List Str) (scope : Scope) (cl : List (Str × Addr)) (C : Addr) (s : Shared) (H : Hp) (fp : List Addr) : Cx :=
  { X with N := Nc ++ Fc, s₀ := s, H₀ := H, env := compEnvC scope cl C X.env, outer := X.stack, stack := X.stack, ex := fp, fn := fun _ => false, pn := [], xe := noE }

theorem relabel_free {env : Env} : ∀ {names : List (Str × NameKind)} {x : Str} {k : NameKind}, (names.map fun (n, k) => if (k == NameKind.free && env.scope.kind == .function && env.kindOf n == some .cell) then (n, NameKind.cell) else (n, k)).lookup x = some k →
    names.lookup x = some k ∨ (k = .cell ∧ names.lookup x = some .free)
  | [], _, _, h => by simp at h
  | (n, k0) :: r, x, k, h => by
    have ih := @relabel_free env r x k
    rw [List.map_cons] at h
    dsimp only at h
    by_cases hx : x = n
    · subst hx
      by_cases hc : (k0 == NameKind.free && env.scope.kind == .function && env.kindOf x == some .cell) = true
      · rw [if_pos hc] at h
        simp only [List.lookup_cons, beq_self_eq_true] at h
        have hk : k0 = .free := by
          have := (Bool.and_eq_true _ _).mp ((Bool.and_eq_true _ _).mp hc).1
          simpa using this.1
        subst hk
        cases h
        exact .inr ⟨rfl, by simp only [List.lookup_cons, beq_self_eq_true]⟩
      · rw [if_neg hc] at h
        simp only [List.lookup_cons, beq_self_eq_true] at h ⊢
        exact .inl h
    · have hb : (x == n) = false := beq_eq_false_iff_ne.mpr hx
      have e : List.lookup x ((if (k0 == NameKind.free && env.scope.kind == .function && env.kindOf n == some .cell) = true then (n, NameKind.cell) else (n, k0)) :: (r.map fun (n, k) => if (k == NameKind.free && env.scope.kind == .function && env.kindOf n == some .cell) then (n, NameKind.cell) else (n, k))) = some k := h
      have e2 : List.lookup x (r.map fun (n, k) => if (k == NameKind.free && env.scope.kind == .function && env.kindOf n == some .cell) then (n, NameKind.cell) else (n, k)) = some k := by
        by_cases hc : (k0 == NameKind.free && env.scope.kind == .function && env.kindOf n == some .cell) = true
        · rw [if_pos hc] at e; simp only [List.lookup_cons, hb] at e; exact e
        · rw [if_neg hc] at e; simp only [List.lookup_cons, hb] at e; exact e
      simp only [List.lookup_cons, hb]
      exact ih e2
theorem relabel_of_free {env : Env} : ∀ {names : List (Str × NameKind)} {x : Str}, names.lookup x = some .free →
    (names.map fun (n, k) => if (k == NameKind.free && env.scope.kind == .function && env.kindOf n == some .cell) then (n, NameKind.cell) else (n, k)).lookup x = some .cell ∨
    (names.map fun (n, k) => if (k == NameKind.free && env.scope.kind == .function && env.kindOf n == some .cell) then (n, NameKind.cell) else (n, k)).lookup x = some .free
  | [], _, h => by simp at h
  | (n, k0) :: r, x, h => by
    have ih := @relabel_of_free env r x
    rw [List.map_cons]
    dsimp only
    by_cases hx : x = n
    · subst hx
      simp only [List.lookup_cons, beq_self_eq_true] at h
      cases h
      by_cases hc : (NameKind.free == NameKind.free && env.scope.kind == .function && env.kindOf x == some .cell) = true
      · rw [if_pos hc]; left; simp only [List.lookup_cons, beq_self_eq_true]
      · rw [if_neg hc]; right; simp only [List.lookup_cons, beq_self_eq_true]
    · have hb : (x == n) = false := beq_eq_false_iff_ne.mpr hx
      simp only [List.lookup_cons, hb] at h
      by_cases hc : (k0 == NameKind.free && env.scope.kind == .function && env.kindOf n == some .cell) = true
      · rw [if_pos hc]; simp only [List.lookup_cons, hb]; exact ih h
      · rw [if_neg hc]; simp only [List.lookup_cons, hb]; exact ih h
theorem mem_of_lookup' : ∀ {l : List (Str × NameKind)} {x : Str} {k : NameKind}, l.lookup x = some k → (x, k) ∈ l := fun h => PySem.mem_of_lookup h

section
variable {X : Cx} {pins : List (Addr × Obj)} {σ : St} {H : Hp} {s : Shared} {scope : Scope} {Nc Fc : List Str} {js : List Nat} {cl : List (Str × Addr)} {C D : Addr} {fp : List Addr}

theorem cxC_kind {x : Str} : (cxC X Nc Fc scope cl C s H fp).env.kindOf x = (scope.names.map fun (n, k) => if (k == NameKind.free && X.env.scope.kind == .function && X.env.kindOf n == some .cell) then (n, NameKind.cell) else (n, k)).lookup x := rfl

theorem cxC_ok (I : Inv X pins σ H s) (c : CompOk X scope Nc Fc js) (hsub : ∀ n c, cl.lookup n = some c → X.env.cells.lookup n = some c) (hhas : ∀ y ∈ scope.names, y.2 = .free → ∃ c, cl.lookup y.1 = some c)
    (hC : s.heap.objs.size ≤ C) (hf : ∀ b ∈ fp, FpOk X pins H b) (ho : ∀ b ∈ fp, ∃ o, s.heap.get? b = some o) : (cxC X Nc Fc scope cl C s H fp).Ok where
  mod := I.ok.mod
  kind := c.kind
  glob := I.ok.glob
  blt := I.ok.blt
  above := hC
  inj := fun x y a h1 h2 => I.ok.inj x y a (hsub _ _ h1) (hsub _ _ h2)
  has := fun x hx => by
    have key : scope.names.lookup x = some .free := by
      rw [cxC_kind] at hx
      rcases hx with h | h
      · rcases relabel_free h with q | ⟨_, q⟩
        · exact absurd rfl (c.nocell _ (mem_of_lookup' q))
        · exact q
      · rcases relabel_free h with q | ⟨q, _⟩
        · exact q
        · cases q
    exact hhas _ (mem_of_lookup' key) rfl
  cab := fun _ _ h => nomatch h
  hd := I.ok.hd
  frames := I.ok.frames
  stk := .inl rfl
  exf := fun b hb => ⟨fun z => by
      obtain ⟨o, e⟩ := ho b hb
      exact addr_ne (Heap.lt_size e) hC z, fun x a e z => (hf b hb).2.2.2.2.1 x a (hsub _ _ e) z⟩
  bs := fun b o e => I.bs b o e
  bsz := Nat.le_trans I.ok.bsz I.sz
  noex := fun b o e hb => by
    rcases (hf b hb).2.2.2.1 with z | z
    · exact I.ok.noex b o e z
    · exact absurd (Nat.lt_of_lt_of_le (Heap.lt_size (I.ok.bs b o e).1) z) (Nat.lt_irrefl _)
  exfs := fun b hb z => by
    rcases List.mem_cons.mp (I.stkSub b z) with q | q
    · exact (hf b hb).2.1 q
    · exact (hf b hb).2.2.1 q
  funs := I.stack
  frf := I.stkFree

/-- the state at the block's entry -/
theorem cxC_inv (I : Inv X pins σ H s) (c : CompOk X scope Nc Fc js) (hsub : ∀ n c, cl.lookup n = some c → X.env.cells.lookup n = some c) (hhas : ∀ y ∈ scope.names, y.2 = .free → ∃ c, cl.lookup y.1 = some c)
    (hC : s.heap.objs.size ≤ C) (hD : s.heap.objs.size ≤ D) (hDC : D ≠ C) (hf : ∀ b ∈ fp, FpOk X pins H b) (ho : ∀ b ∈ fp, ∃ o, s.heap.get? b = some o) {h1 : Heap} {t1 : Nat} {m : Str → Option Value} {ob : Obj}
    (hk : ∀ b o, s.heap.get? b = some o → h1.get? b = some o) (hm : h1.Ns C m) (hob : h1.get? D = some ob) (hnc : ∀ v, ob.data ≠ .cell v) :
    Inv (cxC X Nc Fc scope cl C s H fp) [(D, ob)] (List.replicate Nc.length none ++ cvals σ js) H { s with heap := h1, toks := t1 } := by
  refine ⟨cxC_ok I c hsub hhas hC hf ho, rfl, I.bare, Un.kept hk, ⟨m, hm, fun i x v e1 e2 e3 => ?_⟩, fun x a e => ?_, I.hok.fresh hC, fun x a e => I.freeC x a (hsub x a e), fun p hp => ?_, I.hok.kept hk, ?_⟩
  · have e1 : (Nc ++ Fc)[i]? = some x := e1
    have e2 : (List.replicate Nc.length none ++ cvals σ js)[i]? = some (some v) := e2
    by_cases hi : i < Nc.length
    · rw [List.getElem?_append_left (by simpa using hi), List.getElem?_replicate] at e2
      split at e2 <;> cases e2
    · rw [List.getElem?_append_right (by (first | lia | omega))] at e1
      rw [List.getElem?_append_right (by rw [List.length_replicate]; (first | lia | omega)), List.length_replicate] at e2
      obtain ⟨hfr, j, hj, hN⟩ := c.frees _ _ e1
      have hv : σ[j]? = some (some v) := by
        unfold cvals at e2
        rw [List.getElem?_map, hj] at e2
        have e2 : some ((σ[j]?).join) = some (some v) := e2
        cases q : σ[j]? with
        | none => rw [q] at e2; cases e2
        | some z => rw [q] at e2; cases e2; rfl
      have kx := c.free _ (mem_of_lookup' hfr) rfl
      obtain ⟨m0, hn0, hl0⟩ := I.loc
      have vis : Vis X.env.scope x := by
        rcases kx with k | k
        · exact .inr (.inl k)
        · exact .inr (.inr k)
      obtain ⟨u, ru, lk⟩ := hl0 j x v hN hv vis
      refine ⟨u, ru, .inr ⟨?_, ?_⟩⟩
      · rw [cxC_kind]; exact relabel_of_free hfr
      · obtain ⟨a, ha⟩ := hhas _ (mem_of_lookup' hfr) rfl
        refine ⟨a, ha, ?_⟩
        rcases lk with ⟨k, _⟩ | ⟨_, a', ha', hcell⟩
        · rcases kx with q | q <;> (rw [k] at q; cases q)
        · have e := hsub _ _ ha
          dsimp only at e
          rw [ha'] at e; cases e
          exact hcell.keeps hk
  · obtain ⟨v, z⟩ := I.cell x a (hsub x a e)
    exact ⟨v, z.keeps hk⟩
  · have hp : p = (D, ob) := by
      have : p ∈ [(D, ob)] := hp
      simpa using this
    subst hp
    refine ⟨hob, I.hok.fresh hD, hDC, fun z => ?_, hnc⟩
    have z : D ∈ frs X.stack := z
    rcases List.mem_cons.mp (I.stkSub D z) with q | q
    · exact addr_ne' I.lt hD q
    · exact I.nofs hD q
  · show (List.replicate Nc.length none ++ cvals σ js).length = (Nc ++ Fc).length
    unfold cvals
    rw [List.length_append, List.length_append, List.length_replicate, List.length_map, c.lens]
end

/-- tests of a clause: none, or one -/
noncomputable def PTs (X : Cx) (ifs : List Expr) (t : TT) : Prop :=
  ∀ ⦃pins : List (Addr × Obj)⦄ (s : Shared) (σ : St) (H : Hp) (Q : Bool → Hp → Prop), Inv X pins σ H s → t σ H Q → wpAny (model X.prog X.w) X.A (testsOf ifs X.env) (TP X pins σ Q) X.xe s
noncomputable def tYes : TT := fun _ H Q => Q true H
theorem pts_nil {X : Cx} : PTs X [] tYes := fun _ _ _ H _ I h => wpAny_tests_nil ⟨H, I, h⟩
theorem pts_one {X : Cx} {c : Expr} {t : TT} (h : PT X c t) : PTs X [c] t := fun pins s σ H Q I hw => wpAny_tests_one (h s σ H Q I hw)

/-- the reading: W i m ys H is what holds ahead of turn i, m falls -/
noncomputable def CompW (J : It) (n : Nat) (js : List Nat) (g : TG) (tc : TT) (te : TE) (σ : St) (H1 : Hp) (fin : List V → Hp → Prop) : Prop :=
  ∃ W : Nat → Nat → List V → Hp → Prop, (∃ m, W 0 m [] H1) ∧ ∀ i m ys H, W i m ys H →
    (J.stop i H ∧ fin ys H) ∨
    (J.go i H ∧ ys.length < sizeLine ∧ ∀ x H', J.yld i H x H' → g x (List.replicate n none ++ cvals σ js) H' fun σ2 H2 => tc σ2 H2 fun b H3 =>
      if b = true then te σ2 H3 fun y H4 => ∃ m', m' < m ∧ W (i + 1) m' (ys ++ [y]) H4 else ∃ m', m' < m ∧ W (i + 1) m' ys H3)
noncomputable def tComp (wi : TI) (n : Nat) (js : List Nat) (g : TG) (tc : TT) (te : TE) : TE := fun σ H Q => wi σ H fun J H1 =>
  CompW J n js g tc te σ H1 fun ys H2 => ∀ p, H2 p = none → Q (.ref p) (upd H2 p (.lst ys))

/-- a target that stores below place n alone -/
noncomputable def Gk (n : Nat) (g : TG) : Prop := ∀ x σ H Q, g x σ H Q → g x σ H fun σ' H' => Q σ' H' ∧ (∀ j, n ≤ j → σ'[j]? = σ[j]?) ∧ σ'.length = σ.length
theorem gk_name {n i : Nat} (h : i < n := by decide) : Gk n (gName i) := fun x σ H Q q => ⟨q, fun j hj => List.getElem?_set_ne (by (first | lia | omega)), List.length_set⟩
/-- the block, to the state behind it -/
theorem comp_core {X : Cx} {elt tg iter : Expr} {ifs : List Expr} {scope : Scope} {pos : Pos} {Nc Fc : List Str} {js : List Nat} {wi : TI} {g : TG} {tc : TT} {te : TE} {use : Option (Value → Sem Unit)} {QV : Value → Shared → Prop}
    (hcalm : X.calm = true) (c : CompOk X scope Nc Fc js) (hi : PI X tg iter wi)
    (hg : ∀ cl C s H fp, PG (cxC X Nc Fc scope cl C s H fp) tg g) (htc : ∀ cl C s H fp, PTs (cxC X Nc Fc scope cl C s H fp) ifs tc) (hte : ∀ cl C s H fp, PE (cxC X Nc Fc scope cl C s H fp) elt te) (gk : Gk Nc.length g)
    {pins : List (Addr × Obj)} {s : Shared} {σ : St} {H : Hp} {fin : List V → Hp → Prop} (I : Inv X pins σ H s)
    (h : wi σ H fun J H1 => CompW J Nc.length js g tc te σ H1 fin)
    (behind : ∀ (C D : Addr) (m : Str → Option Value) (ys : List V) (H2 : Hp) (s2 : Shared), Inv X pins σ (upd H2 D (.lst ys)) s2 → s2.heap.Ns C m → FpOk X pins (upd H2 D (.lst ys)) C → H2 D = none → fin ys H2 → compPost (model X.prog X.w) X.A X.xe use QV (.ref D) C (.ok .next) s2)
    (hs : ∀ x, foldedSetIterable iter X.env x = pure x) :
    wpAny (model X.prog X.w) X.A (comprehension (.ListComp elt [⟨tg, iter, ifs, 0⟩] scope pos) scope X.env (firstIterPos [⟨tg, iter, ifs, 0⟩] pos) (newList []) false (eval iter X.env) use) QV X.xe s := by
  obtain ⟨cl, hclos, hsub, hhas⟩ := closure_of (scope := scope) (env := X.env) fun y hy hf => I.ok.has y.1 (c.free y hy hf)
  refine wpAny_comprehension_free (use := use) rfl hs hclos c.kind c.names ?_
  refine thn (hi s σ H _ I h) fun v s1 h1 => thn h1 fun itv s2 h2 => ?_
  obtain ⟨it, fp, tn, J, H2, e, I2, T, st2, f2, W, ⟨m0, w0⟩, turn⟩ := h2
  subst e
  refine wpAny_newObj_type (wpAny_newFunctionEnv c.nocell (by intro y hy; simp at hy) (fun h1 hns1 hsb1 => ?_) c.kind)
  dsimp only at hns1 hsb1 ⊢
  generalize hG : s2.heap.push { cls := .type "list", dict := none, data := .seq ([] : List Value).toArray } = G at hns1 hsb1 ⊢
  have hC : G.objs.size = s2.heap.objs.size + 1 := by rw [← hG, Heap.size_push]
  have hDC : s2.heap.objs.size ≠ G.objs.size := by rw [hC]; exact Nat.ne_of_lt (Nat.lt_succ_self _)
  have hle : s2.heap.objs.size ≤ G.objs.size := by rw [hC]; exact Nat.le_succ _
  have old : ∀ b o, s2.heap.get? b = some o → h1.get? b = some o := fun b o e =>
    hsb1.extBut b o (addr_ne (Heap.lt_size e) hle) (Heap.get?_push_of_some _ (hG ▸ Heap.get?_push_of_some _ e))
  have hacc : h1.PlainList s2.heap.objs.size #[] := ⟨_, hsb1.extBut _ _ hDC (Heap.get?_push_of_some _ (hG ▸ Heap.get?_push_size _ rfl))⟩
  obtain ⟨n0, hacc⟩ := hacc
  have fo : ∀ b ∈ fp, ∃ o, s2.heap.get? b = some o := fun b hb => let ⟨o, e, _⟩ := T.obj 0 _ st2 b hb; ⟨o, e⟩
  have hDfp : ∀ b ∈ fp, b < s2.heap.objs.size := fun b hb => let ⟨o, e⟩ := fo b hb; Heap.lt_size e
  let Xc : Cx := cxC X Nc Fc scope cl G.objs.size s2 H2 fp
  let D : Addr := s2.heap.objs.size
  have stat : ∀ {pl : List (Addr × Obj)} {H' : Hp}, (∀ p ∈ pl, p.1 = D) → (∀ b ∈ fp, H' b = none) → ∀ b ∈ fp, FpOk Xc pl H' b := fun {pl H'} hp hn b hb => by
    refine ⟨hn b hb, ?_, ?_, .inl hb, fun x a e => ?_, fun p hq => ?_⟩
    · exact addr_ne (hDfp b hb) hle
    · exact (cxC_ok I2 c hsub hhas hle f2 fo).exfs b hb
    · exact (f2 b hb).2.2.2.2.1 x a (hsub _ _ e)
    · have q : p ∈ ([] : List (Addr × Obj)) ++ pl := hq
      rw [hp p (by simpa using q)]
      exact addr_ne' (hDfp b hb) (Nat.le_refl _)
  have loop : ∀ t1, codeAny (model X.prog X.w) X.A (.compLoop (.ListComp elt [⟨tg, iter, ifs, 0⟩] scope pos) 0 (.ref it) (.ref s2.heap.objs.size) (compEnvC scope cl G.objs.size X.env))
      (compPost (model X.prog X.w) X.A X.xe use QV (.ref s2.heap.objs.size) G.objs.size) { s2 with heap := h1, toks := t1 } := by
    intro t1
    refine comp_turns (fun n s' => ∃ i ys H' its k, Inv Xc [(D, { cls := .type "list", data := .seq its k })] (List.replicate Nc.length none ++ cvals σ js) H' s' ∧ Vals ys its.toList ∧ ys.length ≤ sizeLine ∧ tn i s'.heap ∧ (∀ b ∈ fp, H' b = none) ∧ W i n ys H') ?_ m0
      ⟨0, [], H2, #[], n0, cxC_inv I2 c hsub hhas hle (Nat.le_refl _) hDC f2 fo old hns1 hacc (fun _ z => nomatch z), .nil, Nat.zero_le _, T.keep _ _ _ st2 (fun b hb o e => old b o e), fun b hb => (f2 b hb).1, w0⟩
    rintro n s3 ⟨i, ys, H3, its, k, I3, rv, hz, st3, fr3, w3⟩
    have onlyD : ∀ p ∈ [(D, ({ cls := .type "list", data := .seq its k } : Obj))], p.1 = D := fun p hp => congrArg Prod.fst (List.mem_singleton.mp hp)
    rcases turn i n ys H3 w3 with ⟨stop, qn⟩ | ⟨go, hlt, step⟩
    · refine thn (T.done Xc rfl rfl rfl hcalm i _ s3 _ H3 noE I3 (stat onlyD fr3) st3 stop) fun r s4 ⟨hr, I4⟩ => ?_
      subst hr
      show compPost _ _ _ _ _ _ _ _ _
      obtain ⟨hDo, hDn, hDne, hDfs, _⟩ := I4.pin (D, _) (List.mem_append_right _ List.mem_cons_self)
      have hDC' : D ≠ G.objs.size := hDC
      obtain ⟨mC, hmC, _⟩ := I4.loc
      have hCn : H3 G.objs.size = none := I4.free
      have neD : ∀ b o, s2.heap.get? b = some o → b ≠ D := fun b o e => Nat.ne_of_lt (Heap.lt_size e)
      have u : Un (frs X.stack) fp H2 H3 s2.heap s4.heap := I4.base
      have hdn2 : H2 D = none := I2.hok.fresh (Nat.le_refl _)
      have u' : Un (frs X.stack) fp H2 (upd H3 D (.lst ys)) s2.heap s4.heap :=
        ⟨u.keep, u.slot, fun b o e n hx => by rw [upd_ne (neD b o e)]; exact u.free b o e n hx, u.there,
         fun b xs e => by rw [upd_ne (ne_of_none e hdn2)]; exact u.tups b xs e, fun b o xs e => by rw [upd_ne (ne_of_none e hdn2)]; exact u.frzs b o xs e,
         fun b ps e => by rw [upd_ne (ne_of_none e hdn2)]; exact u.tbls b ps e⟩
      have hok' : HOk X.prog X.w (upd H3 D (.lst ys)) s4.heap := I4.hok.adopt hDn ⟨hz, its.toList, k, rv, by simpa using hDo⟩
      have hch : ∀ b ∈ fp, (b ∈ X.ex ∨ X.s₀.heap.objs.size ≤ b) ∧ b ≠ X.env.locals ∧ (∀ x c, X.env.cells.lookup x = some c → c ≠ b) ∧ ∀ p ∈ X.pn ++ pins, p.1 ≠ b := fun b hb =>
        ⟨(f2 b hb).2.2.2.1, (f2 b hb).2.1, (f2 b hb).2.2.2.2.1, (f2 b hb).2.2.2.2.2⟩
      have os4 : s4.os = s2.os := I4.os
      have J4 : Inv X pins σ (upd H3 D (.lst ys)) s4 := I2.call' (H' := upd H3 D (.lst ys)) os4 u' hok' I4.bare hch
      refine behind G.objs.size D mC ys H3 s4 J4 hmC (I2.fpOk hle ?_) hDn qn
      rw [upd_ne (Ne.symm hDC')]
      exact hCn
    · refine thn (T.item Xc rfl rfl rfl hcalm i _ s3 _ H3 noE I3 (stat onlyD fr3) st3 go) fun r s4 ⟨u, hr, h4⟩ => ?_
      subst hr
      show wpAny _ _ (letOwnedTupleGo tg (.ref it) u) _ _ _
      refine thn h4 fun _ s5 ⟨x, H5, I5, r5, y5, st5, fr5⟩ => ?_
      have I5' := I5.pinned (stat onlyD fr5) (T.obj _ _ st5)
      refine thn (hg cl G.objs.size s2 H2 fp s5 _ H5 x u _ I5' r5 (gk _ _ _ _ (step x H5 y5))) fun _ s6 ⟨σ6, H6, I6, q6, kσ, kl⟩ => ?_
      refine thn (htc cl G.objs.size s2 H2 fp s6 σ6 H6 _ I6 q6) fun b s7 ⟨H7, I7, q7⟩ => ?_
      have later : ∀ {σ' : St} {H' : Hp} {s' : Shared}, Inv Xc ([(D, ({ cls := .type "list", data := .seq its k } : Obj))] ++ pinsAt fp s5.heap) σ' H' s' → tn (i + 1) s'.heap ∧ ∀ b ∈ fp, H' b = none := fun {σ' H' s'} Iz => by
        refine ⟨T.keep _ _ _ st5 fun b hb o e => (Iz.pin (b, o) (List.mem_append_right _ (List.mem_append_right _ (mem_pinsAt hb e)))).1, fun b hb => ?_⟩
        obtain ⟨o, e, d⟩ := T.obj _ _ st5 b hb
        exact (Iz.pin (b, o) (List.mem_append_right _ (List.mem_append_right _ (mem_pinsAt hb e)))).2.1
      have back : ∀ {pl : List (Addr × Obj)} {H' : Hp} {s' : Shared}, Inv Xc pl σ6 H' s' → Inv Xc pl (List.replicate Nc.length none ++ cvals σ js) H' s' := fun {pl H' s'} Iz => by
        refine Iz.weak (by rw [← kl]) fun j v hj => ?_
        by_cases hn : j < Nc.length
        · rw [List.getElem?_append_left (by simpa using hn), List.getElem?_replicate] at hj
          split at hj <;> cases hj
        · rw [kσ j (by (first | lia | omega))]; exact hj
      cases b with
      | false =>
        rw [if_neg Bool.false_ne_true] at q7 ⊢
        obtain ⟨m', hm', w7⟩ := q7
        obtain ⟨l1, l2⟩ := later I7
        exact ⟨m', hm', i + 1, ys, H7, its, k, back I7.unpinned, rv, hz, l1, l2, w7⟩
      | true =>
        rw [if_pos rfl] at q7 ⊢
        refine thn (hte cl G.objs.size s2 H2 fp s7 σ6 H7 _ I7 q7) fun yv s8 ⟨y, H8, I8, r8, q8⟩ => ?_
        obtain ⟨m', hm', w8⟩ := q8
        obtain ⟨hDo, hDn, hDne, hDfs, _⟩ := I8.pin (D, _) (List.mem_append_right _ (List.mem_append_left _ List.mem_cons_self))
        obtain ⟨l1, l2⟩ := later I8
        have hits : its.size = ys.length := by
          have e1 := rv.length
          simp only [Array.length_toList] at e1
          (first | lia | omega)
        refine wpAny_list_append_plain (hsz := by (first | lia | omega)) ⟨k, hDo⟩ fun h9 hl9 hs9 => ?_
        obtain ⟨k9, hD9⟩ := hl9
        have pinF : ∀ p ∈ pinsAt fp s5.heap, p.1 ≠ D := fun p hp => by
          obtain ⟨hb, _⟩ := of_pinsAt hp
          exact addr_ne (hDfp _ hb) (Nat.le_refl _)
        have I8' : Inv Xc (pinsAt fp s5.heap) σ6 H8 s8 := I8.pins_of fun p hp => I8.pin p (List.mem_append_right _ (List.mem_append_right _ hp))
        have I9 : Inv Xc (pinsAt fp s5.heap) σ6 H8 { s8 with heap := h9, toks := s8.toks } := I8'.turned (it := D) (fun b o hb e => hs9.extBut b o hb e) hDn hDC (.inr (Nat.le_refl _))
          (fun x a e z => by
            obtain ⟨v, q⟩ := I2.cell x a (hsub _ _ e)
            exact addr_ne q.lt (Nat.le_refl _) z) (fun p hp => pinF p (by
              have hp : p ∈ ([] : List (Addr × Obj)) ++ pinsAt fp s5.heap := hp
              simpa using hp))
        obtain ⟨st9, fr9⟩ : tn (i + 1) h9 ∧ ∀ b ∈ fp, H8 b = none := by
          refine ⟨T.keep _ _ _ l1 fun b hb o e => hs9.extBut b o ?_ e, l2⟩
          exact addr_ne (hDfp _ hb) (Nat.le_refl _)
        refine ⟨m', hm', i + 1, ys ++ [y], H8, its.push yv, k9, back (I9.pins_of fun p hp => ?_), ?_, ?_, st9, fr9, w8⟩
        · cases List.mem_singleton.mp hp
          exact ⟨hD9, hDn, hDne, hDfs, fun _ z => nomatch z⟩
        · rw [Array.toList_push]
          exact rv.append (.cons r8 .nil)
        · rw [List.length_append, List.length_singleton]; (first | lia | omega)
  exact codeAny_compStart_list (loop _) (T.self _ 0 _ _ _ (T.keep _ _ _ st2 fun b hb o e => old b o e) (loop _))

theorem pe_lcomp {X : Cx} {elt tg iter : Expr} {ifs : List Expr} {scope : Scope} {pos : Pos} {Nc Fc : List Str} {js : List Nat} {wi : TI} {g : TG} {tc : TT} {te : TE}
    (hcalm : X.calm = true) (c : CompOk X scope Nc Fc js) (hi : PI X tg iter wi) (gk : Gk Nc.length g)
    (hg : ∀ cl C s H fp, PG (cxC X Nc Fc scope cl C s H fp) tg g) (htc : ∀ cl C s H fp, PTs (cxC X Nc Fc scope cl C s H fp) ifs tc) (hte : ∀ cl C s H fp, PE (cxC X Nc Fc scope cl C s H fp) elt te)
    (hs : ∀ x, foldedSetIterable iter X.env x = pure x := by intro _; rfl) :
    PE X (.ListComp elt [⟨tg, iter, ifs, 0⟩] scope pos) (tComp wi Nc.length js g tc te) := by
  intro pins s σ H Q I h
  rw [eval_ListComp]
  refine comp_core (use := none) hcalm c hi hg htc hte gk I h (fun C D m ys H2 s2 I2 hm hC hD q => ?_) hs
  refine ⟨m, hm, fun h' hs' => ?_⟩
  refine ⟨.ref D, _, I2.turned (it := C) (t' := s2.toks) (fun b o hb e => hs'.extBut b o hb e) hC.1 (hC.2.1) hC.2.2.2.1 hC.2.2.2.2.1 hC.2.2.2.2.2, rfl, q D hD⟩
/-- x = [..] in one row: the store comes ahead of the block's end -/
theorem ps_setcomp {X : Cx} {i : Nat} {y : Str} {elt tg iter : Expr} {ifs : List Expr} {scope : Scope} {pos pos' py : Pos} {Nc Fc : List Str} {js : List Nat} {wi : TI} {g : TG} {tc : TT} {te : TE} (hN : X.N.Nodup) (hy : X.N[i]? = some y) (hl : Loc X.env.scope y)
    (hcalm : X.calm = true) (c : CompOk X scope Nc Fc js) (hi : PI X tg iter wi) (gk : Gk Nc.length g)
    (hg : ∀ cl C s H fp, PG (cxC X Nc Fc scope cl C s H fp) tg g) (htc : ∀ cl C s H fp, PTs (cxC X Nc Fc scope cl C s H fp) ifs tc) (hte : ∀ cl C s H fp, PE (cxC X Nc Fc scope cl C s H fp) elt te)
    (hsw : swapsWith (.ListComp elt [⟨tg, iter, ifs, 0⟩] scope pos) (some (.Name y py)) pos'.line X.env = pure true := by rfl)
    (hs : ∀ x, foldedSetIterable iter X.env x = pure x := by intro _; rfl)
    (hf : X.fn y = true ∨ X.env.scope.names.lookup y = some .local := by first | exact .inl rfl | exact .inr rfl | assumption) :
    PS X (.Assign [.Name y py] (.ListComp elt [⟨tg, iter, ifs, 0⟩] scope pos) pos') (tAsg (tComp wi Nc.length js g tc te) (gName i)) := by
  intro pins s σ H E I h
  rw [exec_Assign_Name_used _ _ _ _ hsw]
  refine wpAny_bind (wpAny_standAt (wpAny_bind ?_))
  show wpAny _ X.A (do let _ ← comprehension (.ListComp elt [⟨tg, iter, ifs, 0⟩] scope pos) scope X.env _ (newList []) false (eval iter X.env) (some (assign (.Name y py) X.env))) _ _ s
  refine wpAny_bind (thn (comp_core (use := some (assign (.Name y py) X.env)) (QV := fun _ s' => SP X pins E .next s') hcalm c hi hg htc hte gk I h (fun C D m ys H2 s2 I2 hm hC hD q => ?_) hs) fun _ s' hq => wpAny_pure (wpAny_pure hq))
  show wpAny _ _ (assign (.Name y py) X.env (.ref D)) _ _ s2
  refine wpAny_assign_Name (store_ok2 I2 hN hy hl (v := .ref D) rfl (fun s3 I3 ⟨a, hsa, ha⟩ => ?_) hf)
  have hne : C ≠ a := by
    rcases ha with e | e
    · rw [e]; exact hC.2.1
    · exact fun z => hC.2.2.2.2.1 _ _ e z.symm
  refine ⟨m, hm.at' fun o e => hsa.extBut _ o hne e, fun h' hs' => ?_⟩
  exact ⟨_, _, I3.turned (it := C) (t' := s3.toks) (fun b o hb e => hs'.extBut b o hb e) hC.1 hC.2.1 hC.2.2.2.1 hC.2.2.2.2.1 hC.2.2.2.2.2, q D hD⟩
end L2

set_option Elab.async false
set_option linter.all false
set_option maxRecDepth 100000
set_option maxHeartbeats 4000000
/-! built-in calls over the hand layer -/
namespace L2
open PySem PySem.Spec PyProof.Rows

section
variable {X : Cx} {pins : List (Addr × Obj)} {σ : St} {H : Hp} {s : Shared} {p : Addr} {ys : List V}

/-! the same, K named -/
/-! texts -/
end
end L2

set_option Elab.async false
set_option linter.all false
set_option maxRecDepth 100000
set_option maxHeartbeats 4000000
/-! data in the heap, ==, isinstance, slices of texts, divmod -/
namespace L2
open PySem PySem.Spec PyProof.Rows

mutual
/-- the value tells this data -/
noncomputable def Den (K : PySem.W.Frag) (H : Hp) : PyData → V → Prop
  | .none, v => v = .non
  | .bool b, v => v = .bl b
  | .int i, v => v = .int i
  | .str x, v => v = .str x
  | .list ds, v => Ex2 fun a vs => v = .ref a ∧ SqL K H a vs ∧ Dens K H ds vs
  | .tuple ds, v => Ex2 fun a vs => v = .ref a ∧ SqT K H a vs ∧ Dens K H ds vs
  | .dict _, _ => False
noncomputable def Dens (K : PySem.W.Frag) (H : Hp) : List PyData → List V → Prop
  | [], vs => vs = []
  | d :: ds, vs => Ex2 fun v r => vs = v :: r ∧ Den K H d v ∧ Dens K H ds r
end

theorem Same.seqT {K : PySem.W.Frag} {H H' : Hp} {a : Addr} {xs : List V} (e : Same H H') (h : SqT K H a xs) : SqT K H' a xs := by
  rcases h with (h | ⟨o, h⟩) | h
  · exact .inl (.inl (e _ _ h))
  · exact .inl (.inr ⟨o, e _ _ h⟩)
  · exact .inr h
mutual
theorem Den.same {K : PySem.W.Frag} {H H' : Hp} (e : Same H H') : ∀ {d : PyData} {v : V}, Den K H d v → Den K H' d v
  | .none, _, h => by unfold Den at h ⊢; exact h
  | .bool _, _, h => by unfold Den at h ⊢; exact h
  | .int _, _, h => by unfold Den at h ⊢; exact h
  | .str _, _, h => by unfold Den at h ⊢; exact h
  | .list ds, _, h => by
    unfold Den at h ⊢
    obtain ⟨a, vs, h1, h2, h3⟩ := h
    exact ⟨a, vs, h1, e.seq h2, Dens.same e h3⟩
  | .tuple ds, _, h => by
    unfold Den at h ⊢
    obtain ⟨a, vs, h1, h2, h3⟩ := h
    exact ⟨a, vs, h1, e.seqT h2, Dens.same e h3⟩
  | .dict _, _, h => by unfold Den at h; exact h.elim
theorem Dens.same {K : PySem.W.Frag} {H H' : Hp} (e : Same H H') : ∀ {ds : List PyData} {vs : List V}, Dens K H ds vs → Dens K H' ds vs
  | [], _, h => by unfold Dens at h ⊢; exact h
  | d :: ds, _, h => by
    unfold Dens at h ⊢
    obtain ⟨v, r, h1, h2, h3⟩ := h
    exact ⟨v, r, h1, Den.same e h2, Dens.same e h3⟩
end
mutual
theorem Den.reads {X : Cx} {pins : List (Addr × Obj)} {σ : St} {H : Hp} {s : Shared} (I : Inv X pins σ H s) : ∀ {d : PyData} {v : V} {u : Value}, Den X.K H d v → RelV v u → ∃ as, Reads s.heap u d as
  | .none, _, _, h, r => by unfold Den at h; subst h; cases r; exact ⟨_, .none⟩
  | .bool _, _, _, h, r => by unfold Den at h; subst h; cases r; exact ⟨_, .bool _⟩
  | .int _, _, _, h, r => by unfold Den at h; subst h; obtain ⟨t, rfl⟩ := r; exact ⟨_, .int _ _⟩
  | .str _, _, _, h, r => by unfold Den at h; subst h; obtain ⟨t, rfl⟩ := r; exact ⟨_, .str _ _⟩
  | .list ds, _, _, h, r => by
    unfold Den at h
    obtain ⟨a, vs, rfl, h2, h3⟩ := h
    cases r
    obtain ⟨its, rv, ⟨o, n, e1, e2, _, e4⟩, _⟩ := I.list h2
    obtain ⟨as, q⟩ := Dens.reads I h3 rv
    exact ⟨_, .list e1 e2 e4 (by simpa using q)⟩
  | .tuple ds, _, _, h, r => by
    unfold Den at h
    obtain ⟨a, vs, rfl, h2, h3⟩ := h
    cases r
    obtain ⟨its, rv, ⟨o, e1, e2, n, e4⟩, _⟩ := I.tuple h2
    obtain ⟨as, q⟩ := Dens.reads I h3 rv
    exact ⟨_, .tuple e1 e2 e4 (by simpa using q)⟩
  | .dict _, _, _, h, _ => by unfold Den at h; exact h.elim
theorem Dens.reads {X : Cx} {pins : List (Addr × Obj)} {σ : St} {H : Hp} {s : Shared} (I : Inv X pins σ H s) : ∀ {ds : List PyData} {vs : List V} {us : List Value}, Dens X.K H ds vs → Vals vs us → ∃ as, ReadsAll s.heap us ds as
  | [], _, _, h, r => by unfold Dens at h; subst h; cases r; exact ⟨_, .nil⟩
  | d :: ds, _, _, h, r => by
    unfold Dens at h
    obtain ⟨v, q, rfl, h2, h3⟩ := h
    cases r with
    | cons r1 r2 =>
      obtain ⟨as, q1⟩ := Den.reads I h2 r1
      obtain ⟨bs, q2⟩ := Dens.reads I h3 r2
      exact ⟨_, .cons q1 q2⟩
end
section
variable {X : Cx}
open PySem.SeqAt in
theorem op_eqD (hu : X.A.units + 64 < cLine) : OpR X (compareOp .Eq) (fun x y H Q => ∃ d e, Den X.K H d x ∧ Den X.K H e y ∧ shaped d = true ∧ shaped e = true ∧ Q (.bl (PyData.eqv d e)) H) := by
  intro pins s σ H x y v u Q I rx ry h
  obtain ⟨d, e, hd, he, sd, se, q⟩ := h
  obtain ⟨as, r1⟩ := hd.reads I rx
  obtain ⟨bs, r2⟩ := he.reads I ry
  exact eq_dataH r1 r2 sd se hu ⟨.bl _, H, I, rfl, q⟩
open PySem.SeqAt in
theorem op_neD (hu : X.A.units + 64 < cLine) : OpR X (compareOp .NotEq) (fun x y H Q => ∃ d e, Den X.K H d x ∧ Den X.K H e y ∧ shaped d = true ∧ shaped e = true ∧ Q (.bl (!PyData.eqv d e)) H) := by
  intro pins s σ H x y v u Q I rx ry h
  obtain ⟨d, e, hd, he, sd, se, q⟩ := h
  obtain ⟨as, r1⟩ := hd.reads I rx
  obtain ⟨bs, r2⟩ := he.reads I ry
  exact ne_dataH r1 r2 sd se hu ⟨.bl _, H, I, rfl, q⟩

/-! isinstance -/
/-! a slice of a text -/
theorem sl_str : SlR X (fun x lo hi H Q => ∃ z, x = .str z ∧ z.length ≤ sizeLine ∧ Q (.str (Txt.slice z lo hi)) H) := by
  intro pins s σ H x v vl vu lo hi sl Q I rx hs pl pu q
  obtain ⟨z, rfl, hz, q⟩ := q
  obtain ⟨t, rfl⟩ := rx
  refine ⟨"str", _, F.slot_str_getitem.lookup, typeIs_str _ _ _, ?_⟩
  have fin : ∀ t' k, EP X pins σ Q (.str (Txt.slice z lo hi) t') { s with toks := k } := fun t' k => ⟨.str _, H, I.tok _, ⟨_, rfl⟩, q⟩
  cases pl with
  | none =>
    cases pu with
    | none => exact wpAny_getItem_str_slice (l := none) (u := none) (st := none) hs rfl (post_val_or_str ⟨Nat.le_trans (Txt.slice_le z _ _) hz, fin⟩)
    | int j uj => exact wpAny_getItem_str_slice (l := none) (u := some (j, uj)) (st := none) hs rfl (post_val_or_str ⟨Nat.le_trans (Txt.slice_le z _ _) hz, fin⟩)
  | int i ui =>
    cases pu with
    | none => exact wpAny_getItem_str_slice (l := some (i, ui)) (u := none) (st := none) hs rfl (post_val_or_str ⟨Nat.le_trans (Txt.slice_le z _ _) hz, fin⟩)
    | int j uj => exact wpAny_getItem_str_slice (l := some (i, ui)) (u := some (j, uj)) (st := none) hs rfl (post_val_or_str ⟨Nat.le_trans (Txt.slice_le z _ _) hz, fin⟩)

end
end L2

set_option Elab.async false
set_option linter.all false
set_option maxRecDepth 100000
set_option maxHeartbeats 4000000
/-! zip and enumerate over lists -/
namespace L2
open PySem PySem.Spec PyProof.Rows

section
variable {X : Cx} {pins : List (Addr × Obj)} {σ : St} {H : Hp} {s : Shared} {h' : Heap}
end

section
variable {X : Cx}
end
end L2

set_option Elab.async false
set_option linter.all false
set_option maxRecDepth 100000
set_option maxHeartbeats 4000000
/-! enumerate of a list -/
namespace L2
open PySem PySem.Spec PyProof.Rows

section
variable {X : Cx}
end
end L2

set_option Elab.async false
set_option linter.all false
set_option maxRecDepth 100000
set_option maxHeartbeats 4000000
/-! rules that do not ask for the kinds, calls of own defs, loops by turns -/
namespace L2
open PySem PySem.Spec PyProof.Rows

section
variable {X : Cx}
noncomputable def rAddA : R2 := fun x y H Q => (Ex2 fun i j => x = .int i ∧ y = .int j ∧ Q (.int (i + j)) H) ∨ (∃ i j, x = .str i ∧ y = .str j ∧ i.length + j.length ≤ sizeLine ∧ Q (.str (i ++ j)) H) ∨ rCat x y H Q
theorem g_add : OpR X (binaryOp .Add) rAddA := op_add.or (op_add_str.or op_cat)
noncomputable def rMulA : R2 := fun x y H Q => (Ex2 fun i j => x = .int i ∧ y = .int j ∧ CMul i j ∧ Q (.int (i * j)) H) ∨ rRep x y H Q
theorem g_mul : OpR X (binaryOp .Mult) rMulA := op_mul.or op_rep
/-- an own def, as callers use it -/
structure Fn (P : Program) (w : World) (K : PySem.W.Frag) (mg : Str → Option Value) (base : Heap) (k : Nat) (x : Str) (ps : List Str) (sp : Sp) : Prop where
  ex : ∃ f fd, FnOk P w K mg base CX0 k f fd ps sp ∧ Binds K fd ps [] ∧ PySem.W.keepIn K (.ref f) = true ∧ mg x = some (.ref f)
theorem Fn.mono {P : Program} {w : World} {K : PySem.W.Frag} {mg : Str → Option Value} {base : Heap} {j k : Nat} {x : Str} {ps : List Str} {sp : Sp} (F : Fn P w K mg base j x ps sp) (h : j ≤ k) : Fn P w K mg base k x ps sp := by
  obtain ⟨f, fd, a, b, c, d⟩ := F.ex
  exact ⟨f, fd, a.mono h, b, c, d⟩
theorem pe_fn {k : Nat} {x : Str} {ps : List Str} {sp : Sp} {p pos : Pos} {e : Expr} {es : List Expr} {t : TA} (F : Fn X.prog X.w X.K X.mg X.base k x ps sp) (hr : Room k X.A) (hg : Gl X x)
    (ha : PA X (e :: es) t) (hdb : (x == ("__debug__" : Str)) = false := by decide) (he : starEach (e :: es) X.env = (false, eval e X.env) :: starEach es X.env := by rfl) (hpl : (backTo pos (starEach es X.env)).any (·.1) = false := by rfl) :
    PE X (.Call (.Name x p) (e :: es) [] pos) (tCall sp [] E0 t) := by
  obtain ⟨f, fd, a, b, c, d⟩ := F.ex
  exact pe_call a hr hg d c b .nil pass0 ha hdb he hpl
end

/-- the closed look at a comprehension's scope -/
noncomputable def compChk (pn sn : List (Str × NameKind)) (N Fc : List Str) (js : List Nat) : Bool :=
  sn.all (fun y => y.2 != .cell) && sn.all (fun y => y.2 != .local || sn.lookup y.1 == some .local) && sn.all (fun y => y.2 != .free || pn.lookup y.1 == some .cell || pn.lookup y.1 == some .free) && js.length == Fc.length &&
  (List.range Fc.length).all fun k => match Fc[k]?, js[k]? with
    | some x, some j => sn.lookup x == some .free && N[j]? == some x
    | _, _ => false
theorem comp_ok {X : Cx} {scope : Scope} {Nc Fc : List Str} {js : List Nat} (hk : scope.kind = .function := by rfl) (h : compChk X.env.scope.names scope.names X.N Fc js = true := by rfl) : CompOk X scope Nc Fc js := by
  unfold compChk at h
  simp only [Bool.and_eq_true, List.all_eq_true, Bool.or_eq_true, bne_iff_ne, beq_iff_eq, ne_eq] at h
  obtain ⟨⟨⟨⟨h1, h2⟩, h3⟩, h4⟩, h5⟩ := h
  refine ⟨hk, h1, fun y hy hl => (h2 y hy).resolve_left (fun z => z hl), fun y hy hf => ?_, fun k x hx => ?_, h4⟩
  · rcases h3 y hy with (z | z) | z
    · exact absurd hf z
    · exact .inl z
    · exact .inr z
  · have hk' : k < Fc.length := (List.getElem?_eq_some_iff.mp hx).1
    have q := h5 k (List.mem_range.mpr hk')
    have hj : k < js.length := by (first | lia | omega)
    rw [hx, List.getElem?_eq_getElem hj] at q
    simp only [Bool.and_eq_true, beq_iff_eq] at q
    exact ⟨q.1, _, List.getElem?_eq_getElem hj, q.2⟩
end L2
namespace L2
open PySem PySem.Spec PyProof.Rows
section
variable {X : Cx}
theorem g_eq (hu : X.A.units + 64 < cLine) : OpR X (compareOp .Eq) (fun x y H Q => rEq x y H Q ∨ (∃ d e, Den X.K H d x ∧ Den X.K H e y ∧ SeqAt.shaped d = true ∧ SeqAt.shaped e = true ∧ Q (.bl (PyData.eqv d e)) H)) := op_eq.or (op_eqD hu)
theorem g_ne (hu : X.A.units + 64 < cLine) : OpR X (compareOp .NotEq) (fun x y H Q => rNe x y H Q ∨ (∃ d e, Den X.K H d x ∧ Den X.K H e y ∧ SeqAt.shaped d = true ∧ SeqAt.shaped e = true ∧ Q (.bl (!PyData.eqv d e)) H)) := op_ne.or (op_neD hu)
theorem g_sl : SlR X (fun x lo hi H Q => rSlL X.K x lo hi H Q ∨ (∃ z, x = .str z ∧ z.length ≤ sizeLine ∧ Q (.str (Txt.slice z lo hi)) H)) := sl_list.or sl_str
/-- the built-in names that no def of the text hides -/
structure Nm (mg : Str → Option Value) : Prop where
  n_len : mg "len" = none
  n_range : mg "range" = none
  n_max : mg "max" = none
  n_min : mg "min" = none
  n_sum : mg "sum" = none
  n_all : mg "all" = none
  n_any : mg "any" = none
  n_list : mg "list" = none
  n_tuple : mg "tuple" = none
  n_int : mg "int" = none
  n_str : mg "str" = none
  n_bool : mg "bool" = none
  n_zip : mg "zip" = none
  n_enumerate : mg "enumerate" = none
  n_isinstance : mg "isinstance" = none
  n_divmod : mg "divmod" = none
end
end L2

set_option Elab.async false
set_option linter.all false
set_option maxRecDepth 100000
set_option maxHeartbeats 4000000
/-! the same rules with the text's own objects K named (inside a comprehension no hole may hang on the block) -/
namespace L2
open PySem PySem.Spec PyProof.Rows
/-- a comprehension of N turns by what holds ahead of turn i; Nx is what is to be reached behind it -/
theorem comp_go {J : It} {n : Nat} {js : List Nat} {g : TG} {tc : TT} {te : TE} {σ : St} {H1 : Hp} {fin : List V → Hp → Prop} (N : Nat) (Pv : Nat → List V → Hp → Prop) (h0 : Pv 0 [] H1)
    (go : ∀ i ys H (Nx : List V → Hp → Prop), i < N → Pv i ys H → (∀ ys' H', Pv (i + 1) ys' H' → Nx ys' H') → J.go i H ∧ ys.length < sizeLine ∧
      ∀ x H', J.yld i H x H' → g x (List.replicate n none ++ cvals σ js) H' fun σ2 H2 => tc σ2 H2 fun b H3 => if b = true then te σ2 H3 fun y H4 => Nx (ys ++ [y]) H4 else Nx ys H3)
    (stop : ∀ ys H, Pv N ys H → J.stop N H ∧ fin ys H) : CompW J n js g tc te σ H1 fin := by
  refine ⟨fun i m ys H => m = N - i ∧ i ≤ N ∧ Pv i ys H, ⟨N, by simp, Nat.zero_le _, h0⟩, ?_⟩
  rintro i m ys H ⟨rfl, hi, p⟩
  by_cases hlt : i < N
  · exact .inr (go i ys H (fun ys' H' => ∃ m', m' < N - i ∧ (m' = N - (i + 1) ∧ i + 1 ≤ N ∧ Pv (i + 1) ys' H')) hlt p fun ys' H' q => ⟨_, by (first | lia | omega), rfl, hlt, q⟩)
  · have e : i = N := by (first | lia | omega)
    subst e
    exact .inl (stop ys H p)
section
variable {X : Cx} (K : PySem.W.Frag)
theorem ixK (hK : X.K = K := by rfl) : IxR X (rIx K) := by subst hK; exact ix_seq
theorem lenK (hK : X.K = K := by rfl) : CallR X (.builtin "len") (fun xs H Q => ∃ x n, xs = [x] ∧ LenV K x H n ∧ Q (.int n) H) := by subst hK; exact call_len
theorem piK {tg l : Expr} {tl : TE} (hl : PE X l tl) (hK : X.K = K := by rfl) : PI X tg l (iList K tl) := by subst hK; exact pi_list hl
theorem tupK {pos : Pos} {es : List Expr} {k : Nat} {t : TGs} (n : Nat) (hc : X.calm = true) (h : PGs X es t) (hn : (assignEach es X.env).length = n := by rfl) (hst : (assignEach es X.env).findIdx? (·.1) = none := by rfl) (hK : X.K = K := by rfl) : PG X (.Tuple es k pos) (gTup K n t) := by subst hK; exact pg_tup hc h hn hst
theorem bmK {o e : Expr} {es : List Expr} {to : TE} {t : TA} {name : Str} {apos cpos : Pos} {T id : String} {r : V → List V → Hp → VK → Prop} (pa : PlainAttrs T) (slot : Slot T name id) (hty : typeOf (.builtin id) = pure (.type "method_descriptor")) (hm : MtR X id r) (ho : PE X o to) (ha : PA X (e :: es) t)
    (hbase : attributeBase o name X.env (eval o X.env) = eval o X.env := by rfl)
    (hfew : ((backTo cpos (starEach (e :: es) X.env)).all (fun x => !x.1) && (backToKw cpos (keywordEach [] X.env)).all (fun x => x.1.isSome)
      && decide ((e :: es).length + ([] : List Keyword).length + (if ([] : List Keyword).isEmpty then 0 else 1) < 30)) = true := by rfl)
    (hline : (apos.endLine == cpos.line) = true := by rfl) (hs : starEach (e :: es) X.env = (false, eval e X.env) :: starEach es X.env := by rfl) (hplain : (backTo cpos (starEach es X.env)).any (·.1) = false := by rfl) (hK : X.K = K := by rfl) :
    PE X (.Call (.Attribute o name apos) (e :: es) [] cpos) (tBM K T r to t) := by subst hK; exact pe_bm pa slot hty hm ho ha hbase hfew hline hs hplain
theorem eqK (hu : X.A.units + 64 < cLine) (hK : X.K = K := by rfl) : OpR X (compareOp .Eq) (fun x y H Q => rEq x y H Q ∨ (∃ d e, Den K H d x ∧ Den K H e y ∧ SeqAt.shaped d = true ∧ SeqAt.shaped e = true ∧ Q (.bl (PyData.eqv d e)) H)) := by subst hK; exact g_eq hu
theorem neK (hu : X.A.units + 64 < cLine) (hK : X.K = K := by rfl) : OpR X (compareOp .NotEq) (fun x y H Q => rNe x y H Q ∨ (∃ d e, Den K H d x ∧ Den K H e y ∧ SeqAt.shaped d = true ∧ SeqAt.shaped e = true ∧ Q (.bl (!PyData.eqv d e)) H)) := by subst hK; exact g_ne hu
end
end L2

set_option Elab.async false
set_option linter.all false
set_option maxRecDepth 100000
set_option maxHeartbeats 4000000
/-! list(it) of anything that hands out items: what it must promise (Feed), and the list that comes of it -/
namespace L2
open PySem PySem.Spec PyProof.Rows

section
variable {prog : Program} {w : World} {A : Around} {it S : Addr} {T : String} {fp : Addr → Prop} {n : Nat} {P : Nat → Value → Heap → Prop} {R : Value → Value → Prop} {St : Nat → Heap → Prop}
end
end L2

set_option Elab.async false
set_option linter.all false
set_option maxRecDepth 100000
set_option maxHeartbeats 4000000
/-! zip of two lists as a Feed: every pair that it has handed out is still held, so it lays a new one each turn -/
namespace L2
open PySem PySem.Spec PyProof.Rows

section
variable {prog : Program} {w : World} {A : Around} {E : Value → Shared → Prop} {s : Shared} {z TI TO i1 i2 l1 l2 a : Addr} {f : Bool} {oa : Obj}
end
end L2

set_option Elab.async false
set_option linter.all false
set_option maxRecDepth 100000
set_option maxHeartbeats 4000000
/-! list(zip(a, b)) over the hand layer -/
namespace L2
open PySem PySem.Spec PyProof.Rows

section
variable {X : Cx}
end
end L2

set_option Elab.async false
set_option linter.all false
set_option maxRecDepth 100000
set_option maxHeartbeats 4000000
/-! the rules that lay or change an object, with the heap behind them as a letter -/
namespace L2
open PySem PySem.Spec PyProof.Rows
structure New (H : Hp) (p : Addr) (o : HO) (H' : Hp) : Prop where
  nn : H p = none
  eq : H' = upd H p o
theorem New.at {H H' : Hp} {p : Addr} {o : HO} (n : New H p o H') : H' p = some o := by rw [n.eq]; exact upd_same
theorem New.ne {H H' : Hp} {p a : Addr} {o : HO} (n : New H p o H') (h : a ≠ p) : H' a = H a := by rw [n.eq]; exact upd_ne h
theorem New.same {H H' : Hp} {p : Addr} {o : HO} (n : New H p o H') : Same H H' := fun a u e => by rw [n.ne (ne_of_none e n.nn)]; exact e
structure Chg (H : Hp) (p : Addr) (o : HO) (H' : Hp) : Prop where
  eq : H' = upd H p o
theorem Chg.at {H H' : Hp} {p : Addr} {o : HO} (n : Chg H p o H') : H' p = some o := by rw [n.eq]; exact upd_same
theorem Chg.ne {H H' : Hp} {p a : Addr} {o : HO} (n : Chg H p o H') (h : a ≠ p) : H' a = H a := by rw [n.eq]; exact upd_ne h
theorem new_all {H : Hp} {o : HO} {F : Addr → Hp → Prop} : (∀ p, H p = none → F p (upd H p o)) = ∀ p H', New H p o H' → F p H' :=
  propext ⟨fun h p H' n => by rw [n.eq]; exact h p n.nn, fun h p hp => h p _ ⟨hp, rfl⟩⟩
theorem chg_all {H : Hp} {p : Addr} {o : HO} {F : Hp → Prop} : F (upd H p o) = ∀ H', Chg H p o H' → F H' :=
  propext ⟨fun h H' n => by rw [n.eq]; exact h, fun h => h _ ⟨rfl⟩⟩
section
variable {X : Cx} {pos : Pos} {es : List Expr} {t : TA}
noncomputable def tTupN (t : TA) : TE := fun σ H Q => t σ H fun xs H1 => xs.length ≤ sizeLine ∧ ∀ p H', New H1 p (.tup xs) H' → Q (.ref p) H'
noncomputable def tLstN (t : TA) : TE := fun σ H Q => t σ H fun xs H1 => xs.length ≤ sizeLine ∧ ∀ p H', New H1 p (.lst xs) H' → Q (.ref p) H'
theorem tupN {x1} (h : PA X es t) : PE X (.Tuple es x1 pos) (tTupN t) := by
  have e : tTupN t = tTup t := by
    funext σ H Q
    show t σ H _ = t σ H _
    congr 1; funext xs H1
    exact congrArg (_ ∧ ·) (new_all (F := fun p H' => Q (.ref p) H')).symm
  rw [e]; exact pe_tup h
theorem lstN (h : PA X es t) : PE X (.List es pos) (tLstN t) := by
  have e : tLstN t = tLst t := by
    funext σ H Q
    show t σ H _ = t σ H _
    congr 1; funext xs H1
    exact congrArg (_ ∧ ·) (new_all (F := fun p H' => Q (.ref p) H')).symm
  rw [e]; exact pe_lst h
noncomputable def tDispN (trs : List (TE × TE)) : TE := fun σ H Q => ∀ p H0, New H p (.dK []) H0 → tPairs trs σ H0 fun ps H2 => H2 p = some (.dK []) ∧ ∃ kvs : List (Key × V), ps = kvs.map (fun kv => (kV kv.1, kv.2)) ∧ kvs.length ≤ 15 ∧ ∀ H3, Chg H2 p (.dK (mergeK [] kvs)) H3 → Q (.ref p) H3
theorem dispN {keys : List (Option Expr)} {values : List Expr} {trs : List (TE × TE)} (h : PPs X pos keys values trs) (hall : keys.all (·.isSome) = true) (hl : keys.length = values.length) (h0 : keys ≠ [])
    (h15 : keys.length ≤ 15) : PE X (.Dict keys values pos) (tDispN trs) := by
  have e : tDispN trs = tDisp trs := by
    funext σ H Q
    unfold tDispN tDisp
    rw [new_all (F := fun p H0 => tPairs trs σ H0 fun ps H2 => H2 p = some (.dK []) ∧ ∃ kvs : List (Key × V), ps = kvs.map (fun kv => (kV kv.1, kv.2)) ∧ kvs.length ≤ 15 ∧ Q (.ref p) (upd H2 p (.dK (mergeK [] kvs))))]
    simp only [← chg_all (F := fun H3 => Q (.ref _) H3)]
  rw [e]; exact pe_disp h hall hl h0 h15
end
section
variable {X : Cx} (K : PySem.W.Frag)
/-- x[lo:hi] of a list or a text -/
noncomputable def rSlN (K : PySem.W.Frag) : V → Option Int → Option Int → Hp → VK → Prop := fun x lo hi H Q => (Ex2 fun a xs => x = .ref a ∧ SqL K H a xs ∧ ∀ p H', New H p (.lst (cutV xs lo hi)) H' → Q (.ref p) H') ∨ (∃ z, x = .str z ∧ z.length ≤ sizeLine ∧ Q (.str (Txt.slice z lo hi)) H)
theorem slN (hK : X.K = K := by rfl) : SlR X (rSlN K) := by
  subst hK
  intro pins s σ H x v vl vu lo hi sl Q I rx hs pl pu q
  refine g_sl s σ H x v vl vu lo hi sl Q I rx hs pl pu ?_
  rcases q with ⟨a, xs, e, h, q⟩ | q
  · exact .inl ⟨a, xs, e, h, fun p hp => q p _ ⟨hp, rfl⟩⟩
  · exact .inr q
theorem listN (hK : X.K = K := by rfl) : CallR X (.type "list") (fun xs H Q => ∃ p ys, xs = [.ref p] ∧ (SqL K H p ys ∨ SqT K H p ys) ∧ ∀ l H', New H l (.lst ys) H' → Q (.ref l) H') := by
  subst hK
  intro pins s σ H xs us Q I r h
  obtain ⟨p, ys, e, h, q⟩ := h
  exact call_list_of s σ H xs us Q I r ⟨p, ys, e, h, fun l hl => q l _ ⟨hl, rfl⟩⟩
theorem tupleN (hK : X.K = K := by rfl) : CallR X (.type "tuple") (fun xs H Q => ∃ p ys, xs = [.ref p] ∧ ((SqL K H p ys ∧ ∀ l H', New H l (.tup ys) H' → Q (.ref l) H') ∨ (SqT K H p ys ∧ Q (.ref p) H))) := by
  subst hK
  intro pins s σ H xs us Q I r h
  obtain ⟨p, ys, e, h⟩ := h
  refine call_tuple_of s σ H xs us Q I r ⟨p, ys, e, ?_⟩
  rcases h with ⟨h, q⟩ | h
  · exact .inl ⟨h, fun l hl => q l _ ⟨hl, rfl⟩⟩
  · exact .inr h
end
section
variable {X : Cx}
noncomputable def rAddN : R2 := fun x y H Q => (Ex2 fun i j => x = .int i ∧ y = .int j ∧ Q (.int (i + j)) H) ∨ (∃ i j, x = .str i ∧ y = .str j ∧ i.length + j.length ≤ sizeLine ∧ Q (.str (i ++ j)) H) ∨
  Ex4 fun l b xs zs => x = .ref l ∧ y = .ref b ∧ H l = some (.lst xs) ∧ H b = some (.lst zs) ∧ xs.length + zs.length ≤ sizeLine ∧ ∀ p H', New H p (.lst (xs ++ zs)) H' → Q (.ref p) H'
theorem addN : OpR X (binaryOp .Add) rAddN := by
  intro pins s σ H x y v u Q I rx ry h
  refine g_add s σ H x y v u Q I rx ry ?_
  rcases h with h | h | ⟨l, b, xs, zs, e1, e2, h1, h2, h3, q⟩
  · exact .inl h
  · exact .inr (.inl h)
  · exact .inr (.inr ⟨l, b, xs, zs, e1, e2, h1, h2, h3, fun p hp => q p _ ⟨hp, rfl⟩⟩)
noncomputable def rMulN : R2 := fun x y H Q => (Ex2 fun i j => x = .int i ∧ y = .int j ∧ CMul i j ∧ Q (.int (i * j)) H) ∨
  Ex3 fun l k xs => x = .ref l ∧ y = .int k ∧ H l = some (.lst xs) ∧ -(2 ^ 63) ≤ k ∧ k < 2 ^ 63 ∧ xs.length * k.toNat ≤ sizeLine ∧ ∀ p H', New H p (.lst (List.replicate k.toNat xs).flatten) H' → Q (.ref p) H'
theorem mulN : OpR X (binaryOp .Mult) rMulN := by
  intro pins s σ H x y v u Q I rx ry h
  refine g_mul s σ H x y v u Q I rx ry ?_
  rcases h with h | ⟨l, k, xs, e1, e2, h1, h2, h3, h4, q⟩
  · exact .inl h
  · exact .inr ⟨l, k, xs, e1, e2, h1, h2, h3, h4, fun p hp => q p _ ⟨hp, rfl⟩⟩
theorem divmodN : CallR X (.builtin "divmod") (fun xs H Q => ∃ i j, xs = [.int i, .int j] ∧ CDiv i j ∧ ∀ p H', New H p (.tup [.int (i / j), .int (i % j)]) H' → Q (.ref p) H') := by
  intro pins s σ H xs us Q I r h
  obtain ⟨i, j, e, c, q⟩ := h
  exact call_divmod s σ H xs us Q I r ⟨i, j, e, c, fun p hp => q p _ ⟨hp, rfl⟩⟩
theorem appendN : MtM X "list.append" (fun x vs H Q => ∃ l xs y, x = .ref l ∧ vs = [y] ∧ H l = some (.lst xs) ∧ xs.length < sizeLine ∧ ∀ H', Chg H l (.lst (xs ++ [y])) H' → Q .non H') := by
  intro pins s σ H x xs v us Q I rx rv h
  obtain ⟨l, ys, y, e1, e2, h1, h2, q⟩ := h
  exact mt_append s σ H x xs v us Q I rx rv ⟨l, ys, y, e1, e2, h1, h2, q _ ⟨rfl⟩⟩
/-- pop(i), i in bounds from the left -/
theorem popAtN : MtM X "list.pop" (fun x vs H Q => ∃ l xs i y, x = .ref l ∧ vs = [.int i] ∧ H l = some (.lst xs) ∧ 0 ≤ i ∧ i < 2 ^ 63 ∧ xs[i.toNat]? = some y ∧ ∀ H', Chg H l (.lst (xs.eraseIdx i.toNat)) H' → Q y H') := by
  intro pins s σ H x xs v us Q I rx rv h
  obtain ⟨l, ys, i, y, e1, e2, h1, h2, h3, h4, q⟩ := h
  refine mt_popAt s σ H x xs v us Q I rx rv ⟨l, ys, i, i.toNat, y, e1, e2, h1, by (first | lia | omega), h3, ?_, h4, q _ ⟨rfl⟩⟩
  have hl := (List.getElem?_eq_some_iff.mp h4).1
  have q : atI ys ((i.toNat : Nat) : Int) = some y := atI_nat h4
  have ei : ((i.toNat : Nat) : Int) = i := by (first | lia | omega)
  rw [ei] at q
  obtain ⟨j, hj, hj2, _⟩ := atI_get q
  have : ixN ys.length i = some i.toNat := by unfold ixN; rw [if_pos h2, if_pos (by (first | lia | omega))]
  exact (ixN_seq this).1
end
/-- the reading of an index at a place in bounds -/
theorem at_nat {α : Type} {xs : List α} {i : Int} {v : α} (h0 : 0 ≤ i) (h : xs[i.toNat]? = some v) : atI xs i = some v := by
  have q := atI_nat h
  have e : ((i.toNat : Nat) : Int) = i := by (first | lia | omega)
  rw [e] at q
  exact q
end L2

set_option Elab.async false
set_option linter.all false
set_option maxRecDepth 100000
set_option maxHeartbeats 4000000
/-! isinstance of data -/
namespace L2
open PySem PySem.Spec PyProof.Rows
section
variable {X : Cx}
end
end L2

set_option Elab.async false
set_option linter.all false
set_option maxRecDepth 100000
set_option maxHeartbeats 4000000
/-! zip over lists and tuples (k: is it a tuple) -/
namespace L2
open PySem PySem.Spec PyProof.Rows
section
variable {prog : Program} {w : World} {A : Around} {E : Value → Shared → Prop} {s : Shared} {k : Bool} {it a : Addr} {i : Nat} {its : Array Value}
end
section
variable {prog : Program} {w : World} {A : Around} {E : Value → Shared → Prop} {s : Shared} {k1 k2 : Bool} {z TI TO i1 i2 l1 l2 : Addr} {i : Nat} {xs ys : Array Value}
end
end L2

set_option Elab.async false
set_option linter.all false
set_option maxRecDepth 100000
set_option maxHeartbeats 4000000
/-! zip in a loop's head, over lists and tuples -/
namespace L2
open PySem PySem.Spec PyProof.Rows
section
variable {prog : Program} {w : World} {A : Around} {E : Value → Shared → Prop} {s : Shared}
end
section
variable {X : Cx}
end
end L2

set_option Elab.async false
set_option linter.all false
set_option maxRecDepth 100000
set_option maxHeartbeats 4000000
/-! insert; loops over a list, a tuple or a text; xs[::-1]; the least of a list -/
namespace L2
open PySem PySem.Spec PyProof.Rows
section
variable {X : Cx}
end
section
variable {X : Cx} {tg : Expr}
theorem pi_tupK (K : PySem.W.Frag) {l : Expr} {tl : TE} (hl : PE X l tl) (hK : X.K = K := by rfl) : PI X tg l (iTup K tl) := by subst hK; exact pi_tup hl
end
/-! xs[::-1] -/
section
variable {X : Cx} {e : Expr} {te : TE} {pos p2 p3 p4 : Pos} {j : Nat}
end
end L2

set_option Elab.async false
set_option linter.all false
set_option maxRecDepth 100000
set_option maxHeartbeats 4000000
/-! the least of a list of things that are compared by what stands in the heap -/
namespace L2
open PySem PySem.Spec PyProof.Rows
section
variable {prog : Program} {w : World} {A : Around} {R : Result → Shared → Prop} {I S : Addr} {fp wr : List Addr} {n : Nat} {P : Nat → Value → Prop} {St : Nat → Heap → Prop}
end
/-! the least of a list of tuples of ints -/
section
variable {X : Cx} (K : PySem.W.Frag)
end
end L2
namespace L2
open PySem
section
variable {X : Cx} (K : PySem.W.Frag)
theorem inK (hK : X.K = K := by rfl) : OpR X (compareOp .In) (rIn K false) := by subst hK; exact op_in_seq
end
end L2

set_option Elab.async false
set_option linter.all false
set_option maxRecDepth 100000
set_option maxHeartbeats 4000000
/-! {k: v for t in xs if c}: the new dict stands in the heap's letters from the start -/
namespace L2
open PySem PySem.Spec PyProof.Rows
section
variable {prog : Program} {w : World} {A : Around} {R : Result → Shared → Prop} {s : Shared}
theorem dcomp_turns {kx vx target iter : Expr} {ifs : List Expr} {scope : Scope} {pos : Pos} {it : Value} {D : Addr} {env : Env} (I : Nat → Shared → Prop)
    (turn : ∀ n s, I n s → wpAny (model prog w) A (pyNext it) (fun r s1 => match r with
      | none => R (.ok .next) s1
      | some v => wpAny (model prog w) A (letOwnedTupleGo target it v) (fun _ s1' => wpAny (model prog w) A (assign target env v) (fun _ s2 =>
          wpAny (model prog w) A (testsOf ifs env) (fun ok s3 =>
            if ok = true then wpAny (model prog w) A (eval kx env) (fun kv s4 => wpAny (model prog w) A (eval vx env) (fun vv s5 =>
              wpAny (model prog w) A (dictSet D kv vv) (fun _ s6 => ∃ m, m < n ∧ I m s6) noE s5) noE s4) noE s3
            else ∃ m, m < n ∧ I m s3) noE s2) noE s1') noE s1) noE s)
    (n : Nat) (h : I n s) : codeAny (model prog w) A (.compLoop (.DictComp kx vx [⟨target, iter, ifs, 0⟩] scope pos) 0 it (.ref D) env) R s := by
  refine codeAny_loop rfl I (fun n s hI => (show wpAny _ A (Sem.onRaise (compTurn (.DictComp kx vx [⟨target, iter, ifs, 0⟩] scope pos) 0 it (.ref D) env) (fun x => do noteFrame x env; theTreesLotGoes x)) _ _ s from wpAny_noted ?_)) n h
  rw [compTurn_dict]
  refine wpAny_bind (wpAny_standAt (wpAny_bind (noE_to (thn (turn n s hI) fun r s1 h1 => ?_))))
  cases r with
  | none => exact wpAny_pure h1
  | some v =>
    refine wpAny_bind (noE_to (thn h1 fun _ s1' h1' => ?_))
    refine wpAny_bind (noE_to (thn h1' fun _ s2 h2 => wpAny_bind (noE_to (thn h2 fun ok s3 h3 => ?_))))
    cases ok with
    | false => exact wpAny_pure ⟨rfl, h3⟩
    | true =>
      exact wpAny_bind (wpAny_bind (noE_to (thn h3 fun kv s4 h4 => wpAny_bind (wpAny_holding (noE_to (thn h4 fun vv s5 h5 => wpAny_bind (wpAny_standAt (wpAny_holding (noE_to (thn h5 fun _ s6 h6 => wpAny_pure ⟨rfl, h6⟩))))))))))
end
section
variable {X : Cx} {pins : List (Addr × Obj)} {σ : St} {H : Hp} {s : Shared} {a : Addr} {y v : V} {u r : Value} {A : Around} {E : Value → Shared → Prop}
/-- d[k] = v by dictSet, the key an int or a text -/
theorem d_dictSet {kvs : List (Key × V)} {k : Key} {Q : Unit → Shared → Prop} (I : Inv X pins σ H s) (e : H a = some (.dK kvs)) (l : kvs.length < sizeLine) (ry : RelV (kV k) u) (rv : RelV v r)
    (h : ∀ s', Inv X pins σ (upd H a (.dK (putK kvs k v))) s' → Q () s') : wpAny (model X.prog X.w) A (dictSet a u r) Q E s := by
  obtain ⟨z, hd, vs, rel, dd⟩ := dk_of I.hok e
  have hz : vs.length ≤ sizeLine := by rw [← rel.length]; exact z
  have hl : (putK kvs k v).length ≤ sizeLine := by have := length_putK kvs k v; (first | lia | omega)
  refine wpAny_dictSet_pairs (hsz := hz) (kV_is ry) dd fun h' dd' hs => h _ ?_
  have he : ∃ q, h'.get? a = some q := let ⟨q, _, _, hq, _⟩ := dd'; ⟨q, hq⟩
  exact d_write I (by rw [e]; exact True.intro) hs he (dk_new hl hd (rel.put k rv) dd')
end

section
variable {X : Cx} {pins : List (Addr × Obj)} {σ : St} {H : Hp} {s : Shared} {scope : Scope} {Nc Fc : List Str} {js : List Nat} {cl : List (Str × Addr)} {C : Addr} {fp : List Addr}
/-- the state at the block's entry, nothing pinned -/
theorem cxC_inv0 (I : Inv X pins σ H s) (c : CompOk X scope Nc Fc js) (hsub : ∀ n c, cl.lookup n = some c → X.env.cells.lookup n = some c) (hhas : ∀ y ∈ scope.names, y.2 = .free → ∃ c, cl.lookup y.1 = some c)
    (hC : s.heap.objs.size ≤ C) (hf : ∀ b ∈ fp, FpOk X pins H b) (ho : ∀ b ∈ fp, ∃ o, s.heap.get? b = some o) {h1 : Heap} {t1 : Nat} {m : Str → Option Value}
    (hk : ∀ b o, s.heap.get? b = some o → h1.get? b = some o) (hm : h1.Ns C m) :
    Inv (cxC X Nc Fc scope cl C s H fp) [] (List.replicate Nc.length none ++ cvals σ js) H { s with heap := h1, toks := t1 } := by
  refine ⟨cxC_ok I c hsub hhas hC hf ho, rfl, I.bare, Un.kept hk, ⟨m, hm, fun i x v e1 e2 e3 => ?_⟩, fun x a e => ?_, I.hok.fresh hC, fun x a e => I.freeC x a (hsub x a e), fun p hp => ?_, I.hok.kept hk, ?_⟩
  · have e1 : (Nc ++ Fc)[i]? = some x := e1
    have e2 : (List.replicate Nc.length none ++ cvals σ js)[i]? = some (some v) := e2
    by_cases hi : i < Nc.length
    · rw [List.getElem?_append_left (by simpa using hi), List.getElem?_replicate] at e2
      split at e2 <;> cases e2
    · rw [List.getElem?_append_right (by (first | lia | omega))] at e1
      rw [List.getElem?_append_right (by rw [List.length_replicate]; (first | lia | omega)), List.length_replicate] at e2
      obtain ⟨hfr, j, hj, hN⟩ := c.frees _ _ e1
      have hv : σ[j]? = some (some v) := by
        unfold cvals at e2
        rw [List.getElem?_map, hj] at e2
        have e2 : some ((σ[j]?).join) = some (some v) := e2
        cases q : σ[j]? with
        | none => rw [q] at e2; cases e2
        | some z => rw [q] at e2; cases e2; rfl
      have kx := c.free _ (mem_of_lookup' hfr) rfl
      obtain ⟨m0, hn0, hl0⟩ := I.loc
      have vis : Vis X.env.scope x := by
        rcases kx with k | k
        · exact .inr (.inl k)
        · exact .inr (.inr k)
      obtain ⟨u, ru, lk⟩ := hl0 j x v hN hv vis
      refine ⟨u, ru, .inr ⟨?_, ?_⟩⟩
      · rw [cxC_kind]; exact relabel_of_free hfr
      · obtain ⟨a, ha⟩ := hhas _ (mem_of_lookup' hfr) rfl
        refine ⟨a, ha, ?_⟩
        rcases lk with ⟨k, _⟩ | ⟨_, a', ha', hcell⟩
        · rcases kx with q | q <;> (rw [k] at q; cases q)
        · have e := hsub _ _ ha
          dsimp only at e
          rw [ha'] at e; cases e
          exact hcell.keeps hk
  · obtain ⟨v, z⟩ := I.cell x a (hsub x a e)
    exact ⟨v, z.keeps hk⟩
  · have hp : p ∈ ([] : List (Addr × Obj)) := hp
    cases hp
  · show (List.replicate Nc.length none ++ cvals σ js).length = (Nc ++ Fc).length
    unfold cvals
    rw [List.length_append, List.length_append, List.length_replicate, List.length_map, c.lens]
end
/-- the reading of a dict's comprehension: W i m H is what holds ahead of turn i (D is the new dict), m falls -/
noncomputable def CompD (J : It) (n : Nat) (js : List Nat) (g : TG) (tc : TT) (tk tv : TE) (σ : St) (D : Addr) (H1 : Hp) (fin : Hp → Prop) : Prop :=
  ∃ W : Nat → Nat → Hp → Prop, (∃ m, W 0 m H1) ∧ ∀ i m H, W i m H →
    (J.stop i H ∧ fin H) ∨
    (J.go i H ∧ ∀ x H', J.yld i H x H' → g x (List.replicate n none ++ cvals σ js) H' fun σ2 H2 => tc σ2 H2 fun b H3 =>
      if b = true then tk σ2 H3 fun y H4 => tv σ2 H4 fun z H5 => Ex2 fun kvs k => H5 D = some (.dK kvs) ∧ y = kV k ∧ kvs.length < sizeLine ∧ ∃ m', m' < m ∧ W (i + 1) m' (upd H5 D (.dK (putK kvs k z))) else ∃ m', m' < m ∧ W (i + 1) m' H3)
noncomputable def tDComp (wi : TI) (n : Nat) (js : List Nat) (g : TG) (tc : TT) (tk tv : TE) : TE := fun σ H Q => wi σ H fun J H1 => ∀ D, H1 D = none → CompD J n js g tc tk tv σ D (upd H1 D (.dK [])) fun H2 => Q (.ref D) H2
theorem dcomp_core {X : Cx} {kx vx tg iter : Expr} {ifs : List Expr} {scope : Scope} {pos : Pos} {Nc Fc : List Str} {js : List Nat} {wi : TI} {g : TG} {tc : TT} {tk tv : TE} {use : Option (Value → Sem Unit)} {QV : Value → Shared → Prop}
    (hcalm : X.calm = true) (c : CompOk X scope Nc Fc js) (hi : PI X tg iter wi)
    (hg : ∀ cl C s H fp, PG (cxC X Nc Fc scope cl C s H fp) tg g) (htc : ∀ cl C s H fp, PTs (cxC X Nc Fc scope cl C s H fp) ifs tc) (htk : ∀ cl C s H fp, PE (cxC X Nc Fc scope cl C s H fp) kx tk) (htv : ∀ cl C s H fp, PE (cxC X Nc Fc scope cl C s H fp) vx tv) (gk : Gk Nc.length g)
    {pins : List (Addr × Obj)} {s : Shared} {σ : St} {H : Hp} {fin : Addr → Hp → Prop} (I : Inv X pins σ H s)
    (h : wi σ H fun J H1 => ∀ D, H1 D = none → CompD J Nc.length js g tc tk tv σ D (upd H1 D (.dK [])) (fin D))
    (behind : ∀ (C D : Addr) (m : Str → Option Value) (H2 : Hp) (s2 : Shared), Inv X pins σ H2 s2 → s2.heap.Ns C m → FpOk X pins H2 C → fin D H2 → compPost (model X.prog X.w) X.A X.xe use QV (.ref D) C (.ok .next) s2)
    (hs : ∀ x, foldedSetIterable iter X.env x = pure x) :
    wpAny (model X.prog X.w) X.A (comprehension (.DictComp kx vx [⟨tg, iter, ifs, 0⟩] scope pos) scope X.env (firstIterPos [⟨tg, iter, ifs, 0⟩] pos) newDict false (eval iter X.env) use) QV X.xe s := by
  obtain ⟨cl, hclos, hsub, hhas⟩ := closure_of (scope := scope) (env := X.env) fun y hy hf => I.ok.has y.1 (c.free y hy hf)
  refine wpAny_comprehension_free (use := use) rfl hs hclos c.kind c.names ?_
  refine thn (hi s σ H _ I h) fun v s1 h1 => thn h1 fun itv s2 h2 => ?_
  obtain ⟨it, fp, tn, J, H2, e, I2, T, st2, f2, all⟩ := h2
  subst e
  refine wpAny_newObj_type (wpAny_newFunctionEnv c.nocell (by intro y hy; simp at hy) (fun h1 hns1 hsb1 => ?_) c.kind)
  dsimp only at hns1 hsb1 ⊢
  have hDn : H2 s2.heap.objs.size = none := I2.hok.fresh (Nat.le_refl _)
  have I2' := I2.laid (a := s2.heap.objs.size) (o := .dK []) (h' := s2.heap.push { cls := .type "dict", data := .dict #[] }) (t' := s2.toks) (fun _ _ q => Heap.get?_push_of_some _ q) (Nat.le_refl _) (dk_empty s2.heap I2.big)
  obtain ⟨W, ⟨m0, w0⟩, turn⟩ := all _ hDn
  have fo2 : ∀ b ∈ fp, ∃ o, s2.heap.get? b = some o := fun b hb => let ⟨o, e, _⟩ := T.obj 0 _ st2 b hb; ⟨o, e⟩
  have hDfp : ∀ b ∈ fp, b < s2.heap.objs.size := fun b hb => let ⟨o, e⟩ := fo2 b hb; Heap.lt_size e
  generalize hG : s2.heap.push { cls := .type "dict", dict := none, data := .dict #[] } = G at hns1 hsb1 I2' ⊢
  have toG : ∀ b o, s2.heap.get? b = some o → G.get? b = some o := fun b o e => hG ▸ Heap.get?_push_of_some _ e
  have hC : G.objs.size = s2.heap.objs.size + 1 := by rw [← hG, Heap.size_push]
  have old : ∀ b o, G.get? b = some o → h1.get? b = some o := fun b o e =>
    hsb1.extBut b o (addr_ne (Heap.lt_size e) (Nat.le_refl _)) (Heap.get?_push_of_some _ e)
  let D : Addr := s2.heap.objs.size
  let s2' : Shared := { s2 with heap := G, toks := s2.toks }
  let H2' : Hp := upd H2 D (.dK [])
  have f2' : ∀ b ∈ fp, FpOk X pins H2' b := fun b hb => by
    obtain ⟨a1, a2⟩ := f2 b hb
    refine ⟨?_, a2⟩
    show upd H2 D (.dK []) b = none
    rw [upd_ne (Nat.ne_of_lt (hDfp b hb))]; exact a1
  have fo : ∀ b ∈ fp, ∃ o, s2'.heap.get? b = some o := fun b hb => let ⟨o, e⟩ := fo2 b hb; ⟨o, toG b o e⟩
  have hfG : ∀ b ∈ fp, b < G.objs.size := fun b hb => by have := hDfp b hb; rw [hC]; exact Nat.lt_succ_of_lt this
  let Xc : Cx := cxC X Nc Fc scope cl G.objs.size s2' H2' fp
  have stat : ∀ {H' : Hp}, (∀ b ∈ fp, H' b = none) → ∀ b ∈ fp, FpOk Xc [] H' b := fun {H'} hn b hb => by
    refine ⟨hn b hb, ?_, ?_, .inl hb, fun x a e => ?_, fun p hq => ?_⟩
    · exact addr_ne (hfG b hb) (Nat.le_refl _)
    · exact (cxC_ok I2' c hsub hhas (Nat.le_refl _) f2' fo).exfs b hb
    · exact (f2 b hb).2.2.2.2.1 x a (hsub _ _ e)
    · have q : p ∈ ([] : List (Addr × Obj)) ++ [] := hq
      simp at q
  have loop : ∀ t1, codeAny (model X.prog X.w) X.A (.compLoop (.DictComp kx vx [⟨tg, iter, ifs, 0⟩] scope pos) 0 (.ref it) (.ref s2.heap.objs.size) (compEnvC scope cl G.objs.size X.env))
      (compPost (model X.prog X.w) X.A X.xe use QV (.ref s2.heap.objs.size) G.objs.size) { s2 with heap := h1, toks := t1 } := by
    intro t1
    refine dcomp_turns (fun n s' => ∃ i H', Inv Xc [] (List.replicate Nc.length none ++ cvals σ js) H' s' ∧ tn i s'.heap ∧ (∀ b ∈ fp, H' b = none) ∧ W i n H') ?_ m0
      ⟨0, H2', cxC_inv0 I2' c hsub hhas (Nat.le_refl _) f2' fo old hns1, T.keep _ _ _ st2 (fun b hb o e => old b o (toG b o e)), fun b hb => (f2' b hb).1, w0⟩
    rintro n s3 ⟨i, H3, I3, st3, fr3, w3⟩
    rcases turn i n H3 w3 with ⟨stop, qn⟩ | ⟨go, step⟩
    · refine thn (T.done Xc rfl rfl rfl hcalm i _ s3 _ H3 noE I3 (stat fr3) st3 stop) fun r s4 ⟨hr, I4⟩ => ?_
      subst hr
      show compPost _ _ _ _ _ _ _ _ _
      obtain ⟨mC, hmC, _⟩ := I4.loc
      have hCn : H3 G.objs.size = none := I4.free
      have u : Un (frs X.stack) fp H2' H3 G s4.heap := I4.base
      have hch : ∀ b ∈ fp, (b ∈ X.ex ∨ X.s₀.heap.objs.size ≤ b) ∧ b ≠ X.env.locals ∧ (∀ x c, X.env.cells.lookup x = some c → c ≠ b) ∧ ∀ p ∈ X.pn ++ pins, p.1 ≠ b := fun b hb =>
        ⟨(f2 b hb).2.2.2.1, (f2 b hb).2.1, (f2 b hb).2.2.2.2.1, (f2 b hb).2.2.2.2.2⟩
      have os4 : s4.os = s2'.os := I4.os
      have J4 : Inv X pins σ H3 s4 := I2'.call' (H' := H3) os4 u I4.hok I4.bare hch
      exact behind G.objs.size D mC H3 s4 J4 hmC (I2'.fpOk (Nat.le_refl _) hCn) qn
    · refine thn (T.item Xc rfl rfl rfl hcalm i _ s3 _ H3 noE I3 (stat fr3) st3 go) fun r s4 ⟨u, hr, h4⟩ => ?_
      subst hr
      show wpAny _ _ (letOwnedTupleGo tg (.ref it) u) _ _ _
      refine thn h4 fun _ s5 ⟨x, H5, I5, r5, y5, st5, fr5⟩ => ?_
      have I5' := I5.pinned (stat fr5) (T.obj _ _ st5)
      refine thn (hg cl G.objs.size s2' H2' fp s5 _ H5 x u _ I5' r5 (gk _ _ _ _ (step x H5 y5))) fun _ s6 ⟨σ6, H6, I6, q6, kσ, kl⟩ => ?_
      refine thn (htc cl G.objs.size s2' H2' fp s6 σ6 H6 _ I6 q6) fun b s7 ⟨H7, I7, q7⟩ => ?_
      have later : ∀ {σ' : St} {H' : Hp} {s' : Shared}, Inv Xc ([] ++ pinsAt fp s5.heap) σ' H' s' → tn (i + 1) s'.heap ∧ ∀ b ∈ fp, H' b = none := fun {σ' H' s'} Iz => by
        refine ⟨T.keep _ _ _ st5 fun b hb o e => (Iz.pin (b, o) (List.mem_append_right _ (List.mem_append_right _ (mem_pinsAt hb e)))).1, fun b hb => ?_⟩
        obtain ⟨o, e, d⟩ := T.obj _ _ st5 b hb
        exact (Iz.pin (b, o) (List.mem_append_right _ (List.mem_append_right _ (mem_pinsAt hb e)))).2.1
      have back : ∀ {pl : List (Addr × Obj)} {H' : Hp} {s' : Shared}, Inv Xc pl σ6 H' s' → Inv Xc pl (List.replicate Nc.length none ++ cvals σ js) H' s' := fun {pl H' s'} Iz => by
        refine Iz.weak (by rw [← kl]) fun j v hj => ?_
        by_cases hn : j < Nc.length
        · rw [List.getElem?_append_left (by simpa using hn), List.getElem?_replicate] at hj
          split at hj <;> cases hj
        · rw [kσ j (by (first | lia | omega))]; exact hj
      cases b with
      | false =>
        rw [if_neg Bool.false_ne_true] at q7 ⊢
        obtain ⟨m', hm', w7⟩ := q7
        obtain ⟨l1, l2⟩ := later I7
        exact ⟨m', hm', i + 1, H7, back I7.unpinned, l1, l2, w7⟩
      | true =>
        rw [if_pos rfl] at q7 ⊢
        refine thn (htk cl G.objs.size s2' H2' fp s7 σ6 H7 _ I7 q7) fun yv s8 ⟨y, H8, I8, r8, q8⟩ => ?_
        refine thn (htv cl G.objs.size s2' H2' fp s8 σ6 H8 _ I8 q8) fun zv s9 ⟨z, H9, I9, r9, q9⟩ => ?_
        obtain ⟨kvs, k, eD, ey, hl, m', hm', w9⟩ := q9
        subst ey
        refine d_dictSet (X := Xc) I9 eD hl r8 r9 fun s10 I10 => ?_
        obtain ⟨l1, l2⟩ := later I10
        exact ⟨m', hm', i + 1, _, back I10.unpinned, l1, l2, w9⟩
  exact codeAny_compStart_dict (loop _) (T.self _ 0 _ _ _ (T.keep _ _ _ st2 fun b hb o e => old b o (toG b o e)) (loop _))
theorem pe_dcomp {X : Cx} {kx vx tg iter : Expr} {ifs : List Expr} {scope : Scope} {pos : Pos} {Nc Fc : List Str} {js : List Nat} {wi : TI} {g : TG} {tc : TT} {tk tv : TE}
    (hcalm : X.calm = true) (c : CompOk X scope Nc Fc js) (hi : PI X tg iter wi) (gk : Gk Nc.length g)
    (hg : ∀ cl C s H fp, PG (cxC X Nc Fc scope cl C s H fp) tg g) (htc : ∀ cl C s H fp, PTs (cxC X Nc Fc scope cl C s H fp) ifs tc) (htk : ∀ cl C s H fp, PE (cxC X Nc Fc scope cl C s H fp) kx tk) (htv : ∀ cl C s H fp, PE (cxC X Nc Fc scope cl C s H fp) vx tv)
    (hs : ∀ x, foldedSetIterable iter X.env x = pure x := by intro _; rfl) :
    PE X (.DictComp kx vx [⟨tg, iter, ifs, 0⟩] scope pos) (tDComp wi Nc.length js g tc tk tv) := by
  intro pins s σ H Q I h
  rw [arm_eval_DictComp]
  refine dcomp_core (use := none) (fin := fun D H2 => Q (.ref D) H2) hcalm c hi hg htc htk htv gk I h (fun C D m H2 s2 I2 hm hC q => ?_) hs
  refine ⟨m, hm, fun h' hs' => ?_⟩
  exact ⟨.ref D, _, I2.turned (it := C) (t' := s2.toks) (fun b o hb e => hs'.extBut b o hb e) hC.1 (hC.2.1) hC.2.2.2.1 hC.2.2.2.2.1 hC.2.2.2.2.2, rfl, q⟩
end L2

set_option Elab.async false
set_option linter.all false
set_option maxRecDepth 100000
set_option maxHeartbeats 4000000
/-! sorted(xs) of fewer than 64 ints -/
namespace L2
open PySem PySem.Spec PyProof.Rows
section
variable {X : Cx} (K : PySem.W.Frag)
end
end L2

set_option Elab.async false
set_option linter.all false
set_option maxRecDepth 100000
set_option maxHeartbeats 4000000
/-! an exception of an own class: raised, passing the frames -/
namespace L2
open PySem PySem.Spec PyProof.Rows PySem.W
section
variable {P : Program} {w : World} {K : PySem.W.Frag} {mg : Str → Option Value} {base : Heap} {N : List Str} {qual : Str} {scope : Scope} {f : Addr} {cd : Value} {A : Around} {outer : List Env} {s0 : Shared} {H0 : Hp} {E : XK}
end
end L2

set_option Elab.async false
set_option linter.all false
set_option maxRecDepth 100000
set_option maxHeartbeats 4000000
/-! try: body, except C: suite -/
namespace L2
open PySem PySem.Spec PyProof.Rows PySem.W
section
variable {X : Cx} {pins pins' : List (Addr × Obj)} {σ σ0 : St} {E' : XK} {H : Hp} {s : Shared}
end
section
variable {X : Cx} {L : Addr}
end
section
variable {X : Cx} {L : Addr} {pins : List (Addr × Obj)} {σ : St} {H : Hp} {s : Shared}
end
section
variable {X : Cx} {L : Addr} {pins : List (Addr × Obj)} {σ : St} {H : Hp} {s : Shared}
end
section
variable {P : Program} {w : World} {K : PySem.W.Frag} {mg : Str → Option Value} {base : Heap}
end
end L2

set_option Elab.async false
set_option linter.all false
set_option maxRecDepth 100000
set_option maxHeartbeats 4000000
/-! the sort of fewer than 64 things whose keys are all unlike -/
namespace L2
open PySem PySem.Spec PyProof.Rows PySem.W
section
variable {n : Nat} {key : Nat → Int} {cmp : Nat → Nat → (Bool → Shared → Prop) → Shared → Prop} {s : Shared}
end
end L2

set_option Elab.async false
set_option linter.all false
set_option maxRecDepth 100000
set_option maxHeartbeats 4000000
/-! sorted(xs) of int tuples, all unlike -/
namespace L2
open PySem PySem.Spec PyProof.Rows PySem.W
section
variable {prog : Program} {w : World} {A : Around} {E : Value → Shared → Prop} {s : Shared} {κ : SortKind} {key : Nat → Int}
end
section
variable {X : Cx} (K : PySem.W.Frag)
end
section
variable {prog : Program} {w : World} {A : Around} {E : Value → Shared → Prop} {s : Shared}
end
section
variable {X : Cx} (K : PySem.W.Frag)
end
end L2

set_option Elab.async false
set_option linter.all false
set_option maxRecDepth 100000
set_option maxHeartbeats 4000000
/-! a new dict, its heap a letter -/
namespace L2
open PySem PySem.Spec PyProof.Rows
section
variable {X : Cx} {pos : Pos}
end
end L2

set_option Elab.async false
set_option linter.all false
set_option maxRecDepth 100000
set_option maxHeartbeats 4000000
/-! a def that may raise, called where it is known that it doesn't -/
namespace L2
open PySem PySem.Spec PyProof.Rows PySem.W
end L2

set_option Elab.async false
set_option linter.all false
set_option maxRecDepth 100000
set_option maxHeartbeats 4000000
/-! an own class of exceptions, read off the written part of the heap -/
namespace L2
open PySem PySem.Spec PyProof.Rows PySem.W
end L2

set_option Elab.async false
set_option linter.all false
set_option maxRecDepth 100000
set_option maxHeartbeats 4000000
/-! isinstance of an exception of an own class -/
namespace L2
open PySem PySem.Spec PyProof.Rows PySem.W PySem.Calls Builtin Builtin.ObjectAttr Builtin.Getset_descriptor
section
variable {K : Frag} {e C : Addr}
variable {prog : Program} {w : World} {A : Around} {E : Value → Shared → Prop} {s : Shared}
end
section
variable {X : Cx}
/-- a class, by its name -/
theorem pe_gref {x : Str} {C : Addr} {pos : Pos} (hg : Gl X x) (hm : X.mg x = some (.ref C)) (hd : (x == ("__debug__" : Str)) = false := by decide) : PE X (.Name x pos) (tC (.ref C)) := pe_glob (v := .ref C) hg hm rfl hd
end
end L2

set_option Elab.async false
set_option linter.all false
set_option maxRecDepth 100000
set_option maxHeartbeats 4000000
/-! list(range(n)); a text n times -/
namespace L2
open PySem PySem.Spec PyProof.Rows
section
variable {X : Cx}
end
end L2

set_option Elab.async false
set_option linter.all false
set_option maxRecDepth 100000
set_option maxHeartbeats 4000000
/-! set(xs) of texts, and its len -/
namespace L2
open PySem PySem.Spec PyProof.Rows
section
variable {prog : Program} {w : World} {K : Type} [DecidableEq K] {knd : PySem.KeyKind prog w K}
variable {A : Around} {R : Result → Shared → Prop} {I : Addr} {fp wr : List Addr} {G : Array GenState → Array GenState → Prop} {n : Nat} {P : Nat → Value → Prop} {St : Nat → Shared → Prop}
end
section
variable {prog : Program} {w : World} {K : Type} [DecidableEq K] {knd : PySem.KeyKind prog w K} {A : Around} {E : Value → Shared → Prop} {s : Shared}
end
section
variable {X : Cx}
end
end L2

set_option Elab.async false
set_option linter.all false
set_option maxRecDepth 100000
set_option maxHeartbeats 4000000
/-! str(x) of data, however nested -/
namespace L2
open PySem PySem.Spec PyProof.Rows
/-- what str tells of data -/
noncomputable def strD : PyData → Str
  | .str x => x
  | d => d.shown
section
variable {X : Cx} {pins : List (Addr × Obj)} {σ : St} {H : Hp} {s : Shared}
mutual
theorem den_reads (I : Inv X pins σ H s) : ∀ (d : PyData) (x : V) (u : Value), Den X.K H d x → RelV x u → ∃ as, Reads s.heap u d as
  | .none, x, u, h, r => by unfold Den at h; subst h; cases r; exact ⟨_, .none⟩
  | .bool b, x, u, h, r => by unfold Den at h; subst h; cases r; exact ⟨_, .bool b⟩
  | .int i, x, u, h, r => by unfold Den at h; subst h; obtain ⟨t, rfl⟩ := r; exact ⟨_, .int i t⟩
  | .str y, x, u, h, r => by unfold Den at h; subst h; obtain ⟨t, rfl⟩ := r; exact ⟨_, .str y t⟩
  | .list ds, x, u, h, r => by
    unfold Den at h
    obtain ⟨a, vs, rfl, h1, h2⟩ := h
    cases r
    obtain ⟨its, rv, pl, hz⟩ := I.list h1
    obtain ⟨o, e1, e2, n, e3⟩ := pl.isList
    obtain ⟨bs, hb⟩ := dens_reads I ds vs its h2 rv
    exact ⟨_, .list e1 e2 e3 (by simpa using hb)⟩
  | .tuple ds, x, u, h, r => by
    unfold Den at h
    obtain ⟨a, vs, rfl, h1, h2⟩ := h
    cases r
    obtain ⟨its, rv, ⟨o, e1, e2, n, e3⟩, hz⟩ := I.tuple h1
    obtain ⟨bs, hb⟩ := dens_reads I ds vs its h2 rv
    exact ⟨_, .tuple e1 e2 e3 (by simpa using hb)⟩
  | .dict _, x, u, h, r => by unfold Den at h; exact h.elim
theorem dens_reads (I : Inv X pins σ H s) : ∀ (ds : List PyData) (vs : List V) (us : List Value), Dens X.K H ds vs → Vals vs us → ∃ as, ReadsAll s.heap us ds as
  | [], vs, us, h, r => by unfold Dens at h; subst h; cases r; exact ⟨_, .nil⟩
  | d :: ds, vs, us, h, r => by
    unfold Dens at h
    obtain ⟨v, vr, rfl, h1, h2⟩ := h
    cases r with
    | cons r1 r2 =>
      obtain ⟨as, ha⟩ := den_reads I d _ _ h1 r1
      obtain ⟨bs, hb⟩ := dens_reads I ds _ _ h2 r2
      exact ⟨_, .cons ha hb⟩
end
mutual
theorem nodict {K : PySem.W.Frag} {H : Hp} : ∀ (d : PyData) (x : V), Den K H d x → d.hasDict = false
  | .none, _, _ => rfl
  | .bool _, _, _ => rfl
  | .int _, _, _ => rfl
  | .str _, _, _ => rfl
  | .list ds, x, h => by
    unfold Den at h
    obtain ⟨a, vs, _, _, h2⟩ := h
    simp only [PyData.hasDict]
    exact nodicts ds vs h2
  | .tuple ds, x, h => by
    unfold Den at h
    obtain ⟨a, vs, _, _, h2⟩ := h
    simp only [PyData.hasDict]
    exact nodicts ds vs h2
  | .dict _, x, h => by unfold Den at h; exact h.elim
theorem nodicts {K : PySem.W.Frag} {H : Hp} : ∀ (ds : List PyData) (vs : List V), Dens K H ds vs → PyData.hasDictAll ds = false
  | [], _, _ => rfl
  | d :: ds, vs, h => by
    unfold Dens at h
    obtain ⟨v, r, _, h1, h2⟩ := h
    simp only [PyData.hasDictAll, nodict d v h1, nodicts ds r h2, Bool.or_false]
end
noncomputable def rStr (K : PySem.W.Frag) : List V → Hp → VK → Prop := fun xs H Q => Ex2 fun (x : V) (d : PyData) => xs = [x] ∧ Den K H d x ∧ d.showable = true ∧ d.depth ≤ 40 ∧ d.shown.length ≤ sizeLine ∧ Q (.str (strD d)) H
theorem strK (K : PySem.W.Frag) (hg : X.A.guards = some []) (hu : X.A.units + 64 < cLine) (hK : X.K = K := by rfl) : CallR X (.type "str") (rStr K) := by
  subst hK
  intro pins s σ H xs us Q I r h
  obtain ⟨x, d, rfl, hd, hs, hp, hz, q⟩ := h
  obtain ⟨u, rfl, ru⟩ := vals1 r
  have nd := nodict d x hd
  obtain ⟨as, rd⟩ := den_reads I d x u hd ru
  cases d with
  | none => cases rd; exact PySem.P.str_of_none ⟨.str _, H, I.tok _, ⟨_, rfl⟩, q⟩
  | bool b => cases rd; exact PySem.P.str_of_bool ⟨.str _, H, I.tok _, ⟨_, rfl⟩, q⟩
  | int i =>
    cases rd
    refine PySem.P.str_of_int (by simpa [PyData.showable] using hs) ⟨.str _, H, I.tok _, ⟨_, rfl⟩, q⟩
  | str y => cases rd; exact PySem.P.str_of_str ⟨.str _, H, I, ⟨_, rfl⟩, q⟩
  | list ds =>
    have hu' : ∃ a, u = .ref a := by cases rd; exact ⟨_, rfl⟩
    obtain ⟨a, rfl⟩ := hu'
    exact str_of_reads rd hs (fun z => by rw [nd] at z; cases z) hg (by (first | lia | omega)) (fun _ _ e => e) (fun h' u' tk k => ⟨.str _, H, I.kept k, ⟨_, rfl⟩, q⟩) hz
  | tuple ds =>
    have hu' : ∃ a, u = .ref a := by cases rd; exact ⟨_, rfl⟩
    obtain ⟨a, rfl⟩ := hu'
    exact str_of_reads rd hs (fun z => by rw [nd] at z; cases z) hg (by (first | lia | omega)) (fun _ _ e => e) (fun h' u' tk k => ⟨.str _, H, I.kept k, ⟨_, rfl⟩, q⟩) hz
  | dict _ => unfold Den at hd; exact hd.elim
end
end L2

set_option Elab.async false
set_option linter.all false
set_option maxRecDepth 100000
set_option maxHeartbeats 4000000
/-! {e for t in xs if c}: a set's comprehension, of texts or of ints -/
namespace L2
open PySem PySem.Spec PyProof.Rows
section
variable {prog : Program} {w : World} {A : Around} {R : Result → Shared → Prop} {s : Shared}
end
section
end
end L2

set_option Elab.async false
set_option linter.all false
set_option maxRecDepth 100000
set_option maxHeartbeats 4000000
/-! reverse, clear, count of a list; texts and numbers of the module -/
namespace L2
open PySem PySem.Spec PyProof.Rows
section
variable {X : Cx}
theorem pe_gint {x : Str} {z : Int} {t : Tok} {pos : Pos} (hg : Gl X x) (hm : X.mg x = some (.int z t)) (hd : (x == ("__debug__" : Str)) = false := by decide) : PE X (.Name x pos) (tC (.int z)) := pe_glob (v := .int z) hg hm ⟨t, rfl⟩ hd
end
end L2

set_option Elab.async false
set_option linter.all false
set_option maxRecDepth 100000
set_option maxHeartbeats 4000000
/-! sorted(xs) of fewer than 64 texts -/
namespace L2
open PySem PySem.Spec PyProof.Rows
section
variable {X : Cx} (K : PySem.W.Frag)
end
section
variable {X : Cx}
end
end L2

set_option Elab.async false
set_option linter.all false
set_option maxRecDepth 100000
set_option maxHeartbeats 4000000
/-! range with a step -/
namespace L2
open PySem PySem.Spec PyProof.Rows
section
variable {X : Cx} {tg : Expr}
end
end L2

set_option Elab.async false
set_option linter.all false
set_option maxRecDepth 100000
set_option maxHeartbeats 4000000
/-! a truth value plus a number -/
namespace L2
open PySem PySem.Spec PyProof.Rows
section
variable {X : Cx}
end
end L2

set_option Elab.async false
set_option linter.all false
set_option maxRecDepth 100000
set_option maxHeartbeats 4000000
/-! reversed(list) in a loop's head; list.index of a number; xs[i] += e -/
namespace L2
open PySem PySem.Spec PyProof.Rows
section
variable {X : Cx} {K : PySem.W.Frag}
end
end L2

set_option Elab.async false
set_option linter.all false
set_option maxRecDepth 100000
set_option maxHeartbeats 4000000
/-! a statement that raises nothing, in a def that may raise; isinstance of None or of a caught exception -/
namespace L2
open PySem PySem.Spec PyProof.Rows PySem.W
section
variable {X : Cx} {pins : List (Addr × Obj)} {σ : St} {H : Hp} {s : Shared}
end
section
variable {X : Cx}
end
end L2

set_option Elab.async false
set_option linter.all false
set_option maxRecDepth 100000
set_option maxHeartbeats 4000000
/-! min of a list of numbers; list.remove of a number -/
namespace L2
open PySem PySem.Spec PyProof.Rows
section
variable {X : Cx}
end
end L2

set_option Elab.async false
set_option linter.all false
set_option maxRecDepth 100000
set_option maxHeartbeats 4000000
/-! a text turned about: x[::-1] -/
namespace L2
open PySem PySem.Spec PyProof.Rows
section
variable {X : Cx} {e : Expr} {te : TE} {j p2 p3 p4 pos}
end
end L2

set_option Elab.async false
set_option linter.all false
set_option maxRecDepth 100000
set_option maxHeartbeats 4000000
/-! data written out in the text; a dict of the module; x in a sequence of data; upper -/
namespace L2
open PySem PySem.Spec PyProof.Rows
theorem PE.weak {X : Cx} {e : Expr} {t t' : TE} (h : PE X e t) (w : ∀ σ H Q, t' σ H Q → t σ H Q) : PE X e t' := fun _ s σ H Q I q => h s σ H Q I (w σ H Q q)
theorem PA.weak {X : Cx} {es : List Expr} {t t' : TA} (h : PA X es t) (w : ∀ σ H Q, t' σ H Q → t σ H Q) : PA X es t' := fun _ _ s σ H Q I q => h s σ H Q I (w σ H Q q)
/-- what is new in H' -/
noncomputable def newOf (H H' : Hp) : Hp := fun a => match H a with
  | none => H' a
  | some _ => none
theorem newOf_none {H H' : Hp} {a : Addr} (h : H a = none) : newOf H H' a = H' a := by unfold newOf; rw [h]
theorem of_newOf {H H' : Hp} {a : Addr} {o : HO} (h : newOf H H' a = some o) : H a = none ∧ H' a = some o := by
  unfold newOf at h
  cases e : H a with
  | none => rw [e] at h; exact ⟨rfl, h⟩
  | some u => rw [e] at h; cases h
theorem newOf_le {H H' : Hp} : Same (newOf H H') H' := fun _ _ h => (of_newOf h).2
theorem newOf_more {H H1 H2 : Hp} (s : Same H1 H2) : Same (newOf H H1) (newOf H H2) := fun a o h => by
  rw [newOf_none (of_newOf h).1]; exact s a o (of_newOf h).2
theorem newOf_less {H H1 H2 : Hp} (s : Same H H1) : Same (newOf H1 H2) (newOf H H2) := fun a o h => by
  rw [newOf_none (s.free (of_newOf h).1)]; exact (of_newOf h).2
/-- data of new objects alone -/
noncomputable def tLit (K : PySem.W.Frag) (d : PyData) : TE := fun _ H Q => ∀ v H', Same H H' → Den K (newOf H H') d v → Q v H'
noncomputable def tLits (K : PySem.W.Frag) (ds : List PyData) : TA := fun _ H Q => ∀ vs H', Same H H' → Dens K (newOf H H') ds vs → Q vs H'
section
variable {X : Cx} {K : PySem.W.Frag}
theorem lit_int {i : Int} {j pos} : PE X (.Constant (.int i) j pos) (tLit K (.int i)) := pe_int.weak fun σ H Q h => h _ H (Same.refl _) (by unfold Den; rfl)
theorem lit_str {x : Str} {j pos} : PE X (.Constant (.str x) j pos) (tLit K (.str x)) := pe_str.weak fun σ H Q h => h _ H (Same.refl _) (by unfold Den; rfl)
theorem lits_nil : PA X [] (tLits K []) := pa_nil.weak fun σ H Q h => h [] H (Same.refl _) (by unfold Dens; rfl)
theorem lits_cons {e : Expr} {es : List Expr} {d : PyData} {ds : List PyData} (h : PE X e (tLit K d)) (hs : PA X es (tLits K ds)) (hst : starEach (e :: es) X.env = (false, eval e X.env) :: starEach es X.env := by rfl) : PA X (e :: es) (tLits K (d :: ds)) :=
  (pa_cons h hs hst).weak fun σ H Q q v H1 s1 d1 vs H2 s2 d2 => q (v :: vs) H2 (s1.trans s2) (by
    unfold Dens
    exact ⟨v, vs, rfl, d1.same (newOf_more s2), d2.same (newOf_less s1)⟩)
theorem lens_of {K : PySem.W.Frag} {H : Hp} : ∀ {ds : List PyData} {vs : List V}, Dens K H ds vs → vs.length = ds.length
  | [], _, h => by unfold Dens at h; subst h; rfl
  | d :: ds, vs, h => by
    unfold Dens at h
    obtain ⟨v, r, rfl, h1, h2⟩ := h
    rw [List.length_cons, List.length_cons, lens_of h2]
theorem lit_lst {es : List Expr} {ds : List PyData} {pos : Pos} (h : PA X es (tLits K ds)) (hl : ds.length ≤ 1000 := by decide) : PE X (.List es pos) (tLit K (.list ds)) :=
  (lstN h).weak fun σ H Q q vs H1 s1 d1 => ⟨Nat.le_trans (by rw [lens_of d1]; exact hl) (show 1000 ≤ sizeLine by decide), fun p H' n => q _ _ (s1.trans n.same) (by
    unfold Den
    exact ⟨p, vs, rfl, SqL.of (by rw [newOf_none (s1.free n.nn)]; exact n.at), d1.same (newOf_more n.same)⟩)⟩
theorem lit_tup {es : List Expr} {ds : List PyData} {x1} {pos : Pos} (h : PA X es (tLits K ds)) (hl : ds.length ≤ 1000 := by decide) : PE X (.Tuple es x1 pos) (tLit K (.tuple ds)) :=
  (tupN h).weak fun σ H Q q vs H1 s1 d1 => ⟨Nat.le_trans (by rw [lens_of d1]; exact hl) (show 1000 ≤ sizeLine by decide), fun p H' n => q _ _ (s1.trans n.same) (by
    unfold Den
    exact ⟨p, vs, rfl, SqT.of (by rw [newOf_none (s1.free n.nn)]; exact n.at), d1.same (newOf_more n.same)⟩)⟩
end
/-! a dict of the module, its keys texts -/
section
variable {X : Cx} {o i : Expr} {td ty : TE} {pos : Pos}
end
/-! x in a sequence of data -/
section
variable {X : Cx} {pins : List (Addr × Obj)} {σ : St} {H : Hp} {s : Shared}
open Classical in
end
section
variable {X : Cx}
end
section
variable {X : Cx}
end
/-- a tuple of the module -/
theorem sqt_mk {K : PySem.W.Frag} {a : Addr} {dd : Option Addr} {its : List Value} {n : Nat} {sl : Array (Option Value)} {xs : List V} (h : K.lookup a = some ⟨.type "tuple", dd, .seq its.toArray n, sl⟩) (hv : Vals xs its) (hz : xs.length ≤ 1000) (H : Hp) : SqT K H a xs :=
  .inr ⟨_, its.toArray, n, h, rfl, rfl, Nat.le_trans (by rw [List.size_toArray, ← hv.length]; exact hz) (show 1000 ≤ sizeLine by decide), by simpa using hv⟩
/-- a list written out, as an own list -/
noncomputable def tLitL (K : PySem.W.Frag) (ds : List PyData) : TE := fun _ H Q => ∀ p vs H', Same H H' → newOf H H' p = some (.lst vs) → Dens K (newOf H H') ds vs → Q (.ref p) H'
theorem lit_lstO {X : Cx} {K : PySem.W.Frag} {es : List Expr} {ds : List PyData} {pos : Pos} (h : PA X es (tLits K ds)) (hl : ds.length ≤ 1000 := by decide) : PE X (.List es pos) (tLitL K ds) :=
  (lstN h).weak fun σ H Q q vs H1 s1 d1 => ⟨Nat.le_trans (by rw [lens_of d1]; exact hl) (show 1000 ≤ sizeLine by decide), fun p H' n => q p vs H' (s1.trans n.same) (by rw [newOf_none (s1.free n.nn)]; exact n.at) (d1.same (newOf_more n.same))⟩
end L2

set_option Elab.async false
set_option linter.all false
set_option maxRecDepth 100000
set_option maxHeartbeats 4000000
/-! exceptions of own classes that are made by an own __init__, their fields -/
namespace L2
open PySem PySem.Spec PyProof.Rows PySem.W PySem.Calls Builtin Builtin.ObjectAttr
section
variable {prog : Program} {w : World} {A : Around} {K : Frag} {C e : Addr} {s : Shared} {E : Value → Shared → Prop} {f : Str} {v : Value}
end
section
variable {prog : Program} {w : World} {A : Around} {E : Value → Shared → Prop} {h0 : Heap} {g0 : Array GenState} {d0 : Drawn} {t0 : Nat} {os0 : OsState} {nm qn : Str} {C N fi : Addr} {bs up tail : List Value} {hdct : Bool} {sn : List Str} {sub : List Value} {ab : Bool}
  {col : Option Bool} {dd : Option Addr} {k0 k1 k2 k3 k5 : Option Value} {B newId initId : String}
end
/-! the rules -/
section
variable {X : Cx} {pins : List (Addr × Obj)} {σ : St} {H : Hp} {s : Shared} {e C : Addr}
end
section
variable {K : Frag} {C D N : Addr} {nm qn : Str} {bs up : List Value} {hdct : Bool} {sn : List Str} {sub : List Value} {ab : Bool} {col : Option Bool} {dd : Option Addr} {k0 k1 k2 k3 k5 : Option Value}
end
/-! a, b, .. = a list -/
section
variable {prog : Program} {w : World} {A : Around} {E : Value → Shared → Prop}
end
end L2

set_option Elab.async false
set_option linter.all false
set_option maxRecDepth 100000
set_option maxHeartbeats 4000000
/-! text.index(text), found -/
namespace L2
open PySem PySem.Spec PyProof.Rows PySem.Builtin PySem.Builtin.Str
theorem idxT {X : Cx} : MtR X "str.index" (fun x vs H Q => ∃ (a b : Str) (i : Nat) (rest : List Nat), x = .str a ∧ vs = [.str b] ∧ occurrences a b 0 a.length 1 = i :: rest ∧ Q (.int i) H) := by
  intro pins s σ H x vs v us Q I rx rv h
  obtain ⟨a, b, i, rest, rfl, rfl, ho, q⟩ := h
  obtain ⟨t, rfl⟩ := rx
  obtain ⟨u, rfl, e⟩ := rv.one
  obtain ⟨t2, rfl⟩ := e
  exact SC.index ho ⟨.int i, H, I.tok _, ⟨_, rfl⟩, q⟩
end L2

set_option Elab.async false
set_option linter.all false
namespace Z
open PySem L2
noncomputable def top (i : Nat) : Stmt := PySem.Challenge.pw_oddlong_k45_numbers_given.main.body.getD i (.Pass ⟨0, 0, 0, 0⟩)
noncomputable abbrev i_Machine : Nat := 3
noncomputable abbrev i_run_rows : Nat := 4
noncomputable abbrev i_law_begin : Nat := 6
noncomputable abbrev i_law_take : Nat := 7
noncomputable abbrev i_law_program : Nat := 8
noncomputable abbrev i_law_works : Nat := 9
noncomputable abbrev i_law_work : Nat := 10
noncomputable abbrev i_law_done : Nat := 11
noncomputable abbrev i_law_ended : Nat := 12
noncomputable abbrev i_law_stands : Nat := 13
noncomputable abbrev i_law_many : Nat := 14
noncomputable abbrev i_law_same : Nat := 15
noncomputable abbrev i_law_asking : Nat := 16
noncomputable abbrev i_law_asked : Nat := 17
noncomputable abbrev i_law_spoilt : Nat := 18
noncomputable abbrev i_law_right : Nat := 19
noncomputable abbrev i_law : Nat := 20
end Z

set_option Elab.async false
set_option linter.all false
set_option maxRecDepth 100000
set_option maxHeartbeats 4000000
namespace Z
open PySem L2
end Z

set_option Elab.async false
set_option linter.all false
set_option maxRecDepth 100000
set_option maxHeartbeats 4000000
namespace Z
open PySem L2
/-! the draws -/
structure Box (H : Hp) (b c : Addr) (t : Int) (ns : List Int) : Prop where
  d : H b = some (.dK [(.inr "cells", .ref c), (.inr "turn", .int t)])
  l : H c = some (.lst (ns.map V.int))
  ne : 0 < ns.length
  le : ns.length ≤ 64
noncomputable def hid (H : Hp) (b c : Addr) : Hp := fun a => if a = b ∨ a = c then none else H a
theorem hid_of {H : Hp} {b c a : Addr} (h1 : a ≠ b) (h2 : a ≠ c) : hid H b c a = H a := if_neg (fun z => z.elim h1 h2)
theorem of_hid {H : Hp} {b c a : Addr} {o : HO} (h : hid H b c a = some o) : H a = some o ∧ a ≠ b ∧ a ≠ c := by
  unfold hid at h
  split at h
  · cases h
  · rename_i n
    exact ⟨h, fun z => n (.inl z), fun z => n (.inr z)⟩
theorem Box.bc {H : Hp} {b c : Addr} {t : Int} {ns : List Int} (x : Box H b c t ns) : b ≠ c := ne_of x.d x.l (by intro z; cases z)
theorem Box.get_turn {H : Hp} {b c : Addr} {t : Int} {ns : List Int} (x : Box H b c t ns) : DGet H b (.str "turn") (some (.int t)) := DGet.k (k := Sum.inr "turn") x.d
theorem Box.get_cells {H : Hp} {b c : Addr} {t : Int} {ns : List Int} (x : Box H b c t ns) : DGet H b (.str "cells") (some (.ref c)) := DGet.k (k := Sum.inr "cells") x.d
theorem Box.put_turn {H : Hp} {b c : Addr} {t : Int} {ns : List Int} (x : Box H b c t ns) (t' : Int) : DPut H b (.str "turn") (.int t') (upd H b (.dK [(.inr "cells", .ref c), (.inr "turn", .int t')])) :=
  DPut.k (k := Sum.inr "turn") x.d (by show 2 < sizeLine; decide)
theorem Box.turned {H : Hp} {b c : Addr} {t : Int} {ns : List Int} (x : Box H b c t ns) (t' : Int) : Box (upd H b (.dK [(.inr "cells", .ref c), (.inr "turn", .int t')])) b c t' ns :=
  ⟨upd_same, by rw [upd_ne (Ne.symm x.bc)]; exact x.l, x.ne, x.le⟩
theorem hid_upd_b {H : Hp} {b c : Addr} {o : HO} : hid (upd H b o) b c = hid H b c := by
  funext a; unfold hid; split
  · rfl
  · rename_i n; exact upd_ne (fun z => n (.inl z))
theorem hid_upd_c {H : Hp} {b c : Addr} {o : HO} : hid (upd H c o) b c = hid H b c := by
  funext a; unfold hid; split
  · rfl
  · rename_i n; exact upd_ne (fun z => n (.inr z))
noncomputable def spTake : Sp := fun vs H Q _ => Ex5 fun (b c : Addr) (t : Int) (ns : List Int) (many : Int) => vs = [.ref b, .int many] ∧ Box H b c t ns ∧ 0 ≤ t ∧ t < 100000000 ∧ 0 < many ∧ many < 1073741824 ∧
  ∀ (r : Int) (H' : Hp) (ns' : List Int), 0 ≤ r → r < many → Box H' b c (t + 1) ns' → Same (hid H b c) (hid H' b c) → Q (.int r) H'
theorem at_of {ns : List Int} {p : Int} (h0 : 0 ≤ p) (h1 : p < ns.length) : ∃ v, atI (ns.map V.int) p = some (.int v) ∧ ns[p.toNat]? = some v := by
  have hk : p.toNat < ns.length := by (first | lia | omega)
  have ek : p = ((p.toNat : Nat) : Int) := by (first | lia | omega)
  have q : atI (ns.map V.int) ((p.toNat : Nat) : Int) = some (.int ns[p.toNat]) := atI_nat (by rw [List.getElem?_map, List.getElem?_eq_getElem hk] <;> rfl)
  rw [← ek] at q
  exact ⟨_, q, List.getElem?_eq_getElem hk⟩
theorem cm_mod {a j m : Int} (h0 : 0 < m) (h : m < 2 ^ 64) : CMul (a % m) j := by
  have h1 := Int.emod_nonneg a (b := m) (by (first | lia | omega))
  have h2 := Int.emod_lt_of_pos a h0
  exact .inl ⟨by (first | lia | omega), by (first | lia | omega)⟩
theorem ixN_of {n : Nat} {p : Int} (h0 : 0 ≤ p) (h1 : p < n) : ixN n p = some p.toNat := by unfold ixN; rw [if_pos h0, if_pos h1]
theorem hid_more {H H' : Hp} {b c : Addr} (h : ∀ a o, a ≠ b → a ≠ c → H a = some o → H' a = some o) : Same (hid H b c) (hid H' b c) := fun a o e => by
  refine Elim.el (of_hid e) _ ?_
  rintro e h1 h2
  rw [hid_of h1 h2]
  exact h a o h1 h2 e
end Z

set_option Elab.async false
set_option linter.all false
set_option maxRecDepth 100000
set_option maxHeartbeats 4000000
namespace L2
open PySem
theorem Dens.get {K : PySem.W.Frag} {H : Hp} : ∀ {ds : List PyData} {vs : List V} {i : Nat} {d : PyData}, Dens K H ds vs → ds[i]? = some d → ∃ v, vs[i]? = some v ∧ Den K H d v
  | [], _, _, _, _, e => by simp at e
  | d :: ds, vs, i, d', h, e => by
    unfold Dens at h
    obtain ⟨v, r, rfl, h1, h2⟩ := h
    cases i with
    | zero => cases e; exact ⟨v, rfl, h1⟩
    | succ i => exact Dens.get (i := i) h2 e
theorem Dens.len {K : PySem.W.Frag} {H : Hp} : ∀ {ds : List PyData} {vs : List V}, Dens K H ds vs → vs.length = ds.length
  | [], _, h => by unfold Dens at h; subst h; rfl
  | d :: ds, vs, h => by
    unfold Dens at h
    obtain ⟨v, r, rfl, h1, h2⟩ := h
    rw [List.length_cons, List.length_cons, Dens.len h2]
end L2
namespace Z
open PySem L2
theorem same_new {H : Hp} {p : Addr} (h : H p = none) (o : HO) : Same H (upd H p o) := fun b u q => by rw [upd_ne (ne_of_none q h)]; exact q
end Z

set_option Elab.async false
set_option linter.all false
set_option maxRecDepth 100000
set_option maxHeartbeats 4000000
namespace L2
open PySem
/-- a for over any iterator, N turns -/
theorem for_go {J : It} {g : TG} {tb : TS} {D : Ends} {σ : St} {H : Hp} (N : Nat) (Pv : Nat → St → Hp → Prop) (h0 : Pv 0 σ H)
    (go : ∀ i σ H, i < N → Pv i σ H → J.go i H ∧ ∀ x H', J.yld i H x H' → g x σ H' fun σ2 H2 => tb { D with nx := Pv (i + 1), ct := Pv (i + 1), bk := D.nx } σ2 H2)
    (stop : ∀ σ H, Pv N σ H → J.stop N H ∧ D.nx σ H) :
    ∃ W : Nat → Nat → St → Hp → Prop, (∃ m, W 0 m σ H) ∧ ∀ i m σ H, W i m σ H →
      (J.stop i H ∧ D.nx σ H) ∨ (J.go i H ∧ ∃ N : St → Hp → Prop, (∀ σ' H', N σ' H' → ∃ m', m' < m ∧ W (i + 1) m' σ' H') ∧ ∀ x H', J.yld i H x H' → g x σ H' fun σ2 H2 => tb { D with nx := N, ct := N, bk := D.nx } σ2 H2) := by
  refine ⟨fun i m σ H => m = N - i ∧ i ≤ N ∧ Pv i σ H, ⟨N, by simp, Nat.zero_le _, h0⟩, ?_⟩
  rintro i m σ H ⟨rfl, hi, p⟩
  by_cases hlt : i < N
  · obtain ⟨g1, g2⟩ := go i σ H hlt p
    exact .inr ⟨g1, Pv (i + 1), fun σ' H' p' => ⟨N - (i + 1), by (first | lia | omega), rfl, hlt, p'⟩, g2⟩
  · have e : i = N := by (first | lia | omega)
    subst e
    exact .inl (stop σ H p)
end L2
namespace L2
open PySem
/-- what holds behind a statement, said once -/
theorem seqCut {t u : TS} {D : Ends} {σ : St} {H : Hp} (Ex : St → Hp → Prop) (h : ∀ Nx : St → Hp → Prop, (∀ σ H, Ex σ H → Nx σ H) → t { D with nx := Nx } σ H) (fin : ∀ σ H, Ex σ H → u D σ H) : tSeq t u D σ H := h (u D) fin
/-- a while, by a falling number -/
theorem whileGo {c : TT} {tb : TS} {D : Ends} {σ : St} {H : Hp} (Pv : Nat → St → Hp → Prop) (h0 : ∃ m, Pv m σ H)
    (hs : ∀ m σ H, Pv m σ H → c σ H fun b H1 => if b = true then ∃ N : St → Hp → Prop, (∀ σ' H', N σ' H' → ∃ m', m' < m ∧ Pv m' σ' H') ∧ tb { D with nx := N, ct := N, bk := D.nx } σ H1 else D.nx σ H1) : tWhile c tb D σ H := ⟨Pv, h0, hs⟩
end L2
namespace L2
open PySem
end L2
namespace L2
open PySem
/-- a name has been given -/
theorem gn {i : Nat} {v : V} {σ : St} {H : Hp} {Q : St → Hp → Prop} (h : Q (σ.set i (some v)) H) : gName i v σ H Q := h
end L2

set_option Elab.async false
set_option linter.all false
set_option maxRecDepth 100000
set_option maxHeartbeats 4000000
namespace Z
open PySem L2
/-- the box at b, its list at c, t draws done -/
noncomputable def Bx (H : Hp) (b c : Addr) (t : Int) : Prop := ∃ ns, Box H b c t ns
/-- from H to H': at most N draws more; all else stands -/
structure Step (b c : Addr) (H H' : Hp) (t t' N : Int) : Prop where
  le : t ≤ t'
  ub : t' ≤ t + N
  bx : Bx H' b c t'
  sm : Same (hid H b c) (hid H' b c)
theorem Step.refl {b c : Addr} {H : Hp} {t : Int} (h : Bx H b c t) : Step b c H H t t 0 := ⟨Int.le_refl _, by (first | lia | omega), h, Same.refl _⟩
theorem Step.trans {b c : Addr} {H H' H2 : Hp} {t t' t2 N M : Int} (x : Step b c H H' t t' N) (y : Step b c H' H2 t' t2 M) : Step b c H H2 t t2 (N + M) :=
  ⟨by have := x.le; have := y.le; (first | lia | omega), by have := x.ub; have := y.ub; (first | lia | omega), y.bx, x.sm.trans y.sm⟩
theorem Step.more {b c : Addr} {H H' : Hp} {t t' N M : Int} (x : Step b c H H' t t' N) (h : N ≤ M) : Step b c H H' t t' M := ⟨x.le, by have := x.ub; (first | lia | omega), x.bx, x.sm⟩
theorem Bx.ne_new {H : Hp} {b c p : Addr} {t : Int} (x : Bx H b c t) (h : H p = none) : p ≠ b ∧ p ≠ c := by
  obtain ⟨ns, x⟩ := x
  exact ⟨fun z => (by rw [z, x.d] at h; cases h), fun z => (by rw [z, x.l] at h; cases h)⟩
theorem Bx.upd {H : Hp} {b c p : Addr} {t : Int} {o : HO} (x : Bx H b c t) (h1 : p ≠ b) (h2 : p ≠ c) : Bx (upd H p o) b c t := by
  obtain ⟨ns, x⟩ := x
  exact ⟨ns, by rw [upd_ne (Ne.symm h1)]; exact x.d, by rw [upd_ne (Ne.symm h2)]; exact x.l, x.ne, x.le⟩
/-- a new object -/
theorem Step.new {b c p : Addr} {H H' : Hp} {t t' N : Int} (x : Step b c H H' t t' N) (h : H' p = none) (o : HO) : Step b c H (upd H' p o) t t' N :=
  ⟨x.le, x.ub, x.bx.upd (x.bx.ne_new h).1 (x.bx.ne_new h).2, x.sm.trans (hid_more fun a u _ _ e => by rw [upd_ne (ne_of_none e h)]; exact e)⟩
/-- an object changed that was not there at the start -/
theorem Step.chg {b c p : Addr} {H H' : Hp} {t t' N : Int} (x : Step b c H H' t t' N) (h : H p = none) (h1 : p ≠ b) (h2 : p ≠ c) (o : HO) : Step b c H (upd H' p o) t t' N :=
  ⟨x.le, x.ub, x.bx.upd h1 h2, fun a u e => by
    have q := x.sm a u e
    obtain ⟨q, n1, n2⟩ := of_hid q
    rw [hid_of n1 n2, upd_ne (fun z => ?_)]
    · exact q
    · rw [z] at e
      rw [(of_hid e).1] at h; cases h⟩
theorem Step.old {b c a : Addr} {H H' : Hp} {t t' N : Int} {o : HO} (x : Step b c H H' t t' N) (h : H a = some o) (h1 : a ≠ b) (h2 : a ≠ c) : H' a = some o :=
  (of_hid (x.sm a o (by rw [hid_of h1 h2]; exact h))).1
theorem Step.fresh {b c a : Addr} {H H' : Hp} {t t' N : Int} (x : Step b c H H' t t' N) (hb : Bx H b c t) (h : H' a = none) : H a = none := by
  obtain ⟨h1, h2⟩ := x.bx.ne_new h
  cases e : H a with
  | none => rfl
  | some o => rw [x.old e h1 h2] at h; cases h
theorem Same.hid {H H' : Hp} {b c : Addr} (s : Same H H') : Same (hid H b c) (hid H' b c) := hid_more fun a o _ _ e => s a o e
theorem Bx.same {H H' : Hp} {b c : Addr} {t : Int} (x : Bx H b c t) (s : Same H H') : Bx H' b c t := by
  obtain ⟨ns, x⟩ := x
  exact ⟨ns, s _ _ x.d, s _ _ x.l, x.ne, x.le⟩
theorem Step.same {b c : Addr} {H H' : Hp} {t : Int} (x : Bx H b c t) (s : Same H H') : Step b c H H' t t 0 := ⟨Int.le_refl _, by (first | lia | omega), x.same s, Same.hid s⟩
/-- the draw, said so -/
noncomputable def spTk : Sp := fun vs H Q _ => Ex4 fun (b c : Addr) (t many : Int) => vs = [.ref b, .int many] ∧ Bx H b c t ∧ 0 ≤ t ∧ t < 100000000 ∧ 0 < many ∧ many < 1073741824 ∧
  ∀ (r : Int) (H' : Hp), 0 ≤ r → r < many → Step b c H H' t (t + 1) 1 → Q (.int r) H'
theorem spTk_of {vs : List V} {H : Hp} {Q : VK} {E : XK} (h : spTk vs H Q E) : spTake vs H Q E := by
  obtain ⟨b, c, t, many, e, ⟨ns, bx⟩, h1, h2, h3, h4, q⟩ := h
  exact ⟨b, c, t, ns, many, e, bx, h1, h2, h3, h4, fun r H' ns' r0 r1 bx' sm => q r H' r0 r1 ⟨by (first | lia | omega), by (first | lia | omega), ⟨ns', bx'⟩, sm⟩⟩
theorem cut_to (vs : List V) (j : Nat) : cutV vs none (some (j : Int)) = vs.take j := by
  unfold cutV
  rw [HT.sIx_none, HT.sIx_nat, List.drop_zero, Nat.sub_zero]
  rcases Nat.le_total j vs.length with h | h
  · rw [Nat.min_eq_left h]
  · rw [Nat.min_eq_right h, List.take_of_length_le (Nat.le_refl _), List.take_of_length_le h]
theorem cut_from (vs : List V) (j : Nat) : cutV vs (some (j : Int)) none = vs.drop j := by
  unfold cutV
  rw [HT.sIx_none, HT.sIx_nat]
  rcases Nat.le_total j vs.length with h | h
  · rw [Nat.min_eq_left h, List.take_of_length_le (by rw [List.length_drop]; exact Nat.le_refl _)]
  · rw [Nat.min_eq_right h, List.drop_of_length_le (Nat.le_refl _), List.drop_of_length_le h]; simp
theorem Fn.imp {P : Program} {w : World} {K : PySem.W.Frag} {mg : Str → Option Value} {base : Heap} {k : Nat} {x : Str} {ps : List Str} {sp sp' : Sp} (F : Fn P w K mg base k x ps sp) (h : ∀ vs H Q E, sp' vs H Q E → sp vs H Q E) : Fn P w K mg base k x ps sp' := by
  obtain ⟨f, fd, a, b, c, d⟩ := F.ex
  exact ⟨f, fd, a.imp h, b, c, d⟩
end Z
namespace Z
open PySem L2
theorem Step.newN {b c p : Addr} {H H' H2 : Hp} {t t' N : Int} {o : HO} (x : Step b c H H' t t' N) (n : New H' p o H2) : Step b c H H2 t t' N := by rw [n.eq]; exact x.new n.nn _
theorem Step.chgN {b c p : Addr} {H H' H2 : Hp} {t t' N : Int} {o : HO} (x : Step b c H H' t t' N) (n : Chg H' p o H2) (h : H p = none) (h1 : p ≠ b) (h2 : p ≠ c) : Step b c H H2 t t' N := by rw [n.eq]; exact x.chg h h1 h2 _
end Z

set_option Elab.async false
set_option linter.all false
set_option maxRecDepth 100000
set_option maxHeartbeats 4000000
namespace Z
open PySem L2
end Z

set_option Elab.async false
set_option linter.all false
set_option maxRecDepth 100000
set_option maxHeartbeats 4000000
namespace Z
open PySem L2
end Z

set_option Elab.async false
set_option linter.all false
set_option maxRecDepth 100000
set_option maxHeartbeats 4000000
namespace Z
open PySem L2
/-- may be compared, and is no deeper than n -/
noncomputable def Sh (n : Nat) (d : PyData) : Prop := d.canLay0 = true ∧ d.depth ≤ n
theorem Sh.all {n : Nat} : ∀ {ds : List PyData}, (∀ d ∈ ds, Sh n d) → PyData.canLayAll0 ds = true ∧ PyData.depthAll ds ≤ n
  | [], _ => ⟨by simp [PyData.canLayAll0], by simp [PyData.depthAll]⟩
  | d :: ds, h => by
    obtain ⟨h1, h2⟩ := h d List.mem_cons_self
    obtain ⟨h3, h4⟩ := Sh.all fun e he => h e (List.mem_cons_of_mem _ he)
    exact ⟨by simp [PyData.canLayAll0, h1, h3], by simp only [PyData.depthAll]; (first | lia | omega)⟩
theorem Sh.list {n : Nat} {ds : List PyData} (h : ∀ d ∈ ds, Sh n d) : Sh (n + 1) (.list ds) := by
  obtain ⟨h1, h2⟩ := Sh.all h
  exact ⟨by simpa [PyData.canLay0] using h1, by simp only [PyData.depth]; (first | lia | omega)⟩
theorem Sh.shaped {n : Nat} {d : PyData} (h : Sh n d) (hn : n ≤ 64) : SeqAt.shaped d = true := by
  unfold SeqAt.shaped
  rw [h.1, decide_eq_true (Nat.le_trans h.2 hn)]
  rfl
theorem Sh.str {n : Nat} {x : Str} (h : PyData.canLay0 (.str x) = true) : Sh n (.str x) := ⟨h, by simp [PyData.depth]⟩
theorem Sh.int {n : Nat} {i : Int} : Sh n (.int i) := ⟨by simp [PyData.canLay0], by simp [PyData.depth]⟩
theorem canLay_small {x : Str} (h : ∀ ch ∈ x.cps.toList, ch < 128) : PyData.canLay0 (.str x) = true := by
  simp only [PyData.canLay0, PyData.strOk]
  rw [← Array.all_toList, List.all_eq_true]
  intro ch hc
  have := h ch hc
  exact decide_eq_true (by (first | lia | omega))
theorem Den.list {K : PySem.W.Frag} {H : Hp} {l : Addr} {ds : List PyData} {vs : List V} (h : SqL K H l vs) (hd : Dens K H ds vs) : Den K H (.list ds) (.ref l) := by
  unfold Den
  exact ⟨l, vs, rfl, h, hd⟩
end Z

set_option Elab.async false
set_option linter.all false
set_option maxRecDepth 100000
set_option maxHeartbeats 4000000
namespace Z
open PySem L2
theorem Dens.of_get {K : PySem.W.Frag} {H : Hp} : ∀ {ds : List PyData} {vs : List V}, ds.length = vs.length → (∀ (j : Nat) d v, ds[j]? = some d → vs[j]? = some v → Den K H d v) → Dens K H ds vs
  | [], [], _, _ => by unfold Dens; rfl
  | [], _ :: _, h, _ => by simp at h
  | _ :: _, [], h, _ => by simp at h
  | d :: ds, v :: vs, h, g => by
    unfold Dens
    exact ⟨v, vs, rfl, g 0 d v rfl rfl, Dens.of_get (by simpa using h) fun j d' v' h1 h2 => g (j + 1) d' v' h1 h2⟩
end Z

set_option Elab.async false
set_option linter.all false
set_option maxRecDepth 100000
set_option maxHeartbeats 4000000
namespace Z
open PySem L2
theorem hid_same {H : Hp} {b c : Addr} : Same (hid H b c) H := fun a o e => (of_hid e).1
theorem densAt {K : PySem.W.Frag} {H : Hp} {ds : List PyData} {vs : List V} {j : Nat} {d : PyData} {v : V} (h : Dens K H ds vs) (hd : ds[j]? = some d) (hv : vs[j]? = some v) : Den K H d v := by
  obtain ⟨u, hu, q⟩ := h.get hd
  rw [hv] at hu; cases hu
  exact q
theorem densApp {K : PySem.W.Frag} {H : Hp} {ds : List PyData} {vs : List V} {d : PyData} {v : V} (h : Dens K H ds vs) (q : Den K H d v) : Dens K H (ds ++ [d]) (vs ++ [v]) := by
  have hl := h.len
  refine Dens.of_get (by simp [hl]) fun j d' v' h1 h2 => ?_
  by_cases e : j < ds.length
  · rw [List.getElem?_append_left e] at h1
    rw [List.getElem?_append_left (by (first | lia | omega))] at h2
    exact densAt h h1 h2
  · rw [List.getElem?_append_right (by (first | lia | omega))] at h1
    rw [List.getElem?_append_right (by (first | lia | omega)), hl] at h2
    have : j - ds.length = 0 := by
      have := (List.getElem?_eq_some_iff.mp h1).1
      simp at this; (first | lia | omega)
    rw [this] at h1 h2
    cases h1; cases h2; exact q
theorem weight_int {i : Int} (h : i.natAbs < 2 ^ 200) : PyData.weight (.int i) ≤ 201 := by
  simp only [PyData.weight]
  split
  · (first | lia | omega)
  · rename_i h0
    have hne : i.natAbs ≠ 0 := by
      intro z
      exact h0 (by simp; (first | lia | omega))
    have := (Nat.log2_lt hne).mpr h
    (first | lia | omega)
end Z

set_option Elab.async false
set_option linter.all false
set_option maxRecDepth 100000
set_option maxHeartbeats 4000000
namespace Z
open PySem L2
noncomputable def spBegin (K : PySem.W.Frag) : Sp := fun vs H Q _ => Ex2 fun (a : Addr) (ns : List Int) => vs = [.ref a] ∧ SqL K H a (ns.map V.int) ∧ ns.length ≤ 63 ∧
  ∀ (b c : Addr) (H' : Hp), Bx H' b c 0 → H b = none → H c = none → Same H (hid H' b c) → Q (.ref b) H'
theorem Den.ints {K : PySem.W.Frag} {H : Hp} : ∀ (ns : List Int), Dens K H (ns.map PyData.int) (ns.map V.int)
  | [] => by unfold Dens; rfl
  | n :: ns => by
    rw [List.map_cons, List.map_cons]
    unfold Dens
    exact ⟨_, _, rfl, by unfold Den; rfl, Den.ints ns⟩
theorem eqvNil (ds : List PyData) : PyData.eqv (.list ds) (.list []) = ds.isEmpty := by
  cases ds <;> simp [PyData.eqv, PyData.eqvAll]
theorem sh_ints {n : Nat} (ns : List Int) : Sh (n + 1) (.list (ns.map PyData.int)) := Sh.list fun d hd => by
  obtain ⟨i, _, rfl⟩ := List.mem_map.mp hd
  exact Sh.int
section
variable {P : Program} {w : World} {K : PySem.W.Frag} {mg : Str → Option Value} {base : Heap} {f : Addr} {fd : FuncData}
theorem sc_law_begin : FnScope ["_law_script", "_law_cells"] ["_law_script"] (defScope (top i_law_begin)) := ⟨rfl, rfl, rfl, by decide +kernel, rfl, by decide +kernel, by decide +kernel⟩
theorem ok_begin (F : Fun K "_law_begin" "_law_begin" (top i_law_begin) f fd) (T : Nm mg) : FnOk P w K mg base CX0 1 f fd ["_law_script"] (spBegin K) := by
  refine F.ok sc_law_begin (fun vs H Q E h => ?_) (fun cdv A outer s H vs Q E hr h => ?_)
  · obtain ⟨a, ns, rfl, _⟩ := h
    rfl
  obtain ⟨a, ns, rfl, hS, hlen, q⟩ := h
  have hu6 := hr.units
  refine ⟨_, (pss_cons (ps_set (i := 1) sc_law_begin.nd rfl (Or.inl rfl) (pe_callTy (listN K) rfl T.n_list (by rfl) (pa_cons (pe_slice (slN K) (pv 0) po_none (po_some pe_int)) pa_nil)))
    (pss_cons (ps_if (pt_cmpR (eqK K hu6) (pv 1) (lstN pa_nil) (nomark _)) (pss_one (ps_set (i := 1) sc_law_begin.nd rfl (Or.inl rfl) (lstN (pa_cons pe_int pa_nil)))) pss_nil)
    (pss_one (ps_ret (dispN (pps_cons pe_str (pv 1) (pps_cons pe_str pe_int pps_nil)) rfl rfl (by decide) (by decide)))))), ?_⟩
  refine ⟨_, rfl, _, rfl, .inl ⟨a, _, rfl, hS, fun r1 H1 n1 => ?_⟩⟩
  refine ⟨r1, _, rfl, .inl (SqL.of n1.at), fun r2 H2 n2 => gn ?_⟩
  have hc : cutV (ns.map V.int) none (some 63) = ns.map V.int := by
    have e := cut_to (ns.map V.int) 63
    rw [List.take_of_length_le (by rw [List.length_map]; exact hlen)] at e
    exact e
  have hn2 : H2 r2 = some (.lst (ns.map V.int)) := by rw [← hc]; exact n2.at
  have sm2 := n1.same.trans n2.same
  dsimp only
  refine seqCut (t := tIfS _ _ _) (fun σ H' => ∃ (r : Addr) (ns' : List Int), σ = [some (.ref a), some (.ref r)] ∧ H' r = some (.lst (ns'.map V.int)) ∧ 0 < ns'.length ∧ ns'.length ≤ 64 ∧ H r = none ∧ Same H H') (fun Nx nx => ?_) ?_
  · refine ⟨_, rfl, by show 0 ≤ sizeLine; decide, fun r3 H3 n3 => ?_⟩
    have d2 : Den K H3 (.list (ns.map PyData.int)) (.ref r2) := Den.list (SqL.of (n3.same _ _ hn2)) (Den.ints ns)
    have d3 : Den K H3 (.list []) (.ref r3) := Den.list (SqL.of n3.at) (Den.ints [])
    refine .inr ⟨_, _, d2, d3, (sh_ints (n := 1) ns).shaped (by decide), by decide +kernel, _, rfl, ?_⟩
    rw [eqvNil]
    refine ite2 (fun e => ?_) (fun e => ?_)
    · refine ⟨by show 1 ≤ sizeLine; decide, fun r4 H4 n4 => gn (nx _ _ ⟨r4, [_], rfl, n4.at, by decide, by decide, (sm2.trans n3.same).free n4.nn, sm2.trans (n3.same.trans n4.same)⟩)⟩
    · refine nx _ _ ⟨r2, ns, rfl, n3.same _ _ hn2, ?_, by (first | lia | omega), n1.same.free n2.nn, sm2.trans n3.same⟩
      cases ns with
      | nil => exact absurd rfl e
      | cons _ _ => exact Nat.succ_pos _
  rintro σ H3 ⟨r, ns', rfl, hr', l0, l1, hn, sm⟩
  intro p H0 n0
  refine ⟨_, rfl, ?_⟩
  refine ⟨n0.at, [(.inr "cells", .ref r), (.inr "turn", .int 0)], rfl, by show 2 ≤ 15; decide, fun H6 n6 => ?_⟩
  have hpr : r ≠ p := ne_of_none hr' n0.nn
  have hp : H p = none := sm.free n0.nn
  refine q p r H6 ⟨ns', ?_, ?_, l0, l1⟩ hp hn (fun b o e => ?_)
  · rw [n6.at]; rfl
  · rw [n6.ne hpr, n0.ne hpr]; exact hr'
  · have hb1 : b ≠ p := ne_of_none e hp
    have hb2 : b ≠ r := ne_of_none e hn
    rw [hid_of hb1 hb2, n6.ne hb1, n0.ne hb1]
    exact sm _ _ e
end
end Z

set_option Elab.async false
set_option linter.all false
set_option maxRecDepth 100000
set_option maxHeartbeats 4000000
namespace Z
open PySem L2
/-! the plain draw -/
theorem Box.same {H H' : Hp} {b c : Addr} {t : Int} {ns : List Int} (x : Box H b c t ns) (s : Same H H') : Box H' b c t ns := ⟨s _ _ x.d, s _ _ x.l, x.ne, x.le⟩
section
variable {P : Program} {w : World} {K : PySem.W.Frag} {mg : Str → Option Value} {base : Heap} {f : Addr} {fd : FuncData}
theorem sc_law_take : FnScope ["_law_state", "_law_many_here", "_law_turn", "_law_place", "_law_cell", "_law_digit", "_law_mixed"] ["_law_state", "_law_many_here"] (defScope (top i_law_take)) := ⟨rfl, rfl, rfl, by decide +kernel, rfl, by decide +kernel, by decide +kernel⟩
theorem ok_take (F : Fun K "_law_take" "_law_take" (top i_law_take) f fd) (T : Nm mg) : FnOk P w K mg base CX0 1 f fd ["_law_state", "_law_many_here"] spTake := by
  refine F.ok sc_law_take (fun vs H Q E h => ?_) (fun cdv A outer s H vs Q E hr h => ?_)
  · obtain ⟨b, c, t, ns, many, rfl, _⟩ := h
    rfl
  obtain ⟨b, c, t, ns, many, rfl, bx, t0, t1, m0, m1, q⟩ := h
  have hu := hu_of hr
  refine ⟨_, (pss_cons (ps_set (i := 2) sc_law_take.nd rfl (Or.inl rfl) (pe_op addN (pe_dget hu (pv 0) pe_str (fun _ _ => rfl)) pe_int))
    (pss_cons (ps_dput hu (pv 0) pe_str (pv 2) rfl)
    (pss_cons (ps_set (i := 3) sc_law_take.nd rfl (Or.inl rfl) (pe_op op_mod (pv 2) (pe_callB (lenK K) rfl T.n_len (by rfl) (pa_cons (pe_dget hu (pv 0) pe_str (fun _ _ => rfl)) pa_nil))))
    (pss_cons (ps_set (i := 4) sc_law_take.nd rfl (Or.inl rfl) (pe_ix (ixK K) (pe_dget hu (pv 0) pe_str (fun _ _ => rfl)) (pv 3) (fun _ _ => rfl)))
    (pss_cons (ps_if (pt_cmpR op_ge (pv 4) (pe_op op_pow pe_int pe_int) (nomark _)) (pss_cons (ps_asg (pe_callB divmodN rfl T.n_divmod (by rfl) (pa_cons (pv 4) (pa_cons (pv 1) pa_nil))) (tupK K 2 rfl (pgs_cons (pg_sub (pe_dget hu (pv 0) pe_str (fun _ _ => rfl)) (pv 3) set_list) (pgs_cons (pg_name (i := 5) sc_law_take.nd rfl (Or.inl rfl)) pgs_nil))))
    (pss_one (ps_ret (pv 5)))) pss_nil)
    (pss_cons (ps_set (i := 6) sc_law_take.nd rfl (Or.inl rfl) (pe_op op_mod (pe_op mulN (pe_op addN (pe_op addN (pe_op op_mod (pv 4) pe_int) (pe_op mulN (pe_op mulN (pv 2) (pv 2)) pe_int)) pe_int) pe_int) pe_int))
    (pss_cons (ps_set (i := 6) sc_law_take.nd rfl (Or.inl rfl) (pe_op op_mod (pe_op mulN (pv 6) (pv 6)) pe_int))
    (pss_one (ps_ret (pe_op op_mod (pe_op op_fdiv (pe_op op_mod (pe_op mulN (pe_op addN (pv 6) (pe_op mulN (pv 2) pe_int)) pe_int) pe_int) pe_int) (pv 1))))))))))), ?_⟩
  refine ⟨_, rfl, b, _, rfl, bx.get_turn, .inl ⟨_, _, rfl, rfl, ?_⟩⟩
  refine ⟨_, rfl, _, rfl, b, _, rfl, bx.put_turn (t + 1), ?_⟩
  have bx1 := bx.turned (t + 1)
  refine ⟨_, rfl, _, rfl, b, _, rfl, bx1.get_cells, _, _, rfl, .inl ⟨_, SqL.of bx1.l, rfl⟩, _, _, rfl, rfl, ?_, ?_⟩
  · rw [List.length_map]; have := bx1.ne; (first | lia | omega)
  have hlen : (ns.map V.int).length = ns.length := List.length_map _
  have hp0 : 0 ≤ (t + 1) % ((ns.map V.int).length : Int) := Int.emod_nonneg _ (by have := bx1.ne; (first | lia | omega))
  have hp1 : (t + 1) % ((ns.map V.int).length : Int) < ns.length := by rw [hlen]; exact Int.emod_lt_of_pos _ (by have := bx1.ne; (first | lia | omega))
  refine Elim.el (at_of hp0 hp1) _ ?_
  rintro v hv hv'
  refine ⟨_, rfl, b, _, rfl, bx1.get_cells, _, rfl, .inl ⟨c, _, _, _, rfl, rfl, SqL.of bx1.l, hv, ?_⟩⟩
  refine ⟨_, rfl, _, _, rfl, rfl, ⟨by decide, by decide, by decide⟩, _, _, rfl, rfl, _, rfl, ?_⟩
  refine ite2 (fun _ => ?_) (fun _ => ?_)
  · refine ⟨_, rfl, _, rfl, v, many, rfl, ⟨m0, by (first | lia | omega)⟩, fun pt H2 n2 => ?_⟩
    obtain ⟨hpb, hpc⟩ : pt ≠ b ∧ pt ≠ c := ⟨fun z => (by have := n2.nn; rw [z, bx1.d] at this; cases this), fun z => (by have := n2.nn; rw [z, bx1.l] at this; cases this)⟩
    have bx2 := bx1.same n2.same
    refine ⟨pt, _, rfl, SqT.of n2.at, rfl, _, _, rfl, ?_⟩
    refine ⟨_, rfl, b, _, rfl, bx2.get_cells, _, rfl, c, _, _, _, rfl, rfl, bx2.l, ixN_of hp0 (by simpa only [hlen] using hp1), ?_⟩
    refine ⟨_, _, rfl, rfl, _, rfl, ?_⟩
    refine q (v % many) _ (ns.set ((t + 1) % ((ns.map V.int).length : Int)).toNat (v / many)) (Int.emod_nonneg _ (by (first | lia | omega))) (Int.emod_lt_of_pos _ m0) ⟨?_, ?_, ?_, ?_⟩ ?_
    · rw [upd_ne bx2.bc]; exact bx2.d
    · rw [upd_same, List.map_set]
    · rw [List.length_set]; exact bx1.ne
    · rw [List.length_set]; exact bx1.le
    · rw [hid_upd_c]
      refine hid_more fun a o h1 h2 e => ?_
      rw [n2.ne (fun z => ?_), upd_ne h1]
      · exact e
      · have z2 := n2.nn
        rw [upd_ne hpb, ← z, e] at z2
        cases z2
  · refine ⟨_, rfl, _, _, rfl, rfl, (by dsimp only; decide), _, rfl, _, rfl, .inl ⟨_, _, rfl, rfl, .inl ⟨by (first | lia | omega), by (first | lia | omega)⟩, .inl ⟨_, _, rfl, rfl, .inr ⟨by decide, by decide⟩, .inl ⟨_, _, rfl, rfl, .inl ⟨_, _, rfl, rfl, .inl ⟨_, _, rfl, rfl, .inr ⟨by decide, by decide⟩, _, _, rfl, rfl, (by dsimp only; decide), ?_⟩⟩⟩⟩⟩⟩
    have cm : ∀ (x y p : Int), 0 < p → p < 2 ^ 64 → CMul (x % p) y := fun x y p h0 h1 => cm_mod h0 h1
    refine ⟨_, rfl, _, rfl, .inl ⟨_, _, rfl, rfl, cm _ _ _ (by decide) (by decide), ?_⟩⟩
    refine ⟨_, _, rfl, rfl, (by dsimp only; decide), ?_⟩
    refine ⟨_, rfl, _, rfl, .inl ⟨_, _, rfl, rfl, .inl ⟨by (first | lia | omega), by (first | lia | omega)⟩, .inl ⟨_, _, rfl, rfl, .inl ⟨_, _, rfl, rfl, .inr ⟨by decide, by decide⟩, _, _, rfl, rfl, (by dsimp only; decide), _, _, rfl, rfl, ⟨by decide, by decide⟩, _, rfl, _, _, rfl, rfl, m0, ?_⟩⟩⟩⟩
    exact q _ _ ns (Int.emod_nonneg _ (by (first | lia | omega))) (Int.emod_lt_of_pos _ m0) bx1 (by rw [hid_upd_b]; exact Same.refl _)
end
end Z

set_option Elab.async false
set_option linter.all false
set_option maxRecDepth 100000
set_option maxHeartbeats 4000000
namespace Z
open PySem L2
noncomputable def Asz (x : Str) : Bool := x.cps.all (· < 128)
mutual
/-- plain data -/
noncomputable def Pz : PyData → Bool
  | .none | .bool _ => true
  | .int i => decide (i.natAbs < 10 ^ 40)
  | .str x => Asz x
  | .list ds | .tuple ds => Pzs ds
  | .dict _ => false
noncomputable def Pzs : List PyData → Bool
  | [] => true
  | d :: ds => Pz d && Pzs ds
end
theorem lText_len (ts : List Str) : (listText ts).length ≤ piled ts + 2 := by
  unfold listText
  rw [strLen_append]
  have e : (((("]" : String) : Str))).length = 1 := rfl
  rw [e]
  cases ts with
  | nil => exact Nat.le_refl _
  | cons t ts =>
    have q := textFrom_length_pos ts 1 ((("[" : String) : Str) ++ ((if 0 > 0 then ", " else "" : String) : Str) ++ t) (by decide)
    show (textFrom 1 _ ts).length + 1 ≤ _
    rw [q, strLen_append, strLen_append, piled_cons]
    have e1 : (((("[" : String) : Str))).length = 1 := rfl
    have e2 : ((((if 0 > 0 then ", " else "" : String) : Str))).length = 0 := rfl
    rw [e1, e2]
    (first | lia | omega)
theorem tText_len (ts : List Str) : (tupleText ts).length ≤ piled ts + 3 := by
  unfold tupleText
  rw [strLen_append, strLen_append]
  have e1 : ((("(" : String) : Str)).length = 1 := rfl
  have e3 : (((if ts.length == 1 then ",)" else ")" : String) : Str)).length ≤ 2 := by split <;> decide
  have e2 : (Str.join ", " ts).length ≤ piled ts := by
    cases ts with
    | nil => exact Nat.le_refl _
    | cons t ts => have := join_length_add (t :: ts) (by simp); (first | lia | omega)
  rw [e1]
  (first | lia | omega)
theorem int_len {i : Int} (h : i.natAbs < 10 ^ 40) : (Str.ofString (toString i)).length ≤ 41 := by
  cases i with
  | ofNat n =>
    have := PyProof.Rows.toString_length_le (v := Int.ofNat n) (by simp) (k := 40) (by decide) (by
      have h : n < 10 ^ 40 := h
      show ((n : Nat) : Int) < 10 ^ 40
      exact_mod_cast h)
    (first | lia | omega)
  | negSucc n =>
    have h : n + 1 < 10 ^ 40 := h
    have := PyProof.Rows.toString_length_le (v := Int.ofNat (n + 1)) (by show (0 : Int) ≤ ((n + 1 : Nat) : Int); (first | lia | omega)) (k := 40) (by decide) (by
      show ((n + 1 : Nat) : Int) < 10 ^ 40
      exact_mod_cast h)
    have e : toString (Int.negSucc n) = "-" ++ toString (Int.ofNat (n + 1)) := rfl
    rw [e]
    have e2 : ∀ a b : String, (Str.ofString (a ++ b)).length = (Str.ofString a).length + (Str.ofString b).length := fun a b => by
      simp [PyProof.Rows.ofString_length]
    rw [e2]
    have e3 : (Str.ofString "-").length = 1 := rfl
    (first | lia | omega)
mutual
theorem pz_shown : ∀ (d : PyData), Pz d = true → d.shown.length ≤ 44 * d.weight + 42 ∧ d.showable = true ∧ d.canLay0 = true
  | .none, _ => ⟨by decide +kernel, rfl, rfl⟩
  | .bool b, _ => ⟨by cases b <;> decide +kernel, rfl, rfl⟩
  | .int i, h => by
    have h : i.natAbs < 10 ^ 40 := by simpa [Pz] using h
    refine ⟨?_, ?_, rfl⟩
    · have := int_len h
      simp only [PyData.shown]
      show (Str.ofString (toString i)).length ≤ _
      (first | lia | omega)
    · simp only [PyData.showable, decide_eq_true_eq]
      by_cases z : i.natAbs = 0
      · rw [z]; decide
      · exact (Nat.log2_lt z).mpr (Nat.lt_of_lt_of_le h (by decide))
  | .str x, h => by
    have hx : ∀ c ∈ x.cps.toList, c < 128 := fun c hc => by
      have h : Asz x = true := by simpa only [Pz] using h
      unfold Asz at h
      rw [Array.all_eq_true_iff_forall_mem] at h
      have := h c (by simpa using hc)
      simpa using this
    refine ⟨?_, rfl, ?_⟩
    · have := StrLaws.reprText_len x fun c hc => Nat.lt_of_lt_of_le (hx c hc) (by decide)
      simp only [PyData.shown, PyData.weight]
      have e : x.cps.size = x.length := rfl
      (first | lia | omega)
    · exact (Sh.str (n := 0) (canLay_small fun ch hc => by have := hx ch hc; (first | lia | omega))).1
  | .list ds, h => by
    obtain ⟨h1, h2, h3⟩ := pzs_shown ds (by simpa only [Pz] using h)
    refine ⟨?_, by simpa only [PyData.showable] using h2, by simpa only [PyData.canLay0] using h3⟩
    have := lText_len (PyData.shownAll ds)
    simp only [PyData.shown, PyData.weight]
    (first | lia | omega)
  | .tuple ds, h => by
    obtain ⟨h1, h2, h3⟩ := pzs_shown ds (by simpa only [Pz] using h)
    refine ⟨?_, by simpa only [PyData.showable] using h2, by simpa only [PyData.canLay0] using h3⟩
    have := tText_len (PyData.shownAll ds)
    simp only [PyData.shown, PyData.weight]
    (first | lia | omega)
  | .dict _, h => by simp [Pz] at h
theorem pzs_shown : ∀ (ds : List PyData), Pzs ds = true → piled (PyData.shownAll ds) ≤ 44 * PyData.weightAll ds ∧ PyData.showableAll ds = true ∧ PyData.canLayAll0 ds = true
  | [], _ => ⟨Nat.le_refl _, rfl, rfl⟩
  | d :: ds, h => by
    simp only [Pzs, Bool.and_eq_true] at h
    obtain ⟨a1, a2, a3⟩ := pz_shown d h.1
    obtain ⟨b1, b2, b3⟩ := pzs_shown ds h.2
    refine ⟨?_, by simp only [PyData.showableAll, a2, b2]; rfl, by simp only [PyData.canLayAll0, a3, b3]; rfl⟩
    simp only [PyData.shownAll, PyData.weightAll, piled_cons]
    (first | lia | omega)
end
theorem pzs_iff {ds : List PyData} : Pzs ds = true ↔ ∀ d ∈ ds, Pz d = true := by
  induction ds with
  | nil => simp [Pzs]
  | cons d ds ih => simp [Pzs, ih]
theorem dAll_le {m : Nat} : ∀ {ds : List PyData}, (∀ e ∈ ds, e.depth ≤ m) → PyData.depthAll ds ≤ m
  | [], _ => by simp [PyData.depthAll]
  | d :: ds, h => by
    have := dAll_le (m := m) (ds := ds) fun e he => h e (List.mem_cons_of_mem _ he)
    have := h d List.mem_cons_self
    simp only [PyData.depthAll]
    (first | lia | omega)
/-- plain data of a known size -/
structure Gd (w dp : Nat) (d : PyData) : Prop where
  pz : Pz d = true
  wt : d.weight ≤ w
  dp : d.depth ≤ dp
theorem Gd.mono {w dp w' dp' : Nat} {d : PyData} (h : Gd w dp d) (hw : w ≤ w') (hd : dp ≤ dp') : Gd w' dp' d := ⟨h.pz, Nat.le_trans h.wt hw, Nat.le_trans h.dp hd⟩
theorem wAll_app (xs ys : List PyData) : PyData.weightAll (xs ++ ys) = PyData.weightAll xs + PyData.weightAll ys := by
  induction xs with
  | nil => simp [PyData.weightAll]
  | cons x xs ih => rw [List.cons_append]; simp only [PyData.weightAll, ih]; (first | lia | omega)
/-- a list of plain data -/
structure Gs (w dp : Nat) (ds : List PyData) : Prop where
  pz : ∀ d ∈ ds, Pz d = true
  wt : PyData.weightAll ds ≤ w
  dp : ∀ d ∈ ds, d.depth ≤ dp
theorem Gs.list {w dp : Nat} {ds : List PyData} (h : Gs w dp ds) : Gd w (dp + 1) (.list ds) := ⟨by simp only [Pz]; exact pzs_iff.mpr h.pz, by simp only [PyData.weight]; exact h.wt, by simp only [PyData.depth]; have := dAll_le h.dp; (first | lia | omega)⟩
theorem Gs.tuple {w dp : Nat} {ds : List PyData} (h : Gs w dp ds) : Gd w (dp + 1) (.tuple ds) := ⟨by simp only [Pz]; exact pzs_iff.mpr h.pz, by simp only [PyData.weight]; exact h.wt, by simp only [PyData.depth]; have := dAll_le h.dp; (first | lia | omega)⟩
theorem Gs.mono {w dp w' dp' : Nat} {ds : List PyData} (h : Gs w dp ds) (hw : w ≤ w') (hd : dp ≤ dp') : Gs w' dp' ds := ⟨h.pz, Nat.le_trans h.wt hw, fun d m => Nat.le_trans (h.dp d m) hd⟩
theorem Gs.app {w dp w' : Nat} {xs ys : List PyData} (h : Gs w dp xs) (g : Gs w' dp ys) : Gs (w + w') dp (xs ++ ys) :=
  ⟨fun d m => (List.mem_append.mp m).elim (h.pz d) (g.pz d), by rw [wAll_app]; have := h.wt; have := g.wt; (first | lia | omega), fun d m => (List.mem_append.mp m).elim (h.dp d) (g.dp d)⟩
theorem Gs.one {w dp : Nat} {d : PyData} (h : Gd w dp d) : Gs (w + 1) dp [d] :=
  ⟨fun e m => by rw [List.mem_singleton.mp m]; exact h.pz, by have := h.wt; simp only [PyData.weightAll]; (first | lia | omega), fun e m => by rw [List.mem_singleton.mp m]; exact h.dp⟩
theorem Gs.cons {w dp w' : Nat} {d : PyData} {ds : List PyData} (h : Gd w dp d) (g : Gs w' dp ds) : Gs (w + 1 + w') dp (d :: ds) := (Gs.one h).app g
theorem Gs.nil {dp : Nat} : Gs 0 dp [] := ⟨(fun d m => nomatch m), Nat.le_refl _, (fun d m => nomatch m)⟩
theorem Gd.int {w dp : Nat} {i : Int} (h : i.natAbs < 10 ^ 40) (hw : 201 ≤ w) : Gd w dp (.int i) := ⟨by simpa [Pz] using h, Nat.le_trans (weight_int (Nat.lt_of_lt_of_le h (by decide))) hw, by simp [PyData.depth]⟩
theorem Gd.str {w dp : Nat} {x : Str} (h : Asz x = true) (hw : x.length ≤ w) : Gd w dp (.str x) := ⟨by simpa only [Pz] using h, by simp only [PyData.weight]; exact hw, by simp [PyData.depth]⟩
/-! what is known of the heap, and grows -/
end Z

set_option Elab.async false
set_option linter.all false
set_option maxRecDepth 100000
set_option maxHeartbeats 4000000
namespace Z
open PySem L2
theorem dstr {K : PySem.W.Frag} {H : Hp} {x : Str} : Den K H (.str x) (.str x) := by unfold Den; rfl
theorem dint {K : PySem.W.Frag} {H : Hp} {x : Int} : Den K H (.int x) (.int x) := by unfold Den; rfl
theorem dsnil {K : PySem.W.Frag} {H : Hp} : Dens K H [] [] := by unfold Dens; rfl
theorem dscons {K : PySem.W.Frag} {H : Hp} {d : PyData} {v : V} {ds : List PyData} {vs : List V} (h : Den K H d v) (g : Dens K H ds vs) : Dens K H (d :: ds) (v :: vs) := by unfold Dens; exact ⟨_, _, rfl, h, g⟩
theorem dtupN {K : PySem.W.Frag} {G : Hp} {p : Addr} {ds : List PyData} {vs : List V} (h : G p = some (.tup vs)) (g : Dens K G ds vs) : Den K G (.tuple ds) (.ref p) := by unfold Den; exact ⟨p, vs, rfl, SqT.of h, g⟩
theorem dlstN {K : PySem.W.Frag} {G : Hp} {p : Addr} {ds : List PyData} {vs : List V} (h : G p = some (.lst vs)) (g : Dens K G ds vs) : Den K G (.list ds) (.ref p) := by unfold Den; exact ⟨p, vs, rfl, SqL.of h, g⟩
theorem at_mem {α : Type} {xs : List α} {r : Int} (h0 : 0 ≤ r) (h1 : r < xs.length) : ∃ v, atI xs r = some v ∧ v ∈ xs := by
  have hk : r.toNat < xs.length := by (first | lia | omega)
  exact ⟨xs[r.toNat], at_nat h0 (List.getElem?_eq_getElem hk), List.getElem_mem hk⟩
theorem inV_str (ks : List Str) (x : Str) : inV (.str x) (ks.map V.str) = ks.contains x := by
  unfold inV
  rw [List.any_map, List.contains_eq_any_beq]
  congr 1
  funext y
  show eqV (.str y) (.str x) = (x == y)
  show (y == x) = (x == y)
  rw [Bool.eq_iff_iff, beq_iff_eq, beq_iff_eq]
  exact eq_comm
noncomputable def fV : PyData → V
  | .str x => .str x
  | .int i => .int i
  | .bool b => .bl b
  | _ => .non
noncomputable def flatD : PyData → Bool
  | .str _ => true
  | .int _ => true
  | .bool _ => true
  | .none => true
  | _ => false
theorem den_flat {K : PySem.W.Frag} {H : Hp} {d : PyData} {v : V} (h : Den K H d v) (f : flatD d = true) : v = fV d := by
  cases d with
  | str x => unfold Den at h; exact h
  | int x => unfold Den at h; exact h
  | bool x => unfold Den at h; exact h
  | none => unfold Den at h; exact h
  | list x => cases f
  | tuple x => cases f
  | dict x => cases f
theorem dens_flat {K : PySem.W.Frag} {H : Hp} : ∀ {ds : List PyData} {vs : List V}, Dens K H ds vs → ds.all flatD = true → vs = ds.map fV
  | [], _, h, _ => by unfold Dens at h; exact h
  | d :: ds, _, h, f => by
    unfold Dens at h
    obtain ⟨v, r, rfl, h1, h2⟩ := h
    rw [List.all_cons, Bool.and_eq_true] at f
    rw [den_flat h1 f.1, dens_flat h2 f.2]; rfl
theorem den_flatT {K : PySem.W.Frag} {H : Hp} {ds : List PyData} {v : V} (h : Den K H (.tuple ds) v) (f : ds.all flatD = true) : ∃ p, v = .ref p ∧ SqT K H p (ds.map fV) := by
  unfold Den at h
  obtain ⟨p, vs, rfl, h1, h2⟩ := h
  rw [dens_flat h2 f] at h1
  exact ⟨p, rfl, h1⟩
end Z

set_option Elab.async false
set_option linter.all false
set_option maxRecDepth 100000
set_option maxHeartbeats 4000000
namespace L2
open PySem
theorem pe_fldK (K : PySem.W.Frag) {X : Cx} {e : Expr} {f : Str} {pos : Pos} {ta : TE} (he : PE X e ta) (hb : attributeBase e f X.env (eval e X.env) = eval e X.env) (hK : X.K = K := by rfl) : PE X (.Attribute e f pos) (tFld K ta f) := by subst hK; exact pe_fld he hb
end L2
namespace Z
open PySem L2
/-! rows, and what they do -/
inductive Rw
  | set (p : Nat) (n : Int)
  | add (p q : Nat)
  | take (p q : Nat)
  | tell (p : Nat)
  | ask (p : Nat)
  | jump (t : Nat)
  | zero (p t : Nat)
  | stop
noncomputable abbrev sp : Nat → Str
  | 0 => "a"
  | 1 => "b"
  | 2 => "c"
  | _ => "d"
noncomputable abbrev Rw.ds : Rw → List PyData
  | .set p n => [.str "set", .str (sp p), .int n]
  | .add p q => [.str "add", .str (sp p), .str (sp q)]
  | .take p q => [.str "take", .str (sp p), .str (sp q)]
  | .tell p => [.str "tell", .str (sp p)]
  | .ask p => [.str "ask", .str (sp p)]
  | .jump t => [.str "jump", .int t]
  | .zero p t => [.str "zero", .str (sp p), .int t]
  | .stop => [.str "stop"]
noncomputable abbrev Rw.d (r : Rw) : PyData := .tuple r.ds
theorem Rw.flat (r : Rw) : r.ds.all flatD = true := by cases r <;> rfl
noncomputable def kindS : Rw → Str
  | .set _ _ => "set"
  | .add _ _ => "add"
  | .take _ _ => "take"
  | .tell _ => "tell"
  | .ask _ => "ask"
  | .jump _ => "jump"
  | .zero _ _ => "zero"
  | .stop => "stop"
theorem kind_at (r : Rw) : atI (r.ds.map fV) 0 = some (.str (kindS r)) := by cases r <;> exact at_nat (by decide) rfl
noncomputable def Rw.ok (len : Nat) : Rw → Prop
  | .set p n => p < 4 ∧ 0 ≤ n ∧ n < 256
  | .add p q => p < 4 ∧ q < 4
  | .take p q => p < 4 ∧ q < 4
  | .tell p => p < 4
  | .ask p => p < 4
  | .jump t => t ≤ len
  | .zero p t => p < 4 ∧ t ≤ len
  | .stop => True
structure S where
  n : Nat → Int
  told : List Int
  asked : Nat
  at_ : Nat
noncomputable def putN (n : Nat → Int) (p : Nat) (v : Int) : Nat → Int := fun j => if j = p then v else n j
noncomputable def S0 : S := ⟨fun _ => 0, [], 0, 0⟩
/-- the work of a row that is no jump, no stop -/
noncomputable def workS (g : List Int) (r : Rw) (s : S) : S := match r with
  | .set p v => { s with n := putN s.n p v }
  | .add p q => { s with n := putN s.n p ((s.n p + s.n q) % 256) }
  | .take p q => { s with n := putN s.n p ((s.n p - s.n q) % 256) }
  | .tell p => { s with told := s.told ++ [s.n p] }
  | .ask p => { s with n := putN s.n p (g.getD s.asked 0), asked := s.asked + 1 }
  | _ => s
noncomputable def jumpS (r : Rw) (s : S) : Bool := match r with
  | .jump _ => true
  | .zero p _ => decide (s.n p = 0)
  | _ => false
noncomputable def farS (r : Rw) : Nat := match r with
  | .jump t => t
  | .zero _ t => t
  | _ => 0
noncomputable def rowS (g : List Int) (r : Rw) (s : S) : S := { workS g r s with at_ := if jumpS r s = true then farS r else s.at_ + 1 }
noncomputable def isStop : Rw → Bool
  | .stop => true
  | _ => false
/-- at its end, or at a row that stops -/
noncomputable def endS (rows : List Rw) (s : S) : Bool := match rows[s.at_]? with
  | none => true
  | some r => isStop r
noncomputable def stopS (rows : List Rw) (s : S) : Bool := match rows[s.at_]? with
  | none => false
  | some r => isStop r
noncomputable def stepS (rows : List Rw) (g : List Int) (s : S) : S := match rows[s.at_]? with
  | none => s
  | some r => if isStop r = true then s else rowS g r s
noncomputable def runS (rows : List Rw) (g : List Int) : Nat → S
  | 0 => S0
  | k + 1 => stepS rows g (runS rows g k)
theorem step_end {rows : List Rw} {g : List Int} {s : S} (h : endS rows s = true) : stepS rows g s = s := by
  unfold endS at h
  unfold stepS
  cases e : rows[s.at_]? with
  | none => rfl
  | some r => rw [e] at h; dsimp only at h ⊢; rw [if_pos h]
theorem run_end {rows : List Rw} {g : List Int} {k : Nat} (h : endS rows (runS rows g k) = true) : ∀ j, runS rows g (k + j) = runS rows g k
  | 0 => rfl
  | j + 1 => by
    show stepS rows g (runS rows g (k + j)) = _
    rw [run_end h j, step_end h]
theorem run_at {rows : List Rw} {g : List Int} {k n : Nat} (h : endS rows (runS rows g k) = true) (hk : k ≤ n) : runS rows g n = runS rows g k := by
  have := run_end h (n - k)
  rwa [show k + (n - k) = n by (first | lia | omega)] at this
theorem stop_end {rows : List Rw} {s : S} (h : stopS rows s = true) : endS rows s = true := by
  unfold stopS at h
  unfold endS
  cases e : rows[s.at_]? with
  | none => rfl
  | some r => rw [e] at h; exact h
/-- what is known of a state -/
structure Sok (len k : Nat) (s : S) : Prop where
  a : s.at_ ≤ len
  n : ∀ j, 0 ≤ s.n j ∧ s.n j < 256
  t : s.told.length ≤ k
  tt : ∀ v ∈ s.told, 0 ≤ v ∧ v < 256
  q : s.asked ≤ k
theorem put_ok {n : Nat → Int} {p : Nat} {v : Int} (h : ∀ j, 0 ≤ n j ∧ n j < 256) (h0 : 0 ≤ v) (h1 : v < 256) : ∀ j, 0 ≤ putN n p v j ∧ putN n p v j < 256 := fun j => by
  unfold putN
  split
  · exact ⟨h0, h1⟩
  · exact h j
theorem row_ok {len k : Nat} {g : List Int} {r : Rw} {s : S} (hr : r.ok len) (hg : ∀ v ∈ g, 0 ≤ v ∧ v < 256) (hs : Sok len k s) (hl : s.at_ < len) : Sok len (k + 1) (rowS g r s) := by
  have m0 : ∀ z : Int, 0 ≤ z % 256 ∧ z % 256 < 256 := fun z => ⟨Int.emod_nonneg _ (by decide), Int.emod_lt_of_pos _ (by decide)⟩
  have ht := hs.t
  have hq := hs.q
  cases r with
  | set p v => exact ⟨by show s.at_ + 1 ≤ len; (first | lia | omega), put_ok hs.n hr.2.1 hr.2.2, by show s.told.length ≤ _; (first | lia | omega), hs.tt, by show s.asked ≤ _; (first | lia | omega)⟩
  | add p q => exact ⟨by show s.at_ + 1 ≤ len; (first | lia | omega), put_ok hs.n (m0 _).1 (m0 _).2, by show s.told.length ≤ _; (first | lia | omega), hs.tt, by show s.asked ≤ _; (first | lia | omega)⟩
  | take p q => exact ⟨by show s.at_ + 1 ≤ len; (first | lia | omega), put_ok hs.n (m0 _).1 (m0 _).2, by show s.told.length ≤ _; (first | lia | omega), hs.tt, by show s.asked ≤ _; (first | lia | omega)⟩
  | tell p =>
    refine ⟨by show s.at_ + 1 ≤ len; (first | lia | omega), hs.n, by show (s.told ++ [s.n p]).length ≤ _; rw [List.length_append, List.length_singleton]; (first | lia | omega), fun v hv => ?_, by show s.asked ≤ _; (first | lia | omega)⟩
    rcases List.mem_append.mp hv with hv | hv
    · exact hs.tt v hv
    · rw [List.mem_singleton.mp hv]; exact hs.n p
  | ask p =>
    refine ⟨by show s.at_ + 1 ≤ len; (first | lia | omega), ?_, by show s.told.length ≤ _; (first | lia | omega), hs.tt, by show s.asked + 1 ≤ _; (first | lia | omega)⟩
    have : 0 ≤ g.getD s.asked 0 ∧ g.getD s.asked 0 < 256 := by
      rw [List.getD_eq_getElem?_getD]
      cases e : g[s.asked]? with
      | none => exact ⟨by decide, by decide⟩
      | some v => exact hg v (List.mem_of_getElem? e)
    exact put_ok hs.n this.1 this.2
  | jump t => exact ⟨hr, hs.n, by show s.told.length ≤ _; (first | lia | omega), hs.tt, by show s.asked ≤ _; (first | lia | omega)⟩
  | zero p t =>
    refine ⟨?_, hs.n, by show s.told.length ≤ _; (first | lia | omega), hs.tt, by show s.asked ≤ _; (first | lia | omega)⟩
    show (if _ then t else s.at_ + 1) ≤ len
    split
    · exact hr.2
    · exact hl
  | stop => exact ⟨by show s.at_ + 1 ≤ len; (first | lia | omega), hs.n, by show s.told.length ≤ _; (first | lia | omega), hs.tt, by show s.asked ≤ _; (first | lia | omega)⟩
theorem Sok.mono {len k j : Nat} {s : S} (h : Sok len k s) (hk : k ≤ j) : Sok len j s := ⟨h.a, h.n, by have := h.t; (first | lia | omega), h.tt, by have := h.q; (first | lia | omega)⟩
theorem run_ok {rows : List Rw} {g : List Int} (hr : ∀ r ∈ rows, r.ok rows.length) (hg : ∀ v ∈ g, 0 ≤ v ∧ v < 256) : ∀ k, Sok rows.length k (runS rows g k)
  | 0 => ⟨Nat.zero_le _, fun _ => ⟨Int.le_refl 0, (by decide : (0 : Int) < 256)⟩, Nat.zero_le _, (fun _ h => nomatch h), Nat.zero_le _⟩
  | k + 1 => by
    have ih := run_ok hr hg k
    show Sok _ _ (stepS rows g (runS rows g k))
    unfold stepS
    cases e : rows[(runS rows g k).at_]? with
    | none => exact ih.mono (by (first | lia | omega))
    | some r =>
      dsimp only
      split
      · exact ih.mono (by (first | lia | omega))
      · exact row_ok (hr r (List.mem_of_getElem? e)) hg ih (List.getElem?_eq_some_iff.mp e).1
noncomputable abbrev n4 (n : Nat → Int) : List Int := [n 0, n 1, n 2, n 3]
noncomputable abbrev ansD (s : S) (how : Str) : PyData := .tuple [.list (s.told.map .int), .str how, .tuple ((n4 s.n).map .int), .int s.at_]
noncomputable def howS (rows : List Rw) (g : List Int) (n : Nat) : Str := if (runS rows g n).at_ = rows.length ∨ (0 < n ∧ stopS rows (runS rows g (n - 1)) = true) then "stopped" else "going"
end Z

set_option Elab.async false
set_option linter.all false
set_option maxRecDepth 100000
set_option maxHeartbeats 4000000
namespace Z
open PySem L2
/-! the class Machine -/
noncomputable abbrev numK (n : Nat → Int) : List (Key × V) := [(.inr "a", .int (n 0)), (.inr "b", .int (n 1)), (.inr "c", .int (n 2)), (.inr "d", .int (n 3))]
noncomputable abbrev mFs (a b gp : Addr) (k : Nat) : List (Str × V) := [("numbers", .ref a), ("told", .ref b), ("given", .ref gp), ("asked", .int k)]
structure Mc (K : PySem.W.Frag) (C : Addr) : Prop where
  c : Cls K C
  n1 : NoAttr K C "numbers"
  n2 : NoAttr K C "told"
  n3 : NoAttr K C "given"
  n4 : NoAttr K C "asked"
/-- the machine at m, its dict of numbers at a, what it told at b; H0 stood ahead of it -/
structure Mx (C : Addr) (H0 H : Hp) (m dx a b gp : Addr) (s : S) : Prop where
  sm : Same H0 H
  nm : H0 m = none
  na : H0 a = none
  nb : H0 b = none
  o : H m = some (.ins C dx (mFs a b gp s.asked))
  d : H a = some (.dK (numK s.n))
  t : H b = some (.lst (s.told.map V.int))
theorem samePut {H0 H : Hp} {p : Addr} {o : HO} (h : Same H0 H) (n : H0 p = none) : Same H0 (upd H p o) := fun x u e => by
  rw [upd_ne (ne_of_none e n)]; exact h x u e
section
variable {C m dx a b gp : Addr} {H0 H H' : Hp} {s : S}
theorem Mx.ma (M : Mx C H0 H m dx a b gp s) : m ≠ a := ne_of M.o M.d (by intro z; cases z)
theorem Mx.mb (M : Mx C H0 H m dx a b gp s) : m ≠ b := ne_of M.o M.t (by intro z; cases z)
theorem Mx.ab (M : Mx C H0 H m dx a b gp s) : a ≠ b := ne_of M.d M.t (by intro z; cases z)
theorem Mx.same (M : Mx C H0 H m dx a b gp s) (h : Same H H') : Mx C H0 H' m dx a b gp s := ⟨M.sm.trans h, M.nm, M.na, M.nb, h _ _ M.o, h _ _ M.d, h _ _ M.t⟩
theorem Mx.num (M : Mx C H0 H m dx a b gp s) (n' : Nat → Int) (e : n' = n') : Mx C H0 (upd H a (.dK (numK n'))) m dx a b gp { s with n := n' } :=
  ⟨samePut M.sm M.na, M.nm, M.na, M.nb, by rw [upd_ne M.ma]; exact M.o, upd_same, by rw [upd_ne (Ne.symm M.ab)]; exact M.t⟩
theorem Mx.tell (M : Mx C H0 H m dx a b gp s) {t' : List Int} {H' : Hp} (c : Chg H b (.lst (t'.map V.int)) H') : Mx C H0 H' m dx a b gp { s with told := t' } := by
  rw [c.eq]
  exact ⟨samePut M.sm M.nb, M.nm, M.na, M.nb, by rw [upd_ne M.mb]; exact M.o, by rw [upd_ne M.ab]; exact M.d, upd_same⟩
theorem Mx.ask (M : Mx C H0 H m dx a b gp s) (k : Nat) : Mx C H0 (upd H m (.ins C dx (mFs a b gp k))) m dx a b gp { s with asked := k } :=
  ⟨samePut M.sm M.nm, M.nm, M.na, M.nb, upd_same, by rw [upd_ne (Ne.symm M.ma)]; exact M.d, by rw [upd_ne (Ne.symm M.mb)]; exact M.t⟩
theorem key4 {p : Nat} (h : p < 4) (n : Nat → Int) : kV (.inr (sp p)) = V.str (sp p) ∧ valV (numK n) (.inr (sp p)) = some (.int (n p)) ∧ ∀ v, putK (numK n) (.inr (sp p)) (.int v) = numK (putN n p v) := by
  have : p = 0 ∨ p = 1 ∨ p = 2 ∨ p = 3 := by (first | lia | omega)
  rcases this with rfl | rfl | rfl | rfl <;> exact ⟨rfl, rfl, fun _ => rfl⟩
theorem Mx.get (M : Mx C H0 H m dx a b gp s) {p : Nat} (h : p < 4) : DGet H a (.str (sp p)) (some (.int (s.n p))) := by
  have := DGet.k (k := .inr (sp p)) M.d
  rw [(key4 h s.n).2.1] at this
  exact this
theorem Mx.putp (M : Mx C H0 H m dx a b gp s) {p : Nat} (h : p < 4) (v : Int) : DPut H a (.str (sp p)) (.int v) (upd H a (.dK (numK (putN s.n p v)))) := by
  have := DPut.k (k := .inr (sp p)) (v := .int v) M.d (by show 4 < sizeLine; decide)
  rw [(key4 h s.n).2.2] at this
  exact this
end
noncomputable def spNext (K : PySem.W.Frag) (C : Addr) : Sp := fun vs H Q _ => ∃ (H0 : Hp) (m dx a b gp : Addr) (s : S) (g : List Int), vs = [.ref m] ∧ Mx C H0 H m dx a b gp s ∧ SqL K H0 gp (g.map V.int) ∧ s.asked ≤ 100000 ∧
  ∀ H', Mx C H0 H' m dx a b gp { s with asked := s.asked + 1 } → Q (.int (g.getD s.asked 0)) H'
noncomputable def spNumBy (K : PySem.W.Frag) (C : Addr) : Sp := fun vs H Q _ => ∃ (H0 : Hp) (m dx a b gp rp : Addr) (s : S) (g : List Int) (r : Rw), vs = [.ref m, .ref rp] ∧ Mx C H0 H m dx a b gp s ∧ SqL K H0 gp (g.map V.int) ∧ s.asked ≤ 100000 ∧ SqT K H0 rp (r.ds.map fV) ∧
  ((∃ p n, r = .set p n ∧ p < 4 ∧ Q (.int n) H) ∨ (∃ p q, r = .add p q ∧ p < 4 ∧ q < 4 ∧ Q (.int ((s.n p + s.n q) % 256)) H) ∨ (∃ p q, r = .take p q ∧ p < 4 ∧ q < 4 ∧ Q (.int ((s.n p - s.n q) % 256)) H) ∨
   (∃ p, r = .ask p ∧ p < 4 ∧ ∀ H', Mx C H0 H' m dx a b gp { s with asked := s.asked + 1 } → Q (.int (g.getD s.asked 0)) H'))
noncomputable def spJumps (K : PySem.W.Frag) (C : Addr) : Sp := fun vs H Q _ => ∃ (H0 : Hp) (m dx a b gp rp : Addr) (s : S) (g : List Int) (r : Rw) (len : Nat), vs = [.ref m, .ref rp] ∧ Mx C H0 H m dx a b gp s ∧ SqL K H0 gp (g.map V.int) ∧ s.asked ≤ 100000 ∧ s.told.length ≤ 100000 ∧ SqT K H0 rp (r.ds.map fV) ∧ r.ok len ∧ isStop r = false ∧
  ∀ H', Mx C H0 H' m dx a b gp (workS g r s) → Q (.bl (jumpS r s)) H'
/-- the list of what was told is new -/
noncomputable def OwnT (H H' : Hp) (v : V) (told : List Int) : Prop := ∃ (tp l1 : Addr) (rest : List V), v = .ref tp ∧ H' tp = some (.tup (.ref l1 :: rest)) ∧ H l1 = none ∧ H' l1 = some (.lst (told.map V.int))
theorem OwnT.sub {H0 H H' : Hp} {v : V} {told : List Int} (o : OwnT H H' v told) (h : Same H0 H) : OwnT H0 H' v told := by
  obtain ⟨tp, l1, rest, e1, e2, e3, e4⟩ := o
  exact ⟨tp, l1, rest, e1, e2, h.free e3, e4⟩
theorem newOf_sub {H0 H H' : Hp} (h : Same H0 H) : Same (newOf H H') (newOf H0 H') := fun a o e => by
  obtain ⟨e1, e2⟩ := of_newOf e
  rw [newOf_none (h.free e1)]; exact e2
noncomputable def spAns (K : PySem.W.Frag) (C : Addr) : Sp := fun vs H Q _ => ∃ (H0 : Hp) (m dx a b gp : Addr) (s : S) (how : Str), vs = [.ref m, .str how, .int s.at_] ∧ Mx C H0 H m dx a b gp s ∧ s.told.length ≤ 100000 ∧
  ∀ v H', Same H H' → Den K (newOf H H') (ansD s how) v → OwnT H H' v s.told → Q v H'
noncomputable def spInit (K : PySem.W.Frag) (C : Addr) : Sp := fun vs H Q _ => ∃ (H0 : Hp) (m dx gp : Addr), vs = [.ref m, .ref gp] ∧ Same H0 H ∧ H0 m = none ∧ H m = some (.ins C dx []) ∧
  ∀ a b H', Mx C H0 H' m dx a b gp S0 → Q .non H'
section
variable {P : Program} {w : World} {K : PySem.W.Frag} {mg : Str → Option Value} {base : Heap} {f : Addr} {fd : FuncData} {C : Addr}
theorem sc_Machine_next_given : FnScope ["self"] ["self"] (defScope (inClass (top i_Machine) 3)) := ⟨rfl, rfl, rfl, by decide +kernel, rfl, by decide +kernel, by decide +kernel⟩
theorem ok_next (F : Fun K "next_given" "Machine.next_given" (inClass (top i_Machine) 3) f fd) (T : Nm mg) (MC : Mc K C) : FnOk P w K mg base CX0 1 f fd ["self"] (spNext K C) := by
  refine F.ok sc_Machine_next_given (fun vs H Q E h => ?_) (fun cdv A outer s H vs Q E hr h => ?_)
  · obtain ⟨H0, m, dx, a, b, gp, s, g, rfl, _⟩ := h
    rfl
  obtain ⟨H0, m, dx, a, b, gp, st, g, rfl, M, hg, hk, q⟩ := h
  have hu6 := hr.units
  refine ⟨_, (pss_cons (ps_fldaug (pv 0) pe_int in_add)
    (pss_one (ps_ret (pe_ifExp (pt_cmpR op_le (pe_fldK K (pv 0) rfl) (pe_callB (lenK K) rfl T.n_len (by rfl) (pa_cons (pe_fldK K (pv 0) rfl) pa_nil)) (nomark _)) (pe_ix (ixK K) (pe_fldK K (pv 0) rfl) (pe_op op_sub (pe_fldK K (pv 0) rfl) pe_int) (fun _ _ => rfl)) pe_int)))), ?_⟩
  refine ⟨_, rfl, m, C, dx, _, _, rfl, M.o, MC.c, MC.n4, rfl, _, _, rfl, rfl, dx, _, M.o, by show 4 < 1000; decide, ?_⟩
  have M1 := M.ask (st.asked + 1)
  have e : putF "asked" (.int ((st.asked : Nat) + 1 : Int)) (mFs a b gp st.asked) = mFs a b gp (st.asked + 1) := rfl
  rw [e]
  have hg1 : SqL K (upd H m (.ins C dx (mFs a b gp (st.asked + 1)))) gp (g.map V.int) := M1.sm.seq hg
  refine ⟨_, rfl, m, C, dx, _, _, rfl, M1.o, MC.c, MC.n4, rfl, ?_⟩
  refine ⟨_, rfl, m, C, dx, _, _, rfl, M1.o, MC.c, MC.n3, rfl, _, _, rfl, .inl ⟨_, hg1, rfl⟩, _, _, rfl, rfl, _, rfl, ?_⟩
  rw [List.length_map]
  refine ite2 (fun e1 => ?_) (fun e1 => ?_)
  · have e1 : ((st.asked + 1 : Nat) : Int) ≤ _ := of_decide_eq_true e1
    have hl : st.asked < g.length := by (first | lia | omega)
    refine ⟨_, rfl, m, C, dx, _, _, rfl, M1.o, MC.c, MC.n3, rfl, _, rfl, m, C, dx, _, _, rfl, M1.o, MC.c, MC.n4, rfl, _, _, rfl, rfl, .inl ⟨gp, _, _, .int (g.getD st.asked 0), rfl, rfl, hg1, ?_, q _ M1⟩⟩
    refine at_nat (show (0 : Int) ≤ ((st.asked + 1 : Nat) : Int) - 1 by (first | lia | omega)) ?_
    show (g.map V.int)[(((st.asked + 1 : Nat) : Int) - 1).toNat]? = _
    rw [show (((st.asked + 1 : Nat) : Int) - 1).toNat = st.asked by (first | lia | omega), List.getElem?_map, List.getD_eq_getElem?_getD, List.getElem?_eq_getElem hl]
    rfl
  · have e1 : ¬ ((st.asked + 1 : Nat) : Int) ≤ _ := of_decide_eq_false (Bool.eq_false_iff.mpr e1)
    have : g.getD st.asked 0 = 0 := by rw [List.getD_eq_getElem?_getD, List.getElem?_eq_none (by (first | lia | omega))]; rfl
    have q := q _ M1
    rw [this] at q
    exact q
theorem strT {x : Str} {A B : Prop} (q : A) : if decide (V.str x = V.str x) = true then A else B := by
  rw [decide_eq_true rfl]; exact iteT q
theorem strF {x y : Str} {A B : Prop} (q : B) (h : (x == y) = false := by decide +kernel) : if decide (V.str x = V.str y) = true then A else B := by
  rw [decide_eq_false (fun z => by injection z with z; rw [z, beq_self_eq_true] at h; cases h)]; exact iteF q
theorem inF {ks : List Str} {x : Str} {A B : Prop} (q : B) (h : ks.contains x = false := by decide +kernel) : if (if false = true then !inV (.str x) (ks.map V.str) else inV (.str x) (ks.map V.str)) = true then A else B := by
  rw [if_neg Bool.false_ne_true, inV_str, h]; exact iteF q
theorem inTr {ks : List Str} {x : Str} {A B : Prop} (q : A) (h : ks.contains x = true := by decide +kernel) : if (if false = true then !inV (.str x) (ks.map V.str) else inV (.str x) (ks.map V.str)) = true then A else B := by
  rw [if_neg Bool.false_ne_true, inV_str, h]; exact iteT q
theorem sc_Machine_number_by : FnScope ["self", "row", "kind", "number", "other"] ["self", "row"] (defScope (inClass (top i_Machine) 2)) := ⟨rfl, rfl, rfl, by decide +kernel, rfl, by decide +kernel, by decide +kernel⟩
theorem ok_numby (F : Fun K "number_by" "Machine.number_by" (inClass (top i_Machine) 2) f fd) (T : Nm mg) (MC : Mc K C) {tkg : Tok} (v_GREATEST_NUMBER : mg "GREATEST_NUMBER" = some (.int 255 tkg)) {fn : Addr} {fdn : FuncData} (MT_next_given : Meth K C "next_given" fn) (FM_next_given : FnOk P w K mg base CX0 1 fn fdn ["self"] (spNext K C)) (BM_next_given : Binds K fdn ["self"] []) :
    FnOk P w K mg base CX0 2 f fd ["self", "row"] (spNumBy K C) := by
  refine F.ok sc_Machine_number_by (fun vs H Q E h => ?_) (fun cdv A outer s H vs Q E hr h => ?_)
  · obtain ⟨H0, m, dx, a, b, gp, rp, s, g, r, rfl, _⟩ := h
    rfl
  obtain ⟨H0, m, dx, a, b, gp, rp, st, g, r, rfl, M, hg, hk, hrw, q⟩ := h
  have hu6 := hr.units
  have hu := hu_of hr
  have C_M := MC.c
  refine ⟨_, (pss_cons (ps_set (i := 2) sc_Machine_number_by.nd rfl (Or.inl rfl) (pe_ix (ixK K) (pv 1) pe_int (fun _ _ => rfl)))
    (pss_cons (ps_if (pt_cmpR (eqK K hu6) (pv 2) pe_str (nomark _)) (pss_one (ps_ret (pe_ix (ixK K) (pv 1) pe_int (fun _ _ => rfl)))) pss_nil)
    (pss_cons (ps_if (pt_cmpR (eqK K hu6) (pv 2) pe_str (nomark _)) (pss_one (ps_ret (pe_meth0 (pv 0) C_M MT_next_given (FM_next_given.mono (by first | decide | exact Nat.le_refl _)) hr BM_next_given .nil pass0))) pss_nil)
    (pss_cons (ps_par (i := 3) (j := 4) rfl sc_Machine_number_by.nd rfl rfl (by decide) rfl rfl (pa_cons (pe_dget hu (pe_fldK K (pv 0) rfl) (pe_ix (ixK K) (pv 1) pe_int (fun _ _ => rfl)) (fun _ _ => rfl)) (pa_cons (pe_dget hu (pe_fldK K (pv 0) rfl) (pe_ix (ixK K) (pv 1) pe_int (fun _ _ => rfl)) (fun _ _ => rfl)) pa_nil)) rfl)
    (pss_one (ps_ret (pe_op op_mod (pe_ifExp (pt_cmpR (eqK K hu6) (pv 2) pe_str (nomark _)) (pe_op addN (pv 3) (pv 4)) (pe_op op_sub (pv 3) (pv 4))) (pe_op addN (pe_gint rfl v_GREATEST_NUMBER) pe_int)))))))), ?_⟩
  have hR := M.sm.seqT hrw
  rcases q with ⟨p, n, rfl, hp, q⟩ | ⟨p, z, rfl, hp, hz, q⟩ | ⟨p, z, rfl, hp, hz, q⟩ | ⟨p, rfl, hp, q⟩
  · refine ⟨_, rfl, .inr (.inl ⟨rp, _, _, _, rfl, rfl, hR, rfl, gn ?_⟩)⟩
    refine ⟨_, rfl, .inl ⟨rfl, _, rfl, strT ?_⟩⟩
    exact ⟨_, rfl, .inr (.inl ⟨rp, _, _, _, rfl, rfl, hR, rfl, q⟩)⟩
  · refine ⟨_, rfl, .inr (.inl ⟨rp, _, _, _, rfl, rfl, hR, rfl, gn ?_⟩)⟩
    refine ⟨_, rfl, .inl ⟨rfl, _, rfl, strF ?_⟩⟩
    refine ⟨_, rfl, .inl ⟨rfl, _, rfl, strF ?_⟩⟩
    refine ⟨_, rfl, m, C, dx, _, _, rfl, M.o, MC.c, MC.n1, rfl, _, rfl, .inr (.inl ⟨rp, _, _, _, rfl, rfl, hR, rfl, a, _, rfl, M.get hp, ?_⟩)⟩
    refine ⟨_, rfl, m, C, dx, _, _, rfl, M.o, MC.c, MC.n1, rfl, _, rfl, .inr (.inl ⟨rp, _, _, _, rfl, rfl, hR, rfl, a, _, rfl, M.get hz, ?_⟩)⟩
    refine ⟨_, _, rfl, ?_⟩
    refine ⟨_, rfl, .inl ⟨rfl, _, rfl, strT ?_⟩⟩
    refine ⟨_, rfl, _, rfl, .inl ⟨_, _, rfl, rfl, .inl ⟨_, _, rfl, rfl, ?_⟩⟩⟩
    exact ⟨_, _, rfl, rfl, (by dsimp only; decide), q⟩
  · refine ⟨_, rfl, .inr (.inl ⟨rp, _, _, _, rfl, rfl, hR, rfl, gn ?_⟩)⟩
    refine ⟨_, rfl, .inl ⟨rfl, _, rfl, strF ?_⟩⟩
    refine ⟨_, rfl, .inl ⟨rfl, _, rfl, strF ?_⟩⟩
    refine ⟨_, rfl, m, C, dx, _, _, rfl, M.o, MC.c, MC.n1, rfl, _, rfl, .inr (.inl ⟨rp, _, _, _, rfl, rfl, hR, rfl, a, _, rfl, M.get hp, ?_⟩)⟩
    refine ⟨_, rfl, m, C, dx, _, _, rfl, M.o, MC.c, MC.n1, rfl, _, rfl, .inr (.inl ⟨rp, _, _, _, rfl, rfl, hR, rfl, a, _, rfl, M.get hz, ?_⟩)⟩
    refine ⟨_, _, rfl, ?_⟩
    refine ⟨_, rfl, .inl ⟨rfl, _, rfl, strF ?_⟩⟩
    refine ⟨_, rfl, _, rfl, _, _, rfl, rfl, .inl ⟨_, _, rfl, rfl, ?_⟩⟩
    exact ⟨_, _, rfl, rfl, (by dsimp only; decide), q⟩
  · refine ⟨_, rfl, .inr (.inl ⟨rp, _, _, _, rfl, rfl, hR, rfl, gn ?_⟩)⟩
    refine ⟨_, rfl, .inl ⟨rfl, _, rfl, strF ?_⟩⟩
    refine ⟨_, rfl, .inl ⟨rfl, _, rfl, strT ?_⟩⟩
    exact ⟨_, rfl, m, dx, _, rfl, M.o, rfl, H0, m, dx, a, b, gp, st, g, rfl, M, hg, hk, q⟩
theorem sc_Machine_jumps : FnScope ["self", "row", "kind"] ["self", "row"] (defScope (inClass (top i_Machine) 1)) := ⟨rfl, rfl, rfl, by decide +kernel, rfl, by decide +kernel, by decide +kernel⟩
theorem ok_jumps (F : Fun K "jumps" "Machine.jumps" (inClass (top i_Machine) 1) f fd) (T : Nm mg) (MC : Mc K C) {fn : Addr} {fdn : FuncData} (MT_number_by : Meth K C "number_by" fn) (FM_number_by : FnOk P w K mg base CX0 2 fn fdn ["self", "row"] (spNumBy K C)) (BM_number_by : Binds K fdn ["self", "row"] []) :
    FnOk P w K mg base CX0 3 f fd ["self", "row"] (spJumps K C) := by
  refine F.ok sc_Machine_jumps (fun vs H Q E h => ?_) (fun cdv A outer s H vs Q E hr h => ?_)
  · obtain ⟨H0, m, dx, a, b, gp, rp, s, g, r, len, rfl, _⟩ := h
    rfl
  obtain ⟨H0, m, dx, a, b, gp, rp, st, g, r, len, rfl, M, hg, hk, ht, hrw, hok, hns, q⟩ := h
  have hu6 := hr.units
  have hu := hu_of hr
  have C_M := MC.c
  refine ⟨_, (pss_cons (ps_set (i := 2) sc_Machine_jumps.nd rfl (Or.inl rfl) (pe_ix (ixK K) (pv 1) pe_int (fun _ _ => rfl)))
    (pss_cons (ps_if (pt_cmpR (inK K) (pv 2) (lit_tup (K := K) (lits_cons lit_str (lits_cons lit_str lits_nil))) (by with_unfolding_all rfl)) (pss_one (ps_ret pe_bl)) pss_nil)
    (pss_cons (ps_if (pt_cmpR (inK K) (pv 2) (lit_tup (K := K) (lits_cons lit_str (lits_cons lit_str lits_nil))) (by with_unfolding_all rfl)) (pss_one (ps_ret (pe_cmpR (eqK K hu6) (pe_dget hu (pe_fldK K (pv 0) rfl) (pe_ix (ixK K) (pv 1) pe_int (fun _ _ => rfl)) (fun _ _ => rfl)) pe_int (nomark _)))) pss_nil)
    (pss_cons (ps_if (pt_cmpR (eqK K hu6) (pv 2) pe_str (nomark _)) (pss_one (ps_expr (bmK K PySem.F.plainAttrs_list PySem.F.slot_list_append PySem.F.type_list_append appendN (pe_fldK K (pv 0) rfl) (pa_cons (pe_dget hu (pe_fldK K (pv 0) rfl) (pe_ix (ixK K) (pv 1) pe_int (fun _ _ => rfl)) (fun _ _ => rfl)) pa_nil)))) (pss_one (ps_dput hu (pe_fldK K (pv 0) rfl) (pe_ix (ixK K) (pv 1) pe_int (fun _ _ => rfl)) (pe_meth (pv 0) C_M MT_number_by (FM_number_by.mono (by first | decide | exact Nat.le_refl _)) hr BM_number_by .nil pass0 (pa_cons (pv 1) pa_nil)) rfl)))
    (pss_one (ps_ret pe_bl)))))), ?_⟩
  obtain ⟨k, hkk⟩ : ∃ k, k = kindS r := ⟨_, rfl⟩
  have hR := M.sm.seqT hrw
  refine ⟨_, rfl, .inr (.inl ⟨rp, _, _, .str k, rfl, rfl, hR, by rw [hkk]; exact kind_at r, gn ?_⟩)⟩
  refine ⟨_, rfl, fun v1 H1 sm1 d1 => ?_⟩
  obtain ⟨p1, rfl, h1⟩ := den_flatT (d1.same newOf_le) rfl
  have M1 := M.same sm1
  have hR1 := M1.sm.seqT hrw
  refine ⟨p1, _, rfl, .inr h1, rfl, rfl, _, rfl, ?_⟩
  cases r with
  | stop => cases hns
  | jump t =>
    obtain rfl : k = "jump" := hkk
    exact inTr (ks := ["jump", "farjump"]) (q _ M1)
  | zero p t =>
    obtain rfl : k = "zero" := hkk
    refine inF (ks := ["jump", "farjump"]) ?_
    refine ⟨_, rfl, fun v2 H2 sm2 d2 => ?_⟩
    obtain ⟨p2, rfl, h2⟩ := den_flatT (d2.same newOf_le) rfl
    have M2 := M1.same sm2
    refine ⟨p2, _, rfl, .inr h2, rfl, rfl, _, rfl, inTr (ks := ["zero", "farzero"]) ?_⟩
    refine ⟨_, rfl, m, C, dx, _, _, rfl, M2.o, MC.c, MC.n1, rfl, _, rfl, .inr (.inl ⟨rp, _, _, _, rfl, rfl, M2.sm.seqT hrw, rfl, a, _, rfl, M2.get hok.1, ?_⟩)⟩
    refine .inl ⟨rfl, ?_⟩
    have := q _ M2
    have e : jumpS (.zero p t) st = decide (V.int (st.n p) = V.int 0) := by
      show decide (st.n p = 0) = _
      by_cases z : st.n p = 0
      · rw [z, decide_eq_true rfl, decide_eq_true rfl]
      · rw [decide_eq_false z, decide_eq_false (fun h => z (by injection h))]
    rw [e] at this
    exact this
  | tell p =>
    obtain rfl : k = "tell" := hkk
    refine inF (ks := ["jump", "farjump"]) ?_
    refine ⟨_, rfl, fun v2 H2 sm2 d2 => ?_⟩
    obtain ⟨p2, rfl, h2⟩ := den_flatT (d2.same newOf_le) rfl
    have M2 := M1.same sm2
    refine ⟨p2, _, rfl, .inr h2, rfl, rfl, _, rfl, inF (ks := ["zero", "farzero"]) ?_⟩
    refine ⟨_, rfl, .inl ⟨rfl, _, rfl, strT ?_⟩⟩
    refine ⟨_, rfl, m, C, dx, _, _, rfl, M2.o, MC.c, MC.n2, rfl, .inl ⟨rfl, _, SqL.of M2.t⟩, ?_⟩
    refine ⟨_, rfl, m, C, dx, _, _, rfl, M2.o, MC.c, MC.n1, rfl, _, rfl, .inr (.inl ⟨rp, _, _, _, rfl, rfl, M2.sm.seqT hrw, rfl, a, _, rfl, M2.get hok, ?_⟩)⟩
    refine ⟨b, _, _, rfl, rfl, M2.t, Nat.lt_of_le_of_lt (show _ ≤ 100000 by rw [List.length_map]; exact ht) (by decide), fun H3 c3 => ?_⟩
    exact q _ (M2.tell (t' := st.told ++ [st.n p]) (by rw [List.map_append]; exact c3))
  | set p n =>
    obtain rfl : k = "set" := hkk
    refine inF (ks := ["jump", "farjump"]) ?_
    refine ⟨_, rfl, fun v2 H2 sm2 d2 => ?_⟩
    obtain ⟨p2, rfl, h2⟩ := den_flatT (d2.same newOf_le) rfl
    have M2 := M1.same sm2
    refine ⟨p2, _, rfl, .inr h2, rfl, rfl, _, rfl, inF (ks := ["zero", "farzero"]) ?_⟩
    refine ⟨_, rfl, .inl ⟨rfl, _, rfl, strF ?_⟩⟩
    refine ⟨_, rfl, m, dx, _, rfl, M2.o, rfl, _, rfl, H0, m, dx, a, b, gp, rp, st, g, .set p n, rfl, M2, hg, hk, hrw, .inl ⟨p, n, rfl, hok.1, ?_⟩⟩
    refine ⟨_, rfl, m, C, dx, _, _, rfl, M2.o, MC.c, MC.n1, rfl, _, rfl, .inr (.inl ⟨rp, _, _, _, rfl, rfl, M2.sm.seqT hrw, rfl, a, _, rfl, M2.putp hok.1 _, ?_⟩)⟩
    exact q _ (M2.num _ rfl)
  | add p z =>
    obtain rfl : k = "add" := hkk
    refine inF (ks := ["jump", "farjump"]) ?_
    refine ⟨_, rfl, fun v2 H2 sm2 d2 => ?_⟩
    obtain ⟨p2, rfl, h2⟩ := den_flatT (d2.same newOf_le) rfl
    have M2 := M1.same sm2
    refine ⟨p2, _, rfl, .inr h2, rfl, rfl, _, rfl, inF (ks := ["zero", "farzero"]) ?_⟩
    refine ⟨_, rfl, .inl ⟨rfl, _, rfl, strF ?_⟩⟩
    refine ⟨_, rfl, m, dx, _, rfl, M2.o, rfl, _, rfl, H0, m, dx, a, b, gp, rp, st, g, .add p z, rfl, M2, hg, hk, hrw, .inr (.inl ⟨p, z, rfl, hok.1, hok.2, ?_⟩)⟩
    refine ⟨_, rfl, m, C, dx, _, _, rfl, M2.o, MC.c, MC.n1, rfl, _, rfl, .inr (.inl ⟨rp, _, _, _, rfl, rfl, M2.sm.seqT hrw, rfl, a, _, rfl, M2.putp hok.1 _, ?_⟩)⟩
    exact q _ (M2.num _ rfl)
  | take p z =>
    obtain rfl : k = "take" := hkk
    refine inF (ks := ["jump", "farjump"]) ?_
    refine ⟨_, rfl, fun v2 H2 sm2 d2 => ?_⟩
    obtain ⟨p2, rfl, h2⟩ := den_flatT (d2.same newOf_le) rfl
    have M2 := M1.same sm2
    refine ⟨p2, _, rfl, .inr h2, rfl, rfl, _, rfl, inF (ks := ["zero", "farzero"]) ?_⟩
    refine ⟨_, rfl, .inl ⟨rfl, _, rfl, strF ?_⟩⟩
    refine ⟨_, rfl, m, dx, _, rfl, M2.o, rfl, _, rfl, H0, m, dx, a, b, gp, rp, st, g, .take p z, rfl, M2, hg, hk, hrw, .inr (.inr (.inl ⟨p, z, rfl, hok.1, hok.2, ?_⟩))⟩
    refine ⟨_, rfl, m, C, dx, _, _, rfl, M2.o, MC.c, MC.n1, rfl, _, rfl, .inr (.inl ⟨rp, _, _, _, rfl, rfl, M2.sm.seqT hrw, rfl, a, _, rfl, M2.putp hok.1 _, ?_⟩)⟩
    exact q _ (M2.num _ rfl)
  | ask p =>
    obtain rfl : k = "ask" := hkk
    refine inF (ks := ["jump", "farjump"]) ?_
    refine ⟨_, rfl, fun v2 H2 sm2 d2 => ?_⟩
    obtain ⟨p2, rfl, h2⟩ := den_flatT (d2.same newOf_le) rfl
    have M2 := M1.same sm2
    refine ⟨p2, _, rfl, .inr h2, rfl, rfl, _, rfl, inF (ks := ["zero", "farzero"]) ?_⟩
    refine ⟨_, rfl, .inl ⟨rfl, _, rfl, strF ?_⟩⟩
    refine ⟨_, rfl, m, dx, _, rfl, M2.o, rfl, _, rfl, H0, m, dx, a, b, gp, rp, st, g, .ask p, rfl, M2, hg, hk, hrw, .inr (.inr (.inr ⟨p, rfl, hok, fun H3 M3 => ?_⟩))⟩
    refine ⟨_, rfl, m, C, dx, _, _, rfl, M3.o, MC.c, MC.n1, rfl, _, rfl, .inr (.inl ⟨rp, _, _, _, rfl, rfl, M3.sm.seqT hrw, rfl, a, _, rfl, M3.putp hok _, ?_⟩)⟩
    exact q _ (M3.num _ rfl)
noncomputable abbrev spotsV : List V := [.str "a", .str "b", .str "c", .str "d"]
theorem sc_Machine_answer : FnScope ["self", "how", "at"] ["self", "how", "at"] (defScope (inClass (top i_Machine) 4)) := ⟨rfl, rfl, rfl, by decide +kernel, rfl, by decide +kernel, by decide +kernel⟩
theorem ok_answer (F : Fun K "answer" "Machine.answer" (inClass (top i_Machine) 4) f fd) (T : Nm mg) (MC : Mc K C) {aS : Addr} (g_SPOT_NAMES : mg "SPOT_NAMES" = some (.ref aS)) (hSP : ∀ H, SqT K H aS spotsV) : FnOk P w K mg base CX0 1 f fd ["self", "how", "at"] (spAns K C) := by
  refine F.ok sc_Machine_answer (fun vs H Q E h => ?_) (fun cdv A outer s H vs Q E hr h => ?_)
  · obtain ⟨H0, m, dx, a, b, gp, s, how, rfl, _⟩ := h
    rfl
  obtain ⟨H0, m, dx, a, b, gp, st, how, rfl, M, ht, q⟩ := h
  have hu6 := hr.units
  have hu := hu_of hr
  refine ⟨_, (pss_one (ps_ret (tupN (pa_cons (pe_callTy (listN K) rfl T.n_list (by rfl) (pa_cons (pe_fldK K (pv 0) rfl) pa_nil)) (pa_cons (pv 1) (pa_cons (pe_callTy (tupleN K) rfl T.n_tuple (by rfl) (pa_cons (pe_lcomp rfl (comp_ok (Nc := ["spot"]) (Fc := ["self"]) (js := [0])) (pi_tupK K (pe_gref rfl g_SPOT_NAMES)) (gk_name (i := 0) (n := 1) (by decide)) (fun _ _ _ _ _ => (pg_name (i := 0) (show (["spot", "self"] : List Str).Nodup by decide +kernel) rfl (Or.inl rfl))) (fun _ _ _ _ _ => pts_nil) (fun _ _ _ _ _ => (pe_dget hu (pe_fldK K (pv 1) rfl) (pv 0) (fun _ _ => rfl)))) pa_nil)) (pa_cons (pv 2) pa_nil))))))), ?_⟩
  refine ⟨_, rfl, m, C, dx, _, _, rfl, M.o, MC.c, MC.n2, rfl, b, _, rfl, .inl (SqL.of M.t), fun l1 H1 n1 => ?_⟩
  refine ⟨_, rfl, aS, rfl, ⟨_, hSP _⟩, ?_⟩
  have M1 := M.same n1.same
  refine comp_go (N := 4) (fun i ys H' => H' = H1 ∧ ys = ((n4 st.n).map V.int).take i) ⟨rfl, rfl⟩ ?_ ?_
  · rintro i ys H2 Nx hi ⟨rfl, rfl⟩ nx
    have hx : spotsV[i]? = some (.str (sp i)) := by
      have : i = 0 ∨ i = 1 ∨ i = 2 ∨ i = 3 := by (first | lia | omega)
      rcases this with rfl | rfl | rfl | rfl <;> rfl
    refine ⟨⟨_, _, hSP _, hx⟩, Nat.lt_of_le_of_lt (show _ ≤ 4 from Nat.le_trans (List.length_take_le i _) (by (first | lia | omega))) (by decide), ?_⟩
    rintro x' H3 ⟨rfl, hy⟩
    have e := hy _ (hSP _)
    rw [hx] at e; cases e
    refine gn ?_
    refine ⟨_, rfl, m, C, dx, _, _, rfl, M1.o, MC.c, MC.n1, rfl, _, rfl, a, _, rfl, M1.get hi, nx _ _ ⟨rfl, ?_⟩⟩
    have : i = 0 ∨ i = 1 ∨ i = 2 ∨ i = 3 := by (first | lia | omega)
    rcases this with rfl | rfl | rfl | rfl <;> rfl
  · rintro ys H2 ⟨rfl, rfl⟩
    refine ⟨⟨_, hSP _, by decide⟩, fun p2 hp2 => ?_⟩
    obtain ⟨H3, n2⟩ : ∃ H3, New H2 p2 (.lst (((n4 st.n).map V.int).take 4)) H3 := ⟨_, hp2, rfl⟩
    rw [← n2.eq]
    refine ⟨p2, _, rfl, .inl ⟨SqL.of n2.at, fun p3 H4 n3 => ?_⟩⟩
    refine ⟨_, rfl, by show 4 ≤ sizeLine; decide, fun p4 H5 n4' => ?_⟩
    have s35 := n3.same.trans n4'.same
    have s15 := n2.same.trans s35
    have f2 := n1.same.free (n2.same.free n3.nn)
    have f3 := n1.same.free (n2.same.free (n3.same.free n4'.nn))
    refine q _ _ (n1.same.trans s15) (dtupN (by rw [newOf_none f3]; exact n4'.at) (dscons (dlstN (by rw [newOf_none n1.nn]; exact s15 _ _ n1.at) (Den.ints _)) (dscons dstr (dscons (dtupN (by rw [newOf_none f2]; exact n4'.same _ _ n3.at) (Den.ints (n4 st.n))) (dscons dint dsnil))))) ⟨p4, l1, _, rfl, n4'.at, n1.nn, s15 _ _ n1.at⟩
theorem dcomp_go {J : It} {n : Nat} {js : List Nat} {g : TG} {tc : TT} {tk tv : TE} {σ : St} {D : Addr} {H1 : Hp} {fin : Hp → Prop} (N : Nat) (Pv : Nat → Hp → Prop) (h0 : Pv 0 H1)
    (go : ∀ i H (Nx : Hp → Prop), i < N → Pv i H → (∀ H', Pv (i + 1) H' → Nx H') → J.go i H ∧
      ∀ x H', J.yld i H x H' → g x (List.replicate n none ++ cvals σ js) H' fun σ2 H2 => tc σ2 H2 fun b H3 =>
      if b = true then tk σ2 H3 fun y H4 => tv σ2 H4 fun z H5 => Ex2 fun kvs k => H5 D = some (.dK kvs) ∧ y = kV k ∧ kvs.length < sizeLine ∧ Nx (upd H5 D (.dK (putK kvs k z))) else Nx H3)
    (stop : ∀ H, Pv N H → J.stop N H ∧ fin H) : CompD J n js g tc tk tv σ D H1 fin := by
  refine ⟨fun i m H => m = N - i ∧ i ≤ N ∧ Pv i H, ⟨N, by simp, Nat.zero_le _, h0⟩, ?_⟩
  rintro i m H ⟨rfl, hi, p⟩
  by_cases hlt : i < N
  · exact .inr (go i H (fun H' => ∃ m', m' < N - i ∧ (m' = N - (i + 1) ∧ i + 1 ≤ N ∧ Pv (i + 1) H')) hlt p fun H' q => ⟨_, by (first | lia | omega), rfl, hlt, q⟩)
  · have e : i = N := by (first | lia | omega)
    subst e
    exact .inl (stop H p)
theorem sc_Machine_init : FnScope ["self", "given"] ["self", "given"] (defScope (inClass (top i_Machine) 0)) := ⟨rfl, rfl, rfl, by decide +kernel, rfl, by decide +kernel, by decide +kernel⟩
theorem ok_init (F : Fun K "__init__" "Machine.__init__" (inClass (top i_Machine) 0) f fd) (T : Nm mg) (MC : Mc K C) {aS : Addr} (g_SPOT_NAMES : mg "SPOT_NAMES" = some (.ref aS)) (hSP : ∀ H, SqT K H aS spotsV) : FnOk P w K mg base CX0 1 f fd ["self", "given"] (spInit K C) := by
  refine F.ok sc_Machine_init (fun vs H Q E h => ?_) (fun cdv A outer s H vs Q E hr h => ?_)
  · obtain ⟨H0, m, dx, gp, rfl, _⟩ := h
    rfl
  obtain ⟨H0, m, dx, gp, rfl, sm, nm, ho, q⟩ := h
  have hu6 := hr.units
  refine ⟨_, (pss_cons (ps_fld (pv 0) (pe_dcomp rfl (comp_ok (Nc := ["spot"]) (Fc := []) (js := [])) (pi_tupK K (pe_gref rfl g_SPOT_NAMES)) (gk_name (i := 0) (n := 1) (by decide)) (fun _ _ _ _ _ => (pg_name (i := 0) (show (["spot"] : List Str).Nodup by decide +kernel) rfl (Or.inl rfl))) (fun _ _ _ _ _ => pts_nil) (fun _ _ _ _ _ => (pv 0)) (fun _ _ _ _ _ => pe_int)) rfl)
    (pss_cons (ps_fld (pv 0) (lit_lstO (K := K) lits_nil) rfl)
    (pss_cons (ps_fld (pv 0) (pv 1) rfl)
    (pss_one (ps_fld (pv 0) pe_int rfl))))), ?_⟩
  refine ⟨aS, rfl, ⟨_, hSP _⟩, fun a ha => ?_⟩
  have hma : m ≠ a := ne_of_none ho ha
  refine dcomp_go (N := 4) (fun i H' => H' = upd H a (.dK ((numK fun _ => 0).take i))) rfl ?_ ?_
  · rintro i H2 Nx hi rfl nx
    have hx : spotsV[i]? = some (.str (sp i)) := by
      have : i = 0 ∨ i = 1 ∨ i = 2 ∨ i = 3 := by (first | lia | omega)
      rcases this with rfl | rfl | rfl | rfl <;> rfl
    refine ⟨⟨_, _, hSP _, hx⟩, ?_⟩
    rintro x' H3 ⟨rfl, hy⟩
    have e := hy _ (hSP _)
    rw [hx] at e; cases e
    refine gn ?_
    refine ⟨_, rfl, _, .inr (sp i), upd_same, rfl, Nat.lt_of_le_of_lt (show _ ≤ 4 from Nat.le_trans (List.length_take_le i _) (by (first | lia | omega))) (by decide), nx _ ?_⟩
    rw [upd_upd]
    have : i = 0 ∨ i = 1 ∨ i = 2 ∨ i = 3 := by (first | lia | omega)
    rcases this with rfl | rfl | rfl | rfl <;> rfl
  · rintro H2 rfl
    refine ⟨⟨_, hSP _, by decide⟩, ?_⟩
    have s1 : Same H0 (upd H a (.dK ((numK fun _ => 0).take 4))) := sm.trans (same_new ha _)
    refine ⟨_, rfl, m, C, dx, _, rfl, by rw [upd_ne hma]; exact ho, MC.c, MC.n1, by show 0 < 1000; decide, ?_⟩
    obtain ⟨H2, e2⟩ : ∃ H2, H2 = upd (upd H a (.dK ((numK fun _ => 0).take 4))) m (.ins C dx (putF "numbers" (.ref a) [])) := ⟨_, rfl⟩
    have h2 : H2 m = some (.ins C dx [("numbers", .ref a)]) := by rw [e2, upd_same]; rfl
    have h2a : H2 a = some (.dK (numK fun _ => 0)) := by rw [e2, upd_ne (Ne.symm hma), upd_same]; rfl
    have s2 : Same H0 H2 := by rw [e2]; exact samePut s1 nm
    rw [← e2]
    clear e2 s1
    intro b vs H3 sm3 nw d3
    unfold Dens at d3
    subst d3
    obtain ⟨nb, hb⟩ := of_newOf nw
    have hmb : m ≠ b := ne_of_none h2 nb
    have hab : a ≠ b := ne_of_none h2a nb
    have hm3 := sm3 _ _ h2
    refine ⟨_, rfl, m, C, dx, _, rfl, hm3, MC.c, MC.n2, by show 1 < 1000; decide, ?_⟩
    refine ⟨_, rfl, _, rfl, m, C, dx, _, rfl, upd_same, MC.c, MC.n3, by show 2 < 1000; decide, ?_⟩
    refine ⟨_, rfl, m, C, dx, _, rfl, upd_same, MC.c, MC.n4, by show 3 < 1000; decide, ?_⟩
    have s3 := s2.trans sm3
    refine q a b _ ⟨samePut (samePut (samePut s3 nm) nm) nm, nm, sm.free ha, s2.free nb, upd_same, ?_, ?_⟩
    · rw [upd_ne (Ne.symm hma), upd_ne (Ne.symm hma), upd_ne (Ne.symm hma)]; exact sm3 _ _ h2a
    · rw [upd_ne (Ne.symm hmb), upd_ne (Ne.symm hmb), upd_ne (Ne.symm hmb)]; exact hb
end
end Z

set_option Elab.async false
set_option linter.all false
set_option maxRecDepth 100000
set_option maxHeartbeats 4000000
namespace Z
open PySem L2
/-! run_rows -/
/-- rows and what is given lie in the heap -/
structure Pg (K : PySem.W.Frag) (H : Hp) (pp gp : Addr) (rows : List Rw) (g : List Int) : Prop where
  ok : ∀ r ∈ rows, r.ok rows.length
  gk : ∀ v ∈ g, 0 ≤ v ∧ v < 256
  ex : ∃ vs, SqL K H pp vs ∧ Dens K H (rows.map Rw.d) vs
  gs : SqL K H gp (g.map V.int)
theorem Pg.same {K : PySem.W.Frag} {H H' : Hp} {pp gp : Addr} {rows : List Rw} {g : List Int} (h : Pg K H pp gp rows g) (s : Same H H') : Pg K H' pp gp rows g := by
  obtain ⟨vs, h1, h2⟩ := h.ex
  exact ⟨h.ok, h.gk, ⟨vs, s.seq h1, h2.same s⟩, s.seq h.gs⟩
theorem Pg.row {K : PySem.W.Frag} {H : Hp} {pp gp : Addr} {rows : List Rw} {g : List Int} (h : Pg K H pp gp rows g) {i : Nat} {r : Rw} (e : rows[i]? = some r) : ∃ vs rp, SqL K H pp vs ∧ vs.length = rows.length ∧ vs[i]? = some (.ref rp) ∧ SqT K H rp (r.ds.map fV) := by
  obtain ⟨vs, h1, h2⟩ := h.ex
  obtain ⟨v, hv, d⟩ := h2.get (i := i) (d := r.d) (by rw [List.getElem?_map, e]; rfl)
  obtain ⟨rp, rfl, hr⟩ := den_flatT d r.flat
  exact ⟨vs, rp, h1, by rw [h2.len, List.length_map], hv, hr⟩
theorem Pg.len {K : PySem.W.Frag} {H : Hp} {pp gp : Addr} {rows : List Rw} {g : List Int} (h : Pg K H pp gp rows g) : ∃ vs, SqL K H pp vs ∧ vs.length = rows.length := by
  obtain ⟨vs, h1, h2⟩ := h.ex
  exact ⟨vs, h1, by rw [h2.len, List.length_map]⟩
noncomputable def spRun (K : PySem.W.Frag) : Sp := fun vs H Q _ => ∃ (pp gp : Addr) (rows : List Rw) (g : List Int) (n : Nat), vs = [.ref pp, .ref gp, .int n] ∧ Pg K H pp gp rows g ∧ n ≤ 5000 ∧
  ∀ v H', Same H H' → Den K (newOf H H') (ansD (runS rows g n) (howS rows g n)) v → OwnT H H' v (runS rows g n).told → Q v H'
theorem far_at {r : Rw} {s : S} (h : jumpS r s = true) : atI (r.ds.map fV) (-1) = some (.int (farS r)) := by
  cases r <;> first | (cases h; done) | rfl
theorem stepS_row {rows : List Rw} {g : List Int} {s : S} {r : Rw} (e : rows[s.at_]? = some r) (h : isStop r = false) : stepS rows g s = rowS g r s := by
  unfold stepS
  rw [e]
  dsimp only
  rw [h, if_neg Bool.false_ne_true]
theorem strNe {x y : Str} (h : (x == y) = false) : decide (V.str x = V.str y) = false := decide_eq_false fun z => by injection z with z; rw [z, beq_self_eq_true] at h; cases h
theorem kind_stop (r : Rw) : decide (V.str (kindS r) = V.str "stop") = isStop r := by
  cases r <;> first | exact decide_eq_true rfl | exact strNe (x := "set") (by decide +kernel) | exact strNe (x := "add") (by decide +kernel) | exact strNe (x := "take") (by decide +kernel) | exact strNe (x := "tell") (by decide +kernel) | exact strNe (x := "ask") (by decide +kernel) | exact strNe (x := "jump") (by decide +kernel) | exact strNe (x := "zero") (by decide +kernel)
section
variable {P : Program} {w : World} {K : PySem.W.Frag} {mg : Str → Option Value} {base : Heap} {f : Addr} {fd : FuncData} {C : Addr}
theorem sc_run_rows : FnScope ["program", "given", "steps", "machine", "at", "step", "row"] ["program", "given", "steps"] (defScope (top i_run_rows)) := ⟨rfl, rfl, rfl, by decide +kernel, rfl, by decide +kernel, by decide +kernel⟩
theorem ok_run (F : Fun K "run_rows" "run_rows" (top i_run_rows) f fd) (T : Nm mg) (C_M : Cls K C) {fi fj fa : Addr} {fdi fdj fda : FuncData} (MK_Machine : Mk K C fi) (g_Machine : mg "Machine" = some (.ref C))
    (FM_init : FnOk P w K mg base CX0 1 fi fdi ["self", "given"] (spInit K C)) (BM_init : Binds K fdi ["self", "given"] [])
    (MT_jumps : Meth K C "jumps" fj) (FM_jumps : FnOk P w K mg base CX0 3 fj fdj ["self", "row"] (spJumps K C)) (BM_jumps : Binds K fdj ["self", "row"] [])
    (MT_answer : Meth K C "answer" fa) (FM_answer : FnOk P w K mg base CX0 1 fa fda ["self", "how", "at"] (spAns K C)) (BM_answer : Binds K fda ["self", "how", "at"] []) :
    FnOk P w K mg base CX0 4 f fd ["program", "given", "steps"] (spRun K) := by
  refine F.ok sc_run_rows (fun vs H Q E h => ?_) (fun cdv A outer s H vs Q E hr h => ?_)
  · obtain ⟨pp, gp, rows, g, n, rfl, _⟩ := h
    rfl
  obtain ⟨pp, gp, rows, g, n, rfl, hP, hn, q⟩ := h
  have hu6 := hr.units
  refine ⟨_, (pss_cons (ps_set (i := 3) sc_run_rows.nd rfl (Or.inl rfl) (pe_make MK_Machine (FM_init.mono (by first | decide | exact Nat.le_refl _)) (hr.mono (by first | decide | exact Nat.le_refl _)) rfl g_Machine BM_init .nil pass0 (pa_cons (pv 1) pa_nil)))
    (pss_cons (ps_set (i := 4) sc_run_rows.nd rfl (Or.inl rfl) pe_int)
    (pss_cons (ps_for PassesOwn.never rfl (pi_range1 rfl T.n_range (pa_cons (pv 2) pa_nil)) (pg_name (i := 5) sc_run_rows.nd rfl (Or.inl rfl)) (pss_cons (ps_if (pt_cmpR (eqK K hu6) (pv 4) (pe_callB (lenK K) rfl T.n_len (by rfl) (pa_cons (pv 0) pa_nil)) (nomark _)) (pss_one ps_break) pss_nil)
    (pss_cons (ps_set (i := 6) sc_run_rows.nd rfl (Or.inl rfl) (pe_ix (ixK K) (pv 0) (pv 4) (fun _ _ => rfl)))
    (pss_cons (ps_if (pt_cmpR (eqK K hu6) (pe_ix (ixK K) (pv 6) pe_int (fun _ _ => rfl)) pe_str (nomark _)) (pss_one (ps_ret (pe_meth (pv 3) C_M MT_answer (FM_answer.mono (by first | decide | exact Nat.le_refl _)) hr BM_answer .nil pass0 (pa_cons pe_str (pa_cons (pv 4) pa_nil))))) pss_nil)
    (pss_one (ps_set (i := 4) sc_run_rows.nd rfl (Or.inl rfl) (pe_ifExp (pt_val (pe_meth (pv 3) C_M MT_jumps (FM_jumps.mono (by first | decide | exact Nat.le_refl _)) hr BM_jumps .nil pass0 (pa_cons (pv 6) pa_nil))) (pe_ix (ixK K) (pv 6) (pe_un un_neg pe_int) (fun _ _ => rfl)) (pe_op addN (pv 4) pe_int))))))))
    (pss_one (ps_ret (pe_meth (pv 3) C_M MT_answer (FM_answer.mono (by first | decide | exact Nat.le_refl _)) hr BM_answer .nil pass0 (pa_cons (pe_ifExp (pt_cmpR (eqK K hu6) (pv 4) (pe_callB (lenK K) rfl T.n_len (by rfl) (pa_cons (pv 0) pa_nil)) (nomark _)) pe_str pe_str) (pa_cons (pv 4) pa_nil)))))))), ?_⟩
  refine ⟨_, rfl, fun m dx hm hdx hne => ⟨H, m, dx, gp, rfl, ?_, hm, upd_same, fun a b H1 M => ⟨rfl, gn ?_⟩⟩⟩
  · exact samePut (same_new hdx _) hm
  dsimp only
  refine gn ?_
  dsimp only
  refine gn ?_
  dsimp only
  have hsok := run_ok hP.ok hP.gk
  refine seqCut (t := tFor _ _ _) (fun σ H' => ∃ (x5 x6 : Option V) (s : S), σ = [some (.ref pp), some (.ref gp), some (.int n), some (.ref m), some (.int s.at_), x5, x6] ∧ s = runS rows g n ∧ Mx C H H' m dx a b gp s ∧ (s.at_ = rows.length ∨ n = 0 ∨ stopS rows (runS rows g (n - 1)) = false)) (fun Nx nx => ?_) ?_
  · refine ⟨_, rfl, _, rfl, by (first | lia | omega), by (first | lia | omega), ?_⟩
    refine for_go (N := n) (fun i σ H' => ∃ (x5 x6 : Option V) (s : S), σ = [some (.ref pp), some (.ref gp), some (.int n), some (.ref m), some (.int s.at_), x5, x6] ∧ s = runS rows g i ∧ Mx C H H' m dx a b gp s ∧ (i = 0 ∨ stopS rows (runS rows g (i - 1)) = false)) ⟨_, _, S0, rfl, rfl, M, .inl rfl⟩ ?_ ?_
    · rintro i σ H2 hi ⟨x5, x6, st, rfl, est, M2, hpre⟩
      have hs := hsok i
      rw [← est] at hs
      have hsa := hs.a
      have hst := hs.t
      have hsq := hs.q
      refine ⟨by show i < ((n : Nat) : Int).toNat; (first | lia | omega), ?_⟩
      rintro x H3 ⟨rfl, rfl⟩
      refine gn ?_
      obtain ⟨vs, hv1, hv2⟩ := (hP.same M2.sm).len
      refine ⟨_, rfl, _, rfl, _, _, rfl, .inl ⟨_, hv1, rfl⟩, .inl ⟨rfl, _, rfl, ite2 (fun e1 => ?_) (fun e1 => ?_)⟩⟩
      · have e1 : st.at_ = rows.length := by have := of_decide_eq_true e1; injection this with this; (first | lia | omega)
        have he : endS rows st = true := by unfold endS; rw [e1, List.getElem?_eq_none (Nat.le_refl _)]
        refine nx _ _ ⟨_, _, st, rfl, ?_, M2, .inl e1⟩
        rw [est] at he ⊢
        exact (run_at he (by (first | lia | omega))).symm
      · have e1 : st.at_ < rows.length := by
          rcases Nat.lt_or_ge st.at_ rows.length with h | h
          · exact h
          · exact absurd (decide_eq_true (by rw [hv2, show st.at_ = rows.length by (first | lia | omega)])) e1
        obtain ⟨r, er⟩ : ∃ r, rows[st.at_]? = some r := ⟨_, List.getElem?_eq_getElem e1⟩
        obtain ⟨vs, rp, hw1, hw2, hw3, hw4⟩ := hP.row er
        refine ⟨_, rfl, _, rfl, .inl ⟨pp, _, _, _, rfl, rfl, M2.sm.seq hw1, at_nat (by (first | lia | omega)) (by rw [Int.toNat_natCast]; exact hw3), gn ?_⟩⟩
        refine ⟨_, rfl, .inr (.inl ⟨rp, _, _, _, rfl, rfl, M2.sm.seqT hw4, kind_at r, .inl ⟨rfl, _, rfl, ?_⟩⟩)⟩
        rw [kind_stop]
        refine ite2 (fun e2 => ?_) (fun e2 => ?_)
        · have hsp : stopS rows st = true := by unfold stopS; rw [er]; exact e2
          refine ⟨_, rfl, m, dx, _, rfl, M2.o, rfl, _, rfl, H, m, dx, a, b, gp, st, "stopped", rfl, M2, by (first | lia | omega), fun v H' sm' d' o' => q v H' (M2.sm.trans sm') ?_ ?_⟩
          · have he := stop_end hsp
            rw [est] at he hsp d'
            have h1 := run_at (n := n) he (by (first | lia | omega))
            have h2 := run_at (n := n - 1) he (by (first | lia | omega))
            rw [h1]
            have : howS rows g n = "stopped" := by
              unfold howS
              exact if_pos (.inr ⟨by (first | lia | omega), by rw [h2]; exact hsp⟩)
            rw [this]
            exact d'.same (newOf_sub M2.sm)
          · have he := stop_end hsp
            rw [est] at he o'
            rw [run_at (n := n) he (by (first | lia | omega))]
            exact o'.sub M2.sm
        · have hns : isStop r = false := by cases h : isStop r with | false => rfl | true => exact absurd h e2
          have hstep : runS rows g (i + 1) = rowS g r st := by
            show stepS rows g (runS rows g i) = _
            rw [← est, stepS_row er hns]
          have hpre' : stopS rows (runS rows g (i + 1 - 1)) = false := by
            rw [Nat.add_sub_cancel, ← est]
            unfold stopS; rw [er]; exact hns
          refine ⟨_, rfl, m, dx, _, rfl, M2.o, rfl, _, rfl, H, m, dx, a, b, gp, rp, st, g, r, rows.length, rfl, M2, hP.gs, by (first | lia | omega), by (first | lia | omega), hw4, hP.ok r (List.mem_of_getElem? er), hns, fun H4 M4 => ?_⟩
          refine ⟨_, rfl, ite2 (fun e3 => ?_) (fun e3 => ?_)⟩
          · refine ⟨_, rfl, _, rfl, .inr (.inl ⟨rp, _, _, _, rfl, rfl, M4.sm.seqT hw4, far_at e3, gn ?_⟩)⟩
            refine ⟨_, _, { workS g r st with at_ := farS r }, rfl, ?_, ⟨M4.sm, M4.nm, M4.na, M4.nb, M4.o, M4.d, M4.t⟩, .inr hpre'⟩
            rw [hstep]; unfold rowS; rw [if_pos e3]
          · refine ⟨_, rfl, .inl ⟨_, _, rfl, rfl, gn ?_⟩⟩
            refine ⟨_, _, { workS g r st with at_ := st.at_ + 1 }, rfl, ?_, ⟨M4.sm, M4.nm, M4.na, M4.nb, M4.o, M4.d, M4.t⟩, .inr hpre'⟩
            rw [hstep]; unfold rowS; rw [if_neg e3]
    · rintro σ H2 ⟨x5, x6, st, rfl, est, M2, hpre⟩
      exact ⟨by show ((n : Nat) : Int).toNat ≤ n; (first | lia | omega), nx _ _ ⟨_, _, st, rfl, est, M2, .inr hpre⟩⟩
  rintro σ H2 ⟨x5, x6, st, rfl, est, M2, hpre⟩
  have hs := hsok n
  rw [← est] at hs
  have hst := hs.t
  have hsa := hs.a
  obtain ⟨vs, hv1, hv2⟩ := (hP.same M2.sm).len
  refine ⟨_, rfl, m, dx, _, rfl, M2.o, rfl, _, rfl, _, rfl, _, _, rfl, .inl ⟨_, hv1, rfl⟩, .inl ⟨rfl, _, rfl, ite2 (fun e1 => ?_) (fun e1 => ?_)⟩⟩
  · have e1 : st.at_ = rows.length := by have := of_decide_eq_true e1; injection this with this; (first | lia | omega)
    refine ⟨_, rfl, H, m, dx, a, b, gp, st, "stopped", rfl, M2, by (first | lia | omega), fun v H' sm' d' o' => q v H' (M2.sm.trans sm') ?_ ?_⟩
    · have : howS rows g n = "stopped" := by unfold howS; exact if_pos (.inl (by rw [← est]; exact e1))
      rw [this, ← est]
      exact d'.same (newOf_sub M2.sm)
    · rw [← est]; exact o'.sub M2.sm
  · have e1 : ¬ st.at_ = rows.length := fun h => e1 (decide_eq_true (by rw [hv2, h]))
    refine ⟨_, rfl, H, m, dx, a, b, gp, st, "going", rfl, M2, by (first | lia | omega), fun v H' sm' d' o' => q v H' (M2.sm.trans sm') ?_ ?_⟩
    · have : howS rows g n = "going" := by
        unfold howS
        refine if_neg ?_
        rintro (h | ⟨h0, h⟩)
        · exact e1 (by rw [est]; exact h)
        · rcases hpre with h' | h' | h'
          · exact e1 h'
          · (first | lia | omega)
          · rw [h] at h'; cases h'
      rw [this, ← est]
      exact d'.same (newOf_sub M2.sm)
    · rw [← est]; exact o'.sub M2.sm
end
end Z

set_option Elab.async false
set_option linter.all false
set_option maxRecDepth 100000
set_option maxHeartbeats 4000000
namespace Z
open PySem L2
/-! the law's own steps -/
structure Bk (H0 H : Hp) (k x y z : Addr) (g : List Int) (s : S) : Prop where
  sm : Same H0 H
  nk : H0 k = none
  nx : H0 x = none
  ny : H0 y = none
  nz : H0 z = none
  xy : x ≠ y
  xz : x ≠ z
  yz : y ≠ z
  d : H k = some (.dK [(.inr "numbers", .ref x), (.inr "given", .ref y), (.inr "told", .ref z)])
  n : H x = some (.lst ((n4 s.n).map V.int))
  g : H y = some (.lst ((g.drop s.asked).map V.int))
  t : H z = some (.lst (s.told.map V.int))
section
variable {H0 H H' : Hp} {k x y z : Addr} {g : List Int} {s : S}
theorem Bk.kx (B : Bk H0 H k x y z g s) : k ≠ x := ne_of B.d B.n (by intro z; cases z)
theorem Bk.ky (B : Bk H0 H k x y z g s) : k ≠ y := ne_of B.d B.g (by intro z; cases z)
theorem Bk.kz (B : Bk H0 H k x y z g s) : k ≠ z := ne_of B.d B.t (by intro z; cases z)
theorem Bk.same (B : Bk H0 H k x y z g s) (h : Same H H') : Bk H0 H' k x y z g s := ⟨B.sm.trans h, B.nk, B.nx, B.ny, B.nz, B.xy, B.xz, B.yz, h _ _ B.d, h _ _ B.n, h _ _ B.g, h _ _ B.t⟩
theorem Bk.num (B : Bk H0 H k x y z g s) (n' : Nat → Int) : Bk H0 (upd H x (.lst ((n4 n').map V.int))) k x y z g { s with n := n' } :=
  ⟨samePut B.sm B.nx, B.nk, B.nx, B.ny, B.nz, B.xy, B.xz, B.yz, by rw [upd_ne B.kx]; exact B.d, upd_same, by rw [upd_ne (Ne.symm B.xy)]; exact B.g, by rw [upd_ne (Ne.symm B.xz)]; exact B.t⟩
theorem Bk.tell (B : Bk H0 H k x y z g s) {t' : List Int} (c : Chg H z (.lst (t'.map V.int)) H') : Bk H0 H' k x y z g { s with told := t' } := by
  rw [c.eq]
  exact ⟨samePut B.sm B.nz, B.nk, B.nx, B.ny, B.nz, B.xy, B.xz, B.yz, by rw [upd_ne B.kz]; exact B.d, by rw [upd_ne B.xz]; exact B.n, by rw [upd_ne B.yz]; exact B.g, upd_same⟩
theorem Bk.ask (B : Bk H0 H k x y z g s) {j : Nat} (c : Chg H y (.lst ((g.drop j).map V.int)) H') : Bk H0 H' k x y z g { s with asked := j } := by
  rw [c.eq]
  exact ⟨samePut B.sm B.ny, B.nk, B.nx, B.ny, B.nz, B.xy, B.xz, B.yz, by rw [upd_ne B.ky]; exact B.d, by rw [upd_ne B.xy]; exact B.n, upd_same, by rw [upd_ne (Ne.symm B.yz)]; exact B.t⟩
theorem Bk.gN (B : Bk H0 H k x y z g s) : DGet H k (.str "numbers") (some (.ref x)) := DGet.k (k := .inr "numbers") B.d
theorem Bk.gG (B : Bk H0 H k x y z g s) : DGet H k (.str "given") (some (.ref y)) := DGet.k (k := .inr "given") B.d
theorem Bk.gT (B : Bk H0 H k x y z g s) : DGet H k (.str "told") (some (.ref z)) := DGet.k (k := .inr "told") B.d
theorem occ4 {p : Nat} (h : p < 4) : PySem.Builtin.Str.occurrences "abcd" (sp p) 0 (Str.length "abcd") 1 = p :: [] := by
  have : p = 0 ∨ p = 1 ∨ p = 2 ∨ p = 3 := by (first | lia | omega)
  rcases this with rfl | rfl | rfl | rfl <;> decide +kernel
theorem at4 {p : Nat} (h : p < 4) (n : Nat → Int) : atI ((n4 n).map V.int) (p : Int) = some (.int (n p)) := by
  have : p = 0 ∨ p = 1 ∨ p = 2 ∨ p = 3 := by (first | lia | omega)
  rcases this with rfl | rfl | rfl | rfl <;> exact at_nat (by decide) rfl
theorem set4 {p : Nat} (h : p < 4) (n : Nat → Int) (v : Int) : ((n4 n).map V.int).set p (.int v) = (n4 (putN n p v)).map V.int := by
  have : p = 0 ∨ p = 1 ∨ p = 2 ∨ p = 3 := by (first | lia | omega)
  rcases this with rfl | rfl | rfl | rfl <;> rfl
theorem ix4 {p : Nat} (h : p < 4) (n : Nat → Int) : ixN ((n4 n).map V.int).length (p : Int) = some p := by
  have := ixN_of (n := ((n4 n).map V.int).length) (p := (p : Int)) (by (first | lia | omega)) (by show (p : Int) < 4; (first | lia | omega))
  rw [this, Int.toNat_natCast]
end
noncomputable def spWorks (K : PySem.W.Frag) : Sp := fun vs H Q _ => ∃ (gp : Addr) (g : List Int), vs = [.ref gp] ∧ SqL K H gp (g.map V.int) ∧ ∀ k x y z H', Bk H H' k x y z g S0 → Q (.ref k) H'
noncomputable def spWork (K : PySem.W.Frag) : Sp := fun vs H Q _ => ∃ (H0 : Hp) (k x y z rp : Addr) (g : List Int) (s : S) (r : Rw) (len : Nat), vs = [.ref k, .ref rp] ∧ Bk H0 H k x y z g s ∧ SqT K H0 rp (r.ds.map fV) ∧ r.ok len ∧ isStop r = false ∧ (∀ s, jumpS r s = false) ∧ s.told.length ≤ 100000 ∧
  ∀ H', Bk H0 H' k x y z g (workS g r s) → Q .non H'
noncomputable def spDone (K : PySem.W.Frag) : Sp := fun vs H Q _ => ∃ (H0 : Hp) (k x y z pp gp : Addr) (rows : List Rw) (g : List Int) (s : S) (r : Rw), vs = [.ref k, .ref pp, .int s.at_] ∧ Bk H0 H k x y z g s ∧ Pg K H0 pp gp rows g ∧ rows[s.at_]? = some r ∧ isStop r = false ∧ s.told.length ≤ 100000 ∧
  ∀ H', Bk H0 H' k x y z g (rowS g r s) → Q (.int (rowS g r s).at_) H'
noncomputable def spEnded (K : PySem.W.Frag) : Sp := fun vs H Q _ => ∃ (pp gp : Addr) (rows : List Rw) (g : List Int) (s : S), vs = [.ref pp, .int s.at_] ∧ Pg K H pp gp rows g ∧ s.at_ ≤ rows.length ∧ Q (.bl (endS rows s)) H
section
variable {P : Program} {w : World} {K : PySem.W.Frag} {mg : Str → Option Value} {base : Heap} {f : Addr} {fd : FuncData} {C : Addr}
theorem sc_law_works : FnScope ["_law_given"] ["_law_given"] (defScope (top i_law_works)) := ⟨rfl, rfl, rfl, by decide +kernel, rfl, by decide +kernel, by decide +kernel⟩
theorem ok_works (F : Fun K "_law_works" "_law_works" (top i_law_works) f fd) (T : Nm mg) : FnOk P w K mg base CX0 1 f fd ["_law_given"] (spWorks K) := by
  refine F.ok sc_law_works (fun vs H Q E h => ?_) (fun cdv A outer s H vs Q E hr h => ?_)
  · obtain ⟨gp, g, rfl, _⟩ := h
    rfl
  obtain ⟨gp, g, rfl, hg, q⟩ := h
  refine ⟨_, (pss_one (ps_ret (dispN (pps_cons pe_str (lit_lstO (K := K) (lits_cons lit_int (lits_cons lit_int (lits_cons lit_int (lits_cons lit_int lits_nil))))) (pps_cons pe_str (pe_callTy (listN K) rfl T.n_list (by rfl) (pa_cons (pv 0) pa_nil)) (pps_cons pe_str (lit_lstO (K := K) lits_nil) pps_nil))) rfl rfl (by decide) (by decide)))), ?_⟩
  intro k H1 n1 x xs H2 sm2 nw2 d2
  rw [dens_flat (ds := [.int 0, .int 0, .int 0, .int 0]) d2 rfl] at nw2
  obtain ⟨nx, hx⟩ := of_newOf nw2
  refine ⟨_, rfl, gp, _, rfl, .inl ((n1.same.trans sm2).seq hg), fun y H3 n3 => ?_⟩
  intro z zs H4 sm4 nw4 d4
  rw [dens_flat (ds := []) d4 rfl] at nw4
  obtain ⟨nz, hz⟩ := of_newOf nw4
  have hk2 := sm2 _ _ n1.at
  have hk4 := sm4 _ _ (n3.same _ _ hk2)
  have hx4 := sm4 _ _ (n3.same _ _ hx)
  have hy4 := sm4 _ _ n3.at
  refine ⟨hk4, [(.inr "numbers", .ref x), (.inr "given", .ref y), (.inr "told", .ref z)], rfl, by show 3 ≤ 15; decide, fun H5 c5 => ?_⟩
  have kx : x ≠ k := (ne_of_none n1.at nx).symm
  have ky : y ≠ k := (ne_of_none hk2 n3.nn).symm
  have kz : z ≠ k := (ne_of_none (n3.same _ _ hk2) nz).symm
  have s4 : Same H1 H4 := sm2.trans (n3.same.trans sm4)
  refine q k x y z H5 ⟨?_, n1.nn, n1.same.free nx, (n1.same.trans sm2).free n3.nn, (n1.same.trans (sm2.trans n3.same)).free nz, (ne_of_none hx n3.nn), (ne_of_none (n3.same _ _ hx) nz), (ne_of_none n3.at nz), by rw [c5.at]; rfl, ?_, ?_, ?_⟩
  · rw [c5.eq]; exact samePut (n1.same.trans s4) n1.nn
  · rw [c5.ne kx]; exact hx4
  · rw [c5.ne ky]; exact hy4
  · rw [c5.ne kz]; exact hz
theorem sc_law_ended : FnScope ["_law_program_here", "_law_at"] ["_law_program_here", "_law_at"] (defScope (top i_law_ended)) := ⟨rfl, rfl, rfl, by decide +kernel, rfl, by decide +kernel, by decide +kernel⟩
theorem ok_ended (F : Fun K "_law_ended" "_law_ended" (top i_law_ended) f fd) (T : Nm mg) : FnOk P w K mg base CX0 1 f fd ["_law_program_here", "_law_at"] (spEnded K) := by
  refine F.ok sc_law_ended (fun vs H Q E h => ?_) (fun cdv A outer s H vs Q E hr h => ?_)
  · obtain ⟨pp, gp, rows, g, s, rfl, _⟩ := h
    rfl
  obtain ⟨pp, gp, rows, g, st, rfl, hP, ha, q⟩ := h
  have hu6 := hr.units
  refine ⟨_, (pss_one (ps_ret (pe_or (pe_cmpR (eqK K hu6) (pv 1) (pe_callB (lenK K) rfl T.n_len (by rfl) (pa_cons (pv 0) pa_nil)) (nomark _)) (pe_one (pe_cmpR (eqK K hu6) (pe_ix (ixK K) (pe_ix (ixK K) (pv 0) (pv 1) (fun _ _ => rfl)) pe_int (fun _ _ => rfl)) pe_str (nomark _)))))), ?_⟩
  obtain ⟨vs, hv1, hv2⟩ := hP.len
  refine ⟨_, rfl, _, rfl, _, _, rfl, .inl ⟨_, hv1, rfl⟩, .inl ⟨rfl, _, rfl, ite2 (fun e1 => ?_) (fun e1 => ?_)⟩⟩
  · have e2 : st.at_ = rows.length := by have := of_decide_eq_true e1; injection this with this; (first | lia | omega)
    have : endS rows st = true := by unfold endS; rw [e2, List.getElem?_eq_none (Nat.le_refl _)]
    rw [this] at q
    exact q
  · have e1 : st.at_ < rows.length := by
      rcases Nat.lt_or_ge st.at_ rows.length with h | h
      · exact h
      · exact absurd (decide_eq_true (by rw [hv2, show st.at_ = rows.length by (first | lia | omega)])) e1
    obtain ⟨r, er⟩ : ∃ r, rows[st.at_]? = some r := ⟨_, List.getElem?_eq_getElem e1⟩
    obtain ⟨vs, rp, hw1, hw2, hw3, hw4⟩ := hP.row er
    refine ⟨_, rfl, _, rfl, .inl ⟨pp, _, _, _, rfl, rfl, hw1, at_nat (by (first | lia | omega)) (by rw [Int.toNat_natCast]; exact hw3), ?_⟩⟩
    refine .inr (.inl ⟨rp, _, _, _, rfl, rfl, hw4, kind_at r, .inl ⟨rfl, ?_⟩⟩)
    rw [kind_stop]
    have : endS rows st = isStop r := by unfold endS; rw [er]
    rw [this] at q
    exact q
theorem sc_law_work : FnScope ["_law_book", "_law_row", "_law_numbers", "_law_spot"] ["_law_book", "_law_row"] (defScope (top i_law_work)) := ⟨rfl, rfl, rfl, by decide +kernel, rfl, by decide +kernel, by decide +kernel⟩
theorem ok_work (F : Fun K "_law_work" "_law_work" (top i_law_work) f fd) (T : Nm mg) : FnOk P w K mg base CX0 1 f fd ["_law_book", "_law_row"] (spWork K) := by
  refine F.ok sc_law_work (fun vs H Q E h => ?_) (fun cdv A outer s H vs Q E hr h => ?_)
  · obtain ⟨H0, k, x, y, z, rp, g, s, r, len, rfl, _⟩ := h
    rfl
  obtain ⟨H0, k, x, y, z, rp, g, st, r, len, rfl, B, hrw, hok, hns, hnj, ht, q⟩ := h
  have hu6 := hr.units
  have hu := hu_of hr
  refine ⟨_, (pss_cons (ps_par (i := 2) (j := 3) rfl sc_law_work.nd rfl rfl (by decide) rfl rfl (pa_cons (pe_dget hu (pv 0) pe_str (fun _ _ => rfl)) (pa_cons (bmK K PySem.F.plainAttrs_str PySem.F.slot_str_index PySem.F.type_str_index idxT pe_str (pa_cons (pe_ix (ixK K) (pv 1) pe_int (fun _ _ => rfl)) pa_nil)) pa_nil)) rfl)
    (pss_one (ps_if (pt_cmpR (eqK K hu6) (pe_ix (ixK K) (pv 1) pe_int (fun _ _ => rfl)) pe_str (nomark _)) (pss_one (ps_asg (pe_ix (ixK K) (pv 1) pe_int (fun _ _ => rfl)) (pg_sub (pv 2) (pv 3) set_list))) (pss_one (ps_if (pt_cmpR (eqK K hu6) (pe_ix (ixK K) (pv 1) pe_int (fun _ _ => rfl)) pe_str (nomark _)) (pss_one (ps_asg (pe_op op_mod (pe_op addN (pe_ix (ixK K) (pv 2) (pv 3) (fun _ _ => rfl)) (pe_ix (ixK K) (pv 2) (bmK K PySem.F.plainAttrs_str PySem.F.slot_str_index PySem.F.type_str_index idxT pe_str (pa_cons (pe_ix (ixK K) (pv 1) pe_int (fun _ _ => rfl)) pa_nil)) (fun _ _ => rfl))) pe_int) (pg_sub (pv 2) (pv 3) set_list))) (pss_one (ps_if (pt_cmpR (eqK K hu6) (pe_ix (ixK K) (pv 1) pe_int (fun _ _ => rfl)) pe_str (nomark _)) (pss_one (ps_asg (pe_op op_mod (pe_op op_sub (pe_ix (ixK K) (pv 2) (pv 3) (fun _ _ => rfl)) (pe_ix (ixK K) (pv 2) (bmK K PySem.F.plainAttrs_str PySem.F.slot_str_index PySem.F.type_str_index idxT pe_str (pa_cons (pe_ix (ixK K) (pv 1) pe_int (fun _ _ => rfl)) pa_nil)) (fun _ _ => rfl))) pe_int) (pg_sub (pv 2) (pv 3) set_list))) (pss_one (ps_if (pt_cmpR (eqK K hu6) (pe_ix (ixK K) (pv 1) pe_int (fun _ _ => rfl)) pe_str (nomark _)) (pss_one (ps_expr (bmK K PySem.F.plainAttrs_list PySem.F.slot_list_append PySem.F.type_list_append appendN (pe_dget hu (pv 0) pe_str (fun _ _ => rfl)) (pa_cons (pe_ix (ixK K) (pv 2) (pv 3) (fun _ _ => rfl)) pa_nil)))) (pss_one (ps_if (pt_cmpR (neK K hu6) (pe_dget hu (pv 0) pe_str (fun _ _ => rfl)) (lit_lst (K := K) lits_nil) (nomark _)) (pss_one (ps_asg (bmK K PySem.F.plainAttrs_list PySem.F.slot_list_pop PySem.F.type_list_pop popAtN (pe_dget hu (pv 0) pe_str (fun _ _ => rfl)) (pa_cons pe_int pa_nil)) (pg_sub (pv 2) (pv 3) set_list))) (pss_one (ps_asg pe_int (pg_sub (pv 2) (pv 3) set_list)))))))))))))), ?_⟩
  have hR := B.sm.seqT hrw
  cases r with
  | stop => cases hns
  | jump t => exact absurd (hnj S0) (by show ¬ true = false; decide)
  | zero p t => exact absurd (hnj S0) (by show ¬ true = false; decide)
  | set p n =>
    refine ⟨_, rfl, k, _, rfl, B.gN, rfl, _, rfl, .inr (.inl ⟨rp, _, _, _, rfl, rfl, hR, rfl, _, _, _, _, rfl, rfl, occ4 hok.1, _, _, rfl, ?_⟩)⟩
    refine ⟨_, rfl, .inr (.inl ⟨rp, _, _, _, rfl, rfl, hR, rfl, .inl ⟨rfl, _, rfl, strT ?_⟩⟩)⟩
    refine ⟨_, rfl, .inr (.inl ⟨rp, _, _, _, rfl, rfl, hR, rfl, ?_⟩)⟩
    refine ⟨_, rfl, _, rfl, x, _, _, _, rfl, rfl, B.n, ix4 hok.1 _, ?_⟩
    rw [show fV (.int n) = V.int n from rfl, set4 hok.1]
    exact q _ (B.num _)
  | add p j =>
    refine ⟨_, rfl, k, _, rfl, B.gN, rfl, _, rfl, .inr (.inl ⟨rp, _, _, _, rfl, rfl, hR, rfl, _, _, _, _, rfl, rfl, occ4 hok.1, _, _, rfl, ?_⟩)⟩
    refine ⟨_, rfl, .inr (.inl ⟨rp, _, _, _, rfl, rfl, hR, rfl, .inl ⟨rfl, _, rfl, strF ?_⟩⟩)⟩
    refine ⟨_, rfl, .inr (.inl ⟨rp, _, _, _, rfl, rfl, hR, rfl, .inl ⟨rfl, _, rfl, strT ?_⟩⟩)⟩
    refine ⟨_, rfl, _, rfl, .inl ⟨x, _, _, _, rfl, rfl, SqL.of B.n, at4 hok.1 _, ?_⟩⟩
    refine ⟨_, rfl, rfl, _, rfl, .inr (.inl ⟨rp, _, _, _, rfl, rfl, hR, rfl, _, _, _, _, rfl, rfl, occ4 hok.2, .inl ⟨x, _, _, _, rfl, rfl, SqL.of B.n, at4 hok.2 _, .inl ⟨_, _, rfl, rfl, _, _, rfl, rfl, (by dsimp only; decide), ?_⟩⟩⟩)⟩
    refine ⟨_, rfl, _, rfl, x, _, _, _, rfl, rfl, B.n, ix4 hok.1 _, ?_⟩
    rw [set4 hok.1]
    exact q _ (B.num _)
  | take p j =>
    refine ⟨_, rfl, k, _, rfl, B.gN, rfl, _, rfl, .inr (.inl ⟨rp, _, _, _, rfl, rfl, hR, rfl, _, _, _, _, rfl, rfl, occ4 hok.1, _, _, rfl, ?_⟩)⟩
    refine ⟨_, rfl, .inr (.inl ⟨rp, _, _, _, rfl, rfl, hR, rfl, .inl ⟨rfl, _, rfl, strF ?_⟩⟩)⟩
    refine ⟨_, rfl, .inr (.inl ⟨rp, _, _, _, rfl, rfl, hR, rfl, .inl ⟨rfl, _, rfl, strF ?_⟩⟩)⟩
    refine ⟨_, rfl, .inr (.inl ⟨rp, _, _, _, rfl, rfl, hR, rfl, .inl ⟨rfl, _, rfl, strT ?_⟩⟩)⟩
    refine ⟨_, rfl, _, rfl, .inl ⟨x, _, _, _, rfl, rfl, SqL.of B.n, at4 hok.1 _, ?_⟩⟩
    refine ⟨_, rfl, rfl, _, rfl, .inr (.inl ⟨rp, _, _, _, rfl, rfl, hR, rfl, _, _, _, _, rfl, rfl, occ4 hok.2, .inl ⟨x, _, _, _, rfl, rfl, SqL.of B.n, at4 hok.2 _, _, _, rfl, rfl, _, _, rfl, rfl, (by dsimp only; decide), ?_⟩⟩)⟩
    refine ⟨_, rfl, _, rfl, x, _, _, _, rfl, rfl, B.n, ix4 hok.1 _, ?_⟩
    rw [set4 hok.1]
    exact q _ (B.num _)
  | tell p =>
    refine ⟨_, rfl, k, _, rfl, B.gN, rfl, _, rfl, .inr (.inl ⟨rp, _, _, _, rfl, rfl, hR, rfl, _, _, _, _, rfl, rfl, occ4 hok, _, _, rfl, ?_⟩)⟩
    refine ⟨_, rfl, .inr (.inl ⟨rp, _, _, _, rfl, rfl, hR, rfl, .inl ⟨rfl, _, rfl, strF ?_⟩⟩)⟩
    refine ⟨_, rfl, .inr (.inl ⟨rp, _, _, _, rfl, rfl, hR, rfl, .inl ⟨rfl, _, rfl, strF ?_⟩⟩)⟩
    refine ⟨_, rfl, .inr (.inl ⟨rp, _, _, _, rfl, rfl, hR, rfl, .inl ⟨rfl, _, rfl, strF ?_⟩⟩)⟩
    refine ⟨_, rfl, .inr (.inl ⟨rp, _, _, _, rfl, rfl, hR, rfl, .inl ⟨rfl, _, rfl, strT ?_⟩⟩)⟩
    refine ⟨_, rfl, k, _, rfl, B.gT, .inl ⟨rfl, _, SqL.of B.t⟩, _, rfl, _, rfl, .inl ⟨x, _, _, _, rfl, rfl, SqL.of B.n, at4 hok _, ?_⟩⟩
    refine ⟨z, _, _, rfl, rfl, B.t, Nat.lt_of_le_of_lt (show _ ≤ 100000 by rw [List.length_map]; exact ht) (by decide), fun H3 c3 => ?_⟩
    exact q _ (B.tell (t' := st.told ++ [st.n p]) (by rw [List.map_append]; exact c3))
  | ask p =>
    refine ⟨_, rfl, k, _, rfl, B.gN, rfl, _, rfl, .inr (.inl ⟨rp, _, _, _, rfl, rfl, hR, rfl, _, _, _, _, rfl, rfl, occ4 hok, _, _, rfl, ?_⟩)⟩
    refine ⟨_, rfl, .inr (.inl ⟨rp, _, _, _, rfl, rfl, hR, rfl, .inl ⟨rfl, _, rfl, strF ?_⟩⟩)⟩
    refine ⟨_, rfl, .inr (.inl ⟨rp, _, _, _, rfl, rfl, hR, rfl, .inl ⟨rfl, _, rfl, strF ?_⟩⟩)⟩
    refine ⟨_, rfl, .inr (.inl ⟨rp, _, _, _, rfl, rfl, hR, rfl, .inl ⟨rfl, _, rfl, strF ?_⟩⟩)⟩
    refine ⟨_, rfl, .inr (.inl ⟨rp, _, _, _, rfl, rfl, hR, rfl, .inl ⟨rfl, _, rfl, strF ?_⟩⟩)⟩
    refine ⟨_, rfl, k, _, rfl, B.gG, fun v1 H1 sm1 d1 => ?_⟩
    have B1 := B.same sm1
    have dg : Den K H1 (.list ((g.drop st.asked).map PyData.int)) (.ref y) := dlstN B1.g (Den.ints _)
    refine .inr ⟨_, _, dg, d1.same newOf_le, (sh_ints (n := 1) _).shaped (by decide), by decide +kernel, _, rfl, ?_⟩
    rw [eqvNil]
    cases eg : g.drop st.asked with
    | nil =>
      refine iteF ?_
      refine ⟨_, rfl, _, rfl, x, _, _, _, rfl, rfl, B1.n, ix4 hok _, ?_⟩
      have hg0 : g.getD st.asked 0 = 0 := by
        have := List.drop_eq_nil_iff.mp eg
        rw [List.getD_eq_getElem?_getD, List.getElem?_eq_none this]; rfl
      have B2 : Bk H0 H1 k x y z g { st with asked := st.asked + 1 } := ⟨B1.sm, B1.nk, B1.nx, B1.ny, B1.nz, B1.xy, B1.xz, B1.yz, B1.d, B1.n, by
        have e1 : g.drop (st.asked + 1) = g.drop st.asked := by
          have := List.drop_eq_nil_iff.mp eg
          rw [eg, List.drop_eq_nil_iff]; (first | lia | omega)
        show H1 y = some (.lst ((g.drop (st.asked + 1)).map V.int))
        rw [e1]; exact B1.g, B1.t⟩
      rw [set4 hok]
      have := q _ (B2.num (putN st.n p (g.getD st.asked 0)))
      rw [hg0] at this
      exact this
    | cons v rest =>
      refine iteT ?_
      have hgv : g.getD st.asked 0 = v ∧ g.drop (st.asked + 1) = rest := by
        have hl : st.asked < g.length := by
          rcases Nat.lt_or_ge st.asked g.length with h | h
          · exact h
          · rw [List.drop_eq_nil_iff.mpr h] at eg; cases eg
        rw [List.drop_eq_getElem_cons hl] at eg
        injection eg with e1 e2
        exact ⟨by rw [List.getD_eq_getElem?_getD, List.getElem?_eq_getElem hl, ← e1]; rfl, e2⟩
      refine ⟨_, rfl, k, _, rfl, B1.gG, .inl ⟨rfl, _, SqL.of B1.g⟩, ?_⟩
      refine ⟨y, _, 0, .int v, rfl, rfl, B1.g, by decide, by decide, by rw [eg]; rfl, fun H2 c2 => ?_⟩
      have B2 := B1.ask (j := st.asked + 1) (H' := H2) (by
        rw [hgv.2]
        have := c2
        rw [eg] at this
        exact this)
      refine ⟨_, rfl, _, rfl, x, _, _, _, rfl, rfl, B2.n, ix4 hok _, ?_⟩
      rw [set4 hok]
      have := q _ (B2.num (putN st.n p (g.getD st.asked 0)))
      rw [hgv.1] at this
      exact this
end
end Z

set_option Elab.async false
set_option linter.all false
set_option maxRecDepth 100000
set_option maxHeartbeats 4000000
namespace L2
open PySem
end L2
namespace Z
open PySem L2
noncomputable abbrev stD (s : S) : PyData := .tuple [.list (s.told.map .int), .tuple ((n4 s.n).map .int), .int s.at_]
theorem Pg.at_row {K : PySem.W.Frag} {H : Hp} {pp gp : Addr} {rows : List Rw} {g : List Int} (h : Pg K H pp gp rows g) {i : Nat} {r : Rw} (e : rows[i]? = some r) : ∃ vs rp, SqL K H pp vs ∧ atI vs (i : Int) = some (.ref rp) ∧ SqT K H rp (r.ds.map fV) := by
  obtain ⟨vs, rp, h1, h2, h3, h4⟩ := h.row e
  exact ⟨vs, rp, h1, at_nat (by (first | lia | omega)) (by rw [Int.toNat_natCast]; exact h3), h4⟩
/-- without four, five things -/
noncomputable def hd4 (H : Hp) (k x y z : Addr) : Hp := fun q => if q = k ∨ q = x ∨ q = y ∨ q = z then none else H q
theorem hd4_le {H : Hp} {k x y z : Addr} : Same (hd4 H k x y z) H := fun a o e => by
  unfold hd4 at e
  split at e
  · cases e
  · exact e
theorem of_hd4 {H : Hp} {k x y z a : Addr} {o : HO} (e : hd4 H k x y z a = some o) : H a = some o ∧ a ≠ k ∧ a ≠ x ∧ a ≠ y ∧ a ≠ z := by
  unfold hd4 at e
  split at e
  · cases e
  · rename_i n
    exact ⟨e, fun h => n (.inl h), fun h => n (.inr (.inl h)), fun h => n (.inr (.inr (.inl h))), fun h => n (.inr (.inr (.inr h)))⟩
theorem hd4_of {H : Hp} {k x y z a : Addr} (h1 : a ≠ k) (h2 : a ≠ x) (h3 : a ≠ y) (h4 : a ≠ z) : hd4 H k x y z a = H a := by
  unfold hd4
  rw [if_neg]
  rintro (h | h | h | h)
  · exact h1 h
  · exact h2 h
  · exact h3 h
  · exact h4 h
noncomputable def hdL (G : Hp) (l : Addr) : Hp := fun q => if q = l then none else G q
theorem hdL_of {G : Hp} {l a : Addr} (h : a ≠ l) : hdL G l a = G a := if_neg h
theorem of_hdL {G : Hp} {l a : Addr} {o : HO} (e : hdL G l a = some o) : G a = some o ∧ a ≠ l := by
  unfold hdL at e
  split at e
  · cases e
  · rename_i n; exact ⟨e, n⟩
theorem Bk.again {H0 H : Hp} {k x y z : Addr} {g : List Int} {s : S} (B : Bk H0 H k x y z g s) : Bk (hd4 H k x y z) H k x y z g s :=
  ⟨hd4_le, if_pos (.inl rfl), if_pos (.inr (.inl rfl)), if_pos (.inr (.inr (.inl rfl))), if_pos (.inr (.inr (.inr rfl))), B.xy, B.xz, B.yz, B.d, B.n, B.g, B.t⟩
theorem Bk.sub {H0 H : Hp} {k x y z : Addr} {g : List Int} {s : S} (B : Bk H0 H k x y z g s) : Same H0 (hd4 H k x y z) := fun a o e => by
  rw [hd4_of (ne_of_none e B.nk) (ne_of_none e B.nx) (ne_of_none e B.ny) (ne_of_none e B.nz)]
  exact B.sm a o e
theorem Bk.base {H0 H H1 : Hp} {k x y z : Addr} {g : List Int} {s : S} (B : Bk H1 H k x y z g s) (h : Same H0 H1) : Bk H0 H k x y z g s :=
  ⟨h.trans B.sm, h.free B.nk, h.free B.nx, h.free B.ny, h.free B.nz, B.xy, B.xz, B.yz, B.d, B.n, B.g, B.t⟩
theorem Bk.at {H0 H : Hp} {k x y z : Addr} {g : List Int} {s : S} (B : Bk H0 H k x y z g s) (j : Nat) : Bk H0 H k x y z g { s with at_ := j } := ⟨B.sm, B.nk, B.nx, B.ny, B.nz, B.xy, B.xz, B.yz, B.d, B.n, B.g, B.t⟩
noncomputable def spStands (K : PySem.W.Frag) : Sp := fun vs H Q _ => ∃ (pp gp : Addr) (rows : List Rw) (g : List Int), vs = [.ref pp, .ref gp] ∧ Pg K H pp gp rows g ∧
  ∀ lp us I G H', Same H H' → H lp = none → H' lp = some (.lst us) → Same G H' → (∀ a o, G a = some o → H a = none) → Dens K G ((List.range (I + 1)).map fun j => stD (runS rows g j)) us → I ≤ 200 → (∀ j, j < I → endS rows (runS rows g j) = false) → (I = 200 ∨ endS rows (runS rows g I) = true) → Q (.ref lp) H'
section
variable {P : Program} {w : World} {K : PySem.W.Frag} {mg : Str → Option Value} {base : Heap} {f : Addr} {fd : FuncData} {C : Addr}
theorem sc_law_done : FnScope ["_law_book", "_law_program_here", "_law_at", "_law_row"] ["_law_book", "_law_program_here", "_law_at"] (defScope (top i_law_done)) := ⟨rfl, rfl, rfl, by decide +kernel, rfl, by decide +kernel, by decide +kernel⟩
theorem ok_done (F : Fun K "_law_done" "_law_done" (top i_law_done) f fd) (T : Nm mg) (f_law_work : Fn P w K mg base 1 "_law_work" ["_law_book", "_law_row"] (spWork K)) : FnOk P w K mg base CX0 2 f fd ["_law_book", "_law_program_here", "_law_at"] (spDone K) := by
  refine F.ok sc_law_done (fun vs H Q E h => ?_) (fun cdv A outer s H vs Q E hr h => ?_)
  · obtain ⟨H0, k, x, y, z, pp, gp, rows, g, s, r, rfl, _⟩ := h
    rfl
  obtain ⟨H0, k, x, y, z, pp, gp, rows, g, st, r, rfl, B, hP, er, hns, ht, q⟩ := h
  have hu6 := hr.units
  have hu := hu_of hr
  refine ⟨_, (pss_cons (ps_set (i := 3) sc_law_done.nd rfl (Or.inl rfl) (pe_ix (ixK K) (pv 1) (pv 2) (fun _ _ => rfl)))
    (pss_cons (ps_if (pt_cmpR (eqK K hu6) (pe_ix (ixK K) (pv 3) pe_int (fun _ _ => rfl)) pe_str (nomark _)) (pss_one (ps_ret (pe_ix (ixK K) (pv 3) pe_int (fun _ _ => rfl)))) pss_nil)
    (pss_cons (ps_if (pt_cmpR (eqK K hu6) (pe_ix (ixK K) (pv 3) pe_int (fun _ _ => rfl)) pe_str (nomark _)) (pss_one (ps_ret (pe_ifExp (pt_cmpR (eqK K hu6) (pe_ix (ixK K) (pe_dget hu (pv 0) pe_str (fun _ _ => rfl)) (bmK K PySem.F.plainAttrs_str PySem.F.slot_str_index PySem.F.type_str_index idxT pe_str (pa_cons (pe_ix (ixK K) (pv 3) pe_int (fun _ _ => rfl)) pa_nil)) (fun _ _ => rfl)) pe_int (nomark _)) (pe_ix (ixK K) (pv 3) pe_int (fun _ _ => rfl)) (pe_op addN (pv 2) pe_int)))) pss_nil)
    (pss_cons (ps_expr (pe_fn (f_law_work.mono (by first | decide | exact Nat.le_refl _ | (first | lia | omega))) hr rfl (pa_cons (pv 0) (pa_cons (pv 3) pa_nil))))
    (pss_one (ps_ret (pe_op addN (pv 2) pe_int))))))), ?_⟩
  obtain ⟨vs, rp, hw1, hw2, hw4⟩ := hP.at_row er
  have hok := hP.ok r (List.mem_of_getElem? er)
  have hR := B.sm.seqT hw4
  refine ⟨_, rfl, _, rfl, .inl ⟨pp, _, _, _, rfl, rfl, B.sm.seq hw1, hw2, gn ?_⟩⟩
  refine ⟨_, rfl, .inr (.inl ⟨rp, _, _, _, rfl, rfl, hR, kind_at r, .inl ⟨rfl, _, rfl, ?_⟩⟩)⟩
  cases r with
  | stop => cases hns
  | jump t =>
    refine strT (x := "jump") ⟨_, rfl, .inr (.inl ⟨rp, _, _, _, rfl, rfl, hR, rfl, q _ (B.at t)⟩)⟩
  | zero p t =>
    refine strF (x := "zero") ?_
    refine ⟨_, rfl, .inr (.inl ⟨rp, _, _, _, rfl, rfl, hR, rfl, .inl ⟨rfl, _, rfl, strT ?_⟩⟩)⟩
    refine ⟨_, rfl, k, _, rfl, B.gN, rfl, _, rfl, .inr (.inl ⟨rp, _, _, _, rfl, rfl, hR, rfl, _, _, _, _, rfl, rfl, occ4 hok.1, .inl ⟨x, _, _, _, rfl, rfl, SqL.of B.n, at4 hok.1 _, .inl ⟨rfl, _, rfl, ite2 (fun e => ?_) (fun e => ?_)⟩⟩⟩)⟩
    · have e : st.n p = 0 := by have := of_decide_eq_true e; injection this
      have e2 : rowS g (.zero p t) st = { st with at_ := t } := by
        show ({ st with at_ := if decide (st.n p = 0) = true then t else st.at_ + 1 } : S) = _
        rw [decide_eq_true e, if_pos rfl]
      rw [e2] at q
      exact ⟨_, rfl, .inr (.inl ⟨rp, _, _, _, rfl, rfl, hR, rfl, q _ (B.at t)⟩)⟩
    · have e : ¬ st.n p = 0 := fun h => e (decide_eq_true (by rw [h]))
      have e2 : rowS g (.zero p t) st = { st with at_ := st.at_ + 1 } := by
        show ({ st with at_ := if decide (st.n p = 0) = true then t else st.at_ + 1 } : S) = _
        rw [decide_eq_false e, if_neg Bool.false_ne_true]
      rw [e2] at q
      exact ⟨_, rfl, .inl ⟨_, _, rfl, rfl, q _ (B.at _)⟩⟩
  | set p n =>
    refine strF (x := "set") ?_
    refine ⟨_, rfl, .inr (.inl ⟨rp, _, _, _, rfl, rfl, hR, rfl, .inl ⟨rfl, _, rfl, strF (x := "set") ?_⟩⟩)⟩
    refine ⟨_, rfl, _, rfl, H0, k, x, y, z, rp, g, st, .set p n, rows.length, rfl, B, hw4, hok, hns, fun _ => rfl, ht, fun H' B' => ?_⟩
    exact ⟨_, rfl, .inl ⟨_, _, rfl, rfl, q _ (B'.at _)⟩⟩
  | add p n =>
    refine strF (x := "add") ?_
    refine ⟨_, rfl, .inr (.inl ⟨rp, _, _, _, rfl, rfl, hR, rfl, .inl ⟨rfl, _, rfl, strF (x := "add") ?_⟩⟩)⟩
    refine ⟨_, rfl, _, rfl, H0, k, x, y, z, rp, g, st, .add p n, rows.length, rfl, B, hw4, hok, hns, fun _ => rfl, ht, fun H' B' => ?_⟩
    exact ⟨_, rfl, .inl ⟨_, _, rfl, rfl, q _ (B'.at _)⟩⟩
  | take p n =>
    refine strF (x := "take") ?_
    refine ⟨_, rfl, .inr (.inl ⟨rp, _, _, _, rfl, rfl, hR, rfl, .inl ⟨rfl, _, rfl, strF (x := "take") ?_⟩⟩)⟩
    refine ⟨_, rfl, _, rfl, H0, k, x, y, z, rp, g, st, .take p n, rows.length, rfl, B, hw4, hok, hns, fun _ => rfl, ht, fun H' B' => ?_⟩
    exact ⟨_, rfl, .inl ⟨_, _, rfl, rfl, q _ (B'.at _)⟩⟩
  | tell p =>
    refine strF (x := "tell") ?_
    refine ⟨_, rfl, .inr (.inl ⟨rp, _, _, _, rfl, rfl, hR, rfl, .inl ⟨rfl, _, rfl, strF (x := "tell") ?_⟩⟩)⟩
    refine ⟨_, rfl, _, rfl, H0, k, x, y, z, rp, g, st, .tell p, rows.length, rfl, B, hw4, hok, hns, fun _ => rfl, ht, fun H' B' => ?_⟩
    exact ⟨_, rfl, .inl ⟨_, _, rfl, rfl, q _ (B'.at _)⟩⟩
  | ask p =>
    refine strF (x := "ask") ?_
    refine ⟨_, rfl, .inr (.inl ⟨rp, _, _, _, rfl, rfl, hR, rfl, .inl ⟨rfl, _, rfl, strF (x := "ask") ?_⟩⟩)⟩
    refine ⟨_, rfl, _, rfl, H0, k, x, y, z, rp, g, st, .ask p, rows.length, rfl, B, hw4, hok, hns, fun _ => rfl, ht, fun H' B' => ?_⟩
    exact ⟨_, rfl, .inl ⟨_, _, rfl, rfl, q _ (B'.at _)⟩⟩
theorem sc_law_stands : FnScope ["_law_program_here", "_law_given", "_law_book", "_law_at", "_law_found"] ["_law_program_here", "_law_given"] (defScope (top i_law_stands)) := ⟨rfl, rfl, rfl, by decide +kernel, rfl, by decide +kernel, by decide +kernel⟩
theorem ok_stands (F : Fun K "_law_stands" "_law_stands" (top i_law_stands) f fd) (T : Nm mg) (f_law_works : Fn P w K mg base 1 "_law_works" ["_law_given"] (spWorks K)) (f_law_ended : Fn P w K mg base 1 "_law_ended" ["_law_program_here", "_law_at"] (spEnded K)) (f_law_done : Fn P w K mg base 2 "_law_done" ["_law_book", "_law_program_here", "_law_at"] (spDone K)) : FnOk P w K mg base CX0 3 f fd ["_law_program_here", "_law_given"] (spStands K) := by
  refine F.ok sc_law_stands (fun vs H Q E h => ?_) (fun cdv A outer s H vs Q E hr h => ?_)
  · obtain ⟨pp, gp, rows, g, rfl, _⟩ := h
    rfl
  obtain ⟨pp, gp, rows, g, rfl, hP, q⟩ := h
  have hu6 := hr.units
  have hu := hu_of hr
  refine ⟨_, (pss_cons (ps_par (i := 2) (j := 3) rfl sc_law_stands.nd rfl rfl (by decide) rfl rfl (pa_cons (pe_fn (f_law_works.mono (by first | decide | exact Nat.le_refl _ | (first | lia | omega))) hr rfl (pa_cons (pv 1) pa_nil)) (pa_cons pe_int pa_nil)) rfl)
    (pss_cons (ps_set (i := 4) sc_law_stands.nd rfl (Or.inl rfl) (lstN (pa_cons (lit_tup (K := K) (lits_cons (lit_lst (K := K) lits_nil) (lits_cons (lit_tup (K := K) (lits_cons lit_int (lits_cons lit_int (lits_cons lit_int (lits_cons lit_int lits_nil))))) (lits_cons lit_int lits_nil)))) pa_nil)))
    (pss_cons (ps_while PassesOwn.never (PW.pt (pw_and (pt_cmpR op_lt (pe_callB (lenK K) rfl T.n_len (by rfl) (pa_cons (pv 4) pa_nil)) pe_int (nomark _)) (pw_and1 (pt_not (pt_val (pe_fn (f_law_ended.mono (by first | decide | exact Nat.le_refl _ | (first | lia | omega))) hr rfl (pa_cons (pv 0) (pa_cons (pv 3) pa_nil)))))))) (pss_cons (ps_set (i := 3) sc_law_stands.nd rfl (Or.inl rfl) (pe_fn (f_law_done.mono (by first | decide | exact Nat.le_refl _ | (first | lia | omega))) hr rfl (pa_cons (pv 2) (pa_cons (pv 0) (pa_cons (pv 3) pa_nil)))))
    (pss_one (ps_expr (bmK K PySem.F.plainAttrs_list PySem.F.slot_list_append PySem.F.type_list_append appendN (pv 4) (pa_cons (tupN (pa_cons (pe_callTy (listN K) rfl T.n_list (by rfl) (pa_cons (pe_dget hu (pv 2) pe_str (fun _ _ => rfl)) pa_nil)) (pa_cons (pe_callTy (tupleN K) rfl T.n_tuple (by rfl) (pa_cons (pe_dget hu (pv 2) pe_str (fun _ _ => rfl)) pa_nil)) (pa_cons (pv 3) pa_nil)))) pa_nil))))))
    (pss_one (ps_ret (pv 4)))))), ?_⟩
  have hsok := run_ok hP.ok hP.gk
  refine ⟨_, rfl, gp, g, rfl, hP.gs, fun k x y z H1 B1 => ⟨_, _, rfl, fun v2 H2 sm2 d2 => ⟨by show 1 ≤ sizeLine; decide, fun lp H3 n3 => gn ?_⟩⟩⟩
  dsimp only
  have B3 := (B1.same sm2).same n3.same
  have h23 := sm2.trans n3.same
  have nl1 : H1 lp = none := sm2.free n3.nn
  have kl : lp ≠ k := (ne_of_none B1.d nl1).symm
  have xl : lp ≠ x := (ne_of_none B1.n nl1).symm
  have yl : lp ≠ y := (ne_of_none B1.g nl1).symm
  have zl : lp ≠ z := (ne_of_none B1.t nl1).symm
  have nl : H lp = none := B1.sm.free nl1
  have d3 : Den K (newOf H (hdL (hd4 H3 k x y z) lp)) (stD (runS rows g 0)) v2 := d2.same fun a o e => by
    obtain ⟨e1, e2⟩ := of_newOf e
    rw [newOf_none (B1.sm.free e1), hdL_of (ne_of_none e2 n3.nn), hd4_of (ne_of_none B1.d e1).symm (ne_of_none B1.n e1).symm (ne_of_none B1.g e1).symm (ne_of_none B1.t e1).symm]
    exact n3.same _ _ e2
  refine seqCut (t := tWhile _ _) (fun σ H' => ∃ (I : Nat) (us : List V) (x3 : Option V), σ = [some (.ref pp), some (.ref gp), some (.ref k), x3, some (.ref lp)] ∧ Same H H' ∧ H' lp = some (.lst us) ∧ (∃ G, Same G H' ∧ (∀ a o, G a = some o → H a = none) ∧ Dens K G ((List.range (I + 1)).map fun j => stD (runS rows g j)) us) ∧ I ≤ 200 ∧ (∀ j, j < I → endS rows (runS rows g j) = false) ∧ (I = 200 ∨ endS rows (runS rows g I) = true)) (fun Nx nx => ?_) ?_
  · refine whileGo (fun m σ H' => ∃ (I : Nat) (us : List V), m = 200 - I ∧ σ = [some (.ref pp), some (.ref gp), some (.ref k), some (.int (runS rows g I).at_), some (.ref lp)] ∧ Bk H H' k x y z g (runS rows g I) ∧ H' lp = some (.lst us) ∧ Dens K (newOf H (hdL (hd4 H' k x y z) lp)) ((List.range (I + 1)).map fun j => stD (runS rows g j)) us ∧ I ≤ 200 ∧ (∀ j, j < I → endS rows (runS rows g j) = false)) ⟨200, 0, _, rfl, rfl, B3, n3.at, dscons d3 dsnil, by decide, fun _ h => absurd h (Nat.not_lt_zero _)⟩ ?_
    rintro m σ H4 ⟨I, us, rfl, rfl, B4, hl4, d4, hI, hE⟩
    have hul : us.length = I + 1 := by rw [d4.len, List.length_map, List.length_range]
    have hs := hsok I
    have le4 : Same (newOf H (hdL (hd4 H4 k x y z) lp)) H4 := fun a o e => hd4_le _ _ (of_hdL (of_newOf e).2).1
    have fr4 : ∀ a o, newOf H (hdL (hd4 H4 k x y z) lp) a = some o → H a = none := fun a o e => (of_newOf e).1
    refine ⟨_, rfl, _, _, rfl, .inl ⟨_, SqL.of hl4, rfl⟩, _, _, rfl, rfl, _, rfl, ite2 (fun e1 => ?_) (fun e1 => ?_)⟩
    · have e1 := of_decide_eq_true e1
      refine ⟨_, rfl, _, rfl, pp, gp, rows, g, runS rows g I, rfl, hP.same B4.sm, hs.a, _, rfl, ?_⟩
      cases he : endS rows (runS rows g I) with
      | true => exact iteF (nx _ _ ⟨I, us, _, rfl, B4.sm, hl4, ⟨_, le4, fr4, d4⟩, hI, hE, .inr he⟩)
      | false =>
        refine iteT ⟨fun σ H' => ∃ (us : List V), σ = [some (.ref pp), some (.ref gp), some (.ref k), some (.int (runS rows g (I + 1)).at_), some (.ref lp)] ∧ Bk H H' k x y z g (runS rows g (I + 1)) ∧ H' lp = some (.lst us) ∧ Dens K (newOf H (hdL (hd4 H' k x y z) lp)) ((List.range (I + 2)).map fun j => stD (runS rows g j)) us, ?_, ?_⟩
        · rintro σ H' ⟨us', rfl, h1, h2, h3⟩
          exact ⟨200 - (I + 1), by (first | lia | omega), I + 1, us', rfl, rfl, h1, h2, h3, by (first | lia | omega), fun j hj => by
            rcases Nat.lt_or_ge j I with h | h
            · exact hE j h
            · rw [show j = I by (first | lia | omega)]; exact he⟩
        have her := he
        unfold endS at her
        obtain ⟨r, er⟩ : ∃ r, rows[(runS rows g I).at_]? = some r := by
          cases e : rows[(runS rows g I).at_]? with
          | none => rw [e] at her; cases her
          | some r => exact ⟨r, rfl⟩
        rw [er] at her
        have hstep : runS rows g (I + 1) = rowS g r (runS rows g I) := stepS_row er her
        have hst := hs.t
        refine ⟨_, rfl, _, rfl, _, rfl, hd4 H4 k x y z, k, x, y, z, pp, gp, rows, g, runS rows g I, r, rfl, B4.again, hP.same B4.sub, er, her, by (first | lia | omega), fun H5 B5 => gn ?_⟩
        rw [← hstep] at B5 ⊢
        have hl5 : H5 lp = some (.lst us) := B5.sm _ _ (by rw [hd4_of kl xl yl zl]; exact hl4)
        refine ⟨_, rfl, .inl ⟨rfl, _, SqL.of hl5⟩, ?_⟩
        refine ⟨_, rfl, k, _, rfl, B5.gT, z, _, rfl, .inl (SqL.of B5.t), fun l1 H6 n6 => ?_⟩
        have B6 := B5.same n6.same
        refine ⟨_, rfl, k, _, rfl, B6.gN, x, _, rfl, .inl ⟨SqL.of B6.n, fun l2 H7 n7 => ?_⟩⟩
        refine ⟨_, rfl, by show 3 ≤ sizeLine; decide, fun l3 H8 n8 => ?_⟩
        have s58 := n6.same.trans (n7.same.trans n8.same)
        refine ⟨lp, _, _, rfl, rfl, s58 _ _ hl5, Nat.lt_of_le_of_lt (show us.length ≤ 1000 by (first | lia | omega)) (by decide), fun H9 c9 => ?_⟩
        have B8 := B5.same s58
        have sub9 : Same (hdL (hd4 H8 k x y z) lp) (hdL (hd4 H9 k x y z) lp) := fun a o e => by
          obtain ⟨e1, e2⟩ := of_hdL e
          obtain ⟨e1, h1, h2, h3, h4⟩ := of_hd4 e1
          rw [hdL_of e2, hd4_of h1 h2 h3 h4, c9.ne e2]; exact e1
        have sub8 : Same (hdL (hd4 H4 k x y z) lp) (hdL (hd4 H8 k x y z) lp) := fun a o e => by
          obtain ⟨e1, e2⟩ := of_hdL e
          obtain ⟨_, h1, h2, h3, h4⟩ := of_hd4 e1
          rw [hdL_of e2, hd4_of h1 h2 h3 h4]; exact s58 _ _ (B5.sm _ _ e1)
        have put : ∀ {a : Addr} {o : HO}, H5 a = none → H8 a = some o → newOf H (hdL (hd4 H8 k x y z) lp) a = some o := fun {a o} e1 e2 => by
          rw [newOf_none ((B4.sub.trans B5.sm).free e1), hdL_of (ne_of_none hl5 e1).symm, hd4_of (ne_of_none B5.d e1).symm (ne_of_none B5.n e1).symm (ne_of_none B5.g e1).symm (ne_of_none B5.t e1).symm]; exact e2
        have p1 := put n6.nn (n8.same _ _ (n7.same _ _ n6.at))
        have p2 := put (n6.same.free n7.nn) (n8.same _ _ n7.at)
        have p3 := put ((n6.same.trans n7.same).free n8.nn) n8.at
        have dn : Den K (newOf H (hdL (hd4 H8 k x y z) lp)) (stD (runS rows g (I + 1))) (.ref l3) := dtupN p3 (dscons (dlstN p1 (Den.ints _)) (dscons (dtupN p2 (Den.ints _)) (dscons dint dsnil)))
        refine ⟨us ++ [.ref l3], rfl, ?_, c9.at, ?_⟩
        · have := (B8.base B4.sub)
          refine ⟨?_, this.nk, this.nx, this.ny, this.nz, B8.xy, B8.xz, B8.yz, ?_, ?_, ?_, ?_⟩
          · rw [c9.eq]; exact samePut this.sm nl
          · rw [c9.ne (Ne.symm kl)]; exact B8.d
          · rw [c9.ne (Ne.symm xl)]; exact B8.n
          · rw [c9.ne (Ne.symm yl)]; exact B8.g
          · rw [c9.ne (Ne.symm zl)]; exact B8.t
        · rw [show I + 2 = (I + 1) + 1 from rfl, List.range_succ, List.map_append]
          exact densApp ((d4.same (newOf_more sub8)).same (newOf_more sub9)) (dn.same (newOf_more sub9))
    · have e1 := of_decide_eq_false (Bool.eq_false_iff.mpr e1)
      exact nx _ _ ⟨I, us, _, rfl, B4.sm, hl4, ⟨_, le4, fr4, d4⟩, hI, hE, .inl (by (first | lia | omega))⟩
  rintro σ H4 ⟨I, us, x3, rfl, sm4, hl4, ⟨G, g1, g2, d4⟩, hI, hE, hor⟩
  exact ⟨_, rfl, q lp us I G H4 sm4 nl hl4 g1 g2 d4 hI hE hor⟩
end
end Z

set_option Elab.async false
set_option linter.all false
set_option maxRecDepth 100000
set_option maxHeartbeats 4000000
namespace Z
open PySem L2
/-! the draws of k44 -/
theorem spotAt {r : Int} (h0 : 0 ≤ r) (h1 : r < 4) : ∃ ch p, atI (Str.ofString "abcd").cps.toList r = some ch ∧ p < 4 ∧ (⟨#[ch]⟩ : Str) = sp p := by
  have : r = 0 ∨ r = 1 ∨ r = 2 ∨ r = 3 := by (first | lia | omega)
  rcases this with rfl | rfl | rfl | rfl
  · exact ⟨97, 0, by decide +kernel, by decide, by decide +kernel⟩
  · exact ⟨98, 1, by decide +kernel, by decide, by decide +kernel⟩
  · exact ⟨99, 2, by decide +kernel, by decide, by decide +kernel⟩
  · exact ⟨100, 3, by decide +kernel, by decide, by decide +kernel⟩
/-- tuples stand -/
noncomputable def TP (H H' : Hp) : Prop := ∀ a us, H a = some (.tup us) → H' a = some (.tup us)
theorem TP.refl {H : Hp} : TP H H := fun _ _ e => e
theorem TP.trans {H H' H2 : Hp} (h : TP H H') (g : TP H' H2) : TP H H2 := fun a us e => g a us (h a us e)
theorem TP.same {H H' : Hp} (h : Same H H') : TP H H' := fun a us e => h _ _ e
theorem TP.step {b c : Addr} {H H' : Hp} {t t' N t0 : Int} (bx : Bx H b c t0) (st : Step b c H H' t t' N) : TP H H' := fun a us e => by
  obtain ⟨ns, bx⟩ := bx
  exact st.old e (fun z => by rw [z, bx.d] at e; cases e) (fun z => by rw [z, bx.l] at e; cases e)
theorem TP.chg {H H' : Hp} {p : Addr} {xs : List V} {o : HO} (h : H p = some (.lst xs)) (c : Chg H p o H') : TP H H' := fun a us e => by
  rw [c.ne (fun z => by rw [z, h] at e; cases e)]; exact e
/-- rows lie there -/
noncomputable def Tups (H : Hp) (rows : List Rw) (vs : List V) : Prop := vs.length = rows.length ∧ ∀ (i : Nat) (r : Rw), rows[i]? = some r → ∃ rp : Addr, vs[i]? = some (V.ref rp) ∧ H rp = some (.tup (r.ds.map fV))
theorem Tups.tp {H H' : Hp} {rows : List Rw} {vs : List V} (h : Tups H rows vs) (g : TP H H') : Tups H' rows vs := ⟨h.1, fun i r e => by
  obtain ⟨rp, h1, h2⟩ := h.2 i r e
  exact ⟨rp, h1, g _ _ h2⟩⟩
theorem Tups.snoc {H : Hp} {rows : List Rw} {vs : List V} {r : Rw} {rp : Addr} (h : Tups H rows vs) (g : H rp = some (.tup (r.ds.map fV))) : Tups H (rows ++ [r]) (vs ++ [.ref rp]) := ⟨by rw [List.length_append, List.length_append, h.1]; rfl, fun i q e => by
  by_cases hi : i < rows.length
  · rw [List.getElem?_append_left hi] at e
    obtain ⟨p, h1, h2⟩ := h.2 i q e
    exact ⟨p, by rw [List.getElem?_append_left (by rw [h.1]; exact hi)]; exact h1, h2⟩
  · rw [List.getElem?_append_right (by (first | lia | omega))] at e
    have : i - rows.length = 0 := by have := (List.getElem?_eq_some_iff.mp e).1; simp at this; (first | lia | omega)
    rw [this] at e
    cases e
    exact ⟨rp, by rw [List.getElem?_append_right (by rw [h.1]; (first | lia | omega)), h.1, this]; rfl, g⟩⟩
theorem fV_dens {K : PySem.W.Frag} {H : Hp} : ∀ {ds : List PyData}, ds.all flatD = true → Dens K H ds (ds.map fV)
  | [], _ => dsnil
  | d :: ds, h => by
    rw [List.all_cons, Bool.and_eq_true] at h
    refine dscons ?_ (fV_dens h.2)
    cases d with
    | str x => unfold Den; rfl
    | int x => unfold Den; rfl
    | bool x => unfold Den; rfl
    | none => unfold Den; rfl
    | list x => cases h.1
    | tuple x => cases h.1
    | dict x => cases h.1
theorem Tups.dens {K : PySem.W.Frag} {H : Hp} {rows : List Rw} {vs : List V} (h : Tups H rows vs) : Dens K H (rows.map Rw.d) vs := by
  refine Dens.of_get (by rw [List.length_map]; exact h.1.symm) fun j d v h1 h2 => ?_
  rw [List.getElem?_map] at h1
  cases e : rows[j]? with
  | none => rw [e] at h1; cases h1
  | some r =>
    rw [e] at h1
    cases h1
    obtain ⟨rp, g1, g2⟩ := h.2 j r e
    rw [h2] at g1
    cases g1
    exact dtupN g2 (fV_dens r.flat)
noncomputable def spMany : Sp := fun vs H Q _ => ∃ (b c : Addr) (t : Int), vs = [.ref b] ∧ Bx H b c t ∧ 0 ≤ t ∧ t < 9000000 ∧ ∀ (n : Nat) H' t', n ≤ 40 → Step b c H H' t t' 2 → Q (.int n) H'
noncomputable def spProg (K : PySem.W.Frag) : Sp := fun vs H Q _ => ∃ (b c : Addr) (t : Int) (n : Nat), vs = [.ref b, .int n] ∧ Bx H b c t ∧ 0 ≤ t ∧ t < 9000000 ∧ n ≤ 40 ∧ ∀ (rows : List Rw) (p : Addr) (vs : List V) H' t', rows.length = n → (∀ r ∈ rows, r.ok n) → H' p = some (.lst vs) → p ≠ b → p ≠ c → Tups H' rows vs → Step b c H H' t t' (20 * n) → Q (.ref p) H'
section
variable {P : Program} {w : World} {K : PySem.W.Frag} {mg : Str → Option Value} {base : Heap} {f : Addr} {fd : FuncData} {C : Addr}
theorem sc_law_many : FnScope ["_law_state"] ["_law_state"] (defScope (top i_law_many)) := ⟨rfl, rfl, rfl, by decide +kernel, rfl, by decide +kernel, by decide +kernel⟩
theorem ok_many (F : Fun K "_law_many" "_law_many" (top i_law_many) f fd) (T : Nm mg) (f_law_take : Fn P w K mg base 1 "_law_take" ["_law_state", "_law_many_here"] spTk) : FnOk P w K mg base CX0 2 f fd ["_law_state"] spMany := by
  refine F.ok sc_law_many (fun vs H Q E h => ?_) (fun cdv A outer s H vs Q E hr h => ?_)
  · obtain ⟨b, c, t, rfl, _⟩ := h
    rfl
  obtain ⟨b, c, t, rfl, bx, t0, t1, q⟩ := h
  have hu6 := hr.units
  refine ⟨_, (pss_cons (ps_if (pt_cmpR (eqK K hu6) (pe_fn (f_law_take.mono (by first | decide | exact Nat.le_refl _ | (first | lia | omega))) hr rfl (pa_cons (pv 0) (pa_cons pe_int pa_nil))) pe_int (nomark _)) (pss_one (ps_ret (pe_op addN pe_int (pe_fn (f_law_take.mono (by first | decide | exact Nat.le_refl _ | (first | lia | omega))) hr rfl (pa_cons (pv 0) (pa_cons pe_int pa_nil)))))) pss_nil)
    (pss_one (ps_ret (pe_fn (f_law_take.mono (by first | decide | exact Nat.le_refl _ | (first | lia | omega))) hr rfl (pa_cons (pv 0) (pa_cons pe_int pa_nil)))))), ?_⟩
  refine ⟨_, rfl, b, c, t, 8, rfl, bx, by (first | lia | omega), by (first | lia | omega), by decide, by decide, fun r H2 r0 r1 st2 => .inl ⟨rfl, _, rfl, ite2 (fun _ => ?_) (fun _ => ?_)⟩⟩
  · refine ⟨_, rfl, b, c, _, 28, rfl, st2.bx, by (first | lia | omega), by (first | lia | omega), by decide, by decide, fun r3 H3 r30 r31 st3 => .inl ⟨_, _, rfl, rfl, ?_⟩⟩
    have := q (13 + r3).toNat _ _ (by (first | lia | omega)) (st2.trans st3)
    rw [show (((13 + r3).toNat : Nat) : Int) = 13 + r3 by (first | lia | omega)] at this
    exact this
  · refine ⟨_, rfl, b, c, _, 13, rfl, st2.bx, by (first | lia | omega), by (first | lia | omega), by decide, by decide, fun r3 H3 r30 r31 st3 => ?_⟩
    have := q r3.toNat _ _ (by (first | lia | omega)) (st2.trans st3)
    rw [show ((r3.toNat : Nat) : Int) = r3 by (first | lia | omega)] at this
    exact this
theorem sc_law_program : FnScope ["_law_state", "_law_many_here", "_law_found", "_law_k", "_law_way", "_law_spot", "_law_other", "_law_at"] ["_law_state", "_law_many_here"] (defScope (top i_law_program)) := ⟨rfl, rfl, rfl, by decide +kernel, rfl, by decide +kernel, by decide +kernel⟩
theorem ok_prog (F : Fun K "_law_program" "_law_program" (top i_law_program) f fd) (T : Nm mg) (f_law_take : Fn P w K mg base 1 "_law_take" ["_law_state", "_law_many_here"] spTk) : FnOk P w K mg base CX0 2 f fd ["_law_state", "_law_many_here"] (spProg K) := by
  refine F.ok sc_law_program (fun vs H Q E h => ?_) (fun cdv A outer s H vs Q E hr h => ?_)
  · obtain ⟨b, c, t, n, rfl, _⟩ := h
    rfl
  obtain ⟨b, c, t, n, rfl, bx, t0, t1, hn, q⟩ := h
  have hu6 := hr.units
  refine ⟨_, (pss_cons (ps_set (i := 2) sc_law_program.nd rfl (Or.inl rfl) (lit_lstO (K := K) lits_nil))
    (pss_cons (ps_for PassesOwn.never rfl (pi_range1 rfl T.n_range (pa_cons (pv 1) pa_nil)) (pg_name (i := 3) sc_law_program.nd rfl (Or.inl rfl)) (pss_cons (ps_set (i := 4) sc_law_program.nd rfl (Or.inl rfl) (pe_fn (f_law_take.mono (by first | decide | exact Nat.le_refl _ | (first | lia | omega))) hr rfl (pa_cons (pv 0) (pa_cons pe_int pa_nil))))
    (pss_cons (ps_set (i := 5) sc_law_program.nd rfl (Or.inl rfl) (pe_ix (ixK K) pe_str (pe_fn (f_law_take.mono (by first | decide | exact Nat.le_refl _ | (first | lia | omega))) hr rfl (pa_cons (pv 0) (pa_cons pe_int pa_nil))) (fun _ _ => rfl)))
    (pss_cons (ps_set (i := 6) sc_law_program.nd rfl (Or.inl rfl) (pe_ix (ixK K) pe_str (pe_fn (f_law_take.mono (by first | decide | exact Nat.le_refl _ | (first | lia | omega))) hr rfl (pa_cons (pv 0) (pa_cons pe_int pa_nil))) (fun _ _ => rfl)))
    (pss_cons (ps_set (i := 7) sc_law_program.nd rfl (Or.inl rfl) (pe_ix (ixK K) (lstN (pa_cons (pe_fn (f_law_take.mono (by first | decide | exact Nat.le_refl _ | (first | lia | omega))) hr rfl (pa_cons (pv 0) (pa_cons (pe_op addN (pv 1) pe_int) pa_nil))) (pa_cons (pe_callB (call_min2 rfl) rfl T.n_min (by rfl) (pa_cons (pv 1) (pa_cons (pe_callB (call_max2 rfl) rfl T.n_max (by rfl) (pa_cons pe_int (pa_cons (pe_op addN (pe_op op_sub (pv 3) pe_int) (pe_fn (f_law_take.mono (by first | decide | exact Nat.le_refl _ | (first | lia | omega))) hr rfl (pa_cons (pv 0) (pa_cons pe_int pa_nil)))) pa_nil))) pa_nil))) pa_nil))) (pe_fn (f_law_take.mono (by first | decide | exact Nat.le_refl _ | (first | lia | omega))) hr rfl (pa_cons (pv 0) (pa_cons pe_int pa_nil))) (fun _ _ => rfl)))
    (pss_one (ps_if (pt_cmpR op_lt (pv 4) pe_int (nomark _)) (pss_one (ps_expr (bmK K PySem.F.plainAttrs_list PySem.F.slot_list_append PySem.F.type_list_append appendN (pv 2) (pa_cons (tupN (pa_cons pe_str (pa_cons (pv 5) (pa_cons (pe_ix (ixK K) (lstN (pa_cons (pe_fn (f_law_take.mono (by first | decide | exact Nat.le_refl _ | (first | lia | omega))) hr rfl (pa_cons (pv 0) (pa_cons pe_int pa_nil))) (pa_cons (pe_fn (f_law_take.mono (by first | decide | exact Nat.le_refl _ | (first | lia | omega))) hr rfl (pa_cons (pv 0) (pa_cons pe_int pa_nil))) pa_nil))) (pe_fn (f_law_take.mono (by first | decide | exact Nat.le_refl _ | (first | lia | omega))) hr rfl (pa_cons (pv 0) (pa_cons pe_int pa_nil))) (fun _ _ => rfl)) pa_nil)))) pa_nil)))) (pss_one (ps_if (pt_cmpR op_lt (pv 4) pe_int (nomark _)) (pss_one (ps_expr (bmK K PySem.F.plainAttrs_list PySem.F.slot_list_append PySem.F.type_list_append appendN (pv 2) (pa_cons (tupN (pa_cons (pe_ix (ixK K) (lit_lstO (K := K) (lits_cons lit_str (lits_cons lit_str lits_nil))) (pe_op op_sub (pv 4) pe_int) (fun _ _ => rfl)) (pa_cons (pv 5) (pa_cons (pv 6) pa_nil)))) pa_nil)))) (pss_one (ps_if (pt_cmpR op_lt (pv 4) pe_int (nomark _)) (pss_one (ps_expr (bmK K PySem.F.plainAttrs_list PySem.F.slot_list_append PySem.F.type_list_append appendN (pv 2) (pa_cons (tupN (pa_cons (pe_ix (ixK K) (lit_lstO (K := K) (lits_cons lit_str (lits_cons lit_str (lits_cons lit_str lits_nil)))) (pe_op op_sub (pv 4) pe_int) (fun _ _ => rfl)) (pa_cons (pv 5) pa_nil))) pa_nil)))) (pss_one (ps_if (PW.pt (pw_and (pt_cmpR (eqK K hu6) (pv 4) pe_int (nomark _)) (pw_and1 (pt_cmpR (eqK K hu6) (pe_fn (f_law_take.mono (by first | decide | exact Nat.le_refl _ | (first | lia | omega))) hr rfl (pa_cons (pv 0) (pa_cons pe_int pa_nil))) pe_int (nomark _))))) (pss_one (ps_expr (bmK K PySem.F.plainAttrs_list PySem.F.slot_list_append PySem.F.type_list_append appendN (pv 2) (pa_cons (tupN (pa_cons pe_str pa_nil)) pa_nil)))) (pss_one (ps_expr (bmK K PySem.F.plainAttrs_list PySem.F.slot_list_append PySem.F.type_list_append appendN (pv 2) (pa_cons (pe_ifExp (pt_cmpR op_gt (pv 4) pe_int (nomark _)) (tupN (pa_cons pe_str (pa_cons (pv 5) (pa_cons (pv 7) pa_nil)))) (tupN (pa_cons pe_str (pa_cons (pv 7) pa_nil)))) pa_nil)))))))))))))))))
    (pss_one (ps_ret (pv 2))))), ?_⟩
  intro fp us0 H1 sm1 nw1 d1
  unfold Dens at d1
  subst d1
  obtain ⟨nf, hf1⟩ := of_newOf nw1
  obtain ⟨fb, fc⟩ := bx.ne_new nf
  have st1 := Step.same bx sm1
  refine gn ?_
  dsimp only
  refine seqCut (t := tFor _ _ _) (fun σ H' => ∃ (x3 x4 x5 x6 x7 : Option V) (rows : List Rw) (vs : List V) (t' : Int), σ = [some (.ref b), some (.int n), some (.ref fp), x3, x4, x5, x6, x7] ∧ rows.length = n ∧ (∀ r ∈ rows, r.ok n) ∧ H' fp = some (.lst vs) ∧ Tups H' rows vs ∧ Step b c H H' t t' (20 * n)) (fun Nx nx => ?_) ?_
  · refine ⟨_, rfl, _, rfl, by (first | lia | omega), by (first | lia | omega), ?_⟩
    refine for_go (N := n) (fun i σ H' => ∃ (x3 x4 x5 x6 x7 : Option V) (rows : List Rw) (vs : List V) (t' : Int), σ = [some (.ref b), some (.int n), some (.ref fp), x3, x4, x5, x6, x7] ∧ rows.length = i ∧ (∀ r ∈ rows, r.ok n) ∧ H' fp = some (.lst vs) ∧ Tups H' rows vs ∧ Step b c H H' t t' (20 * i)) ⟨_, _, _, _, _, [], [], _, rfl, rfl, (fun _ h => nomatch h), hf1, ⟨rfl, fun _ _ h => nomatch h⟩, st1.more (by (first | lia | omega))⟩ ?_ ?_
    · rintro i σ H2 hi ⟨x3, x4, x5, x6, x7, rows, vs, t2, rfl, hl, hok, hf2, hT, st2⟩
      have ub2 := st2.ub
      have lo2 := st2.le
      refine ⟨by show i < ((n : Nat) : Int).toNat; (first | lia | omega), ?_⟩
      rintro x H3 ⟨rfl, rfl⟩
      refine gn ?_
      refine ⟨_, rfl, b, c, t2, 12, rfl, st2.bx, by (first | lia | omega), by (first | lia | omega), by decide, by decide, fun way H4 w0 w1 st4 => gn ?_⟩
      refine ⟨_, rfl, b, c, _, 4, rfl, st4.bx, by (first | lia | omega), by (first | lia | omega), by decide, by decide, fun r5 H5 r50 r51 st5 => ?_⟩
      obtain ⟨c5, p, hc5, hp, ep⟩ := spotAt r50 r51
      refine .inr (.inr ⟨_, _, c5, rfl, rfl, by decide +kernel, hc5, gn ?_⟩)
      refine ⟨_, rfl, b, c, _, 4, rfl, st5.bx, by (first | lia | omega), by (first | lia | omega), by decide, by decide, fun r6 H6 r60 r61 st6 => ?_⟩
      obtain ⟨c6, z, hc6, hz, ez⟩ := spotAt r60 r61
      refine .inr (.inr ⟨_, _, c6, rfl, rfl, by decide +kernel, hc6, gn ?_⟩)
      rw [ep, ez]
      refine ⟨_, rfl, _, rfl, .inl ⟨_, _, rfl, rfl, b, c, _, _, rfl, st6.bx, by (first | lia | omega), by (first | lia | omega), by (first | lia | omega), by (first | lia | omega), fun r7 H7 r70 r71 st7 => ?_⟩⟩
      refine ⟨_, rfl, _, rfl, _, _, rfl, rfl, _, rfl, b, c, _, 8, rfl, st7.bx, by (first | lia | omega), by (first | lia | omega), by decide, by decide, fun r8 H8 r80 r81 st8 => .inl ⟨_, _, rfl, rfl, _, _, rfl, _, _, rfl, by show 2 ≤ sizeLine; decide, fun p9 H9 n9 => ?_⟩⟩
      have sA := st4.trans (st5.trans (st6.trans (st7.trans st8)))
      have st9 := (st2.trans sA).newN n9
      obtain ⟨w9, h9, w90, w91⟩ : ∃ w9 : Int, H9 p9 = some (.lst [V.int r7, V.int w9]) ∧ 0 ≤ w9 ∧ w9 ≤ n := ⟨_, n9.at, by (repeat' split) <;> (first | lia | omega), by (repeat' split) <;> (first | lia | omega)⟩
      refine ⟨_, rfl, b, c, _, 2, rfl, st9.bx, by (first | lia | omega), by (first | lia | omega), by decide, by decide, fun r10 H10 r100 r101 sB => ?_⟩
      obtain ⟨b9, c9⟩ := st8.bx.ne_new n9.nn
      obtain ⟨kv, hk4, hk5⟩ := at_mem (xs := [V.int r7, V.int w9]) r100 r101
      refine .inl ⟨p9, _, _, _, rfl, rfl, SqL.of (sB.old h9 b9 c9), hk4, gn ?_⟩
      obtain ⟨at_, rfl, hat⟩ : ∃ a : Nat, kv = .int a ∧ a ≤ n := by
        rcases List.mem_cons.mp hk5 with rfl | hk5
        · exact ⟨r7.toNat, congrArg V.int (Int.toNat_of_nonneg r70).symm, by (first | lia | omega)⟩
        · rw [List.mem_singleton.mp hk5]
          exact ⟨w9.toNat, congrArg V.int (Int.toNat_of_nonneg w90).symm, by (first | lia | omega)⟩
      have st10 := (st9.trans sB).more (show _ ≤ 20 * (i : Int) + 7 by (first | lia | omega))
      have f10 : H10 fp = some (.lst vs) := sB.old (n9.same _ _ (sA.old hf2 fb fc)) fb fc
      have tp10 : TP H3 H10 := ((TP.step st2.bx sA).trans (TP.same n9.same)).trans (TP.step st9.bx sB)
      have fin : ∀ (r : Rw) (Hn : Hp) (tn : Int), r.ok n → Step b c H Hn t tn (20 * i + 15) → TP H3 Hn → Hn fp = some (.lst vs) → ∀ p' Hm, New Hn p' (.tup (r.ds.map fV)) Hm → Hm fp = some (.lst vs) ∧ vs.length < sizeLine ∧ ∀ Hx, Chg Hm fp (.lst (vs ++ [.ref p'])) Hx →
          ∃ (rows : List Rw) (vs : List V) (t' : Int), rows.length = i + 1 ∧ (∀ r ∈ rows, r.ok n) ∧ Hx fp = some (.lst vs) ∧ Tups Hx rows vs ∧ Step b c H Hx t t' (20 * ((i + 1 : Nat) : Int)) := fun r Hn tn hr' stn tpn fn p' Hm nm => by
        refine ⟨nm.same _ _ fn, Nat.lt_of_le_of_lt (show vs.length ≤ 1000 by have := hT.1; (first | lia | omega)) (by decide), fun Hx cx => ?_⟩
        have tx := TP.chg (nm.same _ _ fn) cx
        refine ⟨rows ++ [r], _, tn, by rw [List.length_append, hl]; rfl, fun r' h' => ?_, cx.at, (((hT.tp tpn).tp (TP.same nm.same)).tp tx).snoc (tx _ _ nm.at), ((stn.newN nm).chgN cx nf fb fc).more (by (first | lia | omega))⟩
        rcases List.mem_append.mp h' with h' | h'
        · exact hok r' h'
        · rw [List.mem_singleton.mp h']; exact hr'
      have ub10 := st10.ub
      have lo10 := st10.le
      refine ⟨_, rfl, _, _, rfl, rfl, _, rfl, ite2 (fun e1 => ?_) (fun e1 => ?_)⟩
      · refine ⟨_, rfl, .inl ⟨rfl, _, SqL.of f10⟩, ?_⟩
        refine ⟨_, rfl, _, rfl, b, c, _, 256, rfl, st10.bx, by (first | lia | omega), by (first | lia | omega), by decide, by decide, fun r11 H11 r110 r111 st11 => ?_⟩
        refine ⟨_, rfl, b, c, _, 4, rfl, st11.bx, by (first | lia | omega), by (first | lia | omega), by decide, by decide, fun r12 H12 r120 r121 st12 => ⟨by show 2 ≤ sizeLine; decide, fun p13 H13 n13 => ?_⟩⟩
        obtain ⟨b13, c13⟩ := st12.bx.ne_new n13.nn
        have st13 := (st10.trans (st11.trans st12)).newN n13
        refine ⟨_, rfl, b, c, _, 2, rfl, st13.bx, by (first | lia | omega), by (first | lia | omega), by decide, by decide, fun r14 H14 r140 r141 st14 => ?_⟩
        obtain ⟨kv, hk4, hk5⟩ := at_mem (xs := [V.int r11, V.int r12]) r140 r141
        obtain ⟨v, rfl, v0, v1⟩ : ∃ i : Int, kv = .int i ∧ 0 ≤ i ∧ i < 256 := by
          rcases List.mem_cons.mp hk5 with rfl | hk5
          · exact ⟨_, rfl, r110, r111⟩
          · rw [List.mem_singleton.mp hk5]; exact ⟨_, rfl, r120, by (first | lia | omega)⟩
        refine .inl ⟨p13, _, _, _, rfl, rfl, SqL.of (st14.old n13.at b13 c13), hk4, by show 3 ≤ sizeLine; decide, fun p' Hm nm => ?_⟩
        obtain ⟨g1, g2, g3⟩ := fin (.set p v) H14 _ ⟨hp, v0, v1⟩ ((st13.trans st14).more (by (first | lia | omega))) (((tp10.trans (TP.step st10.bx (st11.trans st12))).trans (TP.same n13.same)).trans (TP.step st13.bx st14)) (st14.old (n13.same _ _ ((st11.trans st12).old f10 fb fc)) fb fc) p' Hm nm
        refine ⟨fp, _, _, rfl, rfl, g1, g2, fun Hx cx => ?_⟩
        obtain ⟨rows', vs', t', k1, k2, k3, k4, k5⟩ := g3 Hx cx
        exact ⟨_, _, _, _, _, rows', vs', t', rfl, k1, k2, k3, k4, k5⟩
      refine ⟨_, rfl, _, _, rfl, rfl, _, rfl, ite2 (fun e2 => ?_) (fun e2 => ?_)⟩
      · refine ⟨_, rfl, .inl ⟨rfl, _, SqL.of f10⟩, fun p11 us11 H11 sm11 nw11 d11 => ?_⟩
        rw [dens_flat (ds := [.str "add", .str "take"]) d11 rfl] at nw11
        have h11 := (of_newOf nw11).2
        have e1 : ¬ way < 3 := fun h => e1 (decide_eq_true h)
        have e2 : way < 5 := of_decide_eq_true e2
        have st11 := st10.trans (Step.same st10.bx sm11)
        have tp11 := tp10.trans (TP.same sm11)
        have hway : way = 3 ∨ way = 4 := by (first | lia | omega)
        have fin2 : ∀ r : Rw, r.ok n → ∀ p' Hm, New H11 p' (.tup (r.ds.map fV)) Hm → _ := fun r hr' p' Hm nm => fin r H11 _ hr' (st11.more (by (first | lia | omega))) tp11 (sm11 _ _ f10) p' Hm nm
        rcases hway with rfl | rfl
        · refine ⟨_, rfl, _, _, rfl, rfl, .inl ⟨p11, _, _, .str "add", rfl, rfl, SqL.of h11, at_nat (by decide) rfl, ?_⟩⟩
          refine ⟨_, rfl, _, rfl, by show 3 ≤ sizeLine; decide, fun p' Hm nm => ?_⟩
          obtain ⟨g1, g2, g3⟩ := fin2 (.add p z) ⟨hp, hz⟩ p' Hm nm
          refine ⟨fp, _, _, rfl, rfl, g1, g2, fun Hx cx => ?_⟩
          obtain ⟨rows', vs', t', k1, k2, k3, k4, k5⟩ := g3 Hx cx
          exact ⟨_, _, _, _, _, rows', vs', t', rfl, k1, k2, k3, k4, k5⟩
        · refine ⟨_, rfl, _, _, rfl, rfl, .inl ⟨p11, _, _, .str "take", rfl, rfl, SqL.of h11, at_nat (by decide) rfl, ?_⟩⟩
          refine ⟨_, rfl, _, rfl, by show 3 ≤ sizeLine; decide, fun p' Hm nm => ?_⟩
          obtain ⟨g1, g2, g3⟩ := fin2 (.take p z) ⟨hp, hz⟩ p' Hm nm
          refine ⟨fp, _, _, rfl, rfl, g1, g2, fun Hx cx => ?_⟩
          obtain ⟨rows', vs', t', k1, k2, k3, k4, k5⟩ := g3 Hx cx
          exact ⟨_, _, _, _, _, rows', vs', t', rfl, k1, k2, k3, k4, k5⟩
      refine ⟨_, rfl, _, _, rfl, rfl, _, rfl, ite2 (fun e3 => ?_) (fun e3 => ?_)⟩
      · refine ⟨_, rfl, .inl ⟨rfl, _, SqL.of f10⟩, fun p11 us11 H11 sm11 nw11 d11 => ?_⟩
        rw [dens_flat (ds := [.str "tell", .str "ask", .str "tell"]) d11 rfl] at nw11
        have h11 := (of_newOf nw11).2
        have e2 : ¬ way < 5 := fun h => e2 (decide_eq_true h)
        have e3 : way < 8 := of_decide_eq_true e3
        have st11 := st10.trans (Step.same st10.bx sm11)
        have tp11 := tp10.trans (TP.same sm11)
        have hway : way = 5 ∨ way = 6 ∨ way = 7 := by (first | lia | omega)
        have fin2 : ∀ r : Rw, r.ok n → ∀ p' Hm, New H11 p' (.tup (r.ds.map fV)) Hm → _ := fun r hr' p' Hm nm => fin r H11 _ hr' (st11.more (by (first | lia | omega))) tp11 (sm11 _ _ f10) p' Hm nm
        rcases hway with rfl | rfl | rfl
        · refine ⟨_, rfl, _, _, rfl, rfl, .inl ⟨p11, _, _, .str "tell", rfl, rfl, SqL.of h11, at_nat (by decide) rfl, ?_⟩⟩
          refine ⟨_, rfl, by show 2 ≤ sizeLine; decide, fun p' Hm nm => ?_⟩
          obtain ⟨g1, g2, g3⟩ := fin2 (.tell p) hp p' Hm nm
          refine ⟨fp, _, _, rfl, rfl, g1, g2, fun Hx cx => ?_⟩
          obtain ⟨rows', vs', t', k1, k2, k3, k4, k5⟩ := g3 Hx cx
          exact ⟨_, _, _, _, _, rows', vs', t', rfl, k1, k2, k3, k4, k5⟩
        · refine ⟨_, rfl, _, _, rfl, rfl, .inl ⟨p11, _, _, .str "ask", rfl, rfl, SqL.of h11, at_nat (by decide) rfl, ?_⟩⟩
          refine ⟨_, rfl, by show 2 ≤ sizeLine; decide, fun p' Hm nm => ?_⟩
          obtain ⟨g1, g2, g3⟩ := fin2 (.ask p) hp p' Hm nm
          refine ⟨fp, _, _, rfl, rfl, g1, g2, fun Hx cx => ?_⟩
          obtain ⟨rows', vs', t', k1, k2, k3, k4, k5⟩ := g3 Hx cx
          exact ⟨_, _, _, _, _, rows', vs', t', rfl, k1, k2, k3, k4, k5⟩
        · refine ⟨_, rfl, _, _, rfl, rfl, .inl ⟨p11, _, _, .str "tell", rfl, rfl, SqL.of h11, at_nat (by decide) rfl, ?_⟩⟩
          refine ⟨_, rfl, by show 2 ≤ sizeLine; decide, fun p' Hm nm => ?_⟩
          obtain ⟨g1, g2, g3⟩ := fin2 (.tell p) hp p' Hm nm
          refine ⟨fp, _, _, rfl, rfl, g1, g2, fun Hx cx => ?_⟩
          obtain ⟨rows', vs', t', k1, k2, k3, k4, k5⟩ := g3 Hx cx
          exact ⟨_, _, _, _, _, rows', vs', t', rfl, k1, k2, k3, k4, k5⟩
      refine ⟨_, rfl, .inl ⟨rfl, _, rfl, ite2 (fun e4 => ?_) (fun e4 => ?_)⟩⟩
      · refine ⟨_, rfl, b, c, _, 3, rfl, st10.bx, by (first | lia | omega), by (first | lia | omega), by decide, by decide, fun r11 H11 r110 r111 st11 => .inl ⟨rfl, _, rfl, ite2 (fun e5 => ?_) (fun e5 => ?_)⟩⟩
        · refine ⟨_, rfl, .inl ⟨rfl, _, SqL.of (st11.old f10 fb fc)⟩, by show 1 ≤ sizeLine; decide, fun p' Hm nm => ?_⟩
          obtain ⟨g1, g2, g3⟩ := fin .stop H11 _ trivial ((st10.trans st11).more (by (first | lia | omega))) (tp10.trans (TP.step st10.bx st11)) (st11.old f10 fb fc) p' Hm nm
          refine ⟨fp, _, _, rfl, rfl, g1, g2, fun Hx cx => ?_⟩
          obtain ⟨rows', vs', t', k1, k2, k3, k4, k5⟩ := g3 Hx cx
          exact ⟨_, _, _, _, _, rows', vs', t', rfl, k1, k2, k3, k4, k5⟩
        · have f11 := st11.old f10 fb fc
          refine ⟨_, rfl, .inl ⟨rfl, _, SqL.of f11⟩, ?_⟩
          refine ⟨_, rfl, _, _, rfl, rfl, _, rfl, ite2 (fun _ => ?_) (fun _ => ?_)⟩
          · refine ⟨_, rfl, _, rfl, by show 3 ≤ sizeLine; decide, fun p' Hm nm => ?_⟩
            obtain ⟨g1, g2, g3⟩ := fin (.zero p at_) H11 _ ⟨hp, hat⟩ ((st10.trans st11).more (by (first | lia | omega))) (tp10.trans (TP.step st10.bx st11)) f11 p' Hm nm
            refine ⟨fp, _, _, rfl, rfl, g1, g2, fun Hx cx => ?_⟩
            obtain ⟨rows', vs', t', k1, k2, k3, k4, k5⟩ := g3 Hx cx
            exact ⟨_, _, _, _, _, rows', vs', t', rfl, k1, k2, k3, k4, k5⟩
          · refine ⟨_, rfl, by show 2 ≤ sizeLine; decide, fun p' Hm nm => ?_⟩
            obtain ⟨g1, g2, g3⟩ := fin (.jump at_) H11 _ hat ((st10.trans st11).more (by (first | lia | omega))) (tp10.trans (TP.step st10.bx st11)) f11 p' Hm nm
            refine ⟨fp, _, _, rfl, rfl, g1, g2, fun Hx cx => ?_⟩
            obtain ⟨rows', vs', t', k1, k2, k3, k4, k5⟩ := g3 Hx cx
            exact ⟨_, _, _, _, _, rows', vs', t', rfl, k1, k2, k3, k4, k5⟩
      · skip
        refine ⟨_, rfl, .inl ⟨rfl, _, SqL.of f10⟩, ?_⟩
        refine ⟨_, rfl, _, _, rfl, rfl, _, rfl, ite2 (fun _ => ?_) (fun _ => ?_)⟩
        · refine ⟨_, rfl, _, rfl, by show 3 ≤ sizeLine; decide, fun p' Hm nm => ?_⟩
          obtain ⟨g1, g2, g3⟩ := fin (.zero p at_) H10 _ ⟨hp, hat⟩ (st10.more (by (first | lia | omega))) tp10 f10 p' Hm nm
          refine ⟨fp, _, _, rfl, rfl, g1, g2, fun Hx cx => ?_⟩
          obtain ⟨rows', vs', t', k1, k2, k3, k4, k5⟩ := g3 Hx cx
          exact ⟨_, _, _, _, _, rows', vs', t', rfl, k1, k2, k3, k4, k5⟩
        · refine ⟨_, rfl, by show 2 ≤ sizeLine; decide, fun p' Hm nm => ?_⟩
          obtain ⟨g1, g2, g3⟩ := fin (.jump at_) H10 _ hat (st10.more (by (first | lia | omega))) tp10 f10 p' Hm nm
          refine ⟨fp, _, _, rfl, rfl, g1, g2, fun Hx cx => ?_⟩
          obtain ⟨rows', vs', t', k1, k2, k3, k4, k5⟩ := g3 Hx cx
          exact ⟨_, _, _, _, _, rows', vs', t', rfl, k1, k2, k3, k4, k5⟩
    · rintro σ H2 ⟨x3, x4, x5, x6, x7, rows, vs, t2, rfl, hl, hok, hf2, hT, st2⟩
      exact ⟨by show ((n : Nat) : Int).toNat ≤ n; (first | lia | omega), nx _ _ ⟨_, _, _, _, _, rows, vs, t2, rfl, hl, hok, hf2, hT, st2⟩⟩
  rintro σ H2 ⟨x3, x4, x5, x6, x7, rows, vs, t2, rfl, hl, hok, hf2, hT, st2⟩
  exact ⟨_, rfl, q rows fp vs H2 t2 hl hok hf2 fb fc hT st2⟩
end
end Z

set_option Elab.async false
set_option linter.all false
set_option maxRecDepth 100000
set_option maxHeartbeats 4000000
namespace Z
open PySem L2
/-! what is given, as far as it is asked for -/
noncomputable def askAt (rows : List Rw) (s : S) : Bool := match rows[s.at_]? with
  | some (.ask _) => true
  | _ => false
theorem asked_step (rows : List Rw) (g : List Int) (s : S) : (stepS rows g s).asked = s.asked + (if askAt rows s = true then 1 else 0) := by
  unfold stepS askAt
  cases e : rows[s.at_]? with
  | none => rfl
  | some r => cases r <;> rfl
theorem asked_mono (rows : List Rw) (g : List Int) {n m : Nat} (h : n ≤ m) : (runS rows g n).asked ≤ (runS rows g m).asked := by
  induction m with
  | zero => rw [show n = 0 by (first | lia | omega)]; exact Nat.le_refl _
  | succ m ih =>
    rcases Nat.lt_or_ge n (m + 1) with h' | h'
    · refine Nat.le_trans (ih (by (first | lia | omega))) ?_
      show _ ≤ (stepS rows g (runS rows g m)).asked
      rw [asked_step]; (first | lia | omega)
    · rw [show n = m + 1 by (first | lia | omega)]; exact Nat.le_refl _
theorem step_agree {rows : List Rw} {g g' : List Int} {s : S} (h : askAt rows s = true → g'.getD s.asked 0 = g.getD s.asked 0) : stepS rows g' s = stepS rows g s := by
  unfold askAt at h
  unfold stepS
  cases e : rows[s.at_]? with
  | none => rfl
  | some r =>
    rw [e] at h
    cases r with
    | ask p =>
      have := h rfl
      dsimp only
      unfold rowS workS
      dsimp only
      rw [this]
    | _ => rfl
theorem run_agree {rows : List Rw} {g g' : List Int} : ∀ n, (∀ i, i < (runS rows g n).asked → g'.getD i 0 = g.getD i 0) → runS rows g' n = runS rows g n
  | 0, _ => rfl
  | n + 1, h => by
    have ih := run_agree n fun i hi => h i (Nat.lt_of_lt_of_le hi (asked_mono rows g (Nat.le_succ n)))
    show stepS rows g' (runS rows g' n) = stepS rows g (runS rows g n)
    rw [ih]
    refine step_agree fun ha => h _ ?_
    show _ < (stepS rows g (runS rows g n)).asked
    rw [asked_step, if_pos ha]; (first | lia | omega)
theorem how_agree {rows : List Rw} {g g' : List Int} {n : Nat} (h : ∀ i, i < (runS rows g n).asked → g'.getD i 0 = g.getD i 0) : howS rows g' n = howS rows g n := by
  unfold howS
  rw [run_agree n h, run_agree (n - 1) fun i hi => h i (Nat.lt_of_lt_of_le hi (asked_mono rows g (Nat.sub_le _ _)))]
theorem kind_ask (rows : List Rw) (s : S) {r : Rw} (e : rows[s.at_]? = some r) : decide (V.str (kindS r) = V.str "ask") = askAt rows s := by
  unfold askAt
  rw [e]
  cases r <;> first | exact decide_eq_true rfl | exact strNe (x := "set") (by decide +kernel) | exact strNe (x := "add") (by decide +kernel) | exact strNe (x := "take") (by decide +kernel) | exact strNe (x := "tell") (by decide +kernel) | exact strNe (x := "jump") (by decide +kernel) | exact strNe (x := "zero") (by decide +kernel) | exact strNe (x := "stop") (by decide +kernel)
noncomputable def spAsked (K : PySem.W.Frag) : Sp := fun vs H Q _ => ∃ (pp gp lp : Addr) (rows : List Rw) (g : List Int) (n I : Nat) (us : List V), vs = [.ref pp, .ref lp, .int n] ∧ Pg K H pp gp rows g ∧ n ≤ 200 ∧
  SqL K H lp us ∧ Dens K H ((List.range (I + 1)).map fun j => stD (runS rows g j)) us ∧ I ≤ 200 ∧ (∀ j, j < I → endS rows (runS rows g j) = false) ∧ (I = 200 ∨ endS rows (runS rows g I) = true) ∧
  ∀ H', Same H H' → Q (.int (runS rows g n).asked) H'
noncomputable def spSpoilt (K : PySem.W.Frag) : Sp := fun vs H Q _ => ∃ (b c gp : Addr) (t : Int) (g : List Int) (k : Nat), vs = [.ref b, .ref gp, .int k] ∧ Bx H b c t ∧ 0 ≤ t ∧ t < 9000000 ∧ H gp = some (.lst (g.map V.int)) ∧ gp ≠ b ∧ gp ≠ c ∧ k < g.length ∧ g.length ≤ 1000 ∧
  ∀ (v : Int) (p : Addr) H', 0 ≤ v → v < 256 → H' p = some (.lst ((g.set k v).map V.int)) → p ≠ b → p ≠ c → Step b c H H' t (t + 1) 1 → Q (.ref p) H'
noncomputable def spAsking (K : PySem.W.Frag) : Sp := fun vs H Q _ => ∃ (b c pp : Addr) (t : Int) (rows : List Rw) (us : List V) (n : Nat), vs = [.ref b, .ref pp] ∧ Bx H b c t ∧ 0 ≤ t ∧ t < 9000000 ∧ H pp = some (.lst us) ∧ pp ≠ b ∧ pp ≠ c ∧ Tups H rows us ∧ rows.length ≤ 40 ∧ (∀ r ∈ rows, r.ok n) ∧
  ∀ (rows' : List Rw) (p : Addr) (us' : List V) H' t', rows'.length = rows.length → (∀ r ∈ rows', r.ok n) → H' p = some (.lst us') → p ≠ b → p ≠ c → Tups H' rows' us' → Step b c H H' t t' 100 → Q (.ref p) H'
theorem set_cut {g : List Int} {k : Nat} {v : Int} (h : k < g.length) : g.take k ++ [v] ++ g.drop (k + 1) = g.set k v := by
  rw [List.set_eq_take_append_cons_drop, if_pos h, List.append_assoc]; rfl
section
variable {P : Program} {w : World} {K : PySem.W.Frag} {mg : Str → Option Value} {base : Heap} {f : Addr} {fd : FuncData} {C : Addr}
theorem sc_law_asked : FnScope ["_law_program_here", "_law_stands_here", "_law_steps"] ["_law_program_here", "_law_stands_here", "_law_steps"] (defScope (top i_law_asked)) := ⟨rfl, rfl, rfl, by decide +kernel, rfl, by decide +kernel, by decide +kernel⟩
theorem ok_asked (F : Fun K "_law_asked" "_law_asked" (top i_law_asked) f fd) (T : Nm mg) : FnOk P w K mg base CX0 1 f fd ["_law_program_here", "_law_stands_here", "_law_steps"] (spAsked K) := by
  refine F.ok sc_law_asked (fun vs H Q E h => ?_) (fun cdv A outer s H vs Q E hr h => ?_)
  · obtain ⟨pp, gp, lp, rows, g, n, I, us, rfl, _⟩ := h
    rfl
  obtain ⟨pp, gp, lp, rows, g, n, I, us, rfl, hP, hn, hl, dl, hI, hE, hor, q⟩ := h
  have hu6 := hr.units
  refine ⟨_, (pss_one (ps_ret (pe_callB (lenK K) rfl T.n_len (by rfl) (pa_cons (pe_lcomp rfl (comp_ok (Nc := ["_law_stand"]) (Fc := ["_law_program_here"]) (js := [0])) (piK K (pe_slice (slN K) (pv 1) po_none (po_some (pe_callB (call_min2 rfl) rfl T.n_min (by rfl) (pa_cons (pv 2) (pa_cons (pe_op op_sub (pe_callB (lenK K) rfl T.n_len (by rfl) (pa_cons (pv 1) pa_nil)) pe_int) pa_nil)))))) (gk_name (i := 0) (n := 1) (by decide)) (fun _ _ _ _ _ => (pg_name (i := 0) (show (["_law_stand", "_law_program_here"] : List Str).Nodup by decide +kernel) rfl (Or.inl rfl))) (fun _ _ _ _ _ => (pts_one (pt_cmpR (eqK K hu6) (pe_ix (ixK K) (pe_ix (ixK K) (pv 1) (pe_ix (ixK K) (pv 0) pe_int (fun _ _ => rfl)) (fun _ _ => rfl)) pe_int (fun _ _ => rfl)) pe_str (nomark _)))) (fun _ _ _ _ _ => (pv 0))) pa_nil)))), ?_⟩
  have hul : us.length = I + 1 := by rw [dl.len, List.length_map, List.length_range]
  obtain ⟨m, hm⟩ : ∃ m, m = min n I := ⟨_, rfl⟩
  have hmr : runS rows g m = runS rows g n := by
    rcases hor with h | h
    · rw [show m = n by (first | lia | omega)]
    · rcases Nat.le_total n I with h' | h'
      · rw [show m = n by (first | lia | omega)]
      · rw [show m = I by (first | lia | omega)]; exact (run_at h h').symm
  have em : (if (us.length : Int) - 1 < (n : Int) then (us.length : Int) - 1 else (n : Int)) = (m : Int) := by split <;> (first | lia | omega)
  refine ⟨_, rfl, _, rfl, _, rfl, _, _, rfl, .inl ⟨_, hl, rfl⟩, _, _, rfl, rfl, _, _, rfl, ?_⟩
  rw [em]
  refine ⟨_, rfl, .inl ⟨lp, _, rfl, hl, fun r1 H1 n1 => ?_⟩⟩
  rw [cut_to] at n1
  refine ⟨r1, rfl, ⟨_, SqL.of n1.at⟩, ?_⟩
  refine comp_go (N := m) (fun i ys H' => H' = H1 ∧ ys.length = (runS rows g i).asked ∧ ys.length ≤ i) ⟨rfl, rfl, Nat.le_refl _⟩ ?_ ?_
  · rintro i ys H2 Nx hi ⟨rfl, hy1, hy2⟩ nx
    obtain ⟨v, hv, dv⟩ := dl.get (i := i) (d := stD (runS rows g i)) (by rw [List.getElem?_map, List.getElem?_range (by (first | lia | omega))]; rfl)
    have hx : (us.take m)[i]? = some v := by rw [List.getElem?_take, if_pos hi]; exact hv
    refine ⟨⟨_, _, SqL.of n1.at, hx⟩, Nat.lt_of_le_of_lt (show _ ≤ 1000 by (first | lia | omega)) (by decide), ?_⟩
    rintro x' H3 ⟨rfl, hy⟩
    have e := hy _ (SqL.of n1.at)
    rw [hx] at e; cases e
    unfold Den at dv
    obtain ⟨tp, tvs, rfl, ht1, ht2⟩ := dv
    unfold Dens at ht2
    obtain ⟨v1, q1, rfl, d1, ht2⟩ := ht2
    unfold Dens at ht2
    obtain ⟨v2, q2, rfl, d2, ht2⟩ := ht2
    unfold Dens at ht2
    obtain ⟨v3, q3, rfl, d3, ht2⟩ := ht2
    unfold Dens at ht2
    subst ht2
    obtain rfl := den_flat d3 rfl
    have hne := hE i (by (first | lia | omega))
    obtain ⟨r, er⟩ : ∃ r, rows[(runS rows g i).at_]? = some r := by
      unfold endS at hne
      cases e : rows[(runS rows g i).at_]? with
      | none => rw [e] at hne; cases hne
      | some r => exact ⟨r, rfl⟩
    obtain ⟨ws, rp, hx1, hx2, hx4⟩ := (hP.same n1.same).at_row er
    have hstep : (runS rows g (i + 1)).asked = (runS rows g i).asked + (if askAt rows (runS rows g i) = true then 1 else 0) := asked_step _ _ _
    refine gn ⟨_, rfl, _, rfl, .inr (.inl ⟨tp, _, _, .int (runS rows g i).at_, rfl, rfl, n1.same.seqT ht1, at_nat (by decide) rfl, .inl ⟨pp, _, _, _, rfl, rfl, hx1, hx2, .inr (.inl ⟨rp, _, _, _, rfl, rfl, hx4, kind_at r, .inl ⟨rfl, _, rfl, ?_⟩⟩)⟩⟩)⟩
    rw [kind_ask rows _ er]
    refine ite2 (fun e => ?_) (fun e => ?_)
    · rw [if_pos e] at hstep
      exact ⟨_, rfl, nx _ _ ⟨rfl, by rw [hstep, List.length_append, hy1]; rfl, by rw [List.length_append]; show _ + 1 ≤ _; (first | lia | omega)⟩⟩
    · rw [if_neg e] at hstep
      exact nx _ _ ⟨rfl, by rw [hstep]; exact hy1, by (first | lia | omega)⟩
  · rintro ys H2 ⟨rfl, hy1, hy2⟩
    refine ⟨⟨_, SqL.of n1.at, by rw [List.length_take]; (first | lia | omega)⟩, fun p hp => ⟨_, _, rfl, .inl ⟨_, SqL.of upd_same, rfl⟩, ?_⟩⟩
    rw [hy1, hmr]
    exact q _ (n1.same.trans (same_new hp _))
theorem sc_law_spoilt : FnScope ["_law_state", "_law_given", "_law_at"] ["_law_state", "_law_given", "_law_at"] (defScope (top i_law_spoilt)) := ⟨rfl, rfl, rfl, by decide +kernel, rfl, by decide +kernel, by decide +kernel⟩
theorem ok_spoilt (F : Fun K "_law_spoilt" "_law_spoilt" (top i_law_spoilt) f fd) (T : Nm mg) (f_law_take : Fn P w K mg base 1 "_law_take" ["_law_state", "_law_many_here"] spTk) : FnOk P w K mg base CX0 2 f fd ["_law_state", "_law_given", "_law_at"] (spSpoilt K) := by
  refine F.ok sc_law_spoilt (fun vs H Q E h => ?_) (fun cdv A outer s H vs Q E hr h => ?_)
  · obtain ⟨b, c, gp, t, g, k, rfl, _⟩ := h
    rfl
  obtain ⟨b, c, gp, t, g, k, rfl, bx, t0, t1, hg, gb, gc, hk, gl, q⟩ := h
  have hu6 := hr.units
  refine ⟨_, (pss_one (ps_ret (pe_op addN (pe_op addN (pe_slice (slN K) (pv 1) po_none (po_some (pv 2))) (lstN (pa_cons (pe_op op_mod (pe_op addN (pe_op addN (pe_ix (ixK K) (pv 1) (pv 2) (fun _ _ => rfl)) pe_int) (pe_fn (f_law_take.mono (by first | decide | exact Nat.le_refl _ | (first | lia | omega))) hr rfl (pa_cons (pv 0) (pa_cons pe_int pa_nil)))) pe_int) pa_nil))) (pe_slice (slN K) (pv 1) (po_some (pe_op addN (pv 2) pe_int)) po_none)))), ?_⟩
  refine ⟨_, rfl, _, rfl, _, rfl, .inl ⟨gp, _, rfl, SqL.of hg, fun r1 H1 n1 => ?_⟩⟩
  rw [cut_to] at n1
  have st1 := Step.same bx n1.same
  have hg1 := n1.same _ _ hg
  obtain ⟨rb, rc⟩ := bx.ne_new n1.nn
  refine ⟨_, rfl, _, rfl, .inl ⟨gp, _, _, .int (g[k]), rfl, rfl, SqL.of hg1, at_nat (by (first | lia | omega)) (by rw [Int.toNat_natCast, List.getElem?_map, List.getElem?_eq_getElem hk]; rfl), .inl ⟨_, _, rfl, rfl, ?_⟩⟩⟩
  refine ⟨_, rfl, b, c, t, 255, rfl, st1.bx, by (first | lia | omega), by (first | lia | omega), by decide, by decide, fun r2 H2 r20 r21 st2 => .inl ⟨_, _, rfl, rfl, _, _, rfl, rfl, (by dsimp only; decide), by show 1 ≤ sizeLine; decide, fun p3 H3 n3 => ?_⟩⟩
  have h1 : H2 r1 = some (.lst ((g.map V.int).take k)) := st2.old n1.at rb rc
  have hg2 : H2 gp = some (.lst (g.map V.int)) := st2.old hg1 gb gc
  refine .inr (.inr ⟨r1, p3, _, _, rfl, rfl, n3.same _ _ h1, n3.at, Nat.le_trans (show _ ≤ 2000 by simp; (first | lia | omega)) (by decide), fun p4 H4 n4 => ?_⟩)
  refine ⟨_, rfl, _, rfl, .inl ⟨_, _, rfl, rfl, _, rfl, .inl ⟨gp, _, rfl, SqL.of (n4.same _ _ (n3.same _ _ hg2)), fun r5 H5 n5 => ?_⟩⟩⟩
  have e5 : cutV (g.map V.int) (some ((k : Int) + 1)) none = (g.drop (k + 1)).map V.int := by
    have := cut_from (g.map V.int) (k + 1)
    rw [List.map_drop]
    exact this
  rw [e5] at n5
  refine .inr (.inr ⟨p4, r5, _, _, rfl, rfl, n5.same _ _ n4.at, n5.at, Nat.le_trans (show _ ≤ 4000 by simp; (first | lia | omega)) (by decide), fun p6 H6 n6 => ?_⟩)
  have st6 := (((((st1.trans st2).newN n3).newN n4).newN n5).newN n6)
  obtain ⟨b6, c6⟩ := ((((st1.trans st2).newN n3).newN n4).newN n5).bx.ne_new n6.nn
  refine q ((g[k] + 1 + r2) % 256) p6 H6 (Int.emod_nonneg _ (by decide)) (Int.emod_lt_of_pos _ (by decide)) ?_ b6 c6 (st6.more (by (first | lia | omega)))
  rw [← set_cut hk, List.map_append, List.map_append, List.map_take]
  exact n6.at
theorem sc_law_asking : FnScope ["_law_state", "_law_program_here"] ["_law_state", "_law_program_here"] (defScope (top i_law_asking)) := ⟨rfl, rfl, rfl, by decide +kernel, rfl, by decide +kernel, by decide +kernel⟩
theorem ok_asking (F : Fun K "_law_asking" "_law_asking" (top i_law_asking) f fd) (T : Nm mg) (f_law_take : Fn P w K mg base 1 "_law_take" ["_law_state", "_law_many_here"] spTk) : FnOk P w K mg base CX0 2 f fd ["_law_state", "_law_program_here"] (spAsking K) := by
  refine F.ok sc_law_asking (fun vs H Q E h => ?_) (fun cdv A outer s H vs Q E hr h => ?_)
  · obtain ⟨b, c, pp, t, rows, us, n, rfl, _⟩ := h
    rfl
  obtain ⟨b, c, pp, t, rows, us, n, rfl, bx, t0, t1, hp, pb, pc, hT, hl, hok, q⟩ := h
  have hu6 := hr.units
  refine ⟨_, (pss_one (ps_ret (pe_lcomp rfl (comp_ok (Nc := ["_law_row"]) (Fc := ["_law_state"]) (js := [0])) (piK K (pv 1)) (gk_name (i := 0) (n := 1) (by decide)) (fun _ _ _ _ _ => (pg_name (i := 0) (show (["_law_row", "_law_state"] : List Str).Nodup by decide +kernel) rfl (Or.inl rfl))) (fun _ _ _ _ _ => pts_nil) (fun _ _ _ _ _ => (pe_ifExp (pt_cmpR (eqK K hu6) (pe_fn (f_law_take.mono (by first | decide | exact Nat.le_refl _ | (first | lia | omega))) hr rfl (pa_cons (pv 1) (pa_cons pe_int pa_nil))) pe_int (nomark _)) (tupN (pa_cons pe_str (pa_cons (pe_ix (ixK K) pe_str (pe_fn (f_law_take.mono (by first | decide | exact Nat.le_refl _ | (first | lia | omega))) hr rfl (pa_cons (pv 1) (pa_cons pe_int pa_nil))) (fun _ _ => rfl)) pa_nil))) (pv 0)))))), ?_⟩
  refine ⟨_, rfl, pp, rfl, ⟨_, SqL.of hp⟩, ?_⟩
  refine comp_go (N := rows.length) (fun i ys H' => ∃ (rows' : List Rw) (t' : Int), rows'.length = i ∧ (∀ r ∈ rows', r.ok n) ∧ Tups H' rows' ys ∧ TP H H' ∧ Step b c H H' t t' (2 * i)) ⟨[], t, rfl, (fun _ h => nomatch h), ⟨rfl, fun _ _ h => nomatch h⟩, TP.refl, (Step.refl bx).more (by (first | lia | omega))⟩ ?_ ?_
  · rintro i ys H2 Nx hi ⟨rows', t2, hl', hok', hT', tp, st2⟩ nx
    have ub2 := st2.ub
    have lo2 := st2.le
    obtain ⟨rp, hx, hrp⟩ := hT.2 i rows[i] (List.getElem?_eq_getElem hi)
    have hp2 : SqL K H2 pp us := SqL.of (st2.old hp pb pc)
    have hyl := hT'.1
    refine ⟨⟨_, _, hp2, hx⟩, Nat.lt_of_le_of_lt (show _ ≤ 1000 by (first | lia | omega)) (by decide), ?_⟩
    rintro x' H3 ⟨rfl, hy⟩
    have e := hy _ hp2
    rw [hx] at e; cases e
    refine gn ⟨_, rfl, b, c, t2, 4, rfl, st2.bx, by (first | lia | omega), by (first | lia | omega), by decide, by decide, fun r4 H4 r40 r41 st4 => .inl ⟨rfl, _, rfl, ite2 (fun e => ?_) (fun e => ?_)⟩⟩
    · refine ⟨_, rfl, b, c, _, 4, rfl, st4.bx, by (first | lia | omega), by (first | lia | omega), by decide, by decide, fun r5 H5 r50 r51 st5 => ?_⟩
      obtain ⟨c5, p, hc5, hp5, ep⟩ := spotAt r50 r51
      refine .inr (.inr ⟨_, _, c5, rfl, rfl, by decide +kernel, hc5, by show 2 ≤ sizeLine; decide, fun p6 H6 n6 => nx _ _ ?_⟩)
      rw [ep] at n6
      have s25 := TP.step st2.bx (st4.trans st5)
      refine ⟨rows' ++ [.ask p], _, by rw [List.length_append, hl']; rfl, fun r hr' => ?_, ((hT'.tp s25).tp (TP.same n6.same)).snoc (r := .ask p) n6.at, (tp.trans s25).trans (TP.same n6.same), ((st2.trans (st4.trans st5)).newN n6).more (by (first | lia | omega))⟩
      rcases List.mem_append.mp hr' with hr' | hr'
      · exact hok' r hr'
      · rw [List.mem_singleton.mp hr']; exact hp5
    · have s24 := TP.step st2.bx st4
      refine ⟨_, rfl, nx _ _ ⟨rows' ++ [rows[i]], _, by rw [List.length_append, hl']; rfl, fun r hr' => ?_, (hT'.tp s24).snoc ((tp.trans s24) _ _ hrp), tp.trans s24, (st2.trans st4).more (by (first | lia | omega))⟩⟩
      rcases List.mem_append.mp hr' with hr' | hr'
      · exact hok' r hr'
      · rw [List.mem_singleton.mp hr']; exact hok _ (List.getElem_mem hi)
  · rintro ys H2 ⟨rows', t2, hl', hok', hT', tp, st2⟩
    refine ⟨⟨_, SqL.of (st2.old hp pb pc), by rw [hT.1]; exact Nat.le_refl _⟩, fun p hp' => ?_⟩
    obtain ⟨b3, c3⟩ := st2.bx.ne_new hp'
    exact q rows' p ys _ t2 hl' hok' upd_same b3 c3 (hT'.tp (TP.same (same_new hp' _))) ((st2.new hp' _).more (by (first | lia | omega)))
end
end Z

set_option Elab.async false
set_option linter.all false
set_option maxRecDepth 100000
set_option maxHeartbeats 4000000
namespace Z
open PySem L2
theorem Gd.fit3 {d : PyData} (h : Gd 130000 6 d) : d.showable = true ∧ d.depth ≤ 40 ∧ d.shown.length ≤ sizeLine := by
  obtain ⟨h1, h2, h3⟩ := pz_shown d h.pz
  have := h.wt
  have := h.dp
  exact ⟨h2, by (first | lia | omega), Nat.le_trans (show _ ≤ 6000000 by (first | lia | omega)) (by decide)⟩
theorem gG : ∀ {g : List Int}, (∀ v ∈ g, 0 ≤ v ∧ v < 256) → Gs (202 * g.length) 0 (g.map .int)
  | [], _ => Gs.nil
  | v :: g, h => by
    have hv := h v List.mem_cons_self
    have := Gs.cons (w := 201) (dp := 0) (Gd.int (i := v) (by (first | lia | omega)) (by decide)) (gG (g := g) fun q hq => h q (List.mem_cons_of_mem _ hq))
    exact this.mono (by rw [List.length_cons]; (first | lia | omega)) (Nat.le_refl _)
theorem howG {rows : List Rw} {g : List Int} {n : Nat} : Gd 10 0 (.str (howS rows g n)) := by
  unfold howS
  split
  · exact Gd.str (by decide +kernel) (by decide +kernel)
  · exact Gd.str (by decide +kernel) (by decide +kernel)
theorem ansG {rows : List Rw} {g : List Int} {n : Nat} (hr : ∀ r ∈ rows, r.ok rows.length) (hg : ∀ v ∈ g, 0 ≤ v ∧ v < 256) (hl : rows.length ≤ 40) (hn : n ≤ 200) : Gd 130000 6 (ansD (runS rows g n) (howS rows g n)) := by
  have h := run_ok hr hg n
  have ht := h.t
  have ha := h.a
  have h2 : Gs (202 * 4) 0 ((n4 (runS rows g n).n).map .int) := gG (g := n4 (runS rows g n).n) (fun v hv => by
    simp only [List.mem_cons, List.not_mem_nil, or_false] at hv
    rcases hv with rfl | rfl | rfl | rfl <;> exact h.n _)
  exact (Gs.cons ((gG h.tt).list.mono (show _ ≤ 50000 by (first | lia | omega)) (show 1 ≤ 1 by decide)) (Gs.cons (howG.mono (Nat.le_refl _) (by decide)) (Gs.cons (h2.tuple.mono (Nat.le_refl _) (show 1 ≤ 1 by decide)) (Gs.one (Gd.int (w := 201) (dp := 1) (by (first | lia | omega)) (by decide)))))).tuple.mono (by decide) (by decide)
noncomputable def spRight (K : PySem.W.Frag) : Sp := fun vs H Q _ => ∃ (b c pp gp : Addr) (t : Int) (rows : List Rw) (g : List Int), vs = [.ref b, .ref pp, .ref gp] ∧ Bx H b c t ∧ 0 ≤ t ∧ t < 8000000 ∧ Pg K (hid H b c) pp gp rows g ∧ hid H b c gp = some (.lst (g.map V.int)) ∧ g.length ≤ 200 ∧ rows.length ≤ 40 ∧
  ∀ H' t', Step b c H H' t t' 20 → Q (.bl true) H'
theorem flat1 (k : Nat) : (List.replicate k [V.int 0]).flatten = (List.replicate k (0 : Int)).map V.int := by
  induction k with
  | zero => rfl
  | succ k ih => rw [List.replicate_succ, List.flatten_cons, ih, List.replicate_succ]; rfl
theorem getD_long (g : List Int) (k i : Nat) : (g ++ List.replicate k 0).getD i 0 = g.getD i 0 := by
  rw [List.getD_eq_getElem?_getD, List.getD_eq_getElem?_getD]
  rcases Nat.lt_or_ge i g.length with h | h
  · rw [List.getElem?_append_left h]
  · rw [List.getElem?_append_right h, List.getElem?_eq_none h, List.getElem?_replicate]
    split <;> rfl
theorem getD_take {g : List Int} {k i : Nat} (h : i < k) : (g.take k).getD i 0 = g.getD i 0 := by
  rw [List.getD_eq_getElem?_getD, List.getD_eq_getElem?_getD, List.getElem?_take, if_pos h]
theorem getD_set {g : List Int} {k i : Nat} {v : Int} (h : i < k) : (g.set k v).getD i 0 = g.getD i 0 := by
  rw [List.getD_eq_getElem?_getD, List.getD_eq_getElem?_getD, List.getElem?_set_ne (by (first | lia | omega))]
theorem set_mem {g : List Int} {k : Nat} {v : Int} (hg : ∀ v ∈ g, 0 ≤ v ∧ v < 256) (h0 : 0 ≤ v) (h1 : v < 256) : ∀ u ∈ g.set k v, 0 ≤ u ∧ u < 256 := fun u hu => by
  rcases List.mem_or_eq_of_mem_set hu with h | h
  · exact hg u h
  · rw [h]; exact ⟨h0, h1⟩
section
variable {P : Program} {w : World} {K : PySem.W.Frag} {mg : Str → Option Value} {base : Heap} {f : Addr} {fd : FuncData} {C : Addr}
theorem sc_law_right : FnScope ["_law_state", "_law_program_here", "_law_given", "_law_stands_here", "_law_steps", "_law_many_here", "_law_due", "_law_text", "_law_longer", "_law_at", "_law_found", "_law_ahead", "_law_odd", "_law_handed", "_law_again"] ["_law_state", "_law_program_here", "_law_given"] (defScope (top i_law_right)) := ⟨rfl, rfl, rfl, by decide +kernel, rfl, by decide +kernel, by decide +kernel⟩
theorem ok_right (F : Fun K "_law_right" "_law_right" (top i_law_right) f fd) (T : Nm mg) (f_law_take : Fn P w K mg base 1 "_law_take" ["_law_state", "_law_many_here"] spTk) (f_law_stands : Fn P w K mg base 3 "_law_stands" ["_law_program_here", "_law_given"] (spStands K)) (f_law_asked : Fn P w K mg base 1 "_law_asked" ["_law_program_here", "_law_stands_here", "_law_steps"] (spAsked K)) (f_law_spoilt : Fn P w K mg base 2 "_law_spoilt" ["_law_state", "_law_given", "_law_at"] (spSpoilt K)) (f_run_rows : Fn P w K mg base 4 "run_rows" ["program", "given", "steps"] (spRun K)) : FnOk P w K mg base CX0 5 f fd ["_law_state", "_law_program_here", "_law_given"] (spRight K) := by
  refine F.ok sc_law_right (fun vs H Q E h => ?_) (fun cdv A outer s H vs Q E hr h => ?_)
  · obtain ⟨b, c, pp, gp, t, rows, g, rfl, _⟩ := h
    rfl
  obtain ⟨b, c, pp, gp, t, rows, g, rfl, bx, t0, t1, hP, hg, gl, rl, q⟩ := h
  have hu6 := hr.units
  refine ⟨_, (pss_cons (ps_set (i := 3) sc_law_right.nd rfl (Or.inr rfl) (pe_fn (f_law_stands.mono (by first | decide | exact Nat.le_refl _ | (first | lia | omega))) hr rfl (pa_cons (pv 1) (pa_cons (pv 2) pa_nil))))
    (pss_cons (ps_set (i := 4) sc_law_right.nd rfl (Or.inl rfl) (pe_fn (f_law_take.mono (by first | decide | exact Nat.le_refl _ | (first | lia | omega))) hr rfl (pa_cons (pv 0) (pa_cons pe_int pa_nil))))
    (pss_cons (ps_set (i := 5) sc_law_right.nd rfl (Or.inl rfl) (pe_fn (f_law_asked.mono (by first | decide | exact Nat.le_refl _ | (first | lia | omega))) hr rfl (pa_cons (pv 1) (pa_cons (pv 3) (pa_cons (pv 4) pa_nil)))))
    (pss_cons (ps_set (i := 6) sc_law_right.nd rfl (Or.inl rfl) (pe_fn (f_run_rows.mono (by first | decide | exact Nat.le_refl _ | (first | lia | omega))) hr rfl (pa_cons (pv 1) (pa_cons (pv 2) (pa_cons (pv 4) pa_nil)))))
    (pss_cons (ps_set (i := 7) sc_law_right.nd rfl (Or.inl rfl) (pe_callTy (strK K hr.gd hu6) rfl T.n_str (by rfl) (pa_cons (pv 6) pa_nil)))
    (pss_cons (ps_set (i := 8) sc_law_right.nd rfl (Or.inl rfl) (pe_op addN (pv 2) (pe_op mulN (lit_lstO (K := K) (lits_cons lit_int lits_nil)) (pe_op addN pe_int (pe_fn (f_law_take.mono (by first | decide | exact Nat.le_refl _ | (first | lia | omega))) hr rfl (pa_cons (pv 0) (pa_cons pe_int pa_nil)))))))
    (pss_cons (ps_if (PW.pt (pw_or (pt_cmpR op_gt (pv 5) (pv 4) (nomark _)) (pw_or1 (pt_cmpR (neK K hu6) (pe_callTy (strK K hr.gd hu6) rfl T.n_str (by rfl) (pa_cons (pe_fn (f_run_rows.mono (by first | decide | exact Nat.le_refl _ | (first | lia | omega))) hr rfl (pa_cons (pv 1) (pa_cons (pv 8) (pa_cons (pv 4) pa_nil)))) pa_nil)) (pv 7) (nomark _))))) (pss_one (ps_ret pe_bl)) pss_nil)
    (pss_cons (ps_if (pt_cmpR (neK K hu6) (pe_callTy (strK K hr.gd hu6) rfl T.n_str (by rfl) (pa_cons (pe_fn (f_run_rows.mono (by first | decide | exact Nat.le_refl _ | (first | lia | omega))) hr rfl (pa_cons (pv 1) (pa_cons (pe_slice (slN K) (pv 2) po_none (po_some (pv 5))) (pa_cons (pv 4) pa_nil)))) pa_nil)) (pv 7) (nomark _)) (pss_one (ps_ret pe_bl)) pss_nil)
    (pss_cons (ps_if (pt_cmpR (neK K hu6) (pv 2) (lit_lstO (K := K) lits_nil) (nomark _)) (pss_cons (ps_set (i := 9) sc_law_right.nd rfl (Or.inr rfl) (pe_fn (f_law_take.mono (by first | decide | exact Nat.le_refl _ | (first | lia | omega))) hr rfl (pa_cons (pv 0) (pa_cons (pe_callB (lenK K) rfl T.n_len (by rfl) (pa_cons (pv 2) pa_nil)) pa_nil))))
    (pss_cons (ps_set (i := 10) sc_law_right.nd rfl (Or.inl rfl) (pe_fn (f_run_rows.mono (by first | decide | exact Nat.le_refl _ | (first | lia | omega))) hr rfl (pa_cons (pv 1) (pa_cons (pe_fn (f_law_spoilt.mono (by first | decide | exact Nat.le_refl _ | (first | lia | omega))) hr rfl (pa_cons (pv 0) (pa_cons (pv 2) (pa_cons (pv 9) pa_nil)))) (pa_cons (pv 4) pa_nil)))))
    (pss_cons (ps_if (PW.pt (pw_and (pt_cmpR op_ge (pv 9) (pv 5) (nomark _)) (pw_and1 (pt_cmpR (neK K hu6) (pe_callTy (strK K hr.gd hu6) rfl T.n_str (by rfl) (pa_cons (pv 10) pa_nil)) (pv 7) (nomark _))))) (pss_one (ps_ret pe_bl)) pss_nil)
    (pss_cons (ps_setcomp (i := 11) sc_law_right.nd rfl (Or.inl rfl) rfl (comp_ok (Nc := ["_law_count"]) (Fc := ["_law_at", "_law_program_here", "_law_stands_here"]) (js := [9, 1, 3])) (pi_range1 rfl T.n_range (pa_cons (pe_op addN (pv 4) pe_int) pa_nil)) (gk_name (i := 0) (n := 1) (by decide)) (fun _ _ _ _ _ => (pg_name (i := 0) (show (["_law_count", "_law_at", "_law_program_here", "_law_stands_here"] : List Str).Nodup by decide +kernel) rfl (Or.inl rfl))) (fun _ _ _ _ _ => (pts_one (pt_cmpR op_le (pe_fn (f_law_asked.mono (by first | decide | exact Nat.le_refl _ | (first | lia | omega))) hr rfl (pa_cons (pv 2) (pa_cons (pv 3) (pa_cons (pv 0) pa_nil)))) (pv 1) (nomark _)))) (fun _ _ _ _ _ => (pv 0)))
    (pss_cons (ps_set (i := 12) sc_law_right.nd rfl (Or.inl rfl) (pe_fn (f_law_spoilt.mono (by first | decide | exact Nat.le_refl _ | (first | lia | omega))) hr rfl (pa_cons (pv 0) (pa_cons (pv 2) (pa_cons (pv 9) pa_nil)))))
    (pss_one (ps_if (pt_cmpR (neK K hu6) (pe_callTy (strK K hr.gd hu6) rfl T.n_str (by rfl) (pa_cons (pe_fn (f_run_rows.mono (by first | decide | exact Nat.le_refl _ | (first | lia | omega))) hr rfl (pa_cons (pv 1) (pa_cons (pv 12) (pa_cons (pe_ix (ixK K) (pv 11) (pe_un un_neg pe_int) (fun _ _ => rfl)) pa_nil)))) pa_nil)) (pe_callTy (strK K hr.gd hu6) rfl T.n_str (by rfl) (pa_cons (pe_fn (f_run_rows.mono (by first | decide | exact Nat.le_refl _ | (first | lia | omega))) hr rfl (pa_cons (pv 1) (pa_cons (pv 2) (pa_cons (pe_ix (ixK K) (pv 11) (pe_un un_neg pe_int) (fun _ _ => rfl)) pa_nil)))) pa_nil)) (nomark _)) (pss_one (ps_ret pe_bl)) pss_nil))))))) pss_nil)
    (pss_cons (ps_expr (bmK K PySem.F.plainAttrs_list PySem.F.slot_list_append PySem.F.type_list_append appendN (pe_ix (ixK K) (pv 6) pe_int (fun _ _ => rfl)) (pa_cons pe_int pa_nil)))
    (pss_cons (ps_set (i := 13) sc_law_right.nd rfl (Or.inl rfl) (pe_callTy (listN K) rfl T.n_list (by rfl) (pa_cons (pv 2) pa_nil)))
    (pss_cons (ps_set (i := 14) sc_law_right.nd rfl (Or.inl rfl) (pe_fn (f_run_rows.mono (by first | decide | exact Nat.le_refl _ | (first | lia | omega))) hr rfl (pa_cons (pv 1) (pa_cons (pv 13) (pa_cons (pv 4) pa_nil)))))
    (pss_cons (ps_expr (bmK K PySem.F.plainAttrs_list PySem.F.slot_list_append PySem.F.type_list_append appendN (pv 13) (pa_cons pe_int pa_nil)))
    (pss_one (ps_ret (pe_and (pe_cmpR (eqK K hu6) (pe_callTy (strK K hr.gd hu6) rfl T.n_str (by rfl) (pa_cons (pv 14) pa_nil)) (pv 7) (nomark _)) (pe_one (pe_cmpR (eqK K hu6) (pe_callTy (strK K hr.gd hu6) rfl T.n_str (by rfl) (pa_cons (pe_fn (f_run_rows.mono (by first | decide | exact Nat.le_refl _ | (first | lia | omega))) hr rfl (pa_cons (pv 1) (pa_cons (pv 2) (pa_cons (pv 4) pa_nil)))) pa_nil)) (pv 7) (nomark _))))))))))))))))))), ?_⟩
  -- what stands all along
  have PAt : ∀ {Hn : Hp} {tn N : Int}, Step b c H Hn t tn N → Pg K Hn pp gp rows g := fun st => hP.same (st.sm.trans hid_same)
  have GAt : ∀ {Hn : Hp} {tn N : Int}, Step b c H Hn t tn N → Hn gp = some (.lst (g.map V.int)) := fun st => (of_hid (st.sm _ _ hg)).1
  obtain ⟨_, gb, gc⟩ := of_hid hg
  have put : ∀ {Hn : Hp} {tn N : Int} {p' : Addr} {g' : List Int}, Step b c H Hn t tn N → Hn p' = some (.lst (g'.map V.int)) → (∀ v ∈ g', 0 ≤ v ∧ v < 256) → Pg K Hn pp p' rows g' := fun st h1 h2 => ⟨(PAt st).ok, h2, (PAt st).ex, SqL.of h1⟩
  have st0 := Step.refl bx
  refine ⟨_, rfl, _, rfl, pp, gp, rows, g, rfl, PAt st0, fun lp ls I G H1 sm1 nl hl1 g1 g2 dG hI hE hor => gn ?_⟩
  have st1 := Step.same bx sm1
  obtain ⟨lb, lc⟩ := bx.ne_new nl
  have LAt : ∀ {Hn : Hp} {tn N tm : Int}, Step b c H1 Hn tm tn N → SqL K Hn lp ls ∧ Dens K Hn ((List.range (I + 1)).map fun j => stD (runS rows g j)) ls := fun st => ⟨SqL.of (st.old hl1 lb lc), dG.same fun a o e => by
    obtain ⟨n1, n2⟩ := bx.ne_new (g2 a o e)
    exact st.old (g1 a o e) n1 n2⟩
  refine ⟨_, rfl, b, c, t, 40, rfl, st1.bx, by (first | lia | omega), by (first | lia | omega), by decide, by decide, fun r2 H2 r20 r21 s2 => gn ?_⟩
  obtain ⟨n, rfl⟩ : ∃ n : Nat, r2 = n := ⟨r2.toNat, by (first | lia | omega)⟩
  have st2 := st1.trans s2
  obtain ⟨l2a, l2b⟩ := LAt s2
  refine ⟨_, rfl, _, rfl, _, rfl, pp, gp, lp, rows, g, n, I, ls, rfl, PAt st2, by (first | lia | omega), l2a, l2b, hI, hE, hor, fun H3 sm3 => gn ?_⟩
  have st3 := st2.trans (Step.same st2.bx sm3)
  have s3 := s2.trans (Step.same s2.bx sm3)
  have hA : (runS rows g n).asked ≤ n := (run_ok (PAt st0).ok (PAt st0).gk n).q
  refine ⟨_, rfl, _, rfl, _, rfl, pp, gp, rows, g, n, rfl, PAt st3, by (first | lia | omega), fun v4 H4 sm4 d4 o4 => gn ?_⟩
  have st4 := st3.trans (Step.same st3.bx sm4)
  have s4 := s3.trans (Step.same s3.bx sm4)
  have fitA : ∀ {m : Nat} {g' : List Int}, m ≤ 200 → (∀ v ∈ g', 0 ≤ v ∧ v < 256) → _ := fun {m g'} hm hg' => (ansG (g := g') (n := m) (PAt st0).ok hg' rl hm).fit3
  obtain ⟨f1, f2, f3⟩ := fitA (m := n) (by (first | lia | omega)) (PAt st0).gk
  refine ⟨_, rfl, v4, _, rfl, d4.same newOf_le, f1, f2, f3, gn ?_⟩
  obtain ⟨tp, l1, rest, rfl, o1, o2, o3⟩ := o4
  obtain ⟨l1b, l1c⟩ := st3.bx.ne_new o2
  have htp : tp ≠ b ∧ tp ≠ c := by
    obtain ⟨ns, bx4⟩ := st4.bx
    refine ⟨fun z => ?_, fun z => ?_⟩
    · rw [z, bx4.d] at o1; cases o1
    · rw [z, bx4.l] at o1; cases o1
  have PA : ∀ {Hn : Hp} {tn N : Int}, Step b c H4 Hn (t + 1) tn N → Pg K Hn pp gp rows g := fun u => PAt (st4.trans u)
  have GA : ∀ {Hn : Hp} {tn N : Int}, Step b c H4 Hn (t + 1) tn N → Hn gp = some (.lst (g.map V.int)) := fun u => GAt (st4.trans u)
  have putA : ∀ {Hn : Hp} {tn N : Int} {p' : Addr} {g' : List Int}, Step b c H4 Hn (t + 1) tn N → Hn p' = some (.lst (g'.map V.int)) → (∀ v ∈ g', 0 ≤ v ∧ v < 256) → Pg K Hn pp p' rows g' := fun u h1 h2 => put (st4.trans u) h1 h2
  have u4 := Step.refl st4.bx
  -- a run with other numbers given
  have same : ∀ {m : Nat} {g' : List Int}, (∀ i, i < (runS rows g m).asked → g'.getD i 0 = g.getD i 0) → ansD (runS rows g' m) (howS rows g' m) = ansD (runS rows g m) (howS rows g m) := fun {m g'} h => by rw [run_agree m h, how_agree h]
  dsimp only
  refine ⟨_, rfl, fun p5 us5 H5 sm5 nw5 d5 => ?_⟩
  rw [dens_flat (ds := [.int 0]) d5 rfl] at nw5
  have h5 := (of_newOf nw5).2
  obtain ⟨b5, c5⟩ := st4.bx.ne_new (of_newOf nw5).1
  have u5 := u4.trans (Step.same u4.bx sm5)
  refine ⟨_, rfl, b, c, _, 5, rfl, u5.bx, by (first | lia | omega), by (first | lia | omega), by decide, by decide, fun r6 H6 r60 r61 s6 => .inl ⟨_, _, rfl, rfl, ?_⟩⟩
  refine .inr ⟨p5, _, _, rfl, rfl, s6.old h5 b5 c5, by (first | lia | omega), by (first | lia | omega), Nat.le_trans (show _ ≤ 1000 by simp; (first | lia | omega)) (by decide), fun p7 H7 n7 => ?_⟩
  have n7 : New H6 p7 (.lst (List.replicate (1 + r6).toNat [V.int 0]).flatten) H7 := n7
  rw [flat1] at n7
  have u7 := (u5.trans s6).newN n7
  refine .inr (.inr ⟨gp, p7, _, _, rfl, rfl, GA u7, n7.at, Nat.le_trans (show _ ≤ 1000 by simp; (first | lia | omega)) (by decide), fun p8 H8 n8 => gn ?_⟩)
  rw [← List.map_append] at n8
  have u8 := u7.newN n8
  refine ⟨_, rfl, _, rfl, _, _, rfl, rfl, _, rfl, ?_⟩
  rw [decide_eq_false (by (first | lia | omega))]
  refine iteF ?_
  have hz : ∀ {k : Nat}, ∀ v ∈ g ++ List.replicate k (0 : Int), 0 ≤ v ∧ v < 256 := fun {k} v hv => by
    rcases List.mem_append.mp hv with hv | hv
    · exact (PAt st0).gk v hv
    · rw [List.eq_of_mem_replicate hv]; exact ⟨by decide, by decide⟩
  refine ⟨_, rfl, _, rfl, _, rfl, pp, p8, rows, _, n, rfl, putA u8 n8.at hz, by (first | lia | omega), fun v9 H9 sm9 d9 _ => ?_⟩
  rw [same (fun i _ => getD_long g _ i)] at d9
  refine ⟨v9, _, rfl, d9.same newOf_le, f1, f2, f3, _, rfl, .inl ⟨rfl, _, rfl, ?_⟩⟩
  rw [decide_eq_true rfl]
  refine iteF ?_
  have u9 := u8.trans (Step.same u8.bx sm9)
  refine ⟨_, rfl, _, rfl, _, rfl, _, rfl, .inl ⟨gp, _, rfl, SqL.of (GA u9), fun p10 H10 n10 => ?_⟩⟩
  rw [cut_to, ← List.map_take] at n10
  have u10 := u9.newN n10
  refine ⟨_, rfl, pp, p10, rows, _, n, rfl, putA u10 n10.at (fun v hv => (PAt st0).gk v (List.mem_of_mem_take hv)), by (first | lia | omega), fun v11 H11 sm11 d11 _ => ?_⟩
  rw [same (fun i hi => getD_take hi)] at d11
  refine ⟨v11, _, rfl, d11.same newOf_le, f1, f2, f3, _, rfl, .inl ⟨rfl, _, rfl, ?_⟩⟩
  rw [decide_eq_true rfl]
  refine iteF ?_
  have u11 := u10.trans (Step.same u10.bx sm11)
  dsimp only [tNext]
  refine seqCut (t := tIfS _ _ _) (fun σ H' => ∃ (y9 y10 y11 y12 : Option V) (tn : Int), σ = [some (.ref b), some (.ref pp), some (.ref gp), some (.ref lp), some (.int n), some (.int (runS rows g n).asked), some (.ref tp), some (.str (strD (ansD (runS rows g n) (howS rows g n)))), some (.ref p8), y9, y10, y11, y12, none, none] ∧ Step b c H4 H' (t + 1) tn 10) (fun Nx nx => ?_) ?_
  · refine ⟨_, rfl, fun p12 us12 H12 sm12 nw12 d12 => ?_⟩
    rw [dens_flat (ds := []) d12 rfl] at nw12
    have u12 := u11.trans (Step.same u11.bx sm12)
    have dg : Den K H12 (.list (g.map PyData.int)) (.ref gp) := dlstN (GA u12) (Den.ints _)
    have dn : Den K H12 (.list []) (.ref p12) := dlstN (of_newOf nw12).2 dsnil
    refine .inr ⟨_, _, dg, dn, (sh_ints (n := 1) _).shaped (by decide), by decide +kernel, _, rfl, ?_⟩
    rw [eqvNil]
    refine ite2 (fun eg => ?_) (fun eg => ?_)
    · have gp0 : 0 < g.length := by
        cases g with
        | nil => exact absurd eg (by decide)
        | cons _ _ => exact Nat.succ_pos _
      have hgl : ((g.map V.int).length : Int) = (g.length : Int) := by rw [List.length_map]
      refine ⟨_, rfl, _, rfl, _, _, rfl, .inl ⟨_, SqL.of (GA u12), rfl⟩, b, c, _, _, rfl, u12.bx, by (first | lia | omega), by (first | lia | omega), by (first | lia | omega), by (first | lia | omega), fun r13 H13 r130 r131 s13 => gn ?_⟩
      obtain ⟨k, rfl⟩ : ∃ k : Nat, r13 = k := ⟨r13.toNat, by (first | lia | omega)⟩
      have hk : k < g.length := by (first | lia | omega)
      have u13 := u12.trans s13
      refine ⟨_, rfl, _, rfl, _, rfl, _, rfl, b, c, gp, _, g, k, rfl, u13.bx, by (first | lia | omega), by (first | lia | omega), GA u13, gb, gc, hk, by (first | lia | omega), fun v14 p14 H14 v140 v141 h14 b14 c14 s14 => ?_⟩
      have u14 := u13.trans s14
      refine ⟨_, rfl, pp, p14, rows, _, n, rfl, putA u14 h14 (set_mem (PAt st0).gk v140 v141), by (first | lia | omega), fun v15 H15 sm15 d15 _ => gn ?_⟩
      have u15 := u14.trans (Step.same u14.bx sm15)
      dsimp only
      refine seqCut (t := tIfS _ _ _) (fun σ H' => σ = [some (.ref b), some (.ref pp), some (.ref gp), some (.ref lp), some (.int n), some (.int (runS rows g n).asked), some (.ref tp), some (.str (strD (ansD (runS rows g n) (howS rows g n)))), some (.ref p8), some (.int k), some v15, none, none, none, none] ∧ H' = H15) (fun Nx2 nx2 => ?_) ?_
      · refine ⟨_, rfl, _, rfl, _, _, rfl, rfl, _, rfl, ite2 (fun e => ?_) (fun e => ?_)⟩
        · have e : ((runS rows g n).asked : Int) ≤ k := of_decide_eq_true e
          rw [same (fun i hi => getD_set (by (first | lia | omega)))] at d15
          refine ⟨_, rfl, v15, _, rfl, d15.same newOf_le, f1, f2, f3, _, rfl, .inl ⟨rfl, _, rfl, ?_⟩⟩
          rw [decide_eq_true rfl]
          exact iteF (nx2 _ _ ⟨rfl, rfl⟩)
        · exact nx2 _ _ ⟨rfl, rfl⟩
      rintro σ H15 ⟨rfl, rfl⟩
      refine ⟨_, rfl, .inl ⟨_, _, rfl, rfl, _, rfl, by (first | lia | omega), by (first | lia | omega), ?_⟩⟩
      refine comp_go (N := n + 1) (fun i ys H' => ∃ cs : List Nat, ys = cs.map (fun (x : Nat) => V.int x) ∧ (∀ x ∈ cs, (runS rows g x).asked ≤ k ∧ x ≤ n) ∧ (0 < i → cs ≠ []) ∧ cs.length ≤ i ∧ Same H15 H') ⟨[], rfl, (fun _ h => nomatch h), (fun h => absurd h (Nat.lt_irrefl _)), Nat.le_refl _, Same.refl _⟩ ?_ ?_
      · rintro i ys H16 Nx3 hi ⟨cs, rfl, hc1, hc2, hc3, sm16⟩ nx3
        refine ⟨by show i < ((n : Int) + 1).toNat; (first | lia | omega), Nat.lt_of_le_of_lt (show _ ≤ 1000 by rw [List.length_map]; (first | lia | omega)) (by decide), ?_⟩
        rintro x' H17 ⟨rfl, rfl⟩
        have u16 := u15.trans (Step.same u15.bx sm16)
        obtain ⟨l16a, l16b⟩ := LAt (s4.trans u16)
        rw [Int.zero_add]
        refine gn ⟨_, rfl, _, rfl, _, rfl, pp, gp, lp, rows, g, i, I, ls, rfl, PA u16, by (first | lia | omega), l16a, l16b, hI, hE, hor, fun H18 sm18 => ?_⟩
        refine ⟨_, rfl, _, _, rfl, rfl, _, rfl, ite2 (fun e => ?_) (fun e => ?_)⟩
        · have e : ((runS rows g i).asked : Int) ≤ k := of_decide_eq_true e
          refine ⟨_, rfl, nx3 _ _ ⟨cs ++ [i], by rw [List.map_append]; rfl, fun x hx => ?_, (fun _ h => by cases cs <;> cases h), by rw [List.length_append]; show _ + 1 ≤ _; (first | lia | omega), sm16.trans sm18⟩⟩
          rcases List.mem_append.mp hx with hx | hx
          · exact hc1 x hx
          · rw [List.mem_singleton.mp hx]; exact ⟨by (first | lia | omega), by (first | lia | omega)⟩
        · have e : ¬ ((runS rows g i).asked : Int) ≤ k := fun h => e (decide_eq_true h)
          refine nx3 _ _ ⟨cs, rfl, hc1, fun _ => hc2 ?_, by (first | lia | omega), sm16.trans sm18⟩
          rcases Nat.eq_zero_or_pos i with rfl | h
          · exact absurd (show ((runS rows g 0).asked : Int) ≤ k from Int.natCast_nonneg k) e
          · exact h
      · rintro ys H16 ⟨cs, rfl, hc1, hc2, hc3, sm16⟩
        refine ⟨by show ((n : Int) + 1).toNat ≤ n + 1; (first | lia | omega), fun p17 hp17 => gn ?_⟩
        have u16 := u15.trans (Step.same u15.bx sm16)
        obtain ⟨H17, n17⟩ : ∃ H17, New H16 p17 (.lst (cs.map fun (x : Nat) => V.int x)) H17 := ⟨_, hp17, rfl⟩
        rw [← n17.eq]
        have u17 := u16.newN n17
        obtain ⟨b17, c17⟩ := u16.bx.ne_new n17.nn
        have hcs := hc2 (Nat.succ_pos _)
        obtain ⟨m, hm⟩ : ∃ m, cs.getLast? = some m := by
          cases e : cs.getLast? with
          | none => exact absurd (List.getLast?_eq_none_iff.mp e) hcs
          | some m => exact ⟨m, rfl⟩
        obtain ⟨hm1, hm2⟩ := hc1 m (List.mem_of_getLast? hm)
        have hlast : atI (cs.map fun (x : Nat) => V.int x) (-1) = some (.int m) := by
          obtain ⟨ys, rfl⟩ := List.getLast?_eq_some_iff.mp hm
          rw [List.map_append]
          exact atI_last _ _
        obtain ⟨e1, e2, e3⟩ := fitA (m := m) (by (first | lia | omega)) (PAt st0).gk
        refine ⟨_, rfl, _, rfl, _, rfl, b, c, gp, _, g, k, rfl, u17.bx, by (first | lia | omega), by (first | lia | omega), GA u17, gb, gc, hk, by (first | lia | omega), fun v18 p18 H18 v180 v181 h18 b18 c18 s18 => gn ?_⟩
        have u18 := u17.trans s18
        have h17 : ∀ {Hn : Hp}, Same H18 Hn → SqL K Hn p17 (cs.map fun (x : Nat) => V.int x) := fun sm => SqL.of (sm _ _ (s18.old n17.at b17 c17))
        refine ⟨_, rfl, _, rfl, _, rfl, _, rfl, .inl ⟨p17, _, _, _, rfl, rfl, h17 (Same.refl _), hlast, pp, p18, rows, _, m, rfl, putA u18 h18 (set_mem (PAt st0).gk v180 v181), by (first | lia | omega), fun v19 H19 sm19 d19 _ => ?_⟩⟩
        rw [same (fun i hi => getD_set (by (first | lia | omega)))] at d19
        have u19 := u18.trans (Step.same u18.bx sm19)
        refine ⟨v19, _, rfl, d19.same newOf_le, e1, e2, e3, ?_⟩
        refine ⟨_, rfl, _, rfl, _, rfl, _, rfl, .inl ⟨p17, _, _, _, rfl, rfl, h17 sm19, hlast, pp, gp, rows, _, m, rfl, PA u19, by (first | lia | omega), fun v20 H20 sm20 d20 _ => ?_⟩⟩
        refine ⟨v20, _, rfl, d20.same newOf_le, e1, e2, e3, .inl ⟨rfl, _, rfl, ?_⟩⟩
        rw [decide_eq_true rfl]
        exact iteF (nx _ _ ⟨_, _, _, _, _, rfl, (u19.trans (Step.same u19.bx sm20)).more (by (first | lia | omega))⟩)
    · exact nx _ _ ⟨_, _, _, _, _, rfl, u12.more (by (first | lia | omega))⟩
  rintro σ H12 ⟨y9, y10, y11, y12, tn, rfl, u12⟩
  have l12 : H12 l1 = some (.lst ((runS rows g n).told.map V.int)) := u12.old o3 l1b l1c
  have t12 : H12 tp = some (.tup (.ref l1 :: rest)) := u12.old o1 htp.1 htp.2
  have htl := (run_ok (PAt st0).ok (PAt st0).gk n).t
  refine ⟨_, rfl, .inr (.inl ⟨tp, _, _, .ref l1, rfl, rfl, SqT.of t12, at_nat (by decide) rfl, .inl ⟨rfl, _, SqL.of l12⟩, ?_⟩)⟩
  refine ⟨l1, _, _, rfl, rfl, l12, Nat.lt_of_le_of_lt (show _ ≤ 1000 by rw [List.length_map]; (first | lia | omega)) (by decide), fun H13 c13 => ?_⟩
  have w12 := st4.trans u12
  have w13 := w12.chgN c13 (sm1.free ((s2.trans (Step.same s2.bx sm3)).fresh st1.bx o2)) l1b l1c
  refine ⟨_, rfl, gp, _, rfl, .inl (SqL.of (GAt w13)), fun p14 H14 n14 => gn ?_⟩
  have w14 := w13.newN n14
  refine ⟨_, rfl, _, rfl, _, rfl, pp, p14, rows, g, n, rfl, put w14 n14.at (PAt st0).gk, by (first | lia | omega), fun v15 H15 sm15 d15 _ => gn ?_⟩
  have w15 := w14.trans (Step.same w14.bx sm15)
  have h15 := sm15 _ _ n14.at
  refine ⟨_, rfl, .inl ⟨rfl, _, SqL.of h15⟩, ?_⟩
  refine ⟨p14, _, _, rfl, rfl, h15, Nat.lt_of_le_of_lt (show _ ≤ 1000 by rw [List.length_map]; (first | lia | omega)) (by decide), fun H16 c16 => ?_⟩
  obtain ⟨b14, c14⟩ := w13.bx.ne_new n14.nn
  have w16 := w15.chgN c16 (w13.fresh bx n14.nn) b14 c14
  have d16 : Den K H16 (ansD (runS rows g n) (howS rows g n)) v15 := d15.same fun a o e => by
    obtain ⟨e1, e2⟩ := of_newOf e
    rw [c16.ne (ne_of_none n14.at e1).symm]; exact e2
  refine ⟨_, rfl, v15, _, rfl, d16, f1, f2, f3, _, rfl, .inl ⟨rfl, _, rfl, ?_⟩⟩
  rw [decide_eq_true rfl]
  refine iteT ?_
  refine ⟨_, rfl, _, rfl, _, rfl, pp, gp, rows, g, n, rfl, PAt w16, by (first | lia | omega), fun v17 H17 sm17 d17 _ => ?_⟩
  refine ⟨v17, _, rfl, d17.same newOf_le, f1, f2, f3, _, rfl, .inl ⟨rfl, ?_⟩⟩
  rw [decide_eq_true rfl]
  exact q _ _ ((w16.trans (Step.same w16.bx sm17)).more (by (first | lia | omega)))
end
end Z

set_option Elab.async false
set_option linter.all false
set_option maxRecDepth 100000
set_option maxHeartbeats 4000000
namespace Z
open PySem L2
noncomputable def spLaw (K : PySem.W.Frag) : Sp := fun vs H Q _ => ∃ (a : Addr) (ns : List Int), vs = [.ref a] ∧ SqL K H a (ns.map V.int) ∧ ns.length ≤ 63 ∧ ∀ H', Q (.bl true) H'
theorem Tups.hide {H : Hp} {b c : Addr} {t : Int} {rows : List Rw} {vs : List V} (h : Tups H rows vs) (bx : Bx H b c t) : Tups (hid H b c) rows vs := ⟨h.1, fun i r e => by
  obtain ⟨rp, h1, h2⟩ := h.2 i r e
  obtain ⟨ns, bx⟩ := bx
  refine ⟨rp, h1, ?_⟩
  rw [hid_of (fun z => by rw [z, bx.d] at h2; cases h2) (fun z => by rw [z, bx.l] at h2; cases h2)]
  exact h2⟩
structure ProgAt (K : PySem.W.Frag) (G : Hp) (p : Addr) (rows : List Rw) : Prop where
  ok : ∀ r ∈ rows, r.ok rows.length
  le : rows.length ≤ 40
  ex : ∃ vs, SqL K G p vs ∧ Dens K G (rows.map Rw.d) vs
theorem ProgAt.same {K : PySem.W.Frag} {G G' : Hp} {p : Addr} {rows : List Rw} (h : ProgAt K G p rows) (s : Same G G') : ProgAt K G' p rows := by
  obtain ⟨vs, h1, h2⟩ := h.ex
  exact ⟨h.ok, h.le, vs, s.seq h1, h2.same s⟩
structure GivAt (G : Hp) (p : Addr) (g : List Int) : Prop where
  ok : ∀ v ∈ g, 0 ≤ v ∧ v < 256
  le : g.length ≤ 200
  at_ : G p = some (.lst (g.map V.int))
theorem GivAt.same {G G' : Hp} {p : Addr} {g : List Int} (h : GivAt G p g) (s : Same G G') : GivAt G' p g := ⟨h.ok, h.le, s _ _ h.at_⟩
section
variable {P : Program} {w : World} {K : PySem.W.Frag} {mg : Str → Option Value} {base : Heap} {f : Addr} {fd : FuncData}
theorem sc_law : FnScope ["_law_script", "_law_state", "_law_programs", "_law_many_here", "_law_given", "_law_turn"] ["_law_script"] (defScope (top i_law)) := ⟨rfl, rfl, rfl, by decide +kernel, rfl, by decide +kernel, by decide +kernel⟩
theorem ok_law (F : Fun K "law" "law" (top i_law) f fd) (T : Nm mg) (f_law_begin : Fn P w K mg base 1 "_law_begin" ["_law_script"] (spBegin K)) (f_law_take : Fn P w K mg base 1 "_law_take" ["_law_state", "_law_many_here"] spTk) (f_law_program : Fn P w K mg base 2 "_law_program" ["_law_state", "_law_many_here"] (spProg K)) (f_law_many : Fn P w K mg base 2 "_law_many" ["_law_state"] spMany) (f_law_asking : Fn P w K mg base 2 "_law_asking" ["_law_state", "_law_program_here"] (spAsking K)) (f_law_right : Fn P w K mg base 5 "_law_right" ["_law_state", "_law_program_here", "_law_given"] (spRight K)) :
    FnOk P w K mg base CX0 6 f fd ["_law_script"] (spLaw K) := by
  refine F.ok sc_law (fun vs H Q E h => ?_) (fun cdv A outer s H vs Q E hr h => ?_)
  · obtain ⟨a, ns, rfl, _⟩ := h
    rfl
  obtain ⟨a, ns, rfl, hS, hlen, q⟩ := h
  have hu6 := hr.units
  refine ⟨_, (pss_cons (ps_set (i := 1) sc_law.nd rfl (Or.inr rfl) (pe_fn (f_law_begin.mono (by first | decide | exact Nat.le_refl _ | (first | lia | omega))) hr rfl (pa_cons (pv 0) pa_nil)))
    (pss_cons (ps_setcomp (i := 2) sc_law.nd rfl (Or.inl rfl) rfl (comp_ok (Nc := ["_law_turn"]) (Fc := ["_law_state"]) (js := [1])) (pi_range1 rfl T.n_range (pa_cons pe_int pa_nil)) (gk_name (i := 0) (n := 1) (by decide)) (fun _ _ _ _ _ => (pg_name (i := 0) (show (["_law_turn", "_law_state"] : List Str).Nodup by decide +kernel) rfl (Or.inl rfl))) (fun _ _ _ _ _ => pts_nil) (fun _ _ _ _ _ => (pe_fn (f_law_asking.mono (by first | decide | exact Nat.le_refl _ | (first | lia | omega))) hr rfl (pa_cons (pv 1) (pa_cons (pe_fn (f_law_program.mono (by first | decide | exact Nat.le_refl _ | (first | lia | omega))) hr rfl (pa_cons (pv 1) (pa_cons (pe_fn (f_law_many.mono (by first | decide | exact Nat.le_refl _ | (first | lia | omega))) hr rfl (pa_cons (pv 1) pa_nil)) pa_nil))) pa_nil)))))
    (pss_cons (ps_set (i := 3) sc_law.nd rfl (Or.inl rfl) (pe_ix (ixK K) (lstN (pa_cons (pe_fn (f_law_take.mono (by first | decide | exact Nat.le_refl _ | (first | lia | omega))) hr rfl (pa_cons (pv 1) (pa_cons pe_int pa_nil))) (pa_cons (pe_op addN pe_int (pe_fn (f_law_take.mono (by first | decide | exact Nat.le_refl _ | (first | lia | omega))) hr rfl (pa_cons (pv 1) (pa_cons pe_int pa_nil)))) pa_nil))) (pe_callTy call_int1 rfl T.n_int (by rfl) (pa_cons (pe_cmpR (eqK K hu6) (pe_fn (f_law_take.mono (by first | decide | exact Nat.le_refl _ | (first | lia | omega))) hr rfl (pa_cons (pv 1) (pa_cons pe_int pa_nil))) pe_int (nomark _)) pa_nil)) (fun _ _ => rfl)))
    (pss_cons (ps_setcomp (i := 4) sc_law.nd rfl (Or.inl rfl) rfl (comp_ok (Nc := ["_law_size"]) (Fc := ["_law_state"]) (js := [1])) (pi_tupK K (tupN (pa_cons (pv 3) (pa_cons (pe_fn (f_law_take.mono (by first | decide | exact Nat.le_refl _ | (first | lia | omega))) hr rfl (pa_cons (pv 1) (pa_cons pe_int pa_nil))) pa_nil)))) (gk_name (i := 0) (n := 1) (by decide)) (fun _ _ _ _ _ => (pg_name (i := 0) (show (["_law_size", "_law_state"] : List Str).Nodup by decide +kernel) rfl (Or.inl rfl))) (fun _ _ _ _ _ => pts_nil) (fun _ _ _ _ _ => (pe_lcomp rfl (comp_ok (Nc := ["_law_k"]) (Fc := ["_law_state"]) (js := [1])) (pi_range1 rfl T.n_range (pa_cons (pv 0) pa_nil)) (gk_name (i := 0) (n := 1) (by decide)) (fun _ _ _ _ _ => (pg_name (i := 0) (show (["_law_k", "_law_state"] : List Str).Nodup by decide +kernel) rfl (Or.inl rfl))) (fun _ _ _ _ _ => pts_nil) (fun _ _ _ _ _ => (pe_fn (f_law_take.mono (by first | decide | exact Nat.le_refl _ | (first | lia | omega))) hr rfl (pa_cons (pv 1) (pa_cons pe_int pa_nil)))))))
    (pss_cons (ps_for PassesOwn.never rfl (pi_range1 rfl T.n_range (pa_cons pe_int pa_nil)) (pg_name (i := 5) sc_law.nd rfl (Or.inl rfl)) (pss_one (ps_if (pt_not (pt_val (pe_fn (f_law_right.mono (by first | decide | exact Nat.le_refl _ | (first | lia | omega))) hr rfl (pa_cons (pv 1) (pa_cons (pe_ix (ixK K) (pv 2) (pe_op op_mod (pv 5) pe_int) (fun _ _ => rfl)) (pa_cons (pe_ix (ixK K) (pv 4) (pe_op op_fdiv (pv 5) pe_int) (fun _ _ => rfl)) pa_nil)))))) (pss_one (ps_ret pe_bl)) pss_nil)))
    (pss_one (ps_ret pe_bl))))))), ?_⟩
  refine ⟨_, rfl, a, ns, rfl, hS, hlen, fun b c H1 bx1 hb hc sm1 => ?_⟩
  refine gn ?_
  refine ⟨2, rfl, by decide, by decide, ?_⟩
  refine comp_go (N := 2) (fun i ys H' => ∃ (ps : List Addr) (t' : Int), ys = ps.map V.ref ∧ ps.length = i ∧ (∀ p ∈ ps, ∃ rows, ProgAt K (hid H' b c) p rows) ∧ Step b c H1 H' 0 t' (1000 * i)) ⟨[], 0, rfl, rfl, (fun _ h => nomatch h), (Step.refl bx1).more (by (first | lia | omega))⟩ ?_ ?_
  · rintro i ys H2 Nx hi ⟨ps, t2, rfl, hl, hps, st2⟩ nx
    have ub2 := st2.ub
    have lo2 := st2.le
    refine ⟨hi, Nat.lt_of_le_of_lt (show _ ≤ 1000 by rw [List.length_map]; (first | lia | omega)) (by decide), ?_⟩
    rintro x' H3 ⟨rfl, rfl⟩
    refine gn ⟨_, rfl, _, rfl, _, rfl, b, c, t2, rfl, st2.bx, by (first | lia | omega), by (first | lia | omega), fun n H4 t4 hn st4 => ?_⟩
    have ub4 := st4.ub
    have lo4 := st4.le
    refine ⟨b, c, t4, n, rfl, st4.bx, by (first | lia | omega), by (first | lia | omega), hn, fun rows pp us H5 t5 hl5 hok hpp pb pc hT st5 => ?_⟩
    have ub5 := st5.ub
    have lo5 := st5.le
    refine ⟨b, c, pp, t5, rows, us, n, rfl, st5.bx, by (first | lia | omega), by (first | lia | omega), hpp, pb, pc, hT, by (first | lia | omega), hok, fun rows' p us' H6 t6 hl6 hok6 hp6 pb6 pc6 hT6 st6 => ?_⟩
    have st6' := st4.trans (st5.trans st6)
    refine nx _ _ ⟨ps ++ [p], t6, by rw [List.map_append]; rfl, by rw [List.length_append, hl]; rfl, fun p' hp' => ?_, (st2.trans st6').more (by (first | lia | omega))⟩
    rcases List.mem_append.mp hp' with hp' | hp'
    · obtain ⟨r, hr'⟩ := hps p' hp'
      exact ⟨r, hr'.same st6'.sm⟩
    · rw [List.mem_singleton.mp hp']
      exact ⟨rows', by rw [hl6, hl5]; exact hok6, by (first | lia | omega), us', SqL.of (by rw [hid_of pb6 pc6]; exact hp6), (hT6.hide st6.bx).dens⟩
  rintro ys H2 ⟨ps, t2, rfl, hl, hps, st2⟩
  have ub2 := st2.ub
  have lo2 := st2.le
  refine ⟨Nat.le_refl _, fun p3 hp3 => gn ?_⟩
  obtain ⟨H3, n3⟩ : ∃ H3, New H2 p3 (.lst (ps.map V.ref)) H3 := ⟨_, hp3, rfl⟩
  rw [← n3.eq]
  obtain ⟨b3, c3⟩ := st2.bx.ne_new n3.nn
  have st3 := st2.newN n3
  have hq3 : hid H3 b c p3 = some (.lst (ps.map V.ref)) := by rw [hid_of b3 c3]; exact n3.at
  have hps3 : ∀ p ∈ ps, ∃ rows, ProgAt K (hid H3 b c) p rows := fun p hp => by
    obtain ⟨r, h⟩ := hps p hp
    exact ⟨r, h.same (Step.same st2.bx n3.same).sm⟩
  refine ⟨_, rfl, b, c, _, 10, rfl, st3.bx, by (first | lia | omega), by (first | lia | omega), by decide, by decide, fun r4 H4 r40 r41 s4 => ?_⟩
  refine ⟨_, rfl, b, c, _, 46, rfl, s4.bx, by (first | lia | omega), by (first | lia | omega), by decide, by decide, fun r5 H5 r50 r51 s5 => .inl ⟨_, _, rfl, rfl, by show 2 ≤ sizeLine; decide, fun p6 H6 n6 => ?_⟩⟩
  obtain ⟨b6, c6⟩ := s5.bx.ne_new n6.nn
  have s6 := (s4.trans s5).newN n6
  refine ⟨_, rfl, b, c, _, 8, rfl, s6.bx, by (first | lia | omega), by (first | lia | omega), by decide, by decide, fun r7 H7 r70 r71 s7 => .inl ⟨rfl, .inr ⟨_, rfl, ?_⟩⟩⟩
  have h7 : H7 p6 = some (.lst [V.int r4, V.int (150 + r5)]) := s7.old n6.at b6 c6
  obtain ⟨kv, hk4, hk5⟩ := at_mem (xs := [V.int r4, V.int (150 + r5)]) (r := if decide (V.int r7 = V.int 0) = true then (1 : Int) else 0) (by split <;> decide) (by show _ < (2 : Int); split <;> decide)
  obtain ⟨m, rfl, m1⟩ : ∃ m : Nat, kv = .int m ∧ m ≤ 200 := by
    rcases List.mem_cons.mp hk5 with rfl | hk5
    · exact ⟨r4.toNat, congrArg V.int (Int.toNat_of_nonneg r40).symm, by (first | lia | omega)⟩
    · rw [List.mem_singleton.mp hk5]
      exact ⟨(150 + r5).toNat, congrArg V.int (Int.toNat_of_nonneg (by (first | lia | omega))).symm, by (first | lia | omega)⟩
  refine .inl ⟨p6, _, _, _, rfl, rfl, SqL.of h7, hk4, gn ?_⟩
  have s7' := s6.trans s7
  refine ⟨_, rfl, _, rfl, b, c, _, 10, rfl, s7'.bx, by (first | lia | omega), by (first | lia | omega), by decide, by decide, fun r8 H8 r80 r81 s8 => ⟨by show 2 ≤ sizeLine; decide, fun p9 H9 n9 => ?_⟩⟩
  obtain ⟨k8, rfl⟩ : ∃ k : Nat, r8 = k := ⟨r8.toNat, by (first | lia | omega)⟩
  obtain ⟨b9, c9⟩ := s8.bx.ne_new n9.nn
  have s9 := (s7'.trans s8).newN n9
  refine ⟨p9, rfl, ⟨_, SqT.of n9.at⟩, ?_⟩
  refine comp_go (N := 2) (fun i ys H' => ∃ (gs : List Addr) (t' : Int), ys = gs.map V.ref ∧ gs.length = i ∧ (∀ p ∈ gs, ∃ g, GivAt (hid H' b c) p g) ∧ Step b c H9 H' (t2 + 1 + 1 + 1 + 1) t' (200 * i)) ⟨[], _, rfl, rfl, (fun _ h => nomatch h), (Step.refl s9.bx).more (by (first | lia | omega))⟩ ?_ ?_
  · rintro i ys H10 Nx hi ⟨gs, t10, rfl, hl10, hgs, s10⟩ nx
    have ub10 := s10.ub
    have lo10 := s10.le
    obtain ⟨z, hz, hz2⟩ : ∃ z : Nat, [V.int m, V.int k8][i]? = some (.int z) ∧ z ≤ 200 := by
      have : i = 0 ∨ i = 1 := by (first | lia | omega)
      rcases this with rfl | rfl
      · exact ⟨m, rfl, m1⟩
      · exact ⟨k8, rfl, by (first | lia | omega)⟩
    have hS10 : SqT K H10 p9 [V.int m, V.int k8] := SqT.of (s10.old n9.at b9 c9)
    refine ⟨⟨_, _, hS10, hz⟩, Nat.lt_of_le_of_lt (show _ ≤ 1000 by rw [List.length_map]; (first | lia | omega)) (by decide), ?_⟩
    rintro x' H11 ⟨rfl, hy⟩
    have e := hy _ hS10
    rw [hz] at e; cases e
    refine gn ⟨_, rfl, _, rfl, by (first | lia | omega), by (first | lia | omega), ?_⟩
    refine comp_go (N := z) (fun j ys H' => ∃ (g : List Int) (t' : Int), ys = g.map V.int ∧ g.length = j ∧ (∀ v ∈ g, 0 ≤ v ∧ v < 256) ∧ Step b c H11 H' t10 t' j) ⟨[], _, rfl, rfl, (fun _ h => nomatch h), (Step.refl s10.bx).more (by (first | lia | omega))⟩ ?_ ?_
    · rintro j ys H12 Nx2 hj ⟨g, t12, rfl, hl12, hg, s12⟩ nx2
      have ub12 := s12.ub
      have lo12 := s12.le
      refine ⟨by show j < ((z : Nat) : Int).toNat; (first | lia | omega), Nat.lt_of_le_of_lt (show _ ≤ 1000 by rw [List.length_map]; (first | lia | omega)) (by decide), ?_⟩
      rintro x' H13 ⟨rfl, rfl⟩
      refine gn ⟨_, rfl, b, c, _, 256, rfl, s12.bx, by (first | lia | omega), by (first | lia | omega), by decide, by decide, fun r14 H14 r140 r141 s14 => nx2 _ _ ⟨g ++ [r14], _, by rw [List.map_append]; rfl, by rw [List.length_append, hl12]; rfl, fun v hv => ?_, (s12.trans s14).more (by (first | lia | omega))⟩⟩
      rcases List.mem_append.mp hv with hv | hv
      · exact hg v hv
      · rw [List.mem_singleton.mp hv]; exact ⟨r140, r141⟩
    · rintro ys H12 ⟨g, t12, rfl, hl12, hg, s12⟩
      refine ⟨by show ((z : Nat) : Int).toNat ≤ z; (first | lia | omega), fun p13 hp13 => nx _ _ ?_⟩
      obtain ⟨b13, c13⟩ := s12.bx.ne_new hp13
      have s13 := s12.new hp13 (.lst (g.map V.int))
      refine ⟨gs ++ [p13], t12, by rw [List.map_append]; rfl, by rw [List.length_append, hl10]; rfl, fun p' hp' => ?_, (s10.trans s13).more (by (first | lia | omega))⟩
      rcases List.mem_append.mp hp' with hp' | hp'
      · obtain ⟨g', hg'⟩ := hgs p' hp'
        exact ⟨g', hg'.same s13.sm⟩
      · rw [List.mem_singleton.mp hp']
        exact ⟨g, hg, by (first | lia | omega), by rw [hid_of b13 c13]; exact upd_same⟩
  rintro ys H10 ⟨gs, t10, rfl, hl10, hgs, s10⟩
  have ub10 := s10.ub
  have lo10 := s10.le
  refine ⟨⟨_, SqT.of (s10.old n9.at b9 c9), Nat.le_refl 2⟩, fun p11 hp11 => gn ?_⟩
  obtain ⟨H11, n11⟩ : ∃ H11, New H10 p11 (.lst (gs.map V.ref)) H11 := ⟨_, hp11, rfl⟩
  rw [← n11.eq]
  obtain ⟨b11, c11⟩ := s10.bx.ne_new n11.nn
  have s11 := (s9.trans s10).newN n11
  have hg11 : hid H11 b c p11 = some (.lst (gs.map V.ref)) := by rw [hid_of b11 c11]; exact n11.at
  have hgs11 : ∀ p ∈ gs, ∃ g, GivAt (hid H11 b c) p g := fun p hp => by
    obtain ⟨g, h⟩ := hgs p hp
    exact ⟨g, h.same (Step.same s10.bx n11.same).sm⟩
  dsimp only
  refine seqCut (t := tFor _ _ _) (fun σ H' => True) (fun Nx nx => ?_) ?_
  · refine ⟨4, rfl, by decide, by decide, ?_⟩
    refine for_go (N := 4) (fun i σ H' => ∃ (t' : Int) (x5 : Option V), σ = [some (.ref a), some (.ref b), some (.ref p3), some (.int m), some (.ref p11), x5] ∧ Step b c H11 H' t10 t' (20 * i)) ⟨_, _, rfl, (Step.refl (s10.newN n11).bx).more (by (first | lia | omega))⟩ ?_ ?_
    · rintro i σ H12 hi ⟨t12, x5, rfl, s12⟩
      have ub12 := s12.ub
      have lo12 := s12.le
      refine ⟨hi, ?_⟩
      rintro x H13 ⟨rfl, rfl⟩
      rw [Int.zero_add]
      have sA := s11.trans s12
      have hq12 := (of_hid (sA.sm _ _ hq3)).1
      have hg12 := (of_hid (s12.sm _ _ hg11)).1
      obtain ⟨v1, hv1, hv2⟩ := at_mem (xs := ps.map V.ref) (r := (i : Int) % 2) (Int.emod_nonneg _ (by decide)) (by rw [List.length_map, hl]; exact Int.emod_lt_of_pos _ (by decide))
      obtain ⟨pp, hpp, rfl⟩ := List.mem_map.mp hv2
      obtain ⟨v2, hv3, hv4⟩ := at_mem (xs := gs.map V.ref) (r := (i : Int) / 2) (by (first | lia | omega)) (by rw [List.length_map, hl10]; (first | lia | omega))
      obtain ⟨gp, hgp, rfl⟩ := List.mem_map.mp hv4
      obtain ⟨rows, hr'⟩ := hps3 pp hpp
      obtain ⟨g, hg'⟩ := hgs11 gp hgp
      have hr12 := hr'.same sA.sm
      have hg12' := hg'.same s12.sm
      refine gn ⟨_, rfl, _, rfl, _, rfl, _, _, rfl, rfl, (by dsimp only; decide), .inl ⟨p3, _, _, _, rfl, rfl, SqL.of hq12, hv1, ?_⟩⟩
      refine ⟨_, rfl, _, rfl, _, _, rfl, rfl, ⟨by decide, by decide⟩, .inl ⟨p11, _, _, _, rfl, rfl, SqL.of hg12, hv3, ?_⟩⟩
      refine ⟨b, c, pp, gp, t12, rows, g, rfl, s12.bx, by (first | lia | omega), by (first | lia | omega), ⟨hr12.ok, hg12'.ok, hr12.ex, SqL.of hg12'.at_⟩, hg12'.at_, hg12'.le, hr12.le, fun H14 t14 s14 => ?_⟩
      exact ⟨_, rfl, iteF ⟨_, _, rfl, (s12.trans s14).more (by (first | lia | omega))⟩⟩
    · rintro σ H12 _
      exact ⟨Nat.le_refl _, nx _ _ trivial⟩
  rintro σ H12 _
  exact q H12
end
end Z

namespace Z
open PySem L2
theorem lenZ {α : Type} {P : List α → Prop} (h : P []) : ∀ us : List α, us.length = 0 → P us := fun us e => List.eq_nil_of_length_eq_zero e ▸ h
theorem lenS {α : Type} {P : List α → Prop} {n : Nat} (h : ∀ a (us : List α), us.length = n → P (a :: us)) (us : List α) (e : us.length = n + 1) : P us := by
  cases us with | nil => cases e | cons a us => exact h a us (Nat.succ.inj e)
theorem all_mk {l : PySem.W.OpenLaw} {w : World} {K : PySem.W.Frag} {h : Heap} {mg : Str → Option Value} {fa f1 f2 f3 f4 f5 f6 f7 f8 f9 f10 f11 f12 f13 f14 f15 : Addr} (X : K.In h) (G : h.Ns mainGlobals mg) (hfa : mg "law" = some (.ref fa))
    {od1 an1 : Option Addr} {sl1 : Array (Option Value)} {oc1 kV1 dc1 pm1 cd1 ct1 : Value}
    {od2 an2 : Option Addr} {sl2 : Array (Option Value)} {oc2 kV2 dc2 pm2 cd2 ct2 : Value}
    {od3 an3 : Option Addr} {sl3 : Array (Option Value)} {oc3 kV3 dc3 pm3 cd3 ct3 : Value}
    {od4 an4 : Option Addr} {sl4 : Array (Option Value)} {oc4 kV4 dc4 pm4 cd4 ct4 : Value}
    {od5 an5 : Option Addr} {sl5 : Array (Option Value)} {oc5 kV5 dc5 pm5 cd5 ct5 : Value}
    {od6 an6 : Option Addr} {sl6 : Array (Option Value)} {oc6 kV6 dc6 pm6 cd6 ct6 : Value}
    {od7 an7 : Option Addr} {sl7 : Array (Option Value)} {oc7 kV7 dc7 pm7 cd7 ct7 : Value}
    {od8 an8 : Option Addr} {sl8 : Array (Option Value)} {oc8 kV8 dc8 pm8 cd8 ct8 : Value}
    {od9 an9 : Option Addr} {sl9 : Array (Option Value)} {oc9 kV9 dc9 pm9 cd9 ct9 : Value}
    {od10 an10 : Option Addr} {sl10 : Array (Option Value)} {oc10 kV10 dc10 pm10 cd10 ct10 : Value}
    {od11 an11 : Option Addr} {sl11 : Array (Option Value)} {oc11 kV11 dc11 pm11 cd11 ct11 : Value}
    {od12 an12 : Option Addr} {sl12 : Array (Option Value)} {oc12 kV12 dc12 pm12 cd12 ct12 : Value}
    {od13 an13 : Option Addr} {sl13 : Array (Option Value)} {oc13 kV13 dc13 pm13 cd13 ct13 : Value}
    {od14 an14 : Option Addr} {sl14 : Array (Option Value)} {oc14 kV14 dc14 pm14 cd14 ct14 : Value}
    {od15 an15 : Option Addr} {sl15 : Array (Option Value)} {oc15 kV15 dc15 pm15 cd15 ct15 : Value}
    {G_Machine : Addr}
    {tkc0 : Tok}
    {aS : Addr} {aSd : Option Addr} {aSi : List Value} {aSn : Nat} {aSs : Array (Option Value)}
    {f_init : Addr} {oc_init : Value} {od_init an_init : Option Addr} {sl_init : Array (Option Value)} {kV_init dc_init pm_init cd_init ct_init : Value}
    {f_jumps : Addr} {oc_jumps : Value} {od_jumps an_jumps : Option Addr} {sl_jumps : Array (Option Value)} {kV_jumps dc_jumps pm_jumps cd_jumps ct_jumps : Value}
    {f_number_by : Addr} {oc_number_by : Value} {od_number_by an_number_by : Option Addr} {sl_number_by : Array (Option Value)} {kV_number_by dc_number_by pm_number_by cd_number_by ct_number_by : Value}
    {f_next_given : Addr} {oc_next_given : Value} {od_next_given an_next_given : Option Addr} {sl_next_given : Array (Option Value)} {kV_next_given dc_next_given pm_next_given cd_next_given ct_next_given : Value}
    {f_answer : Addr} {oc_answer : Value} {od_answer an_answer : Option Addr} {sl_answer : Array (Option Value)} {kV_answer dc_answer pm_answer cd_answer ct_answer : Value}
    (a1 : PySem.W.nsIn K mainGlobals "run_rows" = some (some (.ref f1))) (l1 : K.lookup f1 = some ⟨oc1, od1, .func (PySem.W.fnOf "run_rows" "run_rows" (defArgs (top i_run_rows)) (defBody (top i_run_rows)) (defScope (top i_run_rows)) .none kV1 dc1 pm1 an1 cd1 ct1), sl1⟩) (c1 : PySem.W.codeIn K cd1 "run_rows" = true) (k1 : PySem.W.keepIn K (.ref f1) = true)
    (a2 : PySem.W.nsIn K mainGlobals "_law_begin" = some (some (.ref f2))) (l2 : K.lookup f2 = some ⟨oc2, od2, .func (PySem.W.fnOf "_law_begin" "_law_begin" (defArgs (top i_law_begin)) (defBody (top i_law_begin)) (defScope (top i_law_begin)) .none kV2 dc2 pm2 an2 cd2 ct2), sl2⟩) (c2 : PySem.W.codeIn K cd2 "_law_begin" = true) (k2 : PySem.W.keepIn K (.ref f2) = true)
    (a3 : PySem.W.nsIn K mainGlobals "_law_take" = some (some (.ref f3))) (l3 : K.lookup f3 = some ⟨oc3, od3, .func (PySem.W.fnOf "_law_take" "_law_take" (defArgs (top i_law_take)) (defBody (top i_law_take)) (defScope (top i_law_take)) .none kV3 dc3 pm3 an3 cd3 ct3), sl3⟩) (c3 : PySem.W.codeIn K cd3 "_law_take" = true) (k3 : PySem.W.keepIn K (.ref f3) = true)
    (a4 : PySem.W.nsIn K mainGlobals "_law_program" = some (some (.ref f4))) (l4 : K.lookup f4 = some ⟨oc4, od4, .func (PySem.W.fnOf "_law_program" "_law_program" (defArgs (top i_law_program)) (defBody (top i_law_program)) (defScope (top i_law_program)) .none kV4 dc4 pm4 an4 cd4 ct4), sl4⟩) (c4 : PySem.W.codeIn K cd4 "_law_program" = true) (k4 : PySem.W.keepIn K (.ref f4) = true)
    (a5 : PySem.W.nsIn K mainGlobals "_law_works" = some (some (.ref f5))) (l5 : K.lookup f5 = some ⟨oc5, od5, .func (PySem.W.fnOf "_law_works" "_law_works" (defArgs (top i_law_works)) (defBody (top i_law_works)) (defScope (top i_law_works)) .none kV5 dc5 pm5 an5 cd5 ct5), sl5⟩) (c5 : PySem.W.codeIn K cd5 "_law_works" = true) (k5 : PySem.W.keepIn K (.ref f5) = true)
    (a6 : PySem.W.nsIn K mainGlobals "_law_work" = some (some (.ref f6))) (l6 : K.lookup f6 = some ⟨oc6, od6, .func (PySem.W.fnOf "_law_work" "_law_work" (defArgs (top i_law_work)) (defBody (top i_law_work)) (defScope (top i_law_work)) .none kV6 dc6 pm6 an6 cd6 ct6), sl6⟩) (c6 : PySem.W.codeIn K cd6 "_law_work" = true) (k6 : PySem.W.keepIn K (.ref f6) = true)
    (a7 : PySem.W.nsIn K mainGlobals "_law_done" = some (some (.ref f7))) (l7 : K.lookup f7 = some ⟨oc7, od7, .func (PySem.W.fnOf "_law_done" "_law_done" (defArgs (top i_law_done)) (defBody (top i_law_done)) (defScope (top i_law_done)) .none kV7 dc7 pm7 an7 cd7 ct7), sl7⟩) (c7 : PySem.W.codeIn K cd7 "_law_done" = true) (k7 : PySem.W.keepIn K (.ref f7) = true)
    (a8 : PySem.W.nsIn K mainGlobals "_law_ended" = some (some (.ref f8))) (l8 : K.lookup f8 = some ⟨oc8, od8, .func (PySem.W.fnOf "_law_ended" "_law_ended" (defArgs (top i_law_ended)) (defBody (top i_law_ended)) (defScope (top i_law_ended)) .none kV8 dc8 pm8 an8 cd8 ct8), sl8⟩) (c8 : PySem.W.codeIn K cd8 "_law_ended" = true) (k8 : PySem.W.keepIn K (.ref f8) = true)
    (a9 : PySem.W.nsIn K mainGlobals "_law_stands" = some (some (.ref f9))) (l9 : K.lookup f9 = some ⟨oc9, od9, .func (PySem.W.fnOf "_law_stands" "_law_stands" (defArgs (top i_law_stands)) (defBody (top i_law_stands)) (defScope (top i_law_stands)) .none kV9 dc9 pm9 an9 cd9 ct9), sl9⟩) (c9 : PySem.W.codeIn K cd9 "_law_stands" = true) (k9 : PySem.W.keepIn K (.ref f9) = true)
    (a10 : PySem.W.nsIn K mainGlobals "_law_many" = some (some (.ref f10))) (l10 : K.lookup f10 = some ⟨oc10, od10, .func (PySem.W.fnOf "_law_many" "_law_many" (defArgs (top i_law_many)) (defBody (top i_law_many)) (defScope (top i_law_many)) .none kV10 dc10 pm10 an10 cd10 ct10), sl10⟩) (c10 : PySem.W.codeIn K cd10 "_law_many" = true) (k10 : PySem.W.keepIn K (.ref f10) = true)
    (a11 : PySem.W.nsIn K mainGlobals "_law_asking" = some (some (.ref f11))) (l11 : K.lookup f11 = some ⟨oc11, od11, .func (PySem.W.fnOf "_law_asking" "_law_asking" (defArgs (top i_law_asking)) (defBody (top i_law_asking)) (defScope (top i_law_asking)) .none kV11 dc11 pm11 an11 cd11 ct11), sl11⟩) (c11 : PySem.W.codeIn K cd11 "_law_asking" = true) (k11 : PySem.W.keepIn K (.ref f11) = true)
    (a12 : PySem.W.nsIn K mainGlobals "_law_asked" = some (some (.ref f12))) (l12 : K.lookup f12 = some ⟨oc12, od12, .func (PySem.W.fnOf "_law_asked" "_law_asked" (defArgs (top i_law_asked)) (defBody (top i_law_asked)) (defScope (top i_law_asked)) .none kV12 dc12 pm12 an12 cd12 ct12), sl12⟩) (c12 : PySem.W.codeIn K cd12 "_law_asked" = true) (k12 : PySem.W.keepIn K (.ref f12) = true)
    (a13 : PySem.W.nsIn K mainGlobals "_law_spoilt" = some (some (.ref f13))) (l13 : K.lookup f13 = some ⟨oc13, od13, .func (PySem.W.fnOf "_law_spoilt" "_law_spoilt" (defArgs (top i_law_spoilt)) (defBody (top i_law_spoilt)) (defScope (top i_law_spoilt)) .none kV13 dc13 pm13 an13 cd13 ct13), sl13⟩) (c13 : PySem.W.codeIn K cd13 "_law_spoilt" = true) (k13 : PySem.W.keepIn K (.ref f13) = true)
    (a14 : PySem.W.nsIn K mainGlobals "_law_right" = some (some (.ref f14))) (l14 : K.lookup f14 = some ⟨oc14, od14, .func (PySem.W.fnOf "_law_right" "_law_right" (defArgs (top i_law_right)) (defBody (top i_law_right)) (defScope (top i_law_right)) .none kV14 dc14 pm14 an14 cd14 ct14), sl14⟩) (c14 : PySem.W.codeIn K cd14 "_law_right" = true) (k14 : PySem.W.keepIn K (.ref f14) = true)
    (a15 : PySem.W.nsIn K mainGlobals "law" = some (some (.ref f15))) (l15 : K.lookup f15 = some ⟨oc15, od15, .func (PySem.W.fnOf "law" "law" (defArgs (top i_law)) (defBody (top i_law)) (defScope (top i_law)) .none kV15 dc15 pm15 an15 cd15 ct15), sl15⟩) (c15 : PySem.W.codeIn K cd15 "law" = true) (k15 : PySem.W.keepIn K (.ref f15) = true)
    (gn_Machine : PySem.W.nsIn K mainGlobals "Machine" = some (some (.ref G_Machine)))
    (vc0 : PySem.W.nsIn K mainGlobals "GREATEST_NUMBER" = some (some (.int 255 tkc0)))
    (gaS : PySem.W.nsIn K mainGlobals "SPOT_NAMES" = some (some (.ref aS)))
    (laS : K.lookup aS = some ⟨.type "tuple", aSd, .seq aSi.toArray aSn, aSs⟩)
    (waS : Vals [V.str "a", V.str "b", V.str "c", V.str "d"] aSi)
    (m_pg : PySem.W.plainGet K G_Machine Str.empty = true)
    (m_hd : PySem.W.hasDictIn K G_Machine = true)
    (m_po : PySem.W.plainOver K G_Machine = true)
    (m_sa : PySem.W.findIn K (.ref G_Machine) "__setattr__" = some (some (.builtin "object.__setattr__")))
    (m_mk : PySem.W.makesIn K G_Machine = true)
    (m_kg : PySem.W.keepIn K (.ref G_Machine) = true)
    (m_na_numbers : PySem.W.findIn K (.ref G_Machine) "numbers" = some none)
    (m_na_told : PySem.W.findIn K (.ref G_Machine) "told" = some none)
    (m_na_given : PySem.W.findIn K (.ref G_Machine) "given" = some none)
    (m_na_asked : PySem.W.findIn K (.ref G_Machine) "asked" = some none)
    (mf_init : PySem.W.findIn K (.ref G_Machine) "__init__" = some (some (.ref f_init)))
    (ml_init : K.lookup f_init = some ⟨oc_init, od_init, .func (PySem.W.fnOf "__init__" "Machine.__init__" (defArgs (inClass (top i_Machine) 0)) (defBody (inClass (top i_Machine) 0)) (defScope (inClass (top i_Machine) 0)) .none kV_init dc_init pm_init an_init cd_init ct_init), sl_init⟩)
    (mc_init : PySem.W.codeIn K cd_init "Machine.__init__" = true)
    (mp_init : PySem.W.keepIn K (.ref f_init) = true)
    (mi_init : PySem.W.isFn K (.ref f_init) = true)
    (mf_jumps : PySem.W.findIn K (.ref G_Machine) "jumps" = some (some (.ref f_jumps)))
    (ml_jumps : K.lookup f_jumps = some ⟨oc_jumps, od_jumps, .func (PySem.W.fnOf "jumps" "Machine.jumps" (defArgs (inClass (top i_Machine) 1)) (defBody (inClass (top i_Machine) 1)) (defScope (inClass (top i_Machine) 1)) .none kV_jumps dc_jumps pm_jumps an_jumps cd_jumps ct_jumps), sl_jumps⟩)
    (mc_jumps : PySem.W.codeIn K cd_jumps "Machine.jumps" = true)
    (mp_jumps : PySem.W.keepIn K (.ref f_jumps) = true)
    (mi_jumps : PySem.W.isFn K (.ref f_jumps) = true)
    (mf_number_by : PySem.W.findIn K (.ref G_Machine) "number_by" = some (some (.ref f_number_by)))
    (ml_number_by : K.lookup f_number_by = some ⟨oc_number_by, od_number_by, .func (PySem.W.fnOf "number_by" "Machine.number_by" (defArgs (inClass (top i_Machine) 2)) (defBody (inClass (top i_Machine) 2)) (defScope (inClass (top i_Machine) 2)) .none kV_number_by dc_number_by pm_number_by an_number_by cd_number_by ct_number_by), sl_number_by⟩)
    (mc_number_by : PySem.W.codeIn K cd_number_by "Machine.number_by" = true)
    (mp_number_by : PySem.W.keepIn K (.ref f_number_by) = true)
    (mi_number_by : PySem.W.isFn K (.ref f_number_by) = true)
    (mf_next_given : PySem.W.findIn K (.ref G_Machine) "next_given" = some (some (.ref f_next_given)))
    (ml_next_given : K.lookup f_next_given = some ⟨oc_next_given, od_next_given, .func (PySem.W.fnOf "next_given" "Machine.next_given" (defArgs (inClass (top i_Machine) 3)) (defBody (inClass (top i_Machine) 3)) (defScope (inClass (top i_Machine) 3)) .none kV_next_given dc_next_given pm_next_given an_next_given cd_next_given ct_next_given), sl_next_given⟩)
    (mc_next_given : PySem.W.codeIn K cd_next_given "Machine.next_given" = true)
    (mp_next_given : PySem.W.keepIn K (.ref f_next_given) = true)
    (mi_next_given : PySem.W.isFn K (.ref f_next_given) = true)
    (mf_answer : PySem.W.findIn K (.ref G_Machine) "answer" = some (some (.ref f_answer)))
    (ml_answer : K.lookup f_answer = some ⟨oc_answer, od_answer, .func (PySem.W.fnOf "answer" "Machine.answer" (defArgs (inClass (top i_Machine) 4)) (defBody (inClass (top i_Machine) 4)) (defScope (inClass (top i_Machine) 4)) .none kV_answer dc_answer pm_answer an_answer cd_answer ct_answer), sl_answer⟩)
    (mc_answer : PySem.W.codeIn K cd_answer "Machine.answer" = true)
    (mp_answer : PySem.W.keepIn K (.ref f_answer) = true)
    (mi_answer : PySem.W.isFn K (.ref f_answer) = true)
    (z0 : PySem.W.nsIn K mainGlobals "len" = some none) (z1 : PySem.W.nsIn K mainGlobals "range" = some none) (z2 : PySem.W.nsIn K mainGlobals "max" = some none) (z3 : PySem.W.nsIn K mainGlobals "min" = some none) (z4 : PySem.W.nsIn K mainGlobals "sum" = some none) (z5 : PySem.W.nsIn K mainGlobals "all" = some none) (z6 : PySem.W.nsIn K mainGlobals "any" = some none) (z7 : PySem.W.nsIn K mainGlobals "list" = some none) (z8 : PySem.W.nsIn K mainGlobals "tuple" = some none) (z9 : PySem.W.nsIn K mainGlobals "int" = some none) (z10 : PySem.W.nsIn K mainGlobals "str" = some none) (z11 : PySem.W.nsIn K mainGlobals "bool" = some none) (z12 : PySem.W.nsIn K mainGlobals "zip" = some none) (z13 : PySem.W.nsIn K mainGlobals "enumerate" = some none) (z14 : PySem.W.nsIn K mainGlobals "isinstance" = some none) (z15 : PySem.W.nsIn K mainGlobals "divmod" = some none) :
    ∃ fd : FuncData, (∀ (s : Shared) (v : Value), BindsTo s fd ⟨[v], []⟩ [("_law_script", v)]) ∧ ∀ base : Heap, K.In base → base.Ns mainGlobals mg → FnOk l.prog w K mg base CX0 6 fa fd ["_law_script"] (spLaw K) := by
  have e := hfa.symm.trans (PySem.W.mg_of X G a15)
  cases e
  have T : Nm mg := ⟨PySem.W.mg_none_of X G z0, PySem.W.mg_none_of X G z1, PySem.W.mg_none_of X G z2, PySem.W.mg_none_of X G z3, PySem.W.mg_none_of X G z4, PySem.W.mg_none_of X G z5, PySem.W.mg_none_of X G z6, PySem.W.mg_none_of X G z7, PySem.W.mg_none_of X G z8, PySem.W.mg_none_of X G z9, PySem.W.mg_none_of X G z10, PySem.W.mg_none_of X G z11, PySem.W.mg_none_of X G z12, PySem.W.mg_none_of X G z13, PySem.W.mg_none_of X G z14, PySem.W.mg_none_of X G z15⟩
  have v_GREATEST_NUMBER := PySem.W.mg_of X G vc0
  have g_SPOT_NAMES := PySem.W.mg_of X G gaS
  have hSP : ∀ H, SqT K H aS spotsV := sqt_mk laS waS (by decide)
  have CM : Cls K G_Machine := ⟨m_pg, m_hd, m_po, m_sa⟩
  have MC : Mc K G_Machine := ⟨CM, m_na_numbers, m_na_told, m_na_given, m_na_asked⟩
  have FF_init := fun_mk (st := inClass (top i_Machine) 0) ml_init mc_init mp_init
  have b_init := FF_init.binds (ps := ["self", "given"]) fun _ _ _ _ _ _ => lenS fun _ => lenS fun _ => lenZ rfl
  have FF_jumps := fun_mk (st := inClass (top i_Machine) 1) ml_jumps mc_jumps mp_jumps
  have b_jumps := FF_jumps.binds (ps := ["self", "row"]) fun _ _ _ _ _ _ => lenS fun _ => lenS fun _ => lenZ rfl
  have MT_jumps : Meth K G_Machine "jumps" f_jumps := ⟨mf_jumps, mi_jumps, mp_jumps⟩
  have FF_number_by := fun_mk (st := inClass (top i_Machine) 2) ml_number_by mc_number_by mp_number_by
  have b_number_by := FF_number_by.binds (ps := ["self", "row"]) fun _ _ _ _ _ _ => lenS fun _ => lenS fun _ => lenZ rfl
  have MT_number_by : Meth K G_Machine "number_by" f_number_by := ⟨mf_number_by, mi_number_by, mp_number_by⟩
  have FF_next_given := fun_mk (st := inClass (top i_Machine) 3) ml_next_given mc_next_given mp_next_given
  have b_next_given := FF_next_given.binds (ps := ["self"]) fun _ _ _ _ _ _ => lenS fun _ => lenZ rfl
  have MT_next_given : Meth K G_Machine "next_given" f_next_given := ⟨mf_next_given, mi_next_given, mp_next_given⟩
  have FF_answer := fun_mk (st := inClass (top i_Machine) 4) ml_answer mc_answer mp_answer
  have b_answer := FF_answer.binds (ps := ["self", "how", "at"]) fun _ _ _ _ _ _ => lenS fun _ => lenS fun _ => lenS fun _ => lenZ rfl
  have MT_answer : Meth K G_Machine "answer" f_answer := ⟨mf_answer, mi_answer, mp_answer⟩
  have MKM : Mk K G_Machine f_init := ⟨m_mk, mf_init, mi_init, m_kg⟩
  have g_Machine := PySem.W.mg_of X G gn_Machine
  have F1 := fun_mk (st := top i_run_rows) l1 c1 k1
  have b1 := F1.binds (ps := ["program", "given", "steps"]) fun _ _ _ _ _ _ => lenS fun _ => lenS fun _ => lenS fun _ => lenZ rfl
  have F2 := fun_mk (st := top i_law_begin) l2 c2 k2
  have b2 := F2.binds (ps := ["_law_script"]) fun _ _ _ _ _ _ => lenS fun _ => lenZ rfl
  have F3 := fun_mk (st := top i_law_take) l3 c3 k3
  have b3 := F3.binds (ps := ["_law_state", "_law_many_here"]) fun _ _ _ _ _ _ => lenS fun _ => lenS fun _ => lenZ rfl
  have F4 := fun_mk (st := top i_law_program) l4 c4 k4
  have b4 := F4.binds (ps := ["_law_state", "_law_many_here"]) fun _ _ _ _ _ _ => lenS fun _ => lenS fun _ => lenZ rfl
  have F5 := fun_mk (st := top i_law_works) l5 c5 k5
  have b5 := F5.binds (ps := ["_law_given"]) fun _ _ _ _ _ _ => lenS fun _ => lenZ rfl
  have F6 := fun_mk (st := top i_law_work) l6 c6 k6
  have b6 := F6.binds (ps := ["_law_book", "_law_row"]) fun _ _ _ _ _ _ => lenS fun _ => lenS fun _ => lenZ rfl
  have F7 := fun_mk (st := top i_law_done) l7 c7 k7
  have b7 := F7.binds (ps := ["_law_book", "_law_program_here", "_law_at"]) fun _ _ _ _ _ _ => lenS fun _ => lenS fun _ => lenS fun _ => lenZ rfl
  have F8 := fun_mk (st := top i_law_ended) l8 c8 k8
  have b8 := F8.binds (ps := ["_law_program_here", "_law_at"]) fun _ _ _ _ _ _ => lenS fun _ => lenS fun _ => lenZ rfl
  have F9 := fun_mk (st := top i_law_stands) l9 c9 k9
  have b9 := F9.binds (ps := ["_law_program_here", "_law_given"]) fun _ _ _ _ _ _ => lenS fun _ => lenS fun _ => lenZ rfl
  have F10 := fun_mk (st := top i_law_many) l10 c10 k10
  have b10 := F10.binds (ps := ["_law_state"]) fun _ _ _ _ _ _ => lenS fun _ => lenZ rfl
  have F11 := fun_mk (st := top i_law_asking) l11 c11 k11
  have b11 := F11.binds (ps := ["_law_state", "_law_program_here"]) fun _ _ _ _ _ _ => lenS fun _ => lenS fun _ => lenZ rfl
  have F12 := fun_mk (st := top i_law_asked) l12 c12 k12
  have b12 := F12.binds (ps := ["_law_program_here", "_law_stands_here", "_law_steps"]) fun _ _ _ _ _ _ => lenS fun _ => lenS fun _ => lenS fun _ => lenZ rfl
  have F13 := fun_mk (st := top i_law_spoilt) l13 c13 k13
  have b13 := F13.binds (ps := ["_law_state", "_law_given", "_law_at"]) fun _ _ _ _ _ _ => lenS fun _ => lenS fun _ => lenS fun _ => lenZ rfl
  have F14 := fun_mk (st := top i_law_right) l14 c14 k14
  have b14 := F14.binds (ps := ["_law_state", "_law_program_here", "_law_given"]) fun _ _ _ _ _ _ => lenS fun _ => lenS fun _ => lenS fun _ => lenZ rfl
  have F15 := fun_mk (st := top i_law) l15 c15 k15
  refine ⟨PySem.W.fnOf "law" "law" (defArgs (top i_law)) (defBody (top i_law)) (defScope (top i_law)) .none kV15 dc15 pm15 an15 cd15 ct15, fun s v => .of_eq rfl, fun base hB hG => ?_⟩
  have F_init := ok_init (P := l.prog) (w := w) (mg := mg) (base := base) FF_init T MC g_SPOT_NAMES hSP
  have F_next := ok_next (P := l.prog) (w := w) (mg := mg) (base := base) FF_next_given T MC
  have F_numby := ok_numby (P := l.prog) (w := w) (mg := mg) (base := base) FF_number_by T MC v_GREATEST_NUMBER MT_next_given F_next b_next_given
  have F_jumps := ok_jumps (P := l.prog) (w := w) (mg := mg) (base := base) FF_jumps T MC MT_number_by F_numby b_number_by
  have F_answer := ok_answer (P := l.prog) (w := w) (mg := mg) (base := base) FF_answer T MC g_SPOT_NAMES hSP
  have fRun : Fn l.prog w K mg base 4 "run_rows" ["program", "given", "steps"] (spRun K) := ⟨f1, _, ok_run F1 T CM MKM g_Machine F_init b_init MT_jumps F_jumps b_jumps MT_answer F_answer b_answer, b1, k1, PySem.W.mg_of X G a1⟩
  have fBegin : Fn l.prog w K mg base 1 "_law_begin" ["_law_script"] (spBegin K) := ⟨f2, _, ok_begin F2 T, b2, k2, PySem.W.mg_of X G a2⟩
  have fTake : Fn l.prog w K mg base 1 "_law_take" ["_law_state", "_law_many_here"] (spTake) := ⟨f3, _, ok_take F3 T, b3, k3, PySem.W.mg_of X G a3⟩
  have fTk : Fn l.prog w K mg base 1 "_law_take" ["_law_state", "_law_many_here"] (spTk) := Fn.imp fTake (fun _ _ _ _ h => spTk_of h)
  have fProg : Fn l.prog w K mg base 2 "_law_program" ["_law_state", "_law_many_here"] (spProg K) := ⟨f4, _, ok_prog F4 T fTk, b4, k4, PySem.W.mg_of X G a4⟩
  have fWorks : Fn l.prog w K mg base 1 "_law_works" ["_law_given"] (spWorks K) := ⟨f5, _, ok_works F5 T, b5, k5, PySem.W.mg_of X G a5⟩
  have fWork : Fn l.prog w K mg base 1 "_law_work" ["_law_book", "_law_row"] (spWork K) := ⟨f6, _, ok_work F6 T, b6, k6, PySem.W.mg_of X G a6⟩
  have fDone : Fn l.prog w K mg base 2 "_law_done" ["_law_book", "_law_program_here", "_law_at"] (spDone K) := ⟨f7, _, ok_done F7 T fWork, b7, k7, PySem.W.mg_of X G a7⟩
  have fEnded : Fn l.prog w K mg base 1 "_law_ended" ["_law_program_here", "_law_at"] (spEnded K) := ⟨f8, _, ok_ended F8 T, b8, k8, PySem.W.mg_of X G a8⟩
  have fStands : Fn l.prog w K mg base 3 "_law_stands" ["_law_program_here", "_law_given"] (spStands K) := ⟨f9, _, ok_stands F9 T fWorks fEnded fDone, b9, k9, PySem.W.mg_of X G a9⟩
  have fMany : Fn l.prog w K mg base 2 "_law_many" ["_law_state"] (spMany) := ⟨f10, _, ok_many F10 T fTk, b10, k10, PySem.W.mg_of X G a10⟩
  have fAsking : Fn l.prog w K mg base 2 "_law_asking" ["_law_state", "_law_program_here"] (spAsking K) := ⟨f11, _, ok_asking F11 T fTk, b11, k11, PySem.W.mg_of X G a11⟩
  have fAsked : Fn l.prog w K mg base 1 "_law_asked" ["_law_program_here", "_law_stands_here", "_law_steps"] (spAsked K) := ⟨f12, _, ok_asked F12 T, b12, k12, PySem.W.mg_of X G a12⟩
  have fSpoilt : Fn l.prog w K mg base 2 "_law_spoilt" ["_law_state", "_law_given", "_law_at"] (spSpoilt K) := ⟨f13, _, ok_spoilt F13 T fTk, b13, k13, PySem.W.mg_of X G a13⟩
  have fRight : Fn l.prog w K mg base 5 "_law_right" ["_law_state", "_law_program_here", "_law_given"] (spRight K) := ⟨f14, _, ok_right F14 T fTk fStands fAsked fSpoilt fRun, b14, k14, PySem.W.mg_of X G a14⟩
  exact ok_law F15 T fBegin fTk fProg fMany fAsking fRight
theorem walk {l : PySem.W.OpenLaw} {q : Program} {loose : List Str} {XP : (Str → Option Value) → Heap → Prop} {YP : World → Heap → Prop} {d : DefRec} {K : Params → PySem.W.Frag} (hn : l.most = some 63) (hdf : d.params.defaults = [])
    (hY : ∀ (w : World) (h : Heap), YP w h → (K w.params).In h)
    (F : ∀ (w : World) (mg : Str → Option Value) (fa : Addr) (h : Heap), (K w.params).In h → h.Ns mainGlobals mg → mg d.name = some (.ref fa) →
      ∃ fd : FuncData, (∀ (s : Shared) (u : Value), BindsTo s fd ⟨[u], []⟩ [("_law_script", u)]) ∧ ∀ base : Heap, (K w.params).In base → base.Ns mainGlobals mg → FnOk l.prog w (K w.params) mg base CX0 6 fa fd ["_law_script"] (spLaw (K w.params))) :
    PySem.W.WalkO q loose XP YP l.row.toRowW d [] (fun f vs => PySem.call f vs) :=
  L2.walk_of (n := 63) (k := 6) (x := "_law_script") (CX := fun _ => CX0) (sp := fun w => spLaw (K w.params)) hn (by decide) hdf ⟨rfl, by decide, by decide, rfl⟩ hY F (fun _ _ a ns hl _ hS => ⟨a, ns, rfl, hS, hl, fun _ => rfl⟩) fun _ _ _ _ _ z => z
end Z
open PySem PySem.W PyProof.Rows L2
set_option maxRecDepth 100000 in
set_option maxHeartbeats 0 in
theorem PySem.Challenge.cw_oddlong_k45_numbers_given_holds : PySem.Challenge.rw_oddlong_k45_numbers_given.Holds := by
  w_on; o_law; k_head; (case hw => w_witness2)
  k_fill
  refine Z.walk (l := PySem.Challenge.rw_oddlong_k45_numbers_given) rfl rfl (fun w h Y => PySem.W.kIn_of Y) ?F
  case F =>
    intro w mg fa h KX G hmg
    refine' Z.all_mk KX G hmg ?a1 ?l1 ?c1 ?k1 ?a2 ?l2 ?c2 ?k2 ?a3 ?l3 ?c3 ?k3 ?a4 ?l4 ?c4 ?k4 ?a5 ?l5 ?c5 ?k5 ?a6 ?l6 ?c6 ?k6 ?a7 ?l7 ?c7 ?k7 ?a8 ?l8 ?c8 ?k8 ?a9 ?l9 ?c9 ?k9 ?a10 ?l10 ?c10 ?k10 ?a11 ?l11 ?c11 ?k11 ?a12 ?l12 ?c12 ?k12 ?a13 ?l13 ?c13 ?k13 ?a14 ?l14 ?c14 ?k14 ?a15 ?l15 ?c15 ?k15 ?gn_Machine ?vc0 ?gaS ?laS ?waS ?m_pg ?m_hd ?m_po ?m_sa ?m_mk ?m_kg ?m_na_numbers ?m_na_told ?m_na_given ?m_na_asked ?mf_init ?ml_init ?mc_init ?mp_init ?mi_init ?mf_jumps ?ml_jumps ?mc_jumps ?mp_jumps ?mi_jumps ?mf_number_by ?ml_number_by ?mc_number_by ?mp_number_by ?mi_number_by ?mf_next_given ?ml_next_given ?mc_next_given ?mp_next_given ?mi_next_given ?mf_answer ?ml_answer ?mc_answer ?mp_answer ?mi_answer ?z0 ?z1 ?z2 ?z3 ?z4 ?z5 ?z6 ?z7 ?z8 ?z9 ?z10 ?z11 ?z12 ?z13 ?z14 ?z15
    (case a1 => k_is); (case l1 => k_is); (case c1 => k_is); (case k1 => k_is); (case a2 => k_is); (case l2 => k_is); (case c2 => k_is); (case k2 => k_is)
    (case a3 => k_is); (case l3 => k_is); (case c3 => k_is); (case k3 => k_is); (case a4 => k_is); (case l4 => k_is); (case c4 => k_is); (case k4 => k_is)
    (case a5 => k_is); (case l5 => k_is); (case c5 => k_is); (case k5 => k_is); (case a6 => k_is); (case l6 => k_is); (case c6 => k_is); (case k6 => k_is)
    (case a7 => k_is); (case l7 => k_is); (case c7 => k_is); (case k7 => k_is); (case a8 => k_is); (case l8 => k_is); (case c8 => k_is); (case k8 => k_is)
    (case a9 => k_is); (case l9 => k_is); (case c9 => k_is); (case k9 => k_is); (case a10 => k_is); (case l10 => k_is); (case c10 => k_is); (case k10 => k_is)
    (case a11 => k_is); (case l11 => k_is); (case c11 => k_is); (case k11 => k_is); (case a12 => k_is); (case l12 => k_is); (case c12 => k_is); (case k12 => k_is)
    (case a13 => k_is); (case l13 => k_is); (case c13 => k_is); (case k13 => k_is); (case a14 => k_is); (case l14 => k_is); (case c14 => k_is); (case k14 => k_is)
    (case a15 => k_is); (case l15 => k_is); (case c15 => k_is); (case k15 => k_is); (case gn_Machine => k_is); (case vc0 => k_is); (case gaS => k_is); (case laS => k_is)
    (case waS => repeat (first | exact Paired.nil | refine Paired.cons ⟨_, rfl⟩ ?_)); (case m_pg => k_is); (case m_hd => k_is); (case m_po => k_is); (case m_sa => k_is); (case m_mk => k_is); (case m_kg => k_is); (case m_na_numbers => k_is)
    (case m_na_told => k_is); (case m_na_given => k_is); (case m_na_asked => k_is); (case mf_init => k_is); (case ml_init => k_is); (case mc_init => k_is); (case mp_init => k_is); (case mi_init => k_is)
    (case mf_jumps => k_is); (case ml_jumps => k_is); (case mc_jumps => k_is); (case mp_jumps => k_is); (case mi_jumps => k_is); (case mf_number_by => k_is); (case ml_number_by => k_is); (case mc_number_by => k_is)
    (case mp_number_by => k_is); (case mi_number_by => k_is); (case mf_next_given => k_is); (case ml_next_given => k_is); (case mc_next_given => k_is); (case mp_next_given => k_is); (case mi_next_given => k_is); (case mf_answer => k_is)
    (case ml_answer => k_is); (case mc_answer => k_is); (case mp_answer => k_is); (case mi_answer => k_is); (case z0 => k_is); (case z1 => k_is); (case z2 => k_is); (case z3 => k_is)
    (case z4 => k_is); (case z5 => k_is); (case z6 => k_is); (case z7 => k_is); (case z8 => k_is); (case z9 => k_is); (case z10 => k_is); (case z11 => k_is)
    (case z12 => k_is); (case z13 => k_is); (case z14 => k_is); (case z15 => k_is)
