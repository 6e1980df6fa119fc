import PyProof.Rows.All
import Wide.All
import OpenK.AllK
import Wide.FinOn
import PyProof.EqAt
import PyProof.EqKinds
import PyProof.TupleCall
import PyProof.DictCompW
import PyProof.Rows.SortWalk
import OpenK.KRaise
import PyProof.ExcClass2
import KE.KTryMore
import KE.KSortTup
import KE.KIsAll
import PyProof.ListRange
import PyProof.StrBlock2
import PyProof.Rows.SetFrom
import PyProof.SetRoads
import PyProof.ReprRoads
import PyProof.CallStr
import PyProof.Rows.SortStr
import KE.KSortKey
import KE.KMinKey
import PyProof.Rows.Range3
import PyProof.Rows.IntBool
import KE.KRevIter
import PyProof.MeetsSeq
import PyProof.MinMaxWalk
import PyProof.SliceStr2
import PyProof.P3Eq
import PyProof.Rows.StrLen
import PyProof.Rows.StrCase
import PyProof.InstStoreFacts
import PyProof.ExcInit
import PyProof.StrCalls
import PyProof.DictIter
import PyProof.DictWalks
import PyProof.AutoIntG2
import PyProof.DictItems
import PyProof.RulesTry
import PyProof.EnumMake
import PyProof.Draws
import PyProof.FactsAll.set_1
import PyProof.IsiH_list
import KE.KDictOf
import Lean
import PySem.Challenge.RW_oddlong_k18_readings_of_all_short_texts
set_option Elab.async false
set_option linter.all false
set_option maxRecDepth 100000
/-! THE HAND LAYER, for ints, bools, texts, own classes, LISTS and tuples (index, slices, in, append, pop ..), calls, loops. Paste it whole ahead of your own text; what your proof does not reach may be deleted. -/
namespace L2
/-! several things there are, with one constructor: what is said of them is stored once -/
set_option genSizeOf false
set_option genInjectivity false
inductive Ex2 {α0 α1 : Type} (P : α0 → α1 → Prop) : Prop | mk (x0 : α0) (x1 : α1) (h : P x0 x1) : Ex2 P
inductive Ex3 {α0 α1 α2 : Type} (P : α0 → α1 → α2 → Prop) : Prop | mk (x0 : α0) (x1 : α1) (x2 : α2) (h : P x0 x1 x2) : Ex3 P
inductive Ex4 {α0 α1 α2 α3 : Type} (P : α0 → α1 → α2 → α3 → Prop) : Prop | mk (x0 : α0) (x1 : α1) (x2 : α2) (x3 : α3) (h : P x0 x1 x2 x3) : Ex4 P
inductive Ex5 {α0 α1 α2 α3 α4 : Type} (P : α0 → α1 → α2 → α3 → α4 → Prop) : Prop | mk (x0 : α0) (x1 : α1) (x2 : α2) (x3 : α3) (x4 : α4) (h : P x0 x1 x2 x3 x4) : Ex5 P
set_option genSizeOf true
set_option genInjectivity true
end L2
namespace L2
open PySem PySem.Spec PyProof.Rows

/-- a key: an int or a str -/
noncomputable abbrev Key := Sum Int Str
noncomputable def keyIs : Key → Value → Bool
  | .inl k, v => Value.isInt k v
  | .inr x, v => Value.isStrOf x v
noncomputable def keyH (w : World) : Key → Int
  | .inl k => hashInt k
  | .inr x => hashStr w x
theorem keyIs_shape : ∀ {k : Key} {v : Value}, keyIs k v = true → (∃ i t, k = Sum.inl i ∧ v = Value.int i t) ∨ (∃ x t, k = Sum.inr x ∧ v = Value.str x t)
  | .inl i, v, h => by
    obtain ⟨t, e⟩ := Value.isInt_shape (k := i) (v := v) h
    exact .inl ⟨i, t, rfl, e⟩
  | .inr x, v, h => by
    obtain ⟨t, e⟩ := Value.isStrOf_shape (x := x) (v := v) h
    exact .inr ⟨x, t, rfl, e⟩
theorem keyIs_int (i : Int) (t : Tok) : keyIs (.inl i) (.int i t) = true := by simp [keyIs, Value.isInt]
theorem keyIs_str (x : Str) (t : Tok) : keyIs (.inr x) (.str x t) = true := by simp [keyIs, Value.isStrOf]
theorem key_ll (a b : Int) : decide ((Sum.inl a : Key) = Sum.inl b) = (a == b) := by
  by_cases e : a = b
  · subst e; simp
  · have h : ¬ (Sum.inl a : Key) = Sum.inl b := fun q => e (Sum.inl.inj q)
    rw [decide_eq_false h]
    exact (beq_eq_false_iff_ne.mpr e).symm
theorem key_rr (a b : Str) : decide ((Sum.inr a : Key) = Sum.inr b) = decide (a = b) := by
  by_cases e : a = b
  · subst e; simp
  · have h : ¬ (Sum.inr a : Key) = Sum.inr b := fun q => e (Sum.inr.inj q)
    rw [decide_eq_false h, decide_eq_false e]
theorem key_lr (a : Int) (b : Str) : decide ((Sum.inl a : Key) = Sum.inr b) = false := decide_eq_false (fun q => nomatch q)
theorem key_rl (a : Str) (b : Int) : decide ((Sum.inr a : Key) = Sum.inl b) = false := decide_eq_false (fun q => nomatch q)

noncomputable def mixKind (prog : Program) (w : World) : PySem.KeyKind prog w Key where
  is := keyIs
  hash := keyH w
  inj := fun v a b ha hb => by
    rcases keyIs_shape ha with ⟨i, t, rfl, rfl⟩ | ⟨x, t, rfl, rfl⟩
    · rcases keyIs_shape hb with ⟨j, u, rfl, e⟩ | ⟨y, u, rfl, e⟩
      · injection e with e1 _; rw [e1]
      · exact nomatch e
    · rcases keyIs_shape hb with ⟨j, u, rfl, e⟩ | ⟨y, u, rfl, e⟩
      · exact nomatch e
      · injection e with e1 _; rw [e1]
  byValue := fun k v h => by
    rcases keyIs_shape h with ⟨i, t, rfl, rfl⟩ | ⟨x, t, rfl, rfl⟩ <;> rfl
  pyHash := fun hv h => by
    rcases keyIs_shape hv with ⟨i, t, rfl, rfl⟩ | ⟨x, t, rfl, rfl⟩
    · exact wpAny_pyHash_int h
    · exact wpAny_pyHash_str h
  eqBool := fun hu hv h => by
    rcases keyIs_shape hu with ⟨i, t, rfl, rfl⟩ | ⟨x, t, rfl, rfl⟩
    · rcases keyIs_shape hv with ⟨j, u, rfl, rfl⟩ | ⟨y, u, rfl, rfl⟩
      · rw [key_ll] at h; exact wpAny_eqBool_int h
      · rw [key_lr] at h; exact SeqAt.EqAt.int_str i t y u _ _ _ _ h
    · rcases keyIs_shape hv with ⟨j, u, rfl, rfl⟩ | ⟨y, u, rfl, rfl⟩
      · rw [key_rl] at h; exact SeqAt.EqAt.str_int x t j u _ _ _ _ h
      · rw [key_rr] at h; exact wpAny_eqBool_str h
  «strs» := fun k x t v h => by
    rcases keyIs_shape h with ⟨i, u, rfl, e⟩ | ⟨y, u, rfl, e⟩
    · exact nomatch e
    · injection e with e1 _
      subst e1
      cases v <;> rfl

theorem mixKind_int (prog : Program) (w : World) (i : Int) (t : Tok) : (mixKind prog w).is (.inl i) (.int i t) = true := keyIs_int i t
theorem mixKind_str (prog : Program) (w : World) (x : Str) (t : Tok) : (mixKind prog w).is (.inr x) (.str x t) = true := keyIs_str x t
end L2

namespace L2
open PySem PySem.Spec PyProof.Rows

/-- a value, without the heap -/
inductive V where
  | non | bl (b : Bool) | int (i : Int) | str (x : Str) | byt (b : Array UInt8) | flt (b : UInt64) | ref (a : Addr) | ty (n : String)
  deriving DecidableEq

noncomputable def RelV : V → Value → Prop
  | .non, u => u = Value.none
  | .bl b, u => u = Value.bool b
  | .int i, u => ∃ t, u = Value.int i t
  | .str x, u => ∃ t, u = Value.str x t
  | .byt b, u => ∃ t, u = Value.bytes b t
  | .flt b, u => ∃ t, u = Value.float b t
  | .ref a, u => u = Value.ref a
  | .ty n, u => u = Value.type n

noncomputable abbrev Vals : List V → List Value → Prop := Paired RelV
theorem Vals.length {xs : List V} {us : List Value} (r : Vals xs us) : xs.length = us.length := Paired.length r
theorem Vals.get : ∀ {xs : List V} {us : List Value} {i : Nat} {x : V}, Vals xs us → xs[i]? = some x → ∃ u, us[i]? = some u ∧ RelV x u
  | _, _, _, _, .nil, e => by simp at e
  | _, _, 0, _, .cons r _, e => by simp at e; subst e; exact ⟨_, rfl, r⟩
  | _, _, i + 1, x, .cons _ t, e => by
    obtain ⟨u, h1, h2⟩ := Vals.get (i := i) (x := x) t (by simpa using e)
    exact ⟨u, by simpa using h1, h2⟩
theorem Vals.set {x : V} {u : Value} (r : RelV x u) : ∀ {xs : List V} {us : List Value} (i : Nat), Vals xs us → Vals (xs.set i x) (us.set i u)
  | _, _, _, .nil => .nil
  | _, _, 0, .cons _ t => .cons r t
  | _, _, i + 1, .cons q t => .cons q (Vals.set r i t)
theorem Vals.append {xs ys : List V} {us ws : List Value} (h : Vals xs us) (s : Vals ys ws) : Vals (xs ++ ys) (us ++ ws) := by
  induction h with
  | nil => exact s
  | cons r t ih => exact .cons r ih
theorem Vals.take : ∀ {xs : List V} {us : List Value} (n : Nat), Vals xs us → Vals (xs.take n) (us.take n)
  | _, _, 0, _ => .nil
  | _, _, _ + 1, .nil => .nil
  | _, _, n + 1, .cons r t => .cons r (Vals.take n t)
theorem Vals.drop : ∀ {xs : List V} {us : List Value} (n : Nat), Vals xs us → Vals (xs.drop n) (us.drop n)
  | _, _, 0, r => r
  | _, _, _ + 1, .nil => .nil
  | _, _, n + 1, .cons _ t => Vals.drop n t
noncomputable def RelO : Option V → Option Value → Prop
  | some v, some u => RelV v u
  | none, none => True
  | _, _ => False
noncomputable def KV {κ : Type} : List (κ × V) → List (κ × Value) → Prop := Paired fun (p : κ × V) (q : κ × Value) => p.1 = q.1 ∧ RelV p.2 q.2

/-- a key of a dict (00_mix): an int or a text -/
noncomputable def kV : Key → V
  | .inl i => .int i
  | .inr x => .str x

/-- what stands at a tracked address -/
inductive HO where
  /-- a list -/
  | lst (xs : List V)
  /-- a tuple (never changes) -/
  | tup (xs : List V)
  /-- a dict whose keys are ints and texts; one whose keys are tuples of ints and texts (the empty one is both) -/
  | dK (kvs : List (Key × V)) | dT (kvs : List (List Key × V))
  /-- a set of ints: its members, its size -/
  | set (S : Int → Bool) (n : Nat)
  /-- an instance of the class at C, its dict at dx, its attributes -/
  | ins (C dx : Addr) (fs : List (Str × V))
  /-- the dict of the instance at x -/
  | own (x : Addr)
  /-- the dict of an exception -/
  | xd (fs : List (Str × V))
  /-- a bound method, f of x -/
  | met (f x : Addr)
  /-- a range object lo, lo + 1, .. below hi -/
  | rng (lo hi : Int)
  /-- a thing that is known to the object (the script; a dict while a loop walks it): read, never written while it is so -/
  | frz (o : Obj) (u : HO)
  /-- a code object's table -/
  | tbl (ps : Array Value)
  /-- any other thing, by what is true of its one object (a def of one's own: SetO a S n := HO.ext fun h => ..) -/
  | ext (φ : Heap → Prop)

noncomputable abbrev Hp := Addr → Option HO
noncomputable def upd (H : Hp) (a : Addr) (o : HO) : Hp := fun b => if b = a then some o else H b
theorem upd_same {H : Hp} {a : Addr} {o : HO} : upd H a o a = some o := by unfold upd; rw [if_pos rfl]
theorem upd_ne {H : Hp} {a b : Addr} {o : HO} (h : b ≠ a) : upd H a o b = H b := by unfold upd; rw [if_neg h]
/-- two objects of different content stand apart -/
theorem ne_of {H : Hp} {a b : Addr} {o u : HO} (h : H a = some o) (h' : H b = some u) (d : o ≠ u) : a ≠ b := by
  intro e; subst e; rw [h] at h'; exact d (Option.some.inj h')
theorem ne_of_none {H : Hp} {a b : Addr} {o : HO} (h : H a = some o) (h' : H b = none) : a ≠ b := by
  intro e; subst e; rw [h] at h'; cases h'

section
variable (P : Program) (w : World)
noncomputable def ObjOk (H : Hp) (h : Heap) (a : Addr) : HO → Prop
  | .lst xs => xs.length ≤ sizeLine ∧ Ex2 fun (its : List Value) (n : Nat) => Vals xs its ∧ h.get? a = some { cls := .type "list", data := .seq its.toArray n }
  | .tup xs => xs.length ≤ sizeLine ∧ ∃ its : List Value, Vals xs its ∧ IsTup h a its.toArray
  | .dK kvs => kvs.length ≤ sizeLine ∧ (a == sysModules) = false ∧ ∃ vs, KV kvs vs ∧ h.DictOf (mixKind P w) a vs
  | .dT kvs => kvs.length ≤ sizeLine ∧ (a == sysModules) = false ∧ ∃ xs : List (List Key × Addr × Value),
      Paired (fun (p : List Key × V) (q : List Key × Addr × Value) => p.1 = q.1 ∧ H q.2.1 = some (.tup (p.1.map kV)) ∧ RelV p.2 q.2.2) kvs xs ∧
      Ex3 fun o es ep => h.get? a = some o ∧ o.ExactDict ∧ o.data = .dict es ep ∧ es.toList = xs.map (entryOfKey (tupleKind (mixKind P w))) ∧ (xs.map (·.1)).Nodup
  | .set S n => h.SetOf (intKind P w) a S n
  | .ins C dx fs => H dx = some (.own a) ∧ fs.length ≤ 1000 ∧ dx ≠ a ∧ h.get? a = some (PySem.W.instObj C dx) ∧
      ∃ mA, h.Ns1 dx mA ∧ (∀ f, RelO (fs.lookup f) (mA f)) ∧ PySem.Within mA (fs.map (·.1))
  | .own _ => ∃ o, h.get? a = some o
  | .xd fs => ∃ mA, h.Ns1 a mA ∧ ∀ f, RelO (fs.lookup f) (mA f)
  | .rng lo hi => Ex3 fun t u v => h.get? a = some { cls := .type "range", data := .fields #[.int lo t, .int hi u, .int 1 v] }
  | .frz o u => h.get? a = some o ∧ ObjOk H h a u
  | .tbl ps => h.get? a = some { cls := .none, data := .fields ps }
  | .met f x => h.get? a = some (PySem.W.methodObj (.ref f) (.ref x))
  | .ext φ => φ h ∧ (∃ o, h.get? a = some o) ∧ ∀ h1 h2 : Heap, φ h1 → (∀ o, h1.get? a = some o → h2.get? a = some o) → φ h2
/-- the abstract heap is held -/
noncomputable def HOk (H : Hp) (h : Heap) : Prop := ∀ a o, H a = some o → ObjOk P w H h a o
end

section
variable {P : Program} {w : World} {H H' : Hp} {h h' : Heap} {a : Addr} {o : HO}
theorem ObjOk.lt (x : ObjOk P w H h a o) : a < h.objs.size := by
  cases o with
  | lst xs => obtain ⟨_, _, _, _, e⟩ := x; exact Heap.lt_size e
  | tup xs => obtain ⟨_, _, _, p⟩ := x; exact p.lt
  | dK kvs => obtain ⟨_, _, _, _, o, _, _, e, _⟩ := x; exact Heap.lt_size e
  | dT kvs => obtain ⟨_, _, _, _, o, _, _, e, _⟩ := x; exact Heap.lt_size e
  | set S n => obtain ⟨o, _, _, _, e, _⟩ := x; exact Heap.lt_size e
  | ins C dx fs => obtain ⟨_, _, _, e, _⟩ := x; exact Heap.lt_size e
  | own y => obtain ⟨_, e⟩ := x; exact Heap.lt_size e
  | xd fs => obtain ⟨_, ⟨_, _, _, e, _⟩, _⟩ := x; exact Heap.lt_size e
  | rng lo hi => obtain ⟨_, _, _, e⟩ := x; exact Heap.lt_size e
  | frz ob u => obtain ⟨e, _⟩ := x; exact Heap.lt_size e
  | tbl ps => exact Heap.lt_size (show h.get? a = some _ from x)
  | met f y => exact Heap.lt_size (show h.get? a = some _ from x)
  | ext φ => obtain ⟨_, ⟨_, e⟩, _⟩ := x; exact Heap.lt_size e
theorem Paired.mapP {α β : Type} {F G : α → β → Prop} {l₁ : List α} {l₂ : List β} (h : Paired F l₁ l₂) (f : ∀ a b, F a b → G a b) : Paired G l₁ l₂ := by
  induction h with
  | nil => exact .nil
  | cons r t ih => exact .cons (f _ _ r) ih
/-- what an object's description leans on: its own object, its own dict, the tuples -/
theorem ObjOk.stay (x : ObjOk P w H h a o) (k : ∀ b u, (b = a ∨ H b = some (.own a)) → h.get? b = some u → h'.get? b = some u)
    (ho : ∀ b, H b = some (.own a) → H' b = some (.own a)) (ht : ∀ b xs, H b = some (.tup xs) → H' b = some (.tup xs)) : ObjOk P w H' h' a o := by
  induction o with
  | lst xs => obtain ⟨z, its, n, r, e⟩ := x; exact ⟨z, its, n, r, k _ _ (.inl rfl) e⟩
  | tup xs => obtain ⟨z, its, r, ob, e, c⟩ := x; exact ⟨z, its, r, ob, k _ _ (.inl rfl) e, c⟩
  | dK kvs => obtain ⟨z, y, vs, r, ob, es, ep, e, c⟩ := x; exact ⟨z, y, vs, r, ob, es, ep, k _ _ (.inl rfl) e, c⟩
  | dT kvs =>
    obtain ⟨z, y, xs, r, ob, es, ep, e, c⟩ := x
    exact ⟨z, y, xs, Paired.mapP r fun p q z => ⟨z.1, ht _ _ z.2.1, z.2.2⟩, ob, es, ep, k _ _ (.inl rfl) e, c⟩
  | set S n => obtain ⟨ob, es, ep, t, e, c⟩ := x; exact ⟨ob, es, ep, t, k _ _ (.inl rfl) e, c⟩
  | ins C dx fs =>
    obtain ⟨d, z, ne, e, mA, ⟨od, es, ep, e2, c⟩, r⟩ := x
    exact ⟨ho _ d, z, ne, k _ _ (.inl rfl) e, mA, ⟨od, es, ep, k _ _ (.inr d) e2, c⟩, r⟩
  | own y => obtain ⟨ob, e⟩ := x; exact ⟨ob, k _ _ (.inl rfl) e⟩
  | xd fs => obtain ⟨mA, ⟨od, es, ep, e, c⟩, r⟩ := x; exact ⟨mA, ⟨od, es, ep, k _ _ (.inl rfl) e, c⟩, r⟩
  | rng lo hi => obtain ⟨t, u, v, e⟩ := x; exact ⟨t, u, v, k _ _ (.inl rfl) e⟩
  | frz ob u ih => obtain ⟨e, q⟩ := x; exact ⟨k _ _ (.inl rfl) e, ih q⟩
  | tbl ps =>
    have e : h.get? a = some { cls := .none, data := .fields ps } := x
    show h'.get? a = some { cls := .none, data := .fields ps }
    exact k a _ (.inl rfl) e
  | met f y =>
    have e : h.get? a = some (PySem.W.methodObj (.ref f) (.ref y)) := x
    show h'.get? a = some (PySem.W.methodObj (.ref f) (.ref y))
    exact k a _ (.inl rfl) e
  | ext φ => obtain ⟨p, ⟨o, e⟩, st⟩ := x; exact ⟨st _ _ p fun o q => k _ _ (.inl rfl) q, ⟨o, k _ _ (.inl rfl) e⟩, st⟩
theorem HOk.lt (x : HOk P w H h) (e : H a = some o) : a < h.objs.size := (x a o e).lt
theorem HOk.fresh (x : HOk P w H h) (e : h.objs.size ≤ a) : H a = none := by
  cases q : H a with
  | none => rfl
  | some u => exact absurd (Nat.lt_of_lt_of_le (x.lt q) e) (Nat.lt_irrefl _)
/-- every object of the heap is kept -/
theorem HOk.kept (x : HOk P w H h) (k : ∀ b u, h.get? b = some u → h'.get? b = some u) : HOk P w H h' := fun a o e =>
  (x a o e).stay (fun b u _ q => k b u q) (fun _ q => q) fun _ _ q => q
/-- a new object is laid and tracked -/
theorem HOk.laid (x : HOk P w H h) (k : ∀ b u, h.get? b = some u → h'.get? b = some u) (hp : h.objs.size ≤ a) (new : ObjOk P w (upd H a o) h' a o) : HOk P w (upd H a o) h' := fun b u e => by
  have hn := x.fresh hp
  by_cases hb : b = a
  · subst hb; rw [upd_same] at e; cases e; exact new
  · rw [upd_ne hb] at e
    exact (x b u e).stay (fun c v _ q => k c v q) (fun c q => by rw [upd_ne (ne_of_none q hn)]; exact q) fun c xs q => by rw [upd_ne (ne_of_none q hn)]; exact q
end

/-- what may be read as u: it is u, or a known u -/
noncomputable def Rd (H : Hp) (a : Addr) (u : HO) : Prop := H a = some u ∨ ∃ o, H a = some (.frz o u)
theorem Rd.ok {P : Program} {w : World} {H : Hp} {h : Heap} {a : Addr} {u : HO} (r : Rd H a u) (x : HOk P w H h) : ObjOk P w H h a u := by
  rcases r with r | ⟨o, r⟩
  · exact x a u r
  · obtain ⟨_, q⟩ := x a _ r
    exact q
/-- what may be written -/
noncomputable def Mut : Option HO → Prop
  | some (.lst _) => True
  | some (.dK _) => True
  | some (.dT _) => True
  | some (.set _ _) => True
  | some (.ins _ _ _) => True
  | some (.ext _) => True
  | _ => False
section
variable {P : Program} {w : World} {H : Hp} {h h' : Heap} {x e : Addr} {o' : HO}
/-- the object at e is changed: x itself, or the dict of the instance x -/
theorem HOk.write (ok : HOk P w H h) (mu : Mut (H x)) (he : e = x ∨ H e = some (.own x)) (k : ∀ b u, b ≠ e → h.get? b = some u → h'.get? b = some u) (heo : ∃ u, h'.get? e = some u)
    (new : ObjOk P w (upd H x o') h' x o') : HOk P w (upd H x o') h' := fun b u q => by
  have nown : ∀ c y, H c = some (.own y) → c ≠ x := fun c y r z => by subst z; rw [r] at mu; exact mu
  have ntup : ∀ c xs, H c = some (.tup xs) → c ≠ x := fun c xs r z => by subst z; rw [r] at mu; exact mu
  by_cases hb : b = x
  · subst hb; rw [upd_same] at q; cases q; exact new
  · rw [upd_ne hb] at q
    by_cases hbe : b = e
    · have q' : H b = some (.own x) := by
        rcases he with z | z
        · exact absurd (hbe.trans z) hb
        · rw [hbe]; exact z
      rw [q] at q'; cases q'
      obtain ⟨v, hv⟩ := heo
      exact ⟨v, by rw [hbe]; exact hv⟩
    · refine (ok b u q).stay (fun c v hc r => k c v ?_ r) (fun c r => by rw [upd_ne (nown c b r)]; exact r) fun c xs r => by rw [upd_ne (ntup c xs r)]; exact r
      rcases hc with rfl | hc
      · exact hbe
      · rintro rfl
        rcases he with z | z
        · exact nown c b hc z
        · rw [hc] at z; cases z; exact hb rfl
end

/-! ### kept unless tracked; of the frames at fs (the callers') the slots may change (an exception that passes writes there); of the records at ex (iterators) nothing is said -/
structure Un (fs ex : List Addr) (H H' : Hp) (h h' : Heap) : Prop where
  keep : ∀ b o, h.get? b = some o → H b = none → b ∉ fs → b ∉ ex → h'.get? b = some o
  slot : ∀ b o, h.get? b = some o → H b = none → b ∈ fs → b ∉ ex → ∃ sl, h'.get? b = some { o with slots := sl }
  free : ∀ b o, h.get? b = some o → H b = none → b ∉ ex → H' b = none
  there : ∀ b o, h.get? b = some o → b ∉ ex → ∃ o', h'.get? b = some o'
  tups : ∀ b xs, H b = some (.tup xs) → H' b = some (.tup xs)
  frzs : ∀ b o u, H b = some (.frz o u) → H' b = some (.frz o u)
  tbls : ∀ b ps, H b = some (.tbl ps) → ∃ more, H' b = some (.tbl (ps ++ more))
section
variable {fs fs' ex ex' : List Addr} {H H1 H2 : Hp} {h h1 h2 h' : Heap} {a x e : Addr} {o : HO}
theorem Un.any (u : Un fs ex H H1 h h1) {b : Addr} {ob : Obj} (q : h.get? b = some ob) (n : H b = none) (hx : b ∉ ex) : ∃ sl, h1.get? b = some { ob with slots := sl } := by
  by_cases hb : b ∈ fs
  · exact u.slot b ob q n hb hx
  · exact ⟨ob.slots, u.keep b ob q n hb hx⟩
theorem Un.trans (a : Un fs ex H H1 h h1) (b : Un fs ex H1 H2 h1 h2) : Un fs ex H H2 h h2 where
  keep := fun c ob q n hc hx => b.keep c ob (a.keep c ob q n hc hx) (a.free c ob q n hx) hc hx
  slot := fun c ob q n hc hx => by
    obtain ⟨sl, e1⟩ := a.slot c ob q n hc hx
    obtain ⟨sl', e2⟩ := b.slot c _ e1 (a.free c ob q n hx) hc hx
    exact ⟨sl', e2⟩
  free := fun c ob q n hx => by
    obtain ⟨o', e1⟩ := a.there c ob q hx
    exact b.free c o' e1 (a.free c ob q n hx) hx
  there := fun c ob q hx => by
    obtain ⟨o', e1⟩ := a.there c ob q hx
    exact b.there c o' e1 hx
  tups := fun c xs q => b.tups c xs (a.tups c xs q)
  frzs := fun c ob xs q => b.frzs c ob xs (a.frzs c ob xs q)
  tbls := fun c ps q => by
    obtain ⟨m1, e1⟩ := a.tbls c ps q
    obtain ⟨m2, e2⟩ := b.tbls c _ e1
    exact ⟨m1 ++ m2, by rw [e2, Array.append_assoc]⟩
theorem Un.kept (k : ∀ b u, h.get? b = some u → h'.get? b = some u) : Un fs ex H H h h' :=
  ⟨fun b ob q _ _ _ => k b ob q, fun b ob q _ _ _ => ⟨ob.slots, k b ob q⟩, fun _ _ _ n _ => n, fun b ob q _ => ⟨ob, k b ob q⟩, fun _ _ q => q, fun _ _ _ q => q, fun _ ps q => ⟨#[], by rw [q]; simp⟩⟩
theorem Un.refl : Un fs ex H H h h := Un.kept fun _ _ q => q
theorem Un.laid (k : ∀ b u, h.get? b = some u → h'.get? b = some u) (hp : h.objs.size ≤ a) (hn : H a = none) : Un fs ex H (upd H a o) h h' where
  keep := fun b u q _ _ _ => k b u q
  slot := fun b u q _ _ _ => ⟨u.slots, k b u q⟩
  free := fun b u q n _ => by rw [upd_ne (Nat.ne_of_lt (Nat.lt_of_lt_of_le (Heap.lt_size q) hp))]; exact n
  there := fun b u q _ => ⟨u, k b u q⟩
  tups := fun b xs q => by rw [upd_ne (ne_of_none q hn)]; exact q
  frzs := fun b u xs q => by rw [upd_ne (ne_of_none q hn)]; exact q
  tbls := fun b ps q => ⟨#[], by rw [upd_ne (ne_of_none q hn), q]; simp⟩
theorem Un.write (mu : Mut (H x)) (he : e = x ∨ H e = some (.own x)) (k : ∀ b u, b ≠ e → h.get? b = some u → h'.get? b = some u) (heo : ∃ u, h'.get? e = some u) : Un fs ex H (upd H x o) h h' := by
  have hx : ∀ b, H b = none → b ≠ x := fun b n z => by subst z; rw [n] at mu; exact mu
  have hb : ∀ b, H b = none → b ≠ e := fun b n z => by
    subst z
    rcases he with r | r
    · exact hx b n r
    · rw [n] at r; cases r
  have hm : ∀ b u, H b = some u → ¬ Mut (some u) → b ≠ x := fun b u q nm z => by subst z; rw [q] at mu; exact nm mu
  refine ⟨fun b u q n _ _ => k b u (hb b n) q, fun b u q n _ _ => ⟨u.slots, k b u (hb b n) q⟩, fun b u q n _ => by rw [upd_ne (hx b n)]; exact n, fun b u q _ => ?_,
    fun b xs q => by rw [upd_ne (hm b _ q fun z => z)]; exact q, fun b u xs q => by rw [upd_ne (hm b _ q fun z => z)]; exact q, fun b ps q => ⟨#[], by rw [upd_ne (hm b _ q fun z => z), q]; simp⟩⟩
  by_cases hbe : b = e
  · subst hbe; exact heo
  · exact ⟨u, k b u hbe q⟩
end

/-! ### the heap without what is tracked -/
noncomputable def trk (h : Heap) (H : Hp) : List Addr := (List.range h.objs.size).filter fun a => (H a).isSome
noncomputable def hidT (h : Heap) (H : Hp) : Heap := PySem.W.hideAll h (trk h H)
theorem hidT_size (h : Heap) (H : Hp) : (hidT h H).objs.size = h.objs.size := PySem.W.hideAll_size _ _
theorem hidT_get {h : Heap} {H : Hp} {b : Addr} {o : Obj} (e : h.get? b = some o) (n : H b = none) : (hidT h H).get? b = some o :=
  PySem.W.hideAll_get _ e fun hm => by
    have q : (H b).isSome = true := (List.mem_filter.mp hm).2
    rw [n] at q; simp at q
theorem of_hidT {h : Heap} {H : Hp} {b : Addr} {o : Obj} (e : (hidT h H).get? b = some o) : h.get? b = some o ∧ H b = none := by
  have e' : h.get? b = some o := PySem.W.of_hideAll (trk h H) e
  refine ⟨e', ?_⟩
  cases q : H b with
  | none => rfl
  | some x =>
    have hm : b ∈ trk h H := List.mem_filter.mpr ⟨List.mem_range.mpr (Heap.lt_size e'), by simp [q]⟩
    have z : (hidT h H).get? b = none := PySem.W.hideAll_none (trk h H) hm
    rw [z] at e; cases e

/-! ### OpenK's ledger, filled with every new object but one -/
end L2

namespace L2
open PySem PySem.Spec PyProof.Rows

/-- the module's facts, over the base: the heap at the law's entry without what is tracked there -/
structure Mod (K : PySem.W.Frag) (mg : Str → Option Value) (base : Heap) : Prop where
  kin : K.In base
  glob : base.Ns mainGlobals mg
  blt : ∃ mb, base.Ns builtinsNs mb ∧ ∀ x : Str, x ≠ "__name__" → mb x = bootBuiltins x
  nolimit : base.NoLimit

/-- the context: a def's body (or a comprehension's block) running. base: fixed through the whole law; s₀, H₀: the entry; outer: the frames whose slots others may change (a def's callers); stack: all frames that run;
   ex: iterators that were made ahead of the entry and are walked here (a comprehension's); fn: the names whose cells were made at the entry (a def: all; a comprehension's block: its own); calm: not within an except suite; pn: pins that every state bears; xe: what is wanted of an exception that leaves the code -/
structure Cx where
  prog : Program
  w : World
  K : PySem.W.Frag
  mg : Str → Option Value
  base : Heap
  A : Around
  N : List Str
  s₀ : Shared
  H₀ : Hp
  env : Env
  outer : List Env
  stack : List Env
  ex : List Addr
  fn : Str → Bool
  calm : Bool
  pn : List (Addr × Obj)
  xe : Value → Shared → Prop
/-- the callers' frames -/
noncomputable def frs (l : List Env) : List Addr := l.filterMap (·.frame)
noncomputable abbrev Cx.fs (X : Cx) : List Addr := frs X.outer

noncomputable def Vis (sc : Scope) (x : Str) : Prop := sc.names.lookup x = some .local ∨ sc.names.lookup x = some .cell ∨ sc.names.lookup x = some .free
noncomputable def Loc (sc : Scope) (x : Str) : Prop := sc.names.lookup x = some .local ∨ sc.names.lookup x = some .cell
noncomputable def Look (env : Env) (h : Heap) (m : Str → Option Value) (x : Str) (u : Value) : Prop :=
  (env.kindOf x = some .local ∧ m x = some u) ∨ ((env.kindOf x = some .cell ∨ env.kindOf x = some .free) ∧ ∃ c, env.cells.lookup x = some c ∧ h.IsCell c (some u))

structure Cx.Ok (X : Cx) : Prop where
  mod : Mod X.K X.mg X.base
  kind : X.env.scope.kind = .function
  glob : X.env.globals = mainGlobals
  blt : X.env.builtins = builtinsNs
  above : X.s₀.heap.objs.size ≤ X.env.locals
  inj : ∀ x y c, X.env.cells.lookup x = some c → X.env.cells.lookup y = some c → x = y
  has : ∀ x, (X.env.kindOf x = some .cell ∨ X.env.kindOf x = some .free) → ∃ c, X.env.cells.lookup x = some c
  cab : ∀ x c, X.fn x = true → X.env.cells.lookup x = some c → X.s₀.heap.objs.size ≤ c
  hd : X.calm = true → X.A.handled = none
  frames : X.A.frames = some X.stack
  stk : X.stack = X.outer ∨ (X.stack = X.env :: X.outer ∧ X.env.frame = some X.env.locals)
  exf : ∀ b ∈ X.ex, b ≠ X.env.locals ∧ ∀ x c, X.env.cells.lookup x = some c → c ≠ b
  bs : ∀ b o, X.base.get? b = some o → X.s₀.heap.get? b = some o ∧ X.H₀ b = none
  bsz : X.base.objs.size ≤ X.s₀.heap.objs.size
  noex : ∀ b o, X.base.get? b = some o → b ∉ X.ex
  exfs : ∀ b ∈ X.ex, b ∉ X.fs
  funs : X.s₀.heap.FunFrames X.base X.outer
  frf : ∀ b ∈ X.fs, X.H₀ b = none

structure Inv (X : Cx) (pins : List (Addr × Obj)) (σ : List (Option V)) (H : Hp) (s : Shared) : Prop where
  ok : X.Ok
  os : s.os = X.s₀.os
  bare : AllBare s.gens
  base : Un X.fs X.ex X.H₀ H X.s₀.heap s.heap
  loc : ∃ m, s.heap.Ns X.env.locals m ∧ ∀ (i : Nat) (x : Str) (v : V), X.N[i]? = some x → σ[i]? = some (some v) → Vis X.env.scope x → ∃ u, RelV v u ∧ Look X.env s.heap m x u
  cell : ∀ x c, X.env.cells.lookup x = some c → ∃ v, s.heap.IsCell c v
  free : H X.env.locals = none
  freeC : ∀ x c, X.env.cells.lookup x = some c → H c = none
  pin : ∀ p ∈ X.pn ++ pins, s.heap.get? p.1 = some p.2 ∧ H p.1 = none ∧ p.1 ≠ X.env.locals ∧ p.1 ∉ X.fs ∧ ∀ v, p.2.data ≠ .cell v
  hok : HOk X.prog X.w H s.heap
  len : σ.length = X.N.length

section
variable {X : Cx} {pins : List (Addr × Obj)} {σ : List (Option V)} {H H' : Hp} {s : Shared} {h' : Heap}

theorem Cx.Ok.nofr (ok : X.Ok) {b : Addr} {o : Obj} (e : X.base.get? b = some o) : b ∉ X.fs := fun hb => by
  have := (ok.funs.mem hb).1
  rw [e] at this; cases this
theorem Inv.bs (I : Inv X pins σ H s) : ∀ b o, X.base.get? b = some o → s.heap.get? b = some o ∧ H b = none := fun b o e =>
  ⟨I.base.keep b o (I.ok.bs b o e).1 (I.ok.bs b o e).2 (I.ok.nofr e) (I.ok.noex b o e), I.base.free b o (I.ok.bs b o e).1 (I.ok.bs b o e).2 (I.ok.noex b o e)⟩
theorem Inv.bk (I : Inv X pins σ H s) : ∀ b o, X.base.get? b = some o → s.heap.get? b = some o := fun b o e => (I.bs b o e).1
theorem Inv.mod (I : Inv X pins σ H s) : Mod X.K X.mg X.base := I.ok.mod
theorem Inv.kIn (I : Inv X pins σ H s) : X.K.In s.heap := I.ok.mod.kin.keeps I.bk
theorem Inv.lt (I : Inv X pins σ H s) : X.env.locals < s.heap.objs.size := let ⟨_, hn, _⟩ := I.loc; hn.lt
theorem Inv.sz (I : Inv X pins σ H s) : X.s₀.heap.objs.size ≤ s.heap.objs.size := Nat.le_trans I.ok.above (Nat.le_of_lt I.lt)
theorem Inv.nofs (I : Inv X pins σ H s) {a : Addr} (h : s.heap.objs.size ≤ a) : a ∉ X.fs := fun hb => by
  obtain ⟨_, o, ho, _⟩ := I.ok.funs.mem hb
  exact absurd (Nat.lt_of_lt_of_le (Heap.lt_size ho) (Nat.le_trans I.sz h)) (Nat.lt_irrefl _)
theorem Inv.cne (I : Inv X pins σ H s) : ∀ x c, X.env.cells.lookup x = some c → c ≠ X.env.locals := fun x c e z => by
  obtain ⟨v, o, ho, hd⟩ := I.cell x c e
  obtain ⟨m, ⟨o', es, ep, ho', hd', _⟩, _⟩ := I.loc
  rw [z, ho'] at ho; cases ho; rw [hd'] at hd; cases hd
theorem Inv.funs (I : Inv X pins σ H s) : s.heap.FunFrames X.base X.outer := by
  have all : ∀ (l : List Env), (∀ b ∈ frs l, b ∈ X.fs) → X.s₀.heap.FunFrames X.base l → s.heap.FunFrames X.base l := by
    intro l
    induction l with
    | nil => intro _ _; trivial
    | cons env r ih =>
      intro hs hl
      obtain ⟨hk, ⟨L, o, hf, hn, ho, hd⟩, hr⟩ := hl
      have hL : L ∈ X.fs := hs L (by unfold frs; rw [List.filterMap_cons, hf]; exact List.mem_cons_self)
      obtain ⟨sl, e⟩ := I.base.slot L o ho (I.ok.frf L hL) hL fun z => I.ok.exfs L z hL
      exact ⟨hk, ⟨L, _, hf, hn, e, hd⟩, ih (fun b hb => hs b (by unfold frs; rw [List.filterMap_cons, hf]; exact List.mem_cons_of_mem _ hb)) hr⟩
  exact all X.outer (fun _ hb => hb) I.ok.funs

/-- the frames that run, for a call -/
theorem Inv.stack (I : Inv X pins σ H s) : s.heap.FunFrames X.base X.stack := by
  rcases I.ok.stk with e | ⟨e, hf⟩
  · rw [e]; exact I.funs
  · rw [e]
    obtain ⟨m, hn, _⟩ := I.loc
    refine .cons (by rw [I.ok.kind]; decide) hf hn ?_ I.funs
    exact Heap.get?_none_of_le (Nat.le_trans I.ok.bsz I.ok.above)
theorem Inv.stkSub (I : Inv X pins σ H s) : ∀ b ∈ frs X.stack, b ∈ X.env.locals :: X.fs := fun b hb => by
  rcases I.ok.stk with e | ⟨e, hf⟩
  · rw [e] at hb; exact List.mem_cons_of_mem _ hb
  · rw [e] at hb
    unfold frs at hb
    rw [List.filterMap_cons, hf] at hb
    exact hb
theorem Inv.stkFree (I : Inv X pins σ H s) : ∀ b ∈ frs X.stack, H b = none := fun b hb => by
  rcases List.mem_cons.mp (I.stkSub b hb) with e | hb
  · rw [e]; exact I.free
  · obtain ⟨_, o, ho, _⟩ := I.ok.funs.mem hb
    exact I.base.free b o ho (I.ok.frf b hb) fun z => I.ok.exfs b z hb

/-- THE STEP: the untracked objects but the frame and the records at ch are kept (the callers' frames up to slots), the frame's map is kept, the new abstract heap is held -/
theorem Inv.step {g' : Array GenState} {t' : Nat} {d' : Drawn} {ch : List Addr} (I : Inv X pins σ H s)
    (hch : ∀ b ∈ ch, (b ∈ X.ex ∨ X.s₀.heap.objs.size ≤ b) ∧ b ≠ X.env.locals ∧ (∀ x c, X.env.cells.lookup x = some c → c ≠ b) ∧ ∀ p ∈ X.pn ++ pins, p.1 ≠ b)
    (keep : ∀ b o, b ≠ X.env.locals → b ∉ X.fs → b ∉ ch → s.heap.get? b = some o → H b = none → h'.get? b = some o)
    (slot : ∀ b o, b ≠ X.env.locals → b ∈ X.fs → b ∉ ch → s.heap.get? b = some o → H b = none → ∃ sl, h'.get? b = some { o with slots := sl }) (free : ∀ b o, b ∉ ch → s.heap.get? b = some o → H b = none → H' b = none)
    (there : ∀ b o, b ∉ ch → s.heap.get? b = some o → ∃ o', h'.get? b = some o')
    (tups : ∀ b xs, H b = some (.tup xs) → H' b = some (.tup xs)) (frzs : ∀ b o u, H b = some (.frz o u) → H' b = some (.frz o u)) (tbls : ∀ b ps, H b = some (.tbl ps) → ∃ more, H' b = some (.tbl (ps ++ more)))
    (ns : ∀ m, s.heap.Ns X.env.locals m → h'.Ns X.env.locals m) (hok : HOk X.prog X.w H' h') (hg : AllBare g') :
    Inv X pins σ H' { s with heap := h', gens := g', drawn := d', toks := t' } := by
  have neL : ∀ b o, X.s₀.heap.get? b = some o → b ≠ X.env.locals := fun b o e => Nat.ne_of_lt (Nat.lt_of_lt_of_le (Heap.lt_size e) I.ok.above)
  have neC : ∀ b o, X.s₀.heap.get? b = some o → b ∉ X.ex → b ∉ ch := fun b o e hx hb => by
    rcases (hch b hb).1 with z | z
    · exact hx z
    · exact absurd (Nat.lt_of_lt_of_le (Heap.lt_size e) z) (Nat.lt_irrefl _)
  have cellK : ∀ x c, X.env.cells.lookup x = some c → ∀ v, s.heap.IsCell c v → h'.IsCell c v := fun x c e v ⟨o, ho, hd⟩ => by
    have nch : c ∉ ch := fun z => (hch c z).2.2.1 x c e rfl
    by_cases hc : c ∈ X.fs
    · obtain ⟨sl, q⟩ := slot c o (I.cne x c e) hc nch ho (I.freeC x c e)
      exact ⟨_, q, hd⟩
    · exact ⟨o, keep c o (I.cne x c e) hc nch ho (I.freeC x c e), hd⟩
  refine ⟨I.ok, I.os, hg, ⟨fun b o e n hb hx => ?_, fun b o e n hb hx => ?_, fun b o e n hx => ?_, fun b o e hx => ?_, fun b xs e => tups b xs (I.base.tups b xs e), fun b o xs e => frzs b o xs (I.base.frzs b o xs e), fun b ps e => ?_⟩, ?_, fun x c e => ?_, ?_, fun x c e => ?_, fun p hp => ?_, hok, I.len⟩
  · exact keep b o (neL b o e) hb (neC b o e hx) (I.base.keep b o e n hb hx) (I.base.free b o e n hx)
  · obtain ⟨sl, e1⟩ := I.base.slot b o e n hb hx
    obtain ⟨sl', e2⟩ := slot b _ (neL b o e) hb (neC b o e hx) e1 (I.base.free b o e n hx)
    exact ⟨sl', e2⟩
  · obtain ⟨o', e1⟩ := I.base.there b o e hx
    exact free b o' (neC b o e hx) e1 (I.base.free b o e n hx)
  · obtain ⟨o', e1⟩ := I.base.there b o e hx
    exact there b o' (neC b o e hx) e1
  · obtain ⟨m1, e1⟩ := I.base.tbls b ps e
    obtain ⟨m2, e2⟩ := tbls b _ e1
    exact ⟨m1 ++ m2, by rw [e2, Array.append_assoc]⟩
  · obtain ⟨m, hn, hl⟩ := I.loc
    refine ⟨m, ns m hn, fun i x v e1 e2 e3 => ?_⟩
    obtain ⟨u, r, l⟩ := hl i x v e1 e2 e3
    refine ⟨u, r, ?_⟩
    rcases l with l | ⟨k, c, e, z⟩
    · exact .inl l
    · exact .inr ⟨k, c, e, cellK x c e _ z⟩
  · obtain ⟨v, z⟩ := I.cell x c e
    exact ⟨v, cellK x c e v z⟩
  · obtain ⟨m, ⟨o, _, _, ho, _⟩, _⟩ := I.loc
    exact free _ o (fun z => (hch _ z).2.1 rfl) ho I.free
  · obtain ⟨v, o, ho, hd⟩ := I.cell x c e
    exact free c o (fun z => (hch c z).2.2.1 x c e rfl) ho (I.freeC x c e)
  · obtain ⟨e, n, ne, nf, d⟩ := I.pin p hp
    have nch : p.1 ∉ ch := fun z => (hch p.1 z).2.2.2 p hp rfl
    exact ⟨keep p.1 p.2 ne nf nch e n, free p.1 p.2 nch e n, ne, nf, d⟩
/-- .. where the frame's own object is kept too -/
theorem Inv.un {t' : Nat} (I : Inv X pins σ H s) (u : Un X.fs [] H H' s.heap h') (hok : HOk X.prog X.w H' h') : Inv X pins σ H' { s with heap := h', toks := t' } := by
  obtain ⟨m, ⟨o, es, ep, ho, r⟩, _⟩ := id I.loc
  obtain ⟨sl, hL⟩ := u.any ho I.free (by simp)
  exact I.step (g' := s.gens) (d' := s.drawn) (ch := []) (fun _ z => nomatch z) (fun b o _ hb _ e n => u.keep b o e n hb (by simp)) (fun b o _ hb _ e n => u.slot b o e n hb (by simp)) (fun b o _ e n => u.free b o e n (by simp)) (fun b o _ e => u.there b o e (by simp)) u.tups u.frzs u.tbls (fun m' hm => by
    obtain ⟨o', es', ep', ho', r'⟩ := hm
    rw [ho] at ho'; cases ho'
    exact ⟨_, es', ep', hL, r'⟩) hok I.bare
/-- behind a call (or a comprehension's block): the slots of this frame may have changed too, the records at ch may have turned -/
theorem Inv.call {g' : Array GenState} {t' : Nat} {d' : Drawn} {ch : List Addr} (I : Inv X pins σ H s) (u : Un (frs X.stack) ch H H' s.heap h') (hok : HOk X.prog X.w H' h') (hg : AllBare g')
    (hch : ∀ b ∈ ch, (b ∈ X.ex ∨ X.s₀.heap.objs.size ≤ b) ∧ b ≠ X.env.locals ∧ (∀ x c, X.env.cells.lookup x = some c → c ≠ b) ∧ ∀ p ∈ X.pn ++ pins, p.1 ≠ b) :
    Inv X pins σ H' { s with heap := h', gens := g', drawn := d', toks := t' } := by
  obtain ⟨m, ⟨o, es, ep, ho, r⟩, _⟩ := id I.loc
  obtain ⟨sl, hL⟩ := u.any ho I.free fun z => (hch _ z).2.1 rfl
  exact I.step (ch := ch) hch (fun b o hL hb hc e n => u.keep b o e n (fun z => (List.mem_cons.mp (I.stkSub b z)).elim hL hb) hc) (fun b o _ _ hc e n => u.any e n hc) (fun b o hc e n => u.free b o e n hc) (fun b o hc e => u.there b o e hc) u.tups u.frzs u.tbls (fun m' hm => by
    obtain ⟨o', es', ep', ho', r'⟩ := hm
    rw [ho] at ho'; cases ho'
    exact ⟨_, es', ep', hL, r'⟩) hok hg
/-- an untracked record of ours (an iterator) has turned -/
theorem Inv.turned {t' : Nat} {it : Addr} (I : Inv X pins σ H s) (k : ∀ b o, b ≠ it → s.heap.get? b = some o → h'.get? b = some o) (hn : H it = none) (hL : it ≠ X.env.locals)
    (h1 : it ∈ X.ex ∨ X.s₀.heap.objs.size ≤ it) (h2 : ∀ x c, X.env.cells.lookup x = some c → c ≠ it) (h3 : ∀ p ∈ X.pn ++ pins, p.1 ≠ it) : Inv X pins σ H { s with heap := h', toks := t' } := by
  have nit : ∀ b u, H b = some u → b ≠ it := fun b u e z => by rw [z, hn] at e; cases e
  refine I.step (g' := s.gens) (d' := s.drawn) (ch := [it]) (fun b hb => ?_) (fun b o _ _ hc e _ => k b o (fun z => hc (by simp [z])) e) (fun b o _ _ hc e _ => ⟨o.slots, k b o (fun z => hc (by simp [z])) e⟩) (fun _ _ _ _ n => n)
    (fun b o hc e => ⟨o, k b o (fun z => hc (by simp [z])) e⟩) (fun _ _ e => e) (fun _ _ _ e => e) (fun b ps e => ⟨#[], by rw [e]; simp⟩) (fun m hm => ?_) (fun b u e => ?_) I.bare
  · have e : b = it := by simpa using hb
    subst e
    exact ⟨h1, hL, h2, h3⟩
  · obtain ⟨o, es, ep, ho, r⟩ := hm
    exact ⟨o, es, ep, k _ o (Ne.symm hL) ho, r⟩
  · refine (I.hok b u e).stay (fun c v hc q => k c v ?_ q) (fun _ q => q) fun _ _ q => q
    rcases hc with z | z
    · rw [z]; exact nit b u e
    · exact nit c _ z
theorem Inv.tok (I : Inv X pins σ H s) (t : Nat) : Inv X pins σ H { s with toks := t } := I.un (h' := s.heap) (t' := t) Un.refl I.hok
/-- all objects kept -/
theorem Inv.kept {t' : Nat} (I : Inv X pins σ H s) (k : ∀ b u, s.heap.get? b = some u → h'.get? b = some u) : Inv X pins σ H { s with heap := h', toks := t' } := I.un (Un.kept k) (I.hok.kept k)
/-- a new object laid and tracked -/
theorem Inv.laid {a : Addr} {o : HO} {t' : Nat} (I : Inv X pins σ H s) (k : ∀ b u, s.heap.get? b = some u → h'.get? b = some u) (hp : s.heap.objs.size ≤ a) (new : ObjOk X.prog X.w (upd H a o) h' a o) :
    Inv X pins σ (upd H a o) { s with heap := h', toks := t' } := I.un (Un.laid k hp (I.hok.fresh hp)) (I.hok.laid k hp new)
/-- an object written -/
theorem Inv.write {x e : Addr} {o : HO} {t' : Nat} (I : Inv X pins σ H s) (mu : Mut (H x)) (he : e = x ∨ H e = some (.own x)) (k : ∀ b u, b ≠ e → s.heap.get? b = some u → h'.get? b = some u) (heo : ∃ u, h'.get? e = some u)
    (new : ObjOk X.prog X.w (upd H x o) h' x o) : Inv X pins σ (upd H x o) { s with heap := h', toks := t' } := I.un (Un.write mu he k heo) (I.hok.write mu he k heo new)
/-- forgetting slots, pins -/
theorem Inv.weak {σ' : List (Option V)} (I : Inv X pins σ H s) (hl : σ'.length = σ.length) (w : ∀ (i : Nat) v, σ'[i]? = some (some v) → σ[i]? = some (some v)) : Inv X pins σ' H s :=
  ⟨I.ok, I.os, I.bare, I.base, let ⟨m, hn, hl'⟩ := I.loc; ⟨m, hn, fun i x v e1 e2 e3 => hl' i x v e1 (w i v e2) e3⟩, I.cell, I.free, I.freeC, I.pin, I.hok, hl.trans I.len⟩
theorem Inv.pins_of {pins' : List (Addr × Obj)} (I : Inv X pins σ H s) (h : ∀ p ∈ pins', s.heap.get? p.1 = some p.2 ∧ H p.1 = none ∧ p.1 ≠ X.env.locals ∧ p.1 ∉ X.fs ∧ ∀ v, p.2.data ≠ .cell v) : Inv X pins' σ H s :=
  ⟨I.ok, I.os, I.bare, I.base, I.loc, I.cell, I.free, I.freeC, fun p hp => (List.mem_append.mp hp).elim (fun z => I.pin p (List.mem_append_left _ z)) (h p), I.hok, I.len⟩

theorem nodup_ix {N : List Str} (hN : N.Nodup) {i j : Nat} {x : Str} (a : N[i]? = some x) (b : N[j]? = some x) : i = j := by
  obtain ⟨h1, e1⟩ := List.getElem?_eq_some_iff.mp a
  obtain ⟨h2, e2⟩ := List.getElem?_eq_some_iff.mp b
  exact (List.getElem_inj hN).mp (e1.trans e2.symm)

/-- a name is stored; what changed -/
theorem store_ok2 {M : Model} {A : Around} {E : Value → Shared → Prop} {i : Nat} {x : Str} {v : V} {u : Value} {Q : Unit → Shared → Prop} (I : Inv X pins σ H s) (hN : X.N.Nodup) (hi : X.N[i]? = some x) (hx : Loc X.env.scope x) (r : RelV v u)
    (h : ∀ s', Inv X pins (σ.set i (some v)) H s' → (∃ a, Heap.SameBut a s.heap s'.heap ∧ (a = X.env.locals ∨ X.env.cells.lookup x = some a)) → Q () s') (hf : X.fn x = true ∨ X.env.scope.names.lookup x = some .local := by first | exact .inl rfl | exact .inr rfl | assumption) : wpAny M A (storeName X.env x u) Q E s := by
  obtain ⟨m, hn, hl⟩ := id I.loc
  have hcls : (X.env.scope.kind == .class || (X.env.scope.kind == .module && X.env.locals != X.env.globals)) = false := by rw [I.ok.kind]; rfl
  have hiσ : i < σ.length := by rw [I.len]; exact (List.getElem?_eq_some_iff.mp hi).1
  have cne := I.cne
  have tracked : ∀ {a : Addr} {h' : Heap}, (∃ o, s.heap.get? a = some o ∧ H a = none) → Heap.SameBut a s.heap h' → HOk X.prog X.w H h' := fun {a h'} ha hs b ob e => by
    obtain ⟨_, _, hfree⟩ := ha
    refine (I.hok b ob e).stay (fun c w' hc q => (hs.2 c ?_).trans q) (fun _ q => q) fun _ _ q => q
    rintro rfl
    rcases hc with rfl | hc
    · rw [hfree] at e; cases e
    · rw [hfree] at hc; cases hc
  rcases hx with hk | hk
  · refine wpAny_storeName_local hk hn (fun h' hn' hs => ?_) hcls
    obtain ⟨oL, _, _, hoL, _⟩ := id hn
    refine h _ ⟨I.ok, I.os, I.bare, ⟨fun b o e n hb hx => ?_, fun b o e n hb hx => ?_, I.base.free, fun b o e hx => ?_, I.base.tups, I.base.frzs, I.base.tbls⟩, ⟨_, hn', fun j y v' e1 e2 e3 => ?_⟩, fun y c e => ?_, I.free, I.freeC, fun p hp => ?_, tracked ⟨oL, hoL, I.free⟩ hs, by simpa using I.len⟩ ⟨_, hs, .inl rfl⟩
    · exact (hs.2 b (Nat.ne_of_lt (Nat.lt_of_lt_of_le (Heap.lt_size e) I.ok.above))).trans (I.base.keep b o e n hb hx)
    · obtain ⟨sl, e1⟩ := I.base.slot b o e n hb hx
      exact ⟨sl, (hs.2 b (Nat.ne_of_lt (Nat.lt_of_lt_of_le (Heap.lt_size e) I.ok.above))).trans e1⟩
    · obtain ⟨o', e1⟩ := I.base.there b o e hx
      exact ⟨o', (hs.2 b (Nat.ne_of_lt (Nat.lt_of_lt_of_le (Heap.lt_size e) I.ok.above))).trans e1⟩
    · by_cases hj : j = i
      · subst hj
        rw [hi] at e1; cases e1
        rw [List.getElem?_set_self hiσ] at e2
        cases e2
        exact ⟨u, r, .inl ⟨hk, by simp⟩⟩
      · rw [List.getElem?_set_ne (Ne.symm hj)] at e2
        obtain ⟨u', r', q⟩ := hl j y v' e1 e2 e3
        refine ⟨u', r', ?_⟩
        rcases q with ⟨k, e⟩ | ⟨k, c, e, z⟩
        · refine .inl ⟨k, ?_⟩
          have : y ≠ x := fun e => hj (nodup_ix hN e1 (e ▸ hi))
          simp [this, e]
        · exact .inr ⟨k, c, e, z.sameBut hs (cne y c e)⟩
    · obtain ⟨w', z⟩ := I.cell y c e
      exact ⟨w', z.sameBut hs (cne y c e)⟩
    · obtain ⟨e, n, ne, nf, d⟩ := I.pin p hp
      exact ⟨(hs.2 p.1 ne).trans e, n, ne, nf, d⟩
  · have hfn : X.fn x = true := by
      rcases hf with z | z
      · exact z
      · rw [z] at hk; cases hk
    obtain ⟨c, hc⟩ := I.ok.has x (.inl hk)
    obtain ⟨w', z⟩ := I.cell x c hc
    refine wpAny_storeName_cell I.ok.kind hk hc z (fun h' hc' hs => ?_)
    obtain ⟨oc, hoc, hocd⟩ := id z
    refine h { s with heap := h' } ⟨I.ok, I.os, I.bare, ⟨fun b o e n hb hx => ?_, fun b o e n hb hx => ?_, I.base.free, fun b o e hx => ?_, I.base.tups, I.base.frzs, I.base.tbls⟩, ⟨m, hn.sameBut hs (Ne.symm (cne x c hc)), fun j y v' e1 e2 e3 => ?_⟩, fun y c' e => ?_, I.free, I.freeC, fun p hp => ?_, tracked ⟨oc, hoc, I.freeC x c hc⟩ hs, by simpa using I.len⟩ ⟨c, hs, .inr hc⟩
    · exact (hs.2 b (Nat.ne_of_lt (Nat.lt_of_lt_of_le (Heap.lt_size e) (I.ok.cab x c hfn hc)))).trans (I.base.keep b o e n hb hx)
    · obtain ⟨sl, e1⟩ := I.base.slot b o e n hb hx
      exact ⟨sl, (hs.2 b (Nat.ne_of_lt (Nat.lt_of_lt_of_le (Heap.lt_size e) (I.ok.cab x c hfn hc)))).trans e1⟩
    · obtain ⟨o', e1⟩ := I.base.there b o e hx
      exact ⟨o', (hs.2 b (Nat.ne_of_lt (Nat.lt_of_lt_of_le (Heap.lt_size e) (I.ok.cab x c hfn hc)))).trans e1⟩
    · by_cases hj : j = i
      · subst hj
        rw [hi] at e1; cases e1
        rw [List.getElem?_set_self hiσ] at e2
        cases e2
        exact ⟨u, r, .inr ⟨.inl hk, c, hc, hc'⟩⟩
      · rw [List.getElem?_set_ne (Ne.symm hj)] at e2
        obtain ⟨u', r', q⟩ := hl j y v' e1 e2 e3
        refine ⟨u', r', ?_⟩
        rcases q with q | ⟨k, c', e, z'⟩
        · exact .inl q
        · refine .inr ⟨k, c', e, z'.sameBut hs ?_⟩
          rintro rfl
          exact hj (nodup_ix hN e1 (I.ok.inj _ _ _ e hc ▸ hi))
    · by_cases hcc : c' = c
      · subst hcc; exact ⟨_, hc'⟩
      · obtain ⟨w2, z2⟩ := I.cell y c' e
        exact ⟨w2, z2.sameBut hs hcc⟩
    · obtain ⟨e, n, ne, nf, d⟩ := I.pin p hp
      refine ⟨(hs.2 p.1 ?_).trans e, n, ne, nf, d⟩
      intro q
      rw [q, hoc] at e
      have q' : oc = p.2 := Option.some.inj e
      exact d w' (by rw [← q']; exact hocd)
theorem store_ok {M : Model} {A : Around} {E : Value → Shared → Prop} {i : Nat} {x : Str} {v : V} {u : Value} {Q : Unit → Shared → Prop} (I : Inv X pins σ H s) (hN : X.N.Nodup) (hi : X.N[i]? = some x) (hx : Loc X.env.scope x) (r : RelV v u)
    (h : ∀ s', Inv X pins (σ.set i (some v)) H s' → Q () s') (hf : X.fn x = true ∨ X.env.scope.names.lookup x = some .local := by first | exact .inl rfl | exact .inr rfl | assumption) : wpAny M A (storeName X.env x u) Q E s :=
  store_ok2 I hN hi hx r (fun s' I' _ => h s' I') hf
/-- behind a call or a block, the state as it is -/
theorem Inv.call' {s' : Shared} {ch : List Addr} (I : Inv X pins σ H s) (ho : s'.os = s.os) (u : Un (frs X.stack) ch H H' s.heap s'.heap) (hok : HOk X.prog X.w H' s'.heap) (hg : AllBare s'.gens)
    (hch : ∀ b ∈ ch, (b ∈ X.ex ∨ X.s₀.heap.objs.size ≤ b) ∧ b ≠ X.env.locals ∧ (∀ x c, X.env.cells.lookup x = some c → c ≠ b) ∧ ∀ p ∈ X.pn ++ pins, p.1 ≠ b) : Inv X pins σ H' s' := by
  obtain ⟨h', g', d', t', o'⟩ := s'
  have e : o' = s.os := ho
  subst e
  exact I.call (g' := g') (t' := t') (d' := d') u hok hg hch
end

/-! ### the judgements -/
/-- an exception: its class, its own dict's address (where it has one), the abstract heap behind it -/
noncomputable abbrev XK := Value → Option Addr → Hp → Prop
noncomputable abbrev St := List (Option V)
noncomputable abbrev VK := V → Hp → Prop
/-- an expression's reading; a test's; an argument list's -/
noncomputable abbrev TE := St → Hp → VK → Prop
noncomputable abbrev TT := St → Hp → (Bool → Hp → Prop) → Prop
noncomputable abbrev TA := St → Hp → (List V → Hp → Prop) → Prop
/-- what is wanted behind a statement -/
structure Ends where
  nx : St → Hp → Prop
  rt : VK
  bk : St → Hp → Prop := fun _ _ => False
  ct : St → Hp → Prop := fun _ _ => False
noncomputable abbrev TS := Ends → St → Hp → Prop

noncomputable def EP (X : Cx) (pins : List (Addr × Obj)) (σ : St) (Q : VK) (u : Value) (s' : Shared) : Prop := Ex2 fun v H' => Inv X pins σ H' s' ∧ RelV v u ∧ Q v H'
noncomputable def TP (X : Cx) (pins : List (Addr × Obj)) (σ : St) (Q : Bool → Hp → Prop) (b : Bool) (s' : Shared) : Prop := ∃ H', Inv X pins σ H' s' ∧ Q b H'
noncomputable def AP (X : Cx) (pins : List (Addr × Obj)) (σ : St) (Q : List V → Hp → Prop) (us : List Value) (s' : Shared) : Prop := Ex2 fun vs H' => Inv X pins σ H' s' ∧ Vals vs us ∧ Q vs H'
noncomputable def SP (X : Cx) (pins : List (Addr × Obj)) (D : Ends) (f : Flow) (s' : Shared) : Prop :=
  match f with
  | .next => Ex2 fun σ' H' => Inv X pins σ' H' s' ∧ D.nx σ' H'
  | .brk => Ex2 fun σ' H' => Inv X pins σ' H' s' ∧ D.bk σ' H'
  | .cont => Ex2 fun σ' H' => Inv X pins σ' H' s' ∧ D.ct σ' H'
  | .ret u => Ex3 fun v σ' H' => Inv X pins σ' H' s' ∧ RelV v u ∧ D.rt v H'

noncomputable def PE (X : Cx) (e : Expr) (t : TE) : Prop :=
  ∀ ⦃pins : List (Addr × Obj)⦄ (s : Shared) (σ : St) (H : Hp) (Q : VK), Inv X pins σ H s → t σ H Q → wpAny (model X.prog X.w) X.A (eval e X.env) (EP X pins σ Q) X.xe s
noncomputable def PT (X : Cx) (e : Expr) (t : TT) : Prop :=
  ∀ ⦃pins : List (Addr × Obj)⦄ (s : Shared) (σ : St) (H : Hp) (Q : Bool → Hp → Prop), Inv X pins σ H s → t σ H Q → wpAny (model X.prog X.w) X.A (isTrue e X.env (eval e X.env)) (TP X pins σ Q) X.xe s
/-- a test whatever its 'whole' is (and, or) -/
noncomputable def PW (X : Cx) (e : Expr) (t : TT) : Prop :=
  ∀ ⦃whole : Sem Value⦄ ⦃pins : List (Addr × Obj)⦄ (s : Shared) (σ : St) (H : Hp) (Q : Bool → Hp → Prop), Inv X pins σ H s → t σ H Q → wpAny (model X.prog X.w) X.A (isTrue e X.env whole) (TP X pins σ Q) X.xe s
theorem PW.pt {X : Cx} {e : Expr} {t : TT} (h : PW X e t) : PT X e t := fun pins s σ H Q I q => h s σ H Q I q
/-- an argument list (no star), from the left -/
noncomputable def PA (X : Cx) (es : List Expr) (t : TA) : Prop :=
  ∀ ⦃pos : Pos⦄ ⦃pins : List (Addr × Obj)⦄ (s : Shared) (σ : St) (H : Hp) (Q : List V → Hp → Prop), Inv X pins σ H s → t σ H Q → wpAny (model X.prog X.w) X.A (spliced (backTo pos (starEach es X.env))) (AP X pins σ Q) X.xe s
noncomputable def PS (X : Cx) (st : Stmt) (t : TS) : Prop :=
  ∀ ⦃pins : List (Addr × Obj)⦄ (s : Shared) (σ : St) (H : Hp) (D : Ends), Inv X pins σ H s → t D σ H → wpAny (model X.prog X.w) X.A (exec st X.env) (SP X pins D) X.xe s
noncomputable def PSs (X : Cx) (st : List Stmt) (t : TS) : Prop :=
  ∀ ⦃pins : List (Addr × Obj)⦄ (s : Shared) (σ : St) (H : Hp) (D : Ends), Inv X pins σ H s → t D σ H → wpAny (model X.prog X.w) X.A (execs st X.env) (SP X pins D) X.xe s
/-- weaken the end -/
theorem thn {α : Type} {t : Sem α} {Q Q' : α → Shared → Prop} {M : Model} {A : Around} {E : Value → Shared → Prop} {s : Shared} (h : wpAny M A t Q E s) (hQ : ∀ a s, Q a s → Q' a s) : wpAny M A t Q' E s := wpAny_mono h hQ fun _ _ x => x
end L2

namespace L2
open PySem PySem.Spec PyProof.Rows
section
variable {X : Cx}

/-! ### names and constants -/
noncomputable def tVar (i : Nat) : TE := fun σ H Q => ∃ v, σ[i]? = some (some v) ∧ Q v H
noncomputable def tC (v : V) : TE := fun _ H Q => Q v H
theorem pe_var {i : Nat} {x : Str} {pos : Pos} (hN : X.N[i]? = some x) (hv : Vis X.env.scope x) (hd : (x == ("__debug__" : Str)) = false := by decide) (hcd : (x == ("__classdict__" : Str)) = false := by decide) : PE X (.Name x pos) (tVar i) := by
  intro pins s σ H Q I h
  obtain ⟨v, e, h⟩ := h
  obtain ⟨m, hn, hl⟩ := I.loc
  obtain ⟨u, r, l⟩ := hl i x v hN e hv
  have fin : EP X pins σ Q u s := ⟨v, H, I, r, h⟩
  rcases l with ⟨hk, hm⟩ | ⟨hk, c, hc, hcell⟩
  · exact wpAny_Name (wpAny_loadName_local I.ok.kind hk hn hm fin) hd
  · rcases hk with hk | hk
    · exact wpAny_Name (wpAny_loadName_cell I.ok.kind hk hc hcell fin) hd
    · exact wpAny_Name (wpAny_loadName_free I.ok.kind hk hc hcell fin hcd) hd
theorem pe_int {i j pos} : PE X (.Constant (.int i) j pos) (tC (.int i)) := fun _ _ _ H _ I h => wpAny_Constant_int ⟨.int i, H, I.tok _, ⟨_, rfl⟩, h⟩
theorem pe_bl {b j pos} : PE X (.Constant (.bool b) j pos) (tC (.bl b)) := fun _ _ _ H _ I h => Constant_bool ⟨.bl b, H, I, rfl, h⟩
theorem pe_non {j pos} : PE X (.Constant .none j pos) (tC .non) := fun _ _ _ H _ I h => Constant_none ⟨.non, H, I, rfl, h⟩
theorem pe_str {x j pos} : PE X (.Constant (.str x) j pos) (tC (.str x)) := fun _ _ _ H _ I h => Calls.Constant_str ⟨.str x, H, I.tok _, ⟨_, rfl⟩, h⟩

/-- a global name of the def -/
noncomputable def Gl (X : Cx) (x : Str) : Prop := X.env.kindOf x = some .globalImplicit
theorem ld_glob {E : Value → Shared → Prop} {pins : List (Addr × Obj)} {s : Shared} {σ : St} {H : Hp} {x : Str} {u : Value} {pos : Pos} {Q : Value → Shared → Prop} (I : Inv X pins σ H s) (hg : Gl X x) (hm : X.mg x = some u) (h : Q u s)
    (hd : (x == ("__debug__" : Str)) = false := by decide) : wpAny (model X.prog X.w) X.A (eval (.Name x pos) X.env) Q E s :=
  Calls.Name_function_global I.ok.kind hg (Calls.loadGlobal_global (by rw [I.ok.glob]; exact I.mod.glob.keeps I.bk) hm h) hd
theorem ld_blt {E : Value → Shared → Prop} {pins : List (Addr × Obj)} {s : Shared} {σ : St} {H : Hp} {x : Str} {u : Value} {pos : Pos} {Q : Value → Shared → Prop} (I : Inv X pins σ H s) (hg : Gl X x) (hm : X.mg x = none) (hv : bootBuiltins x = some u) (h : Q u s)
    (hn : x ≠ "__name__" := by decide) (hd : (x == ("__debug__" : Str)) = false := by decide) : wpAny (model X.prog X.w) X.A (eval (.Name x pos) X.env) Q E s := by
  obtain ⟨mb, h1, h2⟩ := I.mod.blt
  exact Calls.Name_function_global I.ok.kind hg (Calls.loadGlobal_builtin (by rw [I.ok.glob]; exact I.mod.glob.keeps I.bk) hm (by rw [I.ok.blt]; exact h1.keeps I.bk) ((h2 x hn).trans hv) h) hd
/-- a module's constant, a class, a function, as a value -/
theorem pe_glob {x : Str} {v : V} {u : Value} {pos : Pos} (hg : Gl X x) (hm : X.mg x = some u) (r : RelV v u) (hd : (x == ("__debug__" : Str)) = false := by decide) : PE X (.Name x pos) (tC v) :=
  fun _ _ _ H _ I h => ld_glob I hg hm ⟨v, H, I, r, h⟩ hd
/-! ### arithmetic -/
variable {a b : Expr} {ta tb : TE} {pos : Pos}
/-! ### comparisons -/
noncomputable def PC (X : Cx) (op : CmpOp) (a b : Expr) (t : TE) : Prop :=
  ∀ ⦃pins : List (Addr × Obj)⦄ (s : Shared) (σ : St) (H : Hp) (Q : VK), Inv X pins σ H s → t σ H Q →
    wpAny (model X.prog X.w) X.A (eval a X.env) (fun v s₁ => wpAny (model X.prog X.w) X.A (eval b X.env) (fun u s₂ => wpAny (model X.prog X.w) X.A (compareOp op v u) (EP X pins σ Q) X.xe s₂) X.xe s₁) X.xe s
/-- a comparison as a value, as a test -/
noncomputable def tB (t : TE) : TT := fun σ H Q => t σ H fun x H1 => ∃ c, x = .bl c ∧ Q c H1
theorem pt_cmp {op : CmpOp} {t : TE} (h : PC X op a b t) (h1 : behindInMarks op b = false := by first | exact nobehind _ (by decide) (by decide) | rfl) : PT X (.Compare a [op] [b] pos) (tB t) := by
  intro pins s σ H Q I hw
  refine wpAny_isTrue_Compare1 (thn (h s σ H _ I hw) fun v s1 h1 => thn h1 fun u s2 h2 => thn h2 fun c s3 ⟨x, H1, I1, r1, q1⟩ => ?_) h1
  obtain ⟨d, rfl, q⟩ := q1
  cases r1
  exact wpAny_truthy_bool ⟨H1, I1, q⟩
/-- an expression whose value is a bool, as a test -/
theorem pt_val {e : Expr} {t : TE} (h : PE X e t) (he : ∀ whole, isTrue e X.env whole = (do let v ← whole; standAt e.pos; holding [v] (truthy v)) := by intro _; rfl) : PT X e (tB t) := by
  intro pins s σ H Q I hw
  refine isTrue_plain (thn (h s σ H _ I hw) fun v s1 ⟨x, H1, I1, r1, q1⟩ => ?_) (he _)
  obtain ⟨d, rfl, q⟩ := q1
  cases r1
  exact wpAny_truthy_bool ⟨H1, I1, q⟩

/-! ### and, or, not -/
variable {tA tB' : TT} {rest : List Expr}
noncomputable def tAnd (t u : TT) : TT := fun σ H Q => t σ H fun c H1 => if c = true then u σ H1 Q else Q false H1
noncomputable def tOr (t u : TT) : TT := fun σ H Q => t σ H fun c H1 => if c = true then Q true H1 else u σ H1 Q
theorem pw_and1 (ha : PT X a tA) : PW X (.BoolOp .And [a] pos) tA := by
  intro wh pins s σ H Q I h
  refine isTrue_and (thn (ha s σ H Q I h) fun c s1 e => ?_)
  cases c with
  | true => exact isTrue_and_nil e
  | false => exact e
theorem pw_or1 (ha : PT X a tA) : PW X (.BoolOp .Or [a] pos) tA := by
  intro wh pins s σ H Q I h
  refine isTrue_or (thn (ha s σ H Q I h) fun c s1 e => ?_)
  cases c with
  | false => exact isTrue_or_nil e
  | true => exact e
theorem pw_and (ha : PT X a tA) (hb : PW X (.BoolOp .And (b :: rest) pos) tB') : PW X (.BoolOp .And (a :: b :: rest) pos) (tAnd tA tB') := by
  intro wh pins s σ H Q I h
  refine isTrue_and (thn (ha s σ H _ I h) fun c s1 ⟨H1, I1, q1⟩ => ?_)
  cases c with
  | true => exact hb s1 σ H1 Q I1 q1
  | false => exact ⟨H1, I1, q1⟩
theorem pw_or (ha : PT X a tA) (hb : PW X (.BoolOp .Or (b :: rest) pos) tB') : PW X (.BoolOp .Or (a :: b :: rest) pos) (tOr tA tB') := by
  intro wh pins s σ H Q I h
  refine isTrue_or (thn (ha s σ H _ I h) fun c s1 ⟨H1, I1, q1⟩ => ?_)
  cases c with
  | true => exact ⟨H1, I1, q1⟩
  | false => exact hb s1 σ H1 Q I1 q1
end
end L2

namespace L2
open PySem PySem.Spec PyProof.Rows

/-! ### a list, a tuple that is read: tracked, frozen, or an object of the module -/
noncomputable def SqL (K : PySem.W.Frag) (H : Hp) (a : Addr) (xs : List V) : Prop :=
  Rd H a (.lst xs) ∨
    Ex3 fun (o : Obj) (its : Array Value) (n : Nat) => K.lookup a = some o ∧ o.cls = .type "list" ∧ o.dict = none ∧ o.data = .seq its n ∧ its.size ≤ sizeLine ∧ Vals xs its.toList
noncomputable def SqT (K : PySem.W.Frag) (H : Hp) (a : Addr) (xs : List V) : Prop :=
  Rd H a (.tup xs) ∨
    Ex3 fun (o : Obj) (its : Array Value) (n : Nat) => K.lookup a = some o ∧ o.cls = .type "tuple" ∧ o.data = .seq its n ∧ its.size ≤ sizeLine ∧ Vals xs its.toList
noncomputable def absV : Value → Option V
  | .none => some .non
  | .bool b => some (.bl b)
  | .int i _ => some (.int i)
  | .str x _ => some (.str x)
  | .bytes b _ => some (.byt b)
  | .float b _ => some (.flt b)
  | .ref a => some (.ref a)
  | .type n => some (.ty n)
  | _ => none
theorem RelV.abs {x : V} {u : Value} (r : RelV x u) : absV u = some x := by
  cases x with
  | non => cases r; rfl
  | bl _ => cases r; rfl
  | int _ => obtain ⟨t, rfl⟩ := r; rfl
  | str _ => obtain ⟨t, rfl⟩ := r; rfl
  | byt _ => obtain ⟨t, rfl⟩ := r; rfl
  | flt _ => obtain ⟨t, rfl⟩ := r; rfl
  | ref _ => cases r; rfl
  | ty _ => cases r; rfl
theorem RelV.inj {x y : V} {u : Value} (r : RelV x u) (q : RelV y u) : x = y := Option.some.inj (r.abs.symm.trans q.abs)
theorem Vals.inj {xs ys : List V} {us : List Value} (h : Vals xs us) (h' : Vals ys us) : xs = ys := by
  induction h generalizing ys with
  | nil => cases h'; rfl
  | cons r t ih => cases h' with | cons r' t' => rw [RelV.inj r r', ih t']
section
variable {X : Cx} {pins : List (Addr × Obj)} {σ : St} {H : Hp} {s : Shared} {a : Addr} {xs ys : List V}
theorem SqL.of {K : PySem.W.Frag} (h : H a = some (.lst xs)) : SqL K H a xs := .inl (.inl h)
theorem SqT.of {K : PySem.W.Frag} (h : H a = some (.tup xs)) : SqT K H a xs := .inl (.inl h)
theorem Inv.list (I : Inv X pins σ H s) (h : SqL X.K H a xs) : ∃ its : List Value, Vals xs its ∧ PlainL s.heap a its.toArray ∧ xs.length ≤ sizeLine := by
  rcases h with h | ⟨o, its, n, hk, hc, hd, hs, hz, r⟩
  · obtain ⟨z, its, n, r, e⟩ := h.ok I.hok
    exact ⟨its, r, ⟨_, n, e, rfl, rfl, rfl⟩, z⟩
  · refine ⟨its.toList, r, ⟨o, n, I.kIn a o hk, hc, hd, by simpa using hs⟩, ?_⟩
    have e := r.length
    simp only [Array.length_toList] at e
    (first | lia | omega)
theorem Inv.tuple (I : Inv X pins σ H s) (h : SqT X.K H a xs) : ∃ its : List Value, Vals xs its ∧ IsTup s.heap a its.toArray ∧ xs.length ≤ sizeLine := by
  rcases h with h | ⟨o, its, n, hk, hc, hs, hz, r⟩
  · obtain ⟨z, its, r, p⟩ := h.ok I.hok
    exact ⟨its, r, p, z⟩
  · refine ⟨its.toList, r, ⟨o, I.kIn a o hk, hc, n, by simpa using hs⟩, ?_⟩
    have e := r.length
    simp only [Array.length_toList] at e
    (first | lia | omega)
theorem Inv.list_inj (I : Inv X pins σ H s) (h : SqL X.K H a xs) (h' : SqL X.K H a ys) : xs = ys := by
  obtain ⟨its, r, ⟨o, n, e, _, _, d⟩, _⟩ := I.list h
  obtain ⟨its', r', ⟨o', n', e', _, _, d'⟩, _⟩ := I.list h'
  rw [e] at e'; cases e'
  rw [d] at d'
  injection d' with d1 _
  have : its = its' := by simpa using congrArg Array.toList d1
  subst this
  exact r.inj r'
end

/-! ### another wish about exceptions -/
noncomputable abbrev Cx.wish (X : Cx) (E : Value → Shared → Prop) : Cx := { X with xe := E }
/-- no exception leaves -/
noncomputable abbrev Cx.nox (X : Cx) : Cx := X.wish fun _ _ => False
theorem Cx.Ok.wish {X : Cx} (ok : X.Ok) (E : Value → Shared → Prop) : (X.wish E).Ok :=
  ⟨ok.mod, ok.kind, ok.glob, ok.blt, ok.above, ok.inj, ok.has, ok.cab, ok.hd, ok.frames, ok.stk, ok.exf, ok.bs, ok.bsz, ok.noex, ok.exfs, ok.funs, ok.frf⟩
theorem Cx.Ok.unwish {X : Cx} {E : Value → Shared → Prop} (ok : (X.wish E).Ok) : X.Ok :=
  ⟨ok.mod, ok.kind, ok.glob, ok.blt, ok.above, ok.inj, ok.has, ok.cab, ok.hd, ok.frames, ok.stk, ok.exf, ok.bs, ok.bsz, ok.noex, ok.exfs, ok.funs, ok.frf⟩
section
variable {X : Cx} {pins : List (Addr × Obj)} {σ : St} {H : Hp} {s : Shared} {E : Value → Shared → Prop}
theorem Inv.wish (I : Inv X pins σ H s) (E : Value → Shared → Prop) : Inv (X.wish E) pins σ H s := ⟨I.ok.wish E, I.os, I.bare, I.base, I.loc, I.cell, I.free, I.freeC, I.pin, I.hok, I.len⟩
theorem Inv.unwish (I : Inv (X.wish E) pins σ H s) : Inv X pins σ H s := ⟨I.ok.unwish, I.os, I.bare, I.base, I.loc, I.cell, I.free, I.freeC, I.pin, I.hok, I.len⟩
theorem SP.unwish {D : Ends} {f : Flow} {s' : Shared} (h : SP (X.wish E) pins D f s') : SP X pins D f s' := by
  cases f with
  | next => obtain ⟨σ', H', I, q⟩ := h; exact ⟨σ', H', I.unwish, q⟩
  | brk => obtain ⟨σ', H', I, q⟩ := h; exact ⟨σ', H', I.unwish, q⟩
  | cont => obtain ⟨σ', H', I, q⟩ := h; exact ⟨σ', H', I.unwish, q⟩
  | ret u => obtain ⟨v, σ', H', I, r, q⟩ := h; exact ⟨v, σ', H', I.unwish, r, q⟩
theorem PSs.nox {st : List Stmt} {t : TS} (h : PSs X.nox st t) : PSs X st t := fun pins s σ H D I hw =>
  wpAny_mono (h s σ H D (I.wish _) hw) (fun _ _ q => q.unwish) fun _ _ z => False.elim z
end

/-! ### blocks and small statements -/
section
variable {X : Cx} {st : Stmt} {rest : List Stmt} {t u : TS} {e : Expr} {te : TE} {pos : Pos}
noncomputable def tNext : TS := fun D σ H => D.nx σ H
noncomputable def tSeq (t u : TS) : TS := fun D σ H => t { D with nx := u D } σ H
theorem pss_nil : PSs X [] tNext := fun _ _ σ H _ I h => wpAny_execs_nil ⟨σ, H, I, h⟩
theorem pss_cons (h1 : PS X st t) (h2 : PSs X rest u) : PSs X (st :: rest) (tSeq t u) := by
  intro pins s σ H D I h
  refine wpAny_execs_cons (thn (h1 s σ H { D with nx := u D } I h) fun f s1 q => ?_)
  cases f with
  | next =>
    obtain ⟨σ', H', I', q⟩ := q
    exact h2 s1 σ' H' D I' q
  | ret v => exact q
  | brk => exact q
  | cont => exact q
theorem pss_one (h1 : PS X st t) : PSs X [st] t := by
  intro pins s σ H D I h
  refine wpAny_execs_cons (thn (h1 s σ H D I h) fun f s1 q => ?_)
  cases f with
  | next => exact wpAny_execs_nil q
  | ret v => exact q
  | brk => exact q
  | cont => exact q
/-- in a def's body nothing is shown -/
theorem Inv.quiet {pins : List (Addr × Obj)} {σ : St} {H : Hp} {s : Shared} (I : Inv X pins σ H s) : interactive X.env = false := by simp [interactive, I.ok.kind]
/-- an expression whose value is dropped -/
noncomputable def tDrop (te : TE) : TS := fun D σ H => te σ H fun _ H1 => D.nx σ H1
theorem ps_expr (he : PE X e te) (hs : swapsWith e none pos.line X.env = pure false := by rfl) : PS X (.Expr e pos) (tDrop te) := by
  intro pins s σ H D I h
  exact wpAny_Expr_any (thn (he s σ H _ I h) fun v s1 ⟨x, H1, I1, r1, q1⟩ => ⟨σ, H1, I1, q1⟩) I.quiet hs
noncomputable def tRet (te : TE) : TS := fun D σ H => te σ H D.rt
theorem ps_ret (he : PE X e te) : PS X (.Return (some e) pos) (tRet te) := by
  intro pins s σ H D I h
  exact wpAny_Return_some (thn (he s σ H _ I h) fun v s1 ⟨x, H1, I1, r1, q1⟩ => ⟨x, σ, H1, I1, r1, q1⟩)
noncomputable def tIfS (c : TT) (t u : TS) : TS := fun D σ H => c σ H fun b H1 => if b = true then t D σ H1 else u D σ H1
theorem ps_if {c : Expr} {a b : List Stmt} {tc : TT} (hc : PT X c tc) (ha : PSs X a t) (hb : PSs X b u) : PS X (.If c a b pos) (tIfS tc t u) := by
  intro pins s σ H D I h
  refine wpAny_If (thn (hc s σ H _ I h) fun d s1 ⟨H1, I1, q1⟩ => ?_)
  cases d with
  | true => exact ha s1 σ H1 D I1 q1
  | false => exact hb s1 σ H1 D I1 q1
end

/-! ### targets -/
noncomputable abbrev TG := V → St → Hp → (St → Hp → Prop) → Prop
noncomputable abbrev TGs := List V → St → Hp → (St → Hp → Prop) → Prop
noncomputable def PG (X : Cx) (target : Expr) (t : TG) : Prop :=
  ∀ ⦃pins : List (Addr × Obj)⦄ (s : Shared) (σ : St) (H : Hp) (v : V) (u : Value) (Q : St → Hp → Prop), Inv X pins σ H s → RelV v u → t v σ H Q →
    wpAny (model X.prog X.w) X.A (assign target X.env u) (fun _ s' => Ex2 fun σ' H' => Inv X pins σ' H' s' ∧ Q σ' H') X.xe s
/-- several targets, one after another -/
noncomputable def PGs (X : Cx) (ts : List Expr) (t : TGs) : Prop :=
  ∀ ⦃pins : List (Addr × Obj)⦄ (s : Shared) (σ : St) (H : Hp) (vs : List V) (us : List Value) (Q : St → Hp → Prop), Inv X pins σ H s → Vals vs us → t vs σ H Q →
    wpAny (model X.prog X.w) X.A (assignInOrder ((assignEach ts X.env).map (·.2)) us) (fun _ s' => Ex2 fun σ' H' => Inv X pins σ' H' s' ∧ Q σ' H') X.xe s
/-- o[i] = v, by values -/
noncomputable abbrev TSet := V → V → V → Hp → (Hp → Prop) → Prop
noncomputable def PSet (X : Cx) (t : TSet) : Prop :=
  ∀ ⦃pins : List (Addr × Obj)⦄ (s : Shared) (σ : St) (H : Hp) (o i v : V) (ov iv u : Value) (Q : Hp → Prop), Inv X pins σ H s → RelV o ov → RelV i iv → RelV v u → t o i v H Q →
    wpAny (model X.prog X.w) X.A (setItem ov iv u) (fun _ s' => ∃ H', Inv X pins σ H' s' ∧ Q H') X.xe s
section
variable {X : Cx} {pos : Pos}
noncomputable def gName (i : Nat) : TG := fun v σ H Q => Q (σ.set i (some v)) H
theorem pg_name {i : Nat} {x : Str} (hN : X.N.Nodup) (hi : X.N[i]? = some x) (hx : Loc X.env.scope x) (hf : X.fn x = true ∨ X.env.scope.names.lookup x = some .local := by first | exact .inl rfl | exact .inr rfl | assumption) : PG X (.Name x pos) (gName i) := by
  intro pins s σ H v u Q I r h
  exact wpAny_assign_Name (store_ok I hN hi hx r (fun s' I' => ⟨_, H, I', h⟩) hf)
noncomputable def gNil : TGs := fun vs σ H Q => vs = [] ∧ Q σ H
noncomputable def gCons (t : TG) (u : TGs) : TGs := fun vs σ H Q => Ex2 fun v r => vs = v :: r ∧ t v σ H fun σ' H' => u r σ' H' Q
theorem pgs_nil : PGs X [] gNil := by
  intro pins s σ H vs us Q I r h
  obtain ⟨e, h⟩ := h
  subst e
  cases r
  exact assignInOrder_nil ⟨σ, H, I, h⟩
theorem pgs_cons {e : Expr} {es : List Expr} {t : TG} {u : TGs} (h1 : PG X e t) (h2 : PGs X es u)
    (hs : (assignEach (e :: es) X.env).map (·.2) = assign e X.env :: (assignEach es X.env).map (·.2) := by rfl) : PGs X (e :: es) (gCons t u) := by
  intro pins s σ H vs us Q I r h
  obtain ⟨v, vr, e1, h⟩ := h
  subst e1
  cases r with
  | cons r rr =>
    rw [hs]
    refine assignInOrder_cons (thn (h1 s σ H _ _ _ I r h) fun _ s1 ⟨σ1, H1, I1, q1⟩ => ?_)
    exact h2 s1 σ1 H1 _ _ Q I1 rr q1
/-- (a, b, ..) = a tuple of that length -/
noncomputable def gTup (K : PySem.W.Frag) (n : Nat) (t : TGs) : TG := fun v σ H Q => Ex2 fun a xs => v = .ref a ∧ SqT K H a xs ∧ xs.length = n ∧ t xs σ H Q
theorem pg_tup {es : List Expr} {k : Nat} {t : TGs} {n : Nat} (hc : X.calm = true) (h : PGs X es t)
    (hn : (assignEach es X.env).length = n := by rfl) (hst : (assignEach es X.env).findIdx? (·.1) = none := by rfl) : PG X (.Tuple es k pos) (gTup X.K n t) := by
  intro pins s σ H v u Q I r hw
  obtain ⟨a, xs, e1, hq, hl, hw⟩ := hw
  subst e1
  cases r
  obtain ⟨its, rv, ht, hz⟩ := I.tuple hq
  refine assign_Tuple_tuple (I.ok.hd hc) ht (by simp [hn, ← hl, rv.length]) hst fun h' hx => ?_
  have I1 : Inv X pins σ H { s with heap := h' } := I.kept (t' := s.toks) fun b o e => hx b o (Nat.ne_of_lt (Heap.lt_size e)) e
  exact h _ σ H xs _ Q I1 (by simpa using rv) hw
/-- o[i] = .. -/
noncomputable def gSub (to ti : TE) (t : TSet) : TG := fun v σ H Q => to σ H fun o H1 => ti σ H1 fun i H2 => t o i v H2 fun H3 => Q σ H3
theorem pg_sub {o i : Expr} {to ti : TE} {t : TSet} (ho : PE X o to) (hi : PE X i ti) (hs : PSet X t)
    (ha : ∀ v, assign (.Subscript o i pos) X.env v = (do
      let ov ← holding [v] (eval o X.env)
      let iv ← holding [v, ov] (eval i X.env)
      standAt pos
      holding [v, ov, iv] (setItem ov iv v)
      release [v, ov, iv] []) := by intro _; rfl) : PG X (.Subscript o i pos) (gSub to ti t) := by
  intro pins s σ H v u Q I r h
  rw [ha]
  refine wpAny_bind (wpAny_holding (thn (ho s σ H _ I h) fun ov s1 ⟨x, H1, I1, r1, q1⟩ => ?_))
  refine wpAny_bind (wpAny_holding (thn (hi s1 σ H1 _ I1 q1) fun iv s2 ⟨y, H2, I2, r2, q2⟩ => ?_))
  refine wpAny_bind (wpAny_standAt (wpAny_bind (wpAny_holding (thn (hs s2 σ H2 x y v ov iv u _ I2 r1 r2 r q2) fun _ s3 ⟨H3, I3, q3⟩ => ?_))))
  exact wpAny_release ⟨σ, H3, I3, q3⟩
/-- target = value -/
noncomputable def tAsg (te : TE) (g : TG) : TS := fun D σ H => te σ H fun x H1 => g x σ H1 D.nx
theorem ps_asg {tg e : Expr} {te : TE} {g : TG} (he : PE X e te) (hg : PG X tg g) (hs : swapsWithSole [tg] e pos.line X.env = pure false := by rfl) (hw : swappedStores [tg] e X.env = pure none := by rfl)
    (h1 : (assignEach [tg] X.env).map (·.2) = [assign tg X.env] := by rfl) : PS X (.Assign [tg] e pos) (tAsg te g) := by
  intro pins s σ H D I h
  refine wpAny_Assign_stores (thn (he s σ H _ I h) fun v s1 ⟨x, H1, I1, r1, q1⟩ => ?_) hs hw
  rw [h1]
  exact thn (hg s1 σ H1 x v _ I1 r1 q1) fun _ s2 q => q
/-- name = value -/
theorem ps_set {i : Nat} {x : Str} {e : Expr} {te : TE} {pos' : Pos} (hN : X.N.Nodup) (hi : X.N[i]? = some x) (hx : Loc X.env.scope x) (he : PE X e te) (hs : swapsWith e (some (.Name x pos')) pos.line X.env = pure false := by rfl) (hf : X.fn x = true ∨ X.env.scope.names.lookup x = some .local := by first | exact .inl rfl | exact .inr rfl | assumption) :
    PS X (.Assign [.Name x pos'] e pos) (tAsg te (gName i)) := by
  intro pins s σ H D I h
  refine wpAny_Assign_Name (thn (he s σ H _ I h) fun v s1 ⟨y, H1, I1, r1, q1⟩ => ?_) hs
  exact store_ok I1 hN hi hx r1 (fun s2 I2 => ⟨_, H1, I2, q1⟩) hf
/-- a, b = x, y with plain local names: stored from the right; the pair itself is not tracked (the opening rows as in PyProof/Rows/TupAssign.lean:23) -/
noncomputable def tPar (i j : Nat) (ta : TA) : TS := fun D σ H => ta σ H fun vs H1 => Ex2 fun v w => vs = [v, w] ∧ D.nx ((σ.set i (some v)).set j (some w)) H1
theorem ps_par {i j : Nat} {x y : Str} {a b : Expr} {ta : TA} {px py pt : Pos} {kt k2 pt2} (hc : X.calm = true) (hN : X.N.Nodup) (hi : X.N[i]? = some x) (hj : X.N[j]? = some y) (hij : i ≠ j)
    (hx : X.env.scope.names.lookup x = some .local) (hy : X.env.scope.names.lookup y = some .local) (ha : PA X [a, b] ta)
    (hw : swappedStores [.Tuple [.Name x px, .Name y py] kt pt] (.Tuple [a, b] k2 pt2) X.env = pure (some [x, y]))
    (hs : swapsWithSole [.Tuple [.Name x px, .Name y py] kt pt] (.Tuple [a, b] k2 pt2) pos.line X.env = pure false := by rfl) :
    PS X (.Assign [.Tuple [.Name x px, .Name y py] kt pt] (.Tuple [a, b] k2 pt2) pos) (tPar i j ta) := by
  intro pins s σ H D I h
  rw [exec_Assign_arm]
  refine wpAny_bind (wpAny_standAt ?_)
  rw [hs]
  refine wpAny_bind (wpAny_pure ?_)
  rw [if_neg (by decide)]
  refine wpAny_bind (Tuple_ (thn (ha s σ H _ I h) fun us s1 ⟨vs, H1, I1, r1, q1⟩ => ?_))
  obtain ⟨v, w, e1, q1⟩ := q1
  subst e1
  obtain ⟨u1, u2, rfl, rv, rw'⟩ : ∃ u1 u2, us = [u1, u2] ∧ RelV v u1 ∧ RelV w u2 := by
    cases r1 with
    | cons p q =>
      cases q with
      | cons p' q' =>
        cases q'
        exact ⟨_, _, rfl, p, p'⟩
  refine wpAny_newObj_type ?_ (by show 2 ≤ sizeLine; decide)
  have I2 : Inv X pins σ H1 { s1 with heap := s1.heap.push { cls := .type "tuple", data := .seq [u1, u2].toArray } } := I1.kept (t' := s1.toks) fun b o e => Heap.get?_push_of_some _ e
  rw [hw]
  refine wpAny_bind (wpAny_pure ?_)
  show wpAny (model X.prog X.w) X.A (do rule "assign.swapped-stores"; let items ← unpackItems (.ref s1.heap.objs.size) 2 none; assignInOrder [fun v => bindName X.env y v, fun v => bindName X.env x v] items.reverse; pure Flow.next) _ _ _
  refine wpAny_bind (wpAny_rule (wpAny_bind (unpackItems_tuple (items := #[u1, u2]) (I.ok.hd hc) (IsTup.new s1.heap _) fun h' hx' => ?_)))
  have I3 := I2.kept (h' := h') (t' := s1.toks) fun b o e => hx' b o (Nat.ne_of_lt (Heap.lt_size e)) e
  show wpAny _ _ (assignInOrder [fun v => bindName X.env y v, fun v => bindName X.env x v] [u2, u1] >>= fun _ => pure Flow.next) _ _ _
  refine wpAny_bind (assignInOrder_cons (wpAny_bindName (store_ok I3 hN hj (.inl hy) rw' (fun s2 I4 => ?_) (.inr hy))))
  refine assignInOrder_cons (wpAny_bindName (store_ok I4 hN hi (.inl hx) rv (fun s3 I5 => assignInOrder_nil (wpAny_pure ?_)) (.inr hx)))
  rw [List.set_comm _ _ (Ne.symm hij)] at I5
  exact ⟨_, H1, I5, q1⟩
end

/-! ### while -/
section
variable {X : Cx} {pos : Pos}
/-- the invariant W with its measure -/
noncomputable def tWhile (c : TT) (tb : TS) : TS := fun D σ H => ∃ W : Nat → St → Hp → Prop, (∃ m, W m σ H) ∧ ∀ m σ H, W m σ H →
  c σ H fun b H1 => if b = true then ∃ N : St → Hp → Prop, (∀ σ' H', N σ' H' → ∃ m', m' < m ∧ W m' σ' H') ∧ tb { D with nx := N, ct := N, bk := D.nx } σ H1 else D.nx σ H1
theorem ps_while {c : Expr} {body : List Stmt} {tc : TT} {tb : TS} (hp : PassesOwn (model X.prog X.w) X.A X.env X.xe) (hc : PT X c tc) (hb : PSs X body tb) : PS X (.While c body [] pos) (tWhile tc tb) := by
  intro pins s σ H D I h
  obtain ⟨W, ⟨m0, w0⟩, turn⟩ := h
  refine wpAny_While (codeAny_whileLoop (fun n s' => ∃ σ' H', Inv X pins σ' H' s' ∧ W n σ' H') ?_ m0 ⟨σ, H, I, w0⟩)
  rintro n s1 ⟨σ1, H1, I1, w1⟩
  refine wpAny_passesOwn hp (thn (hc s1 σ1 H1 _ I1 (turn n σ1 H1 w1)) fun b s2 ⟨H2, I2, q2⟩ => ?_)
  cases b with
  | true =>
    obtain ⟨N, hN, q2⟩ := q2
    rw [if_pos rfl]
    refine wpAny_passesOwn hp (thn (hb s2 σ1 H2 _ I2 q2) fun f s3 q3 => ?_)
    cases f with
    | next =>
      obtain ⟨σ3, H3, I3, n3⟩ := q3
      obtain ⟨m', hm, w3⟩ := hN σ3 H3 n3
      exact ⟨m', hm, σ3, H3, I3, w3⟩
    | cont =>
      obtain ⟨σ3, H3, I3, n3⟩ := q3
      obtain ⟨m', hm, w3⟩ := hN σ3 H3 n3
      exact ⟨m', hm, σ3, H3, I3, w3⟩
    | brk => exact q3
    | ret v => exact q3
  | false =>
    rw [if_neg Bool.false_ne_true]
    exact wpAny_execs_nil ⟨σ1, H2, I2, q2⟩
end

/-! ### what a loop or a comprehension walks -/
/-- at turn i: it yields x (the heap may grow), or it stops -/
structure It where
  go : Nat → Hp → Prop
  yld : Nat → Hp → V → Hp → Prop
  stop : Nat → Hp → Prop
/-- the iterator's own objects may turn: they are not the frame's, not pinned, younger than the entry (or a comprehension's own) -/
noncomputable def FpOk (X : Cx) (pins : List (Addr × Obj)) (H : Hp) (b : Addr) : Prop :=
  H b = none ∧ b ≠ X.env.locals ∧ b ∉ X.fs ∧ (b ∈ X.ex ∨ X.s₀.heap.objs.size ≤ b) ∧ (∀ x c, X.env.cells.lookup x = some c → c ≠ b) ∧ ∀ p ∈ X.pn ++ pins, p.1 ≠ b
theorem Inv.fpOk {X : Cx} {pins : List (Addr × Obj)} {σ : St} {H H' : Hp} {s : Shared} {b : Addr} (I : Inv X pins σ H s) (hb : s.heap.objs.size ≤ b) (hn : H' b = none) : FpOk X pins H' b := by
  refine ⟨hn, Nat.ne_of_gt (Nat.lt_of_lt_of_le I.lt hb), I.nofs hb, .inr (Nat.le_trans I.sz hb), fun x c e z => ?_, fun p hp z => ?_⟩
  · obtain ⟨v, q⟩ := I.cell x c e
    exact absurd (Nat.lt_of_lt_of_le q.lt (by rw [z]; exact hb)) (Nat.lt_irrefl _)
  · exact absurd (Nat.lt_of_lt_of_le (Heap.lt_size (I.pin p hp).1) (by rw [z]; exact hb)) (Nat.lt_irrefl _)
structure Turn (P : Program) (w : World) (K : PySem.W.Frag) (tg : Expr) (J : It) (fp : List Addr) (it : Addr) (tn : Nat → Heap → Prop) : Prop where
  mem : it ∈ fp
  obj : ∀ i h, tn i h → ∀ b ∈ fp, ∃ o, h.get? b = some o ∧ ∀ v, o.data ≠ .cell v
  keep : ∀ i h h', tn i h → (∀ b ∈ fp, ∀ o, h.get? b = some o → h'.get? b = some o) → tn i h'
  item : ∀ (X : Cx), X.prog = P → X.w = w → X.K = K → X.calm = true → ∀ (i : Nat) (pins : List (Addr × Obj)) (s : Shared) (σ : St) (H : Hp) (E : Value → Shared → Prop), Inv X pins σ H s → (∀ b ∈ fp, FpOk X pins H b) → tn i s.heap → J.go i H →
    wpAny (model P w) X.A (pyNext (.ref it)) (fun r s1 => ∃ u, r = some u ∧
      wpAny (model P w) X.A (letOwnedTupleGo tg (.ref it) u) (fun _ s2 => ∃ x H', Inv X pins σ H' s2 ∧ RelV x u ∧ J.yld i H x H' ∧ tn (i + 1) s2.heap ∧ ∀ b ∈ fp, H' b = none) E s1) E s
  done : ∀ (X : Cx), X.prog = P → X.w = w → X.K = K → X.calm = true → ∀ (i : Nat) (pins : List (Addr × Obj)) (s : Shared) (σ : St) (H : Hp) (E : Value → Shared → Prop), Inv X pins σ H s → (∀ b ∈ fp, FpOk X pins H b) → tn i s.heap → J.stop i H →
    wpAny (model P w) X.A (pyNext (.ref it)) (fun r s1 => r = none ∧ Inv X pins σ H s1) E s
  self : ∀ (A : Around) (i : Nat) (s : Shared) (Q : Value → Shared → Prop) (E : Value → Shared → Prop), tn i s.heap → Q (.ref it) s → wpAny (model P w) A (pyIter (.ref it)) Q E s
noncomputable abbrev TI := St → Hp → (It → Hp → Prop) → Prop
/-- an iterator has come -/
noncomputable def PIE (X : Cx) (pins : List (Addr × Obj)) (σ : St) (tg : Expr) (R : It → Hp → Prop) (itv : Value) (s2 : Shared) : Prop :=
  Ex5 fun (it : Addr) (fp : List Addr) (tn : Nat → Heap → Prop) (J : It) (H' : Hp) => itv = .ref it ∧ Inv X pins σ H' s2 ∧ Turn X.prog X.w X.K tg J fp it tn ∧ tn 0 s2.heap ∧ (∀ b ∈ fp, FpOk X pins H' b) ∧ R J H'
noncomputable def PI (X : Cx) (tg iter : Expr) (wi : TI) : Prop :=
  ∀ ⦃pins : List (Addr × Obj)⦄ (s : Shared) (σ : St) (H : Hp) (R : It → Hp → Prop), Inv X pins σ H s → wi σ H R →
    wpAny (model X.prog X.w) X.A (eval iter X.env) (fun v s1 => wpAny (model X.prog X.w) X.A (pyIter v) (PIE X pins σ tg R) X.xe s1) X.xe s

/-- the step ahead of the store is nothing for an iterator that keeps no tuple -/
theorem go_of {M : Model} {A : Around} {E : Value → Shared → Prop} {s : Shared} {tg : Expr} {it : Addr} {u : Value} {o : Obj} {n : String} {vs : Array Value} {Q : Unit → Shared → Prop} (ho : s.heap.get? it = some o) (hc : o.cls = .type n) (hd : o.data = .fields vs)
    (hn : ["enumerate", "zip", "dict_itemiterator", "dict_reverseitemiterator", "odict_iterator", "itertools.zip_longest", "itertools.pairwise"].contains n = false) (hQ : Q () s) : wpAny M A (letOwnedTupleGo tg (.ref it) u) Q E s := by
  unfold letOwnedTupleGo
  cases tg <;> first
    | exact wpAny_pure hQ
    | (cases u <;> first
        | exact wpAny_pure hQ
        | (refine wpAny_bind (wpAny_load ho ?_)
           rw [hc, hd]
           show wpAny M A (if (["enumerate", "zip", "dict_itemiterator", "dict_reverseitemiterator", "odict_iterator", "itertools.zip_longest", "itertools.pairwise"].contains n && vs[0]? == some (rawInt _)) = true then _ else _) Q E s
           rw [if_neg (by intro h; rw [hn, Bool.false_and] at h; cases h)]
           exact wpAny_pure hQ))

/-- the list at a, as it stands at each turn (a loop may append to it) -/
noncomputable def Itl (K : PySem.W.Frag) (a : Addr) : It :=
  ⟨fun i H => Ex2 fun xs x => SqL K H a xs ∧ xs[i]? = some x, fun i H x H' => H' = H ∧ ∀ xs, SqL K H a xs → xs[i]? = some x, fun i H => ∃ xs, SqL K H a xs ∧ xs.length ≤ i⟩
/-- lo, lo + 1, .. (n of them) -/
noncomputable def Itr (lo : Int) (n : Nat) : It := ⟨fun i _ => i < n, fun i H x H' => H' = H ∧ x = .int (lo + i), fun i _ => n ≤ i⟩
theorem turn_list {P : Program} {w : World} {K : PySem.W.Frag} {tg : Expr} (a it : Addr) : Turn P w K tg (Itl K a) [it] it (fun i h => h.IsListIter it a i) where
  mem := by simp
  obj := fun i h st b hb => by
    have e : b = it := by simpa using hb
    subst e
    obtain ⟨o, e, c, d⟩ := st
    exact ⟨o, e, fun v z => by rw [d] at z; cases z⟩
  keep := fun i h h' st k => st.at fun o e => k it (by simp) o e
  item := by
    intro X hP hw hK hc i pins s σ H E I hf st hg
    subst hP hw hK
    obtain ⟨xs, x, hq, hx⟩ := hg
    obtain ⟨its, rv, p, hz⟩ := I.list hq
    obtain ⟨u, hu, ru⟩ := rv.get hx
    obtain ⟨f0, f1, f2, f3, f4, f5⟩ := hf it (by simp)
    refine wpAny_pyNext_list_item st p.isList (x := u) (by simpa using hu) fun h' st' sb => ?_
    have I1 : Inv X pins σ H { s with heap := h' } := I.turned (t' := s.toks) (fun b o hb e => (sb.2 b hb).trans e) f0 f1 f3 f4 f5
    obtain ⟨o, e, c, d⟩ := id st'
    exact ⟨u, rfl, go_of (s := { s with heap := h' }) e c d (by decide) ⟨x, H, I1, ru, ⟨rfl, fun ys hy => by rw [I.list_inj hy hq]; exact hx⟩, st', fun b hb => (hf b hb).1⟩⟩
  done := by
    intro X hP hw hK hc i pins s σ H E I hf st hg
    subst hP hw hK
    obtain ⟨xs, hq, hx⟩ := hg
    obtain ⟨its, rv, p, hz⟩ := I.list hq
    obtain ⟨f0, f1, f2, f3, f4, f5⟩ := hf it (by simp)
    have hl := rv.length
    exact wpAny_pyNext_list_end (I.ok.hd hc) st p.isList (by simp; (first | lia | omega)) fun h' eb => ⟨rfl, I.turned (t' := s.toks) (fun b o hb e => eb b o hb e) f0 f1 f3 f4 f5⟩
  self := fun _ _ _ _ _ st h => wpAny_pyIter_listiter st h
theorem turn_range {P : Program} {w : World} {K : PySem.W.Frag} {tg : Expr} (it : Addr) (lo : Int) (n : Nat) : Turn P w K tg (Itr lo n) [it] it (fun i h => IsRangeIter h it (lo + (i : Nat) * 1) ((n : Int) - (i : Nat)) 1) where
  mem := by simp
  obj := fun i h st b hb => by
    have e : b = it := by simpa using hb
    subst e
    exact ⟨_, st, fun v z => by
      have z' : Data.fields _ = Data.cell v := z
      cases z'⟩
  keep := fun i h h' st k => k it (by simp) _ st
  item := by
    intro X hP hw hK hc i pins s σ H E I hf st hg
    subst hP hw hK
    obtain ⟨f0, f1, f2, f3, f4, f5⟩ := hf it (by simp)
    have W := Walks.range (prog := X.prog) (w := X.w) (I.ok.hd hc) it lo 1 n
    refine W.item i s _ _ hg st fun v h' tk hv st' kk => ?_
    obtain ⟨t, rfl⟩ := hv
    have I1 : Inv X pins σ H { s with heap := h', toks := tk } := I.turned (fun b o hb e => kk b o (by simpa using hb) e) f0 f1 f3 f4 f5
    refine ⟨_, rfl, go_of (s := { s with heap := h', toks := tk }) (n := "range_iterator") st' rfl rfl (by decide) ⟨.int (lo + i), H, I1, ⟨t, ?_⟩, ⟨rfl, rfl⟩, st', fun b hb => (hf b hb).1⟩⟩
    rw [Int.mul_one]
  done := by
    intro X hP hw hK hc i pins s σ H E I hf st hg
    subst hP hw hK
    obtain ⟨f0, f1, f2, f3, f4, f5⟩ := hf it (by simp)
    exact wpAny_pyNext_range_end (I.ok.hd hc) st (by have : n ≤ i := hg; (first | lia | omega)) fun h' eb => ⟨rfl, I.turned (t' := s.toks) (fun b o hb e => eb b o hb e) f0 f1 f3 f4 f5⟩
  self := fun _ _ _ _ _ st h => wpAny_pyIter_rangeiter st h
end L2

namespace L2
open PySem PySem.Spec PyProof.Rows
section
variable {X : Cx} {tg : Expr}
noncomputable def iList (K : PySem.W.Frag) (tl : TE) : TI := fun σ H R => tl σ H fun x H1 => ∃ a, x = .ref a ∧ (∃ xs, SqL K H1 a xs) ∧ R (Itl K a) H1
theorem pi_list {l : Expr} {tl : TE} (hl : PE X l tl) : PI X tg l (iList X.K tl) := by
  intro pins s σ H R I h
  refine thn (hl s σ H _ I h) fun v s1 ⟨x, H1, I1, r1, q1⟩ => ?_
  obtain ⟨a, e, ⟨xs, hq⟩, q⟩ := q1
  subst e
  cases r1
  obtain ⟨its, rv, p, hz⟩ := I1.list hq
  refine wpAny_pyIter_list p.isList ?_
  refine ⟨s1.heap.objs.size, [s1.heap.objs.size], _, _, H1, rfl, I1.kept (t' := s1.toks) fun b o e => Heap.get?_push_of_some _ e, turn_list a _, ⟨_, Heap.get?_push_size _ rfl, rfl, rfl⟩, fun b hb => ?_, q⟩
  have e : b = s1.heap.objs.size := by simpa using hb
  subst e
  exact I1.fpOk (Nat.le_refl _) (I1.hok.fresh (Nat.le_refl _))
/-- a range object just made, walked -/
theorem range_it {pins : List (Addr × Obj)} {σ : St} {H : Hp} {s : Shared} {R : It → Hp → Prop} {E : Value → Shared → Prop} {lo hi : Int} {t u v : Tok} {tk : Nat} (I : Inv X pins σ H s) (h1 : -(2 ^ 62) ≤ lo) (h2 : lo < 2 ^ 62) (h3 : -(2 ^ 62) ≤ hi) (h4 : hi < 2 ^ 62)
    (q : R (Itr lo (hi - lo).toNat) H) : wpAny (model X.prog X.w) X.A (pyIter (.ref s.heap.objs.size)) (PIE X pins σ tg R) E { s with heap := s.heap.push { cls := .type "range", data := .fields #[.int lo t, .int hi u, .int 1 v] }, toks := tk } := by
  refine wpAny_pyIter_range (IsRange.new ..) (small_one h1 h2 h3 h4) ?_
  have I1 : Inv X pins σ H { s with heap := s.heap.push { cls := .type "range", data := .fields #[.int lo t, .int hi u, .int 1 v] }, toks := tk } := I.kept fun b o e => Heap.get?_push_of_some _ e
  refine ⟨(s.heap.push { cls := .type "range", data := .fields #[.int lo t, .int hi u, .int 1 v] }).objs.size, [(s.heap.push { cls := .type "range", data := .fields #[.int lo t, .int hi u, .int 1 v] }).objs.size], _, _, H, rfl,
    I1.kept (t' := tk) fun b o e => Heap.get?_push_of_some _ e, turn_range _ lo (hi - lo).toNat, ?_, fun b hb => ?_, q⟩
  · have e1 : lo + ((0 : Nat) : Int) * 1 = lo := by simp
    have e2 : (((hi - lo).toNat : Nat) : Int) - ((0 : Nat) : Int) = Builtin.Range.rangeSize lo hi 1 := by rw [rangeSize_one]; split <;> (first | lia | omega)
    show IsRangeIter _ _ (lo + ((0 : Nat) : Int) * 1) ((((hi - lo).toNat : Nat) : Int) - ((0 : Nat) : Int)) 1
    rw [e1, e2]
    exact Heap.get?_push_size _ rfl
  · have e : b = (s.heap.push { cls := .type "range", data := .fields #[.int lo t, .int hi u, .int 1 v] }).objs.size := by simpa using hb
    subst e
    exact I1.fpOk (Nat.le_refl _) (I1.hok.fresh (Nat.le_refl _))
noncomputable def iRng1 (ta : TA) : TI := fun σ H R => ta σ H fun vs H1 => ∃ j : Int, vs = [.int j] ∧ -(2 ^ 62) ≤ j ∧ j < 2 ^ 62 ∧ R (Itr 0 j.toNat) H1
theorem pi_range1 {a : Expr} {ta : TA} {p pos : Pos} (hg : Gl X "range") (hm : X.mg "range" = none) (ha : PA X [a] ta) (hs : starEach [a] X.env = [(false, eval a X.env)] := by rfl) : PI X tg (.Call (.Name "range" p) [a] [] pos) (iRng1 ta) := by
  intro pins s σ H R I h
  refine Call_ (ld_blt I hg hm boot_range (PyProof.Rows.callWith_type1 (thn (ha s σ H _ I h) fun us s1 ⟨vs, H1, I1, r1, q1⟩ => ?_) hs rfl))
  obtain ⟨j, e, q1, q2, q⟩ := q1
  subst e
  cases r1 with
  | cons r rr =>
    cases rr
    obtain ⟨t, rfl⟩ := r
    exact call_range_1 (range_it I1 (by (first | lia | omega)) (by (first | lia | omega)) q1 q2 (by simpa using q))
/-! ### for -/
/-- W: the invariant by the turn and a measure; N: what the body is to reach -/
noncomputable def tFor (wi : TI) (g : TG) (tb : TS) : TS := fun D σ H => wi σ H fun J H1 => ∃ W : Nat → Nat → St → Hp → Prop, (∃ m, W 0 m σ H1) ∧ ∀ i m σ H, W i m σ H →
  (J.stop i H ∧ D.nx σ H) ∨ (J.go i H ∧ ∃ N : St → Hp → Prop, (∀ σ' H', N σ' H' → ∃ m', m' < m ∧ W (i + 1) m' σ' H') ∧ ∀ x H', J.yld i H x H' → g x σ H' fun σ2 H2 => tb { D with nx := N, ct := N, bk := D.nx } σ2 H2)
/-- the records at fp as they stand -/
noncomputable def pinsAt (fp : List Addr) (h : Heap) : List (Addr × Obj) := fp.filterMap fun b => (h.get? b).map fun o => (b, o)
theorem mem_pinsAt {fp : List Addr} {h : Heap} {b : Addr} {o : Obj} (hb : b ∈ fp) (e : h.get? b = some o) : (b, o) ∈ pinsAt fp h := List.mem_filterMap.mpr ⟨b, hb, by rw [e]; rfl⟩
theorem of_pinsAt {fp : List Addr} {h : Heap} {p : Addr × Obj} (hp : p ∈ pinsAt fp h) : p.1 ∈ fp ∧ h.get? p.1 = some p.2 := by
  obtain ⟨b, hb, e⟩ := List.mem_filterMap.mp hp
  cases q : h.get? b with
  | none => rw [q] at e; cases e
  | some o =>
    rw [q] at e
    have e' : (b, o) = p := Option.some.inj e
    subst e'
    exact ⟨hb, q⟩
theorem Inv.pinned {pins : List (Addr × Obj)} {σ : St} {H : Hp} {s : Shared} {fp : List Addr} (I : Inv X pins σ H s) (hf : ∀ b ∈ fp, FpOk X pins H b) (ho : ∀ b ∈ fp, ∃ o, s.heap.get? b = some o ∧ ∀ v, o.data ≠ .cell v) : Inv X (pins ++ pinsAt fp s.heap) σ H s :=
  I.pins_of fun p hp => (List.mem_append.mp hp).elim (fun z => I.pin p (List.mem_append_right _ z)) fun z => by
    obtain ⟨hb, e⟩ := of_pinsAt z
    obtain ⟨f0, f1, f2, _⟩ := hf p.1 hb
    obtain ⟨o, e', d⟩ := ho p.1 hb
    rw [e] at e'; cases e'
    exact ⟨e, f0, f1, f2, d⟩
theorem Inv.unpinned {pins pl : List (Addr × Obj)} {σ : St} {H : Hp} {s : Shared} (I : Inv X (pins ++ pl) σ H s) : Inv X pins σ H s := I.pins_of fun p hp => I.pin p (List.mem_append_right _ (List.mem_append_left _ hp))
theorem ps_for {iter : Expr} {body : List Stmt} {wi : TI} {g : TG} {tb : TS} {pos : Pos} (hp : PassesOwn (model X.prog X.w) X.A X.env X.xe) (hc : X.calm = true) (hi : PI X tg iter wi) (hg : PG X tg g) (hb : PSs X body tb)
    (hs : ∀ x, foldedSetIterable iter X.env x = pure x := by intro _; rfl) : PS X (.For tg iter body [] pos) (tFor wi g tb) := by
  intro pins s σ H D I h
  refine wpAny_For (thn (hi s σ H _ I h) fun v s1 h1 => thn h1 fun itv s2 h2 => ?_) hs
  obtain ⟨it, fp, tn, J, H2, e, I2, T, st2, f2, W, ⟨m0, w0⟩, turn⟩ := h2
  subst e
  -- what stays true of the iterator's objects through the loop
  have stat : ∀ {H' : Hp}, (∀ b ∈ fp, H' b = none) → ∀ b ∈ fp, FpOk X pins H' b := fun hn b hb => ⟨hn b hb, (f2 b hb).2⟩
  refine codeAny_forLoop_any (fun n s' => ∃ i σ' H', Inv X pins σ' H' s' ∧ tn i s'.heap ∧ (∀ b ∈ fp, H' b = none) ∧ W i n σ' H') ?_ m0 ⟨0, σ, H2, I2, st2, fun b hb => (f2 b hb).1, w0⟩
  rintro n s3 ⟨i, σ3, H3, I3, st3, fr3, w3⟩
  rcases turn i n σ3 H3 w3 with ⟨stop, qn⟩ | ⟨go, N, hN, step⟩
  · refine wpAny_passesOwn hp (thn (T.done X rfl rfl rfl hc i pins s3 σ3 H3 X.xe I3 (stat fr3) st3 stop) fun r s4 ⟨hr, I4⟩ => ?_)
    subst hr
    exact wpAny_execs_nil ⟨σ3, H3, I4, qn⟩
  · refine wpAny_passesOwn hp (thn (T.item X rfl rfl rfl hc i pins s3 σ3 H3 X.xe I3 (stat fr3) st3 go) fun r s4 ⟨u, hr, h4⟩ => ?_)
    subst hr
    refine wpAny_passesOwn hp (thn h4 fun _ s5 ⟨x, H5, I5, r5, y5, st5, fr5⟩ => ?_)
    have I5' := I5.pinned (stat fr5) (T.obj _ _ st5)
    refine wpAny_passesOwn hp (thn (hg s5 σ3 H5 x u _ I5' r5 (step x H5 y5)) fun _ s6 ⟨σ6, H6, I6, q6⟩ => ?_)
    refine wpAny_passesOwn hp (thn (hb s6 σ6 H6 _ I6 q6) fun f s7 q7 => ?_)
    have again : ∀ {σ7 : St} {H7 : Hp}, Inv X (pins ++ pinsAt fp s5.heap) σ7 H7 s7 → N σ7 H7 → ∃ m, m < n ∧ ∃ i σ' H', Inv X pins σ' H' s7 ∧ tn i s7.heap ∧ (∀ b ∈ fp, H' b = none) ∧ W i m σ' H' := fun {σ7 H7} I7 n7 => by
      obtain ⟨m', hm, w7⟩ := hN σ7 H7 n7
      refine ⟨m', hm, i + 1, σ7, H7, I7.unpinned, T.keep _ _ _ st5 fun b hb o e => (I7.pin (b, o) (List.mem_append_right _ (List.mem_append_right _ (mem_pinsAt hb e)))).1, fun b hb => ?_, w7⟩
      obtain ⟨o, e, d⟩ := T.obj _ _ st5 b hb
      exact (I7.pin (b, o) (List.mem_append_right _ (List.mem_append_right _ (mem_pinsAt hb e)))).2.1
    cases f with
    | next => obtain ⟨σ7, H7, I7, n7⟩ := q7; exact again I7 n7
    | cont => obtain ⟨σ7, H7, I7, n7⟩ := q7; exact again I7 n7
    | brk => obtain ⟨σ7, H7, I7, q7⟩ := q7; exact ⟨σ7, H7, I7.unpinned, q7⟩
    | ret v => obtain ⟨x7, σ7, H7, I7, r7, q7⟩ := q7; exact ⟨x7, σ7, H7, I7.unpinned, r7, q7⟩
end

/-! ### the forms one uses -/
theorem for_range {lo : Int} {n : Nat} {g : TG} {tb : TS} {D : Ends} {σ : St} {H : Hp} (Pv : Nat → St → Hp → Prop) (h0 : Pv 0 σ H)
    (hs : ∀ i σ H, i < n → Pv i σ H → g (.int (lo + i)) σ H fun σ2 H2 => tb { D with nx := Pv (i + 1), ct := Pv (i + 1), bk := D.nx } σ2 H2) (hd : ∀ σ H, Pv n σ H → D.nx σ H) :
    ∃ W : Nat → Nat → St → Hp → Prop, (∃ m, W 0 m σ H) ∧ ∀ i m σ H, W i m σ H →
      ((Itr lo n).stop i H ∧ D.nx σ H) ∨ ((Itr lo n).go i H ∧ ∃ N : St → Hp → Prop, (∀ σ' H', N σ' H' → ∃ m', m' < m ∧ W (i + 1) m' σ' H') ∧ ∀ x H', (Itr lo n).yld i H x H' → g x σ H' fun σ2 H2 => tb { D with nx := N, ct := N, bk := D.nx } σ2 H2) := by
  refine ⟨fun i m σ H => m = n - i ∧ i ≤ n ∧ Pv i σ H, ⟨n, by simp, Nat.zero_le _, h0⟩, ?_⟩
  rintro i m σ H ⟨rfl, hi, p⟩
  by_cases hlt : i < n
  · refine .inr ⟨hlt, Pv (i + 1), fun σ' H' p' => ⟨n - (i + 1), by (first | lia | omega), rfl, hlt, p'⟩, fun x H' y => ?_⟩
    obtain ⟨e, y⟩ := y
    subst e y
    exact hs i σ _ hlt p
  · have e : i = n := by (first | lia | omega)
    subst e
    exact .inl ⟨Nat.le_refl _, hd σ H p⟩
end L2

namespace L2
open PySem PySem.Spec PyProof.Rows

noncomputable abbrev R2 := V → V → Hp → VK → Prop
/-- a two-place operation on values: f is binaryOp op, inplaceOp op or compareOp op -/
noncomputable def OpR (X : Cx) (f : Value → Value → Sem Value) (r : R2) : Prop :=
  ∀ ⦃pins : List (Addr × Obj)⦄ (s : Shared) (σ : St) (H : Hp) (x y : V) (v u : Value) (Q : VK), Inv X pins σ H s → RelV x v → RelV y u → r x y H Q →
    wpAny (model X.prog X.w) X.A (f v u) (EP X pins σ Q) X.xe s
/-- a one-place operation -/
noncomputable def UnR (X : Cx) (f : Value → Sem Value) (r : V → Hp → VK → Prop) : Prop :=
  ∀ ⦃pins : List (Addr × Obj)⦄ (s : Shared) (σ : St) (H : Hp) (x : V) (v : Value) (Q : VK), Inv X pins σ H s → RelV x v → r x H Q →
    wpAny (model X.prog X.w) X.A (f v) (EP X pins σ Q) X.xe s
/-- a call of a value that is known (a builtin, a type) with values -/
noncomputable def CallR (X : Cx) (f : Value) (r : List V → Hp → VK → Prop) : Prop :=
  ∀ ⦃pins : List (Addr × Obj)⦄ (s : Shared) (σ : St) (H : Hp) (xs : List V) (us : List Value) (Q : VK), Inv X pins σ H s → Vals xs us → r xs H Q →
    wpAny (model X.prog X.w) X.A (call f us) (EP X pins σ Q) X.xe s
/-- a value's truth -/
noncomputable def TruR (X : Cx) (r : V → Hp → (Bool → Hp → Prop) → Prop) : Prop :=
  ∀ ⦃pins : List (Addr × Obj)⦄ (s : Shared) (σ : St) (H : Hp) (x : V) (v : Value) (Q : Bool → Hp → Prop), Inv X pins σ H s → RelV x v → r x H Q →
    wpAny (model X.prog X.w) X.A (truthy v) (TP X pins σ Q) X.xe s

noncomputable def tOp (r : R2) (ta tb : TE) : TE := fun σ H Q => ta σ H fun x H1 => tb σ H1 fun y H2 => r x y H2 Q
noncomputable def tUn (r : V → Hp → VK → Prop) (ta : TE) : TE := fun σ H Q => ta σ H fun x H1 => r x H1 Q
/-- ints in, under C, and a value out -/
noncomputable def rI (C : Int → Int → Prop) (g : Int → Int → V) : R2 := fun x y H Q => Ex2 fun i j => x = .int i ∧ y = .int j ∧ C i j ∧ Q (g i j) H
noncomputable def rI0 (g : Int → Int → V) : R2 := fun x y H Q => Ex2 fun i j => x = .int i ∧ y = .int j ∧ Q (g i j) H
noncomputable def rU (g : Int → V) : V → Hp → VK → Prop := fun x H Q => ∃ i, x = .int i ∧ Q (g i) H

section
variable {X : Cx} {a b c : Expr} {ta tb tc : TE} {pos : Pos}

theorem binT (ha : PE X a ta) (hb : PE X b tb) {pins : List (Addr × Obj)} {s : Shared} {σ : St} {H : Hp} {R : V → V → Hp → Prop} (I : Inv X pins σ H s)
    (h : ta σ H fun x H1 => tb σ H1 fun y H2 => R x y H2) {Q : Value → Shared → Prop} {f : Value → Value → Sem Value}
    (hf : ∀ v u s2 x y H2, Inv X pins σ H2 s2 → RelV x v → RelV y u → R x y H2 → wpAny (model X.prog X.w) X.A (f v u) Q X.xe s2) :
    wpAny (model X.prog X.w) X.A (eval a X.env) (fun v s₁ => wpAny (model X.prog X.w) X.A (eval b X.env) (fun u s₂ => wpAny (model X.prog X.w) X.A (f v u) Q X.xe s₂) X.xe s₁) X.xe s := by
  refine thn (ha s σ H _ I h) fun v s1 ⟨x, H1, I1, r1, q1⟩ => ?_
  refine thn (hb s1 σ H1 _ I1 q1) fun u s2 ⟨y, H2, I2, r2, q2⟩ => ?_
  exact hf v u s2 x y H2 I2 r1 r2 q2

theorem pe_op {op : Operator} {r : R2} (ho : OpR X (binaryOp op) r) (ha : PE X a ta) (hb : PE X b tb) : PE X (.BinOp a op b pos) (tOp r ta tb) := by
  intro pins s σ H Q I h
  exact wpAny_BinOp (binT ha hb I h fun v u s2 x y H2 I2 rx ry q => ho s2 σ H2 x y v u Q I2 rx ry q)
theorem pe_un {op : UnaryOp} {r : V → Hp → VK → Prop} (ho : UnR X (unaryOp op) r) (ha : PE X a ta) : PE X (.UnaryOp op a pos) (tUn r ta) := by
  intro pins s σ H Q I h
  exact UnaryOp_ (thn (ha s σ H _ I h) fun v s1 ⟨x, H1, I1, r1, q1⟩ => ho s1 σ H1 x v Q I1 r1 q1)
/-! ### ints -/
theorem opI {f : Value → Value → Sem Value} {C : Int → Int → Prop} {g : Int → Int → Int}
    (rule : ∀ (i j : Int) (t u : Tok) (s : Shared) (Q : Value → Shared → Prop) (E : Value → Shared → Prop), C i j → Q (.int (g i j) s.toks) { s with toks := s.toks + 1 } → wpAny (model X.prog X.w) X.A (f (.int i t) (.int j u)) Q E s) :
    OpR X f (rI C fun i j => .int (g i j)) := by
  intro pins s σ H x y v u Q I rx ry h
  obtain ⟨i, j, rfl, rfl, hc, q⟩ := h
  obtain ⟨t, rfl⟩ := rx
  obtain ⟨t', rfl⟩ := ry
  exact rule i j t t' s _ _ hc ⟨.int (g i j), H, I.tok _, ⟨_, rfl⟩, q⟩
theorem opI0 {f : Value → Value → Sem Value} {g : Int → Int → Int}
    (rule : ∀ (i j : Int) (t u : Tok) (s : Shared) (Q : Value → Shared → Prop) (E : Value → Shared → Prop), Q (.int (g i j) s.toks) { s with toks := s.toks + 1 } → wpAny (model X.prog X.w) X.A (f (.int i t) (.int j u)) Q E s) :
    OpR X f (rI0 fun i j => .int (g i j)) := by
  intro pins s σ H x y v u Q I rx ry h
  obtain ⟨i, j, rfl, rfl, q⟩ := h
  obtain ⟨t, rfl⟩ := rx
  obtain ⟨t', rfl⟩ := ry
  exact rule i j t t' s _ _ ⟨.int (g i j), H, I.tok _, ⟨_, rfl⟩, q⟩
theorem opB0 {f : Value → Value → Sem Value} {g : Int → Int → Bool}
    (rule : ∀ (i j : Int) (t u : Tok) (s : Shared) (Q : Value → Shared → Prop) (E : Value → Shared → Prop), Q (.bool (g i j)) s → wpAny (model X.prog X.w) X.A (f (.int i t) (.int j u)) Q E s) :
    OpR X f (rI0 fun i j => .bl (g i j)) := by
  intro pins s σ H x y v u Q I rx ry h
  obtain ⟨i, j, rfl, rfl, q⟩ := h
  obtain ⟨t, rfl⟩ := rx
  obtain ⟨t', rfl⟩ := ry
  exact rule i j t t' s _ _ ⟨.bl (g i j), H, I, rfl, q⟩

noncomputable def CDiv (i j : Int) : Prop := 0 < j ∧ j < 1073741824
noncomputable def CPow (i j : Int) : Prop := 0 ≤ j ∧ j ≤ 1000000 ∧ i.natAbs < 2 ^ 64
noncomputable def CMul (i j : Int) : Prop := (-(2 ^ 64) < i ∧ i < 2 ^ 64) ∨ (-(2 ^ 64) < j ∧ j < 2 ^ 64)
theorem CMul.ok {i j : Int} (h : CMul i j) : IntMulOk i j := by
  rcases h with ⟨h1, h2⟩ | ⟨h1, h2⟩
  · exact .of_left (intBits_le_64 h1 h2)
  · exact .of_right (intBits_le_64 h1 h2)
theorem op_add : OpR X (binaryOp .Add) (rI0 fun i j => .int (i + j)) := opI0 fun _ _ _ _ _ _ _ q => add_int q
theorem op_mul : OpR X (binaryOp .Mult) (rI CMul fun i j => .int (i * j)) := opI fun _ _ _ _ _ _ _ hc q => mul_int q hc.ok
/-- // by a positive divisor -/
theorem op_fdiv : OpR X (binaryOp .FloorDiv) (rI CDiv fun i j => .int (i / j)) := opI fun i j _ _ _ _ _ hc q => by
  have h1 : (0 : Int) < j := hc.1
  have h2 : j < 1073741824 := hc.2
  exact floordiv_int (by (first | lia | omega)) (by rw [Int.fdiv_eq_ediv_of_nonneg i (by (first | lia | omega))]; exact q) (.inl (PyProof.noPylong_small (by (first | lia | omega))))
/-- % by a positive divisor of any size -/
theorem op_mod : OpR X (binaryOp .Mod) (rI (fun _ j => 0 < j) fun i j => .int (i % j)) := opI fun i j _ _ _ _ _ hc q => by
  have h1 : (0 : Int) < j := hc
  exact mod_int' (by (first | lia | omega)) (by rw [Int.fmod_eq_emod_of_nonneg i (by (first | lia | omega))]; exact q)
theorem op_pow : OpR X (binaryOp .Pow) (rI CPow fun i j => .int (i ^ j.toNat)) := opI fun _ _ _ _ _ _ _ hc q => pow_int_small hc.1 hc.2.1 hc.2.2 q
theorem unI {f : Value → Sem Value} {g : Int → Int}
    (rule : ∀ (i : Int) (t : Tok) (s : Shared) (Q : Value → Shared → Prop) (E : Value → Shared → Prop), Q (.int (g i) s.toks) { s with toks := s.toks + 1 } → wpAny (model X.prog X.w) X.A (f (.int i t)) Q E s) :
    UnR X f (rU fun i => .int (g i)) := by
  intro pins s σ H x v Q I rx h
  obtain ⟨i, rfl, q⟩ := h
  obtain ⟨t, rfl⟩ := rx
  exact rule i t s _ _ ⟨.int (g i), H, I.tok _, ⟨_, rfl⟩, q⟩
theorem un_neg : UnR X (unaryOp .USub) (rU fun i => .int (-i)) := unI fun _ _ _ _ _ q => neg_int q
/-! ### bools among ints: n += (a < b) -/
end

/-! ### comparisons -/
/-- the scalars that == tells apart as data does -/
noncomputable def scal : V → V → Bool
  | .non, .non => true | .non, .int _ => true | .int _, .non => true | .non, .bl _ => true | .bl _, .non => true | .non, .str _ => true | .str _, .non => true
  | .int _, .int _ => true | .bl _, .bl _ => true | .str _, .str _ => true | .byt _, .byt _ => true
  | .int _, .str _ => true | .str _, .int _ => true | .bl _, .str _ => true | .str _, .bl _ => true
  | _, _ => false
noncomputable def rEq : R2 := fun x y H Q => scal x y = true ∧ Q (.bl (decide (x = y))) H
noncomputable def rNe : R2 := fun x y H Q => scal x y = true ∧ Q (.bl (!decide (x = y))) H

theorem dec_int {i j : Int} : decide (V.int i = V.int j) = (i == j) := by
  rw [Bool.eq_iff_iff]
  simp
theorem dec_bl {i j : Bool} : decide (V.bl i = V.bl j) = (i == j) := by
  rw [Bool.eq_iff_iff]
  simp
theorem dec_str {i j : Str} : decide (V.str i = V.str j) = (i == j) := by
  rw [Bool.eq_iff_iff]
  simp
theorem dec_byt {i j : Array UInt8} : decide (V.byt i = V.byt j) = (i.toList == j.toList) := by
  rw [Bool.eq_iff_iff]
  cases i
  cases j
  simp

section
variable {X : Cx} {a b c : Expr} {ta tb tc : TE} {pos : Pos}
theorem fin_bl {pins : List (Addr × Obj)} {σ : St} {H : Hp} {s : Shared} {Q : VK} {k k' : Bool} (I : Inv X pins σ H s) (q : Q (.bl k) H) (e : k = k') : EP X pins σ Q (.bool k') s := by
  subst e
  exact ⟨.bl k, H, I, rfl, q⟩
theorem op_eq : OpR X (compareOp .Eq) rEq := by
  intro pins s σ H x y v u Q I rx ry h
  obtain ⟨hs, q⟩ := h
  cases x with
  | non =>
    cases rx
    cases y with
    | non => cases ry; exact PySem.EqNone.eq_none_none (fin_bl I q (by simp))
    | bl j => cases ry; exact PySem.EqNone.eq_none_bool (fin_bl I q (by simp))
    | int j => obtain ⟨t', rfl⟩ := ry; exact PySem.EqNone.eq_none_int (fin_bl I q (by simp))
    | str j => obtain ⟨t', rfl⟩ := ry; exact PySem.EqNone.eq_none_str (fin_bl I q (by simp))
    | _ => exact absurd (show false = true from hs) Bool.false_ne_true
  | bl i =>
    cases rx
    cases y with
    | non => cases ry; exact PySem.EqNone.eq_bool_none (fin_bl I q (by simp))
    | bl j => cases ry; exact eq_bool (fin_bl I q dec_bl)
    | str j => obtain ⟨t', rfl⟩ := ry; exact PySem.EqMixed.eq_bool_str (fin_bl I q (by simp))
    | _ => exact absurd (show false = true from hs) Bool.false_ne_true
  | int i =>
    obtain ⟨t, rfl⟩ := rx
    cases y with
    | non => cases ry; exact PySem.EqNone.eq_int_none (fin_bl I q (by simp))
    | int j => obtain ⟨t', rfl⟩ := ry; exact eq_int (fin_bl I q dec_int)
    | str j => obtain ⟨t', rfl⟩ := ry; exact PySem.EqMixed.eq_int_str (fin_bl I q (by simp))
    | _ => exact absurd (show false = true from hs) Bool.false_ne_true
  | str i =>
    obtain ⟨t, rfl⟩ := rx
    cases y with
    | non => cases ry; exact PySem.EqNone.eq_str_none (fin_bl I q (by simp))
    | bl j => cases ry; exact PySem.EqMixed.eq_str_bool (fin_bl I q (by simp))
    | int j => obtain ⟨t', rfl⟩ := ry; exact PySem.EqMixed.eq_str_int (fin_bl I q (by simp))
    | str j => obtain ⟨t', rfl⟩ := ry; exact eq_str (fin_bl I q dec_str)
    | _ => exact absurd (show false = true from hs) Bool.false_ne_true
  | byt i =>
    obtain ⟨t, rfl⟩ := rx
    cases y with
    | byt j => obtain ⟨t', rfl⟩ := ry; exact PySem.W.eq_bytes (fin_bl I q dec_byt)
    | _ => exact absurd (show false = true from hs) Bool.false_ne_true
  | _ => cases y <;> exact absurd (show false = true from hs) Bool.false_ne_true
theorem op_ne : OpR X (compareOp .NotEq) rNe := by
  intro pins s σ H x y v u Q I rx ry h
  obtain ⟨hs, q⟩ := h
  cases x with
  | non =>
    cases rx
    cases y with
    | non => cases ry; exact PySem.EqNone.ne_none_none (fin_bl I q (by simp))
    | bl j => cases ry; exact PySem.EqNone.ne_none_bool (fin_bl I q (by simp))
    | int j => obtain ⟨t', rfl⟩ := ry; exact PySem.EqNone.ne_none_int (fin_bl I q (by simp))
    | str j => obtain ⟨t', rfl⟩ := ry; exact PySem.EqNone.ne_none_str (fin_bl I q (by simp))
    | _ => exact absurd (show false = true from hs) Bool.false_ne_true
  | bl i =>
    cases rx
    cases y with
    | non => cases ry; exact PySem.EqNone.ne_bool_none (fin_bl I q (by simp))
    | bl j => cases ry; exact ne_bool (fin_bl I q (congrArg not dec_bl))
    | str j => obtain ⟨t', rfl⟩ := ry; exact PySem.EqMixed.ne_bool_str (fin_bl I q (by simp))
    | _ => exact absurd (show false = true from hs) Bool.false_ne_true
  | int i =>
    obtain ⟨t, rfl⟩ := rx
    cases y with
    | non => cases ry; exact PySem.EqNone.ne_int_none (fin_bl I q (by simp))
    | int j => obtain ⟨t', rfl⟩ := ry; exact ne_int (fin_bl I q (congrArg not dec_int))
    | str j => obtain ⟨t', rfl⟩ := ry; exact PySem.EqMixed.ne_int_str (fin_bl I q (by simp))
    | _ => exact absurd (show false = true from hs) Bool.false_ne_true
  | str i =>
    obtain ⟨t, rfl⟩ := rx
    cases y with
    | non => cases ry; exact PySem.EqNone.ne_str_none (fin_bl I q (by simp))
    | bl j => cases ry; exact PySem.EqMixed.ne_str_bool (fin_bl I q (by simp))
    | int j => obtain ⟨t', rfl⟩ := ry; exact PySem.EqMixed.ne_str_int (fin_bl I q (by simp))
    | str j => obtain ⟨t', rfl⟩ := ry; exact ne_str (fin_bl I q (congrArg not dec_str))
    | _ => exact absurd (show false = true from hs) Bool.false_ne_true
  | byt i =>
    obtain ⟨t, rfl⟩ := rx
    cases y with
    | byt j => obtain ⟨t', rfl⟩ := ry; exact PySem.W.ne_bytes (fin_bl I q (congrArg not dec_byt))
    | _ => exact absurd (show false = true from hs) Bool.false_ne_true
  | _ => cases y <;> exact absurd (show false = true from hs) Bool.false_ne_true

theorem op_lt : OpR X (compareOp .Lt) (rI0 fun i j => .bl (decide (i < j))) := opB0 fun _ _ _ _ _ _ _ q => lt_int q
theorem op_gt : OpR X (compareOp .Gt) (rI0 fun i j => .bl (decide (j < i))) := opB0 fun _ _ _ _ _ _ _ q => gt_int q
theorem op_ge : OpR X (compareOp .GtE) (rI0 fun i j => .bl (decide (j ≤ i))) := opB0 fun _ _ _ _ _ _ _ q => ge_int q
/-- is None, is not None: the right side a value none -/
theorem op_isN : OpR X (compareOp .Is) (fun x y H Q => y = .non ∧ Q (.bl (decide (x = .non))) H) := by
  intro pins s σ H x y v u Q I rx ry h
  obtain ⟨rfl, q⟩ := h
  cases ry
  refine is_none_gen (fin_bl I q ?_)
  cases x <;> first
    | (cases rx; rfl)
    | (obtain ⟨t, rfl⟩ := rx; rfl)
theorem op_notN : OpR X (compareOp .IsNot) (fun x y H Q => y = .non ∧ Q (.bl (!decide (x = .non))) H) := by
  intro pins s σ H x y v u Q I rx ry h
  obtain ⟨rfl, q⟩ := h
  cases ry
  refine isnot_none_gen (fin_bl I q ?_)
  cases x <;> first
    | (cases rx; rfl)
    | (obtain ⟨t, rfl⟩ := rx; rfl)

/-- two rules for one operation: by cases -/
theorem OpR.or {f : Value → Value → Sem Value} {r r' : R2} (h : OpR X f r) (h' : OpR X f r') : OpR X f (fun x y H Q => r x y H Q ∨ r' x y H Q) := by
  intro pins s σ H x y v u Q I rx ry q
  rcases q with q | q
  · exact h s σ H x y v u Q I rx ry q
  · exact h' s σ H x y v u Q I rx ry q

theorem nomark (b : Expr) {op : CmpOp} (h : op ≠ .In := by decide) (h2 : op ≠ .NotIn := by decide) : behindInMarks op b = false := by
  have e1 : (op == CmpOp.In) = false := by cases op <;> first | rfl | exact absurd rfl h
  have e2 : (op == CmpOp.NotIn) = false := by cases op <;> first | rfl | exact absurd rfl h2
  cases b <;> simp [behindInMarks, e1, e2]
/-- a comparison as a value; hm: nomark b, or (for in, not in) by with_unfolding_all rfl -/
theorem pe_cmpR {op : CmpOp} {r : R2} (ho : OpR X (compareOp op) r) (ha : PE X a ta) (hb : PE X b tb) (hm : behindInMarks op b = false) : PE X (.Compare a [op] [b] pos) (tOp r ta tb) := by
  intro pins s σ H Q I h
  exact wpAny_Compare1 (binT ha hb I h fun v u s2 x y H2 I2 rx ry q => ho s2 σ H2 x y v u Q I2 rx ry q) hm
/-- a reading of a value as a test -/
noncomputable def tTest (t : TE) : TT := fun σ H Q => t σ H fun x H' => ∃ k, x = .bl k ∧ Q k H'
theorem pt_cmpR {op : CmpOp} {r : R2} (ho : OpR X (compareOp op) r) (ha : PE X a ta) (hb : PE X b tb) (hm : behindInMarks op b = false) : PT X (.Compare a [op] [b] pos) (tTest (tOp r ta tb)) := by
  intro pins s σ H Q I h
  refine wpAny_isTrue_Compare1 (thn (ha s σ H _ I h) fun v s1 ⟨x, H1, I1, r1, q1⟩ => thn (hb s1 σ H1 _ I1 q1) fun u s2 ⟨y, H2, I2, r2, q2⟩ =>
    thn (ho s2 σ H2 x y v u _ I2 r1 r2 q2) fun c s3 ⟨z, H3, I3, r3, k, e, q3⟩ => ?_) hm
  subst e
  cases r3
  exact wpAny_truthy_bool ⟨H3, I3, q3⟩
/-! ### truth -/
/-- a value's truth by the abstract heap -/
noncomputable def TruV (K : PySem.W.Frag) (x : V) (H : Hp) (k : Bool) : Prop :=
  match x with
  | .non => k = false
  | .bl b => k = b
  | .int i => k = (i != 0)
  | .str y => y.length ≤ sizeLine ∧ k = ((y.length : Int) != 0)
  | .byt y => y.size ≤ sizeLine ∧ k = ((y.size : Int) != 0)
  | .ref p => (∃ xs, SqL K H p xs ∧ k = !xs.isEmpty) ∨ (∃ xs, SqT K H p xs ∧ k = !xs.isEmpty) ∨ ∃ kvs, H p = some (.dK kvs) ∧ k = !kvs.isEmpty
  | _ => False
theorem isEmpty_kv {κ : Type} {kvs : List (κ × V)} {vs : List (κ × Value)} (r : KV kvs vs) : (!vs.isEmpty) = !kvs.isEmpty := by
  cases r <;> rfl
theorem isEmpty_of {xs : List V} {its : List Value} (r : Vals xs its) : (!its.toArray.isEmpty) = !xs.isEmpty := by
  cases r <;> simp
theorem line63 : (sizeLine : Nat) < 2 ^ 63 := by rw [sizeLine_eq]; decide
theorem tru_ok : TruR X (fun x H Q => ∃ k, TruV X.K x H k ∧ Q k H) := by
  intro pins s σ H x v Q I rx h
  obtain ⟨k, e, q⟩ := h
  have hl := line63
  have hs : sizeLine = 16777216 := sizeLine_eq
  cases x with
  | non =>
    cases rx
    have e' : k = false := e
    subst e'
    exact truthy_none ⟨H, I, q⟩
  | bl b =>
    cases rx
    have e' : k = b := e
    subst e'
    exact wpAny_truthy_bool ⟨H, I, q⟩
  | int i =>
    obtain ⟨t, rfl⟩ := rx
    have e' : k = (i != 0) := e
    subst e'
    exact PySem.P.truthy_int ⟨H, I, q⟩
  | str y =>
    obtain ⟨t, rfl⟩ := rx
    obtain ⟨hy, e'⟩ : y.length ≤ sizeLine ∧ k = ((y.length : Int) != 0) := e
    subst e'
    exact PySem.P.truthy_str (by (first | lia | omega)) ⟨H, I.tok _, q⟩
  | byt y =>
    obtain ⟨t, rfl⟩ := rx
    obtain ⟨hy, e'⟩ : y.size ≤ sizeLine ∧ k = ((y.size : Int) != 0) := e
    subst e'
    exact PySem.W.truthy_bytes (by (first | lia | omega)) ⟨H, I.tok _, q⟩
  | ref p =>
    cases rx
    have e' : (∃ xs, SqL X.K H p xs ∧ k = !xs.isEmpty) ∨ (∃ xs, SqT X.K H p xs ∧ k = !xs.isEmpty) ∨ ∃ kvs, H p = some (.dK kvs) ∧ k = !kvs.isEmpty := e
    rcases e' with ⟨xs, hx, e'⟩ | ⟨xs, hx, e'⟩ | ⟨kvs, hx, e'⟩
    · subst e'
      obtain ⟨its, r, pl, hz⟩ := I.list hx
      have hlen := r.length
      exact wpAny_truthy_list pl.isList (by simp only [List.size_toArray]; (first | lia | omega)) ⟨H, I.tok _, by rw [isEmpty_of r]; exact q⟩
    · subst e'
      obtain ⟨its, r, pl, hz⟩ := I.tuple hx
      have hlen := r.length
      exact truthy_tuple pl (by simp only [List.size_toArray]; (first | lia | omega)) ⟨H, I.tok _, by rw [isEmpty_of r]; exact q⟩
    · subst e'
      obtain ⟨hz, hS, vs, r, m⟩ : kvs.length ≤ sizeLine ∧ (p == sysModules) = false ∧ ∃ vs, KV kvs vs ∧ s.heap.DictOf (mixKind X.prog X.w) p vs := I.hok p _ hx
      have hlen : kvs.length = vs.length := Paired.length r
      exact wpAny_truthy_dict hS m (by (first | lia | omega)) ⟨H, I.tok _, by rw [isEmpty_kv r]; exact q⟩
  | _ => exact (show False from e).elim
/-- any expression whose test is its value's truth (a name, a call, a subscript, a field ..: he by fun _ => rfl) -/
theorem pt_truth (ha : PE X a ta) (he : ∀ whole, isTrue a X.env whole = (do let v ← whole; standAt a.pos; holding [v] (truthy v))) :
    PT X a (fun σ H Q => ta σ H fun x H' => ∃ k, TruV X.K x H' k ∧ Q k H') := by
  intro pins s σ H Q I h
  exact isTrue_plain (thn (ha s σ H _ I h) fun v s1 ⟨x, H1, I1, r1, q1⟩ => tru_ok s1 σ H1 x v Q I1 r1 q1) (he _)

/-! ### strs and bytes -/
theorem op_add_str : OpR X (binaryOp .Add) (fun x y H Q => ∃ i j, x = .str i ∧ y = .str j ∧ i.length + j.length ≤ sizeLine ∧ Q (.str (i ++ j)) H) := by
  intro pins s σ H x y v u Q I rx ry h
  obtain ⟨i, j, rfl, rfl, hz, q⟩ := h
  obtain ⟨t, rfl⟩ := rx
  obtain ⟨t', rfl⟩ := ry
  exact add_str (fun t' tk => ⟨.str (i ++ j), H, I.tok _, ⟨_, rfl⟩, q⟩) hz
/-! ### scalar builtins, by CallR -/
theorem vals1 {x : V} {us : List Value} (r : Vals [x] us) : ∃ u, us = [u] ∧ RelV x u := by
  cases r with
  | cons r1 r2 => cases r2; exact ⟨_, rfl, r1⟩
theorem vals2 {x y : V} {us : List Value} (r : Vals [x, y] us) : ∃ u w', us = [u, w'] ∧ RelV x u ∧ RelV y w' := by
  cases r with
  | cons r1 r2 =>
    cases r2 with
    | cons r3 r4 => cases r4; exact ⟨_, _, rfl, r1, r3⟩
theorem call_int1 : CallR X (.type "int") (fun xs H Q => (∃ i, xs = [.int i] ∧ Q (.int i) H) ∨ ∃ k, xs = [.bl k] ∧ Q (.int (if k then 1 else 0)) H) := by
  intro pins s σ H xs us Q I r h
  rcases h with ⟨i, rfl, q⟩ | ⟨k, rfl, q⟩
  · obtain ⟨u, rfl, t, rfl⟩ := vals1 r
    exact call_int_int ⟨.int i, H, I, ⟨_, rfl⟩, q⟩
  · obtain ⟨u, rfl, r1⟩ := vals1 r
    cases r1
    exact call_int_bool ⟨.int (if k then 1 else 0), H, I.tok _, ⟨_, rfl⟩, q⟩
/-- len of a str, a bytes, a list, a tuple -/
noncomputable def LenV (K : PySem.W.Frag) (x : V) (H : Hp) (n : Nat) : Prop :=
  match x with
  | .str y => y.length ≤ sizeLine ∧ n = y.length
  | .byt y => y.size ≤ sizeLine ∧ n = y.size
  | .ref p => (∃ xs, SqL K H p xs ∧ n = xs.length) ∨ ∃ xs, SqT K H p xs ∧ n = xs.length
  | _ => False
theorem call_len : CallR X (.builtin "len") (fun xs H Q => ∃ x n, xs = [x] ∧ LenV X.K x H n ∧ Q (.int n) H) := by
  intro pins s σ H xs us Q I r h
  obtain ⟨x, n, rfl, e, q⟩ := h
  obtain ⟨u, rfl, rx⟩ := vals1 r
  have hl := line63
  have hs : sizeLine = 16777216 := sizeLine_eq
  cases x with
  | str y =>
    obtain ⟨t, rfl⟩ := rx
    obtain ⟨hy, e'⟩ : y.length ≤ sizeLine ∧ n = y.length := e
    subst e'
    exact len_str (by (first | lia | omega)) ⟨.int _, H, I.tok _, ⟨_, rfl⟩, q⟩
  | byt y =>
    obtain ⟨t, rfl⟩ := rx
    obtain ⟨hy, e'⟩ : y.size ≤ sizeLine ∧ n = y.size := e
    subst e'
    exact PySem.W.len_bytes (by (first | lia | omega)) ⟨.int _, H, I.tok _, ⟨_, rfl⟩, q⟩
  | ref p =>
    cases rx
    have e' : (∃ xs, SqL X.K H p xs ∧ n = xs.length) ∨ ∃ xs, SqT X.K H p xs ∧ n = xs.length := e
    rcases e' with ⟨xs, hx, e'⟩ | ⟨xs, hx, e'⟩
    · subst e'
      obtain ⟨its, r', pl, hz⟩ := I.list hx
      have hlen := r'.length
      exact Calls.call_len_list pl.isList (by simp only [List.size_toArray]; (first | lia | omega)) ⟨.int xs.length, H, I.tok _, ⟨_, by simp only [List.size_toArray]; rw [hlen]⟩, q⟩
    · subst e'
      obtain ⟨its, r', pl, hz⟩ := I.tuple hx
      have hlen := r'.length
      exact len_tuple pl (by simp only [List.size_toArray]; (first | lia | omega)) ⟨.int xs.length, H, I.tok _, ⟨_, by simp only [List.size_toArray]; rw [hlen]⟩, q⟩
  | _ => exact (show False from e).elim
/-- divmod: a new tuple -/
theorem call_divmod : CallR X (.builtin "divmod") (fun xs H Q => ∃ i j, xs = [.int i, .int j] ∧ CDiv i j ∧ ∀ p, H p = none → Q (.ref p) (upd H p (.tup [.int (i / j), .int (i % j)]))) := by
  intro pins s σ H xs us Q I r h
  obtain ⟨i, j, rfl, ⟨h1, h2⟩, q⟩ := h
  obtain ⟨u, w', rfl, ⟨t, rfl⟩, ⟨t', rfl⟩⟩ := vals2 r
  refine divmod_int (by (first | lia | omega)) ?_ (.inl (PyProof.noPylong_small (by (first | lia | omega))))
  rw [Int.fdiv_eq_ediv_of_nonneg i (by (first | lia | omega)), Int.fmod_eq_emod_of_nonneg i (by (first | lia | omega))]
  have hn : H s.heap.objs.size = none := I.hok.fresh (Nat.le_refl _)
  refine ⟨.ref s.heap.objs.size, _, ?_, rfl, q _ hn⟩
  refine I.laid (fun b o e => Heap.get?_push_of_some _ e) (Nat.le_refl _) ⟨by simp only [List.length_cons, List.length_nil]; rw [sizeLine_eq]; decide, [.int (i / j) s.toks, .int (i % j) (s.toks + 1)], .cons ⟨_, rfl⟩ (.cons ⟨_, rfl⟩ .nil), ?_⟩
  exact ⟨_, Heap.get?_push_size s.heap rfl, rfl, 0, rfl⟩
end
end L2

namespace L2
open PySem PySem.Spec PyProof.Rows

/-! ### an instance, its attributes a map -/
section
variable {prog : Program} {w : World} {A : Around} {E : Value → Shared → Prop} {s : Shared} {K : PySem.W.Frag} {x dx C f : Addr} {mA : Str → Option Value} {name : Str} {v : Value}

end

/-! ### the attributes as a list of pairs -/
theorem RelO.some_of {v : V} {o : Option Value} (r : RelO (some v) o) : ∃ u, o = some u ∧ RelV v u := by
  cases o with
  | none => exact (show False from r).elim
  | some u => exact ⟨u, rfl, r⟩
section
variable {P : Program} {w : World} {H H' : Hp} {h h' : Heap} {a C dx : Addr} {fs fs' : List (Str × V)}
end

/-! ### what of the text a class must have -/
section
variable {X : Cx} {pins : List (Addr × Obj)} {σ : St} {H : Hp} {s : Shared} {a C dx : Addr} {fs : List (Str × V)} {f : Str} {v : V} {A : Around} {E : Value → Shared → Prop}

end

/-! ### readings and rules -/
section
variable {X : Cx} {o e value : Expr} {f : Str} {pos pos' tpos : Pos} {ta tv : TE}
end

/-! ### isinstance -/
section
variable {X : Cx} {pins : List (Addr × Obj)} {σ : St} {H : Hp} {s : Shared} {A : Around} {E : Value → Shared → Prop} {Q : Value → Shared → Prop} {c : Value} {b : Bool}
end
end L2

namespace L2
open PySem PySem.Spec PyProof.Rows

/-! ### room -/
structure Room (k : Nat) (A : Around) : Prop where
  hd : A.handled = none
  dp : A.depth + 3 * k + 5 < recursionLimit
  un : A.units + 16 * k + 200 < cLine
  gd : A.guards = some []
theorem Room.mono {j k : Nat} {A : Around} (r : Room k A) (h : j ≤ k) : Room j A := ⟨r.hd, by have := r.dp; (first | lia | omega), by have := r.un; (first | lia | omega), r.gd⟩
theorem Room.deeper {k : Nat} {A : Around} (r : Room (k + 1) A) (env : Env) : Room k (A.deeper env) :=
  ⟨r.hd, by have := r.dp; show A.depth + 1 + 3 * k + 5 < _; (first | lia | omega), by have := r.un; show A.units + 3 + 16 * k + 200 < _; (first | lia | omega), r.gd⟩
theorem Room.in1 {k : Nat} {A : Around} (r : Room (k + 1) A) : Room k A.in1 :=
  ⟨r.hd, by have := r.dp; show A.depth + 3 * k + 5 < _; (first | lia | omega), by have := r.un; show A.units + 1 + 16 * k + 200 < _; (first | lia | omega), r.gd⟩
theorem Room.depth {k : Nat} {A : Around} (r : Room k A) : A.depth < recursionLimit := by have := r.dp; (first | lia | omega)
theorem Room.units {k : Nat} {A : Around} (r : Room k A) : A.units + 64 < cLine := by have := r.un; (first | lia | omega)
/-! ### argument lists and displays -/
noncomputable def tNil : TA := fun _ H Q => Q [] H
noncomputable def tCons (ta : TE) (tr : TA) : TA := fun σ H Q => ta σ H fun x H1 => tr σ H1 fun xs H2 => Q (x :: xs) H2
section
variable {X : Cx} {e : Expr} {es : List Expr} {te : TE} {t : TA} {pos : Pos}
theorem pa_nil : PA X [] tNil := fun _ _ _ _ H Q I h => Calls.spliced_nil ⟨[], H, I, .nil, h⟩
theorem pa_cons (ha : PE X e te) (hr : PA X es t) (hs : starEach (e :: es) X.env = (false, eval e X.env) :: starEach es X.env := by rfl) : PA X (e :: es) (tCons te t) := by
  intro pos pins s σ H Q I h
  rw [hs]
  show wpAny _ _ (spliced ((false, eval e X.env) :: backTo pos (starEach es X.env))) _ _ s
  refine Calls.spliced_cons (thn (ha s σ H _ I h) fun u s1 ⟨x, H1, I1, r1, q1⟩ => ?_)
  exact thn (hr s1 σ H1 _ I1 q1) fun us s2 ⟨xs, H2, I2, r2, q2⟩ => ⟨x :: xs, H2, I2, .cons r1 r2, q2⟩

/-- a tuple, a list of written items -/
noncomputable def tTup (t : TA) : TE := fun σ H Q => t σ H fun xs H1 => xs.length ≤ sizeLine ∧ ∀ p, H1 p = none → Q (.ref p) (upd H1 p (.tup xs))
noncomputable def tLst (t : TA) : TE := fun σ H Q => t σ H fun xs H1 => xs.length ≤ sizeLine ∧ ∀ p, H1 p = none → Q (.ref p) (upd H1 p (.lst xs))
theorem pe_tup {x1} (h : PA X es t) : PE X (.Tuple es x1 pos) (tTup t) := by
  intro pins s σ H Q I hq
  refine wpAny_Tuple_spliced (thn (h s σ H _ I hq) fun us s1 ⟨xs, H1, I1, r, z, q⟩ => ⟨by rw [← r.length]; exact z, ?_⟩)
  have hf : H1 s1.heap.objs.size = none := I1.hok.fresh (Nat.le_refl _)
  refine ⟨.ref s1.heap.objs.size, upd H1 s1.heap.objs.size (.tup xs), I1.laid (t' := s1.toks) (fun b u e => Heap.get?_push_of_some _ e) (Nat.le_refl _) ?_, rfl, q _ hf⟩
  exact ⟨z, us, r, ⟨_, Heap.get?_push_size _ rfl, rfl, _, rfl⟩⟩
theorem pe_lst (h : PA X es t) : PE X (.List es pos) (tLst t) := by
  intro pins s σ H Q I hq
  refine wpAny_List_spliced (thn (h s σ H _ I hq) fun us s1 ⟨xs, H1, I1, r, z, q⟩ => ⟨by rw [← r.length]; exact z, ?_⟩)
  have hf : H1 s1.heap.objs.size = none := I1.hok.fresh (Nat.le_refl _)
  refine ⟨.ref s1.heap.objs.size, upd H1 s1.heap.objs.size (.lst xs), I1.laid (t' := s1.toks) (fun b u e => Heap.get?_push_of_some _ e) (Nat.le_refl _) ?_, rfl, q _ hf⟩
  exact ⟨z, us, 0, r, Heap.get?_push_size _ rfl⟩
end

/-! ### what a def promises -/
/-- a def's promise: the bound arguments in the parameters' order, the heap, the wanted end, the wanted exception -/
noncomputable abbrev Sp := List V → Hp → VK → XK → Prop
/-- how an exception lies behind a call (file 08 gives it): the callers' frames, abstract heap and state ahead of the call, the wish, the exception, the state -/
noncomputable abbrev CXT := List Env → Hp → Shared → XK → Value → Shared → Prop

/-- the state at a call -/
structure Env0 (P : Program) (w : World) (K : PySem.W.Frag) (mg : Str → Option Value) (base : Heap) (A : Around) (outer : List Env) (s : Shared) (H : Hp) : Prop where
  frames : A.frames = some outer
  mod : Mod K mg base
  bs : ∀ b o, base.get? b = some o → s.heap.get? b = some o ∧ H b = none
  bsz : base.objs.size ≤ s.heap.objs.size
  funs : s.heap.FunFrames base outer
  frf : ∀ b ∈ frs outer, H b = none
  hok : HOk P w H s.heap
  bare : AllBare s.gens
/-- a call's end -/
noncomputable def CE (outer : List Env) (P : Program) (w : World) (H : Hp) (s : Shared) (Q : VK) (u : Value) (s' : Shared) : Prop :=
  Ex2 fun v H' => s'.os = s.os ∧ AllBare s'.gens ∧ Un (frs outer) [] H H' s.heap s'.heap ∧ HOk P w H' s'.heap ∧ RelV v u ∧ Q v H'
noncomputable def CR (CX : CXT) (outer : List Env) (P : Program) (w : World) (H : Hp) (s : Shared) (Q : VK) (E : XK) (r : Result) (s' : Shared) : Prop :=
  match r with
  | .ok (.ret u) => CE outer P w H s Q u s'
  | .ok _ => False
  | .error e => CX outer H s E e s'
structure FnOk (P : Program) (w : World) (K : PySem.W.Frag) (mg : Str → Option Value) (base : Heap) (CX : CXT) (k : Nat) (f : Addr) (fd : FuncData) (ps : List Str) (sp : Sp) : Prop where
  len : ∀ vs H Q E, sp vs H Q E → vs.length = ps.length
  run : ∀ (A : Around) (outer : List Env) (s : Shared) (H : Hp) (args : Args) (us : List Value) (vs : List V) (Q : VK) (E : XK), Room k A → Env0 P w K mg base A outer s H → BindsTo s fd args (ps.zip us) → Vals vs us → sp vs H Q E →
    codeAny (model P w) A (.call (.ref f) args) (CR CX outer P w H s Q E) s
theorem FnOk.mono {P : Program} {w : World} {K : PySem.W.Frag} {mg : Str → Option Value} {base : Heap} {CX : CXT} {j k : Nat} {f : Addr} {fd : FuncData} {ps : List Str} {sp : Sp} (F : FnOk P w K mg base CX j f fd ps sp) (h : j ≤ k) :
    FnOk P w K mg base CX k f fd ps sp := ⟨F.len, fun A outer s H args us vs Q E hr => F.run A outer s H args us vs Q E (hr.mono h)⟩
/-- a weaker promise -/
theorem FnOk.imp {P : Program} {w : World} {K : PySem.W.Frag} {mg : Str → Option Value} {base : Heap} {CX : CXT} {k : Nat} {f : Addr} {fd : FuncData} {ps : List Str} {sp sp' : Sp} (F : FnOk P w K mg base CX k f fd ps sp)
    (h : ∀ vs H Q E, sp' vs H Q E → sp vs H Q E) : FnOk P w K mg base CX k f fd ps sp' :=
  ⟨fun vs H Q E q => F.len vs H Q E (h _ _ _ _ q), fun A outer s H args us vs Q E hr he hb hv hs => F.run A outer s H args us vs Q E hr he hb hv (h _ _ _ _ hs)⟩

theorem Env0.in1 {P : Program} {w : World} {K : PySem.W.Frag} {mg : Str → Option Value} {base : Heap} {A : Around} {outer : List Env} {s : Shared} {H : Hp} (e : Env0 P w K mg base A outer s H) :
    Env0 P w K mg base A.in1 outer s H := ⟨e.frames, e.mod, e.bs, e.bsz, e.funs, e.frf, e.hok, e.bare⟩

section
variable {X : Cx} {pins : List (Addr × Obj)} {σ : St} {H : Hp} {s s' : Shared}
/-- from a body: what a callee wants -/
theorem Inv.env0 (I : Inv X pins σ H s) : Env0 X.prog X.w X.K X.mg X.base X.A X.stack s H :=
  ⟨I.ok.frames, I.ok.mod, I.bs, Nat.le_trans I.ok.bsz I.sz, I.stack, I.stkFree, I.hok, I.bare⟩
/-- behind a call -/
theorem Inv.after {Q : VK} {u : Value} (I : Inv X pins σ H s) (h : CE X.stack X.prog X.w H s Q u s') : EP X pins σ Q u s' := by
  obtain ⟨v, H', os, bare, un, hok, r, q⟩ := h
  obtain ⟨hh, g, d, t, os'⟩ := s'
  obtain rfl : os' = s.os := os
  exact ⟨v, H', I.call (h' := hh) (g' := g) (d' := d) (t' := t) (ch := []) un hok bare (fun b z => absurd z (by simp)), r, q⟩
end

/-! ### calls -/
/-- f(..): the written arguments, then the defaults dvs; E: what is wanted of an exception -/
noncomputable def tCall (sp : Sp) (dvs : List V) (E : XK) (t : TA) : TE := fun σ H Q => t σ H fun vs H1 => sp (vs ++ dvs) H1 Q E
/-- how the parameters are bound: us the positional arguments, kw the keywords' values by name, ds the defaults that fill up -/
noncomputable def Binds (K : PySem.W.Frag) (fd : FuncData) (ps : List Str) (ds : List Value) : Prop :=
  ∀ (s : Shared) (us : List Value), K.In s.heap → (us ++ ds).length = ps.length → BindsTo s fd ⟨us, []⟩ (ps.zip (us ++ ds))
/-- every parameter is given -/
theorem Binds.all {K : PySem.W.Frag} {fd : FuncData} {ps : List Str} (h : ∀ us : List Value, us.length = ps.length → bindArgs fd ⟨us, []⟩ = pure (ps.zip us)) : Binds K fd ps [] := fun s us _ hl => by
  rw [List.append_nil] at hl ⊢
  exact .of_eq (h us hl)

/-- an exception of a callee reaches what this body wants of exceptions -/
noncomputable def Passes (CX : CXT) (X : Cx) (E : XK) : Prop := ∀ (pins : List (Addr × Obj)) (σ : St) (H : Hp) (s : Shared) (e : Value) (s' : Shared), Inv X pins σ H s → CX X.stack H s E e s' → X.xe e s'

section
variable {X : Cx} {CX : CXT} {k : Nat} {f C : Addr} {fd : FuncData} {ps : List Str} {sp : Sp} {dvs : List V} {ds : List Value} {E : XK} {x m : Str} {p pos apos : Pos} {e o : Expr} {es : List Expr} {ta : TE} {t : TA}

/-- the callee runs -/
theorem run_fn {pins : List (Addr × Obj)} {σ : St} {H : Hp} {s : Shared} {Q : VK} {us : List Value} {vs : List V} (F : FnOk X.prog X.w X.K X.mg X.base CX k f fd ps sp) (hr : Room k X.A) (hb : Binds X.K fd ps ds) (hd : Vals dvs ds) (hx : Passes CX X E)
    (I : Inv X pins σ H s) (r : Vals vs us) (h : sp (vs ++ dvs) H Q E) : wpAny (model X.prog X.w) X.A (call (.ref f) us) (EP X pins σ Q) X.xe s := by
  have r2 : Vals (vs ++ dvs) (us ++ ds) := r.append hd
  have hl : (us ++ ds).length = ps.length := by rw [← r2.length]; exact F.len _ _ _ _ h
  refine wpAny_call (codeAny_mono (F.run X.A X.stack s H ⟨us, []⟩ (us ++ ds) (vs ++ dvs) Q E hr I.env0 (hb s us I.kIn hl) r2 h) fun r s' hq => ?_)
  cases r with
  | error e => exact hx pins σ H s e s' I hq
  | ok fl =>
    cases fl with
    | ret u => exact I.after hq
    | next => exact False.elim hq
    | brk => exact False.elim hq
    | cont => exact False.elim hq

theorem pe_call (F : FnOk X.prog X.w X.K X.mg X.base CX k f fd ps sp) (hr : Room k X.A) (hg : Gl X x) (hm : X.mg x = some (.ref f)) (hk : PySem.W.keepIn X.K (.ref f) = true) (hb : Binds X.K fd ps ds) (hd : Vals dvs ds) (hx : Passes CX X E)
    (ha : PA X (e :: es) t) (hdb : (x == ("__debug__" : Str)) = false := by decide) (he : starEach (e :: es) X.env = (false, eval e X.env) :: starEach es X.env := by rfl) (hpl : (backTo pos (starEach es X.env)).any (·.1) = false := by rfl) :
    PE X (.Call (.Name x p) (e :: es) [] pos) (tCall sp dvs E t) := by
  intro pins s σ H Q I h
  refine wpAny_Call_Name_kw (ld_glob I hg hm ?_ hdb)
  refine PySem.W.callWith_K (h₀ := X.base) I.ok.mod.kin hk (thn (ha s σ H _ I h) fun us s1 ⟨vs, H1, I1, r, q⟩ => ⟨I1.kIn, ?_⟩) he hpl
  exact run_fn F hr hb hd hx I1 r q
end

/-! ### keywords -/
/-- the values of the keywords, from the left -/
noncomputable def PK (X : Cx) (kws : List Keyword) (t : TA) : Prop :=
  ∀ ⦃pos : Pos⦄ ⦃pins : List (Addr × Obj)⦄ (s : Shared) (σ : St) (H : Hp) (Q : List V → Hp → Prop), Inv X pins σ H s → t σ H Q → wpAny (model X.prog X.w) X.A (evalAll ((backToKw pos (keywordEach kws X.env)).map (·.2))) (AP X pins σ Q) X.xe s
section
variable {X : Cx} {CX : CXT} {k : Nat} {f C : Addr} {fd : FuncData} {ps ks : List Str} {sp : Sp} {E : XK} {x m : Str} {p pos apos kpos : Pos} {e o : Expr} {es : List Expr} {kws : List Keyword} {te ta : TE} {t tk : TA} {nm : Option Str}
theorem pk_nil : PK X [] tNil := fun _ _ _ _ H Q I h => wpAny_evalAll_nil ⟨[], H, I, .nil, h⟩
theorem pk_cons (ha : PE X e te) (hr : PK X kws t) : PK X (⟨nm, e, kpos⟩ :: kws) (tCons te t) := by
  intro pos pins s σ H Q I h
  show wpAny _ _ (evalAll ((do let v ← eval e X.env; standAt pos; pure v) :: (backToKw pos (keywordEach kws X.env)).map (·.2))) _ _ s
  refine wpAny_evalAll_cons (wpAny_bind (thn (ha s σ H _ I h) fun u s1 ⟨x, H1, I1, r1, q1⟩ => wpAny_bind (wpAny_standAt (wpAny_pure ?_))))
  exact thn (hr s1 σ H1 _ I1 q1) fun us s2 ⟨xs, H2, I2, r2, q2⟩ => ⟨x :: xs, H2, I2, .cons r1 r2, q2⟩

variable {g : List Value → List Value → List Value} {gV : List V → List V → List V}
end

/-! ### a def's body keeps its promise -/
/-- names: the parameters first -/
structure FnScope (N P : List Str) (sc : Scope) : Prop where
  kind : sc.kind = .function
  co : sc.isCoroutine = false
  gen : sc.isGenerator = false
  nd : N.Nodup
  pre : N.take P.length = P
  par : ∀ x ∈ P, sc.names.lookup x = some .local ∨ sc.names.lookup x = some .cell
  nofree : ∀ y ∈ sc.names, y.2 ≠ .free

theorem bindL_out {kindOf : Str → Option NameKind} {x : Str} : ∀ {binds : List (Str × Value)} {m : Str → Option Value}, (∀ v, (x, v) ∉ binds) → bindL kindOf binds m x = m x
  | [], _, _ => rfl
  | (n, v) :: r, m, h => by
    unfold bindL
    rw [bindL_out fun w hw => h w (List.mem_cons_of_mem _ hw)]
    split
    · have : x ≠ n := by rintro rfl; exact h v List.mem_cons_self
      simp [this]
    · rfl
theorem bindC_out {kindOf : Str → Option NameKind} {x : Str} : ∀ {binds : List (Str × Value)} {m : Str → Option Value}, (∀ v, (x, v) ∉ binds) → bindC kindOf binds m x = m x
  | [], _, _ => rfl
  | (n, v) :: r, m, h => by
    unfold bindC
    rw [bindC_out fun w hw => h w (List.mem_cons_of_mem _ hw)]
    split
    · rfl
    · have : x ≠ n := by rintro rfl; exact h v List.mem_cons_self
      simp [this]
theorem bindL_get {kindOf : Str → Option NameKind} {x : Str} {v : Value} : ∀ {P : List Str} {vs : List Value} {i : Nat} {m : Str → Option Value}, P.Nodup → P[i]? = some x → vs[i]? = some v → kindOf x = some .local →
    bindL kindOf (P.zip vs) m x = some v
  | [], _, _, _, _, h, _, _ => by simp at h
  | _ :: _, [], _, _, _, _, h, _ => by simp at h
  | p :: P, w :: vs, 0, m, nd, h1, h2, hk => by
    simp at h1 h2; subst h1; subst h2
    show bindL kindOf ((p, w) :: P.zip vs) m p = _
    unfold bindL
    rw [bindL_out fun v hv => (List.nodup_cons.mp nd).1 (List.of_mem_zip hv).1, if_pos hk]
    simp
  | p :: P, w :: vs, i + 1, m, nd, h1, h2, hk => by
    show bindL kindOf ((p, w) :: P.zip vs) m x = _
    unfold bindL
    exact bindL_get (i := i) (List.nodup_cons.mp nd).2 (by simpa using h1) (by simpa using h2) hk
theorem bindC_get {kindOf : Str → Option NameKind} {x : Str} {v : Value} : ∀ {P : List Str} {vs : List Value} {i : Nat} {m : Str → Option Value}, P.Nodup → P[i]? = some x → vs[i]? = some v → kindOf x ≠ some .local →
    bindC kindOf (P.zip vs) m x = some v
  | [], _, _, _, _, h, _, _ => by simp at h
  | _ :: _, [], _, _, _, _, h, _ => by simp at h
  | p :: P, w :: vs, 0, m, nd, h1, h2, hk => by
    simp at h1 h2; subst h1; subst h2
    show bindC kindOf ((p, w) :: P.zip vs) m p = _
    unfold bindC
    rw [bindC_out fun v hv => (List.nodup_cons.mp nd).1 (List.of_mem_zip hv).1, if_neg hk]
    simp
  | p :: P, w :: vs, i + 1, m, nd, h1, h2, hk => by
    show bindC kindOf ((p, w) :: P.zip vs) m x = _
    unfold bindC
    exact bindC_get (i := i) (List.nodup_cons.mp nd).2 (by simpa using h1) (by simpa using h2) hk

/-- the names' values at the entry -/
noncomputable def start (N : List Str) (vs : List V) : St := vs.map some ++ List.replicate (N.length - vs.length) none

/-- the context of a def's body, at its entry; an exception leaves the frame, then lies as CX says -/
noncomputable def cxOf (CX : CXT) (P : Program) (w : World) (K : PySem.W.Frag) (mg : Str → Option Value) (base : Heap) (N : List Str) (qual : Str) (scope : Scope) (f : Addr) (cd : Value) (A : Around) (outer : List Env) (s : Shared) (H : Hp) (E : XK) : Cx where
  prog := P
  w := w
  K := K
  mg := mg
  base := base
  A := A.deeper (envOfC qual scope s.heap.objs.size f cd)
  N := N
  s₀ := s
  H₀ := H
  env := envOfC qual scope s.heap.objs.size f cd
  outer := outer
  stack := envOfC qual scope s.heap.objs.size f cd :: outer
  ex := []
  calm := true
  fn := fun _ => true
  pn := []
  xe := fun e s' => wpAny (model P w) (A.deeper (envOfC qual scope s.heap.objs.size f cd)) (leaving (envOfC qual scope s.heap.objs.size f cd) e) (fun _ s'' => CX outer H s E e s'') (fun e' s'' => CX outer H s E e' s'') s'

theorem cell_has {sc : Scope} {n : Nat} {x : Str} (h : sc.names.lookup x = some .cell) : ∃ c, (cellsFrom n sc.names []).lookup x = some c := by
  have q := PySem.W.cellsFrom_some sc.names n [] (.inl h)
  exact Option.isSome_iff_exists.mp q

theorem inv_start {CX : CXT} {P : Program} {w : World} {K : PySem.W.Frag} {mg : Str → Option Value} {base : Heap} {N ps : List Str} {qual : Str} {scope : Scope} {f : Addr} {cd : Value} {A : Around} {outer : List Env} {s s1 : Shared} {H : Hp} {E : XK} {us : List Value} {vs : List V}
    (S : FnScope N ps scope) (hd : A.handled = none) (e0 : Env0 P w K mg base A outer s H) (hl : vs.length = ps.length) (r : Vals vs us)
    (x : InCallC s s.heap.objs.size (bindL (envOfC qual scope s.heap.objs.size f cd).kindOf (ps.zip us) fun _ => none) (cellsFrom (s.heap.objs.size + 1) scope.names []) (bindC (envOfC qual scope s.heap.objs.size f cd).kindOf (ps.zip us) fun _ => none) s1) :
    Inv (cxOf CX P w K mg base N qual scope f cd A outer s H E) [] (start N vs) H s1 := by
  have hpl : ps.length ≤ N.length := by have := congrArg List.length S.pre; rw [List.length_take] at this; (first | lia | omega)
  obtain ⟨h1, tk, rfl, hk⟩ := x.done
  have noA : ∀ b : Addr, b ∉ (cxOf CX P w K mg base N qual scope f cd A outer s H E).ex := fun b z => absurd (show b ∈ ([] : List Addr) from z) (by simp)
  refine ⟨⟨e0.mod, S.kind, rfl, rfl, Nat.le_refl _, fun y z c h1 h2 => ?_, fun y hy => ?_, fun y c _ h => ?_, fun _ => hd, Around.frames_deeper e0.frames, .inr ⟨rfl, rfl⟩, fun b z => absurd z (noA b), e0.bs, e0.bsz, fun b _ _ => noA b, fun b z => absurd z (noA b), e0.funs, e0.frf⟩,
    rfl, e0.bare, Un.kept hk, ⟨_, x.toInCall.ns, fun i y v h1 h2 h3 => ?_⟩, fun y c h => ⟨_, x.cell y c h⟩, e0.hok.fresh (Nat.le_refl _), fun y c h => ?_, fun p hp => absurd (show p ∈ ([] : List (Addr × Obj)) from hp) (by simp), e0.hok.kept hk, ?_⟩
  · exact name_of_addr x.apart (PySem.mem_of_lookup h1) (PySem.mem_of_lookup h2)
  · have hy : scope.names.lookup y = some .cell ∨ scope.names.lookup y = some .free := hy
    rcases hy with hy | hy
    · exact cell_has hy
    · exact absurd rfl (S.nofree _ (PySem.mem_of_lookup hy))
  · exact Nat.le_of_lt (x.above y c (PySem.mem_of_lookup h))
  · have hi : i < vs.length := by
      unfold start at h2
      by_cases hi : i < vs.length
      · exact hi
      · rw [List.getElem?_append_right (by simpa using hi)] at h2
        rw [List.getElem?_replicate] at h2
        split at h2 <;> cases h2
    have ha : vs[i]? = some v := by
      unfold start at h2
      rw [List.getElem?_append_left (by simpa using hi), List.getElem?_map] at h2
      cases e : vs[i]? with
      | none => rw [e] at h2; cases h2
      | some a => rw [e] at h2; cases h2; rfl
    obtain ⟨u, hu, rv⟩ := r.get ha
    have hp : ps[i]? = some y := by
      rw [← S.pre, List.getElem?_take_of_lt (by (first | lia | omega))]; exact h1
    have ndP : ps.Nodup := by rw [← S.pre]; exact S.nd.sublist (List.take_sublist _ _)
    refine ⟨u, rv, ?_⟩
    rcases S.par y (List.mem_of_getElem? hp) with k | k
    · exact .inl ⟨k, bindL_get ndP hp hu k⟩
    · obtain ⟨c, e⟩ := cell_has (n := s.heap.objs.size + 1) k
      refine .inr ⟨.inl k, c, e, ?_⟩
      have q := x.cell y c e
      rw [bindC_get ndP hp hu (by show scope.names.lookup y ≠ _; rw [k]; decide)] at q
      exact q
  · exact e0.hok.fresh (Nat.le_of_lt (x.above y c (PySem.mem_of_lookup h)))
  · unfold start
    show _ = N.length
    rw [List.length_append, List.length_map, List.length_replicate]
    (first | lia | omega)

/-- THE RULE: a def (or a method) of the text, by its body. The body's reading t is chosen for each entry; it is run at the parameters' values -/
theorem fn_of {CX : CXT} {P : Program} {w : World} {K : PySem.W.Frag} {mg : Str → Option Value} {base : Heap} {k : Nat} {f : Addr} {name qual : Str} {params : Arguments} {body : List Stmt} {scope : Scope} {dV kV doc pm cdv ct oc : Value} {an od : Option Addr}
    {osl : Array (Option Value)} {N ps : List Str} {sp : Sp} (lk : K.lookup f = some ⟨oc, od, .func (PySem.W.fnOf name qual params body scope dV kV doc pm an cdv ct), osl⟩) (hcd : PySem.W.codeIn K cdv qual = true) (S : FnScope N ps scope)
    (len : ∀ vs H Q E, sp vs H Q E → vs.length = ps.length)
    (hbody : ∀ (A : Around) (outer : List Env) (s : Shared) (H : Hp) (vs : List V) (Q : VK) (E : XK), Room k (A.deeper (envOfC qual scope s.heap.objs.size f cdv)) → sp vs H Q E →
      ∃ t, PSs (cxOf CX P w K mg base N qual scope f cdv A outer s H E) body t ∧ t { nx := fun _ H' => Q .non H', rt := Q } (start N vs) H) :
    FnOk P w K mg base CX (k + 1) f (PySem.W.fnOf name qual params body scope dV kV doc pm an cdv ct) ps sp := by
  refine ⟨len, fun A outer s H args us vs Q E hr e0 hb r hsp => ?_⟩
  have hl := len _ _ _ _ hsp
  have KX : K.In s.heap := e0.mod.kin.keeps fun b o e => (e0.bs b o e).1
  have lim : s.heap.NoLimit := e0.mod.nolimit.keeps fun b o e => (e0.bs b o e).1
  have hkind : ∀ y ∈ ps.zip us, scope.names.lookup y.1 = some .local ∨ (scope.names.lookup y.1 = some .cell ∧ ((cellsFrom (s.heap.objs.size + 1) scope.names []).lookup y.1).isSome = true) := fun ⟨n, v⟩ hy => by
    rcases S.par n (List.of_mem_zip hy).1 with q | q
    · exact .inl q
    · exact .inr ⟨q, PySem.W.cellsFrom_some _ _ _ (.inl q)⟩
  refine codeAny_call_function hr.depth (KX _ _ lk) rfl S.co S.gen rfl (PySem.W.codeRec_of KX hcd) (hb _ _ _ _ ?_)
  refine wpAny_newFunctionEnv_cells S.kind hkind fun env he s1 x => ?_
  subst he
  refine ⟨lim.keeps x.toInCall.keep, codeAny_func ?_⟩
  obtain ⟨t, ht, hq⟩ := hbody A outer s H vs Q E (hr.deeper _) hsp
  have I : Inv (cxOf CX P w K mg base N qual scope f cdv A outer s H E) [] (start N vs) H s1 := inv_start S hr.hd e0 hl r x
  refine wpAny_mono (ht s1 (start N vs) H _ I hq) (fun fl s' hs => ?_) fun e s' hs => hs
  have fin : ∀ {σ' : St} {H' : Hp} {v : V} {u : Value}, Inv (cxOf CX P w K mg base N qual scope f cdv A outer s H E) [] σ' H' s' → RelV v u → Q v H' → CE outer P w H s Q u s' :=
    fun {σ' H' v u} J rv q => ⟨v, H', J.os, J.bare, J.base, J.hok, rv, q⟩
  cases fl with
  | ret u =>
    obtain ⟨v, σ', H', J, rv, q⟩ := hs
    exact fin J rv q
  | next =>
    obtain ⟨σ', H', J, q⟩ := hs
    exact fin (v := V.non) (u := Value.none) J rfl q
  | brk =>
    obtain ⟨_, _, _, q⟩ := hs
    exact False.elim q
  | cont =>
    obtain ⟨_, _, _, q⟩ := hs
    exact False.elim q
end L2

namespace L2
open PySem PySem.Spec PyProof.Rows
section
variable {X : Cx} {x : Str} {p pos : Pos} {e : Expr} {es : List Expr} {t : TA} {id T : String} {r : List V → Hp → VK → Prop}

noncomputable def tCB (r : List V → Hp → VK → Prop) (t : TA) : TE := fun σ H Q => t σ H fun vs H1 => r vs H1 Q
/-- f(e, ..), f a built-in function -/
theorem pe_callB (hc : CallR X (.builtin id) r) (hg : Gl X x) (hm : X.mg x = none) (hv : bootBuiltins x = some (.builtin id)) (ha : PA X (e :: es) t) (hn : x ≠ "__name__" := by decide) (hdb : (x == ("__debug__" : Str)) = false := by decide)
    (he : starEach (e :: es) X.env = (false, eval e X.env) :: starEach es X.env := by rfl) (hpl : (backTo pos (starEach es X.env)).any (·.1) = false := by rfl) : PE X (.Call (.Name x p) (e :: es) [] pos) (tCB r t) := by
  intro pins s σ H Q I h
  refine wpAny_Call_Name_kw (ld_blt I hg hm hv ?_ hn hdb)
  exact PyProof.Rows.callWith_builtin1 (thn (ha s σ H _ I h) fun us s1 ⟨vs, H1, I1, r1, q1⟩ => hc s1 σ H1 vs us Q I1 r1 q1) he hpl
/-- T(e, ..), T a built-in type -/
theorem pe_callTy (hc : CallR X (.type T) r) (hg : Gl X x) (hm : X.mg x = none) (hv : bootBuiltins x = some (.type T)) (ha : PA X (e :: es) t) (hn : x ≠ "__name__" := by decide) (hdb : (x == ("__debug__" : Str)) = false := by decide)
    (he : starEach (e :: es) X.env = (false, eval e X.env) :: starEach es X.env := by rfl) (hpl : (backTo pos (starEach es X.env)).any (·.1) = false := by rfl) : PE X (.Call (.Name x p) (e :: es) [] pos) (tCB r t) := by
  intro pins s σ H Q I h
  refine wpAny_Call_Name_kw (ld_blt I hg hm hv ?_ hn hdb)
  exact PyProof.Rows.callWith_type1 (thn (ha s σ H _ I h) fun us s1 ⟨vs, H1, I1, r1, q1⟩ => hc s1 σ H1 vs us Q I1 r1 q1) he hpl
end
end L2

namespace L2
open PySem PySem.Spec PyProof.Rows

/-! ### lists of pairs as tables -/
section
variable {κ : Type} [DecidableEq κ]
noncomputable def valV (kvs : List (κ × V)) (k : κ) : Option V := (kvs.find? fun kv => decide (kv.1 = k)).map (·.2)
/-- in its place, or at the end -/
noncomputable def putK (kvs : List (κ × V)) (k : κ) (v : V) : List (κ × V) :=
  if (kvs.any fun kv => decide (kv.1 = k)) = true then kvs.map (fun kv => if kv.1 = k then (kv.1, v) else kv) else kvs ++ [(k, v)]
noncomputable def dropK (kvs : List (κ × V)) (k : κ) : List (κ × V) := kvs.filter fun kv => decide (kv.1 ≠ k)

theorem valV_pos {p : κ × V} {r : List (κ × V)} {k : κ} (e : p.1 = k) : valV (p :: r) k = some p.2 := by simp [valV, List.find?_cons, e]
theorem valV_neg {p : κ × V} {r : List (κ × V)} {k : κ} (e : ¬ p.1 = k) : valV (p :: r) k = valV r k := by simp [valV, List.find?_cons, e]
theorem valV_any (k : κ) : ∀ kvs : List (κ × V), (kvs.any fun kv => decide (kv.1 = k)) = (valV kvs k).isSome
  | [] => rfl
  | p :: r => by
    rw [List.any_cons]
    by_cases e : p.1 = k
    · simp only [valV_pos e, decide_eq_true e, Bool.true_or, Option.isSome_some]
    · rw [valV_neg e, decide_eq_false e, Bool.false_or]; exact valV_any k r
theorem length_putK (kvs : List (κ × V)) (k : κ) (v : V) : (putK kvs k v).length ≤ kvs.length + 1 := by
  unfold putK
  split
  · rw [List.length_map]; (first | lia | omega)
  · rw [List.length_append, List.length_cons, List.length_nil]; (first | lia | omega)
theorem putK_new {kvs : List (κ × V)} {k : κ} (v : V) (h : valV kvs k = none) : putK kvs k v = kvs ++ [(k, v)] := by
  unfold putK
  rw [valV_any, h]
  exact if_neg (by decide)

theorem RelO.isSome_eq {o : Option V} {u : Option Value} (r : RelO o u) : o.isSome = u.isSome := by
  cases o with
  | none => cases u with
    | none => rfl
    | some _ => exact (show False from r).elim
  | some _ => cases u with
    | none => exact (show False from r).elim
    | some _ => rfl
/-- raw tables of the same keys -/
theorem KV.val {kvs : List (κ × V)} {vs : List (κ × Value)} (r : KV kvs vs) (k : κ) : RelO (valV kvs k) (valueAt vs k) := by
  unfold KV at r
  induction r with
  | nil => exact True.intro
  | @cons p q ps qs h t ih =>
    obtain ⟨h1, h2⟩ := h
    by_cases e : p.1 = k
    · have e' : q.1 = k := h1.symm.trans e
      have b : valueAt (q :: qs) k = some q.2 := by simp [valueAt, List.find?_cons, e']
      rw [valV_pos e, b]; exact h2
    · have e' : ¬ q.1 = k := fun z => e (h1.trans z)
      have b : valueAt (q :: qs) k = valueAt qs k := by simp [valueAt, List.find?_cons, e']
      rw [valV_neg e, b]; exact ih
theorem KV.any {kvs : List (κ × V)} {vs : List (κ × Value)} (r : KV kvs vs) (k : κ) : (kvs.any fun kv => decide (kv.1 = k)) = vs.any fun kv => decide (kv.1 = k) := by
  unfold KV at r
  induction r with
  | nil => rfl
  | cons h t ih => rw [List.any_cons, List.any_cons, ih, h.1]
theorem KV.repl {kvs : List (κ × V)} {vs : List (κ × Value)} (r : KV kvs vs) (k : κ) {y : V} {u : Value} (ry : RelV y u) :
    KV (kvs.map fun kv => if kv.1 = k then (kv.1, y) else kv) (vs.map fun kv => if kv.1 = k then (kv.1, u) else kv) := by
  unfold KV at r ⊢
  induction r with
  | nil => exact .nil
  | @cons p q ps qs h t ih =>
    rw [List.map_cons, List.map_cons]
    refine .cons ?_ ih
    obtain ⟨h1, h2⟩ := h
    by_cases e : p.1 = k
    · rw [if_pos e, if_pos (h1.symm.trans e)]; exact ⟨h1, ry⟩
    · rw [if_neg e, if_neg (fun z => e (h1.trans z))]; exact ⟨h1, h2⟩
theorem KV.put {kvs : List (κ × V)} {vs : List (κ × Value)} (r : KV kvs vs) (k : κ) {y : V} {u : Value} (ry : RelV y u) : KV (putK kvs k y) (stored vs k u) := by
  unfold putK stored
  rw [r.any k]
  by_cases e : (vs.any fun kv => decide (kv.1 = k)) = true
  · rw [if_pos e, if_pos e]; exact r.repl k ry
  · rw [if_neg e, if_neg e]; exact Paired.snoc r ⟨rfl, ry⟩
theorem KV.drop {kvs : List (κ × V)} {vs : List (κ × Value)} (r : KV kvs vs) (k : κ) : KV (dropK kvs k) (without vs k) := by
  unfold KV at r ⊢
  unfold dropK without
  induction r with
  | nil => exact .nil
  | @cons p q ps qs h t ih =>
    obtain ⟨h1, h2⟩ := h
    rw [List.filter_cons, List.filter_cons]
    by_cases e : p.1 = k
    · have a : ¬ decide (p.1 ≠ k) = true := by simp [e]
      have b : ¬ decide (q.1 ≠ k) = true := by simp [h1.symm.trans e]
      rw [if_neg a, if_neg b]; exact ih
    · have e' : ¬ q.1 = k := fun z => e (h1.trans z)
      have a : decide (p.1 ≠ k) = true := by simp [e]
      have b : decide (q.1 ≠ k) = true := by simp [e']
      rw [if_pos a, if_pos b]; exact .cons ⟨h1, h2⟩ ih
theorem KV.length {kvs : List (κ × V)} {vs : List (κ × Value)} (r : KV kvs vs) : kvs.length = vs.length := Paired.length r
theorem dropK_le (kvs : List (κ × V)) (k : κ) : (dropK kvs k).length ≤ kvs.length := List.length_filter_le _ _
end


/-! ### a tracked dict, its keys ints and texts or tuples of these -/
theorem kV_is {P : Program} {w : World} {k : Key} {u : Value} (r : RelV (kV k) u) : (mixKind P w).is k u = true := by
  cases k with
  | inl i => obtain ⟨t, e⟩ := (show ∃ t, u = Value.int i t from r); subst e; exact mixKind_int P w i t
  | inr x => obtain ⟨t, e⟩ := (show ∃ t, u = Value.str x t from r); subst e; exact mixKind_str P w x t
theorem items_are {P : Program} {w : World} : ∀ {ks : List Key} {us : List Value}, Vals (ks.map kV) us → ItemsAre (mixKind P w) ks us
  | [], _, r => by rw [List.map_nil] at r; cases r; exact .nil
  | k :: ks, _, r => by
    rw [List.map_cons] at r
    cases r with
    | cons h t => exact .cons (kV_is h) (items_are t)

/-- raw entries of a dict with tuple keys -/
noncomputable abbrev KT (H : Hp) : List (List Key × V) → List (List Key × Addr × Value) → Prop := Paired fun p q => p.1 = q.1 ∧ H q.2.1 = some (.tup (p.1.map kV)) ∧ RelV p.2 q.2.2
theorem KT.val {H : Hp} {kvs : List (List Key × V)} {xs : List (List Key × Addr × Value)} (r : KT H kvs xs) (k : List Key) : RelO (valV kvs k) ((atKey xs k).map (·.2)) := by
  induction r with
  | nil => exact True.intro
  | @cons p q ps qs h t ih =>
    obtain ⟨h1, _, h2⟩ := h
    by_cases e : p.1 = k
    · have e' : q.1 = k := h1.symm.trans e
      have b : atKey (q :: qs) k = some q.2 := by simp [atKey, List.find?_cons, e']
      rw [valV_pos e, b]; exact h2
    · have e' : ¬ q.1 = k := fun z => e (h1.trans z)
      have b : atKey (q :: qs) k = atKey qs k := by simp [atKey, List.find?_cons, e']
      rw [valV_neg e, b]; exact ih
theorem KT.repl {H : Hp} {kvs : List (List Key × V)} {xs : List (List Key × Addr × Value)} (r : KT H kvs xs) (k : List Key) {y : V} {u : Value} (ry : RelV y u) :
    KT H (kvs.map fun kv => if kv.1 = k then (kv.1, y) else kv) (xs.map (putAt k u)) := by
  induction r with
  | nil => exact .nil
  | @cons p q ps qs h t ih =>
    rw [List.map_cons, List.map_cons]
    refine .cons ?_ ih
    obtain ⟨h1, h2, h3⟩ := h
    unfold putAt
    by_cases e : p.1 = k
    · rw [if_pos e, if_pos (h1.symm.trans e)]; exact ⟨h1, h2, ry⟩
    · rw [if_neg e, if_neg (fun z => e (h1.trans z))]; exact ⟨h1, h2, h3⟩
theorem KT.put {H : Hp} {kvs : List (List Key × V)} {xs : List (List Key × Addr × Value)} (r : KT H kvs xs) (k : List Key) {b : Addr} {y : V} {u : Value} (hb : H b = some (.tup (k.map kV))) (ry : RelV y u) :
    KT H (putK kvs k y) (storedH xs k b u) := by
  have e : (kvs.any fun kv => decide (kv.1 = k)) = (atKey xs k).isSome := by
    rw [valV_any, (r.val k).isSome_eq, Option.isSome_map]
  unfold putK storedH
  rw [e]
  by_cases q : (atKey xs k).isSome = true
  · rw [if_pos q, if_pos q]; exact r.repl k ry
  · rw [if_neg q, if_neg q]; exact Paired.snoc r ⟨rfl, hb, ry⟩
theorem KT.keeps {H H' : Hp} {kvs : List (List Key × V)} {xs : List (List Key × Addr × Value)} (r : KT H kvs xs) (ht : ∀ b ys, H b = some (.tup ys) → H' b = some (.tup ys)) : KT H' kvs xs :=
  Paired.mapP r fun _ _ z => ⟨z.1, ht _ _ z.2.1, z.2.2⟩

section
variable {P : Program} {w : World} {H : Hp} {h : Heap} {a : Addr}
theorem rd_of {u : HO} (ok : HOk P w H h) (e : Rd H a u) : ObjOk P w H h a u := e.ok ok
theorem dk_rd {kvs : List (Key × V)} (ok : HOk P w H h) (e : Rd H a (.dK kvs)) : kvs.length ≤ sizeLine ∧ (a == sysModules) = false ∧ ∃ vs, KV kvs vs ∧ h.DictOf (mixKind P w) a vs :=
  show ObjOk P w H h a (.dK kvs) from rd_of ok e
theorem dk_of {kvs : List (Key × V)} (ok : HOk P w H h) (e : H a = some (.dK kvs)) : kvs.length ≤ sizeLine ∧ (a == sysModules) = false ∧ ∃ vs, KV kvs vs ∧ h.DictOf (mixKind P w) a vs := dk_rd ok (.inl e)
/-- a tracked tuple of ints and texts is a key -/
theorem key_of {ks : List Key} (ok : HOk P w H h) (e : H a = some (.tup (ks.map kV))) : (tupleKind (mixKind P w)).is h ks a := by
  obtain ⟨_, its, r, o, h1, h2, n, h3⟩ := (show ObjOk P w H h a (.tup (ks.map kV)) from ok a _ e)
  exact ⟨o, its.toArray, n, h1, h2, h3, by simpa using items_are r⟩
theorem dt_rd {kvs : List (List Key × V)} (ok : HOk P w H h) (e : Rd H a (.dT kvs)) : kvs.length ≤ sizeLine ∧ (a == sysModules) = false ∧
    ∃ xs, KT H kvs xs ∧ h.DictOfH (tupleKind (mixKind P w)) a xs := by
  obtain ⟨z, y, xs, r, o, es, ep, h1, h2, h3, h4, h5⟩ := (show ObjOk P w H h a (.dT kvs) from rd_of ok e)
  refine ⟨z, y, xs, r, o, es, ep, h1, h2, h3, h4, fun x hx => ?_, h5⟩
  have all : ∀ {l : List (List Key × V)} {m : List (List Key × Addr × Value)}, KT H l m → ∀ x ∈ m, (tupleKind (mixKind P w)).is h x.1 x.2.1 := by
    intro l m q
    induction q with
    | nil => intro x hx; exact nomatch hx
    | @cons p q ps qs hq t ih =>
      intro x hx
      rcases List.mem_cons.mp hx with e | hx
      · subst e
        exact key_of ok (by rw [← hq.1]; exact hq.2.1)
      · exact ih x hx
  exact all r x hx
theorem dt_of {kvs : List (List Key × V)} (ok : HOk P w H h) (e : H a = some (.dT kvs)) : kvs.length ≤ sizeLine ∧ (a == sysModules) = false ∧
    ∃ xs, KT H kvs xs ∧ h.DictOfH (tupleKind (mixKind P w)) a xs := dt_rd ok (.inl e)
end

/-- what the dict at a holds at the key y -/
noncomputable def DGet (H : Hp) (a : Addr) (y : V) (r : Option V) : Prop :=
  (Ex2 fun kvs k => Rd H a (.dK kvs) ∧ y = kV k ∧ r = valV kvs k) ∨ Ex3 fun kvs k b => Rd H a (.dT kvs) ∧ y = .ref b ∧ H b = some (.tup (k.map kV)) ∧ r = valV kvs k
/-- the heap behind a[y] = v -/
noncomputable def DPut (H : Hp) (a : Addr) (y v : V) (H' : Hp) : Prop :=
  (Ex2 fun kvs k => H a = some (.dK kvs) ∧ y = kV k ∧ kvs.length < sizeLine ∧ H' = upd H a (.dK (putK kvs k v))) ∨
  Ex3 fun kvs k b => H a = some (.dT kvs) ∧ y = .ref b ∧ H b = some (.tup (k.map kV)) ∧ kvs.length < sizeLine ∧ H' = upd H a (.dT (putK kvs k v))
theorem DGet.k {H : Hp} {a : Addr} {kvs : List (Key × V)} {k : Key} (e : H a = some (.dK kvs)) : DGet H a (kV k) (valV kvs k) := .inl ⟨kvs, k, .inl e, rfl, rfl⟩
theorem DPut.k {H : Hp} {a : Addr} {kvs : List (Key × V)} {k : Key} {v : V} (e : H a = some (.dK kvs)) (hl : kvs.length < sizeLine) : DPut H a (kV k) v (upd H a (.dK (putK kvs k v))) := .inl ⟨kvs, k, e, rfl, hl, rfl⟩
section
variable {X : Cx} {pins : List (Addr × Obj)} {σ : St} {H : Hp} {s : Shared} {a : Addr} {y v : V} {u r : Value} {o : Option V} {A : Around} {E : Value → Shared → Prop}

theorem Inv.big (I : Inv X pins σ H s) : sysModules < s.heap.objs.size := by
  have h : mainGlobals < s.heap.objs.size := (I.mod.glob.keeps I.bk).lt
  exact Nat.lt_trans (by decide) h

/-- d[y], there -/
theorem d_getItem {Q : Value → Shared → Prop} (hu : A.units + 1 < cLine) (I : Inv X pins σ H s) (g : DGet H a y (some v)) (ry : RelV y u) (h : ∀ w' s', Inv X pins σ H s' → RelV v w' → Q w' s') :
    wpAny (model X.prog X.w) A (getItem (.ref a) u) Q E s := by
  rcases g with ⟨kvs, k, e, ey, l⟩ | ⟨kvs, k, b, e, ey, eb, l⟩
  · subst ey
    obtain ⟨z, hd, vs, rel, dd⟩ := dk_rd I.hok e
    obtain ⟨w', hw, rw'⟩ := RelO.some_of (v := v) (o := valueAt vs k) (by rw [l]; exact rel.val k)
    exact wpAny_getItem_of (kV_is ry) dd.mapOf hw (h w' _ (I.tok _) rw')
  · subst ey
    cases (show u = Value.ref b from ry)
    obtain ⟨z, hd, xs, rel, dd⟩ := dt_rd I.hok e
    obtain ⟨w', hw, rw'⟩ := RelO.some_of (v := v) (o := (atKey xs k).map (·.2)) (by rw [l]; exact rel.val k)
    obtain ⟨p, hp, hp2⟩ := Option.map_eq_some_iff.mp hw
    refine wpAny_getItem_heap (tupleKind_room_in1 hu) (key_of I.hok eb) dd hp ?_
    rw [hp2]
    exact h w' _ (I.tok _) rw'
theorem d_notIn {Q : Value → Shared → Prop} (hu : A.units + 1 < cLine) (I : Inv X pins σ H s) (g : DGet H a y o) (ry : RelV y u) (h : ∀ s', Inv X pins σ H s' → Q (.bool (!o.isSome)) s') :
    wpAny (model X.prog X.w) A (compareOp .NotIn u (.ref a)) Q E s := by
  rcases g with ⟨kvs, k, e, ey, l⟩ | ⟨kvs, k, b, e, ey, eb, l⟩
  · subst ey
    obtain ⟨z, hd, vs, rel, dd⟩ := dk_rd I.hok e
    refine wpAny_notIn_of (kV_is ry) hd dd.mapOf ?_
    rw [← (rel.val k).isSome_eq, ← l]
    exact h _ (I.tok _)
  · subst ey
    cases (show u = Value.ref b from ry)
    obtain ⟨z, hd, xs, rel, dd⟩ := dt_rd I.hok e
    refine wpAny_notIn_heap (tupleKind_room_in1 hu) (key_of I.hok eb) hd dd ?_
    have q := (rel.val k).isSome_eq
    rw [Option.isSome_map] at q
    rw [← q, ← l]
    exact h _ (I.tok _)
/-- a dict's object is replaced -/
theorem d_write {h' : Heap} {t' : Nat} {ob : HO} (I : Inv X pins σ H s) (mu : Mut (H a)) (hs : Heap.SameBut a s.heap h') (he : ∃ q, h'.get? a = some q) (new : ObjOk X.prog X.w (upd H a ob) h' a ob) :
    Inv X pins σ (upd H a ob) { s with heap := h', toks := t' } :=
  I.write (x := a) (e := a) mu (.inl rfl) (fun b q hb z => (hs.2 b hb).trans z) he new
theorem dk_new {P : Program} {w : World} {H' : Hp} {h' : Heap} {kvs : List (Key × V)} {vs : List (Key × Value)} (z : kvs.length ≤ sizeLine) (hd : (a == sysModules) = false) (rel : KV kvs vs) (dd : h'.DictOf (mixKind P w) a vs) :
    ObjOk P w H' h' a (.dK kvs) := ⟨z, hd, vs, rel, dd⟩
/-- d[y] = v -/
theorem d_setItem {H' : Hp} {Q : Unit → Shared → Prop} (hu : A.units + 1 < cLine) (I : Inv X pins σ H s) (g : DPut H a y v H') (ry : RelV y u) (rv : RelV v r) (h : ∀ s', Inv X pins σ H' s' → Q () s') :
    wpAny (model X.prog X.w) A (setItem (.ref a) u r) Q E s := by
  rcases g with ⟨kvs, k, e, ey, l, eH⟩ | ⟨kvs, k, b, e, ey, eb, l, eH⟩
  · subst ey eH
    obtain ⟨z, hd, vs, rel, dd⟩ := dk_of I.hok e
    have hz : vs.length ≤ sizeLine := by rw [← rel.length]; exact z
    have hl : (putK kvs k v).length ≤ sizeLine := by have := length_putK kvs k v; (first | lia | omega)
    refine wpAny_setItem_pairs (hsz := hz) (kV_is ry) dd fun h' dd' hs => h _ ?_
    have he : ∃ q, h'.get? a = some q := let ⟨q, _, _, hq, _⟩ := dd'; ⟨q, hq⟩
    exact d_write I (by rw [e]; exact True.intro) hs he (dk_new hl hd (rel.put k rv) dd')
  · subst ey eH
    cases (show u = Value.ref b from ry)
    obtain ⟨z, hd, xs, rel, dd⟩ := dt_of I.hok e
    have hz : xs.length ≤ sizeLine := by rw [← Paired.length rel]; exact z
    have hl : (putK kvs k v).length ≤ sizeLine := by have := length_putK kvs k v; (first | lia | omega)
    refine wpAny_setItem_heap (hsz := hz) (tupleKind_room_in1 hu) (key_of I.hok eb) dd fun h' dd' hs => h _ ?_
    obtain ⟨q, es, ep, hq, h2, h3, h4, _, h5⟩ := dd'
    refine d_write I (by rw [e]; exact True.intro) hs ⟨q, hq⟩ ⟨hl, hd, _, (rel.put k eb rv).keeps fun c ys ec => ?_, q, es, ep, hq, h2, h3, h4, h5⟩
    rw [upd_ne (ne_of ec e (fun z => nomatch z))]
    exact ec
end

section
variable {X : Cx} {pins : List (Addr × Obj)} {σ : St} {H : Hp} {s : Shared} {a : Addr} {kvs : List (Key × V)} {k : Key} {u : Value} {A : Around} {E : Value → Shared → Prop}
/-- del d[k] -/
theorem d_delItem {Q : Unit → Shared → Prop} (I : Inv X pins σ H s) (e : H a = some (.dK kvs)) (ry : RelV (kV k) u) (l : (valV kvs k).isSome = true) (h : ∀ s', Inv X pins σ (upd H a (.dK (dropK kvs k))) s' → Q () s') :
    wpAny (model X.prog X.w) A (delItem (.ref a) u) Q E s := by
  obtain ⟨z, hd, vs, rel, dd⟩ := dk_of I.hok e
  refine wpAny_delItem_slot dd.typeIs (by decide) PySem.F.slot_dict_delitem
    (call_meetsIn PySem.F.slot_dict_delitem dd.typeIs PySem.F.entry_dict_delitem (PySem.F.args_dict_delitem_2 _ _) (meets_dict_delitem_pairs (mixKind X.prog X.w) a (kV_is ry)) ⟨vs, dd, by rw [← rel.length]; exact z, by rw [← (rel.val k).isSome_eq]; exact l, fun h' dd' hs => h _ ?_⟩)
  have he : ∃ q, h'.get? a = some q := let ⟨q, _, _, hq, _⟩ := dd'; ⟨q, hq⟩
  exact d_write I (by rw [e]; exact True.intro) hs he (dk_new (Nat.le_trans (dropK_le kvs k) z) hd (rel.drop k) dd')
end


/-! ### readings and rules -/
/-- the element of a subscription, not a slice -/
noncomputable def NoSl (i : Expr) : Prop := ∀ ov iv, subscripted i false ov iv = operate [ov, iv] (getItem ov iv)
theorem subD_of {prog : Program} {w : World} {A : Around} {E : Value → Shared → Prop} {s : Shared} {env : Env} {value slice : Expr} {pos : Pos} {T id : String} {Q : Value → Shared → Prop}
    (hl : typeLookup (.type T) "__getitem__" = pure (some (.builtin id))) (hs : NoSl slice)
    (h : wpAny (model prog w) A (eval value env) (fun o s₁ => wpAny (model prog w) A (eval slice env) (fun i s₂ => s₂.TypeIs o T ∧ wpAny (model prog w) A (getItem o i) Q E s₂) E s₁) E s) :
    wpAny (model prog w) A (eval (.Subscript value slice pos) env) Q E s := by
  refine Subscript_ (wpAny_mono h (fun o s₁ h₁ => wpAny_mono h₁ (fun i s₂ h₂ => ?_) fun _ _ x => x) fun _ _ x => x)
  obtain ⟨hT, h₂⟩ := h₂
  unfold subscriptTail
  refine wpAny_bind ?_
  rw [getitemInPython_of_ne hT.not_modules]
  refine wpAny_bind (wpAny_specialOf hT hl ?_)
  have fin : wpAny (model prog w) A (subscripted slice false o i) (fun r s₃ => wpAny (model prog w) A (letTemporaryGo value o r >>= fun _ => pure r) Q E s₃) E s₂ := by
    rw [hs o i]
    exact wpAny_operating (wpAny_mono h₂ (fun r s₃ h₃ => wpAny_bind (wpAny_letTemporaryGo (wpAny_pure h₃))) fun _ _ x => x)
  first
    | exact wpAny_pure (wpAny_bind fin)
    | exact wpAny_bind (wpAny_pure (wpAny_bind fin))
    | exact wpAny_bind fin

theorem dict_typeIs {X : Cx} {pins : List (Addr × Obj)} {σ : St} {H : Hp} {s : Shared} {a : Addr} {y : V} {o : Option V} (I : Inv X pins σ H s) (g : DGet H a y o) : s.TypeIs (.ref a) "dict" := by
  rcases g with ⟨kvs, k, e, _, _⟩ | ⟨kvs, k, b, e, _, _, _⟩
  · obtain ⟨_, _, vs, _, dd⟩ := dk_rd I.hok e
    exact dd.typeIs
  · obtain ⟨_, _, xs, _, dd⟩ := dt_rd I.hok e
    exact dd.typeIs
/-- d[y] -/
noncomputable def tDGet (td ty : TE) : TE := fun σ H Q => td σ H fun x H1 => ty σ H1 fun y H2 => Ex2 fun a v => x = .ref a ∧ DGet H2 a y (some v) ∧ Q v H2
noncomputable def tDNotIn (ty td : TE) : TE := fun σ H Q => ty σ H fun y H1 => td σ H1 fun x H2 => Ex2 fun a o => x = .ref a ∧ DGet H2 a y o ∧ Q (.bl (!o.isSome)) H2
/-- d[y] = v -/
noncomputable def sDPut (td ty tv : TE) : TS := fun D σ H => tv σ H fun v H1 => td σ H1 fun x H2 => ty σ H2 fun y H3 => Ex2 fun a H4 => x = .ref a ∧ DPut H3 a y v H4 ∧ D.nx σ H4
/-- del d[y] -/
noncomputable def sDDel (td ty : TE) : TS := fun D σ H => td σ H fun x H1 => ty σ H1 fun y H2 => Ex3 fun a kvs k => x = .ref a ∧ H2 a = some (.dK kvs) ∧ y = kV k ∧ (valV kvs k).isSome = true ∧ D.nx σ (upd H2 a (.dK (dropK kvs k)))

section
variable {X : Cx} {o i e value : Expr} {pos pos' tpos : Pos} {td ty tv : TE}
theorem pe_dget (hu : X.A.units + 1 < cLine) (ho : PE X o td) (hi : PE X i ty) (hs : NoSl i) : PE X (.Subscript o i pos) (tDGet td ty) := by
  intro pins s σ H Q I h
  refine subD_of PySem.F.slot_dict_getitem.lookup hs (thn (ho s σ H _ I h) fun u s1 ⟨x, H1, I1, rx, q1⟩ => thn (hi s1 σ H1 _ I1 q1) fun iv s2 ⟨y, H2, I2, ry, a, v, ex, g, q2⟩ => ?_)
  subst ex
  obtain rfl : u = Value.ref a := rx
  exact ⟨dict_typeIs I2 g, d_getItem hu I2 g ry fun w' s3 I3 rw' => ⟨v, H2, I3, rw', q2⟩⟩
theorem pc_dnotin (hu : X.A.units + 1 < cLine) (hi : PE X i ty) (ho : PE X o td) : PC X .NotIn i o (tDNotIn ty td) := by
  intro pins s σ H Q I h
  refine thn (hi s σ H _ I h) fun iv s1 ⟨y, H1, I1, ry, q1⟩ => thn (ho s1 σ H1 _ I1 q1) fun u s2 ⟨x, H2, I2, rx, a, ov, ex, g, q2⟩ => ?_
  subst ex
  obtain rfl : u = Value.ref a := rx
  exact d_notIn hu I2 g ry fun s3 I3 => ⟨.bl (!ov.isSome), H2, I3, rfl, q2⟩
theorem ps_dput (hu : X.A.units + 1 < cLine) (ho : PE X o td) (hi : PE X i ty) (hv : PE X value tv) (hs : swapsWith value (some (.Subscript o i pos')) pos.line X.env = pure false) :
    PS X (.Assign [.Subscript o i pos'] value pos) (sDPut td ty tv) := by
  intro pins s σ H D I h
  refine wpAny_Assign_Subscript (thn (hv s σ H _ I h) fun r s1 ⟨v, H1, I1, rv, q1⟩ => thn (ho s1 σ H1 _ I1 q1) fun u s2 ⟨x, H2, I2, rx, q2⟩ => thn (hi s2 σ H2 _ I2 q2) fun iv s3 ⟨y, H3, I3, ry, a, H4, ex, g, q3⟩ => ?_) hs
  subst ex
  obtain rfl : u = Value.ref a := rx
  exact d_setItem hu I3 g ry rv fun s4 I4 => ⟨σ, H4, I4, q3⟩
theorem ps_ddel (ho : PE X o td) (hi : PE X i ty) : PS X (.Delete [.Subscript o i tpos] pos) (sDDel td ty) := by
  intro pins s σ H D I h
  refine wpAny_Delete (wpAny_deleteEach_cons (wpAny_delete_Subscript (thn (ho s σ H _ I h) fun u s1 ⟨x, H1, I1, rx, q1⟩ => thn (hi s1 σ H1 _ I1 q1) fun iv s2 ⟨y, H2, I2, ry, a, kvs, k, ex, e, ey, l, q2⟩ => ?_)))
  subst ex ey
  obtain rfl : u = Value.ref a := rx
  exact d_delItem I2 e ry l fun s3 I3 => wpAny_deleteEach_nil ⟨σ, _, I3, q2⟩
end


/-! ### displays -/
theorem dk_empty {P : Program} {w : World} {H : Hp} (h : Heap) (hb : sysModules < h.objs.size) : ObjOk P w H (h.push { cls := .type "dict", data := .dict #[] }) h.objs.size (.dK []) :=
  ⟨Nat.zero_le _, beq_eq_false_iff_ne.mpr (Ne.symm (Nat.ne_of_lt hb)), [], .nil, Heap.DictOf.new h⟩
/-- {}, to be a dict of the kind that is wanted -/
noncomputable def tDNewK : TE := fun _ H Q => ∀ p, H p = none → Q (.ref p) (upd H p (.dK []))
section
variable {X : Cx} {pos : Pos}
theorem pe_dnewK : PE X (.Dict [] [] pos) tDNewK := fun pins s σ H Q I h =>
  wpAny_Dict_empty ⟨.ref s.heap.objs.size, _, I.laid (a := s.heap.objs.size) (o := .dK []) (t' := s.toks) (fun _ _ q => Heap.get?_push_of_some _ q) (Nat.le_refl _) (dk_empty s.heap I.big), rfl, h _ (I.hok.fresh (Nat.le_refl _))⟩
end

/-- the pairs of a display, from the left -/
noncomputable def tPairs : List (TE × TE) → St → Hp → (List (V × V) → Hp → Prop) → Prop
  | [], _, H, Q => Q [] H
  | (tk, tv) :: r, σ, H, Q => tk σ H fun x H1 => tv σ H1 fun y H2 => tPairs r σ H2 fun ps H3 => Q ((x, y) :: ps) H3
noncomputable abbrev VV : List (V × V) → List (Value × Value) → Prop := Paired fun p q => RelV p.1 q.1 ∧ RelV p.2 q.2
noncomputable def PPs (X : Cx) (pos : Pos) (keys : List (Option Expr)) (values : List Expr) (trs : List (TE × TE)) : Prop :=
  ∀ ⦃pins : List (Addr × Obj)⦄ (s : Shared) (σ : St) (H : Hp) (Q : List (V × V) → Hp → Prop), Inv X pins σ H s → tPairs trs σ H Q →
    wpAny (model X.prog X.w) X.A (evalPairs (pairTrees keys values X.env pos)) (fun vs s' => Ex2 fun ps H' => Inv X pins σ H' s' ∧ VV ps vs ∧ Q ps H') X.xe s
theorem pps_nil {X : Cx} {pos : Pos} : PPs X pos [] [] [] := fun pins s σ H Q I h => pairTrees_nil_walk ⟨[], H, I, .nil, h⟩
theorem pps_cons {X : Cx} {pos : Pos} {k v : Expr} {ks : List (Option Expr)} {vs : List Expr} {tk tv : TE} {trs : List (TE × TE)} (hk : PE X k tk) (hv : PE X v tv) (hr : PPs X pos ks vs trs) :
    PPs X pos (some k :: ks) (v :: vs) ((tk, tv) :: trs) := fun pins s σ H Q I h =>
  pairTrees_cons_walk (thn (hk s σ H _ I h) fun u s1 ⟨x, H1, I1, rx, q1⟩ => thn (hv s1 σ H1 _ I1 q1) fun w2 s2 ⟨y, H2, I2, ry, q2⟩ =>
    thn (hr s2 σ H2 _ I2 q2) fun ws s3 ⟨ps, H3, I3, rel, q3⟩ => ⟨(x, y) :: ps, H3, I3, .cons ⟨rx, ry⟩ rel, q3⟩)

noncomputable def mergeK (kvs more : List (Key × V)) : List (Key × V) := more.foldl (fun acc kv => putK acc kv.1 kv.2) kvs
theorem KV.merge : ∀ {more : List (Key × V)} {rs : List (Key × Value)} {kvs : List (Key × V)} {vs : List (Key × Value)}, KV more rs → KV kvs vs → KV (mergeK kvs more) (merged vs rs) := by
  intro more rs kvs vs r
  unfold KV at r
  induction r generalizing kvs vs with
  | nil => intro q; exact q
  | @cons p q ps qs h t ih =>
    intro r0
    have e : KV (putK kvs p.1 p.2) (stored vs q.1 q.2) := by
      have := r0.put p.1 h.2
      rw [← h.1]; exact this
    exact ih e
theorem length_mergeK : ∀ (more kvs : List (Key × V)), (mergeK kvs more).length ≤ kvs.length + more.length
  | [], kvs => by show kvs.length ≤ kvs.length + 0; (first | lia | omega)
  | p :: r, kvs => by
    have h1 := length_mergeK r (putK kvs p.1 p.2)
    have h2 := length_putK kvs p.1 p.2
    show (mergeK (putK kvs p.1 p.2) r).length ≤ _
    rw [List.length_cons]; (first | lia | omega)
theorem carries_of {P : Program} {w : World} : ∀ {kvs : List (Key × V)} {ws : List (Value × Value)}, VV (kvs.map fun kv => (kV kv.1, kv.2)) ws → ∃ rs, Carries (mixKind P w) ws rs ∧ KV kvs rs
  | [], _, r => by rw [List.map_nil] at r; cases r; exact ⟨[], True.intro, .nil⟩
  | p :: kvs, _, r => by
    rw [List.map_cons] at r
    cases r with
    | @cons a b as bs h t =>
      obtain ⟨rs, c, q⟩ := carries_of (P := P) (w := w) t
      obtain ⟨b1, b2⟩ := b
      exact ⟨(p.1, b2) :: rs, ⟨kV_is h.1, rfl, c⟩, .cons ⟨rfl, h.2⟩ q⟩
/-- {k: v, ..} with keys ints and texts; the new dict stands empty while the pairs are made -/
noncomputable def tDisp (trs : List (TE × TE)) : TE := fun σ H Q => ∀ p, H p = none → tPairs trs σ (upd H p (.dK [])) fun ps H2 => H2 p = some (.dK []) ∧ ∃ kvs : List (Key × V), ps = kvs.map (fun kv => (kV kv.1, kv.2)) ∧ kvs.length ≤ 15 ∧ Q (.ref p) (upd H2 p (.dK (mergeK [] kvs)))
theorem pe_disp {X : Cx} {pos : Pos} {keys : List (Option Expr)} {values : List Expr} {trs : List (TE × TE)} (h : PPs X pos keys values trs) (hall : keys.all (·.isSome) = true) (hl : keys.length = values.length) (h0 : keys ≠ [])
    (h15 : keys.length ≤ 15) : PE X (.Dict keys values pos) (tDisp trs) := by
  intro pins s σ H Q I q
  have hn := I.hok.fresh (Nat.le_refl s.heap.objs.size)
  have I1 := I.laid (a := s.heap.objs.size) (o := .dK []) (h' := s.heap.push { cls := .type "dict", data := .dict #[] }) (t' := s.toks) (fun _ _ q => Heap.get?_push_of_some _ q) (Nat.le_refl _) (dk_empty s.heap I.big)
  refine wpAny_Dict_walk (knd := mixKind X.prog X.w) hall hl h0 h15 (thn (h _ σ _ _ I1 (q _ hn)) fun ws s2 ⟨ps, H2, I2, rel, e, kvs, ep, lk, q2⟩ => ?_)
  subst ep
  obtain ⟨rs, c, rk⟩ := carries_of (P := X.prog) (w := X.w) rel
  obtain ⟨z, hd, vs0, r0, dd⟩ := dk_of I2.hok e
  cases r0
  refine ⟨rs, c, dd, fun h' dd' hs => ⟨.ref s.heap.objs.size, _, ?_, rfl, q2⟩⟩
  have hz : (mergeK [] kvs).length ≤ sizeLine := by
    have h1 := length_mergeK kvs []
    rw [List.length_nil] at h1
    rw [sizeLine_eq]; (first | lia | omega)
  have he : ∃ q, h'.get? s.heap.objs.size = some q := let ⟨q, _, _, hq, _⟩ := dd'; ⟨q, hq⟩
  exact d_write I2 (by rw [e]; exact True.intro) hs he (dk_new hz hd (rk.merge .nil) dd')


/-! ### methods -/
section
variable {X : Cx} {pins : List (Addr × Obj)} {σ : St} {H : Hp} {s : Shared} {a : Addr} {y d : V} {u r : Value} {o : Option V} {A : Around} {E : Value → Shared → Prop}
end

section
variable {X : Cx} {o e f : Expr} {apos cpos : Pos} {td ty tx : TE}
end

/-! ### dict(d): a copy -/
section
variable {X : Cx} {pins : List (Addr × Obj)} {σ : St} {H : Hp} {s : Shared} {a : Addr} {kvs : List (Key × V)} {A : Around} {E : Value → Shared → Prop}
end


section
variable {X : Cx} {pins : List (Addr × Obj)} {σ : St} {H : Hp} {s : Shared} {a : Addr} {y : V} {u : Value} {A : Around} {E : Value → Shared → Prop}
end
end L2

namespace HT
open PySem PyProof.Rows

section
open PySem.SeqAt
open PySem.AutoSeq1 (wpAny_loadPart')
open PySem.MeetsSeq PySem.MeetsSeq2 PySem.MeetsSeq3

end

section
variable {prog : Program} {w : World} {A : Around} {E : Value → Shared → Prop} {s : Shared}

/-! ### t[a:b], not the whole -/
/-- a slice's bound as a place among n (d where it is left out) -/
noncomputable def sIx (n d : Nat) : Option Int → Nat
  | none => d
  | some v => if v < 0 then (v + (n : Int)).toNat else min v.toNat n
theorem sIx_none (n d : Nat) : sIx n d none = d := rfl
theorem sIx_nat (n d k : Nat) : sIx n d (some (k : Int)) = min k n := by
  show (if (k : Int) < 0 then ((k : Int) + (n : Int)).toNat else min (k : Int).toNat n) = min k n
  rw [if_neg (by (first | lia | omega)), Int.toNat_natCast]
end
end HT

namespace L2
open PySem PySem.Spec PyProof.Rows

/-! ### the parts of a slice -/
noncomputable abbrev TO := St → Hp → (Option Int → Hp → Prop) → Prop
/-- a slice's part (left out, or an int) -/
noncomputable def PO (X : Cx) (e : Option Expr) (t : TO) : Prop :=
  ∀ ⦃pins : List (Addr × Obj)⦄ (s : Shared) (σ : St) (H : Hp) (Q : Option Int → Hp → Prop), Inv X pins σ H s → t σ H Q →
    wpAny (model X.prog X.w) X.A (evalPart e X.env) (fun u s' => Ex2 fun o H' => Inv X pins σ H' s' ∧ IsPart u o ∧ Q o H') X.xe s
noncomputable def tNoPart : TO := fun _ H Q => Q none H
noncomputable def tPart (t : TE) : TO := fun σ H Q => t σ H fun x H1 => ∃ i, x = .int i ∧ Q (some i) H1

section
variable {X : Cx} {e : Expr} {te : TE} {lo hi : Option Expr} {tl th : TO} {pos p2 : Pos}

theorem po_none : PO X none tNoPart := by
  intro pins s σ H Q I h
  rw [evalPart_none]
  exact wpAny_pure ⟨none, H, I, .none, h⟩
theorem po_some (h : PE X e te) : PO X (some e) (tPart te) := by
  intro pins s σ H Q I hw
  rw [evalPart_some]
  refine thn (h s σ H _ I hw) fun u s1 ⟨x, H1, I1, r1, q1⟩ => ?_
  obtain ⟨i, rfl, q⟩ := q1
  obtain ⟨t, rfl⟩ := r1
  exact ⟨some i, H1, I1, .int i t, q⟩

/-- what a slice of a value is, by values: the slice object stands at sl -/
noncomputable def SlR (X : Cx) (r : V → Option Int → Option Int → Hp → VK → Prop) : Prop :=
  ∀ ⦃pins : List (Addr × Obj)⦄ (s : Shared) (σ : St) (H : Hp) (x : V) (v vl vu : Value) (lo hi : Option Int) (sl : Addr) (Q : VK), Inv X pins σ H s → RelV x v → s.heap.IsSliceOf sl vl vu .none → IsPart vl lo → IsPart vu hi → r x lo hi H Q →
    Ex2 fun T id => typeLookup (.type T) "__getitem__" = pure (some (.builtin id)) ∧ s.TypeIs v T ∧ wpAny (model X.prog X.w) X.A (getItem v (.ref sl)) (EP X pins σ Q) X.xe s
theorem SlR.or {r r' : V → Option Int → Option Int → Hp → VK → Prop} (h : SlR X r) (h' : SlR X r') : SlR X (fun x lo hi H Q => r x lo hi H Q ∨ r' x lo hi H Q) := by
  intro pins s σ H x v vl vu lo hi sl Q I rx hs pl pu q
  rcases q with q | q
  · exact h s σ H x v vl vu lo hi sl Q I rx hs pl pu q
  · exact h' s σ H x v vl vu lo hi sl Q I rx hs pl pu q
noncomputable def tSl (r : V → Option Int → Option Int → Hp → VK → Prop) (te : TE) (tl th : TO) : TE := fun σ H Q => te σ H fun x H1 => tl σ H1 fun l H2 => th σ H2 fun u H3 => r x l u H3 Q
/-- a[lo:hi], any a -/
theorem pe_slice {r : V → Option Int → Option Int → Hp → VK → Prop} (hr : SlR X r) (he : PE X e te) (hl : PO X lo tl) (hu : PO X hi th) : PE X (.Subscript e (.Slice lo hi none p2) pos) (tSl r te tl th) := by
  intro pins s σ H Q I h
  refine Subscript_ (thn (he s σ H _ I h) fun v s1 ⟨x, H1, I1, r1, q1⟩ => ?_)
  refine wpAny_Slice (thn (hl s1 σ H1 _ I1 q1) fun vl s2 ⟨l, H2, I2, pl, q2⟩ => thn (hu s2 σ H2 _ I2 q2) fun vu s3 ⟨u, H3, I3, pu, q3⟩ => ?_)
  rw [evalPart_none]
  refine wpAny_pure ?_
  have I4 : Inv X pins σ H3 { s3 with heap := s3.heap.push { cls := .type "slice", data := .fields #[vl, vu, .none] } } := I3.kept (t' := s3.toks) fun b ob q => Heap.get?_push_of_some _ q
  obtain ⟨T, id, hT, ht, hg⟩ := hr { s3 with heap := s3.heap.push { cls := .type "slice", data := .fields #[vl, vu, .none] } } σ H3 x v vl vu l u s3.heap.objs.size Q I4 r1 (Heap.IsSliceOf.new ..) pl pu q3
  show wpAny (model X.prog X.w) X.A (subscriptTail e (.Slice lo hi none p2) v (.ref s3.heap.objs.size)) (EP X pins σ Q) X.xe { s3 with heap := s3.heap.push { cls := .type "slice", data := .fields #[vl, vu, .none] } }
  exact tail_any (ops := [.ref s3.heap.objs.size, v]) ht hT hg (by with_unfolding_all rfl)

/-- the items of xs[lo:hi] -/
noncomputable def cutV (xs : List V) (lo hi : Option Int) : List V := (xs.drop (HT.sIx xs.length 0 lo)).take (HT.sIx xs.length xs.length hi - HT.sIx xs.length 0 lo)
theorem cutV_length (xs : List V) (lo hi : Option Int) : (cutV xs lo hi).length ≤ xs.length := by
  unfold cutV
  rw [List.length_take, List.length_drop]
  (first | lia | omega)
/-! ### t < u, t + u -/
end
end L2

namespace L2
open PySem PySem.Spec PyProof.Rows

/-! ### places -/
/-- the place that an index of any sign means -/
noncomputable def ixN (n : Nat) (i : Int) : Option Nat := if 0 ≤ i then (if i < n then some i.toNat else none) else if -(n : Int) ≤ i then some (i + n).toNat else none
noncomputable def atI {α : Type} (xs : List α) (i : Int) : Option α := (ixN xs.length i).bind fun j => xs[j]?
theorem ixN_seq {n : Nat} {i : Int} {j : Nat} (h : ixN n i = some j) : seqIndex? i n = some j ∧ j < n ∧ -(n : Int) ≤ i ∧ i < n := by
  unfold ixN at h
  by_cases h0 : 0 ≤ i
  · rw [if_pos h0] at h
    by_cases h1 : i < n
    · rw [if_pos h1] at h
      have e : i.toNat = j := Option.some.inj h
      exact ⟨by rw [seqIndex_of h0 h1, e], by (first | lia | omega), by (first | lia | omega), h1⟩
    · rw [if_neg h1] at h; cases h
  · rw [if_neg h0] at h
    by_cases h1 : -(n : Int) ≤ i
    · rw [if_pos h1] at h
      have e : (i + n).toNat = j := Option.some.inj h
      exact ⟨by rw [seqIndex_neg (by (first | lia | omega)) h1, e], by (first | lia | omega), h1, by (first | lia | omega)⟩
    · rw [if_neg h1] at h; cases h
theorem atI_get {α : Type} {xs : List α} {i : Int} {v : α} (h : atI xs i = some v) : ∃ j, seqIndex? i xs.length = some j ∧ xs[j]? = some v ∧ j < xs.length ∧ -(xs.length : Int) ≤ i ∧ i < xs.length := by
  unfold atI at h
  cases e : ixN xs.length i with
  | none => rw [e] at h; cases h
  | some j =>
    rw [e] at h
    obtain ⟨h1, h2, h3, h4⟩ := ixN_seq e
    exact ⟨j, h1, h, h2, h3, h4⟩
theorem atI_nat {α : Type} {xs : List α} {j : Nat} {v : α} (h : xs[j]? = some v) : atI xs (j : Int) = some v := by
  have hj : j < xs.length := (List.getElem?_eq_some_iff.mp h).1
  have e : ixN xs.length (j : Int) = some j := by
    unfold ixN
    rw [if_pos (by (first | lia | omega)), if_pos (by (first | lia | omega))]; simp
  unfold atI; rw [e]; exact h
/-! ### what may be subscripted -/
/-- what stands as an index of a plain subscript -/
noncomputable def PlainIx (b : Expr) : Prop := ∀ o i, subscripted b false o i = operate [o, i] (getItem o i)
/-- a subscript by values -/
noncomputable def IxR (X : Cx) (r : R2) : Prop :=
  ∀ ⦃value slice : Expr⦄ ⦃pins : List (Addr × Obj)⦄ (s : Shared) (σ : St) (H : Hp) (x y : V) (v u : Value) (Q : VK), Inv X pins σ H s → RelV x v → RelV y u → r x y H Q →
    subscripted slice false v u = operate [v, u] (getItem v u) → wpAny (model X.prog X.w) X.A (subscriptTail value slice v u) (EP X pins σ Q) X.xe s
/-- a call of a builtin's method by values: the receiver, the arguments -/
noncomputable def MtR (X : Cx) (id : String) (r : V → List V → Hp → VK → Prop) : Prop :=
  ∀ ⦃pins : List (Addr × Obj)⦄ (s : Shared) (σ : St) (H : Hp) (x : V) (xs : List V) (v : Value) (us : List Value) (Q : VK), Inv X pins σ H s → RelV x v → Vals xs us → r x xs H Q →
    wpAny (model X.prog X.w) X.A (call (.builtin id) (v :: us)) (EP X pins σ Q) X.xe s
section
variable {X : Cx} {a b : Expr} {ta tb : TE} {pos : Pos}
theorem IxR.or {r r' : R2} (h : IxR X r) (h' : IxR X r') : IxR X (fun x y H Q => r x y H Q ∨ r' x y H Q) := by
  intro value slice pins s σ H x y v u Q I rx ry q hs
  rcases q with q | q
  · exact h s σ H x y v u Q I rx ry q hs
  · exact h' s σ H x y v u Q I rx ry q hs
/-- a[b] -/
theorem pe_ix {r : R2} (hr : IxR X r) (ha : PE X a ta) (hb : PE X b tb) (hs : PlainIx b) : PE X (.Subscript a b pos) (tOp r ta tb) := by
  intro pins s σ H Q I h
  exact Subscript_ (binT ha hb I h fun v u s2 x y H2 I2 rx ry q => hr s2 σ H2 x y v u Q I2 rx ry q (hs _ _))

noncomputable def rIxL (K : PySem.W.Frag) : R2 := fun x y H Q => Ex4 fun p xs i v => x = .ref p ∧ y = .int i ∧ SqL K H p xs ∧ atI xs i = some v ∧ Q v H
noncomputable def rIxT (K : PySem.W.Frag) : R2 := fun x y H Q => Ex4 fun p xs i v => x = .ref p ∧ y = .int i ∧ SqT K H p xs ∧ atI xs i = some v ∧ Q v H
noncomputable def rIxS : R2 := fun x y H Q => Ex3 fun z i c => x = .str z ∧ y = .int i ∧ z.length ≤ sizeLine ∧ atI z.cps.toList i = some c ∧ Q (.str ⟨#[c]⟩) H
theorem ix_list : IxR X (rIxL X.K) := by
  intro value slice pins s σ H x y v u Q I rx ry h hs
  obtain ⟨p, xs, i, z, rfl, rfl, hq, he, q⟩ := h
  cases rx
  obtain ⟨t, rfl⟩ := ry
  obtain ⟨its, r, pl, hz⟩ := I.list hq
  obtain ⟨j, h1, h2, h3, h4, h5⟩ := atI_get he
  obtain ⟨w, ew, rw'⟩ := r.get h2
  have hl := r.length
  have hn := line63
  have fin : EP X pins σ Q w s := ⟨z, H, I, rw', q⟩
  by_cases h0 : 0 ≤ i
  · have hj : i.toNat = j := by
      rw [seqIndex_of h0 h5] at h1
      exact Option.some.inj h1
    exact item_listR pl.isList h0 (by (first | lia | omega)) (by rw [hj]; simpa using ew) fin hs
  · have hj : (i + (its.toArray.size : Int)).toNat = j := by
      rw [seqIndex_neg (by (first | lia | omega)) h4] at h1
      rw [List.size_toArray, ← hl]
      exact Option.some.inj h1
    exact subscriptTail_builtinR (x := w) pl.isList.typeIs slot_list_getitem.lookup
      (wpAny_getItem_list_neg (Q := fun r s' => r = w ∧ EP X pins σ Q r s') pl.isList (by (first | lia | omega)) (by rw [List.size_toArray] <;> (first | lia | omega)) (by (first | lia | omega)) (by rw [hj]; simpa using ew) ⟨rfl, fin⟩) hs
theorem ix_tup : IxR X (rIxT X.K) := by
  intro value slice pins s σ H x y v u Q I rx ry h hs
  obtain ⟨p, xs, i, z, rfl, rfl, hq, he, q⟩ := h
  cases rx
  obtain ⟨t, rfl⟩ := ry
  obtain ⟨its, r, pl, hz⟩ := I.tuple hq
  obtain ⟨j, h1, h2, h3, h4, h5⟩ := atI_get he
  obtain ⟨w, ew, rw'⟩ := r.get h2
  have hl := r.length
  have hn := line63
  have fin : EP X pins σ Q w s := ⟨z, H, I, rw', q⟩
  exact subscriptTail_builtinR (x := w) pl.typeIs slot_tuple_getitem.lookup
    (getItem_tuple (j := j) (Q := fun r s' => r = w ∧ EP X pins σ Q r s') pl (by (first | lia | omega)) (by (first | lia | omega)) (by rw [List.size_toArray, ← hl]; exact h1) (by simpa using ew) ⟨rfl, fin⟩) hs
theorem ix_str : IxR X rIxS := by
  intro value slice pins s σ H x y v u Q I rx ry h hs
  obtain ⟨z, i, c, rfl, rfl, hz, he, q⟩ := h
  obtain ⟨t, rfl⟩ := rx
  obtain ⟨t', rfl⟩ := ry
  obtain ⟨j, h1, h2, h3, h4, h5⟩ := atI_get he
  have hl : z.cps.toList.length = z.length := by simp [Str.length]
  rw [hl] at h1 h4 h5
  have hn := line63
  exact tail_any (typeIs_str s z t) slot_str_getitem.lookup (getItem_str (c := c) (by
    have e1 : decide (i < -(2 ^ 63 : Int)) = false := decide_eq_false (by (first | lia | omega))
    have e2 : decide (i ≥ 2 ^ 63) = false := decide_eq_false (by (first | lia | omega))
    rw [e1, e2, Bool.or_false]) (by rw [h1]; simpa using h2) ⟨.str ⟨#[c]⟩, H, I.tok _, ⟨_, rfl⟩, q⟩) hs
/-- list, tuple or str -/
noncomputable def rIx (K : PySem.W.Frag) : R2 := fun x y H Q => rIxL K x y H Q ∨ rIxT K x y H Q ∨ rIxS x y H Q
theorem ix_seq : IxR X (rIx X.K) := ix_list.or (ix_tup.or ix_str)

/-! ### xs[i] = v, any sign -/
/-- the list's object behind a store -/
theorem mapSeq_set (its : List Value) (n j : Nat) (u : Value) : Obj.mapSeq (·.setIfInBounds j u) { cls := .type "list", data := .seq its.toArray n } = { cls := .type "list", data := .seq (its.set j u).toArray n } := by
  simp [Obj.mapSeq]
theorem Inv.lst {pins : List (Addr × Obj)} {σ : St} {H : Hp} {s : Shared} {p : Addr} {xs : List V} (I : Inv X pins σ H s) (h : H p = some (.lst xs)) :
    ∃ (its : List Value) (n : Nat), Vals xs its ∧ s.heap.get? p = some { cls := .type "list", data := .seq its.toArray n } ∧ xs.length ≤ sizeLine := by
  obtain ⟨z, its, n, r, e⟩ := I.hok p _ h
  exact ⟨its, n, r, e, z⟩
/-- the list at p is written by an update of its object -/
theorem Inv.lstUpd {pins : List (Addr × Obj)} {σ : St} {H : Hp} {s : Shared} {p : Addr} {xs ys : List V} {its its' : List Value} {n n' : Nat} {f : Obj → Obj} (I : Inv X pins σ H s) (h : H p = some (.lst xs))
    (ho : s.heap.get? p = some { cls := .type "list", data := .seq its.toArray n }) (hf : f { cls := .type "list", data := .seq its.toArray n } = { cls := .type "list", data := .seq its'.toArray n' }) (r : Vals ys its') (hz : ys.length ≤ sizeLine) (t : Nat) :
    Inv X pins σ (upd H p (.lst ys)) { s with heap := s.heap.update p f, toks := t } := by
  have e : (s.heap.update p f).get? p = some { cls := .type "list", data := .seq its'.toArray n' } := by
    rw [Heap.get?_update_self f ho (by rw [hf] <;> rfl), hf]
  refine I.write (x := p) (e := p) (by rw [h]; trivial) (.inl rfl) (fun b u hb q => (Heap.get?_update_other _ _ (Ne.symm hb)).trans q) ⟨_, e⟩ ?_
  exact ⟨hz, its', n', r, e⟩
noncomputable def rSetL : V → V → V → Hp → (Hp → Prop) → Prop := fun o i v H Q => Ex4 fun p xs k j => o = .ref p ∧ i = .int k ∧ H p = some (.lst xs) ∧ ixN xs.length k = some j ∧ Q (upd H p (.lst (xs.set j v)))
theorem set_list : PSet X rSetL := by
  intro pins s σ H o i v ov iv u Q I ro ri rv h
  obtain ⟨p, xs, k, j, rfl, rfl, hp, hj, q⟩ := h
  cases ro
  obtain ⟨t, rfl⟩ := ri
  obtain ⟨its, n, r, ho, hz⟩ := I.lst hp
  obtain ⟨h1, h2, h3, h4⟩ := ixN_seq hj
  have hl := r.length
  have hn := line63
  have I' : Inv X pins σ (upd H p (.lst (xs.set j v))) { s with heap := s.heap.update p (Obj.mapSeq (·.setIfInBounds j u)) } :=
    I.lstUpd hp ho (mapSeq_set its n j u) (r.set rv j) (by rw [List.length_set]; exact hz) s.toks
  by_cases h0 : 0 ≤ k
  · have hk : k.toNat = j := by
      rw [seqIndex_of h0 h4] at h1
      exact Option.some.inj h1
    exact PySem.W.ki_setAt ho h0 (by (first | lia | omega)) (by rw [List.size_toArray, ← hl]; exact h4) (by rw [hk]; exact ⟨_, I', q⟩)
  · have hk : (k + (its.toArray.size : Int)).toNat = j := by
      rw [seqIndex_neg (by (first | lia | omega)) h3] at h1
      rw [List.size_toArray, ← hl]
      exact Option.some.inj h1
    exact PySem.W.ki_setBack ho (by (first | lia | omega)) (by rw [List.size_toArray, ← hl]; exact h3) (by (first | lia | omega)) (by rw [hk]; exact ⟨_, I', q⟩)

/-! ### slices -/
theorem slice_bounds (lo hi : Option Int) (n : Nat) : (sliceBounds lo hi none n).1 = ((HT.sIx n 0 lo : Nat) : Int) ∧ (sliceBounds lo hi none n).2.1 = ((HT.sIx n n hi : Nat) : Int) ∧ (sliceBounds lo hi none n).2.2 = 1 := by
  refine ⟨?_, ?_, rfl⟩
  · cases lo with
    | none => simp [sliceBounds, HT.sIx]
    | some i =>
      simp only [sliceBounds, HT.sIx, Option.getD_none, show (1 : Int) > 0 by decide, if_true]
      by_cases h : i < 0
      · simp only [h, if_true] <;> (first | lia | omega)
      · simp only [h, if_false] <;> (first | lia | omega)
  · cases hi with
    | none => simp [sliceBounds, HT.sIx]
    | some i =>
      simp only [sliceBounds, HT.sIx, Option.getD_none, show (1 : Int) > 0 by decide, if_true]
      by_cases h : i < 0
      · simp only [h, if_true] <;> (first | lia | omega)
      · simp only [h, if_false] <;> (first | lia | omega)
theorem slicePick_cut (its : List Value) (lo hi : Option Int) : slicePick its.toArray lo hi none = ((its.drop (HT.sIx its.length 0 lo)).take (HT.sIx its.length its.length hi - HT.sIx its.length 0 lo)).toArray := by
  obtain ⟨h1, h2, h3⟩ := slice_bounds lo hi its.toArray.size
  unfold slicePick
  rw [h1, h2, h3]
  simp only [sliceRange_one, pick_run, List.size_toArray] <;> rfl
/-- xs[lo:hi] of a list: a new list -/
noncomputable def rSlL (K : PySem.W.Frag) : V → Option Int → Option Int → Hp → VK → Prop := fun x lo hi H Q => Ex2 fun a xs => x = .ref a ∧ SqL K H a xs ∧ ∀ p, H p = none → Q (.ref p) (upd H p (.lst (cutV xs lo hi)))
theorem sl_list : SlR X (rSlL X.K) := by
  intro pins s σ H x v vl vu lo hi sl Q I rx hs pl pu h
  obtain ⟨a, xs, rfl, hx, q⟩ := h
  cases rx
  obtain ⟨its, r, ht, hz⟩ := I.list hx
  have hlen := r.length
  refine ⟨"list", _, slot_list_getitem.lookup, ht.isList.typeIs, ?_⟩
  refine wpAny_getItem_list_slice ht.isList hs pl pu .none (by simp) ?_ (by rw [List.size_toArray] <;> (first | lia | omega))
  rw [slicePick_cut, ← hlen]
  refine ⟨.ref s.heap.objs.size, _, I.laid (t' := s.toks) (o := .lst (cutV xs lo hi)) (fun b ob q => Heap.get?_push_of_some _ q) (Nat.le_refl _) ?_, rfl, q _ (I.hok.fresh (Nat.le_refl _))⟩
  exact ⟨Nat.le_trans (cutV_length xs lo hi) hz, _, 0, (r.drop (HT.sIx xs.length 0 lo)).take (HT.sIx xs.length xs.length hi - HT.sIx xs.length 0 lo), Heap.get?_push_size _ rfl⟩

/-! ### in, not in: flat items -/
/-! ### len, list(x), tuple(x) of any list or tuple that is read -/
theorem call_list_of : CallR X (.type "list") (fun xs H Q => ∃ p ys, xs = [.ref p] ∧ (SqL X.K H p ys ∨ SqT X.K H p ys) ∧ ∀ l, H l = none → Q (.ref l) (upd H l (.lst ys))) := by
  intro pins s σ H xs us Q I r h
  obtain ⟨p, ys, rfl, hq, q⟩ := h
  obtain ⟨u, rfl, rx⟩ := vals1 r
  cases rx
  have fin : ∀ (its : List Value), Vals ys its → ys.length ≤ sizeLine → ∀ (h' : Heap) (c' : Nat), (∀ b o', s.heap.get? b = some o' → h'.get? b = some o') →
      h'.get? s.heap.objs.size = some { cls := .type "list", dict := none, data := .seq its.toArray c', slots := #[] } → EP X pins σ Q (.ref s.heap.objs.size) { s with heap := h' } := fun its r' hz h' c' kp e =>
    ⟨.ref s.heap.objs.size, _, I.laid (t' := s.toks) kp (Nat.le_refl _) (show ObjOk X.prog X.w _ h' _ (.lst ys) from ⟨hz, its, c', r', e⟩), rfl, q _ (I.hok.fresh (Nat.le_refl _))⟩
  rcases hq with hq | hq
  · obtain ⟨its, r', pl, hz⟩ := I.list hq
    have hlen := r'.length
    obtain ⟨o, ho, hc, n, hd⟩ := pl.isList
    exact call_list_seq p (.inl rfl) ho hc hd (fun h' c' kp e => fin its r' hz h' c' kp e) (by simp only [List.size_toArray] <;> (first | lia | omega))
  · obtain ⟨its, r', pl, hz⟩ := I.tuple hq
    have hlen := r'.length
    obtain ⟨o, ho, hc, n, hd⟩ := pl
    exact call_list_seq p (.inr rfl) ho hc hd (fun h' c' kp e => fin its r' hz h' c' kp e) (by simp only [List.size_toArray] <;> (first | lia | omega))
/-! ### the call of a builtin's method: o.m(..) -/
/-- the value is of that builtin type -/
noncomputable def tyV (K : PySem.W.Frag) (T : String) (x : V) (H : Hp) : Prop := match x with
  | .str _ => T = "str"
  | .int _ => T = "int"
  | .ref p => (T = "list" ∧ ∃ xs, SqL K H p xs) ∨ (T = "tuple" ∧ ∃ o, K.lookup p = some o ∧ o.cls = .type "tuple" ∧ o.dict = none) ∨
      (T = "dict" ∧ ((∃ kvs, H p = some (.dK kvs)) ∨ ∃ kvs, H p = some (.dT kvs))) ∨ (T = "set" ∧ Ex2 fun S n => H p = some (.set S n))
  | _ => False
theorem tyV_is {pins : List (Addr × Obj)} {σ : St} {H : Hp} {s : Shared} {T : String} {x : V} {v : Value} (I : Inv X pins σ H s) (r : RelV x v) (ty : tyV X.K T x H) :
    s.TypeIs v T ∧ ∀ a, v = .ref a → ∃ ob, s.heap.get? a = some ob ∧ ob.dict = none := by
  cases x with
  | str z =>
    obtain ⟨t, rfl⟩ := r
    cases (show T = "str" from ty)
    exact ⟨typeIs_str s z t, fun _ e => nomatch e⟩
  | int i =>
    obtain ⟨t, rfl⟩ := r
    cases (show T = "int" from ty)
    exact ⟨typeIs_int s i t, fun _ e => nomatch e⟩
  | ref p =>
    cases r
    rcases ty with ⟨rfl, xs, hq⟩ | ⟨rfl, o, hk, hc, hd⟩ | ⟨rfl, hk⟩ | ⟨rfl, S, n, hk⟩
    · obtain ⟨its, _, pl, _⟩ := I.list hq
      refine ⟨pl.isList.typeIs, fun a e => ?_⟩
      cases e
      obtain ⟨o, n, e, c, hd, _⟩ := pl
      exact ⟨o, e, hd⟩
    · refine ⟨⟨o, I.kIn p o hk, hc⟩, fun a e => ?_⟩
      cases e
      exact ⟨o, I.kIn _ o hk, hd⟩
    · have z : ∃ o, s.heap.get? p = some o ∧ o.ExactDict := by
        rcases hk with ⟨kvs, hk⟩ | ⟨kvs, hk⟩
        · obtain ⟨_, _, _, _, o, _, _, e, ex, _⟩ := I.hok p _ hk
          exact ⟨o, e, ex⟩
        · obtain ⟨_, _, _, _, o, _, _, e, ex, _⟩ := I.hok p _ hk
          exact ⟨o, e, ex⟩
      obtain ⟨o, e, ex⟩ := z
      refine ⟨⟨o, e, ex.1⟩, fun a e2 => ?_⟩
      cases e2
      exact ⟨o, e, ex.2.1⟩
    · obtain ⟨o, _, _, _, e, ex, _⟩ := I.hok p _ hk
      refine ⟨⟨o, e, ex.1⟩, fun a e2 => ?_⟩
      cases e2
      exact ⟨o, e, ex.2.1⟩
  | _ => exact False.elim ty
noncomputable def tBM (K : PySem.W.Frag) (T : String) (r : V → List V → Hp → VK → Prop) (to : TE) (t : TA) : TE := fun σ H Q => to σ H fun x H1 => tyV K T x H1 ∧ t σ H1 fun xs H2 => r x xs H2 Q
variable {o e : Expr} {es : List Expr} {to : TE} {t : TA} {name : Str} {apos cpos : Pos} {T id : String} {r : V → List V → Hp → VK → Prop}
theorem pe_bm (pa : PlainAttrs T) (slot : Slot T name id) (hty : typeOf (.builtin id) = pure (.type "method_descriptor")) (hm : MtR X id r) (ho : PE X o to) (ha : PA X (e :: es) t)
    (hbase : attributeBase o name X.env (eval o X.env) = eval o X.env := by rfl)
    (hfew : ((backTo cpos (starEach (e :: es) X.env)).all (fun x => !x.1) && (backToKw cpos (keywordEach [] X.env)).all (fun x => x.1.isSome)
      && decide ((e :: es).length + ([] : List Keyword).length + (if ([] : List Keyword).isEmpty then 0 else 1) < 30)) = true := by rfl)
    (hline : (apos.endLine == cpos.line) = true := by rfl) (hs : starEach (e :: es) X.env = (false, eval e X.env) :: starEach es X.env := by rfl) (hplain : (backTo cpos (starEach es X.env)).any (·.1) = false := by rfl) :
    PE X (.Call (.Attribute o name apos) (e :: es) [] cpos) (tBM X.K T r to t) := by
  intro pins s σ H Q I h
  refine wpAny_Call_method_late hbase hfew hline rfl (thn (ho s σ H _ I h) fun v s1 ⟨x, H1, I1, r1, ty, q1⟩ => ?_)
  obtain ⟨h1, h2⟩ := tyV_is I1 r1 ty
  refine ⟨T, id, pa, slot, hty, h1, h2, ?_⟩
  have hA := ha (pos := cpos) s1 σ H1 _ I1 q1
  rw [hs] at hA ⊢
  refine Calls.callWith_builtin (by show (false || (backTo cpos (starEach es X.env)).any (·.1)) = false; rw [hplain] <;> rfl) (Calls.evalArgs_plain ?_)
  exact thn hA fun us s2 ⟨vs, H2, I2, r2, q2⟩ => hm s2 σ H2 x vs v us Q I2 r1 r2 q2
/- xs.append(e), list.index on a module's tuple .. are MtR facts of 06m -/
end
end L2

namespace L2
open PySem PySem.Spec PyProof.Rows

noncomputable def MtM (X : Cx) (id : String) (r : V → List V → Hp → VK → Prop) : Prop :=
  ∀ ⦃pins : List (Addr × Obj)⦄ (s : Shared) (σ : St) (H : Hp) (x : V) (xs : List V) (v : Value) (us : List Value) (Q : VK), Inv X pins σ H s → RelV x v → Vals xs us → r x xs H Q →
    wpAny (model X.prog X.w) X.A (call (.builtin id) (v :: us)) (EP X pins σ Q) X.xe s

/-! ### lists of values -/
theorem Vals.hd {x : V} {xs : List V} {us : List Value} (h : Vals (x :: xs) us) : ∃ u r, us = u :: r ∧ RelV x u ∧ Vals xs r := by
  cases h with | cons a b => exact ⟨_, _, rfl, a, b⟩
theorem Vals.one {x : V} {us : List Value} (h : Vals [x] us) : ∃ u, us = [u] ∧ RelV x u := by
  obtain ⟨u, r, rfl, a, h⟩ := h.hd
  cases h
  exact ⟨_, rfl, a⟩
theorem Vals.eraseIdx : ∀ {xs : List V} {us : List Value} (i : Nat), Vals xs us → Vals (xs.eraseIdx i) (us.eraseIdx i)
  | _, _, _, .nil => .nil
  | _, _, 0, .cons _ t => t
  | _, _, i + 1, .cons r t => .cons r (Vals.eraseIdx i t)
theorem Vals.rep {xs : List V} {us : List Value} (h : Vals xs us) : ∀ k : Nat, Vals (List.replicate k xs).flatten (List.replicate k us).flatten
  | 0 => .nil
  | k + 1 => by
    rw [List.replicate_succ, List.replicate_succ, List.flatten_cons, List.flatten_cons]
    exact Vals.append h (Vals.rep h k)
theorem len_erase {α : Type} : ∀ (l : List α) (i : Nat), (l.eraseIdx i).length ≤ l.length
  | [], _ => Nat.le_refl _
  | _ :: _, 0 => Nat.le_succ _
  | _ :: r, i + 1 => Nat.succ_le_succ (len_erase r i)
theorem foldl_rep (its : List Value) : ∀ (k : Nat) (acc : List Value),
    List.foldl (fun x1 x2 => x1 ++ x2) acc.toArray (List.replicate k its.toArray) = (acc ++ (List.replicate k its).flatten).toArray
  | 0, acc => by simp
  | k + 1, acc => by
    have e : acc.toArray ++ its.toArray = (acc ++ its).toArray := by simp
    have e2 : (acc ++ its) ++ (List.replicate k its).flatten = acc ++ (List.replicate (k + 1) its).flatten := by
      rw [List.replicate_succ, List.flatten_cons, List.append_assoc]
    rw [← e2, ← foldl_rep its k (acc ++ its), ← e, List.replicate_succ, List.foldl_cons]

section
variable {X : Cx} {pins : List (Addr × Obj)} {σ : St} {H : Hp} {s : Shared} {l b : Addr} {xs ys zs : List V}

/-! ### the two steps: a tracked list is rewritten, a new list is laid -/
theorem Inv.lset {its its' : List Value} {n : Nat} {f : Array Value → Array Value} {t' : Nat} (I : Inv X pins σ H s) (hH : H l = some (.lst xs))
    (e : s.heap.get? l = some { cls := .type "list", data := .seq its.toArray n }) (hf : f its.toArray = its'.toArray) (hv : Vals ys its') (hz : ys.length ≤ sizeLine) :
    Inv X pins σ (upd H l (.lst ys)) { s with heap := s.heap.update l (Obj.mapSeq f), toks := t' } := by
  have q := PySem.IsL.update e f
  rw [hf] at q
  refine I.write (x := l) (e := l) (by rw [hH]; exact trivial) (.inl rfl) (fun b' u hb hu => (Heap.get?_update_other s.heap (Obj.mapSeq f) (Ne.symm hb)).trans hu) ⟨_, q⟩ ?_
  exact ⟨hz, its', _, hv, q⟩
theorem Inv.lnew {its : List Value} {t' : Nat} (I : Inv X pins σ H s) (hv : Vals ys its) (hz : ys.length ≤ sizeLine) :
    Inv X pins σ (upd H s.heap.objs.size (.lst ys)) { s with heap := s.heap.push { cls := .type "list", data := .seq its.toArray }, toks := t' } :=
  I.laid (fun _ _ q => Heap.get?_push_of_some _ q) (Nat.le_refl _) ⟨hz, its, 0, hv, Heap.get?_push_size _ rfl⟩
theorem Inv.fresh (I : Inv X pins σ H s) : H s.heap.objs.size = none := I.hok.fresh (Nat.le_refl _)
theorem Inv.lstM (I : Inv X pins σ H s) (hH : H l = some (.lst xs)) : xs.length ≤ sizeLine ∧ ∃ (its : List Value) (n : Nat), Vals xs its ∧ xs.length = its.length ∧ s.heap.get? l = some { cls := .type "list", data := .seq its.toArray n } := by
  obtain ⟨z, its, n, r, e⟩ := I.hok l _ hH
  exact ⟨z, its, n, r, r.length, e⟩

theorem notLongL {n : Nat} (h : n ≤ sizeLine) : Builtin.List.listTooLong n = false := by
  unfold Builtin.List.listTooLong
  exact decide_eq_false (by (first | lia | omega))
end

section
variable {X : Cx}

/-! ### methods -/
noncomputable def rAppend : V → List V → Hp → VK → Prop := fun x vs H Q => Ex3 fun l xs y => x = .ref l ∧ vs = [y] ∧ H l = some (.lst xs) ∧ xs.length < sizeLine ∧ Q .non (upd H l (.lst (xs ++ [y])))
theorem mt_append : MtM X "list.append" rAppend := by
  intro pins s σ H x vs v us Q I rx rv h
  obtain ⟨l, xs, y, rfl, rfl, hH, hz, q⟩ := h
  cases rx
  obtain ⟨u, rfl, ru⟩ := rv.one
  obtain ⟨z, its, n, r, hl, e⟩ := I.lstM hH
  refine call_meets F.slot_list_append ⟨_, e, rfl⟩ F.entry_list_append (F.args_list_append_2 _ _) (PySem.list_append l its.toArray n u (by rw [List.size_toArray]; (first | lia | omega))) ⟨e, ?_⟩
  refine ⟨.non, _, I.lset (its' := its ++ [u]) hH e (by simp) (r.append (.cons ru .nil)) ?_, rfl, q⟩
  rw [List.length_append, List.length_singleton]
  (first | lia | omega)

noncomputable def rExtend : V → List V → Hp → VK → Prop := fun x vs H Q => Ex4 fun l b xs zs => x = .ref l ∧ vs = [.ref b] ∧ H l = some (.lst xs) ∧ H b = some (.lst zs) ∧ xs.length + zs.length ≤ sizeLine ∧ Q .non (upd H l (.lst (xs ++ zs)))
theorem mt_extend : MtM X "list.extend" rExtend := by
  intro pins s σ H x vs v us Q I rx rv h
  obtain ⟨l, b, xs, zs, rfl, rfl, hH, hB, hz, q⟩ := h
  cases rx
  obtain ⟨u, rfl, ru⟩ := rv.one
  cases ru
  obtain ⟨z, its, n, r, hl, e⟩ := I.lstM hH
  obtain ⟨z2, its2, n2, r2, hl2, e2⟩ := I.lstM hB
  have hsz : its.toArray.size + its2.toArray.size ≤ sizeLine := by rw [List.size_toArray, List.size_toArray]; (first | lia | omega)
  have hlong : ¬ (!its.toArray.isEmpty && Builtin.List.listTooLong (its.toArray.size + its2.toArray.size)) = true := by
    rw [notLongL hsz, Bool.and_false]
    exact Bool.false_ne_true
  refine call_meets F.slot_list_extend ⟨_, e, rfl⟩ F.entry_list_extend (F.args_list_extend_2 _ _)
    (AutoSeq1.list_extend_list_list_0 l its.toArray n b its2.toArray n2 hlong (by rw [List.size_toArray]; (first | lia | omega)) (by (first | lia | omega))) ⟨e, e2, ?_⟩
  refine ⟨.non, _, I.lset (its' := its ++ its2) hH e (by simp) (r.append r2) ?_, rfl, q⟩
  rw [List.length_append]
  (first | lia | omega)

noncomputable def rPopAt : V → List V → Hp → VK → Prop := fun x vs H Q => Ex5 fun l xs i k y => x = .ref l ∧ vs = [.int i] ∧ H l = some (.lst xs) ∧ -(2 ^ 63) ≤ i ∧ i < 2 ^ 63 ∧ seqIndex? i xs.length = some k ∧ xs[k]? = some y ∧ Q y (upd H l (.lst (xs.eraseIdx k)))
theorem mt_popAt : MtM X "list.pop" rPopAt := by
  intro pins s σ H x vs v us Q I rx rv h
  obtain ⟨l, xs, i, k, y, rfl, rfl, hH, h1, h2, hk, hy, q⟩ := h
  cases rx
  obtain ⟨u, rfl, ru⟩ := rv.one
  obtain ⟨t, rfl⟩ := ru
  obtain ⟨z, its, n, r, hl, e⟩ := I.lstM hH
  obtain ⟨w, hw, rw'⟩ := r.get hy
  refine call_meets F.slot_list_pop ⟨_, e, rfl⟩ F.entry_list_pop (F.args_list_pop_2 _ _)
    (MeetsSeq.list_pop_at l its.toArray n i t k w (fitsIndex_both h1 h2) (by rw [List.size_toArray, ← hl]; exact hk) (by rw [← Array.getElem?_toList]; exact hw) (by rw [List.size_toArray]; (first | lia | omega))) ⟨e, ?_⟩
  refine ⟨y, _, I.lset (its' := its.eraseIdx k) hH e ?_ (r.eraseIdx k) ?_, rw', q⟩
  · show its.toArray.eraseIdxIfInBounds k = (its.eraseIdx k).toArray
    rw [List.eraseIdxIfInBounds_toArray]
  · have := len_erase xs k
    (first | lia | omega)

/-! ### list + list, list += list, list * int -/
noncomputable def rCat : R2 := fun x y H Q => Ex4 fun l b xs zs => x = .ref l ∧ y = .ref b ∧ H l = some (.lst xs) ∧ H b = some (.lst zs) ∧ xs.length + zs.length ≤ sizeLine ∧ ∀ p, H p = none → Q (.ref p) (upd H p (.lst (xs ++ zs)))
theorem op_cat : OpR X (binaryOp .Add) rCat := by
  intro pins s σ H x y v u Q I rx ry h
  obtain ⟨l, b, xs, zs, rfl, rfl, hH, hB, hz, q⟩ := h
  cases rx
  cases ry
  obtain ⟨z, its, n, r, hl, e⟩ := I.lstM hH
  obtain ⟨z2, its2, n2, r2, hl2, e2⟩ := I.lstM hB
  refine PySem.P.add_list e e2 ?_ (by rw [List.size_toArray, List.size_toArray]; (first | lia | omega))
  have ea : its.toArray ++ its2.toArray = (its ++ its2).toArray := by simp
  rw [ea]
  exact ⟨.ref _, _, I.lnew (t' := s.toks) (r.append r2) (by rw [List.length_append]; (first | lia | omega)), rfl, q _ I.fresh⟩
/-- a list times an int (a negative one is nothing) -/
noncomputable def rRep : R2 := fun x y H Q => Ex3 fun l k xs => x = .ref l ∧ y = .int k ∧ H l = some (.lst xs) ∧ -(2 ^ 63) ≤ k ∧ k < 2 ^ 63 ∧ xs.length * k.toNat ≤ sizeLine ∧
  ∀ p, H p = none → Q (.ref p) (upd H p (.lst (List.replicate k.toNat xs).flatten))
theorem len_rep {α : Type} (xs : List α) (k : Nat) : (List.replicate k xs).flatten.length = k * xs.length := by
  induction k with
  | zero => simp
  | succ k ih => rw [List.replicate_succ, List.flatten_cons, List.length_append, ih, Nat.succ_mul, Nat.add_comm]
theorem op_rep : OpR X (binaryOp .Mult) rRep := by
  intro pins s σ H x y v u Q I rx ry h
  obtain ⟨l, k, xs, rfl, rfl, hH, h1, h2, hz, q⟩ := h
  cases rx
  obtain ⟨t, rfl⟩ := ry
  obtain ⟨z, its, n, r, hl, e⟩ := I.lstM hH
  have hlen : its.toArray.size * k.toNat ≤ sizeLine := by rw [List.size_toArray, ← hl]; exact hz
  have hcap : ¬ its.toArray.size * k.toNat > (2 ^ 63 - 1) / 8 := by
    have : (sizeLine : Nat) ≤ (2 ^ 63 - 1) / 8 := by decide
    (first | lia | omega)
  have hfit : ¬ (!Builtin.List.listFitsIndex k) = true := by
    rw [fitsIndex_both h1 h2]
    exact Bool.false_ne_true
  have hlong : ¬ Builtin.List.listTooLong (its.toArray.size * k.toNat) = true := by
    rw [notLongL hlen]
    exact Bool.false_ne_true
  have hnew : List.foldl (fun x1 x2 => x1 ++ x2) #[] (List.replicate (if its.toArray.isEmpty = true then 0 else k.toNat) its.toArray) = (List.replicate k.toNat its).flatten.toArray := by
    have f0 : ∀ m : Nat, List.foldl (fun x1 x2 => x1 ++ x2) #[] (List.replicate m its.toArray) = (List.replicate m its).flatten.toArray := fun m => by
      have := foldl_rep its m []
      rw [List.nil_append] at this
      exact this
    rw [f0]
    cases its with
    | nil => simp
    | cons a r' => rw [if_neg (by simp)]
  refine wpAny_binaryOp_repeat_ref (T := "list") (U := "int") (by decide) ⟨_, e, rfl⟩ (fun s' => typeIs_int s' k t) noFill_list_mul F.fills_int_mul F.slot_int_rmul repeat_list F.slot_int_index.lookup
    (call_meets F.slot_int_rmul (typeIs_int s k t) F.entry_int_rmul (F.args_int_rmul_2 _ _) (int___rmul___int_list k t l its.toArray n)
      ⟨e, rfl, ⟨_, e, rfl⟩, call_meets F.slot_list_mul ⟨_, e, rfl⟩ F.entry_list_mul (F.args_list_mul_2 _ _) (AutoListH.list___mul___list_int_3 l its.toArray n k t hfit hcap hlong) ⟨e, ?_⟩⟩)
  rw [hnew]
  exact ⟨.ref _, _, I.lnew (t' := s.toks) (r.rep k.toNat) (by rw [len_rep, Nat.mul_comm]; exact hz), rfl, q _ I.fresh⟩

/-! ### del xs[i] -/
end

/-! ### xs[a:b] = ys -/
section
variable {prog : Program} {w : World} {A : Around} {E : Value → Shared → Prop} {s : Shared}
set_option maxRecDepth 100000 in
end

section
variable {X : Cx}
end
end L2

namespace Att
open PySem PySem.W PySem.Calls PyProof.Rows

/-! ### the script -/
theorem ints_of_wellAll {P : Params} {h : Heap} : ∀ (ns : List Int) (vs : List Value), WellAll P h vs (ns.map WData.int) → IntsAre vs ns := by
  intro ns
  induction ns with
  | nil =>
    intro vs w
    rw [List.map_nil] at w
    cases w
    exact .nil
  | cons n ns ih =>
    intro vs w
    rw [List.map_cons] at w
    cases w with
    | cons a b =>
      cases a
      exact .cons _ _ (ih _ b)

theorem script_of {l : OpenLaw} {n : Nat} (hn : l.most = some n) {P : Params} {h : Heap} {args : List WData} {vals : List Value}
    (hpre : l.row.toRowW.claim.pre args = true) (hwl : WellAll P h vals args) :
    ∃ a vs ns, vals = [Value.ref a] ∧ args = [WData.list (ns.map WData.int)] ∧ h.get? a = some { cls := .type "list", data := .seq vs.toArray } ∧ IntsAre vs ns ∧ ns.length ≤ n := by
  have hsh : WShape.hasAll [] args [.list .int] = true := (pre_splitW hpre).1
  have hc : l.pre.holds [] { args := args } = true := (pre_splitW hpre).2
  obtain ⟨d, r, rfl, h1, h2⟩ := hasAllW_cons hsh
  obtain rfl := hasAllW_nil h2
  obtain ⟨xs, rfl, h3⟩ := hasW_list h1
  obtain ⟨ns, rfl⟩ := items_int h3
  have hlen : ns.length ≤ n := by
    unfold OpenLaw.pre at hc
    have h4 : (WTm.not (.lt (.lit (.int (n : Int))) (.len (.arg 0)))).holds [] { args := [.list (ns.map .int)] } = true := by
      have h4 := (holds_andW hc).1
      rw [hn] at h4
      exact h4
    have h5 := condW_of h4 (w_not (w_lt w_lit (w_len_list (w_arg rfl))))
    rw [List.length_map] at h5
    refine Nat.le_of_not_lt fun q => ?_
    have q' : (n : Int) < ((ns.length : Nat) : Int) := by (first | lia | omega)
    first
      | (rw [decide_eq_true q'] at h5; exact absurd h5 (by decide))
      | (simp at h5; (first | lia | omega))
  cases hwl with
  | cons w1 w2 =>
    cases w2
    cases w1 with
    | list ho hall => exact ⟨_, _, ns, rfl, rfl, ho, ints_of_wellAll ns _ hall, hlen⟩

theorem post_true (l : OpenLaw) (args : List WData) : l.row.toRowW.claim.post args (.bool true) args = true :=
  postW_of (r := l.row.toRowW) (X := (true == true))
    (show WShape.has [] (.bool true) .bool = true by first | rfl | decide | simp [WShape.has, WShape.arms, WShape.armsAll])
    (show (WTm.eq .res (.lit (.bool true))).value [] { args := args, res := some (.bool true), after := args } = some (.bool (true == true)) from w_eq_bool (w_res rfl) w_lit) rfl

/-! ### the attachment: holds_open's last premise (the goal 'hc' behind k_head) from a wpAny of the law's body -/
/-- the same from a codeAny of the CALL (for a layer whose function contracts speak of calls) -/
theorem attach_call {l : OpenLaw} {n : Nat} {q : Program} {loose : List Str} {XP : (Str → Option Value) → Heap → Prop} {YP : World → Heap → Prop} {d : DefRec}
    (hn : l.most = some n) (hdf : d.params.defaults = [])
    (call : ∀ (w : World) (s₀ s₁ : Shared) (mg mb : Str → Option Value) (fa : Addr) (o : Obj) (pm cd doc : Value) (a : Addr) (vs : List Value) (ns : List Int),
      Ground q loose [] XP w s₀ mg mb s₁.heap → YP w s₁.heap →
      s₁.heap.get? fa = some o → o.data = .func (docDef d.name d.params d.body d.scope pm cd doc) → s₁.heap.CodeRec cd d.name → mg d.name = some (.ref fa) →
      s₁.heap.get? a = some { cls := .type "list", data := .seq vs.toArray } → IntsAre vs ns → ns.length ≤ n → s₁.gens = #[] →
      codeAny (model l.prog w) callerA (.call (.ref fa) ⟨[.ref a], []⟩) (fun r s' => r = .ok (.ret (.bool true)) ∧ OldK s₁.heap s'.heap ∧ s'.os = s₁.os ∧ AllBare s'.gens) s₁) :
    WalkO q loose XP YP l.row.toRowW d [] (fun f vs => PySem.call f vs) := by
  intro w s₀ s₁ mg mb G Y fa o pm cd doc dV kV ho hd hcd hD hmg hg args vals as hpre hlay hrd hwl hlo
  obtain rfl : dV = .none := Dflts.none hD hdf
  obtain rfl : kV = .none := Dflts.noKw hD
  obtain ⟨a, vs, ns, rfl, rfl, hobj, hints, hlen⟩ := script_of hn hpre hwl
  refine enter_call (codeAny_mono (call w s₀ s₁ mg mb fa o pm cd doc a vs ns G Y ho (fd_plain hd) hcd hmg hobj hints hlen hg) fun r s' hq => ?_)
  obtain ⟨rfl, h2, h3, h4⟩ := hq
  exact ⟨.inl ⟨.bool true, .bool true, [], rfl, fun _ => rfl, .bool true, post_true l _, fun _ => ⟨List.Pairwise.nil, fun _ hm => (nomatch hm)⟩⟩, h2, h3, h4⟩

/-! ### rules over ANY heap (no ledger) from facts about the written part K: the library's own take a ledger (News) for what they write -/
section
variable {prog : Program} {w : World} {A : Around} {E : Value → Shared → Prop} {s : Shared} {K : Frag}

/-! the whole heap as the ledger: makes every rule that writes through a ledger a rule over any heap -/
end
end Att

namespace L2
open PySem PySem.Spec PyProof.Rows

theorem vals_ints {vs : List Value} {ns : List Int} (h : IntsAre vs ns) : Vals (ns.map V.int) vs := by
  induction h with
  | nil => exact .nil
  | cons n t h ih => exact .cons ⟨t, rfl⟩ ih

/-- nothing is tracked but the script, known to the object (or it is an object of the module) -/
noncomputable def Only (H : Hp) : Prop := ∀ b, H b = none ∨ Ex2 fun o xs => H b = some (.frz o (.lst xs))

/-- THE HEAD: the law's promise, at the heap behind the top. F, the promise of the law's def, may use that base is part of the heap (so K.In base, base.Ns mainGlobals mg stand in Mod) -/
theorem law_call {P : Program} {w : World} {K : PySem.W.Frag} {mg mb : Str → Option Value} {CX : CXT} {k : Nat} {fa a : Addr} {fd : FuncData} {x : Str} {sp : Sp} {s₁ : Shared} {vs : List Value} {ns : List Int}
    (KX : K.In s₁.heap) (hns : s₁.heap.Ns mainGlobals mg) (hb : s₁.heap.Ns builtinsNs mb) (hbb : ∀ x : Str, x ≠ "__name__" → mb x = bootBuiltins x) (hlim : s₁.heap.NoLimit) (hg : s₁.gens = #[])
    (ha : s₁.heap.get? a = some { cls := .type "list", data := .seq vs.toArray }) (hi : IntsAre vs ns) (hl : ns.length ≤ sizeLine) (hr : Room k callerA)
    (F : ∀ base : Heap, K.In base → base.Ns mainGlobals mg → FnOk P w K mg base CX k fa fd [x] sp) (hbind : ∀ (s : Shared) (u : Value), BindsTo s fd ⟨[u], []⟩ [(x, u)])
    (hsp : ∀ H : Hp, Only H → SqL K H a (ns.map V.int) → sp [.ref a] H (fun v _ => v = .bl true) fun _ _ _ => False)
    (hCX : ∀ H e s', CX [] H s₁ (fun _ _ _ => False) e s' → False) :
    codeAny (model P w) callerA (.call (.ref fa) ⟨[.ref a], []⟩) (fun r s' => r = .ok (.ret (.bool true)) ∧ OldK s₁.heap s'.heap ∧ s'.os = s₁.os ∧ AllBare s'.gens) s₁ := by
  have rv := vals_ints hi
  have lenV := hi.length
  -- from an abstract heap in which nothing but the script may be tracked
  have core : ∀ H : Hp, Only H → SqL K H a (ns.map V.int) → HOk P w H s₁.heap → (∀ b, H b ≠ none → b = a) → (H a ≠ none → K.lookup a = none) →
      codeAny (model P w) callerA (.call (.ref fa) ⟨[.ref a], []⟩) (fun r s' => r = .ok (.ret (.bool true)) ∧ OldK s₁.heap s'.heap ∧ s'.os = s₁.os ∧ AllBare s'.gens) s₁ := by
    intro H hO hS hok hA hK
    have base_of : ∀ {b : Addr} {o : Obj}, s₁.heap.get? b = some o → H b = none → (hidT s₁.heap H).get? b = some o := fun e n => hidT_get e n
    have noA : ∀ {b : Addr} {o : Obj} {es : Array DictEntry} {ep : Nat}, s₁.heap.get? b = some o → o.data = .dict es ep → H b = none := fun {b o es ep} e d => by
      cases q : H b with
      | none => rfl
      | some u =>
        have e' : b = a := hA b (by rw [q]; simp)
        subst e'
        rw [ha] at e; cases e
        have d' : Data.seq vs.toArray _ = Data.dict es ep := d
        cases d'
    have nsK : ∀ {b : Addr} {m : Str → Option Value}, s₁.heap.Ns b m → (hidT s₁.heap H).Ns b m := fun {b m} ⟨o, es, ep, e, d, r⟩ => ⟨o, es, ep, base_of e (noA e d), d, r⟩
    have hKb : K.In (hidT s₁.heap H) := fun b o e => base_of (KX b o e) (by
      cases q : H b with
      | none => rfl
      | some u =>
        have e' : b = a := hA b (by rw [q]; simp)
        subst e'
        rw [hK (by rw [q]; simp)] at e; cases e)
    have hM : Mod K mg (hidT s₁.heap H) := ⟨hKb, nsK hns, ⟨mb, nsK hb, hbb⟩, let ⟨mc, h1, h2⟩ := hlim; ⟨mc, nsK h1, h2⟩⟩
    have e0 : Env0 P w K mg (hidT s₁.heap H) callerA [] s₁ H := ⟨rfl, hM, fun b o e => of_hidT e, Nat.le_of_eq (hidT_size _ _), trivial, fun b hb => absurd (show b ∈ ([] : List Addr) from hb) (by simp), hok, .of_eq hg⟩
    refine codeAny_mono ((F _ hKb (nsK hns)).run callerA [] s₁ H ⟨[.ref a], []⟩ [.ref a] [.ref a] _ _ hr e0 (hbind s₁ (.ref a)) (.cons rfl .nil) (hsp H hO hS)) fun r s' h => ?_
    cases r with
    | error e => exact (hCX H e s' h).elim
    | ok fl =>
      cases fl with
      | next => exact False.elim h
      | brk => exact False.elim h
      | cont => exact False.elim h
      | ret u =>
        obtain ⟨v, H', os, bare, un, hok', r', q⟩ := h
        have q' : v = .bl true := q
        subst q'
        obtain rfl : u = Value.bool true := r'
        refine ⟨rfl, OldK.of_keep fun b o e => ?_, os, bare⟩
        cases q : H b with
        | none => exact un.keep b o e q (by intro z; exact absurd (show b ∈ ([] : List Addr) from z) (by simp)) (by simp)
        | some u =>
          rcases hO b with z | ⟨ob, xs, z⟩
          · rw [q] at z; cases z
          · have z2 := un.frzs b ob _ z
            obtain ⟨e1, _⟩ := hok b _ z
            obtain ⟨e2, _⟩ := hok' b _ z2
            rw [e] at e1; cases e1
            exact e2
  cases hk : K.lookup a with
  | some o =>
    -- the script is one of the module's own objects
    have e := KX a o hk
    rw [ha] at e
    cases e
    refine core (fun _ => none) (fun _ => .inl rfl) (.inr ⟨_, vs.toArray, _, hk, rfl, rfl, rfl, by rw [List.size_toArray, lenV]; exact hl, by simpa using rv⟩) (fun b u z => by have z' : (none : Option HO) = some u := z; cases z') (fun b z => absurd rfl z) fun z => absurd rfl z
  | none =>
    refine core (fun b => if b = a then some (.frz { cls := .type "list", data := .seq vs.toArray } (.lst (ns.map V.int))) else none) (fun b => ?_) (.inl (.inr ⟨{ cls := .type "list", data := .seq vs.toArray }, if_pos rfl⟩)) (fun b u z => ?_) (fun b z => ?_) fun _ => hk
    · by_cases hb : b = a
      · exact .inr ⟨_, _, if_pos hb⟩
      · exact .inl (if_neg hb)
    · by_cases hb : b = a
      · have z' := (if_pos hb).symm.trans z
        cases z'
        subst hb
        exact ⟨ha, by rw [List.length_map]; exact hl, vs, _, rv, ha⟩
      · have z' := (if_neg hb).symm.trans z
        cases z'
    · by_cases hb : b = a
      · exact hb
      · exact absurd (if_neg hb) z
end L2

namespace L2
open PySem PySem.Spec PyProof.Rows

/-- the goal that k_head leaves (case hc), from the law's promise. F gives the function object fd (K's own) once, then the promise over every base -/
theorem walk_of {l : PySem.W.OpenLaw} {n k : Nat} {q : Program} {loose : List Str} {XP : (Str → Option Value) → Heap → Prop} {YP : World → Heap → Prop} {d : DefRec} {K : Params → PySem.W.Frag} {CX : World → CXT} {sp : World → Sp} {x : Str}
    (hn : l.most = some n) (hn2 : n ≤ sizeLine) (hdf : d.params.defaults = []) (hr : Room k callerA)
    (hY : ∀ (w : World) (h : Heap), YP w h → (K w.params).In h)
    (F : ∀ (w : World) (mg : Str → Option Value) (fa : Addr) (h : Heap), (K w.params).In h → h.Ns mainGlobals mg → mg d.name = some (.ref fa) →
      ∃ fd : FuncData, (∀ (s : Shared) (u : Value), BindsTo s fd ⟨[u], []⟩ [(x, u)]) ∧
        ∀ base : Heap, (K w.params).In base → base.Ns mainGlobals mg → FnOk l.prog w (K w.params) mg base (CX w) k fa fd [x] (sp w))
    (hsp : ∀ (w : World) (H : Hp) (a : Addr) (ns : List Int), ns.length ≤ n → Only H → SqL (K w.params) H a (ns.map V.int) → sp w [.ref a] H (fun v _ => v = .bl true) fun _ _ _ => False)
    (hCX : ∀ (w : World) (H : Hp) (s : Shared) (e : Value) (s' : Shared), CX w [] H s (fun _ _ _ => False) e s' → False) :
    PySem.W.WalkO q loose XP YP l.row.toRowW d [] (fun f vs => PySem.call f vs) := by
  refine Att.attach_call hn hdf fun w s₀ s₁ mg mb fa o pm cd doc a vs ns G Y ho hd hcd hmg hobj hints hlen hg => ?_
  have KX := hY w _ Y
  obtain ⟨fd, hb, hF⟩ := F w mg fa _ KX G.T.g hmg
  exact law_call KX G.T.g G.T.b G.T.builtins G.T.nolimit hg hobj hints (Nat.le_trans hlen hn2) hr hF hb (fun H hO hS => hsp w H a ns hlen hO hS) fun H e s' => hCX w H s₁ e s'
end L2

/- THE LAST THEOREM (shape; LID, My.* are yours):
   My.Adr: a structure of the addresses that your layer names (classes, functions); My.Txt K t: a structure (Prop) of the equations over K;
   My.txt_mk : {K} {implicit addresses ..} (e1 : nsIn K mainGlobals "law" = some (some (.ref f))) (e2 : K.lookup f = some ⟨oc, od, .func (fnOf "law" "law" params body scope dV kV doc pm an cdv ct), sl⟩) (e3 : codeIn K cdv "law" = true) .. : ∃ t, My.Txt K t

set_option maxRecDepth 100000 in
set_option maxHeartbeats 0 in
theorem PySem.Challenge.cw_LID_holds : PySem.Challenge.rw_LID.Holds := by
  w_on; o_law; k_head; (case hw => w_witness2)
  k_fill
  refine L2.walk_of (l := PySem.Challenge.rw_LID) (n := 63) (k := 40) (x := "script") (CX := fun w => ..) (sp := fun _ => My.sp_law) rfl (by decide) rfl ⟨rfl, by decide, by decide⟩ (fun w h Y => PySem.W.kIn_of Y) ?F ?S ?C
  case F =>
    intro w mg fa h KX G hmg
    have T : ∃ t, My.Txt (L2.KOf KX) t := by
      dsimp only [L2.KOf]                          -- K must stand as «<heap const> w.params» for k_is
      refine' My.txt_mk ?e1 ?e2 ?e3 ..
      (case e1 => PySem.W.k_is)                    -- in the order: a name -> its address -> its object -> its parts
      (case e2 => PySem.W.k_is)
      ..
    obtain ⟨t, T⟩ := T
    have e0 := hmg.symm.trans (PySem.W.mg_of KX G T.law)
    cases e0                                       -- fa is the law's own address
    exact ⟨_, fun s u => .of_eq rfl, fun base kb nb => My.law_fn T kb nb⟩     -- if «.of_eq rfl» comes too early: refine' ⟨_, ?b, fun base kb nb => My.law_fn T kb nb⟩; exact fun s u => .of_eq rfl
  case S => exact fun w H a ns hl hO hS => ..
  case C => exact ..
(the tactic k_is has no namespace: write k_is) -/

/-! SHORT WORDS over the layer: a def of the text, its body, what a loop and a test want. -/
namespace L2
open PySem PySem.Spec PyProof.Rows

/-! ### the text by places -/
noncomputable def defArgs (s : Stmt) : Arguments := match s with
  | .FunctionDef _ a _ _ _ _ _ _ _ _ => a
  | _ => { posonlyargs := [], args := [], vararg := none, kwonlyargs := [], kw_defaults := [], kwarg := none, defaults := [] }
noncomputable def defBody (s : Stmt) : List Stmt := match s with
  | .FunctionDef _ _ b _ _ _ _ _ _ _ => b
  | _ => []
noncomputable def defScope (s : Stmt) : Scope := match s with
  | .FunctionDef _ _ _ _ _ _ sc _ _ _ => sc
  | _ => { kind := .function, names := [], isGenerator := false, isCoroutine := false }

/-! ### no exception leaves a def -/
noncomputable abbrev CX0 : CXT := fun _ _ _ _ _ _ => False
noncomputable abbrev E0 : XK := fun _ _ _ => False
theorem pass0 {X : Cx} : Passes CX0 X E0 := fun _ _ _ _ _ _ _ h => h.elim

/-! ### a def (or method) of the text as it stands behind the top -/
structure Fun (K : PySem.W.Frag) (x qual : Str) (st : Stmt) (f : Addr) (fd : FuncData) : Prop where
  ex : ∃ (oc : Value) (od : Option Addr) (kV doc pm : Value) (an : Option Addr) (cdv ct : Value) (osl : Array (Option Value)),
    fd = PySem.W.fnOf x qual (defArgs st) (defBody st) (defScope st) .none kV doc pm an cdv ct ∧ K.lookup f = some ⟨oc, od, .func fd, osl⟩ ∧ PySem.W.codeIn K cdv qual = true
  kp : PySem.W.keepIn K (.ref f) = true
section
variable {P : Program} {w : World} {K : PySem.W.Frag} {mg : Str → Option Value} {base : Heap}
/-- THE RULE for a def: its body as a term of rules, and the reading of that term -/
theorem Fun.ok {x qual : Str} {st : Stmt} {f : Addr} {fd : FuncData} {N ps : List Str} {k : Nat} {sp : Sp} (F : Fun K x qual st f fd) (S : FnScope N ps (defScope st)) (len : ∀ vs H Q E, sp vs H Q E → vs.length = ps.length)
    (hbody : ∀ (cdv : Value) (A : Around) (outer : List Env) (s : Shared) (H : Hp) (vs : List V) (Q : VK) (E : XK), Room k (A.deeper (envOfC qual (defScope st) s.heap.objs.size f cdv)) → sp vs H Q E →
      ∃ t, PSs (cxOf CX0 P w K mg base N qual (defScope st) f cdv A outer s H E).nox (defBody st) t ∧ t { nx := fun _ H' => Q .non H', rt := Q } (start N vs) H) : FnOk P w K mg base CX0 (k + 1) f fd ps sp := by
  obtain ⟨oc, od, kV, doc, pm, an, cdv, ct, osl, rfl, lk, hcd⟩ := F.ex
  refine fn_of lk hcd S len fun A outer s H vs Q E hr hsp => ?_
  obtain ⟨t, h, q⟩ := hbody cdv A outer s H vs Q E hr hsp
  exact ⟨t, h.nox, q⟩
/-- how its arguments bind (no defaults): h is «fun _ _ _ _ _ _ us hl => match us, hl with | [_, _], _ => rfl», one _ a parameter -/
theorem Fun.binds {x qual : Str} {st : Stmt} {f : Addr} {fd : FuncData} {ps : List Str} (F : Fun K x qual st f fd)
    (h : ∀ (kV doc pm : Value) (an : Option Addr) (cdv ct : Value) (us : List Value), us.length = ps.length → bindArgs (PySem.W.fnOf x qual (defArgs st) (defBody st) (defScope st) .none kV doc pm an cdv ct) ⟨us, []⟩ = pure (ps.zip us)) : Binds K fd ps [] := by
  obtain ⟨oc, od, kV, doc, pm, an, cdv, ct, osl, rfl, lk, hcd⟩ := F.ex
  exact .all (h kV doc pm an cdv ct)
theorem fun_mk {x qual : Str} {st : Stmt} {f : Addr} {oc : Value} {od an : Option Addr} {osl : Array (Option Value)} {kV doc pm cdv ct : Value} (l : K.lookup f = some ⟨oc, od, .func (PySem.W.fnOf x qual (defArgs st) (defBody st) (defScope st) .none kV doc pm an cdv ct), osl⟩)
    (c : PySem.W.codeIn K cdv qual = true) (k : PySem.W.keepIn K (.ref f) = true) : Fun K x qual st f (PySem.W.fnOf x qual (defArgs st) (defBody st) (defScope st) .none kV doc pm an cdv ct) := ⟨⟨oc, od, kV, doc, pm, an, cdv, ct, osl, rfl, l, c⟩, k⟩
end
theorem hu_of {A : Around} {k : Nat} (hr : Room k A) : A.units + 1 < cLine := Nat.lt_of_le_of_lt (Nat.add_le_add_left (by decide : 1 ≤ 64) _) hr.units
/-! ### expressions in short: the name that stands in the i-th slot -/
section
variable {X : Cx}
theorem pv (i : Nat) {x : Str} {pos : Pos} (hN : X.N[i]? = some x := by rfl) (hv : Vis X.env.scope x := by first | exact Or.inl rfl | exact Or.inr (Or.inl rfl) | exact Or.inr (Or.inr rfl)) (hd : (x == ("__debug__" : Str)) = false := by decide)
    (hcd : (x == ("__classdict__" : Str)) = false := by decide) : PE X (.Name x pos) (tVar i) := pe_var hN hv hd hcd
end

/-! ### tests -/
theorem iteF {A B : Prop} (h : B) : if false = true then A else B := by
  rw [if_neg Bool.false_ne_true]
  exact h
theorem iteT {A B : Prop} (h : A) : if true = true then A else B := by
  rw [if_pos rfl]
  exact h
theorem ite2 {c A B : Prop} [Decidable c] (h1 : c → A) (h2 : ¬ c → B) : if c then A else B := by
  by_cases h : c
  · rw [if_pos h]
    exact h1 h
  · rw [if_neg h]
    exact h2 h
/-! ### heaps -/
/-- all that was tracked is as it was -/
noncomputable def Same (H H' : Hp) : Prop := ∀ b o, H b = some o → H' b = some o
theorem Same.refl (H : Hp) : Same H H := fun _ _ h => h
theorem Same.trans {H H1 H2 : Hp} (a : Same H H1) (b : Same H1 H2) : Same H H2 := fun c o h => b c o (a c o h)
theorem Same.free {H H' : Hp} (e : Same H H') {l : Addr} (h : H' l = Option.none) : H l = Option.none := by
  cases q : H l with
  | none => rfl
  | some o =>
    rw [e l o q] at h
    cases h
theorem Same.seq {K : PySem.W.Frag} {H H' : Hp} {a : Addr} {xs : List V} (e : Same H H') (h : SqL K H a xs) : SqL K H' a xs := by
  rcases h with (h | ⟨o, h⟩) | h
  · exact .inl (.inl (e _ _ h))
  · exact .inl (.inr ⟨o, e _ _ h⟩)
  · exact .inr h

end L2


namespace L2
open PySem PySem.Spec PyProof.Rows
section
variable {X : Cx}
end
end L2

namespace L2
open PySem PySem.Spec PyProof.Rows

/-! ### a dict's pairs: keys that differ -/
section
variable {κ : Type} [DecidableEq κ]
theorem valV_not {kvs : List (κ × V)} {k : κ} (h : valV kvs k = none) : ¬ k ∈ kvs.map (·.1) := by
  intro m
  obtain ⟨p, hp, e⟩ := List.mem_map.mp m
  have q : (kvs.any fun kv => decide (kv.1 = k)) = true := List.any_eq_true.mpr ⟨p, hp, decide_eq_true e⟩
  rw [valV_any, h] at q
  exact absurd q (by simp)
theorem valV_in {kvs : List (κ × V)} {k : κ} {v : V} (h : valV kvs k = some v) : k ∈ kvs.map (·.1) := by
  have q : (kvs.any fun kv => decide (kv.1 = k)) = true := by
    rw [valV_any, h]
    all_goals rfl
  obtain ⟨p, hp, e⟩ := List.any_eq_true.mp q
  exact List.mem_map.mpr ⟨p, hp, of_decide_eq_true e⟩
theorem nd_snoc : ∀ {l : List κ} {k : κ}, l.Nodup → ¬ k ∈ l → (l ++ [k]).Nodup
  | [], k, _, _ => by simp
  | a :: r, k, h, hk => by
    obtain ⟨h1, h2⟩ := List.nodup_cons.mp h
    show (a :: (r ++ [k])).Nodup
    refine List.nodup_cons.mpr ⟨fun m => ?_, nd_snoc h2 fun m => hk (List.mem_cons.mpr (Or.inr m))⟩
    rcases List.mem_append.mp m with q | q
    · exact h1 q
    · exact hk (List.mem_cons.mpr (Or.inl (List.mem_singleton.mp q).symm))
theorem nd_putK {kvs : List (κ × V)} {k : κ} (v : V) (hn : (kvs.map (·.1)).Nodup) (h : valV kvs k = none) : ((putK kvs k v).map (·.1)).Nodup := by
  rw [putK_new v h, List.map_append]
  exact nd_snoc hn (valV_not h)
theorem dropK_pos {p : κ × V} {r : List (κ × V)} {k : κ} (e : p.1 = k) : dropK (p :: r) k = dropK r k := by
  unfold dropK
  rw [List.filter_cons, if_neg (by simp [e])]
theorem dropK_neg {p : κ × V} {r : List (κ × V)} {k : κ} (e : ¬ p.1 = k) : dropK (p :: r) k = p :: dropK r k := by
  unfold dropK
  rw [List.filter_cons, if_pos (by simp [e])]
theorem dropK_mem {kvs : List (κ × V)} {k : κ} {p : κ × V} (h : p ∈ dropK kvs k) : p ∈ kvs := (List.mem_filter.mp h).1
theorem nd_dropK : ∀ {kvs : List (κ × V)} {k : κ}, (kvs.map (·.1)).Nodup → ((dropK kvs k).map (·.1)).Nodup
  | [], _, _ => List.nodup_nil
  | p :: r, k, h => by
    have h : (p.1 :: r.map (·.1)).Nodup := h
    obtain ⟨h1, h2⟩ := List.nodup_cons.mp h
    by_cases e : p.1 = k
    · rw [dropK_pos e]
      exact nd_dropK h2
    · rw [dropK_neg e]
      show (p.1 :: (dropK r k).map (·.1)).Nodup
      refine List.nodup_cons.mpr ⟨fun m => h1 ?_, nd_dropK h2⟩
      obtain ⟨q, hq, eq⟩ := List.mem_map.mp m
      exact List.mem_map.mpr ⟨q, dropK_mem hq, eq⟩
end
end L2

set_option Elab.async false
set_option linter.all false
set_option maxRecDepth 100000
set_option maxHeartbeats 4000000
/-! comprehensions over the hand layer -/
namespace L2
/-- what is known, taken apart with the goal said once -/
class Elim (P : Prop) (F : outParam (Prop → Prop)) : Prop where
  el : P → ∀ G : Prop, F G → G
noncomputable instance (priority := low) elimBase {P : Prop} : Elim P (fun G => P → G) := ⟨fun h _ k => k h⟩
noncomputable instance elimEx {α : Sort u} {P : α → Prop} {F : α → Prop → Prop} [h : ∀ x, Elim (P x) (F x)] : Elim (∃ x, P x) (fun G => ∀ x, F x G) := ⟨fun ⟨x, hx⟩ G k => (h x).el hx G (k x)⟩
noncomputable instance elimAnd {A B : Prop} {F : Prop → Prop} [h : Elim B F] : Elim (A ∧ B) (fun G => A → F G) := ⟨fun ⟨a, b⟩ G k => h.el b G (k a)⟩
noncomputable instance elimEx2 {α0 α1 : Type} {P : α0 → α1 → Prop} {F : α0 → α1 → Prop → Prop} [i : ∀ x0 x1, Elim (P x0 x1) (F x0 x1)] : Elim (Ex2 P) (fun G => ∀ x0 x1, F x0 x1 G) := ⟨fun ⟨x0, x1, h⟩ G k => (i x0 x1).el h G (k x0 x1)⟩
noncomputable instance elimEx3 {α0 α1 α2 : Type} {P : α0 → α1 → α2 → Prop} {F : α0 → α1 → α2 → Prop → Prop} [i : ∀ x0 x1 x2, Elim (P x0 x1 x2) (F x0 x1 x2)] : Elim (Ex3 P) (fun G => ∀ x0 x1 x2, F x0 x1 x2 G) := ⟨fun ⟨x0, x1, x2, h⟩ G k => (i x0 x1 x2).el h G (k x0 x1 x2)⟩
noncomputable instance elimEx4 {α0 α1 α2 α3 : Type} {P : α0 → α1 → α2 → α3 → Prop} {F : α0 → α1 → α2 → α3 → Prop → Prop} [i : ∀ x0 x1 x2 x3, Elim (P x0 x1 x2 x3) (F x0 x1 x2 x3)] : Elim (Ex4 P) (fun G => ∀ x0 x1 x2 x3, F x0 x1 x2 x3 G) := ⟨fun ⟨x0, x1, x2, x3, h⟩ G k => (i x0 x1 x2 x3).el h G (k x0 x1 x2 x3)⟩
noncomputable instance elimEx5 {α0 α1 α2 α3 α4 : Type} {P : α0 → α1 → α2 → α3 → α4 → Prop} {F : α0 → α1 → α2 → α3 → α4 → Prop → Prop} [i : ∀ x0 x1 x2 x3 x4, Elim (P x0 x1 x2 x3 x4) (F x0 x1 x2 x3 x4)] : Elim (Ex5 P) (fun G => ∀ x0 x1 x2 x3 x4, F x0 x1 x2 x3 x4 G) := ⟨fun ⟨x0, x1, x2, x3, x4, h⟩ G k => (i x0 x1 x2 x3 x4).el h G (k x0 x1 x2 x3 x4)⟩
end L2
namespace L2
open PySem PySem.Spec PyProof.Rows

noncomputable abbrev noE : Value → Shared → Prop := fun _ _ => False
theorem noE_to {α : Type} {M : Model} {A : Around} {t : Sem α} {Q : α → Shared → Prop} {E : Value → Shared → Prop} {s : Shared} (h : wpAny M A t Q noE s) : wpAny M A t Q E s :=
  wpAny_mono h (fun _ _ q => q) fun _ _ z => z.elim

theorem addr_ne {a b : Addr} {n : Nat} (h : a < n) (h' : n ≤ b) : a ≠ b := fun e => absurd (Nat.lt_of_lt_of_le h h') (by rw [e]; exact Nat.lt_irrefl _)
theorem addr_ne' {a b : Addr} {n : Nat} (h : a < n) (h' : n ≤ b) : b ≠ a := fun e => addr_ne h h' e.symm

theorem closure_go (env : Env) : ∀ (names : List (Str × NameKind)) (acc : List (Str × Addr)),
    (∀ y ∈ names, y.2 = .free → ∃ c, env.cells.lookup y.1 = some c) → (∀ n c, acc.lookup n = some c → env.cells.lookup n = some c) →
    ∃ cl, (forIn names acc fun (x : Str × NameKind) (cs : List (Str × Addr)) => (if (x.2 == NameKind.free) = true then do
        let a ← cellOf env x.1
        pure (ForInStep.yield ((x.1, a) :: cs)) else pure (ForInStep.yield cs) : Sem (ForInStep (List (Str × Addr))))) = pure cl ∧
      (∀ n c, cl.lookup n = some c → env.cells.lookup n = some c) ∧ (∀ n c, acc.lookup n = some c → ∃ c', cl.lookup n = some c') ∧ ∀ y ∈ names, y.2 = .free → ∃ c, cl.lookup y.1 = some c
  | [], acc, _, h2 => ⟨acc, rfl, h2, fun _ c h => ⟨c, h⟩, fun _ h => nomatch h⟩
  | (n, k) :: r, acc, h1, h2 => by
    have hr : ∀ y ∈ r, y.2 = .free → ∃ c, env.cells.lookup y.1 = some c := fun y hy => h1 y (List.mem_cons_of_mem _ hy)
    by_cases hk : k = .free
    · subst hk
      obtain ⟨c, hc⟩ := h1 (n, .free) List.mem_cons_self rfl
      obtain ⟨cl, e, p1, p2, p3⟩ := closure_go env r ((n, c) :: acc) hr (fun m d hm => by
        rw [List.lookup_cons] at hm
        by_cases q : m == n
        · rw [q] at hm
          have : m = n := by simpa using q
          subst this
          cases hm
          exact hc
        · have q' : (m == n) = false := by simpa using q
          rw [q'] at hm
          exact h2 m d hm)
      refine ⟨cl, ?_, p1, fun m d hm => ?_, fun y hy hf => ?_⟩
      · rw [List.forIn_cons]
        rw [← e]
        show (cellOf env n >>= fun a => _) >>= _ = _
        unfold cellOf
        rw [hc]
        rfl
      · by_cases q : m = n
        · subst q
          exact p2 m c (by rw [List.lookup_cons]; simp)
        · exact p2 m d (by rw [List.lookup_cons]; simp only [beq_eq_false_iff_ne.mpr q]; exact hm)
      · rcases List.mem_cons.mp hy with rfl | hy
        · exact p2 n c (by rw [List.lookup_cons]; simp)
        · exact p3 y hy hf
    · refine Elim.el (closure_go env r acc hr h2) _ ?_
      rintro cl e p1 p2 p3
      refine ⟨cl, ?_, p1, p2, fun y hy hf => ?_⟩
      · rw [List.forIn_cons, ← e]
        have hb : (k == NameKind.free) = false := by simpa using hk
        simp only [hb, Bool.false_eq_true, if_false]
        rfl
      · rcases List.mem_cons.mp hy with rfl | hy
        · exact absurd hf hk
        · exact p3 y hy hf
theorem closure_of {scope : Scope} {env : Env} (h : ∀ y ∈ scope.names, y.2 = .free → ∃ c, env.cells.lookup y.1 = some c) :
    ∃ cl, closureFor scope env = pure cl ∧ (∀ n c, cl.lookup n = some c → env.cells.lookup n = some c) ∧ ∀ y ∈ scope.names, y.2 = .free → ∃ c, cl.lookup y.1 = some c := by
  obtain ⟨cl, e, p1, _, p3⟩ := closure_go env scope.names [] h (fun n c h => by simp at h)
  refine ⟨cl, ?_, p1, p3⟩
  unfold closureFor
  refine Eq.trans ?_ (congrArg (fun m => m >>= fun (cs : List (Str × Addr)) => (pure cs : Sem _)) e)
  rfl

noncomputable def testsOf (ifs : List Expr) (env : Env) : Sem Bool := forIn ifs true fun c r => if r = true then do let ok ← isTrue c env (eval c env); pure (ForInStep.yield ok) else pure (ForInStep.yield r)

section
variable {prog : Program} {w : World} {A : Around} {R : Result → Shared → Prop} {s : Shared}
theorem comp_turns {elt target iter : Expr} {ifs : List Expr} {scope : Scope} {pos : Pos} {it acc : Value} {env : Env} (I : Nat → Shared → Prop)
    (turn : ∀ n s, I n s → wpAny (model prog w) A (pyNext it) (fun r s1 => match r with
      | none => R (.ok .next) s1
      | some v => wpAny (model prog w) A (letOwnedTupleGo target it v) (fun _ s1' => wpAny (model prog w) A (assign target env v) (fun _ s2 =>
          wpAny (model prog w) A (testsOf ifs env) (fun ok s3 =>
            if ok = true then wpAny (model prog w) A (eval elt env) (fun x s4 =>
              wpAny (model prog w) A (call (.builtin "list.append") [acc, x]) (fun _ s5 => ∃ m, m < n ∧ I m s5) noE s4) noE s3
            else ∃ m, m < n ∧ I m s3) noE s2) noE s1') noE s1) noE s)
    (n : Nat) (h : I n s) : codeAny (model prog w) A (.compLoop (.ListComp elt [⟨target, iter, ifs, 0⟩] scope pos) 0 it acc env) R s := by
  refine codeAny_loop rfl I (fun n s hI => (show wpAny _ A (Sem.onRaise (compTurn (.ListComp elt [⟨target, iter, ifs, 0⟩] scope pos) 0 it acc env) (fun x => do noteFrame x env; theTreesLotGoes x)) _ _ s from wpAny_noted ?_)) n h
  rw [compTurn_list]
  refine wpAny_bind (wpAny_standAt (wpAny_bind (noE_to (thn (turn n s hI) fun r s1 h1 => ?_))))
  cases r with
  | none => exact wpAny_pure h1
  | some v =>
    refine wpAny_bind (noE_to (thn h1 fun _ s1' h1' => ?_))
    refine wpAny_bind (noE_to (thn h1' fun _ s2 h2 => wpAny_bind (noE_to (thn h2 fun ok s3 h3 => ?_))))
    cases ok with
    | false => exact wpAny_pure ⟨rfl, h3⟩
    | true => exact wpAny_bind (wpAny_bind (noE_to (thn h3 fun x s4 h4 => wpAny_bind (noE_to (thn h4 fun _ s5 h5 => wpAny_pure (wpAny_pure ⟨rfl, h5⟩))))))
end

theorem HOk.adopt {P : Program} {w : World} {H : Hp} {h : Heap} {a : Addr} {o : HO} (x : HOk P w H h) (hn : H a = none) (new : ObjOk P w (upd H a o) h a o) : HOk P w (upd H a o) h := fun b u e => by
  by_cases hb : b = a
  · subst hb; rw [upd_same] at e; cases e; exact new
  · rw [upd_ne hb] at e
    exact (x b u e).stay (fun c v _ q => q) (fun c q => by rw [upd_ne (ne_of_none q hn)]; exact q) fun c xs q => by rw [upd_ne (ne_of_none q hn)]; exact q

/-- what a comprehension's block stands in: Nc its own names, Fc the captured ones, js their places among the names around -/
structure CompOk (X : Cx) (scope : Scope) (Nc Fc : List Str) (js : List Nat) : Prop where
  kind : scope.kind = .function
  nocell : ∀ y ∈ scope.names, y.2 ≠ .cell
  names : ∀ y ∈ scope.names, y.2 = .local → scope.names.lookup y.1 = some .local
  free : ∀ y ∈ scope.names, y.2 = .free → X.env.kindOf y.1 = some .cell ∨ X.env.kindOf y.1 = some .free
  frees : ∀ (k : Nat) (x : Str), Fc[k]? = some x → scope.names.lookup x = some .free ∧ ∃ j, js[k]? = some j ∧ X.N[j]? = some x
  lens : js.length = Fc.length

noncomputable def cvals (σ : St) (js : List Nat) : St := js.map fun j => (σ[j]?).join

noncomputable def cxC (X : Cx) (Nc Fc : List Str) (scope : Scope) (cl : List (Str × Addr)) (C : Addr) (s : Shared) (H : Hp) (fp : List Addr) : Cx :=
  { X with N := Nc ++ Fc, s₀ := s, H₀ := H, env := compEnvC scope cl C X.env, outer := X.stack, stack := X.stack, ex := fp, fn := fun _ => false, pn := [], xe := noE }

theorem relabel_free {env : Env} : ∀ {names : List (Str × NameKind)} {x : Str} {k : NameKind}, (names.map fun (n, k) => if (k == NameKind.free && env.scope.kind == .function && env.kindOf n == some .cell) then (n, NameKind.cell) else (n, k)).lookup x = some k →
    names.lookup x = some k ∨ (k = .cell ∧ names.lookup x = some .free)
  | [], _, _, h => by simp at h
  | (n, k0) :: r, x, k, h => by
    have ih := @relabel_free env r x k
    rw [List.map_cons] at h
    dsimp only at h
    by_cases hx : x = n
    · subst hx
      by_cases hc : (k0 == NameKind.free && env.scope.kind == .function && env.kindOf x == some .cell) = true
      · rw [if_pos hc] at h
        simp only [List.lookup_cons, beq_self_eq_true] at h
        have hk : k0 = .free := by
          have := (Bool.and_eq_true _ _).mp ((Bool.and_eq_true _ _).mp hc).1
          simpa using this.1
        subst hk
        cases h
        exact .inr ⟨rfl, by simp only [List.lookup_cons, beq_self_eq_true]⟩
      · rw [if_neg hc] at h
        simp only [List.lookup_cons, beq_self_eq_true] at h ⊢
        exact .inl h
    · have hb : (x == n) = false := beq_eq_false_iff_ne.mpr hx
      have e : List.lookup x ((if (k0 == NameKind.free && env.scope.kind == .function && env.kindOf n == some .cell) = true then (n, NameKind.cell) else (n, k0)) :: (r.map fun (n, k) => if (k == NameKind.free && env.scope.kind == .function && env.kindOf n == some .cell) then (n, NameKind.cell) else (n, k))) = some k := h
      have e2 : List.lookup x (r.map fun (n, k) => if (k == NameKind.free && env.scope.kind == .function && env.kindOf n == some .cell) then (n, NameKind.cell) else (n, k)) = some k := by
        by_cases hc : (k0 == NameKind.free && env.scope.kind == .function && env.kindOf n == some .cell) = true
        · rw [if_pos hc] at e; simp only [List.lookup_cons, hb] at e; exact e
        · rw [if_neg hc] at e; simp only [List.lookup_cons, hb] at e; exact e
      simp only [List.lookup_cons, hb]
      exact ih e2
theorem relabel_of_free {env : Env} : ∀ {names : List (Str × NameKind)} {x : Str}, names.lookup x = some .free →
    (names.map fun (n, k) => if (k == NameKind.free && env.scope.kind == .function && env.kindOf n == some .cell) then (n, NameKind.cell) else (n, k)).lookup x = some .cell ∨
    (names.map fun (n, k) => if (k == NameKind.free && env.scope.kind == .function && env.kindOf n == some .cell) then (n, NameKind.cell) else (n, k)).lookup x = some .free
  | [], _, h => by simp at h
  | (n, k0) :: r, x, h => by
    have ih := @relabel_of_free env r x
    rw [List.map_cons]
    dsimp only
    by_cases hx : x = n
    · subst hx
      simp only [List.lookup_cons, beq_self_eq_true] at h
      cases h
      by_cases hc : (NameKind.free == NameKind.free && env.scope.kind == .function && env.kindOf x == some .cell) = true
      · rw [if_pos hc]; left; simp only [List.lookup_cons, beq_self_eq_true]
      · rw [if_neg hc]; right; simp only [List.lookup_cons, beq_self_eq_true]
    · have hb : (x == n) = false := beq_eq_false_iff_ne.mpr hx
      simp only [List.lookup_cons, hb] at h
      by_cases hc : (k0 == NameKind.free && env.scope.kind == .function && env.kindOf n == some .cell) = true
      · rw [if_pos hc]; simp only [List.lookup_cons, hb]; exact ih h
      · rw [if_neg hc]; simp only [List.lookup_cons, hb]; exact ih h
theorem mem_of_lookup' : ∀ {l : List (Str × NameKind)} {x : Str} {k : NameKind}, l.lookup x = some k → (x, k) ∈ l := fun h => PySem.mem_of_lookup h

section
variable {X : Cx} {pins : List (Addr × Obj)} {σ : St} {H : Hp} {s : Shared} {scope : Scope} {Nc Fc : List Str} {js : List Nat} {cl : List (Str × Addr)} {C D : Addr} {fp : List Addr}

theorem cxC_kind {x : Str} : (cxC X Nc Fc scope cl C s H fp).env.kindOf x = (scope.names.map fun (n, k) => if (k == NameKind.free && X.env.scope.kind == .function && X.env.kindOf n == some .cell) then (n, NameKind.cell) else (n, k)).lookup x := rfl

theorem cxC_ok (I : Inv X pins σ H s) (c : CompOk X scope Nc Fc js) (hsub : ∀ n c, cl.lookup n = some c → X.env.cells.lookup n = some c) (hhas : ∀ y ∈ scope.names, y.2 = .free → ∃ c, cl.lookup y.1 = some c)
    (hC : s.heap.objs.size ≤ C) (hf : ∀ b ∈ fp, FpOk X pins H b) (ho : ∀ b ∈ fp, ∃ o, s.heap.get? b = some o) : (cxC X Nc Fc scope cl C s H fp).Ok where
  mod := I.ok.mod
  kind := c.kind
  glob := I.ok.glob
  blt := I.ok.blt
  above := hC
  inj := fun x y a h1 h2 => I.ok.inj x y a (hsub _ _ h1) (hsub _ _ h2)
  has := fun x hx => by
    have key : scope.names.lookup x = some .free := by
      rw [cxC_kind] at hx
      rcases hx with h | h
      · rcases relabel_free h with q | ⟨_, q⟩
        · exact absurd rfl (c.nocell _ (mem_of_lookup' q))
        · exact q
      · rcases relabel_free h with q | ⟨q, _⟩
        · exact q
        · cases q
    exact hhas _ (mem_of_lookup' key) rfl
  cab := fun _ _ h => nomatch h
  hd := I.ok.hd
  frames := I.ok.frames
  stk := .inl rfl
  exf := fun b hb => ⟨fun z => by
      obtain ⟨o, e⟩ := ho b hb
      exact addr_ne (Heap.lt_size e) hC z, fun x a e z => (hf b hb).2.2.2.2.1 x a (hsub _ _ e) z⟩
  bs := fun b o e => I.bs b o e
  bsz := Nat.le_trans I.ok.bsz I.sz
  noex := fun b o e hb => by
    rcases (hf b hb).2.2.2.1 with z | z
    · exact I.ok.noex b o e z
    · exact absurd (Nat.lt_of_lt_of_le (Heap.lt_size (I.ok.bs b o e).1) z) (Nat.lt_irrefl _)
  exfs := fun b hb z => by
    rcases List.mem_cons.mp (I.stkSub b z) with q | q
    · exact (hf b hb).2.1 q
    · exact (hf b hb).2.2.1 q
  funs := I.stack
  frf := I.stkFree

/-- the state at the block's entry -/
theorem cxC_inv (I : Inv X pins σ H s) (c : CompOk X scope Nc Fc js) (hsub : ∀ n c, cl.lookup n = some c → X.env.cells.lookup n = some c) (hhas : ∀ y ∈ scope.names, y.2 = .free → ∃ c, cl.lookup y.1 = some c)
    (hC : s.heap.objs.size ≤ C) (hD : s.heap.objs.size ≤ D) (hDC : D ≠ C) (hf : ∀ b ∈ fp, FpOk X pins H b) (ho : ∀ b ∈ fp, ∃ o, s.heap.get? b = some o) {h1 : Heap} {t1 : Nat} {m : Str → Option Value} {ob : Obj}
    (hk : ∀ b o, s.heap.get? b = some o → h1.get? b = some o) (hm : h1.Ns C m) (hob : h1.get? D = some ob) (hnc : ∀ v, ob.data ≠ .cell v) :
    Inv (cxC X Nc Fc scope cl C s H fp) [(D, ob)] (List.replicate Nc.length none ++ cvals σ js) H { s with heap := h1, toks := t1 } := by
  refine ⟨cxC_ok I c hsub hhas hC hf ho, rfl, I.bare, Un.kept hk, ⟨m, hm, fun i x v e1 e2 e3 => ?_⟩, fun x a e => ?_, I.hok.fresh hC, fun x a e => I.freeC x a (hsub x a e), fun p hp => ?_, I.hok.kept hk, ?_⟩
  · have e1 : (Nc ++ Fc)[i]? = some x := e1
    have e2 : (List.replicate Nc.length none ++ cvals σ js)[i]? = some (some v) := e2
    by_cases hi : i < Nc.length
    · rw [List.getElem?_append_left (by simpa using hi), List.getElem?_replicate] at e2
      split at e2 <;> cases e2
    · rw [List.getElem?_append_right (by (first | lia | omega))] at e1
      rw [List.getElem?_append_right (by rw [List.length_replicate]; (first | lia | omega)), List.length_replicate] at e2
      refine Elim.el (c.frees _ _ e1) _ ?_
      rintro hfr j hj hN
      have hv : σ[j]? = some (some v) := by
        unfold cvals at e2
        rw [List.getElem?_map, hj] at e2
        have e2 : some ((σ[j]?).join) = some (some v) := e2
        cases q : σ[j]? with
        | none => rw [q] at e2; cases e2
        | some z => rw [q] at e2; cases e2; rfl
      have kx := c.free _ (mem_of_lookup' hfr) rfl
      refine Elim.el (I.loc) _ ?_
      rintro m0 hn0 hl0
      have vis : Vis X.env.scope x := by
        rcases kx with k | k
        · exact .inr (.inl k)
        · exact .inr (.inr k)
      refine Elim.el (hl0 j x v hN hv vis) _ ?_
      rintro u ru lk
      refine ⟨u, ru, .inr ⟨?_, ?_⟩⟩
      · rw [cxC_kind]; exact relabel_of_free hfr
      · obtain ⟨a, ha⟩ := hhas _ (mem_of_lookup' hfr) rfl
        refine ⟨a, ha, ?_⟩
        rcases lk with ⟨k, _⟩ | ⟨_, a', ha', hcell⟩
        · rcases kx with q | q <;> (rw [k] at q; cases q)
        · have e := hsub _ _ ha
          dsimp only at e
          rw [ha'] at e; cases e
          exact hcell.keeps hk
  · obtain ⟨v, z⟩ := I.cell x a (hsub x a e)
    exact ⟨v, z.keeps hk⟩
  · have hp : p = (D, ob) := by
      have : p ∈ [(D, ob)] := hp
      simpa using this
    subst hp
    refine ⟨hob, I.hok.fresh hD, hDC, fun z => ?_, hnc⟩
    have z : D ∈ frs X.stack := z
    rcases List.mem_cons.mp (I.stkSub D z) with q | q
    · exact addr_ne' I.lt hD q
    · exact I.nofs hD q
  · show (List.replicate Nc.length none ++ cvals σ js).length = (Nc ++ Fc).length
    unfold cvals
    rw [List.length_append, List.length_append, List.length_replicate, List.length_map, c.lens]
end

/-- tests of a clause: none, or one -/
noncomputable def PTs (X : Cx) (ifs : List Expr) (t : TT) : Prop :=
  ∀ ⦃pins : List (Addr × Obj)⦄ (s : Shared) (σ : St) (H : Hp) (Q : Bool → Hp → Prop), Inv X pins σ H s → t σ H Q → wpAny (model X.prog X.w) X.A (testsOf ifs X.env) (TP X pins σ Q) X.xe s
noncomputable def tYes : TT := fun _ H Q => Q true H
theorem pts_nil {X : Cx} : PTs X [] tYes := fun _ _ _ H _ I h => wpAny_tests_nil ⟨H, I, h⟩
theorem pts_one {X : Cx} {c : Expr} {t : TT} (h : PT X c t) : PTs X [c] t := fun pins s σ H Q I hw => wpAny_tests_one (h s σ H Q I hw)

/-- the reading: W i m ys H is what holds ahead of turn i, m falls -/
noncomputable def CompW (J : It) (n : Nat) (js : List Nat) (g : TG) (tc : TT) (te : TE) (σ : St) (H1 : Hp) (fin : List V → Hp → Prop) : Prop :=
  ∃ W : Nat → Nat → List V → Hp → Prop, (∃ m, W 0 m [] H1) ∧ ∀ i m ys H, W i m ys H →
    (J.stop i H ∧ fin ys H) ∨
    (J.go i H ∧ ys.length < sizeLine ∧ ∀ x H', J.yld i H x H' → g x (List.replicate n none ++ cvals σ js) H' fun σ2 H2 => tc σ2 H2 fun b H3 =>
      if b = true then te σ2 H3 fun y H4 => ∃ m', m' < m ∧ W (i + 1) m' (ys ++ [y]) H4 else ∃ m', m' < m ∧ W (i + 1) m' ys H3)
noncomputable def tComp (wi : TI) (n : Nat) (js : List Nat) (g : TG) (tc : TT) (te : TE) : TE := fun σ H Q => wi σ H fun J H1 =>
  CompW J n js g tc te σ H1 fun ys H2 => ∀ p, H2 p = none → Q (.ref p) (upd H2 p (.lst ys))

/-- a target that stores below place n alone -/
noncomputable def Gk (n : Nat) (g : TG) : Prop := ∀ x σ H Q, g x σ H Q → g x σ H fun σ' H' => Q σ' H' ∧ (∀ j, n ≤ j → σ'[j]? = σ[j]?) ∧ σ'.length = σ.length
noncomputable def Gks (n : Nat) (g : TGs) : Prop := ∀ x σ H Q, g x σ H Q → g x σ H fun σ' H' => Q σ' H' ∧ (∀ j, n ≤ j → σ'[j]? = σ[j]?) ∧ σ'.length = σ.length
theorem gk_name {n i : Nat} (h : i < n := by decide) : Gk n (gName i) := fun x σ H Q q => ⟨q, fun j hj => List.getElem?_set_ne (by (first | lia | omega)), List.length_set⟩
theorem gks_nil {n : Nat} : Gks n gNil := fun x σ H Q q => ⟨q.1, q.2, fun _ _ => rfl, rfl⟩
theorem gks_cons {n : Nat} {t : TG} {u : TGs} (h1 : Gk n t) (h2 : Gks n u) (mt : ∀ x σ H Q Q', (∀ a b, Q a b → Q' a b) → t x σ H Q → t x σ H Q') (mu : ∀ x σ H Q Q', (∀ a b, Q a b → Q' a b) → u x σ H Q → u x σ H Q') : Gks n (gCons t u) := fun x σ H Q q => by
  obtain ⟨v, r, e, q⟩ := q
  refine ⟨v, r, e, mt _ _ _ _ _ (fun σ1 H1 z => ?_) (h1 _ _ _ _ q)⟩
  refine Elim.el (z) _ ?_
  rintro z k1 l1
  exact mu _ _ _ _ _ (fun σ2 H2 ⟨z2, k2, l2⟩ => ⟨z2, fun j hj => (k2 j hj).trans (k1 j hj), l2.trans l1⟩) (h2 _ _ _ _ z)
theorem gk_tup {K : PySem.W.Frag} {n m : Nat} {t : TGs} (h : Gks n t) : Gk n (gTup K m t) := fun x σ H Q q => by
  obtain ⟨a, xs, e, h1, h2, q⟩ := q
  exact ⟨a, xs, e, h1, h2, h _ _ _ _ q⟩

/-- the block, to the state behind it -/
theorem comp_core {X : Cx} {elt tg iter : Expr} {ifs : List Expr} {scope : Scope} {pos : Pos} {Nc Fc : List Str} {js : List Nat} {wi : TI} {g : TG} {tc : TT} {te : TE} {use : Option (Value → Sem Unit)} {QV : Value → Shared → Prop}
    (hcalm : X.calm = true) (c : CompOk X scope Nc Fc js) (hi : PI X tg iter wi)
    (hg : ∀ cl C s H fp, PG (cxC X Nc Fc scope cl C s H fp) tg g) (htc : ∀ cl C s H fp, PTs (cxC X Nc Fc scope cl C s H fp) ifs tc) (hte : ∀ cl C s H fp, PE (cxC X Nc Fc scope cl C s H fp) elt te) (gk : Gk Nc.length g)
    {pins : List (Addr × Obj)} {s : Shared} {σ : St} {H : Hp} {fin : List V → Hp → Prop} (I : Inv X pins σ H s)
    (h : wi σ H fun J H1 => CompW J Nc.length js g tc te σ H1 fin)
    (behind : ∀ (C D : Addr) (m : Str → Option Value) (ys : List V) (H2 : Hp) (s2 : Shared), Inv X pins σ (upd H2 D (.lst ys)) s2 → s2.heap.Ns C m → FpOk X pins (upd H2 D (.lst ys)) C → H2 D = none → fin ys H2 → compPost (model X.prog X.w) X.A X.xe use QV (.ref D) C (.ok .next) s2)
    (hs : ∀ x, foldedSetIterable iter X.env x = pure x) :
    wpAny (model X.prog X.w) X.A (comprehension (.ListComp elt [⟨tg, iter, ifs, 0⟩] scope pos) scope X.env (firstIterPos [⟨tg, iter, ifs, 0⟩] pos) (newList []) false (eval iter X.env) use) QV X.xe s := by
  obtain ⟨cl, hclos, hsub, hhas⟩ := closure_of (scope := scope) (env := X.env) fun y hy hf => I.ok.has y.1 (c.free y hy hf)
  refine wpAny_comprehension_free (use := use) rfl hs hclos c.kind c.names ?_
  refine thn (hi s σ H _ I h) fun v s1 h1 => thn h1 fun itv s2 h2 => ?_
  obtain ⟨it, fp, tn, J, H2, e, I2, T, st2, f2, W, ⟨m0, w0⟩, turn⟩ := h2
  subst e
  refine wpAny_newObj_type (wpAny_newFunctionEnv c.nocell (by intro y hy; simp at hy) (fun h1 hns1 hsb1 => ?_) c.kind)
  dsimp only at hns1 hsb1 ⊢
  generalize hG : s2.heap.push { cls := .type "list", dict := none, data := .seq ([] : List Value).toArray } = G at hns1 hsb1 ⊢
  have hC : G.objs.size = s2.heap.objs.size + 1 := by rw [← hG, Heap.size_push]
  have hDC : s2.heap.objs.size ≠ G.objs.size := by rw [hC]; exact Nat.ne_of_lt (Nat.lt_succ_self _)
  have hle : s2.heap.objs.size ≤ G.objs.size := by rw [hC]; exact Nat.le_succ _
  have old : ∀ b o, s2.heap.get? b = some o → h1.get? b = some o := fun b o e =>
    hsb1.extBut b o (addr_ne (Heap.lt_size e) hle) (Heap.get?_push_of_some _ (hG ▸ Heap.get?_push_of_some _ e))
  have hacc : h1.PlainList s2.heap.objs.size #[] := ⟨_, hsb1.extBut _ _ hDC (Heap.get?_push_of_some _ (hG ▸ Heap.get?_push_size _ rfl))⟩
  obtain ⟨n0, hacc⟩ := hacc
  have fo : ∀ b ∈ fp, ∃ o, s2.heap.get? b = some o := fun b hb => let ⟨o, e, _⟩ := T.obj 0 _ st2 b hb; ⟨o, e⟩
  have hDfp : ∀ b ∈ fp, b < s2.heap.objs.size := fun b hb => let ⟨o, e⟩ := fo b hb; Heap.lt_size e
  let Xc : Cx := cxC X Nc Fc scope cl G.objs.size s2 H2 fp
  let D : Addr := s2.heap.objs.size
  have stat : ∀ {pl : List (Addr × Obj)} {H' : Hp}, (∀ p ∈ pl, p.1 = D) → (∀ b ∈ fp, H' b = none) → ∀ b ∈ fp, FpOk Xc pl H' b := fun {pl H'} hp hn b hb => by
    refine ⟨hn b hb, ?_, ?_, .inl hb, fun x a e => ?_, fun p hq => ?_⟩
    · exact addr_ne (hDfp b hb) hle
    · exact (cxC_ok I2 c hsub hhas hle f2 fo).exfs b hb
    · exact (f2 b hb).2.2.2.2.1 x a (hsub _ _ e)
    · have q : p ∈ ([] : List (Addr × Obj)) ++ pl := hq
      rw [hp p (by simpa using q)]
      exact addr_ne' (hDfp b hb) (Nat.le_refl _)
  have loop : ∀ t1, codeAny (model X.prog X.w) X.A (.compLoop (.ListComp elt [⟨tg, iter, ifs, 0⟩] scope pos) 0 (.ref it) (.ref s2.heap.objs.size) (compEnvC scope cl G.objs.size X.env))
      (compPost (model X.prog X.w) X.A X.xe use QV (.ref s2.heap.objs.size) G.objs.size) { s2 with heap := h1, toks := t1 } := by
    intro t1
    refine comp_turns (fun n s' => ∃ i ys H' its k, Inv Xc [(D, { cls := .type "list", data := .seq its k })] (List.replicate Nc.length none ++ cvals σ js) H' s' ∧ Vals ys its.toList ∧ ys.length ≤ sizeLine ∧ tn i s'.heap ∧ (∀ b ∈ fp, H' b = none) ∧ W i n ys H') ?_ m0
      ⟨0, [], H2, #[], n0, cxC_inv I2 c hsub hhas hle (Nat.le_refl _) hDC f2 fo old hns1 hacc (fun _ z => nomatch z), .nil, Nat.zero_le _, T.keep _ _ _ st2 (fun b hb o e => old b o e), fun b hb => (f2 b hb).1, w0⟩
    intro n s3 hz_
    refine Elim.el hz_ _ ?_
    clear hz_
    rintro i ys H3 its k I3 rv hz st3 fr3 w3
    have onlyD : ∀ p ∈ [(D, ({ cls := .type "list", data := .seq its k } : Obj))], p.1 = D := fun p hp => congrArg Prod.fst (List.mem_singleton.mp hp)
    rcases turn i n ys H3 w3 with ⟨stop, qn⟩ | ⟨go, hlt, step⟩
    · refine thn (T.done Xc rfl rfl rfl hcalm i _ s3 _ H3 noE I3 (stat onlyD fr3) st3 stop) fun r s4 ⟨hr, I4⟩ => ?_
      subst hr
      show compPost _ _ _ _ _ _ _ _ _
      obtain ⟨hDo, hDn, hDne, hDfs, _⟩ := I4.pin (D, _) (List.mem_append_right _ List.mem_cons_self)
      have hDC' : D ≠ G.objs.size := hDC
      refine Elim.el (I4.loc) _ ?_
      rintro mC hmC _
      have hCn : H3 G.objs.size = none := I4.free
      have neD : ∀ b o, s2.heap.get? b = some o → b ≠ D := fun b o e => Nat.ne_of_lt (Heap.lt_size e)
      have u : Un (frs X.stack) fp H2 H3 s2.heap s4.heap := I4.base
      have hdn2 : H2 D = none := I2.hok.fresh (Nat.le_refl _)
      have u' : Un (frs X.stack) fp H2 (upd H3 D (.lst ys)) s2.heap s4.heap :=
        ⟨u.keep, u.slot, fun b o e n hx => by rw [upd_ne (neD b o e)]; exact u.free b o e n hx, u.there,
         fun b xs e => by rw [upd_ne (ne_of_none e hdn2)]; exact u.tups b xs e, fun b o xs e => by rw [upd_ne (ne_of_none e hdn2)]; exact u.frzs b o xs e,
         fun b ps e => by rw [upd_ne (ne_of_none e hdn2)]; exact u.tbls b ps e⟩
      have hok' : HOk X.prog X.w (upd H3 D (.lst ys)) s4.heap := I4.hok.adopt hDn ⟨hz, its.toList, k, rv, by simpa using hDo⟩
      have hch : ∀ b ∈ fp, (b ∈ X.ex ∨ X.s₀.heap.objs.size ≤ b) ∧ b ≠ X.env.locals ∧ (∀ x c, X.env.cells.lookup x = some c → c ≠ b) ∧ ∀ p ∈ X.pn ++ pins, p.1 ≠ b := fun b hb =>
        ⟨(f2 b hb).2.2.2.1, (f2 b hb).2.1, (f2 b hb).2.2.2.2.1, (f2 b hb).2.2.2.2.2⟩
      have os4 : s4.os = s2.os := I4.os
      have J4 : Inv X pins σ (upd H3 D (.lst ys)) s4 := I2.call' (H' := upd H3 D (.lst ys)) os4 u' hok' I4.bare hch
      refine behind G.objs.size D mC ys H3 s4 J4 hmC (I2.fpOk hle ?_) hDn qn
      rw [upd_ne (Ne.symm hDC')]
      exact hCn
    · refine thn (T.item Xc rfl rfl rfl hcalm i _ s3 _ H3 noE I3 (stat onlyD fr3) st3 go) fun r s4 ⟨u, hr, h4⟩ => ?_
      subst hr
      show wpAny _ _ (letOwnedTupleGo tg (.ref it) u) _ _ _
      refine thn h4 fun _ s5 ⟨x, H5, I5, r5, y5, st5, fr5⟩ => ?_
      have I5' := I5.pinned (stat onlyD fr5) (T.obj _ _ st5)
      refine thn (hg cl G.objs.size s2 H2 fp s5 _ H5 x u _ I5' r5 (gk _ _ _ _ (step x H5 y5))) fun _ s6 ⟨σ6, H6, I6, q6, kσ, kl⟩ => ?_
      refine thn (htc cl G.objs.size s2 H2 fp s6 σ6 H6 _ I6 q6) fun b s7 ⟨H7, I7, q7⟩ => ?_
      have later : ∀ {σ' : St} {H' : Hp} {s' : Shared}, Inv Xc ([(D, ({ cls := .type "list", data := .seq its k } : Obj))] ++ pinsAt fp s5.heap) σ' H' s' → tn (i + 1) s'.heap ∧ ∀ b ∈ fp, H' b = none := fun {σ' H' s'} Iz => by
        refine ⟨T.keep _ _ _ st5 fun b hb o e => (Iz.pin (b, o) (List.mem_append_right _ (List.mem_append_right _ (mem_pinsAt hb e)))).1, fun b hb => ?_⟩
        refine Elim.el (T.obj _ _ st5 b hb) _ ?_
        rintro o e d
        exact (Iz.pin (b, o) (List.mem_append_right _ (List.mem_append_right _ (mem_pinsAt hb e)))).2.1
      have back : ∀ {pl : List (Addr × Obj)} {H' : Hp} {s' : Shared}, Inv Xc pl σ6 H' s' → Inv Xc pl (List.replicate Nc.length none ++ cvals σ js) H' s' := fun {pl H' s'} Iz => by
        refine Iz.weak (by rw [← kl]) fun j v hj => ?_
        by_cases hn : j < Nc.length
        · rw [List.getElem?_append_left (by simpa using hn), List.getElem?_replicate] at hj
          split at hj <;> cases hj
        · rw [kσ j (by (first | lia | omega))]; exact hj
      cases b with
      | false =>
        rw [if_neg Bool.false_ne_true] at q7 ⊢
        refine Elim.el (q7) _ ?_
        rintro m' hm' w7
        obtain ⟨l1, l2⟩ := later I7
        exact ⟨m', hm', i + 1, ys, H7, its, k, back I7.unpinned, rv, hz, l1, l2, w7⟩
      | true =>
        rw [if_pos rfl] at q7 ⊢
        refine thn (hte cl G.objs.size s2 H2 fp s7 σ6 H7 _ I7 q7) fun yv s8 ⟨y, H8, I8, r8, q8⟩ => ?_
        refine Elim.el (q8) _ ?_
        rintro m' hm' w8
        obtain ⟨hDo, hDn, hDne, hDfs, _⟩ := I8.pin (D, _) (List.mem_append_right _ (List.mem_append_left _ List.mem_cons_self))
        obtain ⟨l1, l2⟩ := later I8
        have hits : its.size = ys.length := by
          have e1 := rv.length
          simp only [Array.length_toList] at e1
          (first | lia | omega)
        refine wpAny_list_append_plain (hsz := by (first | lia | omega)) ⟨k, hDo⟩ fun h9 hl9 hs9 => ?_
        obtain ⟨k9, hD9⟩ := hl9
        have pinF : ∀ p ∈ pinsAt fp s5.heap, p.1 ≠ D := fun p hp => by
          obtain ⟨hb, _⟩ := of_pinsAt hp
          exact addr_ne (hDfp _ hb) (Nat.le_refl _)
        have I8' : Inv Xc (pinsAt fp s5.heap) σ6 H8 s8 := I8.pins_of fun p hp => I8.pin p (List.mem_append_right _ (List.mem_append_right _ hp))
        have I9 : Inv Xc (pinsAt fp s5.heap) σ6 H8 { s8 with heap := h9, toks := s8.toks } := I8'.turned (it := D) (fun b o hb e => hs9.extBut b o hb e) hDn hDC (.inr (Nat.le_refl _))
          (fun x a e z => by
            obtain ⟨v, q⟩ := I2.cell x a (hsub _ _ e)
            exact addr_ne q.lt (Nat.le_refl _) z) (fun p hp => pinF p (by
              have hp : p ∈ ([] : List (Addr × Obj)) ++ pinsAt fp s5.heap := hp
              simpa using hp))
        obtain ⟨st9, fr9⟩ : tn (i + 1) h9 ∧ ∀ b ∈ fp, H8 b = none := by
          refine ⟨T.keep _ _ _ l1 fun b hb o e => hs9.extBut b o ?_ e, l2⟩
          exact addr_ne (hDfp _ hb) (Nat.le_refl _)
        refine ⟨m', hm', i + 1, ys ++ [y], H8, its.push yv, k9, back (I9.pins_of fun p hp => ?_), ?_, ?_, st9, fr9, w8⟩
        · cases List.mem_singleton.mp hp
          exact ⟨hD9, hDn, hDne, hDfs, fun _ z => nomatch z⟩
        · rw [Array.toList_push]
          exact rv.append (.cons r8 .nil)
        · rw [List.length_append, List.length_singleton]; (first | lia | omega)
  exact codeAny_compStart_list (loop _) (T.self _ 0 _ _ _ (T.keep _ _ _ st2 fun b hb o e => old b o e) (loop _))

theorem pe_lcomp {X : Cx} {elt tg iter : Expr} {ifs : List Expr} {scope : Scope} {pos : Pos} {Nc Fc : List Str} {js : List Nat} {wi : TI} {g : TG} {tc : TT} {te : TE}
    (hcalm : X.calm = true) (c : CompOk X scope Nc Fc js) (hi : PI X tg iter wi) (gk : Gk Nc.length g)
    (hg : ∀ cl C s H fp, PG (cxC X Nc Fc scope cl C s H fp) tg g) (htc : ∀ cl C s H fp, PTs (cxC X Nc Fc scope cl C s H fp) ifs tc) (hte : ∀ cl C s H fp, PE (cxC X Nc Fc scope cl C s H fp) elt te)
    (hs : ∀ x, foldedSetIterable iter X.env x = pure x := by intro _; rfl) :
    PE X (.ListComp elt [⟨tg, iter, ifs, 0⟩] scope pos) (tComp wi Nc.length js g tc te) := by
  intro pins s σ H Q I h
  rw [eval_ListComp]
  refine comp_core (use := none) hcalm c hi hg htc hte gk I h (fun C D m ys H2 s2 I2 hm hC hD q => ?_) hs
  refine ⟨m, hm, fun h' hs' => ?_⟩
  refine ⟨.ref D, _, I2.turned (it := C) (t' := s2.toks) (fun b o hb e => hs'.extBut b o hb e) hC.1 (hC.2.1) hC.2.2.2.1 hC.2.2.2.2.1 hC.2.2.2.2.2, rfl, q D hD⟩
/-- x = [..] in one row: the store comes ahead of the block's end -/
theorem ps_setcomp {X : Cx} {i : Nat} {y : Str} {elt tg iter : Expr} {ifs : List Expr} {scope : Scope} {pos pos' py : Pos} {Nc Fc : List Str} {js : List Nat} {wi : TI} {g : TG} {tc : TT} {te : TE} (hN : X.N.Nodup) (hy : X.N[i]? = some y) (hl : Loc X.env.scope y)
    (hcalm : X.calm = true) (c : CompOk X scope Nc Fc js) (hi : PI X tg iter wi) (gk : Gk Nc.length g)
    (hg : ∀ cl C s H fp, PG (cxC X Nc Fc scope cl C s H fp) tg g) (htc : ∀ cl C s H fp, PTs (cxC X Nc Fc scope cl C s H fp) ifs tc) (hte : ∀ cl C s H fp, PE (cxC X Nc Fc scope cl C s H fp) elt te)
    (hsw : swapsWith (.ListComp elt [⟨tg, iter, ifs, 0⟩] scope pos) (some (.Name y py)) pos'.line X.env = pure true := by rfl)
    (hs : ∀ x, foldedSetIterable iter X.env x = pure x := by intro _; rfl)
    (hf : X.fn y = true ∨ X.env.scope.names.lookup y = some .local := by first | exact .inl rfl | exact .inr rfl | assumption) :
    PS X (.Assign [.Name y py] (.ListComp elt [⟨tg, iter, ifs, 0⟩] scope pos) pos') (tAsg (tComp wi Nc.length js g tc te) (gName i)) := by
  intro pins s σ H E I h
  rw [exec_Assign_Name_used _ _ _ _ hsw]
  refine wpAny_bind (wpAny_standAt (wpAny_bind ?_))
  show wpAny _ X.A (do let _ ← comprehension (.ListComp elt [⟨tg, iter, ifs, 0⟩] scope pos) scope X.env _ (newList []) false (eval iter X.env) (some (assign (.Name y py) X.env))) _ _ s
  refine wpAny_bind (thn (comp_core (use := some (assign (.Name y py) X.env)) (QV := fun _ s' => SP X pins E .next s') hcalm c hi hg htc hte gk I h (fun C D m ys H2 s2 I2 hm hC hD q => ?_) hs) fun _ s' hq => wpAny_pure (wpAny_pure hq))
  show wpAny _ _ (assign (.Name y py) X.env (.ref D)) _ _ s2
  refine wpAny_assign_Name (store_ok2 I2 hN hy hl (v := .ref D) rfl (fun s3 I3 ⟨a, hsa, ha⟩ => ?_) hf)
  have hne : C ≠ a := by
    rcases ha with e | e
    · rw [e]; exact hC.2.1
    · exact fun z => hC.2.2.2.2.1 _ _ e z.symm
  refine ⟨m, hm.at' fun o e => hsa.extBut _ o hne e, fun h' hs' => ?_⟩
  exact ⟨_, _, I3.turned (it := C) (t' := s3.toks) (fun b o hb e => hs'.extBut b o hb e) hC.1 hC.2.1 hC.2.2.2.1 hC.2.2.2.2.1 hC.2.2.2.2.2, q D hD⟩
end L2

set_option Elab.async false
set_option linter.all false
set_option maxRecDepth 100000
set_option maxHeartbeats 4000000
/-! built-in calls over the hand layer -/
namespace L2
open PySem PySem.Spec PyProof.Rows

section
variable {X : Cx} {pins : List (Addr × Obj)} {σ : St} {H : Hp} {s : Shared} {p : Addr} {ys : List V}

theorem vals_at {ys : List V} {its : List Value} (r : Vals ys its) {i : Nat} {v : Value} (e : its.toArray[i]? = some v) : ∃ y, ys[i]? = some y ∧ RelV y v := by
  have e' : its[i]? = some v := by simpa using e
  have hi : i < its.length := (List.getElem?_eq_some_iff.mp e').1
  have hl := r.length
  obtain ⟨u, h1, h2⟩ := r.get (i := i) (x := ys[i]'(by (first | lia | omega))) (by simp)
  rw [e'] at h1; cases h1
  exact ⟨_, by simp, h2⟩

/-! the same, K named -/
/-! texts -/
theorem mt_startswith : MtR X "str.startswith" (fun x vs H Q => ∃ a b, x = .str a ∧ vs = [.str b] ∧ Q (.bl (Txt.startswith a b)) H) := by
  intro pins s σ H x vs v us Q I rx rv h
  obtain ⟨a, b, rfl, rfl, q⟩ := h
  obtain ⟨t, rfl⟩ := rx
  obtain ⟨u, rfl, t', rfl⟩ := rv.one
  exact SC.startswith ⟨.bl _, H, I, rfl, q⟩
theorem strs_are : ∀ {xs : List Str} {its : List Value}, Vals (xs.map V.str) its → StrsAre its xs := by
  intro xs its r
  induction xs generalizing its with
  | nil => cases r; exact StrsAre.nil
  | cons x xs ih =>
    cases r with
    | cons r1 r2 =>
      obtain ⟨t, rfl⟩ := r1
      exact StrsAre.cons x t (ih r2)
theorem mt_join : MtR X "str.join" (fun x vs H Q => ∃ (sep : Str) (p : Addr) (xs : List Str), x = .str sep ∧ vs = [.ref p] ∧ SqL X.K H p (xs.map V.str) ∧ (xs.map (·.length)).sum + xs.length * sep.length ≤ 16777216 ∧ Q (.str (Txt.join sep xs)) H) := by
  intro pins s σ H x vs v us Q I rx rv h
  obtain ⟨sep, p, xs, rfl, rfl, hq, hz, q⟩ := h
  obtain ⟨t, rfl⟩ := rx
  obtain ⟨u, rfl, ru⟩ := rv.one
  cases ru
  obtain ⟨its, r', pl, _⟩ := I.list hq
  exact join_list pl.isList (strs_are r') hz fun t' k => ⟨.str _, H, I.tok _, ⟨_, rfl⟩, q⟩
end
end L2

set_option Elab.async false
set_option linter.all false
set_option maxRecDepth 100000
set_option maxHeartbeats 4000000
/-! data in the heap, ==, isinstance, slices of texts, divmod -/
namespace L2
open PySem PySem.Spec PyProof.Rows

mutual
/-- the value tells this data -/
noncomputable def Den (K : PySem.W.Frag) (H : Hp) : PyData → V → Prop
  | .none, v => v = .non
  | .bool b, v => v = .bl b
  | .int i, v => v = .int i
  | .str x, v => v = .str x
  | .list ds, v => Ex2 fun a vs => v = .ref a ∧ SqL K H a vs ∧ Dens K H ds vs
  | .tuple ds, v => Ex2 fun a vs => v = .ref a ∧ SqT K H a vs ∧ Dens K H ds vs
  | .dict _, _ => False
noncomputable def Dens (K : PySem.W.Frag) (H : Hp) : List PyData → List V → Prop
  | [], vs => vs = []
  | d :: ds, vs => Ex2 fun v r => vs = v :: r ∧ Den K H d v ∧ Dens K H ds r
end

theorem Same.seqT {K : PySem.W.Frag} {H H' : Hp} {a : Addr} {xs : List V} (e : Same H H') (h : SqT K H a xs) : SqT K H' a xs := by
  rcases h with (h | ⟨o, h⟩) | h
  · exact .inl (.inl (e _ _ h))
  · exact .inl (.inr ⟨o, e _ _ h⟩)
  · exact .inr h
mutual
theorem Den.same {K : PySem.W.Frag} {H H' : Hp} (e : Same H H') : ∀ {d : PyData} {v : V}, Den K H d v → Den K H' d v
  | .none, _, h => by unfold Den at h ⊢; exact h
  | .bool _, _, h => by unfold Den at h ⊢; exact h
  | .int _, _, h => by unfold Den at h ⊢; exact h
  | .str _, _, h => by unfold Den at h ⊢; exact h
  | .list ds, _, h => by
    unfold Den at h ⊢
    obtain ⟨a, vs, h1, h2, h3⟩ := h
    exact ⟨a, vs, h1, e.seq h2, Dens.same e h3⟩
  | .tuple ds, _, h => by
    unfold Den at h ⊢
    obtain ⟨a, vs, h1, h2, h3⟩ := h
    exact ⟨a, vs, h1, e.seqT h2, Dens.same e h3⟩
  | .dict _, _, h => by unfold Den at h; exact h.elim
theorem Dens.same {K : PySem.W.Frag} {H H' : Hp} (e : Same H H') : ∀ {ds : List PyData} {vs : List V}, Dens K H ds vs → Dens K H' ds vs
  | [], _, h => by unfold Dens at h ⊢; exact h
  | d :: ds, _, h => by
    unfold Dens at h ⊢
    obtain ⟨v, r, h1, h2, h3⟩ := h
    exact ⟨v, r, h1, Den.same e h2, Dens.same e h3⟩
end
mutual
theorem Den.reads {X : Cx} {pins : List (Addr × Obj)} {σ : St} {H : Hp} {s : Shared} (I : Inv X pins σ H s) : ∀ {d : PyData} {v : V} {u : Value}, Den X.K H d v → RelV v u → ∃ as, Reads s.heap u d as
  | .none, _, _, h, r => by unfold Den at h; subst h; cases r; exact ⟨_, .none⟩
  | .bool _, _, _, h, r => by unfold Den at h; subst h; cases r; exact ⟨_, .bool _⟩
  | .int _, _, _, h, r => by unfold Den at h; subst h; obtain ⟨t, rfl⟩ := r; exact ⟨_, .int _ _⟩
  | .str _, _, _, h, r => by unfold Den at h; subst h; obtain ⟨t, rfl⟩ := r; exact ⟨_, .str _ _⟩
  | .list ds, _, _, h, r => by
    unfold Den at h
    obtain ⟨a, vs, rfl, h2, h3⟩ := h
    cases r
    obtain ⟨its, rv, ⟨o, n, e1, e2, _, e4⟩, _⟩ := I.list h2
    obtain ⟨as, q⟩ := Dens.reads I h3 rv
    exact ⟨_, .list e1 e2 e4 (by simpa using q)⟩
  | .tuple ds, _, _, h, r => by
    unfold Den at h
    obtain ⟨a, vs, rfl, h2, h3⟩ := h
    cases r
    obtain ⟨its, rv, ⟨o, e1, e2, n, e4⟩, _⟩ := I.tuple h2
    obtain ⟨as, q⟩ := Dens.reads I h3 rv
    exact ⟨_, .tuple e1 e2 e4 (by simpa using q)⟩
  | .dict _, _, _, h, _ => by unfold Den at h; exact h.elim
theorem Dens.reads {X : Cx} {pins : List (Addr × Obj)} {σ : St} {H : Hp} {s : Shared} (I : Inv X pins σ H s) : ∀ {ds : List PyData} {vs : List V} {us : List Value}, Dens X.K H ds vs → Vals vs us → ∃ as, ReadsAll s.heap us ds as
  | [], _, _, h, r => by unfold Dens at h; subst h; cases r; exact ⟨_, .nil⟩
  | d :: ds, _, _, h, r => by
    unfold Dens at h
    obtain ⟨v, q, rfl, h2, h3⟩ := h
    cases r with
    | cons r1 r2 =>
      obtain ⟨as, q1⟩ := Den.reads I h2 r1
      obtain ⟨bs, q2⟩ := Dens.reads I h3 r2
      exact ⟨_, .cons q1 q2⟩
end
section
variable {X : Cx}
open PySem.SeqAt in
theorem op_eqD (hu : X.A.units + 64 < cLine) : OpR X (compareOp .Eq) (fun x y H Q => ∃ d e, Den X.K H d x ∧ Den X.K H e y ∧ shaped d = true ∧ shaped e = true ∧ Q (.bl (PyData.eqv d e)) H) := by
  intro pins s σ H x y v u Q I rx ry h
  obtain ⟨d, e, hd, he, sd, se, q⟩ := h
  obtain ⟨as, r1⟩ := hd.reads I rx
  obtain ⟨bs, r2⟩ := he.reads I ry
  exact eq_dataH r1 r2 sd se hu ⟨.bl _, H, I, rfl, q⟩
open PySem.SeqAt in
theorem op_neD (hu : X.A.units + 64 < cLine) : OpR X (compareOp .NotEq) (fun x y H Q => ∃ d e, Den X.K H d x ∧ Den X.K H e y ∧ shaped d = true ∧ shaped e = true ∧ Q (.bl (!PyData.eqv d e)) H) := by
  intro pins s σ H x y v u Q I rx ry h
  obtain ⟨d, e, hd, he, sd, se, q⟩ := h
  obtain ⟨as, r1⟩ := hd.reads I rx
  obtain ⟨bs, r2⟩ := he.reads I ry
  exact ne_dataH r1 r2 sd se hu ⟨.bl _, H, I, rfl, q⟩

/-- is True, is False -/
theorem op_isB : OpR X (compareOp .Is) (fun x y H Q => ∃ a b, x = .bl a ∧ y = .bl b ∧ Q (.bl (decide (a = b))) H) := by
  intro pins s σ H x y v u Q I rx ry h
  obtain ⟨a, b, rfl, rfl, q⟩ := h
  cases rx; cases ry
  refine wpAny_is_plain rfl (fin_bl I q ?_)
  cases a <;> cases b <;> rfl
theorem op_isnotB : OpR X (compareOp .IsNot) (fun x y H Q => ∃ a b, x = .bl a ∧ y = .bl b ∧ Q (.bl (!decide (a = b))) H) := by
  intro pins s σ H x y v u Q I rx ry h
  obtain ⟨a, b, rfl, rfl, q⟩ := h
  cases rx; cases ry
  refine wpAny_isNot_plain rfl (fin_bl I q ?_)
  cases a <;> cases b <;> rfl

/-! isinstance -/
/-! a slice of a text -/
theorem sl_str : SlR X (fun x lo hi H Q => ∃ z, x = .str z ∧ z.length ≤ sizeLine ∧ Q (.str (Txt.slice z lo hi)) H) := by
  intro pins s σ H x v vl vu lo hi sl Q I rx hs pl pu q
  obtain ⟨z, rfl, hz, q⟩ := q
  obtain ⟨t, rfl⟩ := rx
  refine ⟨"str", _, F.slot_str_getitem.lookup, typeIs_str _ _ _, ?_⟩
  have fin : ∀ t' k, EP X pins σ Q (.str (Txt.slice z lo hi) t') { s with toks := k } := fun t' k => ⟨.str _, H, I.tok _, ⟨_, rfl⟩, q⟩
  cases pl with
  | none =>
    cases pu with
    | none => exact wpAny_getItem_str_slice (l := none) (u := none) (st := none) hs rfl (post_val_or_str ⟨Nat.le_trans (Txt.slice_le z _ _) hz, fin⟩)
    | int j uj => exact wpAny_getItem_str_slice (l := none) (u := some (j, uj)) (st := none) hs rfl (post_val_or_str ⟨Nat.le_trans (Txt.slice_le z _ _) hz, fin⟩)
  | int i ui =>
    cases pu with
    | none => exact wpAny_getItem_str_slice (l := some (i, ui)) (u := none) (st := none) hs rfl (post_val_or_str ⟨Nat.le_trans (Txt.slice_le z _ _) hz, fin⟩)
    | int j uj => exact wpAny_getItem_str_slice (l := some (i, ui)) (u := some (j, uj)) (st := none) hs rfl (post_val_or_str ⟨Nat.le_trans (Txt.slice_le z _ _) hz, fin⟩)

end
end L2

set_option Elab.async false
set_option linter.all false
set_option maxRecDepth 100000
set_option maxHeartbeats 4000000
/-! zip and enumerate over lists -/
namespace L2
open PySem PySem.Spec PyProof.Rows

section
variable {X : Cx} {pins : List (Addr × Obj)} {σ : St} {H : Hp} {s : Shared} {h' : Heap}
theorem Inv.iter {t' : Nat} {ch : List Addr} (I : Inv X pins σ H s) (hf : ∀ b ∈ ch, FpOk X pins H b) (keep : ∀ b o, b ∉ ch → s.heap.get? b = some o → h'.get? b = some o) : Inv X pins σ H { s with heap := h', toks := t' } := by
  have nch : ∀ b u, H b = some u → b ∉ ch := fun b u e z => by rw [(hf b z).1] at e; cases e
  refine I.step (g' := s.gens) (d' := s.drawn) (ch := ch) (fun b hb => ⟨(hf b hb).2.2.2.1, (hf b hb).2.1, (hf b hb).2.2.2.2.1, (hf b hb).2.2.2.2.2⟩) (fun b o _ _ hc e _ => keep b o hc e) (fun b o _ _ hc e _ => ⟨o.slots, keep b o hc e⟩)
    (fun _ _ _ _ n => n) (fun b o hc e => ⟨o, keep b o hc e⟩) (fun _ _ e => e) (fun _ _ _ e => e) (fun b ps e => ⟨#[], by rw [e]; simp⟩) (fun m hm => hm.at' fun o e => keep _ o (fun z => (hf _ z).2.1 rfl) e) (fun b u e => ?_) I.bare
  refine (I.hok b u e).stay (fun c v hc q => keep c v ?_ q) (fun _ q => q) fun _ _ q => q
  rcases hc with z | z
  · rw [z]; exact nch b u e
  · exact nch c _ z
theorem Inv.adopt {T : Addr} {o : HO} (I : Inv X pins σ H s) (hT : FpOk X pins H T) (hex : X.s₀.heap.objs.size ≤ T) (new : ObjOk X.prog X.w (upd H T o) s.heap T o) : Inv X pins σ (upd H T o) s :=
  ⟨I.ok, I.os, I.bare, ⟨I.base.keep, I.base.slot, fun b ob e n hx => by rw [upd_ne (addr_ne (Heap.lt_size e) hex)]; exact I.base.free b ob e n hx, I.base.there,
      fun b xs e => by rw [upd_ne (ne_of_none (I.base.tups b xs e) hT.1)]; exact I.base.tups b xs e, fun b ob xs e => by rw [upd_ne (ne_of_none (I.base.frzs b ob xs e) hT.1)]; exact I.base.frzs b ob xs e,
      fun b ps e => by
        obtain ⟨m, q⟩ := I.base.tbls b ps e
        exact ⟨m, by rw [upd_ne (ne_of_none q hT.1)]; exact q⟩⟩,
    I.loc, I.cell, by rw [upd_ne (Ne.symm hT.2.1)]; exact I.free, fun x c e => by rw [upd_ne (hT.2.2.2.2.1 x c e)]; exact I.freeC x c e,
    fun p hp => by
      refine Elim.el (I.pin p hp) _ ?_
      rintro a b c d f
      exact ⟨a, by rw [upd_ne (hT.2.2.2.2.2 p hp)]; exact b, c, d, f⟩, I.hok.adopt hT.1 new, I.len⟩
end

theorem vals_get {xs : List V} {its : List Value} {i : Nat} {x : V} (r : Vals xs its) (e : xs[i]? = some x) : ∃ u, its.toArray[i]? = some u ∧ RelV x u := by
  refine Elim.el (r.get e) _ ?_
  rintro u h1 h2
  exact ⟨u, by simpa using h1, h2⟩
section
variable {X : Cx}
end
end L2

set_option Elab.async false
set_option linter.all false
set_option maxRecDepth 100000
set_option maxHeartbeats 4000000
/-! enumerate of a list -/
namespace L2
open PySem PySem.Spec PyProof.Rows

noncomputable def Ite (K : PySem.W.Frag) (a : Addr) : It :=
  ⟨fun i H => Ex2 fun xs x => SqL K H a xs ∧ xs[i]? = some x,
   fun i H v H' => ∃ T, v = .ref T ∧ H T = none ∧ ∀ xs x, SqL K H a xs → xs[i]? = some x → H' = upd H T (.tup [.int i, x]),
   fun i H => ∃ xs, SqL K H a xs ∧ xs.length ≤ i⟩
theorem turn_enum {P : Program} {w : World} {K : PySem.W.Frag} {elts : List Expr} {k : Nat} {tp : Pos} (e it l : Addr) (hei : e ≠ it) (hle : l ≠ e) (hli : l ≠ it) :
    Turn P w K (.Tuple elts k tp) (Ite K l) [e, it] e (fun i h => (∃ old, IsEnum h e it i old) ∧ h.IsListIter it l i) where
  mem := by simp
  obj := fun i h st b hb => by
    obtain ⟨⟨_, h1⟩, ⟨o4, h4, _, d4⟩⟩ := st
    simp at hb
    rcases hb with rfl | rfl
    · exact ⟨_, h1, fun _ z => nomatch z⟩
    · exact ⟨_, h4, fun v q => by rw [d4] at q; cases q⟩
  keep := fun i h h' st hk => by
    obtain ⟨⟨a, h1⟩, h4⟩ := st
    exact ⟨⟨a, hk e (by simp) _ h1⟩, h4.at fun o e => hk it (by simp) o e⟩
  item := fun X hP hw hK hc i pins s σ H E I hf st go => by
    subst hP hw hK
    obtain ⟨⟨old, he⟩, h1⟩ := st
    obtain ⟨xs, x, q1, e1⟩ := go
    obtain ⟨its1, r1, p1, _⟩ := I.list q1
    obtain ⟨u1, g1, ru1⟩ := vals_get r1 e1
    refine wpAny_pyNext_enum_item he h1 p1.isList g1 hei fun h' a1 a3 a5 a6 a7 => ⟨_, rfl, ?_⟩
    refine wpAny_letOwnedTupleGo_enum a1 fun h'' b1 b2 => ?_
    have hTz : s.heap.objs.size ≠ e := addr_ne' (Heap.lt_size he) (Nat.le_refl _)
    have kp : ∀ c o, c ∉ [e, it] → s.heap.get? c = some o → h''.get? c = some o := fun c o hc z => by
      simp only [List.mem_cons, List.not_mem_nil, or_false, not_or] at hc
      exact b2.extBut c o hc.1 (a7 c o hc.1 hc.2 z)
    have I1 : Inv X pins σ H { s with heap := h'', toks := s.toks + 1 } := I.iter hf kp
    have fT : FpOk X pins H s.heap.objs.size := I.fpOk (Nat.le_refl _) (I.hok.fresh (Nat.le_refl _))
    have oT : h''.get? s.heap.objs.size = some { cls := .type "tuple", data := .seq #[.int i s.toks, u1] } := b2.extBut _ _ hTz a5
    have I2 := I1.adopt (T := s.heap.objs.size) (o := .tup [.int i, x]) fT I.sz ⟨by show 2 ≤ sizeLine; decide, [.int i s.toks, u1], .cons ⟨_, rfl⟩ (.cons ru1 .nil), ⟨_, oT, rfl, _, rfl⟩⟩
    refine ⟨.ref s.heap.objs.size, _, I2, rfl, ⟨_, rfl, fT.1, fun xs' x' q1' e1' => ?_⟩, ⟨⟨_, by
      have b1 : IsEnum h'' e it ((i : Int) + 1) u1 := b1
      have z : (((i + 1 : Nat) : Int)) = (i : Int) + 1 := by (first | lia | omega)
      show IsEnum h'' e it ((i + 1 : Nat) : Int) _
      rw [z]; exact b1⟩, a3.extBut b2.extBut (Ne.symm hei)⟩, fun c hc => ?_⟩
    · rw [I.list_inj q1' q1] at e1'
      rw [e1] at e1'; cases e1'; rfl
    · have hcs : c < s.heap.objs.size := by
        simp at hc
        obtain ⟨_, h1, _⟩ := h1
        rcases hc with rfl | rfl
        · exact Heap.lt_size he
        · exact Heap.lt_size h1
      rw [upd_ne (addr_ne hcs (Nat.le_refl _))]
      exact (hf c hc).1
  done := fun X hP hw hK hc i pins s σ H E I hf st stop => by
    subst hP hw hK
    obtain ⟨⟨old, he⟩, h1⟩ := st
    obtain ⟨xs, q1, e⟩ := stop
    obtain ⟨its1, r1, p1, _⟩ := I.list q1
    have l1' := r1.length
    refine wpAny_pyNext_enum_end (I.ok.hd hc) he h1 p1.isList (by simp; (first | lia | omega)) fun h' kp => ⟨rfl, ?_⟩
    refine I.iter (ch := [it]) (t' := s.toks) (fun c hc => hf c (by simp at hc ⊢; simp [hc])) fun c o hc z => kp c o (fun q => hc (by simp [q])) z
  self := fun A i s Q E st hQ => by
    obtain ⟨⟨old, he⟩, _⟩ := st
    exact wpAny_pyIter_enum he hQ
section
variable {X : Cx}
noncomputable def iEnum (K : PySem.W.Frag) (ta : TA) : TI := fun σ H R => ta σ H fun vs H1 => ∃ a, vs = [.ref a] ∧ (∃ xs, SqL K H1 a xs) ∧ R (Ite K a) H1
theorem pi_enum {elts : List Expr} {k : Nat} {tp : Pos} {a : Expr} {ta : TA} {p pos : Pos} (hg : Gl X "enumerate") (hm : X.mg "enumerate" = none) (ha : PA X [a] ta) (hb : bootBuiltins "enumerate" = some (.type "enumerate") := by first | rfl | decide) (hs : starEach [a] X.env = [(false, eval a X.env)] := by rfl) :
    PI X (.Tuple elts k tp) (.Call (.Name "enumerate" p) [a] [] pos) (iEnum X.K ta) := by
  intro pins s σ H R I h
  refine Call_ (ld_blt I hg hm hb (PyProof.Rows.callWith_type1 (thn (ha s σ H _ I h) fun us s1 ⟨vs, H1, I1, r1, q1⟩ => ?_) hs rfl))
  obtain ⟨l1, e, ⟨xs, q1⟩, q⟩ := q1
  subst e
  obtain ⟨u, rfl, ru⟩ := vals1 r1
  cases ru
  obtain ⟨its1, rv1, p1, _⟩ := I1.list q1
  have a1 : l1 < s1.heap.objs.size := by obtain ⟨_, e, _⟩ := p1.isList; exact Heap.lt_size e
  refine call_enumerate_list p1.isList (fun h' he hi1 hsz hk => ?_)
  refine wpAny_pyIter_enum he ?_
  have I2 : Inv X pins σ H1 { s1 with heap := h' } := I1.kept (t' := s1.toks) hk
  refine ⟨_, _, _, _, H1, rfl, I2, turn_enum _ _ _ (Nat.succ_ne_self _) (Nat.ne_of_lt (Nat.lt_succ_of_lt a1)) (Nat.ne_of_lt a1), ⟨⟨_, he⟩, hi1⟩, fun c hc => ?_, q⟩
  have hcs : s1.heap.objs.size ≤ c := by
    simp at hc
    rcases hc with rfl | rfl
    · exact Nat.le_add_right _ _
    · exact Nat.le_refl _
  exact I1.fpOk hcs (I1.hok.fresh hcs)
end
end L2

set_option Elab.async false
set_option linter.all false
set_option maxRecDepth 100000
set_option maxHeartbeats 4000000
/-! rules that do not ask for the kinds, calls of own defs, loops by turns -/
namespace L2
open PySem PySem.Spec PyProof.Rows

section
variable {X : Cx}
noncomputable def rAddA : R2 := fun x y H Q => (Ex2 fun i j => x = .int i ∧ y = .int j ∧ Q (.int (i + j)) H) ∨ (∃ i j, x = .str i ∧ y = .str j ∧ i.length + j.length ≤ sizeLine ∧ Q (.str (i ++ j)) H) ∨ rCat x y H Q
theorem g_add : OpR X (binaryOp .Add) rAddA := op_add.or (op_add_str.or op_cat)
noncomputable def rMulA : R2 := fun x y H Q => (Ex2 fun i j => x = .int i ∧ y = .int j ∧ CMul i j ∧ Q (.int (i * j)) H) ∨ rRep x y H Q
theorem g_mul : OpR X (binaryOp .Mult) rMulA := op_mul.or op_rep
/-- an own def, as callers use it -/
structure Fn (P : Program) (w : World) (K : PySem.W.Frag) (mg : Str → Option Value) (base : Heap) (k : Nat) (x : Str) (ps : List Str) (sp : Sp) : Prop where
  ex : ∃ f fd, FnOk P w K mg base CX0 k f fd ps sp ∧ Binds K fd ps [] ∧ PySem.W.keepIn K (.ref f) = true ∧ mg x = some (.ref f)
theorem Fn.mono {P : Program} {w : World} {K : PySem.W.Frag} {mg : Str → Option Value} {base : Heap} {j k : Nat} {x : Str} {ps : List Str} {sp : Sp} (F : Fn P w K mg base j x ps sp) (h : j ≤ k) : Fn P w K mg base k x ps sp := by
  refine Elim.el (F.ex) _ ?_
  rintro f fd a b c d
  exact ⟨f, fd, a.mono h, b, c, d⟩
theorem pe_fn {k : Nat} {x : Str} {ps : List Str} {sp : Sp} {p pos : Pos} {e : Expr} {es : List Expr} {t : TA} (F : Fn X.prog X.w X.K X.mg X.base k x ps sp) (hr : Room k X.A) (hg : Gl X x)
    (ha : PA X (e :: es) t) (hdb : (x == ("__debug__" : Str)) = false := by decide) (he : starEach (e :: es) X.env = (false, eval e X.env) :: starEach es X.env := by rfl) (hpl : (backTo pos (starEach es X.env)).any (·.1) = false := by rfl) :
    PE X (.Call (.Name x p) (e :: es) [] pos) (tCall sp [] E0 t) := by
  refine Elim.el (F.ex) _ ?_
  rintro f fd a b c d
  exact pe_call a hr hg d c b .nil pass0 ha hdb he hpl
end

/-- the closed look at a comprehension's scope -/
noncomputable def compChk (pn sn : List (Str × NameKind)) (N Fc : List Str) (js : List Nat) : Bool :=
  sn.all (fun y => y.2 != .cell) && sn.all (fun y => y.2 != .local || sn.lookup y.1 == some .local) && sn.all (fun y => y.2 != .free || pn.lookup y.1 == some .cell || pn.lookup y.1 == some .free) && js.length == Fc.length &&
  (List.range Fc.length).all fun k => match Fc[k]?, js[k]? with
    | some x, some j => sn.lookup x == some .free && N[j]? == some x
    | _, _ => false
theorem comp_ok {X : Cx} {scope : Scope} {Nc Fc : List Str} {js : List Nat} (hk : scope.kind = .function := by rfl) (h : compChk X.env.scope.names scope.names X.N Fc js = true := by rfl) : CompOk X scope Nc Fc js := by
  unfold compChk at h
  simp only [Bool.and_eq_true, List.all_eq_true, Bool.or_eq_true, bne_iff_ne, beq_iff_eq, ne_eq] at h
  obtain ⟨⟨⟨⟨h1, h2⟩, h3⟩, h4⟩, h5⟩ := h
  refine ⟨hk, h1, fun y hy hl => (h2 y hy).resolve_left (fun z => z hl), fun y hy hf => ?_, fun k x hx => ?_, h4⟩
  · rcases h3 y hy with (z | z) | z
    · exact absurd hf z
    · exact .inl z
    · exact .inr z
  · have hk' : k < Fc.length := (List.getElem?_eq_some_iff.mp hx).1
    have q := h5 k (List.mem_range.mpr hk')
    have hj : k < js.length := by (first | lia | omega)
    rw [hx, List.getElem?_eq_getElem hj] at q
    simp only [Bool.and_eq_true, beq_iff_eq] at q
    exact ⟨q.1, _, List.getElem?_eq_getElem hj, q.2⟩
end L2
namespace L2
open PySem PySem.Spec PyProof.Rows
section
variable {X : Cx}
theorem g_eq (hu : X.A.units + 64 < cLine) : OpR X (compareOp .Eq) (fun x y H Q => rEq x y H Q ∨ (∃ d e, Den X.K H d x ∧ Den X.K H e y ∧ SeqAt.shaped d = true ∧ SeqAt.shaped e = true ∧ Q (.bl (PyData.eqv d e)) H)) := op_eq.or (op_eqD hu)
theorem g_ne (hu : X.A.units + 64 < cLine) : OpR X (compareOp .NotEq) (fun x y H Q => rNe x y H Q ∨ (∃ d e, Den X.K H d x ∧ Den X.K H e y ∧ SeqAt.shaped d = true ∧ SeqAt.shaped e = true ∧ Q (.bl (!PyData.eqv d e)) H)) := op_ne.or (op_neD hu)
theorem g_is : OpR X (compareOp .Is) (fun x y H Q => (y = .non ∧ Q (.bl (decide (x = .non))) H) ∨ (∃ a b, x = .bl a ∧ y = .bl b ∧ Q (.bl (decide (a = b))) H)) := op_isN.or op_isB
theorem g_isnot : OpR X (compareOp .IsNot) (fun x y H Q => (y = .non ∧ Q (.bl (!decide (x = .non))) H) ∨ (∃ a b, x = .bl a ∧ y = .bl b ∧ Q (.bl (!decide (a = b))) H)) := op_notN.or op_isnotB
theorem g_sl : SlR X (fun x lo hi H Q => rSlL X.K x lo hi H Q ∨ (∃ z, x = .str z ∧ z.length ≤ sizeLine ∧ Q (.str (Txt.slice z lo hi)) H)) := sl_list.or sl_str
/-- the built-in names that no def of the text hides -/
structure Nm (mg : Str → Option Value) : Prop where
  n_len : mg "len" = none
  n_range : mg "range" = none
  n_max : mg "max" = none
  n_min : mg "min" = none
  n_sum : mg "sum" = none
  n_all : mg "all" = none
  n_any : mg "any" = none
  n_list : mg "list" = none
  n_tuple : mg "tuple" = none
  n_int : mg "int" = none
  n_str : mg "str" = none
  n_bool : mg "bool" = none
  n_zip : mg "zip" = none
  n_enumerate : mg "enumerate" = none
  n_isinstance : mg "isinstance" = none
  n_divmod : mg "divmod" = none
end
end L2

set_option Elab.async false
set_option linter.all false
set_option maxRecDepth 100000
set_option maxHeartbeats 4000000
/-! the same rules with the text's own objects K named (inside a comprehension no hole may hang on the block) -/
namespace L2
open PySem PySem.Spec PyProof.Rows
/-- a comprehension of N turns by what holds ahead of turn i; Nx is what is to be reached behind it -/
theorem comp_go {J : It} {n : Nat} {js : List Nat} {g : TG} {tc : TT} {te : TE} {σ : St} {H1 : Hp} {fin : List V → Hp → Prop} (N : Nat) (Pv : Nat → List V → Hp → Prop) (h0 : Pv 0 [] H1)
    (go : ∀ i ys H (Nx : List V → Hp → Prop), i < N → Pv i ys H → (∀ ys' H', Pv (i + 1) ys' H' → Nx ys' H') → J.go i H ∧ ys.length < sizeLine ∧
      ∀ x H', J.yld i H x H' → g x (List.replicate n none ++ cvals σ js) H' fun σ2 H2 => tc σ2 H2 fun b H3 => if b = true then te σ2 H3 fun y H4 => Nx (ys ++ [y]) H4 else Nx ys H3)
    (stop : ∀ ys H, Pv N ys H → J.stop N H ∧ fin ys H) : CompW J n js g tc te σ H1 fin := by
  refine ⟨fun i m ys H => m = N - i ∧ i ≤ N ∧ Pv i ys H, ⟨N, by simp, Nat.zero_le _, h0⟩, ?_⟩
  rintro i m ys H ⟨rfl, hi, p⟩
  by_cases hlt : i < N
  · exact .inr (go i ys H (fun ys' H' => ∃ m', m' < N - i ∧ (m' = N - (i + 1) ∧ i + 1 ≤ N ∧ Pv (i + 1) ys' H')) hlt p fun ys' H' q => ⟨_, by (first | lia | omega), rfl, hlt, q⟩)
  · have e : i = N := by (first | lia | omega)
    subst e
    exact .inl (stop ys H p)
section
variable {X : Cx} (K : PySem.W.Frag)
theorem ixK (hK : X.K = K := by rfl) : IxR X (rIx K) := by subst hK; exact ix_seq
theorem lenK (hK : X.K = K := by rfl) : CallR X (.builtin "len") (fun xs H Q => ∃ x n, xs = [x] ∧ LenV K x H n ∧ Q (.int n) H) := by subst hK; exact call_len
theorem joinK (hK : X.K = K := by rfl) : MtR X "str.join" (fun x vs H Q => ∃ (sep : Str) (p : Addr) (xs : List Str), x = .str sep ∧ vs = [.ref p] ∧ SqL K H p (xs.map V.str) ∧ (xs.map (·.length)).sum + xs.length * sep.length ≤ 16777216 ∧ Q (.str (Txt.join sep xs)) H) := by subst hK; exact mt_join
theorem piK {tg l : Expr} {tl : TE} (hl : PE X l tl) (hK : X.K = K := by rfl) : PI X tg l (iList K tl) := by subst hK; exact pi_list hl
theorem tupK {pos : Pos} {es : List Expr} {k : Nat} {t : TGs} (n : Nat) (hc : X.calm = true) (h : PGs X es t) (hn : (assignEach es X.env).length = n := by rfl) (hst : (assignEach es X.env).findIdx? (·.1) = none := by rfl) (hK : X.K = K := by rfl) : PG X (.Tuple es k pos) (gTup K n t) := by subst hK; exact pg_tup hc h hn hst
theorem bmK {o e : Expr} {es : List Expr} {to : TE} {t : TA} {name : Str} {apos cpos : Pos} {T id : String} {r : V → List V → Hp → VK → Prop} (pa : PlainAttrs T) (slot : Slot T name id) (hty : typeOf (.builtin id) = pure (.type "method_descriptor")) (hm : MtR X id r) (ho : PE X o to) (ha : PA X (e :: es) t)
    (hbase : attributeBase o name X.env (eval o X.env) = eval o X.env := by rfl)
    (hfew : ((backTo cpos (starEach (e :: es) X.env)).all (fun x => !x.1) && (backToKw cpos (keywordEach [] X.env)).all (fun x => x.1.isSome)
      && decide ((e :: es).length + ([] : List Keyword).length + (if ([] : List Keyword).isEmpty then 0 else 1) < 30)) = true := by rfl)
    (hline : (apos.endLine == cpos.line) = true := by rfl) (hs : starEach (e :: es) X.env = (false, eval e X.env) :: starEach es X.env := by rfl) (hplain : (backTo cpos (starEach es X.env)).any (·.1) = false := by rfl) (hK : X.K = K := by rfl) :
    PE X (.Call (.Attribute o name apos) (e :: es) [] cpos) (tBM K T r to t) := by subst hK; exact pe_bm pa slot hty hm ho ha hbase hfew hline hs hplain
theorem eqK (hu : X.A.units + 64 < cLine) (hK : X.K = K := by rfl) : OpR X (compareOp .Eq) (fun x y H Q => rEq x y H Q ∨ (∃ d e, Den K H d x ∧ Den K H e y ∧ SeqAt.shaped d = true ∧ SeqAt.shaped e = true ∧ Q (.bl (PyData.eqv d e)) H)) := by subst hK; exact g_eq hu
theorem neK (hu : X.A.units + 64 < cLine) (hK : X.K = K := by rfl) : OpR X (compareOp .NotEq) (fun x y H Q => rNe x y H Q ∨ (∃ d e, Den K H d x ∧ Den K H e y ∧ SeqAt.shaped d = true ∧ SeqAt.shaped e = true ∧ Q (.bl (!PyData.eqv d e)) H)) := by subst hK; exact g_ne hu
end
end L2

set_option Elab.async false
set_option linter.all false
set_option maxRecDepth 100000
set_option maxHeartbeats 4000000
/-! list(it) of anything that hands out items: what it must promise (Feed), and the list that comes of it -/
namespace L2
open PySem PySem.Spec PyProof.Rows

/-- keeps g h c: what stands outside c in g stands in h -/
noncomputable abbrev Keeps (g h : Heap) (c : Addr → Prop) : Prop := ∀ b o, ¬ c b → g.get? b = some o → h.get? b = some o
/-- the thing at it hands out n items, while a list grows at S; fp: what a turn may change; St: its state; P: what is true of an item; R: of two items -/
structure Feed (prog : Program) (w : World) (A : Around) (it S : Addr) (T : String) (fp : Addr → Prop) (n : Nat) (P : Nat → Value → Heap → Prop) (R : Value → Value → Prop) (St : Nat → Heap → Prop) : Prop where
  sfp : ¬ fp S
  ne : it ≠ S
  ty : ∀ i h, St i h → ∃ o, h.get? it = some o ∧ o.cls = .type T
  self : ∀ (s : Shared) (Q : Value → Shared → Prop) (E : Value → Shared → Prop), St 0 s.heap → Q (.ref it) s → wpAny (model prog w) A (pyIter (.ref it)) Q E s
  item : ∀ i (s : Shared) (Q : Option Value → Shared → Prop) (E : Value → Shared → Prop), i < n → St i s.heap → S < s.heap.objs.size →
    (∀ v h' tk, Keeps s.heap h' fp → St (i + 1) h' → P i v h' → (∀ j u, P j u s.heap → R u v) → Q (some v) { s with heap := h', toks := tk }) → wpAny (model prog w) A (pyNext (.ref it)) Q E s
  stop : ∀ (s : Shared) (Q : Option Value → Shared → Prop) (E : Value → Shared → Prop), St n s.heap → S < s.heap.objs.size → (∀ h' tk, Keeps s.heap h' fp → Q none { s with heap := h', toks := tk }) → wpAny (model prog w) A (pyNext (.ref it)) Q E s
  keepS : ∀ i h h', St i h → Keeps h h' (· = S) → St i h'
  keepP : ∀ j v h h', P j v h → Keeps h h' (fun b => fp b ∨ b = S) → P j v h'
  nolen : typeLookup (.type T) "__len__" = pure none
  nohint : typeLookup (.type T) "__length_hint__" = pure none
  nl : (Value.type T == Value.type "list") = false
  nt : (Value.type T == Value.type "tuple") = false

/-- the list as far as it has grown -/
structure Grown (h : Heap) (S : Addr) (i : Nat) (P : Nat → Value → Heap → Prop) (R : Value → Value → Prop) (acc : Array Value) (c : Nat) : Prop where
  ob : h.get? S = some { cls := .type "list", data := .seq acc c }
  sz : acc.size = i
  pw : acc.toList.Pairwise R
  all : ∀ (j : Nat) v, acc[j]? = some v → P j v h
noncomputable abbrev RunsTo (prog : Program) (w : World) (A : Around) (R : Result → Shared → Prop) : Fin → Shared → Prop := fun fin s' => match fin with
  | .done f => R (.ok f) s'
  | .again c' => c'.quiet = true ∧ codeAny (model prog w) A c' R s'

section
variable {prog : Program} {w : World} {A : Around} {it S : Addr} {T : String} {fp : Addr → Prop} {n : Nat} {P : Nat → Value → Heap → Prop} {R : Value → Value → Prop} {St : Nat → Heap → Prop}
/-- what the list is at the end, over the heap g at the start -/
noncomputable abbrev FeedEnd (g : Heap) (S : Addr) (fp : Addr → Prop) (n : Nat) (P : Nat → Value → Heap → Prop) (R : Value → Value → Prop) (s : Shared) (Z : Shared → Prop) : Prop :=
  ∀ h' tk acc c, Keeps g h' (fun b => fp b ∨ b = S) → Grown h' S n P R acc c → Z { s with heap := h', toks := tk }

theorem feed_loop (Fd : Feed prog w A.in1 it S T fp n P R St) (hn : n ≤ sizeLine) {s : Shared} {Z : Result → Shared → Prop} {res : Value} {g : Heap} (fin : FeedEnd g S fp n P R s (Z (.ok (.ret res)))) :
    ∀ (k i : Nat) (h : Heap) (tk : Nat) (acc : Array Value) (c : Nat), i + k = n → St i h → Grown h S i P R acc c → Keeps g h (fun b => fp b ∨ b = S) →
      codeAny (model prog w) A (.builtin "list.extend.loop" ⟨[.ref S, .ref it, res], []⟩) Z { s with heap := h, toks := tk }
  | 0, i, h, tk, acc, c, hk, hst, G, kp => by
    have e : i = n := by (first | lia | omega)
    subst e
    refine codeAny_builtin PySem.F.entry_extend_loop ?_
    rw [Around.under_plainId PySem.F.plain_extend_loop _]
    refine wpAny_bind (Fd.stop { s with heap := h, toks := tk } _ _ hst (Heap.lt_size G.ob) fun h' tk' k' => wpAny_pure ?_)
    exact fin h' tk' acc c (fun b o nb q => k' b o (fun z => nb (.inl z)) (kp b o nb q)) ⟨k' _ _ Fd.sfp G.ob, G.sz, G.pw, fun j v e => Fd.keepP _ _ _ _ (G.all j v e) fun b o nb q => k' b o (fun z => nb (.inl z)) q⟩
  | k + 1, i, h, tk, acc, c, hk, hst, G, kp => by
    refine codeAny_builtin PySem.F.entry_extend_loop ?_
    rw [Around.under_plainId PySem.F.plain_extend_loop _]
    refine wpAny_bind (Fd.item i { s with heap := h, toks := tk } _ _ (by (first | lia | omega)) hst (Heap.lt_size G.ob) fun v h' tk' k' st' pv rv => ?_)
    have ob' := k' _ _ Fd.sfp G.ob
    have other : Keeps h' (h'.update S (Obj.mapSeq (·.push v))) (· = S) := fun b o nb q => (Heap.get?_update_other _ _ (Ne.symm nb)).trans q
    have k2 : Keeps h (h'.update S (Obj.mapSeq (·.push v))) (fun b => fp b ∨ b = S) := fun b o nb q => other b o (fun z => nb (.inr z)) (k' b o (fun z => nb (.inl z)) q)
    have sz := G.sz
    refine wpAny_bind (wpAny_updateSeq ob' rfl (wpAny_pure ⟨plainId_quiet PySem.F.plain_extend_loop _, ?_⟩) (by rw [sz]; (first | lia | omega)) (by show (acc.push v).size ≤ sizeLine + 1; rw [Array.size_push, sz]; (first | lia | omega)))
    refine feed_loop Fd hn fin k (i + 1) _ tk' (acc.push v) _ (by (first | lia | omega)) (Fd.keepS _ _ _ st' other) ⟨Heap.get?_update_self _ ob' rfl, by rw [Array.size_push, sz], ?_, fun j u e => ?_⟩ (fun b o nb q => k2 b o nb (kp b o nb q))
    · rw [Array.toList_push]
      refine List.pairwise_append.mpr ⟨G.pw, List.pairwise_singleton _ _, fun a ha b hb => ?_⟩
      obtain ⟨j, hj⟩ := List.mem_iff_getElem?.mp ha
      rw [List.mem_singleton.mp hb]
      exact rv j a (G.all j a (by simpa using hj))
    · by_cases hj : j < i
      · rw [Array.getElem?_push_lt (by (first | lia | omega))] at e
        exact Fd.keepP _ _ _ _ (G.all j u (by rw [Array.getElem?_eq_getElem (by (first | lia | omega))]; exact e)) k2
      · have hj' : j = i := by
          have := (Array.getElem?_eq_some_iff.mp e).1
          rw [Array.size_push] at this
          (first | lia | omega)
        subst hj'
        have e' : (acc.push v)[acc.size]? = some u := by rw [sz]; exact e
        rw [Array.getElem?_push_size] at e'
        cases e'
        exact Fd.keepP _ _ _ _ pv fun b o nb q => other b o (fun z => nb (.inr z)) q

theorem feed_extend (Fd : Feed prog w A.in1 it S T fp n P R St) (hn : n ≤ sizeLine) {s : Shared} {Z : Result → Shared → Prop} {res : Value} {c₀ : Nat} (hst : St 0 s.heap) (hS : s.heap.get? S = some { cls := .type "list", data := .seq #[] c₀ })
    (fin : FeedEnd s.heap S fp n P R s (Z (.ok (.ret res)))) :
    wpAny (model prog w) A.in1 (Builtin.List.listExtendWith (.ref S) (.ref it) res) (RunsTo prog w A Z) (fun e s' => Z (.error e) s') s := by
  have go : ∀ (h : Heap) (c tk : Nat), Keeps s.heap h (· = S) → h.get? S = some { cls := .type "list", data := .seq #[] c } → codeAny (model prog w) A (.builtin "list.extend.loop" ⟨[.ref S, .ref it, res], []⟩) Z { s with heap := h, toks := tk } :=
    fun h c tk k o => feed_loop Fd hn fin n 0 h tk #[] c (by (first | lia | omega)) (Fd.keepS _ _ _ hst k) ⟨o, rfl, .nil, fun j v e => by simp at e⟩ fun b o nb q => k b o (fun z => nb (.inr z)) q
  obtain ⟨oi, hoi, hci⟩ := Fd.ty 0 _ hst
  have hT : s.TypeIs (.ref it) T := ⟨oi, hoi, hci⟩
  have nsame : Builtin.List.listSameRef (.ref S) (.ref it) = false := by simp [Builtin.List.listSameRef, Ne.symm Fd.ne]
  unfold Builtin.List.listExtendWith
  refine wpAny_bind (wpAny_typeOf hT ?_)
  simp only [nsame, Fd.nl, Fd.nt, Bool.or_false, Bool.false_eq_true, if_false]
  refine wpAny_bind (Fd.self s _ _ hst ?_)
  have hint : ∀ (Q : Bool → Shared → Prop), Q true s → wpAny (model prog w) A.in1 (Builtin.List.listLengthHint (.ref it)) Q (fun e s' => Z (.error e) s') s := fun Q q => by
    unfold Builtin.List.listLengthHint
    refine wpAny_bind (wpAny_specialOf hT Fd.nolen ?_)
    refine wpAny_ite_split (fun z => absurd z (by decide)) fun _ => wpAny_ite_split (fun z => absurd z (by decide)) fun _ => ?_
    exact wpAny_bind (wpAny_specialOf hT Fd.nohint (wpAny_pure q))
  refine wpAny_bind (wpAny_holding (hint _ ?_))
  refine wpAny_ite_split (fun _ => ?_) fun _ => wpAny_pure ⟨plainId_quiet PySem.F.plain_extend_loop _, go _ c₀ _ (fun _ _ _ q => q) hS⟩
  refine wpAny_bind (wpAny_rule (wpAny_bind ?_))
  have o1 := Heap.get?_update_self (Obj.mapSeq (·.push Value.none)) hS rfl
  have o2 := Heap.get?_update_self (Obj.mapSeq (·.pop)) o1 rfl
  refine wpAny_bind (wpAny_updateSeq hS rfl (wpAny_updateSeq (hz := by seq_fits) o1 rfl (wpAny_pure ⟨plainId_quiet PySem.F.plain_extend_loop _, go _ _ _ (fun b o nb q => ?_) o2⟩)))
  exact (Heap.get?_update_other _ _ (Ne.symm nb)).trans ((Heap.get?_update_other _ _ (Ne.symm nb)).trans q)

theorem feed_init (Fd : Feed prog w A.in1 it S T fp n P R St) (hn : n ≤ sizeLine) {s : Shared} {Z : Result → Shared → Prop} (hst : St 0 s.heap) (hS : s.heap.get? S = some { cls := .type "list", data := .seq #[] })
    (fin : FeedEnd s.heap S fp n P R s (Z (.ok (.ret .none)))) :
    wpAny (model prog w) A.in1 (Builtin.«list.__init__» ⟨[.ref S, .ref it], []⟩) (RunsTo prog w A Z) (fun e s' => Z (.error e) s') s := by
  refine wpAny_bind ?_
  unfold Builtin.List.listItems
  refine wpAny_bind (wpAny_seqItems hS rfl (wpAny_pure ?_))
  have o1 := Heap.get?_update_self (Obj.mapSeq (fun _ => (#[] : Array Value))) hS rfl
  have k1 : Keeps s.heap (s.heap.update S (Obj.mapSeq (fun _ => (#[] : Array Value)))) (· = S) := fun b o nb q => (Heap.get?_update_other _ _ (Ne.symm nb)).trans q
  refine wpAny_bind (wpAny_updateSeq hS rfl (wpAny_bind (wpAny_letGo ?_)))
  refine feed_extend (s := { s with heap := _ }) Fd hn (Fd.keepS _ _ _ hst k1) o1 fun h' tk acc c k G => ?_
  exact fin h' tk acc c (fun b o nb q => k b o nb (k1 b o (fun z => nb (.inr z)) q)) G

/-- list(it): the list stands at the first free address -/
theorem feed_call {s : Shared} {Q : Value → Shared → Prop} {E : Value → Shared → Prop} (Fd : Feed prog w A.in1.in1 it s.heap.objs.size T fp n P R St) (hn : n ≤ sizeLine) (hst : ∀ o, St 0 (s.heap.push o))
    (fin : ∀ h' tk acc c, Keeps s.heap h' fp → Grown h' s.heap.objs.size n P R acc c → Q (.ref s.heap.objs.size) { s with heap := h', toks := tk }) :
    wpAny (model prog w) A (call (.type "list") [.ref it]) Q E s := by
  refine callType_codes (Q₁ := fun obj s₁ => obj = .ref s.heap.objs.size ∧ s₁ = { s with heap := s.heap.push { cls := .type "list", data := .seq #[] } }) F.called_list (F.typeCall_list_1 _) F.entry_list_init
    (code_list_new _ ⟨rfl, rfl⟩) fun obj s₁ h₁ => ?_
  obtain ⟨rfl, rfl⟩ := h₁
  have hS : (s.heap.push { cls := .type "list", data := .seq #[] }).get? s.heap.objs.size = some { cls := .type "list", data := .seq #[] } := Heap.get?_push_size _ rfl
  refine ⟨⟨_, hS, rfl⟩, F.args_list_init_2 _ _, feed_init (s := { s with heap := _ }) (A := A.in1) Fd hn (hst _) hS fun h' tk acc c k G => ⟨rfl, fin h' tk acc c (fun b o nb q => ?_) G⟩⟩
  exact k b o (fun z => z.elim nb fun z => addr_ne (Heap.lt_size q) (Nat.le_refl _) z) (Heap.get?_push_of_some _ q)
end
end L2

set_option Elab.async false
set_option linter.all false
set_option maxRecDepth 100000
set_option maxHeartbeats 4000000
/-! zip of two lists as a Feed: every pair that it has handed out is still held, so it lays a new one each turn -/
namespace L2
open PySem PySem.Spec PyProof.Rows

/-- a zip whose last pair stands at a -/
noncomputable abbrev ZipOut (h : Heap) (z TI TO a : Addr) (f : Bool) : Prop :=
  h.get? z = some { cls := .type "zip", dict := none, data := .fields #[rawInt a, .bool f, .bool false, .ref TI, .ref TO], slots := #[] }
section
variable {prog : Program} {w : World} {A : Around} {E : Value → Shared → Prop} {s : Shared} {z TI TO i1 i2 l1 l2 a : Addr} {f : Bool} {oa : Obj}
theorem zip_busy {Q : Bool → Shared → Prop} (hz : ZipOut s.heap z TI TO a f) (ha : s.heap.get? a = some oa)
    (q : ∀ h, ZipOut h z TI TO a true → Heap.SameBut z s.heap h → Q false { s with heap := h }) : wpAny (model prog w) A (Builtin.SmallTypes.ownedTupleIsFree (.ref z)) Q E s := by
  unfold Builtin.SmallTypes.ownedTupleIsFree
  refine wpAny_bind (wpAny_field hz rfl (x := rawInt a) rfl ?_)
  show wpAny _ _ (loadIfAlive ((a : Int).toNat) >>= _) _ _ _
  rw [Int.toNat_natCast]
  refine wpAny_bind (PySem.W.kdx_alive ha ?_)
  simp only [Option.isNone_some, Bool.false_eq_true, if_false]
  refine wpAny_bind (wpAny_field hz rfl (x := .bool f) rfl ?_)
  cases f
  · exact wpAny_bind (wpAny_setField_rec hz (by simp) fun h e k => wpAny_pure (q h e k))
  · exact wpAny_pure (q s.heap hz (Heap.SameBut.refl _ _))
theorem zip_out_item {k : Nat} {xs ys : Array Value} {x y : Value} {Q : Option Value → Shared → Prop} (D : ZipApart z TI TO i1 i2 l1 l2) (hz : ZipOut s.heap z TI TO a f) (ha : s.heap.get? a = some oa) (hTI : IsPair s.heap TI (.ref i1) (.ref i2))
    (h1 : s.heap.IsListIter i1 l1 k) (h2 : s.heap.IsListIter i2 l2 k) (hl1 : s.heap.IsList l1 xs) (hl2 : s.heap.IsList l2 ys) (hx : xs[k]? = some x) (hy : ys[k]? = some y)
    (q : ∀ h', ZipOut h' z TI TO a true → h'.IsListIter i1 l1 (k + 1) → h'.IsListIter i2 l2 (k + 1) → IsPair h' s.heap.objs.size x y → Keeps s.heap h' (fun b => b = z ∨ b = i1 ∨ b = i2) → Q (some (.ref s.heap.objs.size)) { s with heap := h' }) :
    wpAny (model prog w) A (pyNext (.ref z)) Q E s := by
  have hT : s.TypeIs (.ref z) "zip" := ⟨_, hz, rfl⟩
  unfold pyNext
  refine wpAny_bind (wpAny_attempt (wpAny_callSpecial?_slot (name := Str.ofString "__next__") hT F.slot_zip_next (wpAny_call_entry F.slot_zip_next hT F.entry_zip_next ?_ (F.args_zip_next_1 _))))
  change wpAny _ _ (Bind.bind (field (.ref z) 2) _) _ _ _
  refine wpAny_bind (wpAny_field hz rfl (x := .bool false) rfl ?_)
  change wpAny _ _ (Bind.bind (field (.ref z) 3) _) _ _ _
  refine wpAny_bind (wpAny_field hz rfl (x := .ref TI) rfl (wpAny_bind (wpAny_seqItems hTI rfl ?_)))
  change wpAny _ _ (Bind.bind (Builtin.SmallTypes.ownedTupleIsFree (.ref z)) _) _ _ _
  refine wpAny_bind (zip_busy hz ha fun h0 z0 k0 => ?_)
  simp only [Bool.false_eq_true, if_false, ← Array.forIn_toList, List.forIn_cons, List.forIn_nil]
  refine wpAny_bind (wpAny_bind (wpAny_bind (wpAny_holding (wpAny_bind (wpAny_nextOf_list_item (h1.extBut k0.extBut D.i1z) (hl1.extBut k0.extBut D.l1z) hx fun h4 e4 k4 => wpAny_pure (wpAny_pure ?_))))))
  refine wpAny_bind (wpAny_bind (wpAny_holding (wpAny_bind (wpAny_nextOf_list_item ((h2.extBut k0.extBut D.i2z).extBut k4.extBut D.i12.symm) ((hl2.extBut k0.extBut D.l2z).extBut k4.extBut D.l2i1) hy fun h5 e5 k5 => wpAny_pure (wpAny_pure (wpAny_pure ?_))))))
  refine wpAny_bind (wpAny_newTuple (hsz := by show 2 ≤ sizeLine; decide) (wpAny_pure ⟨_, rfl, wpAny_pure ?_⟩))
  have hsz : h5.objs.size = s.heap.objs.size := by rw [k5.1, k4.1, k0.1]
  show Q (some (.ref h5.objs.size)) _
  rw [hsz]
  refine q (h5.push { cls := .type "tuple", data := .seq #[x, y] }) (Heap.get?_push_of_some _ (k5.extBut _ _ D.i2z.symm (k4.extBut _ _ D.i1z.symm z0))) ((e4.extBut k5.extBut D.i12).at fun o e => Heap.get?_push_of_some _ e) (e5.at fun o e => Heap.get?_push_of_some _ e) (by rw [← hsz]; exact Heap.get?_push_size _ rfl) fun b o nb e => ?_
  exact Heap.get?_push_of_some _ (k5.extBut _ _ (fun z => nb (.inr (.inr z))) (k4.extBut _ _ (fun z => nb (.inr (.inl z))) (k0.extBut _ _ (fun z => nb (.inl z)) e)))
theorem zip_out_stop {k : Nat} {xs ys : Array Value} {Q : Option Value → Shared → Prop} (hh : A.handled = none) (D : ZipApart z TI TO i1 i2 l1 l2) (hz : ZipOut s.heap z TI TO a f) (ha : s.heap.get? a = some oa) (hTI : IsPair s.heap TI (.ref i1) (.ref i2))
    (h1 : s.heap.IsListIter i1 l1 k) (h2 : s.heap.IsListIter i2 l2 k) (hl1 : s.heap.IsList l1 xs) (hl2 : s.heap.IsList l2 ys) (he : xs[k]? = none ∨ ys[k]? = none)
    (q : ∀ h', Keeps s.heap h' (fun b => b = z ∨ b = i1 ∨ b = i2) → Q none { s with heap := h' }) :
    wpAny (model prog w) A (pyNext (.ref z)) Q E s := by
  have hT : s.TypeIs (.ref z) "zip" := ⟨_, hz, rfl⟩
  unfold pyNext
  refine wpAny_bind (wpAny_attempt (wpAny_callSpecial?_slot (name := Str.ofString "__next__") hT F.slot_zip_next (wpAny_call_entry F.slot_zip_next hT F.entry_zip_next ?_ (F.args_zip_next_1 _))))
  change wpAny _ _ (Bind.bind (field (.ref z) 2) _) _ _ _
  refine wpAny_bind (wpAny_field hz rfl (x := .bool false) rfl ?_)
  change wpAny _ _ (Bind.bind (field (.ref z) 3) _) _ _ _
  refine wpAny_bind (wpAny_field hz rfl (x := .ref TI) rfl (wpAny_bind (wpAny_seqItems hTI rfl ?_)))
  change wpAny _ _ (Bind.bind (Builtin.SmallTypes.ownedTupleIsFree (.ref z)) _) _ _ _
  refine wpAny_bind (zip_busy hz ha fun h0 z0 k0 => ?_)
  simp only [Bool.false_eq_true, if_false, ← Array.forIn_toList, List.forIn_cons, List.forIn_nil]
  refine wpAny_bind (wpAny_bind (wpAny_bind (wpAny_holding ?_)))
  cases hx : xs[k]? with
  | none =>
    refine wpAny_bind (wpAny_nextOf_list_end hh (h1.extBut k0.extBut D.i1z) (hl1.extBut k0.extBut D.l1z) hx fun h4 e k4 oe => ?_)
    obtain ⟨o, ho, hc⟩ := oe
    exact wpAny_bind (wpAny_isInstance (T := "StopIteration") (b := true) ⟨o, ho, hc⟩ isSubtype_stop (wpAny_pure (q h4 fun b o nb x => k4 _ _ (fun z => nb (.inr (.inl z))) (k0.extBut _ _ (fun z => nb (.inl z)) x))))
  | some x =>
    have hy : ys[k]? = none := he.resolve_left (by rw [hx]; exact fun z => nomatch z)
    refine wpAny_bind (wpAny_nextOf_list_item (h1.extBut k0.extBut D.i1z) (hl1.extBut k0.extBut D.l1z) hx fun h4 e4 k4 => wpAny_pure (wpAny_pure ?_))
    refine wpAny_bind (wpAny_bind (wpAny_holding (wpAny_bind (wpAny_nextOf_list_end hh ((h2.extBut k0.extBut D.i2z).extBut k4.extBut D.i12.symm) ((hl2.extBut k0.extBut D.l2z).extBut k4.extBut D.l2i1) hy fun h5 e k5 oe => ?_))))
    obtain ⟨o, ho, hc⟩ := oe
    exact wpAny_bind (wpAny_isInstance (T := "StopIteration") (b := true) ⟨o, ho, hc⟩ isSubtype_stop (wpAny_pure (q h5 fun b o nb x => k5 _ _ (fun z => nb (.inr (.inr z))) (k4.extBut _ _ (fun z => nb (.inr (.inl z))) (k0.extBut _ _ (fun z => nb (.inl z)) x)))))
end
/-- the zip ahead of its i-th pair; S: where the list of its pairs grows -/
structure ZipFeeds (z TI TO i1 i2 l1 l2 S : Addr) (xs ys : Array Value) (i : Nat) (h : Heap) : Prop where
  ti : IsPair h TI (.ref i1) (.ref i2)
  to : ∃ a b, IsPair h TO a b
  it1 : h.IsListIter i1 l1 i
  it2 : h.IsListIter i2 l2 i
  a1 : h.IsList l1 xs
  a2 : h.IsList l2 ys
  zp : IsZip h z TI TO .none ∨ 0 < i ∧ ∃ a f oa, ZipOut h z TI TO a f ∧ h.get? a = some oa ∧ S < a
noncomputable abbrev zipFp (z TO i1 i2 : Addr) (b : Addr) : Prop := b = z ∨ b = TO ∨ b = i1 ∨ b = i2
noncomputable abbrev ZipPair (S : Addr) (xs ys : Array Value) (j : Nat) (v : Value) (h : Heap) : Prop := Ex3 fun a x y => v = .ref a ∧ S < a ∧ xs[j]? = some x ∧ ys[j]? = some y ∧ IsPair h a x y
noncomputable abbrev Rising (u v : Value) : Prop := ∃ a b : Addr, u = .ref a ∧ v = .ref b ∧ a < b
theorem zip_feed {prog : Program} {w : World} {A : Around} {z TI TO i1 i2 l1 l2 S : Addr} {xs ys : Array Value} (hh : A.handled = none) (D : ZipApart z TI TO i1 i2 l1 l2) (b1 : z < S) (b2 : TI < S) (b3 : TO < S) (b4 : i1 < S) (b5 : i2 < S) (b6 : l1 < S) (b7 : l2 < S) :
    Feed prog w A z S "zip" (zipFp z TO i1 i2) (min xs.size ys.size) (ZipPair S xs ys) Rising (ZipFeeds z TI TO i1 i2 l1 l2 S xs ys) where
  sfp := fun q => by
    rcases q with q | q | q | q <;> (rw [q] at b1 b3 b4 b5; first | exact absurd b1 (Nat.lt_irrefl _) | exact absurd b3 (Nat.lt_irrefl _) | exact absurd b4 (Nat.lt_irrefl _) | exact absurd b5 (Nat.lt_irrefl _))
  ne := Nat.ne_of_lt b1
  ty := fun i h st => by
    rcases st.zp with q | ⟨_, a, f, oa, q, _⟩
    · exact ⟨_, q, rfl⟩
    · exact ⟨_, q, rfl⟩
  self := fun s Q E st q => by
    rcases st.zp with r | ⟨r, _⟩
    · exact wpAny_pyIter_zip r q
    · exact absurd r (Nat.lt_irrefl _)
  item := fun i s Q E hi st hS q => by
    obtain ⟨ti, ⟨a, b, to⟩, it1, it2, a1, a2, zp⟩ := st
    have hx : xs[i]? = some (xs[i]'(by (first | lia | omega))) := Array.getElem?_eq_getElem (by (first | lia | omega))
    have hy : ys[i]? = some (ys[i]'(by (first | lia | omega))) := Array.getElem?_eq_getElem (by (first | lia | omega))
    have old : ∀ j u, ZipPair S xs ys j u s.heap → Rising u (.ref s.heap.objs.size) := fun j u ⟨a, x, y, e, _, _, _, p⟩ => ⟨a, _, e, rfl, Heap.lt_size p⟩
    rcases zp with r | ⟨hi0, c, f, oc, r, oc', hc⟩
    · refine wpAny_pyNext_zip_item D r ti to it1 it2 a1 a2 hx hy fun h' r1 r2 r3 r4 r5 r6 r7 => ?_
      have kp : Keeps s.heap h' (zipFp z TO i1 i2) := fun b o nb e => r7 b o (fun z => nb (.inl z)) (fun z => nb (.inr (.inl z))) (fun z => nb (.inr (.inr (.inl z)))) (fun z => nb (.inr (.inr (.inr z)))) e
      refine q _ h' s.toks kp ⟨r7 _ _ D.TIz D.TITO D.TIi1 D.TIi2 ti, ⟨_, _, r2⟩, r3, r4, a1.at fun o e => r7 _ _ D.l1z D.l1TO D.l1i1 D.l1i2 e, a2.at fun o e => r7 _ _ D.l2z D.l2TO D.l2i1 D.l2i2 e, .inr ⟨Nat.succ_pos _, _, _, _, r1, r5, hS⟩⟩ ⟨_, _, _, rfl, hS, hx, hy, r5⟩ old
    · have ne : ∀ {b : Addr}, b < S → c ≠ b := fun hb => Nat.ne_of_gt (Nat.lt_trans hb hc)
      refine zip_out_item D r oc' ti it1 it2 a1 a2 hx hy fun h' r1 r2 r3 r4 r5 => ?_
      have kp : Keeps s.heap h' (zipFp z TO i1 i2) := fun b o nb e => r5 b o (fun z => z.elim (fun z => nb (.inl z)) fun z => nb (.inr (.inr z))) e
      refine q _ h' s.toks kp ⟨r5 _ _ (fun z => z.elim D.TIz fun z => z.elim D.TIi1 D.TIi2) ti, ⟨_, _, r5 _ _ (fun z => z.elim D.TOz fun z => z.elim D.TOi1 D.TOi2) to⟩, r2, r3, a1.at fun o e => r5 _ _ (fun z => z.elim D.l1z fun z => z.elim D.l1i1 D.l1i2) e, a2.at fun o e => r5 _ _ (fun z => z.elim D.l2z fun z => z.elim D.l2i1 D.l2i2) e,
        .inr ⟨Nat.succ_pos _, _, _, _, r1, r5 _ _ (fun z => z.elim (ne b1) fun z => z.elim (ne b4) (ne b5)) oc', hc⟩⟩ ⟨_, _, _, rfl, hS, hx, hy, r4⟩ old
  stop := fun s Q E st hS q => by
    obtain ⟨ti, ⟨a, b, to⟩, it1, it2, a1, a2, zp⟩ := st
    have he : xs[min xs.size ys.size]? = none ∨ ys[min xs.size ys.size]? = none := by
      rcases Nat.le_total xs.size ys.size with h | h
      · exact .inl (Array.getElem?_eq_none (by (first | lia | omega)))
      · exact .inr (Array.getElem?_eq_none (by (first | lia | omega)))
    rcases zp with r | ⟨hi0, c, f, oc, r, oc', hc⟩
    · exact wpAny_pyNext_zip_end hh D r ti to it1 it2 a1 a2 he fun h' k => q h' s.toks fun b o nb e => k b o (fun z => nb (.inl z)) (fun z => nb (.inr (.inl z))) (fun z => nb (.inr (.inr (.inl z)))) (fun z => nb (.inr (.inr (.inr z)))) e
    · exact zip_out_stop hh D r oc' ti it1 it2 a1 a2 he fun h' k => q h' s.toks fun b o nb e => k b o (fun z => z.elim (fun z => nb (.inl z)) fun z => nb (.inr (.inr z))) e
  keepS := fun i h h' st k => by
    obtain ⟨ti, ⟨a, b, to⟩, it1, it2, a1, a2, zp⟩ := st
    refine ⟨k _ _ (Nat.ne_of_lt b2) ti, ⟨a, b, k _ _ (Nat.ne_of_lt b3) to⟩, it1.at fun o e => k _ o (Nat.ne_of_lt b4) e, it2.at fun o e => k _ o (Nat.ne_of_lt b5) e, a1.at fun o e => k _ o (Nat.ne_of_lt b6) e, a2.at fun o e => k _ o (Nat.ne_of_lt b7) e, ?_⟩
    rcases zp with r | ⟨hi0, c, f, oc, r, oc', hc⟩
    · exact .inl (k _ _ (Nat.ne_of_lt b1) r)
    · exact .inr ⟨hi0, c, f, oc, k _ _ (Nat.ne_of_lt b1) r, k _ _ (Nat.ne_of_gt hc) oc', hc⟩
  keepP := fun j v h h' ⟨a, x, y, e, ha, h1, h2, p⟩ k => by
    have ne : ∀ {b : Addr}, b < S → a ≠ b := fun hb => Nat.ne_of_gt (Nat.lt_trans hb ha)
    exact ⟨a, x, y, e, ha, h1, h2, k _ _ (fun z => z.elim (fun z => z.elim (ne b1) fun z => z.elim (ne b3) fun z => z.elim (ne b4) (ne b5)) (Nat.ne_of_gt ha)) p⟩
  nolen := by rw [typeLookup_type, builtinLookup_eq_fast]; kernel_rfl
  nohint := by rw [typeLookup_type, builtinLookup_eq_fast]; kernel_rfl
  nl := by decide
  nt := by decide
end L2

set_option Elab.async false
set_option linter.all false
set_option maxRecDepth 100000
set_option maxHeartbeats 4000000
/-! list(zip(a, b)) over the hand layer -/
namespace L2
open PySem PySem.Spec PyProof.Rows

/-- many tuples adopted -/
theorem Inv.adoptAll {X : Cx} {pins : List (Addr × Obj)} {σ : St} : ∀ (as : List Addr) (ps : List (List V)) {H : Hp} {s : Shared}, Inv X pins σ H s → as.Nodup → as.length = ps.length → (∀ a ∈ as, FpOk X pins H a ∧ X.s₀.heap.objs.size ≤ a) →
    (∀ (j : Nat) a p, as[j]? = some a → ps[j]? = some p → p.length ≤ sizeLine ∧ ∃ its : List Value, Vals p its ∧ IsTup s.heap a its.toArray) →
    ∃ H', Inv X pins σ H' s ∧ Same H H' ∧ (∀ b, b ∉ as → H' b = H b) ∧ ∀ (j : Nat) a p, as[j]? = some a → ps[j]? = some p → H' a = some (.tup p)
  | [], ps, H, s, I, _, _, _, _ => ⟨H, I, Same.refl H, fun _ _ => rfl, fun j a p h _ => by simp at h⟩
  | a :: as, [], H, s, I, _, hl, _, _ => by simp at hl
  | a :: as, p :: ps, H, s, I, nd, hl, hf, ho => by
    obtain ⟨na, nd'⟩ := List.nodup_cons.mp nd
    obtain ⟨fa, sa⟩ := hf a List.mem_cons_self
    obtain ⟨hz, its, rv, ht⟩ := ho 0 a p rfl rfl
    have I1 := I.adopt (T := a) (o := .tup p) fa sa ⟨hz, its, rv, ht⟩
    obtain ⟨H', I', sm, same, all⟩ := Inv.adoptAll as ps I1 nd' (by simpa using hl) (fun b hb => by
      obtain ⟨fb, sb⟩ := hf b (List.mem_cons_of_mem _ hb)
      exact ⟨⟨by rw [upd_ne (fun (e : b = a) => na (by rw [← e]; exact hb))]; exact fb.1, fb.2⟩, sb⟩) (fun j b q h1 h2 => ho (j + 1) b q h1 h2)
    refine ⟨H', I', fun b o e => sm b o (by rw [upd_ne (ne_of_none e fa.1)]; exact e), fun b hb => ?_, fun j b q h1 h2 => ?_⟩
    · rw [same b fun z => hb (List.mem_cons_of_mem _ z), upd_ne (fun (z : b = a) => hb (by rw [z]; exact List.mem_cons_self))]
    · cases j with
      | zero =>
        cases h1; cases h2
        rw [same a na]; exact upd_same
      | succ j => exact all j b q h1 h2
theorem refs_of : ∀ {l : List Value}, (∀ v ∈ l, ∃ a : Addr, v = .ref a) → ∃ as : List Addr, l = as.map Value.ref
  | [], _ => ⟨[], rfl⟩
  | v :: r, h => by
    obtain ⟨a, rfl⟩ := h v List.mem_cons_self
    obtain ⟨as, rfl⟩ := refs_of fun u hu => h u (List.mem_cons_of_mem _ hu)
    exact ⟨a :: as, rfl⟩
section
variable {X : Cx}
noncomputable def tLZ (K : PySem.W.Frag) (ta : TA) : TE := fun σ H Q => ta σ H fun vs H1 => Ex4 fun l1 l2 xs ys => vs = [.ref l1, .ref l2] ∧ SqL K H1 l1 xs ∧ SqL K H1 l2 ys ∧
  ∀ H' p (as : List Addr), Same H1 H' → H1 p = none → H' p = some (.lst (as.map V.ref)) → as.length = min xs.length ys.length →
    (∀ (j : Nat) a x y, as[j]? = some a → xs[j]? = some x → ys[j]? = some y → H1 a = none ∧ H' a = some (.tup [x, y])) → Q (.ref p) H'
theorem zip_pairs {xs ys : List V} (j : Nat) (x y : V) (hx : xs[j]? = some x) (hy : ys[j]? = some y) : ((xs.zip ys).map fun q => [q.1, q.2])[j]? = some [x, y] := by
  rw [List.getElem?_map, (List.getElem?_zip_eq_some (z := (x, y))).mpr ⟨hx, hy⟩]
  rfl
theorem pe_listzip {a b : Expr} {ta : TA} {p p2 pos pos2 : Pos} (hc : X.calm = true) (hgl : Gl X "list") (hml : X.mg "list" = none) (hgz : Gl X "zip") (hmz : X.mg "zip" = none) (ha : PA X [a, b] ta)
    (hbl : bootBuiltins "list" = some (.type "list") := by first | rfl | decide) (hbz : bootBuiltins "zip" = some (.type "zip") := by first | rfl | decide)
    (hs0 : starEach [.Call (.Name "zip" p2) [a, b] [] pos2] X.env = [(false, eval (.Call (.Name "zip" p2) [a, b] [] pos2) X.env)] := by rfl)
    (hs : starEach [a, b] X.env = [(false, eval a X.env), (false, eval b X.env)] := by rfl) (hs2 : starEach [b] X.env = [(false, eval b X.env)] := by rfl) :
    PE X (.Call (.Name "list" p) [.Call (.Name "zip" p2) [a, b] [] pos2] [] pos) (tLZ X.K ta) := by
  intro pins s σ H Q I h
  refine wpAny_Call_Name_kw (ld_blt I hgl hml hbl ?_)
  refine PyProof.Rows.callWith_type1 ?_ hs0 rfl
  rw [hs0]
  show wpAny _ _ (spliced ((false, eval (.Call (.Name "zip" p2) [a, b] [] pos2) X.env) :: [])) _ _ _
  refine Calls.spliced_cons ?_
  refine Call_ (ld_blt I hgz hmz hbz (PyProof.Rows.callWith_type1 (thn (ha s σ H _ I h) fun us s1 ⟨vs, H1, I1, r1, q1⟩ => ?_) (by rw [hs, hs2]) (by rw [hs2]; rfl)))
  obtain ⟨l1, l2, xs, ys, e, q1, q2, q⟩ := q1
  subst e
  obtain ⟨u, w', rfl, r1, r2⟩ := vals2 r1
  cases r1; cases r2
  obtain ⟨its1, rv1, p1, hz1⟩ := I1.list q1
  refine Elim.el (I1.list q2) _ ?_
  rintro its2 rv2 p2 hz2
  have e1 := rv1.length
  have e2 := rv2.length
  have a1 : l1 < s1.heap.objs.size := by obtain ⟨_, e, _⟩ := p1.isList; exact Heap.lt_size e
  have a2 : l2 < s1.heap.objs.size := by obtain ⟨_, e, _⟩ := p2.isList; exact Heap.lt_size e
  refine call_zip_2 p1.isList p2.isList fun h' hz hTI hTO hi1 hi2 hsz hk => ?_
  refine Calls.spliced_nil ?_
  have hSz : s1.heap.objs.size ≤ h'.objs.size := by rw [hsz]; exact Nat.le_add_right _ _
  have hin : ∀ n, n < 5 → s1.heap.objs.size + n < h'.objs.size := fun n hn => by rw [hsz]; exact Nat.add_lt_add_left hn _
  have zs : ∀ o, ZipFeeds (s1.heap.objs.size + 4) (s1.heap.objs.size + 2) (s1.heap.objs.size + 3) s1.heap.objs.size (s1.heap.objs.size + 1) l1 l2 h'.objs.size its1.toArray its2.toArray 0 (h'.push o) := fun o =>
    ⟨Heap.get?_push_of_some _ hTI, ⟨_, _, Heap.get?_push_of_some _ hTO⟩, hi1.at fun o e => Heap.get?_push_of_some _ e, hi2.at fun o e => Heap.get?_push_of_some _ e, (p1.isList.at fun o e => hk _ o e).push _, (p2.isList.at fun o e => hk _ o e).push _, .inl (Heap.get?_push_of_some _ hz)⟩
  refine feed_call (s := { s1 with heap := h' }) (zip_feed (I.ok.hd hc) (zipApart_new a1 a2) (hin 4 (by decide)) (hin 2 (by decide)) (hin 3 (by decide)) (hin 0 (by decide)) (hin 1 (by decide)) (Nat.lt_of_lt_of_le a1 hSz) (Nat.lt_of_lt_of_le a2 hSz)) (by simp; (first | lia | omega)) zs fun h2 tk acc c hk2 G => ?_
  obtain ⟨hS2, hsz2, hpw, hall⟩ := G
  obtain ⟨as, hacc⟩ := refs_of (l := acc.toList) fun v hv => by
    obtain ⟨j, hj⟩ := List.mem_iff_getElem?.mp hv
    obtain ⟨a, _, _, e, _⟩ := hall j v (by simpa using hj)
    exact ⟨a, e⟩
  have at_as : ∀ (j : Nat) a, as[j]? = some a → ∃ x y, h'.objs.size < a ∧ its1.toArray[j]? = some x ∧ its2.toArray[j]? = some y ∧ IsPair h2 a x y := fun j a h => by
    obtain ⟨a', x, y, e, g⟩ := hall j (.ref a) (by
      have : acc.toList[j]? = some (.ref a) := by rw [hacc, List.getElem?_map, h]; rfl
      simpa using this)
    cases e
    exact ⟨x, y, g⟩
  have above : ∀ a ∈ as, h'.objs.size < a := fun a ha => by
    obtain ⟨j, hj⟩ := List.mem_iff_getElem?.mp ha
    obtain ⟨_, _, g, _⟩ := at_as j a hj
    exact g
  have old : ∀ b o, s1.heap.get? b = some o → h2.get? b = some o := fun b o e => by
    have hb := Heap.lt_size e
    have gt : ∀ n, b ≠ s1.heap.objs.size + n := fun n => Nat.ne_of_lt (Nat.lt_of_lt_of_le hb (Nat.le_add_right _ _))
    exact hk2 b o (fun z => z.elim (gt 4) fun z => z.elim (gt 3) fun z => z.elim (gt 0) (gt 1)) (hk b o e)
  have I2 : Inv X pins σ H1 { s1 with heap := h2, toks := tk } := I1.kept old
  have hab : ∀ a ∈ as, s1.heap.objs.size ≤ a := fun a ha => Nat.le_of_lt (Nat.lt_of_le_of_lt hSz (above a ha))
  have nd : as.Nodup := by
    rw [hacc, List.pairwise_map] at hpw
    exact hpw.imp fun ⟨a, b, e1, e2, h⟩ => by cases e1; cases e2; exact Nat.ne_of_lt h
  have fpOk : ∀ a, s1.heap.objs.size ≤ a → FpOk X pins H1 a ∧ X.s₀.heap.objs.size ≤ a := fun a ha => ⟨I1.fpOk ha (I1.hok.fresh ha), Nat.le_trans I1.sz ha⟩
  have hal : as.length = min xs.length ys.length := by
    have z : acc.toList.length = as.length := by rw [hacc, List.length_map]
    simp at z hsz2
    (first | lia | omega)
  obtain ⟨H', I', sm, same, all⟩ := I2.adoptAll as ((xs.zip ys).map fun q => [q.1, q.2]) nd (by rw [List.length_map, List.length_zip]; (first | lia | omega)) (fun a ha => fpOk a (hab a ha)) (fun j a pp h1 h2' => by
    refine Elim.el (at_as j a h1) _ ?_
    rintro x y _ g1 g2 g3
    refine Elim.el (vals_at rv1 g1) _ ?_
    rintro vx gx rx
    refine Elim.el (vals_at rv2 g2) _ ?_
    rintro vy gy ry
    have z := zip_pairs j vx vy gx gy
    rw [z] at h2'; cases h2'
    exact ⟨by show 2 ≤ sizeLine; decide, [x, y], .cons rx (.cons ry .nil), ⟨_, g3, rfl, _, rfl⟩⟩)
  have hSn : h'.objs.size ∉ as := fun hm => Nat.lt_irrefl _ (above _ hm)
  have hS1 : H1 h'.objs.size = none := I1.hok.fresh hSz
  obtain ⟨fS, sS⟩ := fpOk h'.objs.size hSz
  have fS' : FpOk X pins H' h'.objs.size := ⟨by rw [same _ hSn]; exact hS1, fS.2⟩
  have I3 := I'.adopt (T := h'.objs.size) (o := .lst (as.map V.ref)) fS' sS ⟨by rw [List.length_map]; (first | lia | omega), acc.toList, c, by
    rw [hacc]
    clear hS2 hacc all same I' sm hab nd hal hSn above at_as
    induction as with
    | nil => exact .nil
    | cons a r ih => exact .cons rfl ih, by simpa using hS2⟩
  refine ⟨.ref h'.objs.size, _, I3, rfl, q _ _ as (fun b o e => ?_) hS1 upd_same hal fun j a x y h1 h2' h3' => ⟨(fpOk a (hab a (List.mem_of_getElem? h1))).1.1, ?_⟩⟩
  · rw [upd_ne (ne_of_none e hS1)]; exact sm b o e
  · rw [upd_ne (fun (z : a = h'.objs.size) => hSn (by rw [← z]; exact List.mem_of_getElem? h1))]
    exact all j a [x, y] h1 (zip_pairs j x y h2' h3')
end
end L2

set_option Elab.async false
set_option linter.all false
set_option maxRecDepth 100000
set_option maxHeartbeats 4000000
/-! the rules that lay or change an object, with the heap behind them as a letter -/
namespace L2
open PySem PySem.Spec PyProof.Rows
structure New (H : Hp) (p : Addr) (o : HO) (H' : Hp) : Prop where
  nn : H p = none
  eq : H' = upd H p o
theorem New.at {H H' : Hp} {p : Addr} {o : HO} (n : New H p o H') : H' p = some o := by rw [n.eq]; exact upd_same
theorem New.ne {H H' : Hp} {p a : Addr} {o : HO} (n : New H p o H') (h : a ≠ p) : H' a = H a := by rw [n.eq]; exact upd_ne h
theorem New.same {H H' : Hp} {p : Addr} {o : HO} (n : New H p o H') : Same H H' := fun a u e => by rw [n.ne (ne_of_none e n.nn)]; exact e
theorem New.back {H H' : Hp} {p a : Addr} {o : HO} (n : New H p o H') (h : H' a = none) : H a = none := by
  cases e : H a with
  | none => rfl
  | some u => rw [n.same a u e] at h; cases h
structure Chg (H : Hp) (p : Addr) (o : HO) (H' : Hp) : Prop where
  eq : H' = upd H p o
theorem Chg.at {H H' : Hp} {p : Addr} {o : HO} (n : Chg H p o H') : H' p = some o := by rw [n.eq]; exact upd_same
theorem Chg.ne {H H' : Hp} {p a : Addr} {o : HO} (n : Chg H p o H') (h : a ≠ p) : H' a = H a := by rw [n.eq]; exact upd_ne h
theorem new_all {H : Hp} {o : HO} {F : Addr → Hp → Prop} : (∀ p, H p = none → F p (upd H p o)) = ∀ p H', New H p o H' → F p H' :=
  propext ⟨fun h p H' n => by rw [n.eq]; exact h p n.nn, fun h p hp => h p _ ⟨hp, rfl⟩⟩
theorem chg_all {H : Hp} {p : Addr} {o : HO} {F : Hp → Prop} : F (upd H p o) = ∀ H', Chg H p o H' → F H' :=
  propext ⟨fun h H' n => by rw [n.eq]; exact h, fun h => h _ ⟨rfl⟩⟩
section
variable {X : Cx} {pos : Pos} {es : List Expr} {t : TA}
noncomputable def tTupN (t : TA) : TE := fun σ H Q => t σ H fun xs H1 => xs.length ≤ sizeLine ∧ ∀ p H', New H1 p (.tup xs) H' → Q (.ref p) H'
noncomputable def tLstN (t : TA) : TE := fun σ H Q => t σ H fun xs H1 => xs.length ≤ sizeLine ∧ ∀ p H', New H1 p (.lst xs) H' → Q (.ref p) H'
theorem tupN {x1} (h : PA X es t) : PE X (.Tuple es x1 pos) (tTupN t) := by
  have e : tTupN t = tTup t := by
    funext σ H Q
    show t σ H _ = t σ H _
    congr 1; funext xs H1
    exact congrArg (_ ∧ ·) (new_all (F := fun p H' => Q (.ref p) H')).symm
  rw [e]; exact pe_tup h
theorem lstN (h : PA X es t) : PE X (.List es pos) (tLstN t) := by
  have e : tLstN t = tLst t := by
    funext σ H Q
    show t σ H _ = t σ H _
    congr 1; funext xs H1
    exact congrArg (_ ∧ ·) (new_all (F := fun p H' => Q (.ref p) H')).symm
  rw [e]; exact pe_lst h
noncomputable def tDispN (trs : List (TE × TE)) : TE := fun σ H Q => ∀ p H0, New H p (.dK []) H0 → tPairs trs σ H0 fun ps H2 => H2 p = some (.dK []) ∧ ∃ kvs : List (Key × V), ps = kvs.map (fun kv => (kV kv.1, kv.2)) ∧ kvs.length ≤ 15 ∧ ∀ H3, Chg H2 p (.dK (mergeK [] kvs)) H3 → Q (.ref p) H3
theorem dispN {keys : List (Option Expr)} {values : List Expr} {trs : List (TE × TE)} (h : PPs X pos keys values trs) (hall : keys.all (·.isSome) = true) (hl : keys.length = values.length) (h0 : keys ≠ [])
    (h15 : keys.length ≤ 15) : PE X (.Dict keys values pos) (tDispN trs) := by
  have e : tDispN trs = tDisp trs := by
    funext σ H Q
    unfold tDispN tDisp
    rw [new_all (F := fun p H0 => tPairs trs σ H0 fun ps H2 => H2 p = some (.dK []) ∧ ∃ kvs : List (Key × V), ps = kvs.map (fun kv => (kV kv.1, kv.2)) ∧ kvs.length ≤ 15 ∧ Q (.ref p) (upd H2 p (.dK (mergeK [] kvs))))]
    simp only [← chg_all (F := fun H3 => Q (.ref _) H3)]
  rw [e]; exact pe_disp h hall hl h0 h15
end
section
variable {X : Cx} (K : PySem.W.Frag)
/-- x[lo:hi] of a list or a text -/
noncomputable def rSlN (K : PySem.W.Frag) : V → Option Int → Option Int → Hp → VK → Prop := fun x lo hi H Q => (Ex2 fun a xs => x = .ref a ∧ SqL K H a xs ∧ ∀ p H', New H p (.lst (cutV xs lo hi)) H' → Q (.ref p) H') ∨ (∃ z, x = .str z ∧ z.length ≤ sizeLine ∧ Q (.str (Txt.slice z lo hi)) H)
theorem slN (hK : X.K = K := by rfl) : SlR X (rSlN K) := by
  subst hK
  intro pins s σ H x v vl vu lo hi sl Q I rx hs pl pu q
  refine g_sl s σ H x v vl vu lo hi sl Q I rx hs pl pu ?_
  rcases q with ⟨a, xs, e, h, q⟩ | q
  · exact .inl ⟨a, xs, e, h, fun p hp => q p _ ⟨hp, rfl⟩⟩
  · exact .inr q
theorem listN (hK : X.K = K := by rfl) : CallR X (.type "list") (fun xs H Q => ∃ p ys, xs = [.ref p] ∧ (SqL K H p ys ∨ SqT K H p ys) ∧ ∀ l H', New H l (.lst ys) H' → Q (.ref l) H') := by
  subst hK
  intro pins s σ H xs us Q I r h
  refine Elim.el (h) _ ?_
  rintro p ys e h q
  exact call_list_of s σ H xs us Q I r ⟨p, ys, e, h, fun l hl => q l _ ⟨hl, rfl⟩⟩
end
section
variable {X : Cx}
noncomputable def rAddN : R2 := fun x y H Q => (Ex2 fun i j => x = .int i ∧ y = .int j ∧ Q (.int (i + j)) H) ∨ (∃ i j, x = .str i ∧ y = .str j ∧ i.length + j.length ≤ sizeLine ∧ Q (.str (i ++ j)) H) ∨
  Ex4 fun l b xs zs => x = .ref l ∧ y = .ref b ∧ H l = some (.lst xs) ∧ H b = some (.lst zs) ∧ xs.length + zs.length ≤ sizeLine ∧ ∀ p H', New H p (.lst (xs ++ zs)) H' → Q (.ref p) H'
theorem addN : OpR X (binaryOp .Add) rAddN := by
  intro pins s σ H x y v u Q I rx ry h
  refine g_add s σ H x y v u Q I rx ry ?_
  rcases h with h | h | ⟨l, b, xs, zs, e1, e2, h1, h2, h3, q⟩
  · exact .inl h
  · exact .inr (.inl h)
  · exact .inr (.inr ⟨l, b, xs, zs, e1, e2, h1, h2, h3, fun p hp => q p _ ⟨hp, rfl⟩⟩)
noncomputable def rMulN : R2 := fun x y H Q => (Ex2 fun i j => x = .int i ∧ y = .int j ∧ CMul i j ∧ Q (.int (i * j)) H) ∨
  Ex3 fun l k xs => x = .ref l ∧ y = .int k ∧ H l = some (.lst xs) ∧ -(2 ^ 63) ≤ k ∧ k < 2 ^ 63 ∧ xs.length * k.toNat ≤ sizeLine ∧ ∀ p H', New H p (.lst (List.replicate k.toNat xs).flatten) H' → Q (.ref p) H'
theorem mulN : OpR X (binaryOp .Mult) rMulN := by
  intro pins s σ H x y v u Q I rx ry h
  refine g_mul s σ H x y v u Q I rx ry ?_
  rcases h with h | ⟨l, k, xs, e1, e2, h1, h2, h3, h4, q⟩
  · exact .inl h
  · exact .inr ⟨l, k, xs, e1, e2, h1, h2, h3, h4, fun p hp => q p _ ⟨hp, rfl⟩⟩
theorem divmodN : CallR X (.builtin "divmod") (fun xs H Q => ∃ i j, xs = [.int i, .int j] ∧ CDiv i j ∧ ∀ p H', New H p (.tup [.int (i / j), .int (i % j)]) H' → Q (.ref p) H') := by
  intro pins s σ H xs us Q I r h
  refine Elim.el (h) _ ?_
  rintro i j e c q
  exact call_divmod s σ H xs us Q I r ⟨i, j, e, c, fun p hp => q p _ ⟨hp, rfl⟩⟩
theorem appendN : MtM X "list.append" (fun x vs H Q => ∃ l xs y, x = .ref l ∧ vs = [y] ∧ H l = some (.lst xs) ∧ xs.length < sizeLine ∧ ∀ H', Chg H l (.lst (xs ++ [y])) H' → Q .non H') := by
  intro pins s σ H x xs v us Q I rx rv h
  refine Elim.el (h) _ ?_
  rintro l ys y e1 e2 h1 h2 q
  exact mt_append s σ H x xs v us Q I rx rv ⟨l, ys, y, e1, e2, h1, h2, q _ ⟨rfl⟩⟩
theorem extendN : MtM X "list.extend" (fun x vs H Q => ∃ l b xs zs, x = .ref l ∧ vs = [.ref b] ∧ H l = some (.lst xs) ∧ H b = some (.lst zs) ∧ xs.length + zs.length ≤ sizeLine ∧ ∀ H', Chg H l (.lst (xs ++ zs)) H' → Q .non H') := by
  intro pins s σ H x xs v us Q I rx rv h
  refine Elim.el (h) _ ?_
  rintro l b ys zs e1 e2 h1 h2 h3 q
  exact mt_extend s σ H x xs v us Q I rx rv ⟨l, b, ys, zs, e1, e2, h1, h2, h3, q _ ⟨rfl⟩⟩
/-- pop(i), i in bounds from the left -/
theorem popAtN : MtM X "list.pop" (fun x vs H Q => ∃ l xs i y, x = .ref l ∧ vs = [.int i] ∧ H l = some (.lst xs) ∧ 0 ≤ i ∧ i < 2 ^ 63 ∧ xs[i.toNat]? = some y ∧ ∀ H', Chg H l (.lst (xs.eraseIdx i.toNat)) H' → Q y H') := by
  intro pins s σ H x xs v us Q I rx rv h
  refine Elim.el (h) _ ?_
  rintro l ys i y e1 e2 h1 h2 h3 h4 q
  refine mt_popAt s σ H x xs v us Q I rx rv ⟨l, ys, i, i.toNat, y, e1, e2, h1, by (first | lia | omega), h3, ?_, h4, q _ ⟨rfl⟩⟩
  have hl := (List.getElem?_eq_some_iff.mp h4).1
  have q : atI ys ((i.toNat : Nat) : Int) = some y := atI_nat h4
  have ei : ((i.toNat : Nat) : Int) = i := by omega
  rw [ei] at q
  obtain ⟨j, hj, hj2, _⟩ := atI_get q
  have : ixN ys.length i = some i.toNat := by unfold ixN; rw [if_pos h2, if_pos (by (first | lia | omega))]
  exact (ixN_seq this).1
end
/-- a comprehension of N turns, its list a letter -/
theorem comp_goN {J : It} {n : Nat} {js : List Nat} {g : TG} {tc : TT} {te : TE} {σ : St} {H1 : Hp} {Q : V → Hp → Prop} (N : Nat) (Pv : Nat → List V → Hp → Prop) (h0 : Pv 0 [] H1)
    (go : ∀ i ys H (Nx : List V → Hp → Prop), i < N → Pv i ys H → (∀ ys' H', Pv (i + 1) ys' H' → Nx ys' H') → J.go i H ∧ ys.length < sizeLine ∧
      ∀ x H', J.yld i H x H' → g x (List.replicate n none ++ cvals σ js) H' fun σ2 H2 => tc σ2 H2 fun b H3 => if b = true then te σ2 H3 fun y H4 => Nx (ys ++ [y]) H4 else Nx ys H3)
    (stop : ∀ ys H, Pv N ys H → J.stop N H ∧ ∀ p H', New H p (.lst ys) H' → Q (.ref p) H') : CompW J n js g tc te σ H1 fun ys H2 => ∀ p, H2 p = none → Q (.ref p) (upd H2 p (.lst ys)) :=
  comp_go N Pv h0 go fun ys H h => ⟨(stop ys H h).1, fun p hp => (stop ys H h).2 p _ ⟨hp, rfl⟩⟩
/-- the reading of an index at a place in bounds -/
theorem at_nat {α : Type} {xs : List α} {i : Int} {v : α} (h0 : 0 ≤ i) (h : xs[i.toNat]? = some v) : atI xs i = some v := by
  have q := atI_nat h
  have e : ((i.toNat : Nat) : Int) = i := by (first | lia | omega)
  rw [e] at q
  exact q
end L2

set_option Elab.async false
set_option linter.all false
set_option maxRecDepth 100000
set_option maxHeartbeats 4000000
/-! isinstance of data -/
namespace L2
open PySem PySem.Spec PyProof.Rows
section
variable {X : Cx}
end
end L2

set_option Elab.async false
set_option linter.all false
set_option maxRecDepth 100000
set_option maxHeartbeats 4000000
/-! zip over lists and tuples (k: is it a tuple) -/
namespace L2
open PySem PySem.Spec PyProof.Rows
section
variable {prog : Program} {w : World} {A : Around} {E : Value → Shared → Prop} {s : Shared} {k : Bool} {it a : Addr} {i : Nat} {its : Array Value}
end
section
variable {prog : Program} {w : World} {A : Around} {E : Value → Shared → Prop} {s : Shared} {k1 k2 : Bool} {z TI TO i1 i2 l1 l2 : Addr} {i : Nat} {xs ys : Array Value}
end
end L2

set_option Elab.async false
set_option linter.all false
set_option maxRecDepth 100000
set_option maxHeartbeats 4000000
/-! zip in a loop's head, over lists and tuples -/
namespace L2
open PySem PySem.Spec PyProof.Rows
section
variable {prog : Program} {w : World} {A : Around} {E : Value → Shared → Prop} {s : Shared}
end
section
variable {X : Cx}
end
end L2

set_option Elab.async false
set_option linter.all false
set_option maxRecDepth 100000
set_option maxHeartbeats 4000000
/-! insert; loops over a list, a tuple or a text; xs[::-1]; the least of a list -/
namespace L2
open PySem PySem.Spec PyProof.Rows
section
variable {X : Cx}
theorem Vals.mid {xs : List V} {us : List Value} {y : V} {u : Value} (r : Vals xs us) (ry : RelV y u) (k : Nat) : Vals (xs.take k ++ y :: xs.drop k) (us.take k ++ u :: us.drop k) := (r.take k).append (.cons ry (r.drop k))
theorem insertN : MtM X "list.insert" (fun x vs H Q => ∃ l xs i y, x = .ref l ∧ vs = [.int i, y] ∧ H l = some (.lst xs) ∧ 0 ≤ i ∧ i ≤ (xs.length : Int) ∧ xs.length < sizeLine ∧ ∀ H', Chg H l (.lst (xs.take i.toNat ++ y :: xs.drop i.toNat)) H' → Q .non H') := by
  intro pins s σ H x vs v us Q I rx rv h
  obtain ⟨l, xs, i, y, rfl, rfl, hH, h0, h1, hz, q⟩ := h
  cases rx
  obtain ⟨w1, w2, rfl, ri, ry⟩ := vals2 rv
  obtain ⟨t, rfl⟩ := ri
  obtain ⟨z, its, n, r, hl, e⟩ := I.lstM hH
  have hfit : ¬ ((!Builtin.List.listFitsIndex i) = true) := by
    have hsl : sizeLine < 2 ^ 62 := by decide
    simp only [Builtin.List.listFitsIndex, Bool.not_eq_true', Bool.not_eq_false]
    simp
    (first | lia | omega)
  refine call_meets F.slot_list_insert ⟨_, e, rfl⟩ F.entry_list_insert (F.args_list_insert_3 _ _ _) (AutoListH.list_insert_list_int_val_1 l its.toArray n i t w2 hfit (by rw [List.size_toArray]; (first | lia | omega))) ⟨e, ?_⟩
  refine ⟨.non, _, I.lset (its' := its.take i.toNat ++ w2 :: its.drop i.toNat) hH e ?_ (r.mid ry i.toNat) ?_, rfl, q _ ⟨rfl⟩⟩
  · rw [if_neg (by (first | lia | omega))]
    have : min i.toNat its.toArray.size = i.toNat := by rw [List.size_toArray]; (first | lia | omega)
    rw [this]
    apply Array.toList_inj.mp
    simp
    rw [List.take_of_length_le (by simp)]
  · rw [List.length_append, List.length_cons, List.length_take, List.length_drop]; (first | lia | omega)
end
section
variable {X : Cx} {tg : Expr}
end
/-! xs[::-1] -/
theorem fm_map {α β : Type} {f : α → Option β} {g : α → β} : ∀ {l : List α}, (∀ k ∈ l, f k = some (g k)) → l.filterMap f = l.map g
  | [], _ => rfl
  | a :: l, h => by
    rw [List.filterMap_cons_some (h a List.mem_cons_self), List.map_cons, fm_map fun k hk => h k (List.mem_cons_of_mem _ hk)]
section
variable {X : Cx} {e : Expr} {te : TE} {pos p2 p3 p4 : Pos} {j : Nat}
end
end L2

set_option Elab.async false
set_option linter.all false
set_option maxRecDepth 100000
set_option maxHeartbeats 4000000
/-! the least of a list of things that are compared by what stands in the heap -/
namespace L2
open PySem PySem.Spec PyProof.Rows
section
variable {prog : Program} {w : World} {A : Around} {R : Result → Shared → Prop} {I S : Addr} {fp wr : List Addr} {n : Nat} {P : Nat → Value → Prop} {St : Nat → Heap → Prop}
end
/-! the least of a list of tuples of ints -/
section
variable {X : Cx} (K : PySem.W.Frag)
end
end L2
namespace L2
open PySem
section
variable {X : Cx} (K : PySem.W.Frag)
theorem enumK {elts : List Expr} {k : Nat} {tp : Pos} {a : Expr} {ta : TA} {p pos : Pos} (hg : Gl X "enumerate") (hm : X.mg "enumerate" = none) (ha : PA X [a] ta) (hb : bootBuiltins "enumerate" = some (.type "enumerate") := by first | rfl | decide) (hs : starEach [a] X.env = [(false, eval a X.env)] := by rfl) (hK : X.K = K := by rfl) :
    PI X (.Tuple elts k tp) (.Call (.Name "enumerate" p) [a] [] pos) (iEnum K ta) := by subst hK; exact pi_enum hg hm ha hb hs
end
end L2

set_option Elab.async false
set_option linter.all false
set_option maxRecDepth 100000
set_option maxHeartbeats 4000000
/-! {k: v for t in xs if c}: the new dict stands in the heap's letters from the start -/
namespace L2
open PySem PySem.Spec PyProof.Rows
section
variable {prog : Program} {w : World} {A : Around} {R : Result → Shared → Prop} {s : Shared}
end
section
variable {X : Cx} {pins : List (Addr × Obj)} {σ : St} {H : Hp} {s : Shared} {a : Addr} {y v : V} {u r : Value} {A : Around} {E : Value → Shared → Prop}
end

section
variable {X : Cx} {pins : List (Addr × Obj)} {σ : St} {H : Hp} {s : Shared} {scope : Scope} {Nc Fc : List Str} {js : List Nat} {cl : List (Str × Addr)} {C : Addr} {fp : List Addr}
end
end L2

set_option Elab.async false
set_option linter.all false
set_option maxRecDepth 100000
set_option maxHeartbeats 4000000
/-! sorted(xs) of fewer than 64 ints -/
namespace L2
open PySem PySem.Spec PyProof.Rows
section
variable {X : Cx} (K : PySem.W.Frag)
end
end L2

set_option Elab.async false
set_option linter.all false
set_option maxRecDepth 100000
set_option maxHeartbeats 4000000
/-! the sort of a list of any length, by keys that stand in the order of ints: runs -/
namespace L2
open PySem PySem.Spec PyProof.Rows
section
variable {prog : Program} {w : World} {A : Around} {E : Value → Shared → Prop} {s : Shared} {a₀ : Array Keyed} {key : Keyed → Int} {kd : SortKind}
end
end L2

set_option Elab.async false
set_option linter.all false
set_option maxRecDepth 100000
set_option maxHeartbeats 4000000
/-! the sort of a list of any length: the gallop -/
namespace L2
open PySem PySem.Spec PyProof.Rows
section
variable {prog : Program} {w : World} {A : Around} {E : Value → Shared → Prop} {s : Shared} {a₀ : Array Keyed} {key : Keyed → Int} {kd : SortKind}
section
variable {α : Type} {c : Prop} [Decidable c] {m n : StateT SortSt Sem α} {Q : α → SortSt → Prop} {st : SortSt}
end
end
end L2

set_option Elab.async false
set_option linter.all false
set_option maxRecDepth 100000
set_option maxHeartbeats 4000000
/-! the sort of a list of any length: the merges -/
namespace L2
open PySem PySem.Spec PyProof.Rows
section
variable {prog : Program} {w : World} {A : Around} {E : Value → Shared → Prop} {s : Shared} {a₀ : Array Keyed} {key : Keyed → Int} {kd : SortKind}

end
end L2

set_option Elab.async false
set_option linter.all false
set_option maxRecDepth 100000
set_option maxHeartbeats 4000000
namespace L2
open PySem PySem.Spec PyProof.Rows
section
variable {prog : Program} {w : World} {A : Around} {E : Value → Shared → Prop} {s : Shared} {a₀ : Array Keyed} {key : Keyed → Int} {kd : SortKind}
end
end L2

set_option Elab.async false
set_option linter.all false
set_option maxRecDepth 100000
set_option maxHeartbeats 4000000
namespace L2
open PySem PySem.Spec PyProof.Rows
section
variable {prog : Program} {w : World} {A : Around} {E : Value → Shared → Prop} {s : Shared} {a₀ : Array Keyed} {key : Keyed → Int} {kd : SortKind}
end
end L2

set_option Elab.async false
set_option linter.all false
set_option maxRecDepth 100000
set_option maxHeartbeats 4000000
namespace L2
open PySem PySem.Spec PyProof.Rows
section
variable {prog : Program} {w : World} {A : Around} {E : Value → Shared → Prop} {s : Shared} {a₀ : Array Keyed} {key : Keyed → Int} {kd : SortKind}
end
end L2

set_option Elab.async false
set_option linter.all false
set_option maxRecDepth 100000
set_option maxHeartbeats 4000000
namespace L2
open PySem PySem.Spec PyProof.Rows
section
variable {prog : Program} {w : World} {A : Around} {E : Value → Shared → Prop} {s : Shared} {a₀ : Array Keyed} {key : Keyed → Int} {kd : SortKind}
end
end L2

set_option Elab.async false
set_option linter.all false
set_option maxRecDepth 100000
set_option maxHeartbeats 4000000
/-! sorted(xs) of ints, any number of them -/
namespace L2
open PySem PySem.Spec PyProof.Rows
section
variable {prog : Program} {w : World} {A : Around} {E : Value → Shared → Prop} {s : Shared}
end
section
variable {X : Cx} (K : PySem.W.Frag)
end
end L2

set_option Elab.async false
set_option linter.all false
set_option maxRecDepth 100000
set_option maxHeartbeats 4000000
/-! an exception in flight, with its own dict -/
namespace L2
open PySem PySem.Spec PyProof.Rows PySem.W
section
variable {M : Model} {A : Around} {E : Value → Shared → Prop} {s : Shared} {base : Heap} {env : Env} {outer : List Env} {L e : Addr} {cls a0 : Value} {dx : Option Addr} {Q : Unit → Shared → Prop}
end
end L2

set_option Elab.async false
set_option linter.all false
set_option maxRecDepth 100000
set_option maxHeartbeats 4000000
/-! an exception of an own class: raised, passing the frames -/
namespace L2
open PySem PySem.Spec PyProof.Rows PySem.W
section
variable {P : Program} {w : World} {K : PySem.W.Frag} {mg : Str → Option Value} {base : Heap} {N : List Str} {qual : Str} {scope : Scope} {f : Addr} {cd : Value} {A : Around} {outer : List Env} {s0 : Shared} {H0 : Hp} {E : XK}
end
end L2

set_option Elab.async false
set_option linter.all false
set_option maxRecDepth 100000
set_option maxHeartbeats 4000000
/-! try: body, except C: suite -/
namespace L2
open PySem PySem.Spec PyProof.Rows PySem.W
section
variable {X : Cx} {pins pins' : List (Addr × Obj)} {σ σ0 : St} {E' : XK} {H : Hp} {s : Shared}
end
section
variable {X : Cx} {L : Addr}
end
section
variable {X : Cx} {L : Addr} {pins : List (Addr × Obj)} {σ : St} {H : Hp} {s : Shared}
end
section
variable {X : Cx} {L : Addr} {pins : List (Addr × Obj)} {σ : St} {H : Hp} {s : Shared}
end
section
variable {P : Program} {w : World} {K : PySem.W.Frag} {mg : Str → Option Value} {base : Heap}
end
end L2

set_option Elab.async false
set_option linter.all false
set_option maxRecDepth 100000
set_option maxHeartbeats 4000000
/-! sorted(xs) of int pairs, all unlike, any number of them -/
namespace L2
open PySem PySem.Spec PyProof.Rows PySem.W
theorem vals_refs : ∀ {as : List Addr} {us : List Value}, Vals (as.map V.ref) us → us = as.map Value.ref
  | [], _, .nil => rfl
  | a :: as, _, .cons r t => by rw [vals_refs t]; cases r; rfl
section
variable {prog : Program} {w : World} {A : Around} {E : Value → Shared → Prop} {s : Shared}
end
section
variable {X : Cx} (K : PySem.W.Frag)
end
end L2

set_option Elab.async false
set_option linter.all false
set_option maxRecDepth 100000
set_option maxHeartbeats 4000000
/-! a new dict, its heap a letter -/
namespace L2
open PySem PySem.Spec PyProof.Rows
section
variable {X : Cx} {pos : Pos}
noncomputable def tDNewN : TE := fun _ H Q => ∀ p H', New H p (.dK []) H' → Q (.ref p) H'
theorem dnewN : PE X (.Dict [] [] pos) tDNewN := by
  have e : tDNewN = tDNewK := by
    funext σ H Q
    exact (new_all (F := fun p H' => Q (.ref p) H')).symm
  rw [e]; exact pe_dnewK
end
end L2

set_option Elab.async false
set_option linter.all false
set_option maxRecDepth 100000
set_option maxHeartbeats 4000000
/-! a def that may raise, called where it is known that it doesn't -/
namespace L2
open PySem PySem.Spec PyProof.Rows PySem.W
end L2

set_option Elab.async false
set_option linter.all false
set_option maxRecDepth 100000
set_option maxHeartbeats 4000000
/-! an own class of exceptions, read off the written part of the heap -/
namespace L2
open PySem PySem.Spec PyProof.Rows PySem.W
end L2

set_option Elab.async false
set_option linter.all false
set_option maxRecDepth 100000
set_option maxHeartbeats 4000000
/-! isinstance of an exception of an own class -/
namespace L2
open PySem PySem.Spec PyProof.Rows PySem.W PySem.Calls Builtin Builtin.ObjectAttr Builtin.Getset_descriptor
section
variable {K : Frag} {e C : Addr}
variable {prog : Program} {w : World} {A : Around} {E : Value → Shared → Prop} {s : Shared}
end
section
variable {X : Cx}
end
end L2

set_option Elab.async false
set_option linter.all false
set_option maxRecDepth 100000
set_option maxHeartbeats 4000000
/-! list(range(n)); a text n times -/
namespace L2
open PySem PySem.Spec PyProof.Rows
section
variable {X : Cx}
end
end L2

set_option Elab.async false
set_option linter.all false
set_option maxRecDepth 100000
set_option maxHeartbeats 4000000
/-! set(xs) of texts, and its len -/
namespace L2
open PySem PySem.Spec PyProof.Rows
section
variable {prog : Program} {w : World} {K : Type} [DecidableEq K] {knd : PySem.KeyKind prog w K}
variable {A : Around} {R : Result → Shared → Prop} {I : Addr} {fp wr : List Addr} {G : Array GenState → Array GenState → Prop} {n : Nat} {P : Nat → Value → Prop} {St : Nat → Shared → Prop}
end
section
variable {prog : Program} {w : World} {K : Type} [DecidableEq K] {knd : PySem.KeyKind prog w K} {A : Around} {E : Value → Shared → Prop} {s : Shared}
end
section
variable {X : Cx}
end
end L2

set_option Elab.async false
set_option linter.all false
set_option maxRecDepth 100000
set_option maxHeartbeats 4000000
/-! tables of sets whose places rise: what one more key keeps -/
namespace L2
open PySem PySem.Spec PyProof.Rows
section
variable {prog : Program} {w : World} {K : Type} [DecidableEq K] {knd : PySem.KeyKind prog w K} {A : Around} {E : Value → Shared → Prop} {s : Shared} {a : Addr}
end
end L2

set_option Elab.async false
set_option linter.all false
set_option maxRecDepth 100000
set_option maxHeartbeats 4000000
/-! str(x) of data, however nested -/
namespace L2
open PySem PySem.Spec PyProof.Rows
section
variable {X : Cx} {pins : List (Addr × Obj)} {σ : St} {H : Hp} {s : Shared}
end
end L2

set_option Elab.async false
set_option linter.all false
set_option maxRecDepth 100000
set_option maxHeartbeats 4000000
/-! {e for t in xs if c}: a set's comprehension, of texts or of ints -/
namespace L2
open PySem PySem.Spec PyProof.Rows
section
variable {prog : Program} {w : World} {A : Around} {R : Result → Shared → Prop} {s : Shared}
end
section
end
end L2

set_option Elab.async false
set_option linter.all false
set_option maxRecDepth 100000
set_option maxHeartbeats 4000000
/-! reverse, clear, count of a list; texts and numbers of the module -/
namespace L2
open PySem PySem.Spec PyProof.Rows
section
variable {X : Cx}
end
end L2

set_option Elab.async false
set_option linter.all false
set_option maxRecDepth 100000
set_option maxHeartbeats 4000000
/-! sorted(xs) of fewer than 64 texts -/
namespace L2
open PySem PySem.Spec PyProof.Rows
section
variable {X : Cx} (K : PySem.W.Frag)
end
section
variable {X : Cx}
end
end L2

set_option Elab.async false
set_option linter.all false
set_option maxRecDepth 100000
set_option maxHeartbeats 4000000
/-! sorted(xs, key = f) of any number of texts, f telling the pair of a text's length and itself -/
namespace L2
open PySem PySem.Spec PyProof.Rows PySem.W
section
variable {X : Cx} {H Hj : Hp} {s sj : Shared} {pins : List (Addr × Obj)} {σ : St}
/-- what a running built-in keeps: s, H where it began, sj, Hj now -/
structure Run (X : Cx) (H : Hp) (s : Shared) (Hj : Hp) (sj : Shared) : Prop where
  un : Un (frs X.stack) [] H Hj s.heap sj.heap
  hok : HOk X.prog X.w Hj sj.heap
  os : sj.os = s.os
  bare : AllBare sj.gens
theorem Run.inv (r : Run X H s Hj sj) (I : Inv X pins σ H s) : Inv X pins σ Hj sj := I.call' (ch := []) r.os r.un r.hok r.bare fun _ z => by cases z
theorem Run.start (I : Inv X pins σ H s) : Run X H s H s := ⟨Un.refl, I.hok, rfl, I.bare⟩
/-- new objects, untold -/
theorem Run.kept {h' : Heap} (r : Run X H s Hj sj) (k : ∀ b u, sj.heap.get? b = some u → h'.get? b = some u) : Run X H s Hj { sj with heap := h' } := ⟨r.un.trans (Un.kept k), r.hok.kept k, r.os, r.bare⟩
/-- an object that is new since the start and untold is changed -/
theorem Run.alter {h' : Heap} {b : Addr} (r : Run X H s Hj sj) (hb : s.heap.get? b = none) (hn : Hj b = none) (k : ∀ c u, c ≠ b → sj.heap.get? c = some u → h'.get? c = some u) : Run X H s Hj { sj with heap := h' } := by
  have ne : ∀ {c : Addr} {o : Obj}, s.heap.get? c = some o → c ≠ b := fun e z => by rw [z, hb] at e; cases e
  refine ⟨⟨fun c o q n h1 h2 => k c o (ne q) (r.un.keep c o q n h1 h2), fun c o q n h1 h2 => ?_, r.un.free, fun c o q h1 => ?_, r.un.tups, r.un.frzs, r.un.tbls⟩, fun a o e => (r.hok a o e).stay (fun c u hc q => k c u ?_ q) (fun _ q => q) fun _ _ q => q, r.os, r.bare⟩
  · obtain ⟨sl, e⟩ := r.un.slot c o q n h1 h2
    exact ⟨sl, k c _ (ne q) e⟩
  · obtain ⟨o', e⟩ := r.un.there c o q h1
    exact ⟨o', k c _ (ne q) e⟩
  · rintro rfl
    rcases hc with rfl | hc
    · rw [hn] at e; cases e
    · rw [hn] at hc; cases hc
/-- behind a call -/
theorem Run.called {Q : VK} {u : Value} {s' : Shared} (r : Run X H s Hj sj) (c : CE X.stack X.prog X.w Hj sj Q u s') : ∃ v H', Run X H s H' s' ∧ RelV v u ∧ Q v H' ∧ Un (frs X.stack) [] Hj H' sj.heap s'.heap := by
  obtain ⟨v, H', os, bare, un, hok, rv, q⟩ := c
  exact ⟨v, H', ⟨r.un.trans un, hok, os.trans r.os, bare⟩, rv, q, un⟩
end
/-- shorter ahead, then by the signs -/
noncomputable def lfLt (a b : Str) : Prop := a.length < b.length ∨ (a.length = b.length ∧ a.cps.toList < b.cps.toList)
noncomputable instance (a b : Str) : Decidable (lfLt a b) := by unfold lfLt; infer_instance
theorem str_cps {x y : Str} (h : x.cps.toList = y.cps.toList) : x = y := by
  cases x; cases y; congr 1; exact Array.toList_inj.mp h
theorem lfLt_irrefl (a : Str) : ¬ lfLt a a := fun h => by
  rcases h with h | ⟨_, h⟩
  · (first | lia | omega)
  · exact List.lt_irrefl _ h
theorem lfLt_trans {a b c : Str} (h1 : lfLt a b) (h2 : lfLt b c) : lfLt a c := by
  rcases h1 with h1 | ⟨e1, h1⟩ <;> rcases h2 with h2 | ⟨e2, h2⟩
  · exact .inl (by (first | lia | omega))
  · exact .inl (by (first | lia | omega))
  · exact .inl (by (first | lia | omega))
  · exact .inr ⟨by (first | lia | omega), List.lt_trans h1 h2⟩
theorem lfLt_or {a b : Str} (h : a ≠ b) : lfLt a b ∨ lfLt b a := by
  by_cases h1 : a.length < b.length
  · exact .inl (.inl h1)
  by_cases h2 : b.length < a.length
  · exact .inr (.inl h2)
  by_cases h3 : a.cps.toList < b.cps.toList
  · exact .inl (.inr ⟨by (first | lia | omega), h3⟩)
  · refine .inr (.inr ⟨by (first | lia | omega), ?_⟩)
    rcases List.le_iff_lt_or_eq.mp (List.not_lt.mp h3) with z | z
    · exact z
    · exact absurd (str_cps z).symm h
/-- the key of a text lies at q -/
noncomputable def KeyAt (H : Hp) (t : Str) (v : Value) : Prop := ∃ q, v = .ref q ∧ H q = some (.tup [.int t.length, .str t])
theorem KeyAt.obj {P : Program} {w : World} {H : Hp} {t : Str} {v : Value} {h : Heap} (k : KeyAt H t v) (ok : HOk P w H h) : ∃ q o n t1 t2, v = .ref q ∧ h.get? q = some o ∧ o.cls = .type "tuple" ∧ o.data = .seq #[.int t.length t1, .str t t2] n := by
  obtain ⟨q, rfl, e⟩ := k
  obtain ⟨_, its, r, o, e1, c, n, d⟩ := ok q _ e
  obtain ⟨w1, w2, rfl, ⟨t1, rfl⟩, ⟨t2, rfl⟩⟩ := vals2 r
  exact ⟨q, o, n, t1, t2, rfl, e1, c, d⟩
section
variable {prog : Program} {w : World} {A : Around} {E : Value → Shared → Prop} {s : Shared}
end
section
variable {X : Cx} {H : Hp} {s0 : Shared} {pins : List (Addr × Obj)} {σ : St} {D kS : Addr} {ts : List Str} {vs : List Value}
theorem notFr (I : Inv X pins σ H s0) {b : Addr} (h : s0.heap.get? b = none) : b ∉ frs X.stack := fun hb => by
  obtain ⟨_, o, e, _⟩ := I.stack.mem hb
  rw [h] at e; cases e
theorem KeyAt.new {H H' : Hp} {t : Str} {v : Value} {q : Addr} {o : HO} (k : KeyAt H t v) (n : New H q o H') : KeyAt H' t v := by
  obtain ⟨a, rfl, e⟩ := k
  exact ⟨a, rfl, n.same _ _ e⟩
end
end L2
namespace L2
open PySem PySem.Spec PyProof.Rows PySem.W
/-- a built-in function called with keywords -/
noncomputable def CallKR (X : Cx) (id : String) (ks : List Str) (r : List V → List V → Hp → VK → Prop) : Prop :=
  ∀ ⦃pins : List (Addr × Obj)⦄ (s : Shared) (σ : St) (H : Hp) (xs : List V) (us : List Value) (zs : List V) (ws : List Value) (Q : VK), Inv X pins σ H s → Vals xs us → Vals zs ws → r xs zs H Q →
    wpAny (model X.prog X.w) X.A (call (.builtin id) us (ks.zip ws)) (EP X pins σ Q) X.xe s
section
variable {X : Cx} {x : Str} {p pos : Pos} {e : Expr} {es : List Expr} {kws : List Keyword} {t tk : TA} {id : String} {ks : List Str} {r : List V → List V → Hp → VK → Prop}
noncomputable def tCBK (r : List V → List V → Hp → VK → Prop) (t tk : TA) : TE := fun σ H Q => t σ H fun vs H1 => tk σ H1 fun zs H2 => r vs zs H2 Q
theorem pe_callBK (hc : CallKR X id ks r) (hg : Gl X x) (hm : X.mg x = none) (hv : bootBuiltins x = some (.builtin id)) (ha : PA X (e :: es) t) (hkw : PK X kws tk) (hn : x ≠ "__name__" := by decide) (hdb : (x == ("__debug__" : Str)) = false := by decide)
    (he : backTo pos (starEach (e :: es) X.env) = (false, eval e X.env) :: backTo pos (starEach es X.env) := by rfl) (hpl : (backTo pos (starEach (e :: es) X.env)).any (·.1) = false := by rfl)
    (hall : (backToKw pos (keywordEach kws X.env)).all (·.1.isSome) = true := by rfl) (hno : (backToKw pos (keywordEach kws X.env)).any (·.1.isNone) = false := by rfl) (hks : (backToKw pos (keywordEach kws X.env)).filterMap (·.1) = ks := by rfl) :
    PE X (.Call (.Name x p) (e :: es) kws pos) (tCBK r t tk) := by
  intro pins s σ H Q I h
  refine wpAny_Call_Name_kw (ld_blt I hg hm hv ?_ hn hdb)
  refine callWith_kw (thn (ha s σ H _ I h) fun us s1 ⟨vs, H1, I1, r1, q1⟩ => ?_) he hpl hall hno
  refine thn (hkw s1 σ H1 _ I1 q1) fun ws s2 ⟨zs, H2, I2, r2, q2⟩ => ?_
  rw [hks]
  exact hc s2 σ H2 vs us zs ws Q I2 r1 r2 q2
end
section
variable {X : Cx} (K : PySem.W.Frag)
end
end L2

set_option Elab.async false
set_option linter.all false
set_option maxRecDepth 100000
set_option maxHeartbeats 4000000
/-! t < u of tuples whose things are compared one by one -/
namespace L2
open PySem PySem.Spec PyProof.Rows
/-- how the parts, side by side, are compared; d: what is told where all are alike -/
inductive Lx (d : Bool) : List (Value × Value) → Bool → Prop
  | nil : Lx d [] d
  | eq {x y : Value} {l : List (Value × Value)} {r : Bool} (h : ∀ A s, SeqAt.EqAt A s x y true) (t : Lx d l r) : Lx d ((x, y) :: l) r
  | ne {x y : Value} {l : List (Value × Value)} {r : Bool} (h : ∀ A s, SeqAt.EqAt A s x y false) (c : ∀ (A : Around) (s : Shared) (prog : Program) (w : World) (E : Value → Shared → Prop) (Q : Value → Shared → Prop), Q (.bool r) s → wpAny (model prog w) A (richCompare .Lt x y) Q E s) : Lx d ((x, y) :: l) r
section
open PySem.SeqAt
open PySem.AutoSeq1 (wpAny_loadPart')
open PySem.MeetsSeq PySem.MeetsSeq2 PySem.MeetsSeq3
theorem tuple_lx (l b : Addr) (items items2 : Array Value) (n n2 : Nat) (dd dd2 : Option Addr) (sl sl2 : Array (Option Value)) (v : Bool) (hx : Lx (decide (items.size < items2.size)) (items.toList.zip items2.toList) v) :
    Meets (Builtin.«tuple.__lt__» ⟨[.ref l, .ref b], []⟩)
      (fun _ R s => s.heap.get? l = some { cls := .type "tuple", dict := dd, data := .seq items n, slots := sl } ∧ s.heap.get? b = some { cls := .type "tuple", dict := dd2, data := .seq items2 n2, slots := sl2 } ∧ R (.ok (.ret (.bool v))) s) :=
  .of_wp fun prog w A R s h => by
    obtain ⟨hp, g, d, tk, os⟩ := s
    obtain ⟨hl, hb, h⟩ := h
    have f2 := AutoSeq1.sub_tuple_tuple
    wp_walk using wpAny_loadPart' hl, wpAny_loadPart' hb, wpAny_forIn_list _ (fun rest b s' => b.1 = none ∧ s' = ⟨hp, g, d, tk, os⟩ ∧ ∃ r, Lx (decide (items.size < items2.size)) rest r ∧ R (.ok (.ret (.bool r))) ⟨hp, g, d, tk, os⟩) _
    case turn =>
      rintro ⟨y, x⟩ rest b s' ⟨hb', rfl, r, hr, hR⟩
      cases hr with
      | eq he t =>
        refine wpAny_bind (he _ _ prog w _ _ ?_)
        wp_walk
        exact ⟨rfl, rfl, r, t, hR⟩
      | ne he c =>
        refine wpAny_bind (he _ _ prog w _ _ ?_)
        have hri := c A.in1 ⟨hp, g, d, tk, os⟩ prog w
        wp_walk using hri
        exact ⟨_, rfl, by simpa using hR⟩
    case fin =>
      rintro ⟨b1, b2⟩ s' ⟨hb', rfl, r, hr, hR⟩
      simp only at hb'
      subst hb'
      cases hr
      wp_walk
      exact ⟨_, rfl, by simpa [Builtin.Tuple.tupleCompareSizes] using hR⟩
    case h =>
      exact ⟨rfl, rfl, v, hx, h⟩
end
/-- (n, x) < (m, y) -/
noncomputable def prLt (n m : Int) (x y : Str) : Bool := if n = m then decide (x.cps.toList < y.cps.toList) else decide (n < m)
theorem lx_pair (n m : Int) (x y : Str) (t1 t2 u1 u2 : Tok) : Lx false [(.int n t1, .int m u1), (.str x t2, .str y u2)] (prLt n m x y) := by
  unfold prLt
  by_cases e : n = m
  · rw [if_pos e]
    refine .eq (fun A s => ?_) ?_
    · have := SeqAt.EqAt.int_int (A := A) (s := s) n t1 m u1
      rwa [show (n == m) = true by simpa using e] at this
    · by_cases e2 : x = y
      · subst e2
        rw [decide_eq_false (List.lt_irrefl _)]
        refine .eq (fun A s => ?_) .nil
        have := SeqAt.EqAt.str_str (A := A) (s := s) x t2 x u2
        simpa using this
      · refine .ne (fun A s => ?_) fun A s prog w E Q h => lt_str h
        have := SeqAt.EqAt.str_str (A := A) (s := s) x t2 y u2
        rwa [show (x == y) = false from beq_eq_false_iff_ne.mpr e2] at this
  · rw [if_neg e]
    refine .ne (fun A s => ?_) fun A s prog w E Q h => lt_int h
    have := SeqAt.EqAt.int_int (A := A) (s := s) n t1 m u1
    rwa [show (n == m) = false by simpa using e] at this
section
variable {prog : Program} {w : World} {A : Around} {E : Value → Shared → Prop} {s : Shared}
theorem lt_pair {l b : Addr} {n m : Int} {x y : Str} {t1 t2 u1 u2 : Tok} {Q : Value → Shared → Prop} (hl : IsTup s.heap l #[.int n t1, .str x t2]) (hb : IsTup s.heap b #[.int m u1, .str y u2]) (hu : A.units < cLine) (h : Q (.bool (prLt n m x y)) s) :
    wpAny (model prog w) A (compareOp .Lt (.ref l) (.ref b)) Q E s := by
  obtain ⟨⟨cls, dd, data, sl⟩, ho, hc, k, hd⟩ := id hl
  obtain ⟨⟨cls2, dd2, data2, sl2⟩, ho2, hc2, k2, hd2⟩ := id hb
  simp only at hc hd hc2 hd2
  subst hc hd hc2 hd2
  exact richCompare_meets_room (op := .Lt) ⟨_, ho, rfl⟩ ⟨_, ho2, rfl⟩ PySem.F.slot_tuple_lt PySem.F.entry_tuple_lt (PySem.F.args_tuple_lt_2 _ _) (tuple_lx l b #[.int n t1, .str x t2] #[.int m u1, .str y u2] k k2 dd dd2 sl sl2 (prLt n m x y) (lx_pair n m x y t1 t2 u1 u2))
    ⟨ho, ho2, show Value.bool (prLt n m x y) ≠ Value.notImplemented ∧ Q (.bool (prLt n m x y)) s from ⟨(fun x => nomatch x), h⟩⟩ hu
end
section
variable {X : Cx}
/-- < of pairs (a number, a text) -/
theorem op_ltP (hu : X.A.units < cLine) : OpR X (compareOp .Lt) (fun x y H Q => ∃ (a b : Addr) (n m : Int) (t u : Str), x = .ref a ∧ y = .ref b ∧ SqT X.K H a [.int n, .str t] ∧ SqT X.K H b [.int m, .str u] ∧ Q (.bl (prLt n m t u)) H) := by
  intro pins s σ H x y v u Q I rx ry h
  obtain ⟨a, b, n, m, t, u', rfl, rfl, ha, hb, q⟩ := h
  cases rx; cases ry
  obtain ⟨its, r1, p1, _⟩ := I.tuple ha
  obtain ⟨its2, r2, p2, _⟩ := I.tuple hb
  obtain ⟨v1, v2, rfl, ⟨t1, rfl⟩, ⟨t2, rfl⟩⟩ := vals2 r1
  obtain ⟨w1, w2, rfl, ⟨u1, rfl⟩, ⟨u2, rfl⟩⟩ := vals2 r2
  exact lt_pair p1 p2 hu ⟨.bl _, H, I, rfl, q⟩
end
theorem prLt_lf (x y : Str) : prLt x.length y.length x y = decide (lfLt x y) := by
  unfold prLt lfLt
  by_cases e : (x.length : Int) = y.length
  · rw [if_pos e]
    refine decide_eq_decide.mpr ⟨fun h => .inr ⟨by (first | lia | omega), h⟩, fun h => ?_⟩
    rcases h with h | h
    · (first | lia | omega)
    · exact h.2
  · rw [if_neg e]
    refine decide_eq_decide.mpr ⟨fun h => .inl (by (first | lia | omega)), fun h => ?_⟩
    rcases h with h | h
    · (first | lia | omega)
    · exact absurd h.1 (by (first | lia | omega))
end L2

set_option Elab.async false
set_option linter.all false
set_option maxRecDepth 100000
set_option maxHeartbeats 4000000
/-! min(xs, key = f): xs a list of objects, f telling the pair of a text's length and the text -/
namespace L2
open PySem PySem.Spec PyProof.Rows PySem.W
/-- how f is called within a built-in's own work, one call deep -/
noncomputable def KeyR1 (X : Cx) (f : Value) (r : V → Hp → VK → Prop) : Prop :=
  ∀ ⦃pins : List (Addr × Obj)⦄ (s : Shared) (σ : St) (H : Hp) (x : V) (u : Value) (Q : VK), Inv X pins σ H s → RelV x u → r x H Q →
    wpAny (model X.prog X.w) X.A.in1 (call f [u]) (CE X.stack X.prog X.w H s Q) (fun _ _ => False) s
theorem key_fn1 {X : Cx} {k : Nat} {f : Addr} {fd : FuncData} {ps : List Str} {sp : Sp} (F : FnOk X.prog X.w X.K X.mg X.base CX0 k f fd ps sp) (hr : Room (k + 1) X.A) (hb : Binds X.K fd ps []) : KeyR1 X (.ref f) fun x H Q => sp [x] H Q E0 := by
  intro pins s σ H x u Q I rx h
  have rv : Vals [x] [u] := .cons rx .nil
  have b := hb s [u] I.kIn (F.len _ _ _ _ h)
  rw [List.append_nil] at b
  refine wpAny_call (codeAny_mono (F.run X.A.in1 X.stack s H ⟨[u], []⟩ [u] [x] Q E0 hr.in1 I.env0.in1 b rv h) fun r s' hq => ?_)
  cases r with
  | error e => exact hq.elim
  | ok fl => cases fl with
    | ret u => exact hq
    | next => exact False.elim hq
    | brk => exact False.elim hq
    | cont => exact False.elim hq
/-- the least of the first n by the key's text, the first such -/
noncomputable def Fst (kt : Nat → Str) (n i : Nat) : Prop := i < n ∧ (∀ j, j < n → ¬ lfLt (kt j) (kt i)) ∧ ∀ j, j < i → lfLt (kt i) (kt j)
theorem Fst.keep {kt : Nat → Str} {n i : Nat} (h : Fst kt n i) (q : ¬ lfLt (kt n) (kt i)) : Fst kt (n + 1) i :=
  ⟨Nat.lt_succ_of_lt h.1, fun j hj => (Nat.lt_succ_iff_lt_or_eq.mp hj).elim (h.2.1 j) fun e => e ▸ q, h.2.2⟩
theorem lf_ntrans {a b c : Str} (h1 : lfLt a b) (h2 : ¬ lfLt c b) : lfLt a c := by
  by_cases e : c = b
  · rw [e]; exact h1
  · exact lfLt_trans h1 ((lfLt_or e).resolve_left h2)
theorem Fst.take {kt : Nat → Str} {n i : Nat} (h : Fst kt n i) (q : lfLt (kt n) (kt i)) : Fst kt (n + 1) n :=
  ⟨Nat.lt_succ_self _, fun j hj => (Nat.lt_succ_iff_lt_or_eq.mp hj).elim (fun hj z => h.2.1 j hj (lfLt_trans z q)) fun e => e ▸ lfLt_irrefl _, fun j hj => lf_ntrans q (h.2.1 j hj)⟩
section
variable {X : Cx} {H : Hp} {s0 : Shared} {pins : List (Addr × Obj)} {σ : St} {I S p : Addr} {as : List Addr} {kt : Nat → Str} {f : Addr} {r : V → Hp → VK → Prop}
/-- ahead of turn j (1 and more): the best of the first j is b -/
structure Mj (X : Cx) (H : Hp) (s0 : Shared) (I S p : Addr) (as : List Addr) (kt : Nat → Str) (j b : Nat) (Hj : Hp) (sj : Shared) : Prop where
  run : Run X H s0 Hj sj
  same : Same H Hj
  iN : Hj I = none
  sN : Hj S = none
  i0 : s0.heap.get? I = none
  s0' : s0.heap.get? S = none
  ne : S ≠ I
  it : sj.heap.IsListIter I p j
  st : ∃ a kb c, as[b]? = some a ∧ sj.heap.get? S = some { cls := .type "list", data := .seq #[.ref a, kb] c } ∧ KeyAt Hj (kt b) kb
  fst : Fst kt j b
theorem min_turns (I0 : Inv X pins σ H s0) (hc : X.calm = true) (hu : X.A.units + 64 < cLine) (F : KeyR1 X (.ref f) r) (hq : SqL X.K H p (as.map V.ref)) (hpI : p ≠ I) {R : Result → Shared → Prop}
    (hr : ∀ i a, as[i]? = some a → ∀ Hj, Same H Hj → r (.ref a) Hj fun v H' => ∃ q, v = .ref q ∧ New Hj q (.tup [.int (kt i).length, .str (kt i)]) H')
    (fin : ∀ b a Hn sn, as[b]? = some a → Fst kt as.length b → Run X H s0 Hn sn → Same H Hn → R (.ok (.ret (.ref a))) sn) :
    ∀ (m j b : Nat) (Hj : Hp) (sj : Shared), j + m = as.length → Mj X H s0 I S p as kt j b Hj sj → codeAny (model X.prog X.w) X.A (.builtin "min.loop" ⟨[.ref I, .ref f, .ref S], []⟩) R sj := by
  have hname : (toString "min" ++ toString ".loop" : String) = "min.loop" := by decide
  intro m
  induction m with
  | zero =>
    intro j b Hj sj hj M
    obtain ⟨a, kb, c, ea, eS, _⟩ := M.st
    obtain ⟨its, rv, pl, _⟩ := (M.run.inv I0).list (M.same.seq hq)
    have e := vals_refs rv
    subst e
    have W := Walks.list (prog := X.prog) (w := X.w) (A := X.A.in1) (I0.ok.hd hc) I p hpI (as.map Value.ref).toArray
    have hsz : (as.map Value.ref).toArray.size = as.length := by simp
    have hj : j = as.length := by (first | lia | omega)
    subst hj
    refine codeAny_builtin PySem.F.entry_min_loop ?_
    rw [Around.under_plainId PySem.F.plain_min_loop _]
    refine wpAny_bind (wpAny_seqItems eS rfl ?_)
    change wpAny _ X.A.in1 (Bind.bind (tryCatch (pyNext (.ref I)) _) _) _ _ _
    refine wpAny_bind (wpAny_tryCatch (W.done sj _ _ ⟨by rw [hsz]; exact M.it, pl.isList⟩ fun h' tk k' => ?_))
    have eS' := k' S _ (by simpa using M.ne) eS
    have r1 : Run X H s0 Hj { sj with heap := h', toks := tk } := by
      have := M.run.alter (h' := h') M.i0 M.iN fun c u hc q => k' c u (by simpa using hc) q
      exact ⟨this.un, this.hok, this.os, this.bare⟩
    change wpAny _ X.A.in1 (Bind.bind (updateSeq S (fun _ => #[])) _) _ _ _
    refine wpAny_bind (wpAny_updateSeq eS' rfl (wpAny_bind (wpAny_letGo (wpAny_pure ?_))))
    exact fin b a Hj _ ea M.fst (r1.alter M.s0' M.sN fun c u hc q => by rw [Heap.get?_update_ne _ _ _ _ hc]; exact q) M.same
  | succ m ih =>
    intro j b Hj sj hj M
    obtain ⟨a, kb, c, ea, eS, kB⟩ := M.st
    obtain ⟨its, rv, pl, _⟩ := (M.run.inv I0).list (M.same.seq hq)
    have e := vals_refs rv
    subst e
    have W := Walks.list (prog := X.prog) (w := X.w) (A := X.A.in1) (I0.ok.hd hc) I p hpI (as.map Value.ref).toArray
    have hsz : (as.map Value.ref).toArray.size = as.length := by simp
    have hlt : j < as.length := by (first | lia | omega)
    refine codeAny_builtin PySem.F.entry_min_loop ?_
    rw [Around.under_plainId PySem.F.plain_min_loop _]
    refine wpAny_bind (wpAny_seqItems eS rfl ?_)
    change wpAny _ X.A.in1 (Bind.bind (tryCatch (pyNext (.ref I)) _) _) _ _ _
    refine wpAny_bind (wpAny_tryCatch (W.item j sj _ _ (by rw [hsz]; exact hlt) ⟨M.it, pl.isList⟩ fun v h' tk hv st' k' => ?_))
    have ej : as[j]? = some as[j] := List.getElem?_eq_getElem hlt
    have hv : v = .ref as[j] := by simpa [hlt, eq_comm] using hv
    subst hv
    have eS' := k' S _ (by simpa using M.ne) eS
    have r1 : Run X H s0 Hj { sj with heap := h', toks := tk } := by
      have := M.run.alter (h' := h') M.i0 M.iN fun c u hc q => k' c u (by simpa using hc) q
      exact ⟨this.un, this.hok, this.os, this.bare⟩
    change wpAny _ X.A.in1 (Bind.bind (tryCatch (holding [.ref as[j]] (call (.ref f) [.ref as[j]])) _) _) _ _ _
    refine wpAny_bind (wpAny_tryCatch (wpAny_holding (wpAny_mono (F _ σ Hj (.ref as[j]) _ _ (r1.inv I0) rfl (hr j _ ej Hj M.same)) (fun kv s2 hk => ?_) fun _ _ z => z.elim)))
    obtain ⟨v', H2, r2, rv2, ⟨q2, rfl, n2⟩, un⟩ := r1.called hk
    cases rv2
    obtain ⟨oI, eI, cI, dI⟩ := id st'.1
    have eI2 := un.keep I _ eI M.iN (notFr I0 M.i0) (by simp)
    have eS2 := un.keep S _ eS' M.sN (notFr I0 M.s0') (by simp)
    have fI := un.free I _ eI M.iN (by simp)
    have fS := un.free S _ eS' M.sN (by simp)
    have it2 : s2.heap.IsListIter I p (j + 1) := ⟨oI, eI2, cI, dI⟩
    have kB2 := kB.new n2
    have kN : KeyAt H2 (kt j) (.ref q2) := ⟨q2, rfl, n2.at⟩
    have sm2 : Same H H2 := fun x o z => n2.same _ _ (M.same x o z)
    obtain ⟨x1, o1, m1, t1, t2, ex1, g1, c1, d1⟩ := kN.obj r2.hok
    obtain ⟨x2, o2, m2, u1, u2, rfl, g2, c2, d2⟩ := kB2.obj r2.hok
    cases ex1
    have hu1 : X.A.in1.units < cLine := by
      have : X.A.in1.units = X.A.units + 1 := rfl
      (first | lia | omega)
    change wpAny _ X.A.in1 (Bind.bind (tryCatch (holding [.ref as[j], .ref q2] (Bind.bind (richCompare .Lt (.ref q2) (.ref x2)) _)) _) _) _ _ _
    refine wpAny_bind (wpAny_tryCatch (wpAny_holding (wpAny_bind (lt_pair (n := (kt j).length) (m := (kt b).length) (x := kt j) (y := kt b) ⟨o1, g1, c1, m1, d1⟩ ⟨o2, g2, c2, m2, d2⟩ hu1 ?_))))
    rw [prLt_lf]
    refine wpAny_bind (wpAny_holding (wpAny_truthy_bool (wpAny_bind (wpAny_letGo (wpAny_pure ?_)))))
    by_cases hb : lfLt (kt j) (kt b)
    · rw [decide_eq_true hb]
      simp only [if_true]
      refine wpAny_bind (wpAny_updateSeq eS2 rfl (wpAny_bind (wpAny_letGo ?_)))
      rw [hname]
      have r3 := r2.alter (h' := s2.heap.update S (Obj.mapSeq fun _ => #[.ref as[j], .ref q2])) M.s0' fS fun c u hc q => by rw [Heap.get?_update_ne _ _ _ _ hc]; exact q
      refine wpAny_pure ⟨plainId_quiet PySem.F.plain_min_loop _, ih (j + 1) j H2 _ (by (first | lia | omega)) ⟨r3, sm2, fI, fS, M.i0, M.s0', M.ne, ⟨oI, by show (s2.heap.update _ _).get? I = _; rw [Heap.get?_update_ne _ _ _ _ M.ne.symm]; exact eI2, cI, dI⟩, ⟨_, _, _, ej, Heap.get?_update_self _ eS2 rfl, kN⟩, M.fst.take hb⟩⟩
    · rw [decide_eq_false hb]
      simp only [Bool.false_eq_true, if_false]
      refine wpAny_bind (wpAny_letGo ?_)
      rw [hname]
      exact wpAny_pure ⟨plainId_quiet PySem.F.plain_min_loop _, ih (j + 1) b H2 _ (by (first | lia | omega)) ⟨r2, sm2, fI, fS, M.i0, M.s0', M.ne, it2, ⟨_, _, _, ea, eS2, kB2⟩, M.fst.keep hb⟩⟩
end
section
variable {X : Cx} (K : PySem.W.Frag)
theorem minKT {f : Addr} {r : V → Hp → VK → Prop} (F : KeyR1 X (.ref f) r) (hc : X.calm = true) (hu : X.A.units + 64 < cLine) (hK : X.K = K := by rfl) : CallKR X "min" [Str.ofString "key"] (fun xs zs H Q => Ex3 fun (p : Addr) (as : List Addr) (kt : Nat → Str) => xs = [.ref p] ∧ zs = [.ref f] ∧ SqL K H p (as.map V.ref) ∧ as ≠ [] ∧
    (∀ i a, as[i]? = some a → ∀ Hj, Same H Hj → r (.ref a) Hj fun v H' => ∃ q, v = .ref q ∧ New Hj q (.tup [.int (kt i).length, .str (kt i)]) H') ∧
    ∀ (i : Nat) (a : Addr) (H' : Hp), as[i]? = some a → Fst kt as.length i → Same H H' → Q (.ref a) H') := by
  subst hK
  intro pins s σ H xs us zs ws Q I0 r1 r2 h
  obtain ⟨p, as, kt, rfl, rfl, hq, hne, hr, q⟩ := h
  obtain ⟨u, rfl, ru⟩ := vals1 r1
  obtain ⟨z, rfl, rz⟩ := vals1 r2
  cases ru; cases rz
  have hname : (toString "min" ++ toString ".loop" : String) = "min.loop" := by decide
  have hn0 : 0 < as.length := List.length_pos_iff.mpr hne
  obtain ⟨its, rv, pl, _⟩ := I0.list hq
  have e := vals_refs rv
  subst e
  have hp : p < s.heap.objs.size := by obtain ⟨o, e, _⟩ := pl.isList; exact Heap.lt_size e
  have hpI : p ≠ s.heap.objs.size := Nat.ne_of_lt hp
  have W := Walks.list (prog := X.prog) (w := X.w) (A := X.A.in1) (I0.ok.hd hc) s.heap.objs.size p hpI (as.map Value.ref).toArray
  have hsz : (as.map Value.ref).toArray.size = as.length := by simp
  show wpAny _ _ (call (.builtin "min") [.ref p] [(Str.ofString "key", .ref f)]) _ _ _
  refine kmk_tree PySem.F.kind_min PySem.F.plain_min PySem.F.entry_min (kmk_min_key _ _) ?_
  change wpAny _ X.A.in1 (Bind.bind (Builtin.Builtins.bindParams "min" ["key", "default"] 0 ⟨[], [(Str.ofString "key", .ref f)]⟩) _) _ _ s
  refine wpAny_bind (wpAny_of_eq (show Builtin.Builtins.bindParams "min" ["key", "default"] 0 ⟨[], [(Str.ofString "key", .ref f)]⟩ = pure [some (.ref f), none] from rfl) (wpAny_bind (wpAny_pure ?_)))
  refine wpAny_bind (wpAny_pyIter_list pl.isList ?_)
  refine wpAny_bind (wpAny_newObj_type ?_)
  rw [hname]
  refine wpAny_pure ⟨plainId_quiet PySem.F.plain_min_loop _, ?_⟩
  have k0 : ∀ b o, s.heap.get? b = some o → ((s.heap.push { cls := .type "list_iterator", data := .fields #[.ref p, .int 0 0] }).push { cls := .type "list", data := .seq #[] }).get? b = some o := fun b o e => Heap.get?_push_of_some _ (Heap.get?_push_of_some _ e)
  have sz1 : (s.heap.push { cls := .type "list_iterator", data := .fields #[.ref p, .int 0 0] }).objs.size = s.heap.objs.size + 1 := size_push' _ _
  have eI0 : ((s.heap.push { cls := .type "list_iterator", data := .fields #[.ref p, .int 0 0] }).push { cls := .type "list", data := .seq #[] }).get? s.heap.objs.size = some { cls := .type "list_iterator", data := .fields #[.ref p, .int 0 0] } := Heap.get?_push_of_some _ (Heap.get?_push_size _ rfl)
  have eS0 : ((s.heap.push { cls := .type "list_iterator", data := .fields #[.ref p, .int 0 0] }).push { cls := .type "list", data := .seq #[] }).get? (s.heap.objs.size + 1) = some { cls := .type "list", data := .seq #[] } := by rw [← sz1]; exact Heap.get?_push_size _ rfl
  have i0 : s.heap.get? s.heap.objs.size = none := Heap.get?_none_of_le (Nat.le_refl _)
  have s00 : s.heap.get? (s.heap.objs.size + 1) = none := Heap.get?_none_of_le (Nat.le_succ _)
  have iN := I0.hok.fresh (Nat.le_refl s.heap.objs.size)
  have sN := I0.hok.fresh (Nat.le_succ s.heap.objs.size)
  have ne : s.heap.objs.size + 1 ≠ s.heap.objs.size := Nat.succ_ne_self _
  show codeAny _ X.A (.builtin "min.loop" ⟨[.ref s.heap.objs.size, .ref f, .ref (s.heap.push { cls := .type "list_iterator", data := .fields #[.ref p, .int 0 0] }).objs.size], []⟩) _ { s with heap := (s.heap.push { cls := .type "list_iterator", data := .fields #[.ref p, .int 0 0] }).push { cls := .type "list", data := .seq #[] } }
  rw [sz1]
  have r0 := (Run.start I0).kept (h' := (s.heap.push { cls := .type "list_iterator", data := .fields #[.ref p, .int 0 0] }).push { cls := .type "list", data := .seq #[] }) k0
  have plS : Heap.IsList ((s.heap.push { cls := .type "list_iterator", data := .fields #[.ref p, .int 0 0] }).push { cls := .type "list", data := .seq #[] }) p (as.map Value.ref).toArray := (pl.isList.push _).push _
  generalize (s.heap.push { cls := .type "list_iterator", data := .fields #[.ref p, .int 0 0] }).push { cls := .type "list", data := .seq #[] } = h1 at k0 eI0 eS0 r0 plS ⊢
  refine codeAny_builtin PySem.F.entry_min_loop ?_
  rw [Around.under_plainId PySem.F.plain_min_loop _]
  refine wpAny_bind (wpAny_seqItems eS0 rfl ?_)
  change wpAny _ X.A.in1 (Bind.bind (tryCatch (pyNext (.ref s.heap.objs.size)) _) _) _ _ _
  refine wpAny_bind (wpAny_tryCatch (W.item 0 _ _ _ (by rw [hsz]; exact hn0) ⟨⟨_, eI0, rfl, rfl⟩, plS⟩ fun v h' tk hv st' k' => ?_))
  have e0 : as[0]? = some as[0] := List.getElem?_eq_getElem hn0
  have hv : v = .ref as[0] := by simpa [hn0, eq_comm] using hv
  subst hv
  have eS' := k' (s.heap.objs.size + 1) _ (by simp) eS0
  have r1' : Run X H s H { s with heap := h', toks := tk } := by
    have := r0.alter (h' := h') i0 iN fun c u hc q => k' c u (by simpa using hc) q
    exact ⟨this.un, this.hok, this.os, this.bare⟩
  change wpAny _ X.A.in1 (Bind.bind (tryCatch (holding [.ref as[0]] (call (.ref f) [.ref as[0]])) _) _) _ _ _
  refine wpAny_bind (wpAny_tryCatch (wpAny_holding (wpAny_mono (F _ σ H (.ref as[0]) _ _ (r1'.inv I0) rfl (hr 0 _ e0 H (Same.refl _))) (fun kv s2 hk => ?_) fun _ _ z => z.elim)))
  obtain ⟨v', H2, r2', rv2, ⟨q2, rfl, n2⟩, un⟩ := r1'.called hk
  cases rv2
  obtain ⟨oI, eI, cI, dI⟩ := id st'.1
  have eI2 := un.keep _ _ eI iN (notFr I0 i0) (by simp)
  have eS2 := un.keep _ _ eS' sN (notFr I0 s00) (by simp)
  have fI := un.free _ _ eI iN (by simp)
  have fS := un.free _ _ eS' sN (by simp)
  change wpAny _ X.A.in1 (Bind.bind (updateSeq (s.heap.objs.size + 1) (fun _ => #[.ref as[0], .ref q2])) _) _ _ _
  refine wpAny_bind (wpAny_updateSeq eS2 rfl ?_)
  rw [hname]
  have r3 := r2'.alter (h' := s2.heap.update (s.heap.objs.size + 1) (Obj.mapSeq fun _ => #[.ref as[0], .ref q2])) s00 fS fun c u hc q => by rw [Heap.get?_update_ne _ _ _ _ hc]; exact q
  refine wpAny_pure ⟨plainId_quiet PySem.F.plain_min_loop _, min_turns (kt := kt) I0 hc hu F hq hpI hr (fun b a Hn sn ea fs run same => ?_) (as.length - 1) 1 0 H2 _ (by (first | lia | omega)) ⟨r3, n2.same, fI, fS, i0, s00, ne, ⟨oI, by show (s2.heap.update _ _).get? _ = _; rw [Heap.get?_update_ne _ _ _ _ ne.symm]; exact eI2, cI, dI⟩, ⟨_, _, _, e0, Heap.get?_update_self _ eS2 rfl, ⟨q2, rfl, n2.at⟩⟩, ⟨Nat.one_pos, fun j hj => by rw [show j = 0 by (first | lia | omega)]; exact lfLt_irrefl _, fun j hj => absurd hj (Nat.not_lt_zero _)⟩⟩⟩
  exact ⟨.ref a, Hn, run.inv I0, rfl, q b a Hn ea fs same⟩
end
end L2

set_option Elab.async false
set_option linter.all false
set_option maxRecDepth 100000
set_option maxHeartbeats 4000000
/-! range with a step -/
namespace L2
open PySem PySem.Spec PyProof.Rows
section
variable {X : Cx} {tg : Expr}
end
end L2

set_option Elab.async false
set_option linter.all false
set_option maxRecDepth 100000
set_option maxHeartbeats 4000000
/-! a truth value plus a number -/
namespace L2
open PySem PySem.Spec PyProof.Rows
section
variable {X : Cx}
end
end L2

set_option Elab.async false
set_option linter.all false
set_option maxRecDepth 100000
set_option maxHeartbeats 4000000
/-! reversed(list) in a loop's head; list.index of a number; xs[i] += e -/
namespace L2
open PySem PySem.Spec PyProof.Rows
section
variable {X : Cx} {K : PySem.W.Frag}
end
end L2

set_option Elab.async false
set_option linter.all false
set_option maxRecDepth 100000
set_option maxHeartbeats 4000000
/-! a statement that raises nothing, in a def that may raise; isinstance of None or of a caught exception -/
namespace L2
open PySem PySem.Spec PyProof.Rows PySem.W
section
variable {X : Cx} {pins : List (Addr × Obj)} {σ : St} {H : Hp} {s : Shared}
end
section
variable {X : Cx}
end
end L2

set_option Elab.async false
set_option linter.all false
set_option maxRecDepth 100000
set_option maxHeartbeats 4000000
/-! min of a list of numbers; list.remove of a number -/
namespace L2
open PySem PySem.Spec PyProof.Rows
section
variable {X : Cx}
theorem vals_erase : ∀ {xs : List V} {us : List Value} (j : Nat), Vals xs us → Vals (xs.eraseIdx j) (us.eraseIdx j)
  | _, _, _, .nil => by simp; exact .nil
  | _, _, 0, .cons _ t => by simpa using t
  | _, _, j + 1, .cons h t => by simpa using .cons h (vals_erase j t)
end
end L2

set_option Elab.async false
set_option linter.all false
set_option maxRecDepth 100000
set_option maxHeartbeats 4000000
/-! a text turned about: x[::-1] -/
namespace L2
open PySem PySem.Spec PyProof.Rows
noncomputable def tRevT (te : TE) : TE := fun σ H Q => te σ H fun x H1 => ∃ z : Str, x = .str z ∧ z.length ≤ sizeLine ∧ ∀ y : Str, y.cps.toList = z.cps.toList.reverse → Q (.str y) H1
theorem rngD (l : List Nat) : (List.range l.length).map (fun k => l.getD k 0) = l := by
  refine List.ext_getElem? fun i => ?_
  rw [List.getElem?_map]
  by_cases h : i < l.length
  · rw [List.getElem?_range h, List.getElem?_eq_getElem h]
    simp [List.getD, h]
  · rw [List.getElem?_eq_none (by rw [List.length_range]; (first | lia | omega)), List.getElem?_eq_none (by (first | lia | omega))]
    rfl
theorem sp_rev (x : Str) (t : Tok) : slicePicked x none none (some (-1, t)) = (List.range x.length).map fun k => x.length - 1 - k := by
  have e := PyProof.Rows.picked_rev x.length
  rw [← e]
  rfl
theorem pick_txt (x : Str) (t : Tok) : (slicePicked x none none (some (-1, t))).filterMap (x.cps[·]?) = x.cps.toList.reverse := by
  rw [sp_rev, List.filterMap_map]
  have hl : x.length = x.cps.toList.length := by simp [Str.length]
  have hm : ∀ k ∈ List.range x.length, ((fun i => x.cps[i]?) ∘ fun k => x.length - 1 - k) k = some (x.cps.toList.reverse.getD k 0) := fun k hk => by
    have hk := List.mem_range.mp hk
    simp only [Function.comp]
    rw [List.getD_eq_getElem?_getD, List.getElem?_reverse (by (first | lia | omega)), ← hl]
    rw [← Array.getElem?_toList, List.getElem?_eq_getElem (by (first | lia | omega))]
    rfl
  rw [fm_map hm]
  have hr : x.length = x.cps.toList.reverse.length := by rw [List.length_reverse]; exact hl
  rw [hr]
  exact rngD _
section
variable {X : Cx} {e : Expr} {te : TE} {j p2 p3 p4 pos}
theorem pe_revT (he : PE X e te) : PE X (.Subscript e (.Slice none none (some (.UnaryOp .USub (.Constant (.int 1) j p4) p3)) p2) pos) (tRevT te) := by
  intro pins s σ H Q I h
  refine Subscript_ (thn (he s σ H _ I h) fun v s1 ⟨x, H1, I1, r1, q1⟩ => ?_)
  obtain ⟨z, rfl, hz, q⟩ := q1
  obtain ⟨t, rfl⟩ := r1
  refine wpAny_Slice ?_
  rw [evalPart_none]
  refine wpAny_pure ?_
  refine wpAny_pure ?_
  have hs : PE X (.UnaryOp .USub (.Constant (.int 1) j p4) p3) (tUn (rU fun i => .int (-i)) (tC (.int 1))) := pe_un un_neg pe_int
  have hp := po_some hs s1 σ H1 (fun o H2 => o = some (-1) ∧ H2 = H1) I1 ⟨1, rfl, -1, rfl, rfl, rfl⟩
  refine thn hp fun vs s3 ⟨o, H3, I3, ps, eo, eh⟩ => ?_
  subst eo eh
  have I4 : Inv X pins σ H3 { s3 with heap := s3.heap.push { cls := .type "slice", data := .fields #[.none, .none, vs] } } := I3.kept (t' := s3.toks) fun b ob q => Heap.get?_push_of_some _ q
  cases ps with
  | int i t' =>
    refine tail_any (ops := [.str z t, .ref s3.heap.objs.size]) (typeIs_str _ _ _) F.slot_str_getitem.lookup ?_ (by with_unfolding_all rfl)
    refine wpAny_getItem_str_slice (l := none) (u := none) (st := some (-1, t')) ⟨_, Heap.get?_push_size _ rfl, rfl, rfl⟩ rfl ?_
    unfold sliceMade
    rw [if_neg (by simp)]
    have ey := pick_txt z t'
    refine ⟨?_, ?_⟩
    · show (Str.mk _).length ≤ sizeLine
      rw [ey]
      simp only [Str.length, List.size_toArray, List.length_reverse]
      exact Nat.le_trans (Nat.le_of_eq (by simp [Str.length])) hz
    · exact ⟨.str _, H3, I4.tok _, ⟨_, rfl⟩, q _ (by rw [ey])⟩
end
end L2

set_option Elab.async false
set_option linter.all false
set_option maxRecDepth 100000
set_option maxHeartbeats 4000000
/-! data written out in the text; a dict of the module; x in a sequence of data; upper -/
namespace L2
open PySem PySem.Spec PyProof.Rows
section
variable {X : Cx} {K : PySem.W.Frag}
end
/-! a dict of the module, its keys texts -/
section
variable {X : Cx} {o i : Expr} {td ty : TE} {pos : Pos}
end
/-! x in a sequence of data -/
section
variable {X : Cx} {pins : List (Addr × Obj)} {σ : St} {H : Hp} {s : Shared}
open Classical in
end
section
variable {X : Cx}
end
section
variable {X : Cx}
end
end L2

set_option Elab.async false
set_option linter.all false
set_option maxRecDepth 100000
set_option maxHeartbeats 4000000
/-! exceptions of own classes that are made by an own __init__, their fields -/
namespace L2
open PySem PySem.Spec PyProof.Rows PySem.W PySem.Calls Builtin Builtin.ObjectAttr
section
variable {prog : Program} {w : World} {A : Around} {K : Frag} {C e : Addr} {s : Shared} {E : Value → Shared → Prop} {f : Str} {v : Value}
end
section
variable {prog : Program} {w : World} {A : Around} {E : Value → Shared → Prop} {h0 : Heap} {g0 : Array GenState} {d0 : Drawn} {t0 : Nat} {os0 : OsState} {nm qn : Str} {C N fi : Addr} {bs up tail : List Value} {hdct : Bool} {sn : List Str} {sub : List Value} {ab : Bool}
  {col : Option Bool} {dd : Option Addr} {k0 k1 k2 k3 k5 : Option Value} {B newId initId : String}
end
/-! the rules -/
section
variable {X : Cx} {pins : List (Addr × Obj)} {σ : St} {H : Hp} {s : Shared} {e C : Addr}
end
section
variable {K : Frag} {C D N : Addr} {nm qn : Str} {bs up : List Value} {hdct : Bool} {sn : List Str} {sub : List Value} {ab : Bool} {col : Option Bool} {dd : Option Addr} {k0 k1 k2 k3 k5 : Option Value}
end
/-! a, b, .. = a list -/
section
variable {prog : Program} {w : World} {A : Around} {E : Value → Shared → Prop}
end
end L2

set_option Elab.async false
set_option linter.all false
set_option maxRecDepth 100000
set_option maxHeartbeats 4000000
/-! text.index(text), found -/
namespace L2
open PySem PySem.Spec PyProof.Rows PySem.Builtin PySem.Builtin.Str
end L2

set_option Elab.async false
set_option linter.all false
set_option maxRecDepth 100000
set_option maxHeartbeats 4000000
/-! a walk over the keys of a module's dict; int.bit_length -/
namespace L2
open PySem PySem.Spec PyProof.Rows
end L2

set_option Elab.async false
set_option linter.all false
set_option maxRecDepth 100000
set_option maxHeartbeats 4000000
/-! a walk over the keys of a dict that stands in the heap's letters: it is frozen meanwhile -/
namespace L2
open PySem PySem.Spec PyProof.Rows
section
variable {X : Cx} {pins : List (Addr × Obj)} {σ : St} {H : Hp} {s : Shared} {a : Addr} {u v : HO}
/-- another letter for the same object -/
theorem Inv.relet (I : Inv X pins σ H s) (hu : H a = some u) (nt : ∀ xs, u ≠ .tup xs) (nf : ∀ o w, X.H₀ a ≠ some (.frz o w)) (nb : ∀ ps, u ≠ .tbl ps) (no : ∀ y, u ≠ .own y) (hv : ∀ H', (∀ b, H b = some (.own a) → H' b = some (.own a)) → (∀ b xs, H b = some (.tup xs) → H' b = some (.tup xs)) → ObjOk X.prog X.w H' s.heap a v) :
    Inv X pins σ (upd H a v) s := by
  have hne : ∀ {b : Addr}, H b = none → b ≠ a := fun e z => by rw [z, hu] at e; cases e
  have own : ∀ b y, H b = some (.own y) → upd H a v b = some (.own y) := fun b y e => by
    rw [upd_ne (fun z => by rw [z, hu] at e; exact no y (Option.some.inj e))]; exact e
  have tup : ∀ b xs, H b = some (.tup xs) → upd H a v b = some (.tup xs) := fun b xs e => by
    rw [upd_ne (fun z => by rw [z, hu] at e; exact nt xs (Option.some.inj e))]; exact e
  refine ⟨I.ok, I.os, I.bare, ⟨I.base.keep, I.base.slot, fun b o q n hx => ?_, I.base.there, fun b xs q => tup b xs (I.base.tups b xs q), fun b o w q => ?_, fun b ps q => ?_⟩, I.loc, I.cell, ?_, fun x c e => ?_, fun p hp => ?_, fun b o e => ?_, I.len⟩
  · have := I.base.free b o q n hx
    rw [upd_ne (hne this)]; exact this
  · have := I.base.frzs b o w q
    rw [upd_ne (fun z => by rw [z] at q; exact nf _ _ q)]; exact this
  · obtain ⟨more, e⟩ := I.base.tbls b ps q
    exact ⟨more, by rw [upd_ne (fun z => by rw [z, hu] at e; exact nb _ (Option.some.inj e))]; exact e⟩
  · rw [upd_ne (hne I.free)]; exact I.free
  · rw [upd_ne (hne (I.freeC x c e))]; exact I.freeC x c e
  · obtain ⟨p1, p2, p3⟩ := I.pin p hp
    exact ⟨p1, by rw [upd_ne (hne p2)]; exact p2, p3⟩
  · by_cases z : b = a
    · subst z
      rw [upd_same] at e
      cases e
      exact hv _ (fun b e => own b _ e) tup
    · rw [upd_ne z] at e
      exact (I.hok b o e).stay (fun _ _ _ q => q) (fun b e => own b _ e) tup
/-- a dict of the letters, frozen -/
theorem Inv.freeze {kvs : List (Key × V)} (I : Inv X pins σ H s) (h : H a = some (.dK kvs)) : ∃ ob ep vs, s.heap.get? a = some ob ∧ KV kvs vs ∧ (a == sysModules) = false ∧ (∀ h' : Heap, h'.get? a = some ob → h'.DictAt (mixKind X.prog X.w) a vs ep) ∧ Inv X pins σ (upd H a (.frz ob (.dK kvs))) s := by
  obtain ⟨z, ns, vs, kv, o, es, ep, e, r⟩ := I.hok a _ h
  refine ⟨o, ep, vs, e, kv, ns, fun h' e' => ⟨o, es, e', r⟩, I.relet h (fun _ z => nomatch z) (fun o w q => ?_) (fun _ z => nomatch z) (fun _ z => nomatch z) fun H' _ _ => ⟨e, z, ns, vs, kv, o, es, ep, e, r⟩⟩
  have := I.base.frzs a o w q
  rw [h] at this; cases this
theorem Inv.thaw {ob : Obj} {kvs : List (Key × V)} (I : Inv X pins σ H s) (h : H a = some (.frz ob (.dK kvs))) (nf : ∀ o w, X.H₀ a ≠ some (.frz o w)) : Inv X pins σ (upd H a (.dK kvs)) s := by
  obtain ⟨e, z, ns, vs, kv, o, es, ep, e', r⟩ := I.hok a _ h
  exact I.relet h (fun _ z => nomatch z) nf (fun _ z => nomatch z) (fun _ z => nomatch z) fun H' _ _ => ⟨z, ns, vs, kv, o, es, ep, e', r⟩
end
noncomputable def Itd (ob : Obj) (a : Addr) (kvs : List (Key × V)) : It := ⟨fun i H => H a = some (.frz ob (.dK kvs)) ∧ i < kvs.length, fun i H x H' => H' = H ∧ ∃ q, kvs[i]? = some q ∧ x = kV q.1, fun i H => H a = some (.frz ob (.dK kvs)) ∧ kvs.length ≤ i⟩
theorem kv_atK : ∀ {kvs : List (Key × V)} {vs : List (Key × Value)} {i : Nat} {q : Key × V}, KV kvs vs → kvs[i]? = some q → ∃ z, vs[i]? = some (q.1, z)
  | _ :: _, _ :: _, 0, _, .cons h _, e => by cases e; exact ⟨_, by rw [h.1]; rfl⟩
  | _ :: _, _ :: _, i + 1, _, .cons _ t, e => kv_atK (i := i) t e
theorem turn_dkeys {P : Program} {w : World} {K : PySem.W.Frag} {tg : Expr} {a it : Addr} {ob : Obj} {ep : Nat} {kvs : List (Key × V)} {vs : List (Key × Value)} (kv : KV kvs vs) (D : ∀ h' : Heap, h'.get? a = some ob → h'.DictAt (mixKind P w) a vs ep) :
    Turn P w K tg (Itd ob a kvs) [it] it (fun i h => h.IsKeyIter it a i vs.length ep) where
  mem := by simp
  obj := fun i h st b hb => by
    have e : b = it := by simpa using hb
    subst e
    obtain ⟨o, e, c, d⟩ := st
    exact ⟨o, e, fun v z => by rw [d] at z; cases z⟩
  keep := fun i h h' st k => by
    obtain ⟨o, e, c, d⟩ := st
    exact ⟨o, k it (by simp) o e, c, d⟩
  item := by
    intro X hP hw hK hc i pins s σ H E I hf st hg
    subst hP hw hK
    obtain ⟨ha, hi⟩ := hg
    obtain ⟨f0, f1, f2, f3, f4, f5⟩ := hf it (by simp)
    obtain ⟨z, hz⟩ := kv_atK kv (List.getElem?_eq_getElem hi)
    refine wpAny_pyNext_dict_item (knd := mixKind X.prog X.w) st (D _ (I.hok a _ ha).1) hz fun key h' hk st' sb => ?_
    have I1 : Inv X pins σ H { s with heap := h' } := I.turned (t' := s.toks) (fun b o hb e => (sb.2 b hb).trans e) f0 f1 f3 f4 f5
    obtain ⟨o, e, c, d⟩ := id st'
    have rk : RelV (kV kvs[i].1) key := by
      rcases keyIs_shape hk with ⟨n, t, e1, e2⟩ | ⟨x, t, e1, e2⟩
      · rw [e1, e2]; exact ⟨t, rfl⟩
      · rw [e1, e2]; exact ⟨t, rfl⟩
    exact ⟨_, rfl, go_of (s := { s with heap := h' }) e c d (by decide) ⟨_, H, I1, rk, ⟨rfl, _, List.getElem?_eq_getElem hi, rfl⟩, st', fun b hb => (hf b hb).1⟩⟩
  done := by
    intro X hP hw hK hc i pins s σ H E I hf st hg
    subst hP hw hK
    obtain ⟨ha, hi⟩ := hg
    obtain ⟨f0, f1, f2, f3, f4, f5⟩ := hf it (by simp)
    exact wpAny_pyNext_dict_end (knd := mixKind X.prog X.w) (I.ok.hd hc) st (D _ (I.hok a _ ha).1) (List.getElem?_eq_none (by rw [← kv.length]; exact hi)) fun h' eb => ⟨rfl, I.turned (t' := s.toks) (fun b o hb e => eb b o hb e) f0 f1 f3 f4 f5⟩
  self := fun A i s Q E st h => wpAny_pyIter_keyiter st h
/-- the walk over a dict's keys -/
noncomputable def iDKeys (tl : TE) : TI := fun σ H R => tl σ H fun x H1 => Ex2 fun (a : Addr) (kvs : List (Key × V)) => x = .ref a ∧ H1 a = some (.dK kvs) ∧ ∀ ob, R (Itd ob a kvs) (upd H1 a (.frz ob (.dK kvs)))
theorem pi_dkeys {X : Cx} {tg l : Expr} {tl : TE} (hl : PE X l tl) : PI X tg l (iDKeys tl) := by
  intro pins s σ H R I h
  refine thn (hl s σ H _ I h) fun v s1 ⟨x, H1, I1, r1, a, kvs, e, ha, q⟩ => ?_
  subst e
  cases r1
  obtain ⟨ob, ep, vs, eo, kv, ns, D, I2⟩ := I1.freeze ha
  refine wpAny_pyIter_dict (knd := mixKind X.prog X.w) ns (D _ eo) ?_
  have hk : ∀ b o, s1.heap.get? b = some o → (s1.heap.push { cls := .type "dict_keyiterator", data := .fields #[.ref a, .int 0 0, .int vs.length 0, .int ep 0] }).get? b = some o := fun b o e => Heap.get?_push_of_some _ e
  have I3 := I2.kept (t' := s1.toks) hk
  refine ⟨_, _, _, _, _, rfl, I3, turn_dkeys kv D, ⟨_, Heap.get?_push_size _ rfl, rfl, rfl⟩, fun c hc => ?_, q ob⟩
  have hcs : s1.heap.objs.size ≤ c := by
    simp at hc
    rw [hc]; exact Nat.le_refl _
  exact I2.fpOk hcs (I2.hok.fresh hcs)
/-- behind an expression that walks a dict: the dict is thawed -/
noncomputable def tThaw (te : TE) : TE := fun σ H Q => ∃ a, (∃ kvs, H a = some (.dK kvs)) ∧ te σ H fun v H' => ∃ ob kvs, H' a = some (.frz ob (.dK kvs)) ∧ Q v (upd H' a (.dK kvs))
theorem pe_thaw {X : Cx} {e : Expr} {te : TE} (h : PE X e te) : PE X e (tThaw te) := by
  intro pins s σ H Q I hq
  obtain ⟨a, ⟨kvs, ha⟩, q⟩ := hq
  have nf : ∀ o w, X.H₀ a ≠ some (.frz o w) := fun o w z => by
    have := I.base.frzs a o w z
    rw [ha] at this; cases this
  refine thn (h s σ H _ I q) fun u s1 ⟨v, H1, I1, r1, ob, kvs', h1, q1⟩ => ⟨v, _, I1.thaw h1 nf, r1, q1⟩
end L2

set_option Elab.async false
set_option linter.all false
set_option maxRecDepth 100000
set_option maxHeartbeats 4000000
namespace L2
open PySem PySem.Spec PyProof.Rows
section
variable {X : Cx}
/-- where a text stands first in a list of texts -/
theorem indexS : MtM X "list.index" (fun x vs H Q => ∃ (l : Addr) (xs : List Str) (y : Str) (j : Nat), x = .ref l ∧ vs = [.str y] ∧ H l = some (.lst (xs.map V.str)) ∧ xs[j]? = some y ∧ (∀ m, m < j → xs[m]? ≠ some y) ∧ Q (.int (j : Nat)) H) := by
  intro pins s σ H x vs v us Q I rx rv h
  refine Elim.el (h) _ ?_
  rintro l xs y j rfl rfl hH hj hno q
  cases rx
  refine Elim.el (vals1 rv) _ ?_
  rintro u rfl ru
  obtain ⟨t, rfl⟩ := ru
  refine Elim.el (I.lstM hH) _ ?_
  rintro z its n r hl e
  have hlen := r.length
  rw [List.length_map] at hlen
  have jl : j < xs.length := (List.getElem?_eq_some_iff.mp hj).1
  let ev : Value → Bool := fun u => match u with | .str a _ => decide (a = y) | _ => false
  have at' : ∀ m (hm : m < its.length), ∃ t', its[m] = .str (xs[m]'(by (first | lia | omega))) t' := fun m hm => by
    obtain ⟨a, h1, h2⟩ := vals_at r (i := m) (v := its[m]) (by simp [hm])
    rw [List.getElem?_map, List.getElem?_eq_getElem (by (first | lia | omega))] at h1
    cases h1
    exact h2
  have hn := line63
  refine call_meets F.slot_list_index ⟨_, e, rfl⟩ F.entry_list_index (F.args_list_index_2 _ _) (SeqAt.list_indexAt l its.toArray n none #[] (.str y t) ev j (by rw [List.size_toArray]; (first | lia | omega)) (by
    have : xs.length ≤ sizeLine := by rw [List.length_map] at z; exact z
    (first | lia | omega)) ?_ ?_) ⟨e, fun w hw => ?_, ?_⟩
  · obtain ⟨t', e'⟩ := at' j (by (first | lia | omega))
    show ev its[j] = true
    rw [e']
    exact decide_eq_true (List.getElem?_eq_some_iff.mp hj).2
  · intro m hm hmj
    have hm' : m < its.length := by rw [List.size_toArray] at hm; exact hm
    obtain ⟨t', e'⟩ := at' m hm'
    show ev its[m] = false
    rw [e']
    refine decide_eq_false fun z => hno m hmj ?_
    rw [List.getElem?_eq_getElem (by (first | lia | omega)), z]
  · have hw : w ∈ its := by simpa using hw
    refine Elim.el (List.mem_iff_getElem.mp hw) _ ?_
    rintro i hi ew
    obtain ⟨t', e'⟩ := at' i hi
    rw [← ew, e']
    exact SeqAt.EqAt.str_str _ t' y t
  · exact ⟨.int _, H, I.tok _, ⟨_, rfl⟩, q⟩
end
end L2

set_option Elab.async false
set_option linter.all false
set_option maxRecDepth 100000
set_option maxHeartbeats 4000000
namespace L2
open PySem PySem.Spec PyProof.Rows
section
variable {prog : Program} {w : World} {K : Type} [DecidableEq K] {knd : KeyKind prog w K} {A : Around} {E : Value → Shared → Prop} {s : Shared}
end
section
variable {prog : Program} {w : World} {A : Around} {it S : Addr} {fp : Addr → Prop} {n : Nat} {P : Nat → Value → Heap → Prop} {R : Value → Value → Prop} {St : Nat → Heap → Prop}
end
section
variable {prog : Program} {w : World} {K : Type} [DecidableEq K] {knd : KeyKind prog w K}
end
section
variable {X : Cx}
end
end L2

set_option Elab.async false
set_option linter.all false
set_option maxRecDepth 100000
set_option maxHeartbeats 4000000
/-! enumerate of a tuple -/
namespace L2
open PySem PySem.Spec PyProof.Rows
open AutoSeq1 (wpAny_loadPart')
section
variable {prog : Program} {w : World} {A : Around} {E : Value → Shared → Prop} {s : Shared}
end
end L2

set_option Elab.async false
set_option linter.all false
set_option maxRecDepth 100000
set_option maxHeartbeats 4000000
/-! the walk of a set, and sorted of one -/
namespace L2
open PySem PySem.Spec PyProof.Rows
end L2
namespace L2
open PySem PySem.Spec PyProof.Rows
section
variable {prog : Program} {w : World} {A : Around} {E : Value → Shared → Prop} {s : Shared} {a : Addr} {es : Array (Int × Value)} {ep : Nat} {t : SetTable} {o : Obj} {lo : Nat}
end
end L2
namespace L2
open PySem PySem.Spec PyProof.Rows
section
variable {prog : Program} {w : World} {a : Addr} {es : Array (Int × Value)} {ep : Nat} {t : SetTable} {lo : Nat}
end
end L2

set_option Elab.async false
set_option linter.all false
set_option maxRecDepth 100000
set_option maxHeartbeats 4000000
/-! dict(xs) of a list of pairs -/
namespace L2
open PySem PySem.Spec PyProof.Rows
section
variable {prog : Program} {w : World} {A : Around} {E : Value → Shared → Prop} {h : Heap} {g : Array GenState} {d : Drawn} {t : Nat} {os : OsState} {a : Addr} {o : Obj}
end
end L2
namespace L2
open PySem PySem.Spec PyProof.Rows
section
variable {prog : Program} {w : World} {K : Type} [DecidableEq K] {knd : KeyKind prog w K} {A : Around} {E : Value → Shared → Prop}
end
section
variable {X : Cx} {pins : List (Addr × Obj)} {σ : St} {H : Hp} {s : Shared}
end
end L2

set_option Elab.async false
set_option linter.all false
set_option maxRecDepth 100000
set_option maxHeartbeats 4000000
/-! set(list of texts) whose table is known to be good, sorted of it; list.remove of a text -/
namespace L2
open PySem PySem.Spec PyProof.Rows
section
variable {prog : Program} {w : World} {K : Type} [DecidableEq K] {knd : PySem.KeyKind prog w K}
variable {A : Around} {R : Result → Shared → Prop} {I : Addr} {fp wr : List Addr} {G : Array GenState → Array GenState → Prop} {n : Nat} {P : Nat → Value → Prop} {St : Nat → Shared → Prop}
end
section
variable {prog : Program} {w : World} {K : Type} [DecidableEq K] {knd : PySem.KeyKind prog w K} {A : Around} {E : Value → Shared → Prop} {s : Shared}
end
section
variable {X : Cx}
/-- the first of the kind is taken out -/
theorem removeS : MtM X "list.remove" (fun x vs H Q => ∃ (l : Addr) (xs : List Str) (y : Str), x = .ref l ∧ vs = [.str y] ∧ H l = some (.lst (xs.map V.str)) ∧ y ∈ xs ∧ ∀ H', Chg H l (.lst ((xs.erase y).map V.str)) H' → Q .non H') := by
  intro pins s σ H x vs v us Q I rx rv h
  obtain ⟨l, xs, y, rfl, rfl, hH, hy, q⟩ := h
  cases rx
  obtain ⟨u, rfl, ru⟩ := vals1 rv
  obtain ⟨t, rfl⟩ := ru
  obtain ⟨z, its, n, r, hl, e⟩ := I.lstM hH
  have hlen := r.length
  rw [List.length_map] at hlen
  obtain ⟨j, hj⟩ : ∃ j, j = xs.idxOf y := ⟨_, rfl⟩
  have jl : j < xs.length := by rw [hj]; exact List.idxOf_lt_length_iff.mpr hy
  have jy : xs[j] = y := by simp only [hj]; exact List.getElem_idxOf (by rw [← hj]; exact jl)
  have jn : ∀ m (hm : m < xs.length), m < j → xs[m] ≠ y := fun m hm hmj w => by
    have : m < List.findIdx (· == y) xs := by rw [hj] at hmj; exact hmj
    have := List.not_of_lt_findIdx this
    rw [w] at this
    simp at this
  let ev : Value → Bool := fun u => match u with | .str a _ => a == y | _ => false
  have at' : ∀ m (hm : m < its.length), ∃ t', its[m] = .str (xs[m]'(by (first | lia | omega))) t' := fun m hm => by
    obtain ⟨a, h1, h2⟩ := vals_at r (i := m) (v := its[m]) (by simp [hm])
    rw [List.getElem?_map, List.getElem?_eq_getElem (by (first | lia | omega))] at h1
    cases h1
    exact h2
  refine call_meets F.slot_list_remove ⟨_, e, rfl⟩ F.entry_list_remove (F.args_list_remove_2 _ _) (MeetsSeq.list_remove l its.toArray n (.str y t) ev (fun w hw => ?_) j (by rw [List.size_toArray]; (first | lia | omega)) ?_ ?_ (by rw [List.size_toArray]; (first | lia | omega))) ⟨e, ?_⟩
  · have hw : w ∈ its := by simpa using hw
    obtain ⟨i, hi, ew⟩ := List.mem_iff_getElem.mp hw
    obtain ⟨t', e'⟩ := at' i hi
    rw [← ew, e']
    have z := SeqRoads2.EqGives.str (xs[i]'(by (first | lia | omega))) y t' t
    rw [show ((xs[i]'(by (first | lia | omega))).cps.toList == y.cps.toList) = ((xs[i]'(by (first | lia | omega))) == y) from by rw [Bool.eq_iff_iff, beq_iff_eq, beq_iff_eq, Array.toList_inj]; exact ⟨fun q => by generalize xs[i]'(by (first | lia | omega)) = x at q ⊢; cases x; cases y; simp_all, fun q => by rw [q]⟩] at z
    exact z
  · obtain ⟨t', e'⟩ := at' j (by (first | lia | omega))
    show ev its[j] = true
    rw [e']
    show (xs[j] == y) = true
    rw [jy]; simp
  · intro m hm hmj
    have hm' : m < its.length := by rw [List.size_toArray] at hm; exact hm
    obtain ⟨t', e'⟩ := at' m hm'
    show ev its[m] = false
    rw [e']
    show (xs[m] == y) = false
    simpa using jn m (by (first | lia | omega)) hmj
  · have ex : (xs.map V.str).eraseIdx j = (xs.erase y).map V.str := by
      rw [List.erase_eq_eraseIdx_of_idxOf (i := j) hj.symm, List.eraseIdx_eq_take_drop_succ, List.eraseIdx_eq_take_drop_succ, List.map_append, List.map_take, List.map_drop]
    refine ⟨.non, _, I.lset (ys := (xs.map V.str).eraseIdx j) (its' := its.eraseIdx j) hH e ?_ (vals_erase j r) (by rw [List.length_eraseIdx]; split <;> (first | lia | omega)), rfl, ?_⟩
    · simp [Array.eraseIdxIfInBounds, show j < its.length by (first | lia | omega)]
    · exact q _ ⟨by rw [ex]⟩
end
end L2

set_option Elab.async false
set_option linter.all false
namespace Z
open PySem L2
noncomputable def top (i : Nat) : Stmt := PySem.Challenge.pw_oddlong_k18_readings_of_all_short_texts.main.body.getD i (.Pass ⟨0, 0, 0, 0⟩)
noncomputable abbrev i_length_first : Nat := 1
noncomputable abbrev i_two_readings : Nat := 3
noncomputable abbrev i_first_stands : Nat := 4
noncomputable abbrev i_stands_behind : Nat := 5
noncomputable abbrev i_keep_least : Nat := 6
noncomputable abbrev i_least_stand : Nat := 7
noncomputable abbrev i_stand_order : Nat := 8
noncomputable abbrev i_in_order : Nat := 9
noncomputable abbrev i_law_begin : Nat := 11
noncomputable abbrev i_law_take : Nat := 12
noncomputable abbrev i_law_names : Nat := 13
noncomputable abbrev i_law_free : Nat := 14
noncomputable abbrev i_law_sizes : Nat := 15
noncomputable abbrev i_law_book : Nat := 16
noncomputable abbrev i_law_counts : Nat := 17
noncomputable abbrev i_law_first : Nat := 18
noncomputable abbrev i_law : Nat := 19
end Z

set_option Elab.async false
set_option linter.all false
set_option maxRecDepth 100000
set_option maxHeartbeats 4000000
namespace Z
open PySem L2
theorem sizeOk {n : Nat} (h : n ≤ 10000000) : n ≤ sizeLine := Nat.le_trans h (by decide)
end Z

set_option Elab.async false
set_option linter.all false
set_option maxRecDepth 100000
set_option maxHeartbeats 4000000
namespace Z
open PySem L2
/-! the draws -/
structure Box (H : Hp) (b c : Addr) (t : Int) (ns : List Int) : Prop where
  d : H b = some (.dK [(.inr "cells", .ref c), (.inr "turn", .int t)])
  l : H c = some (.lst (ns.map V.int))
  ne : 0 < ns.length
  le : ns.length ≤ 64
noncomputable def hid (H : Hp) (b c : Addr) : Hp := fun a => if a = b ∨ a = c then none else H a
theorem hid_of {H : Hp} {b c a : Addr} (h1 : a ≠ b) (h2 : a ≠ c) : hid H b c a = H a := if_neg (fun z => z.elim h1 h2)
theorem of_hid {H : Hp} {b c a : Addr} {o : HO} (h : hid H b c a = some o) : H a = some o ∧ a ≠ b ∧ a ≠ c := by
  unfold hid at h
  split at h
  · cases h
  · rename_i n
    exact ⟨h, fun z => n (.inl z), fun z => n (.inr z)⟩
theorem hid_le {H : Hp} {b c : Addr} : Same (hid H b c) H := fun a o h => (of_hid h).1
theorem Box.bc {H : Hp} {b c : Addr} {t : Int} {ns : List Int} (x : Box H b c t ns) : b ≠ c := ne_of x.d x.l (by intro z; cases z)
theorem Box.get_turn {H : Hp} {b c : Addr} {t : Int} {ns : List Int} (x : Box H b c t ns) : DGet H b (.str "turn") (some (.int t)) := DGet.k (k := Sum.inr "turn") x.d
theorem Box.get_cells {H : Hp} {b c : Addr} {t : Int} {ns : List Int} (x : Box H b c t ns) : DGet H b (.str "cells") (some (.ref c)) := DGet.k (k := Sum.inr "cells") x.d
theorem Box.put_turn {H : Hp} {b c : Addr} {t : Int} {ns : List Int} (x : Box H b c t ns) (t' : Int) : DPut H b (.str "turn") (.int t') (upd H b (.dK [(.inr "cells", .ref c), (.inr "turn", .int t')])) :=
  DPut.k (k := Sum.inr "turn") x.d (by show 2 < sizeLine; decide)
theorem Box.turned {H : Hp} {b c : Addr} {t : Int} {ns : List Int} (x : Box H b c t ns) (t' : Int) : Box (upd H b (.dK [(.inr "cells", .ref c), (.inr "turn", .int t')])) b c t' ns :=
  ⟨upd_same, by rw [upd_ne (Ne.symm x.bc)]; exact x.l, x.ne, x.le⟩
theorem hid_upd_b {H : Hp} {b c : Addr} {o : HO} : hid (upd H b o) b c = hid H b c := by
  funext a; unfold hid; split
  · rfl
  · rename_i n; exact upd_ne (fun z => n (.inl z))
theorem hid_upd_c {H : Hp} {b c : Addr} {o : HO} : hid (upd H c o) b c = hid H b c := by
  funext a; unfold hid; split
  · rfl
  · rename_i n; exact upd_ne (fun z => n (.inr z))
noncomputable def spTake : Sp := fun vs H Q _ => Ex5 fun (b c : Addr) (t : Int) (ns : List Int) (many : Int) => vs = [.ref b, .int many] ∧ Box H b c t ns ∧ 0 ≤ t ∧ t < 100000000 ∧ 0 < many ∧ many < 1073741824 ∧
  ∀ (r : Int) (H' : Hp) (ns' : List Int), 0 ≤ r → r < many → Box H' b c (t + 1) ns' → Same (hid H b c) (hid H' b c) → Q (.int r) H'
theorem at_of {ns : List Int} {p : Int} (h0 : 0 ≤ p) (h1 : p < ns.length) : ∃ v, atI (ns.map V.int) p = some (.int v) ∧ ns[p.toNat]? = some v := by
  have hk : p.toNat < ns.length := by (first | lia | omega)
  have ek : p = ((p.toNat : Nat) : Int) := by (first | lia | omega)
  have q : atI (ns.map V.int) ((p.toNat : Nat) : Int) = some (.int ns[p.toNat]) := atI_nat (by rw [List.getElem?_map, List.getElem?_eq_getElem hk] <;> rfl)
  rw [← ek] at q
  exact ⟨_, q, List.getElem?_eq_getElem hk⟩
theorem cm_mod {a j m : Int} (h0 : 0 < m) (h : m < 2 ^ 64) : CMul (a % m) j := by
  have h1 := Int.emod_nonneg a (b := m) (by (first | lia | omega))
  have h2 := Int.emod_lt_of_pos a h0
  exact .inl ⟨by (first | lia | omega), by (first | lia | omega)⟩
theorem ixN_of {n : Nat} {p : Int} (h0 : 0 ≤ p) (h1 : p < n) : ixN n p = some p.toNat := by unfold ixN; rw [if_pos h0, if_pos h1]
theorem hid_more {H H' : Hp} {b c : Addr} (h : ∀ a o, a ≠ b → a ≠ c → H a = some o → H' a = some o) : Same (hid H b c) (hid H' b c) := fun a o e => by
  refine Elim.el (of_hid e) _ ?_
  rintro e h1 h2
  rw [hid_of h1 h2]
  exact h a o h1 h2 e
end Z

set_option Elab.async false
set_option linter.all false
set_option maxRecDepth 100000
set_option maxHeartbeats 4000000
namespace L2
open PySem
noncomputable def Gm (t : TG) : Prop := ∀ x σ H (Q Q' : St → Hp → Prop), (∀ a b, Q a b → Q' a b) → t x σ H Q → t x σ H Q'
noncomputable def Gms (t : TGs) : Prop := ∀ x σ H (Q Q' : St → Hp → Prop), (∀ a b, Q a b → Q' a b) → t x σ H Q → t x σ H Q'
theorem gm_name {i : Nat} : Gm (gName i) := fun _ _ _ _ _ h q => h _ _ q
theorem gms_nil : Gms gNil := fun _ _ _ _ _ h q => ⟨q.1, h _ _ q.2⟩
theorem gms_cons {t : TG} {u : TGs} (a : Gm t) (b : Gms u) : Gms (gCons t u) := fun _ _ _ _ _ h ⟨v, r, e, q⟩ => ⟨v, r, e, a _ _ _ _ _ (fun _ _ z => b _ _ _ _ _ h z) q⟩
theorem Dens.get {K : PySem.W.Frag} {H : Hp} : ∀ {ds : List PyData} {vs : List V} {i : Nat} {d : PyData}, Dens K H ds vs → ds[i]? = some d → ∃ v, vs[i]? = some v ∧ Den K H d v
  | [], _, _, _, _, e => by simp at e
  | d :: ds, vs, i, d', h, e => by
    unfold Dens at h
    obtain ⟨v, r, rfl, h1, h2⟩ := h
    cases i with
    | zero => cases e; exact ⟨v, rfl, h1⟩
    | succ i => exact Dens.get (i := i) h2 e
theorem Dens.len {K : PySem.W.Frag} {H : Hp} : ∀ {ds : List PyData} {vs : List V}, Dens K H ds vs → vs.length = ds.length
  | [], _, h => by unfold Dens at h; subst h; rfl
  | d :: ds, vs, h => by
    unfold Dens at h
    obtain ⟨v, r, rfl, h1, h2⟩ := h
    rw [List.length_cons, List.length_cons, Dens.len h2]
theorem Den.pair {K : PySem.W.Frag} {H : Hp} {a b : Str} {v : V} (h : Den K H (.tuple [.str a, .str b]) v) : ∃ p, v = .ref p ∧ SqT K H p [.str a, .str b] := by
  unfold Den at h
  obtain ⟨p, vs, e, h1, h2⟩ := h
  unfold Dens at h2
  obtain ⟨v1, r1, rfl, d1, h2⟩ := h2
  unfold Dens at h2
  obtain ⟨v2, r2, rfl, d2, h2⟩ := h2
  unfold Dens at h2
  subst h2
  unfold Den at d1 d2
  subst d1 d2
  exact ⟨p, e, h1⟩
end L2
namespace Z
open PySem L2
end Z

set_option Elab.async false
set_option linter.all false
set_option maxRecDepth 100000
set_option maxHeartbeats 4000000
namespace L2
open PySem
/-- a for over any iterator, N turns -/
theorem for_go {J : It} {g : TG} {tb : TS} {D : Ends} {σ : St} {H : Hp} (N : Nat) (Pv : Nat → St → Hp → Prop) (h0 : Pv 0 σ H)
    (go : ∀ i σ H, i < N → Pv i σ H → J.go i H ∧ ∀ x H', J.yld i H x H' → g x σ H' fun σ2 H2 => tb { D with nx := Pv (i + 1), ct := Pv (i + 1), bk := D.nx } σ2 H2)
    (stop : ∀ σ H, Pv N σ H → J.stop N H ∧ D.nx σ H) :
    ∃ W : Nat → Nat → St → Hp → Prop, (∃ m, W 0 m σ H) ∧ ∀ i m σ H, W i m σ H →
      (J.stop i H ∧ D.nx σ H) ∨ (J.go i H ∧ ∃ N : St → Hp → Prop, (∀ σ' H', N σ' H' → ∃ m', m' < m ∧ W (i + 1) m' σ' H') ∧ ∀ x H', J.yld i H x H' → g x σ H' fun σ2 H2 => tb { D with nx := N, ct := N, bk := D.nx } σ2 H2) := by
  refine ⟨fun i m σ H => m = N - i ∧ i ≤ N ∧ Pv i σ H, ⟨N, by simp, Nat.zero_le _, h0⟩, ?_⟩
  rintro i m σ H ⟨rfl, hi, p⟩
  by_cases hlt : i < N
  · obtain ⟨g1, g2⟩ := go i σ H hlt p
    exact .inr ⟨g1, Pv (i + 1), fun σ' H' p' => ⟨N - (i + 1), by (first | lia | omega), rfl, hlt, p'⟩, g2⟩
  · have e : i = N := by (first | lia | omega)
    subst e
    exact .inl (stop σ H p)
end L2
namespace L2
open PySem
/-- what holds behind a statement, said once -/
theorem seqCut {t u : TS} {D : Ends} {σ : St} {H : Hp} (Ex : St → Hp → Prop) (h : ∀ Nx : St → Hp → Prop, (∀ σ H, Ex σ H → Nx σ H) → t { D with nx := Nx } σ H) (fin : ∀ σ H, Ex σ H → u D σ H) : tSeq t u D σ H := h (u D) fin
/-- a while, by a falling number -/
theorem whileGo {c : TT} {tb : TS} {D : Ends} {σ : St} {H : Hp} (Pv : Nat → St → Hp → Prop) (h0 : ∃ m, Pv m σ H)
    (hs : ∀ m σ H, Pv m σ H → c σ H fun b H1 => if b = true then ∃ N : St → Hp → Prop, (∀ σ' H', N σ' H' → ∃ m', m' < m ∧ Pv m' σ' H') ∧ tb { D with nx := N, ct := N, bk := D.nx } σ H1 else D.nx σ H1) : tWhile c tb D σ H := ⟨Pv, h0, hs⟩
end L2
namespace L2
open PySem
/-- x = e, then the rest; what e comes to, said once -/
theorem asgCut {te : TE} {g : TG} {u : TS} {D : Ends} {σ : St} {H : Hp} (Ex : V → Hp → Prop) (h : ∀ Qn : VK, (∀ v H, Ex v H → Qn v H) → te σ H Qn) (fin : ∀ v H, Ex v H → g v σ H (u D)) : tSeq (tAsg te g) u D σ H := h _ fin
end L2
namespace L2
open PySem
/-- a name has been given -/
theorem gn {i : Nat} {v : V} {σ : St} {H : Hp} {Q : St → Hp → Prop} (h : Q (σ.set i (some v)) H) : gName i v σ H Q := h
end L2

set_option Elab.async false
set_option linter.all false
set_option maxRecDepth 100000
set_option maxHeartbeats 4000000
namespace Z
open PySem L2
/-- the box at b, its list at c, t draws done -/
noncomputable def Bx (H : Hp) (b c : Addr) (t : Int) : Prop := ∃ ns, Box H b c t ns
/-- from H to H': at most N draws more; all else stands -/
structure Step (b c : Addr) (H H' : Hp) (t t' N : Int) : Prop where
  le : t ≤ t'
  ub : t' ≤ t + N
  bx : Bx H' b c t'
  sm : Same (hid H b c) (hid H' b c)
theorem Step.refl {b c : Addr} {H : Hp} {t : Int} (h : Bx H b c t) : Step b c H H t t 0 := ⟨Int.le_refl _, by (first | lia | omega), h, Same.refl _⟩
theorem Step.trans {b c : Addr} {H H' H2 : Hp} {t t' t2 N M : Int} (x : Step b c H H' t t' N) (y : Step b c H' H2 t' t2 M) : Step b c H H2 t t2 (N + M) :=
  ⟨by have := x.le; have := y.le; (first | lia | omega), by have := x.ub; have := y.ub; (first | lia | omega), y.bx, x.sm.trans y.sm⟩
theorem Step.more {b c : Addr} {H H' : Hp} {t t' N M : Int} (x : Step b c H H' t t' N) (h : N ≤ M) : Step b c H H' t t' M := ⟨x.le, by have := x.ub; (first | lia | omega), x.bx, x.sm⟩
theorem Bx.ne_new {H : Hp} {b c p : Addr} {t : Int} (x : Bx H b c t) (h : H p = none) : p ≠ b ∧ p ≠ c := by
  obtain ⟨ns, x⟩ := x
  exact ⟨fun z => (by rw [z, x.d] at h; cases h), fun z => (by rw [z, x.l] at h; cases h)⟩
theorem Bx.upd {H : Hp} {b c p : Addr} {t : Int} {o : HO} (x : Bx H b c t) (h1 : p ≠ b) (h2 : p ≠ c) : Bx (upd H p o) b c t := by
  obtain ⟨ns, x⟩ := x
  exact ⟨ns, by rw [upd_ne (Ne.symm h1)]; exact x.d, by rw [upd_ne (Ne.symm h2)]; exact x.l, x.ne, x.le⟩
/-- a new object -/
theorem Step.new {b c p : Addr} {H H' : Hp} {t t' N : Int} (x : Step b c H H' t t' N) (h : H' p = none) (o : HO) : Step b c H (upd H' p o) t t' N :=
  ⟨x.le, x.ub, x.bx.upd (x.bx.ne_new h).1 (x.bx.ne_new h).2, x.sm.trans (hid_more fun a u _ _ e => by rw [upd_ne (ne_of_none e h)]; exact e)⟩
/-- an object changed that was not there at the start -/
theorem Step.chg {b c p : Addr} {H H' : Hp} {t t' N : Int} (x : Step b c H H' t t' N) (h : H p = none) (h1 : p ≠ b) (h2 : p ≠ c) (o : HO) : Step b c H (upd H' p o) t t' N :=
  ⟨x.le, x.ub, x.bx.upd h1 h2, fun a u e => by
    have q := x.sm a u e
    obtain ⟨q, n1, n2⟩ := of_hid q
    rw [hid_of n1 n2, upd_ne (fun z => ?_)]
    · exact q
    · rw [z] at e
      rw [(of_hid e).1] at h; cases h⟩
theorem Step.old {b c a : Addr} {H H' : Hp} {t t' N : Int} {o : HO} (x : Step b c H H' t t' N) (h : H a = some o) (h1 : a ≠ b) (h2 : a ≠ c) : H' a = some o :=
  (of_hid (x.sm a o (by rw [hid_of h1 h2]; exact h))).1
theorem Step.fresh {b c a : Addr} {H H' : Hp} {t t' N : Int} (x : Step b c H H' t t' N) (hb : Bx H b c t) (h : H' a = none) : H a = none := by
  obtain ⟨h1, h2⟩ := x.bx.ne_new h
  cases e : H a with
  | none => rfl
  | some o => rw [x.old e h1 h2] at h; cases h
theorem Same.hid {H H' : Hp} {b c : Addr} (s : Same H H') : Same (hid H b c) (hid H' b c) := hid_more fun a o _ _ e => s a o e
theorem Bx.same {H H' : Hp} {b c : Addr} {t : Int} (x : Bx H b c t) (s : Same H H') : Bx H' b c t := by
  obtain ⟨ns, x⟩ := x
  exact ⟨ns, s _ _ x.d, s _ _ x.l, x.ne, x.le⟩
theorem Step.same {b c : Addr} {H H' : Hp} {t : Int} (x : Bx H b c t) (s : Same H H') : Step b c H H' t t 0 := ⟨Int.le_refl _, by (first | lia | omega), x.same s, Same.hid s⟩
/-- the draw, said so -/
noncomputable def spTk : Sp := fun vs H Q _ => Ex4 fun (b c : Addr) (t many : Int) => vs = [.ref b, .int many] ∧ Bx H b c t ∧ 0 ≤ t ∧ t < 100000000 ∧ 0 < many ∧ many < 1073741824 ∧
  ∀ (r : Int) (H' : Hp), 0 ≤ r → r < many → Step b c H H' t (t + 1) 1 → Q (.int r) H'
theorem spTk_of {vs : List V} {H : Hp} {Q : VK} {E : XK} (h : spTk vs H Q E) : spTake vs H Q E := by
  obtain ⟨b, c, t, many, e, ⟨ns, bx⟩, h1, h2, h3, h4, q⟩ := h
  exact ⟨b, c, t, ns, many, e, bx, h1, h2, h3, h4, fun r H' ns' r0 r1 bx' sm => q r H' r0 r1 ⟨by (first | lia | omega), by (first | lia | omega), ⟨ns', bx'⟩, sm⟩⟩
theorem cut_to (vs : List V) (j : Nat) : cutV vs none (some (j : Int)) = vs.take j := by
  unfold cutV
  rw [HT.sIx_none, HT.sIx_nat, List.drop_zero, Nat.sub_zero]
  rcases Nat.le_total j vs.length with h | h
  · rw [Nat.min_eq_left h]
  · rw [Nat.min_eq_right h, List.take_of_length_le (Nat.le_refl _), List.take_of_length_le h]
theorem Fn.imp {P : Program} {w : World} {K : PySem.W.Frag} {mg : Str → Option Value} {base : Heap} {k : Nat} {x : Str} {ps : List Str} {sp sp' : Sp} (F : Fn P w K mg base k x ps sp) (h : ∀ vs H Q E, sp' vs H Q E → sp vs H Q E) : Fn P w K mg base k x ps sp' := by
  obtain ⟨f, fd, a, b, c, d⟩ := F.ex
  exact ⟨f, fd, a.imp h, b, c, d⟩
end Z
namespace Z
open PySem L2
theorem Step.newN {b c p : Addr} {H H' H2 : Hp} {t t' N : Int} {o : HO} (x : Step b c H H' t t' N) (n : New H' p o H2) : Step b c H H2 t t' N := by rw [n.eq]; exact x.new n.nn _
theorem Step.chgN {b c p : Addr} {H H' H2 : Hp} {t t' N : Int} {o : HO} (x : Step b c H H' t t' N) (n : Chg H' p o H2) (h : H p = none) (h1 : p ≠ b) (h2 : p ≠ c) : Step b c H H2 t t' N := by rw [n.eq]; exact x.chg h h1 h2 _
end Z

set_option Elab.async false
set_option linter.all false
set_option maxRecDepth 100000
set_option maxHeartbeats 4000000
namespace Z
open PySem L2
/-! the plain draw -/
theorem Box.same {H H' : Hp} {b c : Addr} {t : Int} {ns : List Int} (x : Box H b c t ns) (s : Same H H') : Box H' b c t ns := ⟨s _ _ x.d, s _ _ x.l, x.ne, x.le⟩
section
variable {P : Program} {w : World} {K : PySem.W.Frag} {mg : Str → Option Value} {base : Heap} {f : Addr} {fd : FuncData}
theorem sc_law_take : FnScope ["_law_state", "_law_many", "_law_turn", "_law_place", "_law_cell", "_law_digit", "_law_mixed"] ["_law_state", "_law_many"] (defScope (top i_law_take)) := ⟨rfl, rfl, rfl, by decide +kernel, rfl, by decide +kernel, by decide +kernel⟩
theorem ok_take (F : Fun K "_law_take" "_law_take" (top i_law_take) f fd) (T : Nm mg) : FnOk P w K mg base CX0 1 f fd ["_law_state", "_law_many"] spTake := by
  refine F.ok sc_law_take (fun vs H Q E h => ?_) (fun cdv A outer s H vs Q E hr h => ?_)
  · obtain ⟨b, c, t, ns, many, rfl, _⟩ := h
    rfl
  obtain ⟨b, c, t, ns, many, rfl, bx, t0, t1, m0, m1, q⟩ := h
  have hu := hu_of hr
  refine ⟨_, (pss_cons (ps_set (i := 2) sc_law_take.nd rfl (Or.inl rfl) (pe_op addN (pe_dget hu (pv 0) pe_str (fun _ _ => rfl)) pe_int))
    (pss_cons (ps_dput hu (pv 0) pe_str (pv 2) rfl)
    (pss_cons (ps_set (i := 3) sc_law_take.nd rfl (Or.inl rfl) (pe_op op_mod (pv 2) (pe_callB (lenK K) rfl T.n_len (by rfl) (pa_cons (pe_dget hu (pv 0) pe_str (fun _ _ => rfl)) pa_nil))))
    (pss_cons (ps_set (i := 4) sc_law_take.nd rfl (Or.inl rfl) (pe_ix (ixK K) (pe_dget hu (pv 0) pe_str (fun _ _ => rfl)) (pv 3) (fun _ _ => rfl)))
    (pss_cons (ps_if (pt_cmpR op_ge (pv 4) (pe_op op_pow pe_int pe_int) (nomark _)) (pss_cons (ps_asg (pe_callB divmodN rfl T.n_divmod (by rfl) (pa_cons (pv 4) (pa_cons (pv 1) pa_nil))) (tupK K 2 rfl (pgs_cons (pg_sub (pe_dget hu (pv 0) pe_str (fun _ _ => rfl)) (pv 3) set_list) (pgs_cons (pg_name (i := 5) sc_law_take.nd rfl (Or.inl rfl)) pgs_nil))))
    (pss_one (ps_ret (pv 5)))) pss_nil)
    (pss_cons (ps_set (i := 6) sc_law_take.nd rfl (Or.inl rfl) (pe_op op_mod (pe_op mulN (pe_op addN (pe_op addN (pe_op op_mod (pv 4) pe_int) (pe_op mulN (pe_op mulN (pv 2) (pv 2)) pe_int)) pe_int) pe_int) pe_int))
    (pss_cons (ps_set (i := 6) sc_law_take.nd rfl (Or.inl rfl) (pe_op op_mod (pe_op mulN (pv 6) (pv 6)) pe_int))
    (pss_one (ps_ret (pe_op op_mod (pe_op op_fdiv (pe_op op_mod (pe_op mulN (pe_op addN (pv 6) (pe_op mulN (pv 2) pe_int)) pe_int) pe_int) pe_int) (pv 1))))))))))), ?_⟩
  refine ⟨_, rfl, b, _, rfl, bx.get_turn, .inl ⟨_, _, rfl, rfl, ?_⟩⟩
  refine ⟨_, rfl, _, rfl, b, _, rfl, bx.put_turn (t + 1), ?_⟩
  have bx1 := bx.turned (t + 1)
  refine ⟨_, rfl, _, rfl, b, _, rfl, bx1.get_cells, _, _, rfl, .inl ⟨_, SqL.of bx1.l, rfl⟩, _, _, rfl, rfl, ?_, ?_⟩
  · rw [List.length_map]; have := bx1.ne; (first | lia | omega)
  have hlen : (ns.map V.int).length = ns.length := List.length_map _
  have hp0 : 0 ≤ (t + 1) % ((ns.map V.int).length : Int) := Int.emod_nonneg _ (by have := bx1.ne; (first | lia | omega))
  have hp1 : (t + 1) % ((ns.map V.int).length : Int) < ns.length := by rw [hlen]; exact Int.emod_lt_of_pos _ (by have := bx1.ne; (first | lia | omega))
  refine Elim.el (at_of hp0 hp1) _ ?_
  rintro v hv hv'
  refine ⟨_, rfl, b, _, rfl, bx1.get_cells, _, rfl, .inl ⟨c, _, _, _, rfl, rfl, SqL.of bx1.l, hv, ?_⟩⟩
  refine ⟨_, rfl, _, _, rfl, rfl, ⟨by decide, by decide, by decide⟩, _, _, rfl, rfl, _, rfl, ?_⟩
  refine ite2 (fun _ => ?_) (fun _ => ?_)
  · refine ⟨_, rfl, _, rfl, v, many, rfl, ⟨m0, by (first | lia | omega)⟩, fun pt H2 n2 => ?_⟩
    obtain ⟨hpb, hpc⟩ : pt ≠ b ∧ pt ≠ c := ⟨fun z => (by have := n2.nn; rw [z, bx1.d] at this; cases this), fun z => (by have := n2.nn; rw [z, bx1.l] at this; cases this)⟩
    have bx2 := bx1.same n2.same
    refine ⟨pt, _, rfl, SqT.of n2.at, rfl, _, _, rfl, ?_⟩
    refine ⟨_, rfl, b, _, rfl, bx2.get_cells, _, rfl, c, _, _, _, rfl, rfl, bx2.l, ixN_of hp0 (by simpa only [hlen] using hp1), ?_⟩
    refine ⟨_, _, rfl, rfl, _, rfl, ?_⟩
    refine q (v % many) _ (ns.set ((t + 1) % ((ns.map V.int).length : Int)).toNat (v / many)) (Int.emod_nonneg _ (by (first | lia | omega))) (Int.emod_lt_of_pos _ m0) ⟨?_, ?_, ?_, ?_⟩ ?_
    · rw [upd_ne bx2.bc]; exact bx2.d
    · rw [upd_same, List.map_set]
    · rw [List.length_set]; exact bx1.ne
    · rw [List.length_set]; exact bx1.le
    · rw [hid_upd_c]
      refine hid_more fun a o h1 h2 e => ?_
      rw [n2.ne (fun z => ?_), upd_ne h1]
      · exact e
      · have z2 := n2.nn
        rw [upd_ne hpb, ← z, e] at z2
        cases z2
  · refine ⟨_, rfl, _, _, rfl, rfl, (by dsimp only; decide), _, rfl, _, rfl, .inl ⟨_, _, rfl, rfl, .inl ⟨by (first | lia | omega), by (first | lia | omega)⟩, .inl ⟨_, _, rfl, rfl, .inr ⟨by decide, by decide⟩, .inl ⟨_, _, rfl, rfl, .inl ⟨_, _, rfl, rfl, .inl ⟨_, _, rfl, rfl, .inr ⟨by decide, by decide⟩, _, _, rfl, rfl, (by dsimp only; decide), ?_⟩⟩⟩⟩⟩⟩
    have cm : ∀ (x y p : Int), 0 < p → p < 2 ^ 64 → CMul (x % p) y := fun x y p h0 h1 => cm_mod h0 h1
    refine ⟨_, rfl, _, rfl, .inl ⟨_, _, rfl, rfl, cm _ _ _ (by decide) (by decide), ?_⟩⟩
    refine ⟨_, _, rfl, rfl, (by dsimp only; decide), ?_⟩
    refine ⟨_, rfl, _, rfl, .inl ⟨_, _, rfl, rfl, .inl ⟨by (first | lia | omega), by (first | lia | omega)⟩, .inl ⟨_, _, rfl, rfl, .inl ⟨_, _, rfl, rfl, .inr ⟨by decide, by decide⟩, _, _, rfl, rfl, (by dsimp only; decide), _, _, rfl, rfl, ⟨by decide, by decide⟩, _, rfl, _, _, rfl, rfl, m0, ?_⟩⟩⟩⟩
    exact q _ _ ns (Int.emod_nonneg _ (by (first | lia | omega))) (Int.emod_lt_of_pos _ m0) bx1 (by rw [hid_upd_b]; exact Same.refl _)
end
end Z

set_option Elab.async false
set_option linter.all false
set_option maxRecDepth 100000
set_option maxHeartbeats 4000000
namespace Z
open PySem L2
/-- a text of the signs 0 and 1 -/
noncomputable def Bin (x : Str) : Prop := ∀ c ∈ x.cps.toList, c = 48 ∨ c = 49
theorem glued_list (g : Str) : ∀ (parts : List Str) (acc : Array Nat), (parts.foldl (fun acc p => acc ++ g.cps ++ p.cps) acc).toList = acc.toList ++ parts.flatMap (fun p => g.cps.toList ++ p.cps.toList)
  | [], acc => by simp
  | p :: r, acc => by rw [List.foldl_cons, glued_list g r]; simp
theorem join_list0 (xs : List Str) : (Txt.join "" xs).cps.toList = xs.flatMap (fun p => p.cps.toList) := by
  cases xs with
  | nil => rfl
  | cons x r =>
    show ((r.foldl (fun acc p => acc ++ (Str.ofString "").cps ++ p.cps) x.cps)).toList = _
    rw [glued_list]
    have e : (Str.ofString "").cps.toList = [] := rfl
    simp [e]
end Z

set_option Elab.async false
set_option linter.all false
set_option maxRecDepth 100000
set_option maxHeartbeats 4000000
namespace Z
open PySem L2
noncomputable abbrev abc : Str := "abcdefghijklmnopqrstuvwxyz"
theorem abc_list : abc.cps.toList = (List.range 26).map (97 + ·) := by decide +kernel
theorem abc_at {r : Int} (h0 : 0 ≤ r) (h1 : r < 26) : atI abc.cps.toList r = some (97 + r.toNat) := by
  refine at_nat h0 ?_
  rw [abc_list, List.getElem?_map, List.getElem?_range (by (first | lia | omega))]
  rfl
theorem str_append_list (x y : Str) : (x ++ y).cps.toList = x.cps.toList ++ y.cps.toList := by
  show (x.cps ++ y.cps).toList = _
  simp
theorem str_len (x : Str) : x.length = x.cps.toList.length := by simp [Str.length]
theorem len_append (x y : Str) : (x ++ y).length = x.length + y.length := by rw [str_len, str_append_list, List.length_append, ← str_len, ← str_len]
theorem len_one (ch : Nat) : (⟨#[ch]⟩ : Str).length = 1 := rfl
end Z

set_option Elab.async false
set_option linter.all false
set_option maxRecDepth 100000
set_option maxHeartbeats 4000000
namespace Z
open PySem L2
/-- may be compared, and is no deeper than n -/
noncomputable def Sh (n : Nat) (d : PyData) : Prop := d.canLay0 = true ∧ d.depth ≤ n
theorem Sh.all {n : Nat} : ∀ {ds : List PyData}, (∀ d ∈ ds, Sh n d) → PyData.canLayAll0 ds = true ∧ PyData.depthAll ds ≤ n
  | [], _ => ⟨by simp [PyData.canLayAll0], by simp [PyData.depthAll]⟩
  | d :: ds, h => by
    obtain ⟨h1, h2⟩ := h d List.mem_cons_self
    obtain ⟨h3, h4⟩ := Sh.all fun e he => h e (List.mem_cons_of_mem _ he)
    exact ⟨by simp [PyData.canLayAll0, h1, h3], by simp only [PyData.depthAll]; (first | lia | omega)⟩
theorem Sh.list {n : Nat} {ds : List PyData} (h : ∀ d ∈ ds, Sh n d) : Sh (n + 1) (.list ds) := by
  obtain ⟨h1, h2⟩ := Sh.all h
  exact ⟨by simpa [PyData.canLay0] using h1, by simp only [PyData.depth]; (first | lia | omega)⟩
theorem Sh.shaped {n : Nat} {d : PyData} (h : Sh n d) (hn : n ≤ 64) : SeqAt.shaped d = true := by
  unfold SeqAt.shaped
  rw [h.1, decide_eq_true (Nat.le_trans h.2 hn)]
  rfl
theorem Sh.str {n : Nat} {x : Str} (h : PyData.canLay0 (.str x) = true) : Sh n (.str x) := ⟨h, by simp [PyData.depth]⟩
theorem Sh.int {n : Nat} {i : Int} : Sh n (.int i) := ⟨by simp [PyData.canLay0], by simp [PyData.depth]⟩
theorem canLay_small {x : Str} (h : ∀ ch ∈ x.cps.toList, ch < 128) : PyData.canLay0 (.str x) = true := by
  simp only [PyData.canLay0, PyData.strOk]
  rw [← Array.all_toList, List.all_eq_true]
  intro ch hc
  have := h ch hc
  exact decide_eq_true (by (first | lia | omega))
theorem Den.strs {K : PySem.W.Frag} {H : Hp} : ∀ (xs : List Str), Dens K H (xs.map PyData.str) (xs.map V.str)
  | [] => by unfold Dens; rfl
  | x :: xs => by
    rw [List.map_cons]
    unfold Dens
    exact ⟨_, _, rfl, by unfold Den; rfl, Den.strs xs⟩
theorem Den.list {K : PySem.W.Frag} {H : Hp} {l : Addr} {ds : List PyData} {vs : List V} (h : SqL K H l vs) (hd : Dens K H ds vs) : Den K H (.list ds) (.ref l) := by
  unfold Den
  exact ⟨l, vs, rfl, h, hd⟩
end Z

set_option Elab.async false
set_option linter.all false
set_option maxRecDepth 100000
set_option maxHeartbeats 4000000
namespace Z
open PySem L2
theorem Dens.of_get {K : PySem.W.Frag} {H : Hp} : ∀ {ds : List PyData} {vs : List V}, ds.length = vs.length → (∀ (j : Nat) d v, ds[j]? = some d → vs[j]? = some v → Den K H d v) → Dens K H ds vs
  | [], [], _, _ => by unfold Dens; rfl
  | [], _ :: _, h, _ => by simp at h
  | _ :: _, [], h, _ => by simp at h
  | d :: ds, v :: vs, h, g => by
    unfold Dens
    exact ⟨v, vs, rfl, g 0 d v rfl rfl, Dens.of_get (by simpa using h) fun j d' v' h1 h2 => g (j + 1) d' v' h1 h2⟩
theorem Den.pairOf {K : PySem.W.Frag} {H : Hp} {a : Addr} {x y : Str} (h : H a = some (.tup [.str x, .str y])) : Den K H (.tuple [.str x, .str y]) (.ref a) := by
  unfold Den
  refine ⟨a, _, rfl, SqT.of h, ?_⟩
  unfold Dens
  refine ⟨_, _, rfl, by unfold Den; rfl, ?_⟩
  unfold Dens
  refine ⟨_, _, rfl, by unfold Den; rfl, ?_⟩
  unfold Dens
  rfl
/-- a book that is a list of its own -/
noncomputable def BookAt (K : PySem.W.Frag) (H : Hp) (bk : List (Str × Str)) (v : V) : Prop := Ex2 fun (l : Addr) (vs : List V) => v = .ref l ∧ H l = some (.lst vs) ∧ Dens K H (bk.map fun q => .tuple [.str q.1, .str q.2]) vs
/-- the list that list(zip(names, codes)) tells is a book -/
theorem book_zip {K : PySem.W.Frag} {H1 H' : Hp} {b c p : Addr} {t : Int} {as : List Addr} {ns cs : List Str} (bx : Bx H1 b c t) (hp : H1 p = none) (hl : H' p = some (.lst (as.map V.ref))) (hle : ns.length = cs.length)
    (hal : as.length = min (ns.map V.str).length (cs.map V.str).length) (h : ∀ (j : Nat) a x y, as[j]? = some a → (ns.map V.str)[j]? = some x → (cs.map V.str)[j]? = some y → H1 a = none ∧ H' a = some (.tup [x, y])) :
    BookAt K (hid H' b c) (ns.zip cs) (.ref p) := by
  have hal' : as.length = ns.length := by rw [hal, List.length_map, List.length_map, ← hle, Nat.min_self]
  obtain ⟨pb, pc⟩ := bx.ne_new hp
  refine ⟨p, _, rfl, by rw [hid_of pb pc]; exact hl, Dens.of_get ?_ fun j d v hd hv => ?_⟩
  · rw [List.length_map, List.length_map, List.length_zip]; (first | lia | omega)
  · rw [List.getElem?_map] at hd hv
    have hj : j < as.length := by
      cases e : as[j]? with
      | none => rw [e] at hv; cases hv
      | some a => exact (List.getElem?_eq_some_iff.mp e).1
    have e1 : as[j]? = some as[j] := List.getElem?_eq_getElem hj
    have e2 : ns[j]? = some (ns[j]'(by (first | lia | omega))) := List.getElem?_eq_getElem (by (first | lia | omega))
    have e3 : cs[j]? = some (cs[j]'(by (first | lia | omega))) := List.getElem?_eq_getElem (by (first | lia | omega))
    rw [e1] at hv; cases hv
    rw [(List.getElem?_zip_eq_some (z := (ns[j]'(by (first | lia | omega)), cs[j]'(by (first | lia | omega))))).mpr ⟨e2, e3⟩] at hd
    cases hd
    obtain ⟨h1, h2⟩ := h j as[j] _ _ e1 (by rw [List.getElem?_map, e2]; rfl) (by rw [List.getElem?_map, e3]; rfl)
    obtain ⟨ab, ac⟩ := bx.ne_new h1
    exact Den.pairOf (by rw [hid_of ab ac]; exact h2)
/-- a code of 1 to n signs -/
structure CodeOk (n : Nat) (x : Str) : Prop where
  bin : Bin x
  pos : 1 ≤ x.length
  le : x.length ≤ n
theorem CodeOk.mono {n m : Nat} {x : Str} (h : CodeOk n x) (le : n ≤ m) : CodeOk m x := ⟨h.bin, h.pos, Nat.le_trans h.le le⟩
theorem Bin.app {x y : Str} (h : Bin x) (h' : Bin y) : Bin (x ++ y) := fun ch hc => by
  rw [str_append_list] at hc
  rcases List.mem_append.mp hc with q | q
  · exact h ch q
  · exact h' ch q
theorem ne_nil_eq (cs : List Str) : (!PyData.eqv (.list (cs.map PyData.str)) (.list [])) = !cs.isEmpty := by
  cases cs <;> simp [PyData.eqv, PyData.eqvAll]
end Z

set_option Elab.async false
set_option linter.all false
set_option maxRecDepth 100000
set_option maxHeartbeats 4000000
namespace Z
open PySem L2
/-- the signs of a text -/
noncomputable abbrev sg (x : Str) : List Nat := x.cps.toList
/-- neither begins the other -/
noncomputable def RF (a b : Str) : Prop := ¬ (sg a <+: sg b) ∧ ¬ (sg b <+: sg a)
theorem RF.symm {a b : Str} (h : RF a b) : RF b a := ⟨h.2, h.1⟩
theorem sg_app (x y : Str) : sg (x ++ y) = sg x ++ sg y := str_append_list x y
theorem RF.ext {a b u v : Str} (h : RF a b) : RF (a ++ u) (b ++ v) := by
  refine ⟨fun z => ?_, fun z => ?_⟩
  · rw [sg_app, sg_app] at z
    rcases List.prefix_or_prefix_of_prefix ((List.prefix_append _ _).trans z) (List.prefix_append (sg b) (sg v)) with q | q
    · exact h.1 q
    · exact h.2 q
  · rw [sg_app, sg_app] at z
    rcases List.prefix_or_prefix_of_prefix ((List.prefix_append _ _).trans z) (List.prefix_append (sg a) (sg u)) with q | q
    · exact h.2 q
    · exact h.1 q
/-- free of one another -/
noncomputable abbrev Free (cs : List Str) : Prop := cs.Pairwise RF
theorem Free.perm {cs ds : List Str} (h : Free cs) (p : cs.Perm ds) : Free ds := (p.pairwise_iff fun h => RF.symm h).mp h
theorem Free.sub {cs ds : List Str} (h : Free cs) (s : ds.Sublist cs) : Free ds := List.Pairwise.sublist s h
noncomputable abbrev s0 : Str := "0"
noncomputable abbrev s1 : Str := "1"
theorem RF.two (x : Str) : RF (x ++ s0) (x ++ s1) := by
  have e0 : sg (x ++ s0) = sg x ++ [48] := str_append_list x s0
  have e1 : sg (x ++ s1) = sg x ++ [49] := str_append_list x s1
  refine ⟨fun z => ?_, fun z => ?_⟩
  · rw [e0, e1] at z
    have := z.eq_of_length (by simp)
    simp at this
  · rw [e0, e1] at z
    have := z.eq_of_length (by simp)
    simp at this
theorem RF.one {x y u : Str} (h : RF y x) : RF y (x ++ u) := by
  have z := h.ext (u := Str.empty) (v := u)
  have e : y ++ Str.empty = y := by
    show (⟨y.cps ++ #[]⟩ : Str) = y
    simp
  rw [e] at z
  exact z
/-- one code split into two -/
theorem Free.split {A B : List Str} {x : Str} (h : Free (A ++ x :: B)) : Free (A ++ [x ++ s0, x ++ s1] ++ B) := by
  rw [List.append_assoc]
  obtain ⟨hA, hxB, hAB⟩ := List.pairwise_append.mp h
  obtain ⟨hx, hB⟩ := List.pairwise_cons.mp hxB
  refine List.pairwise_append.mpr ⟨hA, ?_, fun a ha y hy => ?_⟩
  · refine List.pairwise_append.mpr ⟨List.pairwise_cons.mpr ⟨fun y hy => by rw [List.mem_singleton.mp hy]; exact RF.two x, List.pairwise_singleton _ _⟩, hB, fun y hy z hz => ?_⟩
    have q := (hx z hz).symm
    simp at hy
    rcases hy with rfl | rfl
    · exact q.one.symm
    · exact q.one.symm
  · rcases List.mem_append.mp hy with hy | hy
    · have q := hAB a ha x List.mem_cons_self
      simp at hy
      rcases hy with rfl | rfl
      · exact q.one
      · exact q.one
    · exact hAB a ha y (List.mem_cons_of_mem _ hy)
theorem split_at {cs : List Str} {k : Nat} {x : Str} (h : cs[k]? = some x) : cs = cs.take k ++ x :: cs.drop (k + 1) := by
  obtain ⟨hk, e⟩ := List.getElem?_eq_some_iff.mp h
  rw [← e, ← List.drop_eq_getElem_cons hk, List.take_append_drop]
theorem pop_perm {cs : List Str} {k : Nat} {x : Str} (h : cs[k]? = some x) : cs.Perm (x :: cs.eraseIdx k) := by
  have e := split_at h
  have e2 : cs.eraseIdx k = cs.take k ++ cs.drop (k + 1) := List.eraseIdx_eq_take_drop_succ _ _
  rw [e2]
  conv => lhs; rw [e]
  exact List.perm_middle
theorem free0 : Free [s0, s1] := by
  refine List.pairwise_cons.mpr ⟨fun y hy => ?_, List.pairwise_singleton _ _⟩
  rw [List.mem_singleton.mp hy]
  have := RF.two Str.empty
  exact this
end Z

set_option Elab.async false
set_option linter.all false
set_option maxRecDepth 100000
set_option maxHeartbeats 4000000
namespace Z
open PySem L2
theorem str_eq {x y : Str} (h : sg x = sg y) : x = y := by
  cases x; cases y
  simp only [sg] at h
  rw [Array.toList_inj.mp h]
end Z

set_option Elab.async false
set_option linter.all false
set_option maxRecDepth 100000
set_option maxHeartbeats 4000000
namespace Z
open PySem L2
theorem hid_same {H : Hp} {b c : Addr} : Same (hid H b c) H := fun a o e => (of_hid e).1
end Z

set_option Elab.async false
set_option linter.all false
set_option maxRecDepth 100000
set_option maxHeartbeats 4000000
namespace Z
open PySem L2
noncomputable def spBegin (K : PySem.W.Frag) : Sp := fun vs H Q _ => Ex2 fun (a : Addr) (ns : List Int) => vs = [.ref a] ∧ SqL K H a (ns.map V.int) ∧ ns.length ≤ 63 ∧
  ∀ (b c : Addr) (H' : Hp), Bx H' b c 0 → H b = none → H c = none → Same H (hid H' b c) → Q (.ref b) H'
theorem Den.ints {K : PySem.W.Frag} {H : Hp} : ∀ (ns : List Int), Dens K H (ns.map PyData.int) (ns.map V.int)
  | [] => by unfold Dens; rfl
  | n :: ns => by
    rw [List.map_cons, List.map_cons]
    unfold Dens
    exact ⟨_, _, rfl, by unfold Den; rfl, Den.ints ns⟩
theorem eqvNil (ds : List PyData) : PyData.eqv (.list ds) (.list []) = ds.isEmpty := by
  cases ds <;> simp [PyData.eqv, PyData.eqvAll]
theorem sh_ints {n : Nat} (ns : List Int) : Sh (n + 1) (.list (ns.map PyData.int)) := Sh.list fun d hd => by
  obtain ⟨i, _, rfl⟩ := List.mem_map.mp hd
  exact Sh.int
section
variable {P : Program} {w : World} {K : PySem.W.Frag} {mg : Str → Option Value} {base : Heap} {f : Addr} {fd : FuncData}
theorem sc_law_begin : FnScope ["_law_script", "_law_cells"] ["_law_script"] (defScope (top i_law_begin)) := ⟨rfl, rfl, rfl, by decide +kernel, rfl, by decide +kernel, by decide +kernel⟩
theorem ok_begin (F : Fun K "_law_begin" "_law_begin" (top i_law_begin) f fd) (T : Nm mg) : FnOk P w K mg base CX0 1 f fd ["_law_script"] (spBegin K) := by
  refine F.ok sc_law_begin (fun vs H Q E h => ?_) (fun cdv A outer s H vs Q E hr h => ?_)
  · obtain ⟨a, ns, rfl, _⟩ := h
    rfl
  obtain ⟨a, ns, rfl, hS, hlen, q⟩ := h
  have hu6 := hr.units
  refine ⟨_, (pss_cons (ps_set (i := 1) sc_law_begin.nd rfl (Or.inl rfl) (pe_callTy (listN K) rfl T.n_list (by rfl) (pa_cons (pe_slice (slN K) (pv 0) po_none (po_some pe_int)) pa_nil)))
    (pss_cons (ps_if (pt_cmpR (eqK K hu6) (pv 1) (lstN pa_nil) (nomark _)) (pss_one (ps_set (i := 1) sc_law_begin.nd rfl (Or.inl rfl) (lstN (pa_cons pe_int pa_nil)))) pss_nil)
    (pss_one (ps_ret (dispN (pps_cons pe_str (pv 1) (pps_cons pe_str pe_int pps_nil)) rfl rfl (by decide) (by decide)))))), ?_⟩
  refine ⟨_, rfl, _, rfl, .inl ⟨a, _, rfl, hS, fun r1 H1 n1 => ?_⟩⟩
  refine ⟨r1, _, rfl, .inl (SqL.of n1.at), fun r2 H2 n2 => gn ?_⟩
  have hc : cutV (ns.map V.int) none (some 63) = ns.map V.int := by
    have e := cut_to (ns.map V.int) 63
    rw [List.take_of_length_le (by rw [List.length_map]; exact hlen)] at e
    exact e
  have hn2 : H2 r2 = some (.lst (ns.map V.int)) := by rw [← hc]; exact n2.at
  have sm2 := n1.same.trans n2.same
  dsimp only
  refine seqCut (t := tIfS _ _ _) (fun σ H' => ∃ (r : Addr) (ns' : List Int), σ = [some (.ref a), some (.ref r)] ∧ H' r = some (.lst (ns'.map V.int)) ∧ 0 < ns'.length ∧ ns'.length ≤ 64 ∧ H r = none ∧ Same H H') (fun Nx nx => ?_) ?_
  · refine ⟨_, rfl, by show 0 ≤ sizeLine; decide, fun r3 H3 n3 => ?_⟩
    have d2 : Den K H3 (.list (ns.map PyData.int)) (.ref r2) := Den.list (SqL.of (n3.same _ _ hn2)) (Den.ints ns)
    have d3 : Den K H3 (.list []) (.ref r3) := Den.list (SqL.of n3.at) (Den.ints [])
    refine .inr ⟨_, _, d2, d3, (sh_ints (n := 1) ns).shaped (by decide), by decide +kernel, _, rfl, ?_⟩
    rw [eqvNil]
    refine ite2 (fun e => ?_) (fun e => ?_)
    · refine ⟨by show 1 ≤ sizeLine; decide, fun r4 H4 n4 => gn (nx _ _ ⟨r4, [_], rfl, n4.at, by decide, by decide, (sm2.trans n3.same).free n4.nn, sm2.trans (n3.same.trans n4.same)⟩)⟩
    · refine nx _ _ ⟨r2, ns, rfl, n3.same _ _ hn2, ?_, by (first | lia | omega), n1.same.free n2.nn, sm2.trans n3.same⟩
      cases ns with
      | nil => exact absurd rfl e
      | cons _ _ => exact Nat.succ_pos _
  rintro σ H3 ⟨r, ns', rfl, hr', l0, l1, hn, sm⟩
  intro p H0 n0
  refine ⟨_, rfl, ?_⟩
  refine ⟨n0.at, [(.inr "cells", .ref r), (.inr "turn", .int 0)], rfl, by show 2 ≤ 15; decide, fun H6 n6 => ?_⟩
  have hpr : r ≠ p := ne_of_none hr' n0.nn
  have hp : H p = none := sm.free n0.nn
  refine q p r H6 ⟨ns', ?_, ?_, l0, l1⟩ hp hn (fun b o e => ?_)
  · rw [n6.at]; rfl
  · rw [n6.ne hpr, n0.ne hpr]; exact hr'
  · have hb1 : b ≠ p := ne_of_none e hp
    have hb2 : b ≠ r := ne_of_none e hn
    rw [hid_of hb1 hb2, n6.ne hb1, n0.ne hb1]
    exact sm _ _ e
end
end Z

set_option Elab.async false
set_option linter.all false
set_option maxRecDepth 100000
set_option maxHeartbeats 4000000
namespace Z
open PySem L2
/-! books as dicts, texts of codes (k08) -/
theorem take_next {α : Type} {l : List α} {i : Nat} (h : i < l.length) : l.take (i + 1) = l.take i ++ [l[i]] := by
  rw [List.take_succ, List.getElem?_eq_getElem h]; rfl
theorem sl_over (i j : Int) (n : Nat) (h : n ≤ j) : PySem.Builtin.Str.strSliceIndices (some i) (some j) 1 n = PySem.Builtin.Str.strSliceIndices (some i) (some (n : Int)) 1 n := by
  unfold PySem.Builtin.Str.strSliceIndices
  dsimp only
  congr 1
  have a : ¬ j < 0 := by (first | lia | omega)
  have b : ¬ ((n : Nat) : Int) < 0 := by (first | lia | omega)
  rw [if_neg a, if_neg b]
  (first | lia | omega)
theorem sl_mid {x : Str} {p q : Nat} (h1 : p ≤ q) (h2 : p ≤ x.length) : sg (Txt.slice x (some (p : Int)) (some (q : Int))) = ((sg x).drop p).take (q - p) := by
  by_cases hq : q ≤ x.length
  · have e := PyProof.Rows.slice_closes (x := x) (i := p) (j := q) ⟨by (first | lia | omega), by (first | lia | omega), by rw [← str_len]; (first | lia | omega)⟩
    rw [eq_of_beq e]
    show (((sg x).drop (p : Int).toNat).take ((q : Int) - p).toNat).toArray.toList = _
    rw [List.toList_toArray]
    congr 1
    (first | lia | omega)
  · have e := PyProof.Rows.slice_closes (x := x) (i := p) (j := (x.length : Int)) ⟨by (first | lia | omega), by (first | lia | omega), by rw [← str_len]; (first | lia | omega)⟩
    have e2 : Txt.slice x (some (p : Int)) (some (q : Int)) = Txt.slice x (some (p : Int)) (some ((x.length : Nat) : Int)) := by
      unfold Txt.slice
      rw [sl_over _ _ _ (show ((x.length : Nat) : Int) ≤ q by (first | lia | omega))]
    rw [e2, eq_of_beq e]
    show (((sg x).drop (p : Int).toNat).take ((x.length : Int) - p).toNat).toArray.toList = _
    rw [List.toList_toArray, List.take_of_length_le, List.take_of_length_le]
    · rfl
    · rw [List.length_drop, ← str_len]; (first | lia | omega)
    · rw [List.length_drop, ← str_len]; (first | lia | omega)
/-- the pairs of a text's names -/
noncomputable def Of (bk : List (Str × Str)) (ps : List (Str × Str)) : Prop := ∀ q ∈ ps, q ∈ bk
noncomputable def tx (ps : List (Str × Str)) : List Nat := ps.flatMap fun q => sg q.2
end Z

set_option Elab.async false
set_option linter.all false
set_option maxRecDepth 200000
set_option maxHeartbeats 4000000
namespace Z
open PySem L2
/-! a book in the heap, as a dict; texts of its codes (split off k08's blocks) -/
/-- a book lies there -/
noncomputable def BkL (K : PySem.W.Frag) (H : Hp) (bk : List (Str × Str)) (l : Addr) : Prop := ∃ vs, SqL K H l vs ∧ Dens K H (bk.map fun q => .tuple [.str q.1, .str q.2]) vs
theorem BkL.same {K : PySem.W.Frag} {H H' : Hp} {bk : List (Str × Str)} {l : Addr} (h : BkL K H bk l) (s : Same H H') : BkL K H' bk l := by
  obtain ⟨vs, h1, h2⟩ := h
  exact ⟨vs, s.seq h1, h2.same s⟩
theorem bk_at {K : PySem.W.Frag} {H : Hp} {bk : List (Str × Str)} {vs : List V} (h : Dens K H (bk.map fun q => .tuple [.str q.1, .str q.2]) vs) {i : Nat} (hi : i < bk.length) : ∃ tp, vs[i]? = some (.ref tp) ∧ SqT K H tp [.str bk[i].1, .str bk[i].2] := by
  obtain ⟨v, h1, h2⟩ := h.get (i := i) (d := .tuple [.str bk[i].1, .str bk[i].2]) (by rw [List.getElem?_map, List.getElem?_eq_getElem hi]; rfl)
  obtain ⟨tp, rfl, h3⟩ := h2.pair
  exact ⟨tp, h1, h3⟩
theorem bk_len {K : PySem.W.Frag} {H : Hp} {bk : List (Str × Str)} {vs : List V} (h : Dens K H (bk.map fun q => .tuple [.str q.1, .str q.2]) vs) : vs.length = bk.length := by rw [h.len, List.length_map]
theorem tx_app (a b : List (Str × Str)) : tx (a ++ b) = tx a ++ tx b := List.flatMap_append
end Z

set_option Elab.async false
set_option linter.all false
set_option maxRecDepth 100000
set_option maxHeartbeats 4000000
namespace Z
open PySem L2
/-! books that are free by their make (k09) -/
end Z

set_option Elab.async false
set_option linter.all false
set_option maxRecDepth 100000
set_option maxHeartbeats 4000000
namespace Z
open PySem L2
/-! names that end in a, b, c .. (k58) -/
/-- the name at place i -/
structure EndAt (i : Nat) (x : Str) : Prop where
  le : x.length ≤ 8
  last : x.cps.toList.getLast? = some (97 + i)
theorem EndAt.nodup {xs : List Str} (h : ∀ (i : Nat) x, xs[i]? = some x → EndAt i x) : xs.Nodup := by
  refine List.nodup_iff_pairwise_ne.mpr (List.pairwise_iff_getElem.mpr fun i j hi hj hij e => ?_)
  have h1 := (h i _ (List.getElem?_eq_getElem hi)).last
  have h2 := (h j _ (List.getElem?_eq_getElem hj)).last
  rw [e, h2] at h1
  have h1 := Option.some.inj h1
  (first | lia | omega)
theorem ones_len : ∀ {xs : List Str}, (∀ x ∈ xs, ∃ ch : Nat, x = ⟨#[ch]⟩) → (xs.flatMap (fun p => p.cps.toList)).length = xs.length ∧ (xs.map (·.length)).sum = xs.length
  | [], _ => ⟨rfl, rfl⟩
  | x :: r, h => by
    obtain ⟨ch, rfl⟩ := h x List.mem_cons_self
    obtain ⟨h1, h3⟩ := ones_len fun y hy => h y (List.mem_cons_of_mem _ hy)
    refine ⟨by simp at h1 ⊢; (first | lia | omega), ?_⟩
    rw [List.map_cons, List.sum_cons, h3]
    show 1 + _ = _
    simp; (first | lia | omega)
section
variable {P : Program} {w : World} {K : PySem.W.Frag} {mg : Str → Option Value} {base : Heap} {f : Addr} {fd : FuncData}
theorem sc_law_names : FnScope ["_law_state", "_law_many", "_law_letters", "_law_found", "_law_k"] ["_law_state", "_law_many"] (defScope (top i_law_names)) := ⟨rfl, rfl, rfl, by decide +kernel, rfl, by decide +kernel, by decide +kernel⟩
end
end Z

set_option Elab.async false
set_option linter.all false
set_option maxRecDepth 100000
set_option maxHeartbeats 4000000
namespace Z
open PySem L2
/-! free codes by leaves (k58) -/
noncomputable def spFr : Sp := fun vs H Q _ => ∃ (b c : Addr) (t many most : Int), vs = [.ref b, .int many, .int most] ∧ Bx H b c t ∧ 0 ≤ t ∧ t < 900000 ∧ 1 ≤ many ∧ many ≤ 8 ∧ 1 ≤ most ∧ most ≤ 8 ∧
  ∀ (cs : List Str) (l : Addr) (H' : Hp) (t' : Int), cs ≠ [] → (cs.length : Int) ≤ many → Free cs → (∀ x ∈ cs, CodeOk most.toNat x) → Step b c H H' t t' 40 → H l = none → H' l = some (.lst (cs.map V.str)) → Q (.ref l) H'
theorem code0 {n : Nat} (h : 1 ≤ n) : CodeOk n s0 := ⟨fun ch hc => .inl (by have : ch ∈ [48] := hc; simpa using this), by decide +kernel, h⟩
theorem code1 {n : Nat} (h : 1 ≤ n) : CodeOk n s1 := ⟨fun ch hc => .inr (by have : ch ∈ [49] := hc; simpa using this), by decide +kernel, h⟩
theorem CodeOk.app0 {n : Nat} {x : Str} (h : CodeOk n x) (hl : x.length < n) : CodeOk n (x ++ s0) := by
  have e : s0.length = 1 := by decide +kernel
  exact ⟨h.bin.app (code0 (n := 1) (by decide)).bin, by rw [len_append]; (first | lia | omega), by rw [len_append]; (first | lia | omega)⟩
theorem CodeOk.app1 {n : Nat} {x : Str} (h : CodeOk n x) (hl : x.length < n) : CodeOk n (x ++ s1) := by
  have e : s1.length = 1 := by decide +kernel
  exact ⟨h.bin.app (code1 (n := 1) (by decide)).bin, by rw [len_append]; (first | lia | omega), by rw [len_append]; (first | lia | omega)⟩
theorem erase_map (xs : List Str) (k : Nat) : (xs.map V.str).eraseIdx k = (xs.eraseIdx k).map V.str := by
  rw [List.eraseIdx_eq_take_drop_succ, List.eraseIdx_eq_take_drop_succ, List.map_append, List.map_take, List.map_drop]
theorem sh_bins {cs : List Str} (h : ∀ x ∈ cs, Bin x) : SeqAt.shaped (.list (cs.map PyData.str)) = true := (Sh.list (n := 0) fun d hd => by
      obtain ⟨x, hx, rfl⟩ := List.mem_map.mp hd
      exact Sh.str (canLay_small fun ch hc => by rcases h x hx ch hc with e | e <;> (first | lia | omega))).shaped (by decide)
theorem sh_nil : SeqAt.shaped (.list []) = true := (Sh.list (n := 0) fun d hd => by simp at hd).shaped (by decide)
section
variable {P : Program} {w : World} {K : PySem.W.Frag} {mg : Str → Option Value} {base : Heap} {f : Addr} {fd : FuncData}
theorem sc_law_free : FnScope ["_law_state", "_law_many", "_law_most", "_law_leaves", "_law_more", "_law_turn", "_law_some", "_law_leaf", "_law_found"] ["_law_state", "_law_many", "_law_most"] (defScope (top i_law_free)) := ⟨rfl, rfl, rfl, by decide +kernel, rfl, by decide +kernel, by decide +kernel⟩
theorem ok_free (F : Fun K "_law_free" "_law_free" (top i_law_free) f fd) (T : Nm mg) (f_law_take : Fn P w K mg base 1 "_law_take" ["_law_state", "_law_many"] spTk) : FnOk P w K mg base CX0 2 f fd ["_law_state", "_law_many", "_law_most"] spFr := by
  refine F.ok sc_law_free (fun vs H Q E h => ?_) (fun cdv A outer s H vs Q E hr h => ?_)
  · obtain ⟨b, c, t, many, most, rfl, _⟩ := h
    rfl
  obtain ⟨b, c, t, many, most, rfl, bx, t0, t1, m0, m1, o0, o1, q⟩ := h
  have hu6 := hr.units
  have z1 : sizeLine ≥ 10000000 := by decide
  refine ⟨_, (pss_cons (ps_set (i := 3) sc_law_free.nd rfl (Or.inl rfl) (lstN (pa_cons pe_str (pa_cons pe_str pa_nil))))
    (pss_cons (ps_set (i := 4) sc_law_free.nd rfl (Or.inl rfl) (pe_fn (f_law_take.mono (by first | decide | exact Nat.le_refl _ | (first | lia | omega))) hr rfl (pa_cons (pv 0) (pa_cons pe_int pa_nil))))
    (pss_cons (ps_for PassesOwn.never rfl (pi_range1 rfl T.n_range (pa_cons (pv 1) pa_nil)) (pg_name (i := 5) sc_law_free.nd rfl (Or.inl rfl)) (pss_cons (ps_setcomp (i := 6) sc_law_free.nd rfl (Or.inl rfl) rfl (comp_ok (Nc := ["_law_leaf"]) (Fc := ["_law_most"]) (js := [2])) (piK K (pv 3)) (gk_name (i := 0) (n := 1) (by decide)) (fun _ _ _ _ _ => (pg_name (i := 0) (show (["_law_leaf", "_law_most"] : List Str).Nodup by decide +kernel) rfl (Or.inl rfl))) (fun _ _ _ _ _ => (pts_one (pt_cmpR op_lt (pe_callB (lenK K) rfl T.n_len (by rfl) (pa_cons (pv 0) pa_nil)) (pv 1) (nomark _)))) (fun _ _ _ _ _ => (pv 0)))
    (pss_one (ps_if (PW.pt (pw_and (pt_cmpR (neK K hu6) (pv 6) (lstN pa_nil) (nomark _)) (pw_and1 (pt_cmpR op_lt (pe_callB (lenK K) rfl T.n_len (by rfl) (pa_cons (pv 3) pa_nil)) (pe_op addN (pv 1) (pv 4)) (nomark _))))) (pss_cons (ps_set (i := 7) sc_law_free.nd rfl (Or.inl rfl) (pe_ix (ixK K) (pv 6) (pe_fn (f_law_take.mono (by first | decide | exact Nat.le_refl _ | (first | lia | omega))) hr rfl (pa_cons (pv 0) (pa_cons (pe_callB (lenK K) rfl T.n_len (by rfl) (pa_cons (pv 6) pa_nil)) pa_nil))) (fun _ _ => rfl)))
    (pss_cons (ps_expr (bmK K PySem.F.plainAttrs_list PySem.F.slot_list_remove PySem.F.type_list_remove removeS (pv 3) (pa_cons (pv 7) pa_nil)))
    (pss_one (ps_set (i := 3) sc_law_free.nd rfl (Or.inl rfl) (pe_op addN (pv 3) (lstN (pa_cons (pe_op addN (pv 7) pe_str) (pa_cons (pe_op addN (pv 7) pe_str) pa_nil)))))))) pss_nil))))
    (pss_cons (ps_set (i := 8) sc_law_free.nd rfl (Or.inl rfl) (lstN pa_nil))
    (pss_cons (ps_while PassesOwn.never (PW.pt (pw_and (pt_cmpR (neK K hu6) (pv 3) (lstN pa_nil) (nomark _)) (pw_and1 (pt_cmpR op_lt (pe_callB (lenK K) rfl T.n_len (by rfl) (pa_cons (pv 8) pa_nil)) (pv 1) (nomark _))))) (pss_one (ps_expr (bmK K PySem.F.plainAttrs_list PySem.F.slot_list_append PySem.F.type_list_append appendN (pv 8) (pa_cons (bmK K PySem.F.plainAttrs_list PySem.F.slot_list_pop PySem.F.type_list_pop popAtN (pv 3) (pa_cons (pe_fn (f_law_take.mono (by first | decide | exact Nat.le_refl _ | (first | lia | omega))) hr rfl (pa_cons (pv 0) (pa_cons (pe_callB (lenK K) rfl T.n_len (by rfl) (pa_cons (pv 3) pa_nil)) pa_nil))) pa_nil)) pa_nil)))))
    (pss_one (ps_ret (pv 8)))))))), ?_⟩
  refine ⟨by show 2 ≤ sizeLine; decide, fun l1 H1 n1 => gn ?_⟩
  obtain ⟨lb1, lc1⟩ := bx.ne_new n1.nn
  have st1 := (Step.refl bx).newN n1
  refine ⟨_, rfl, b, c, t, 3, rfl, st1.bx, by (first | lia | omega), by (first | lia | omega), by decide, by decide, fun mo H2 mo0 mo1 st2 => gn ?_⟩
  have hl2 := st2.old n1.at lb1 lc1
  have st2 := st1.trans st2
  dsimp only
  refine seqCut (t := tFor _ _ _) (fun σ H' => ∃ cs l t' x5 x6 x7, σ = [some (.ref b), some (.int many), some (.int most), some (.ref l), some (.int mo), x5, x6, x7, none] ∧ 1 ≤ cs.length ∧ (cs.length : Int) ≤ many + mo + 1 ∧ Free cs ∧ (∀ x ∈ cs, CodeOk most.toNat x) ∧
    Step b c H H' t t' 9 ∧ H l = none ∧ l ≠ b ∧ l ≠ c ∧ H' l = some (.lst (cs.map V.str))) (fun Nx nx => ?_) ?_
  · refine ⟨_, rfl, _, rfl, by (first | lia | omega), by (first | lia | omega), ?_⟩
    refine for_range (lo := 0) (n := many.toNat) (fun i σ H' => ∃ cs l t' x5 x6 x7, σ = [some (.ref b), some (.int many), some (.int most), some (.ref l), some (.int mo), x5, x6, x7, none] ∧ 1 ≤ cs.length ∧ (cs.length : Int) ≤ many + mo + 1 ∧ Free cs ∧ (∀ x ∈ cs, CodeOk most.toNat x) ∧
      Step b c H H' t t' (1 + i) ∧ H l = none ∧ l ≠ b ∧ l ≠ c ∧ H' l = some (.lst (cs.map V.str))) ⟨[s0, s1], l1, _, _, _, _, rfl, by decide, by show (2 : Int) ≤ many + mo + 1; (first | lia | omega), free0, ?_, st2.more (by (first | lia | omega)), n1.nn, lb1, lc1, hl2⟩ ?_ ?_
    · intro x hx
      simp at hx
      rcases hx with rfl | rfl
      · exact code0 (by (first | lia | omega))
      · exact code1 (by (first | lia | omega))
    · rintro i σ H3 hi ⟨cs, l, t3, x5, x6, x7, rfl, hc1, hcm, fr, ok, st3, hl, lb, lc, hl3⟩
      have hub := st3.ub
      have hlo := st3.le
      have hlen : (cs.map V.str).length = cs.length := List.length_map _
      have atc : ∀ {k : Nat} (hk : k < cs.length), (cs.map V.str)[k]? = some (.str cs[k]) := fun hk => by rw [List.getElem?_map, List.getElem?_eq_getElem hk]; rfl
      dsimp only
      refine asgCut (te := tComp _ _ _ _ _ _) (fun v H' => ∃ (ss : List Str) (p : Addr), v = .ref p ∧ New H3 p (.lst (ss.map V.str)) H' ∧ ss.length ≤ cs.length ∧ ∀ x ∈ ss, x ∈ cs ∧ (x.length : Int) < most) (fun Qn qn => ?_) ?_
      · refine ⟨_, rfl, l, rfl, ⟨_, SqL.of hl3⟩, ?_⟩
        refine comp_goN (N := cs.length) (fun k ys H' => H' = H3 ∧ ∃ ss : List Str, ys = ss.map V.str ∧ ss.length ≤ k ∧ ∀ x ∈ ss, x ∈ cs ∧ (x.length : Int) < most) ⟨rfl, [], rfl, Nat.le_refl _, (fun _ h => nomatch h)⟩ ?_ ?_
        · rintro k ys H4 Ny hk ⟨rfl, ss, rfl, hss, hs⟩ ny
          refine ⟨⟨_, _, SqL.of hl3, atc hk⟩, by rw [List.length_map]; (first | lia | omega), ?_⟩
          rintro x H5 ⟨rfl, hy⟩
          have e := hy _ (SqL.of hl3)
          rw [atc hk] at e; cases e
          have hle := (ok _ (List.getElem_mem hk)).le
          refine gn ⟨_, rfl, _, _, rfl, ⟨sizeOk (by (first | lia | omega)), rfl⟩, _, rfl, _, _, rfl, rfl, _, rfl, ite2 (fun e => ?_) (fun e => ny _ _ ⟨rfl, ss, rfl, by (first | lia | omega), hs⟩)⟩
          have e := of_decide_eq_true e
          refine ⟨_, rfl, ny _ _ ⟨rfl, ss ++ [cs[k]], by rw [List.map_append]; rfl, by rw [List.length_append]; show _ + 1 ≤ _; (first | lia | omega), fun x hx => ?_⟩⟩
          rcases List.mem_append.mp hx with hx | hx
          · exact hs x hx
          · rw [List.mem_singleton.mp hx]; exact ⟨List.getElem_mem hk, e⟩
        · rintro ys H4 ⟨rfl, ss, rfl, hss, hs⟩
          exact ⟨⟨_, SqL.of hl3, by (first | lia | omega)⟩, fun p H5 n5 => qn _ _ ⟨ss, p, rfl, n5, hss, hs⟩⟩
      rintro v H4 ⟨ss, p, rfl, n4, hss, hs⟩
      refine gn ?_
      have hl4 := n4.same _ _ hl3
      have st4 := st3.newN n4
      obtain ⟨pb, pc⟩ := st3.bx.ne_new n4.nn
      have bins : ∀ x ∈ ss, Bin x := fun x hx => (ok x (hs x hx).1).bin
      refine ⟨_, rfl, by show 0 ≤ sizeLine; decide, fun p5 H5 n5 => .inr ⟨_, _, Den.list (SqL.of (n5.same _ _ n4.at)) (Den.strs _), Den.list (SqL.of n5.at) (by unfold Dens; rfl), sh_bins bins, sh_nil, _, rfl, ?_⟩⟩
      rw [ne_nil_eq]
      have hl5 := n5.same _ _ hl4
      have hp5 := n5.same _ _ n4.at
      have st5 := st4.newN n5
      by_cases hss0 : ss = []
      · have e : (!ss.isEmpty) = false := by rw [hss0]; rfl
        rw [e]
        exact iteF (iteF ⟨cs, l, _, _, _, _, rfl, hc1, hcm, fr, ok, st5.more (by (first | lia | omega)), hl, lb, lc, hl5⟩)
      have e : (!ss.isEmpty) = true := by cases ss with | nil => exact absurd rfl hss0 | cons _ _ => rfl
      rw [e]
      have hpos : 0 < ss.length := List.length_pos_iff.mpr hss0
      refine iteT ⟨_, rfl, _, _, rfl, .inl ⟨_, SqL.of hl5, rfl⟩, _, rfl, _, rfl, .inl ⟨_, _, rfl, rfl, _, _, rfl, rfl, _, rfl, ite2 (fun e2 => ?_) (fun e2 => ⟨cs, l, _, _, _, _, rfl, hc1, hcm, fr, ok, st5.more (by (first | lia | omega)), hl, lb, lc, hl5⟩)⟩⟩
      have e2 : (cs.length : Int) < many + mo := by have := of_decide_eq_true e2; rw [hlen] at this; exact this
      have slen : (ss.map V.str).length = ss.length := List.length_map _
      refine ⟨_, rfl, _, rfl, _, rfl, _, _, rfl, .inl ⟨_, SqL.of hp5, rfl⟩, b, c, _, _, rfl, st5.bx, by (first | lia | omega), by (first | lia | omega), by (first | lia | omega), by (first | lia | omega), fun r H6 r0 r1 st6 => ?_⟩
      have hr' : r.toNat < ss.length := by (first | lia | omega)
      have hp6 := st6.old hp5 pb pc
      have hl6 := st6.old hl5 lb lc
      have st6 := st5.trans st6
      have hat : atI (ss.map V.str) r = some (.str ss[r.toNat]) := at_nat r0 (by rw [List.getElem?_map, List.getElem?_eq_getElem hr']; rfl)
      obtain ⟨hin, hlt⟩ := hs _ (List.getElem_mem hr')
      generalize ss[r.toNat] = x at hat hin hlt
      refine .inl ⟨p, _, _, _, rfl, rfl, SqL.of hp6, hat, gn ?_⟩
      dsimp only
      refine ⟨_, rfl, .inl ⟨rfl, _, SqL.of hl6⟩, _, rfl, l, cs, x, rfl, rfl, hl6, hin, fun H7 c7 => ?_⟩
      have st7 := st6.chgN c7 hl lb lc
      have e0 : s0.length = 1 := by decide +kernel
      have e1 : s1.length = 1 := by decide +kernel
      refine ⟨_, rfl, _, rfl, .inr (.inl ⟨_, _, rfl, rfl, sizeOk (by rw [e0]; (first | lia | omega)), _, rfl, .inr (.inl ⟨_, _, rfl, rfl, sizeOk (by rw [e1]; (first | lia | omega)), by show 2 ≤ sizeLine; decide, fun p8 H8 n8 => ?_⟩)⟩)⟩
      have hel : (cs.erase x).length = cs.length - 1 := List.length_erase_of_mem hin
      refine .inr (.inr ⟨l, p8, _, _, rfl, rfl, n8.same _ _ c7.at, n8.at, by rw [List.length_map, hel]; exact sizeOk (by show _ + 2 ≤ _; (first | lia | omega)), fun p9 H9 n9 => gn ?_⟩)
      have st8 := st7.newN n8
      obtain ⟨pb9, pc9⟩ := st8.bx.ne_new n9.nn
      have okx := ok x hin
      refine ⟨cs.erase x ++ [x ++ s0, x ++ s1], p9, _, _, _, _, rfl, by rw [List.length_append]; show _ ≤ _ + 2; (first | lia | omega), ?_, ?_, fun y hy => ?_, (st8.newN n9).more (by (first | lia | omega)), st8.fresh bx n9.nn, pb9, pc9, ?_⟩
      · rw [List.length_append, hel]
        show (((cs.length - 1 + 2 : Nat)) : Int) ≤ _
        (first | lia | omega)
      · have h2 : Free (cs.erase x ++ x :: []) := fr.perm ((List.perm_cons_erase hin).trans (List.perm_append_singleton x _).symm)
        have h3 := Free.split h2
        rwa [List.append_nil] at h3
      · rcases List.mem_append.mp hy with hy | hy
        · exact ok y (List.mem_of_mem_erase hy)
        · simp at hy
          rcases hy with rfl | rfl
          · exact okx.app0 (by (first | lia | omega))
          · exact okx.app1 (by (first | lia | omega))
      · rw [n9.at, List.map_append]; rfl
    · rintro σ H3 ⟨cs, l, t3, x5, x6, x7, rfl, hc1, hcm, fr, ok, st3, hl, lb, lc, hl3⟩
      exact nx _ _ ⟨cs, l, t3, x5, x6, x7, rfl, hc1, hcm, fr, ok, st3.more (by (first | lia | omega)), hl, lb, lc, hl3⟩
  rintro σ H3 ⟨cs, l, t3, x5, x6, x7, rfl, hc1, hcm, fr, ok, st3, hl, lb, lc, hl3⟩
  have hub := st3.ub
  have hlo := st3.le
  refine ⟨by show 0 ≤ sizeLine; decide, fun fp H4 n4 => gn ?_⟩
  dsimp only
  have hf : H fp = none := st3.fresh bx n4.nn
  obtain ⟨fb, fc⟩ := st3.bx.ne_new n4.nn
  have lf : l ≠ fp := fun z => by have := n4.nn; rw [← z, hl3] at this; cases this
  refine seqCut (t := tWhile _ _) (fun σ H' => ∃ (fs : List Str) (t' : Int) (x3 : Option V), σ = [some (.ref b), some (.int many), some (.int most), x3, some (.int mo), x5, x6, x7, some (.ref fp)] ∧ fs ≠ [] ∧ (fs.length : Int) ≤ many ∧ Free fs ∧ (∀ x ∈ fs, CodeOk most.toNat x) ∧ Step b c H H' t t' 40 ∧ H' fp = some (.lst (fs.map V.str))) (fun Nx nx => ?_) ?_
  · refine whileGo (fun m σ H' => ∃ (fs ds : List Str) (t' : Int), m = ds.length ∧ σ = [some (.ref b), some (.int many), some (.int most), some (.ref l), some (.int mo), x5, x6, x7, some (.ref fp)] ∧ (fs ++ ds).Perm cs ∧ (fs.length : Int) ≤ many ∧ Step b c H H' t t' (9 + fs.length) ∧ H' fp = some (.lst (fs.map V.str)) ∧ H' l = some (.lst (ds.map V.str))) ⟨_, [], cs, t3, rfl, rfl, List.Perm.refl _, by show (0 : Int) ≤ _; (first | lia | omega), (st3.newN n4).more (by show (9 : Int) ≤ 9 + 0; decide), n4.at, n4.same _ _ hl3⟩ ?_
    rintro m σ H5 ⟨fs, ds, t5, rfl, rfl, pm, hfl, st5, hf5, hl5⟩
    have hub5 := st5.ub
    have hlo5 := st5.le
    have hll : fs.length + ds.length = cs.length := by rw [← List.length_append]; exact pm.length_eq
    have okd : ∀ x ∈ ds, CodeOk most.toNat x := fun x hx => ok x (pm.subset (List.mem_append_right _ hx))
    have okf : ∀ x ∈ fs, CodeOk most.toNat x := fun x hx => ok x (pm.subset (List.mem_append_left _ hx))
    have frf : Free fs := (fr.perm pm.symm).sub (List.sublist_append_left _ _)
    have dlen : (ds.map V.str).length = ds.length := List.length_map _
    have flen : (fs.map V.str).length = fs.length := List.length_map _
    have fin : ∀ {H' : Hp}, (ds = [] ∨ ¬ (fs.length : Int) < many) → Step b c H H' t t5 (9 + fs.length) → H' fp = some (.lst (fs.map V.str)) → Nx [some (.ref b), some (.int many), some (.int most), some (.ref l), some (.int mo), x5, x6, x7, some (.ref fp)] H' := fun {H'} hend st' hf' => by
      refine nx _ _ ⟨fs, t5, _, rfl, fun z => ?_, hfl, frf, okf, st'.more (by (first | lia | omega)), hf'⟩
      have hz : fs.length = 0 := by rw [z]; rfl
      rcases hend with h | h
      · have : ds.length = 0 := by rw [h]; rfl
        (first | lia | omega)
      · (first | lia | omega)
    refine ⟨_, rfl, by show 0 ≤ sizeLine; decide, fun p6 H6 n6 => .inr ⟨_, _, Den.list (SqL.of (n6.same _ _ hl5)) (Den.strs _), Den.list (SqL.of n6.at) (by unfold Dens; rfl), sh_bins (fun x hx => (okd x hx).bin), sh_nil, _, rfl, ?_⟩⟩
    rw [ne_nil_eq]
    have hl6 := n6.same _ _ hl5
    have hf6 := n6.same _ _ hf5
    have st6 := st5.newN n6
    by_cases hds : ds = []
    · have e : (!ds.isEmpty) = false := by rw [hds]; rfl
      rw [e]
      exact iteF (iteF (fin (.inl hds) st6 hf6))
    have e : (!ds.isEmpty) = true := by cases ds with | nil => exact absurd rfl hds | cons _ _ => rfl
    rw [e]
    have dpos : 0 < ds.length := List.length_pos_iff.mpr hds
    refine iteT ⟨_, rfl, _, _, rfl, .inl ⟨_, SqL.of hf6, rfl⟩, _, rfl, _, _, rfl, rfl, _, rfl, ite2 (fun e2 => ?_) (fun e2 => fin (.inr fun z => e2 (decide_eq_true (by rw [flen]; exact z))) st6 hf6)⟩
    have e2 : (fs.length : Int) < many := by have := of_decide_eq_true e2; rw [flen] at this; exact this
    refine ⟨fun σ' H' => ∃ m', m' < ds.length ∧ _, fun _ _ h => h, ?_⟩
    refine ⟨_, rfl, .inl ⟨rfl, _, SqL.of hf6⟩, _, rfl, .inl ⟨rfl, _, SqL.of hl6⟩, _, rfl, _, rfl, _, _, rfl, .inl ⟨_, SqL.of hl6, rfl⟩, b, c, t5, _, rfl, st6.bx, by (first | lia | omega), by (first | lia | omega), by (first | lia | omega), by (first | lia | omega), fun a H7 a0 a1 st7 => ?_⟩
    have hl7 := st7.old hl6 lb lc
    have hf7 := st7.old hf6 fb fc
    have st7 := st6.trans st7
    obtain ⟨x, hx⟩ : ∃ x, ds[a.toNat]? = some x := ⟨_, List.getElem?_eq_getElem (by (first | lia | omega))⟩
    refine ⟨l, _, a, _, rfl, rfl, hl7, a0, by (first | lia | omega), by rw [List.getElem?_map, hx]; rfl, fun H8 c8 => ?_⟩
    have hf8 : H8 fp = some (.lst (fs.map V.str)) := by rw [c8.ne (Ne.symm lf)]; exact hf7
    have st8 := st7.chgN c8 hl lb lc
    refine ⟨fp, _, _, rfl, rfl, hf8, by rw [flen]; (first | lia | omega), fun H9 c9 => ?_⟩
    refine ⟨(ds.eraseIdx a.toNat).length, by rw [List.length_eraseIdx_of_lt (by (first | lia | omega))]; (first | lia | omega), fs ++ [x], ds.eraseIdx a.toNat, _, rfl, rfl, ?_, by rw [List.length_append]; show ((fs.length + 1 : Nat) : Int) ≤ _; (first | lia | omega), (st8.chgN c9 hf fb fc).more (by rw [List.length_append]; show _ ≤ (9 : Int) + ((fs.length + 1 : Nat) : Int); (first | lia | omega)), by rw [c9.at, List.map_append]; rfl, by rw [c9.ne lf, c8.at, erase_map]⟩
    refine List.Perm.trans ?_ pm
    rw [List.append_assoc]
    exact List.Perm.append_left fs (pop_perm hx).symm
  rintro σ H5 ⟨fs, t5, x3, rfl, hne, hfl, frf, okf, st5, hf5⟩
  exact ⟨_, rfl, q fs fp H5 t5 hne hfl frf okf st5 hf hf5⟩
end
end Z

set_option Elab.async false
set_option linter.all false
set_option maxRecDepth 100000
set_option maxHeartbeats 4000000
namespace Z
open PySem L2
/-! names that end in a, b, c .., of small letters (k16) -/
noncomputable def spNl : Sp := fun vs H Q _ => Ex4 fun (b c : Addr) (t many : Int) => vs = [.ref b, .int many] ∧ Bx H b c t ∧ 0 ≤ t ∧ t < 1000000 ∧ 0 ≤ many ∧ many ≤ 26 ∧
  ∀ (xs : List Str) (l : Addr) (H' : Hp) (t' : Int), (xs.length : Int) = many → xs.Nodup → (∀ x ∈ xs, x.length ≤ 8 ∧ ∀ ch ∈ x.cps.toList, ch ≤ 122) → Step b c H H' t t' 300 → H l = none → H' l = some (.lst (xs.map V.str)) → Q (.ref l) H'
/-- the name at place i -/
structure EndL (i : Nat) (x : Str) : Prop extends EndAt i x where
  sm : ∀ ch ∈ x.cps.toList, ch ≤ 122
section
variable {P : Program} {w : World} {K : PySem.W.Frag} {mg : Str → Option Value} {base : Heap} {f : Addr} {fd : FuncData}
theorem ok_nl16 (F : Fun K "_law_names" "_law_names" (top i_law_names) f fd) (T : Nm mg) (f_law_take : Fn P w K mg base 1 "_law_take" ["_law_state", "_law_many"] spTk) : FnOk P w K mg base CX0 2 f fd ["_law_state", "_law_many"] spNl := by
  refine F.ok sc_law_names (fun vs H Q E h => ?_) (fun cdv A outer s H vs Q E hr h => ?_)
  · obtain ⟨b, c, t, many, rfl, _⟩ := h
    rfl
  obtain ⟨b, c, t, many, rfl, bx, t0, t1, m0, m1, q⟩ := h
  refine ⟨_, (pss_cons (ps_set (i := 2) sc_law_names.nd rfl (Or.inr rfl) pe_str)
    (pss_cons (ps_set (i := 3) sc_law_names.nd rfl (Or.inl rfl) (lstN pa_nil))
    (pss_cons (ps_for PassesOwn.never rfl (pi_range1 rfl T.n_range (pa_cons (pv 1) pa_nil)) (pg_name (i := 4) sc_law_names.nd rfl (Or.inl rfl)) (pss_one (ps_expr (bmK K PySem.F.plainAttrs_list PySem.F.slot_list_append PySem.F.type_list_append appendN (pv 3) (pa_cons (pe_op addN (bmK K PySem.F.plainAttrs_str PySem.F.slot_str_join PySem.F.type_str_join (joinK K) pe_str (pa_cons (pe_lcomp rfl (comp_ok (Nc := ["_law_j"]) (Fc := ["_law_letters", "_law_state"]) (js := [2, 0])) (pi_range1 rfl T.n_range (pa_cons (pe_fn (f_law_take.mono (by first | decide | exact Nat.le_refl _ | (first | lia | omega))) hr rfl (pa_cons (pv 0) (pa_cons pe_int pa_nil))) pa_nil)) (gk_name (i := 0) (n := 1) (by decide)) (fun _ _ _ _ _ => (pg_name (i := 0) (show (["_law_j", "_law_letters", "_law_state"] : List Str).Nodup by decide +kernel) rfl (Or.inl rfl))) (fun _ _ _ _ _ => pts_nil) (fun _ _ _ _ _ => (pe_ix (ixK K) (pv 1) (pe_fn (f_law_take.mono (by first | decide | exact Nat.le_refl _ | (first | lia | omega))) hr rfl (pa_cons (pv 2) (pa_cons pe_int pa_nil))) (fun _ _ => rfl)))) pa_nil)) (pe_ix (ixK K) (pv 2) (pv 4) (fun _ _ => rfl))) pa_nil)))))
    (pss_one (ps_ret (pv 3)))))), ?_⟩
  refine gn ⟨by show 0 ≤ sizeLine; decide, fun l H2 n2 => gn ?_⟩
  have hl : H l = none := n2.nn
  obtain ⟨lb, lc⟩ := bx.ne_new n2.nn
  have st2 : Step b c H H2 t t 0 := (Step.refl bx).newN n2
  refine ⟨_, rfl, many, rfl, by (first | lia | omega), by (first | lia | omega), ?_⟩
  refine for_range (lo := 0) (n := many.toNat) (fun i σ H' => ∃ xs t' x4, σ = [some (.ref b), some (.int many), some (.str abc), some (.ref l), x4] ∧ xs.length = i ∧
    (∀ (j : Nat) x, xs[j]? = some x → EndL j x) ∧ Step b c H H' t t' (10 * i) ∧ H' l = some (.lst (xs.map V.str))) ⟨[], t, _, rfl, rfl, by simp, by simpa using st2, n2.at⟩ ?_ ?_
  · rintro i σ H3 hi ⟨xs, t3, x4, rfl, hxl, hx, st3, hl3⟩
    have hub := st3.ub
    have hlo := st3.le
    refine ⟨_, rfl, .inl ⟨rfl, _, SqL.of hl3⟩, ?_⟩
    refine ⟨rfl, _, rfl, b, c, t3, 8, rfl, st3.bx, by (first | lia | omega), by (first | lia | omega), by decide, by decide, fun m H4 m0 m1 st4 => ?_⟩
    have hl4 : H4 l = some (.lst (xs.map V.str)) := st4.old hl3 lb lc
    have st4 := (st3.trans st4)
    refine ⟨m, rfl, by (first | lia | omega), by (first | lia | omega), ?_⟩
    refine comp_go (N := m.toNat) (fun k ys H' => ∃ (zs : List Str) (t' : Int), ys = zs.map V.str ∧ zs.length = k ∧ (∀ x ∈ zs, ∃ ch : Nat, x = ⟨#[ch]⟩ ∧ ch ≤ 122) ∧ Step b c H H' t t' (10 * i + 1 + k) ∧ H' l = some (.lst (xs.map V.str))) ⟨[], _, rfl, rfl, (fun _ h => nomatch h), st4.more (by (first | lia | omega)), hl4⟩ ?_ ?_
    · rintro k ys H5 Nx hk ⟨zs, t5, rfl, hzl, hz, st5, hl5⟩ nx
      have hub5 := st5.ub
      have hlo5 := st5.le
      refine ⟨hk, by rw [List.length_map, hzl]; exact Nat.lt_of_lt_of_le (show k < 1000 by (first | lia | omega)) (by decide), ?_⟩
      rintro x H6 ⟨rfl, rfl⟩
      refine ⟨_, rfl, _, rfl, b, c, t5, 26, rfl, st5.bx, by (first | lia | omega), by (first | lia | omega), by decide, by decide, fun d H7 d0 d1 st7 => ?_⟩
      refine .inr (.inr ⟨_, d, _, rfl, rfl, by decide +kernel, abc_at d0 d1, nx _ _ ⟨zs ++ [⟨#[97 + d.toNat]⟩], _, by rw [List.map_append]; rfl, by rw [List.length_append, hzl]; rfl, fun x hx => ?_, (st5.trans st7).more (by (first | lia | omega)), st7.old hl5 lb lc⟩⟩)
      rcases List.mem_append.mp hx with h | h
      · exact hz x h
      · exact ⟨_, List.mem_singleton.mp h, by (first | lia | omega)⟩
    · rintro ys H5 ⟨zs, t5, rfl, hzl, hz, st5, hl5⟩
      refine ⟨Nat.le_refl _, fun p hp => ⟨_, p, zs, rfl, rfl, SqL.of upd_same, ?_, ?_⟩⟩
      · rw [(ones_len fun x hx => by obtain ⟨k, e, _⟩ := hz x hx; exact ⟨k, e⟩).2]
        show zs.length + zs.length * 0 ≤ 16777216
        (first | lia | omega)
      · have hn : New H5 p (.lst (zs.map V.str)) (upd H5 p (.lst (zs.map V.str))) := ⟨hp, rfl⟩
        generalize upd H5 p (.lst (zs.map V.str)) = H6 at hn ⊢
        have hl6 := hn.same _ _ hl5
        have st6 := st5.newN hn
        have hjl : (Txt.join "" zs).length = zs.length := by
          rw [str_len]
          rw [join_list0]
          exact (ones_len fun x hx => by obtain ⟨k, e, _⟩ := hz x hx; exact ⟨k, e⟩).1
        have h0 : 0 ≤ (0 : Int) + i := by (first | lia | omega)
        have h1 : (0 : Int) + i < 26 := by (first | lia | omega)
        refine ⟨_, rfl, _, rfl, .inr (.inr ⟨_, _, _, rfl, rfl, by decide +kernel, abc_at h0 h1, .inr (.inl ⟨_, _, rfl, rfl, by rw [len_one, hjl]; exact sizeOk (by (first | lia | omega)), l, _, _, rfl, rfl, hl6, ?_, fun H7 c7 => ?_⟩)⟩)⟩
        · rw [List.length_map, hxl]; exact Nat.lt_of_lt_of_le (show i < 1000 by (first | lia | omega)) (by decide)
        · refine ⟨xs ++ [Txt.join "" zs ++ ⟨#[97 + ((0 : Int) + i).toNat]⟩], t5, _, rfl, by rw [List.length_append, hxl]; rfl, fun j y hy => ?_, ?_, ?_⟩
          · by_cases hj : j < xs.length
            · rw [List.getElem?_append_left hj] at hy
              exact hx j y hy
            · rw [List.getElem?_append_right (by (first | lia | omega))] at hy
              have e : j - xs.length = 0 := by
                have := (List.getElem?_eq_some_iff.mp hy).1
                simp at this
                (first | lia | omega)
              rw [e] at hy
              cases hy
              have ej : j = i := by (first | lia | omega)
              subst ej
              refine ⟨⟨by rw [len_append, len_one]; (first | lia | omega), ?_⟩, fun ch hc => ?_⟩
              rotate_left
              · rw [str_append_list] at hc
                rcases List.mem_append.mp hc with hc | hc
                · rw [join_list0] at hc
                  obtain ⟨u, hu, hc⟩ := List.mem_flatMap.mp hc
                  obtain ⟨k, rfl, hk⟩ := hz u hu
                  have : ch ∈ [k] := hc
                  rw [List.mem_singleton.mp this]; exact hk
                · have : ch ∈ [97 + ((0 : Int) + j).toNat] := hc
                  rw [List.mem_singleton.mp this]; (first | lia | omega)
              rw [str_append_list, List.getLast?_append]
              have : ((0 : Int) + j).toNat = j := by (first | lia | omega)
              rw [this]
              rfl
          · exact (st6.chgN c7 hl lb lc).more (by (first | lia | omega))
          · rw [c7.at, List.map_append]
            rfl
  · rintro σ H3 ⟨xs, t3, x4, rfl, hxl, hx, st3, hl3⟩
    exact ⟨_, rfl, q xs l H3 t3 (by (first | lia | omega)) (EndAt.nodup fun i x h => (hx i x h).toEndAt) (fun x hx' => by obtain ⟨j, hj⟩ := List.mem_iff_getElem?.mp hx'; exact ⟨(hx j x hj).le, (hx j x hj).sm⟩) (st3.more (by (first | lia | omega))) hl hl3⟩
end
end Z

set_option Elab.async false
set_option linter.all false
set_option maxRecDepth 100000
set_option maxHeartbeats 4000000
namespace Z
open PySem L2 PyProof.Rows
/-! stands: two readings, one ahead of the other by a rest (k16) -/
structure GoodN (bk : List (Str × Str)) : Prop where
  le : bk.length ≤ 16
  nm : (bk.map (·.1)).Nodup
  cd : ∀ q ∈ bk, CodeOk 12 q.2
  nl : ∀ q ∈ bk, q.1.length ≤ 8
  sm : ∀ q ∈ bk, ∀ ch ∈ q.1.cps.toList, ch ≤ 122
theorem sl_fromN {x : Str} (p : Nat) : sg (Txt.slice x (some (p : Int)) none) = (sg x).drop p := by
  have key : ∀ p : Nat, p ≤ x.length → sg (Txt.slice x (some (p : Int)) none) = (sg x).drop p := fun p h => by
    rw [PyProof.Rows.slice_from_eq (b := (x.length : Int)) (by (first | lia | omega)) (by (first | lia | omega)) rfl]
    show (((sg x).drop (p : Int).toNat).take ((x.length : Int) - p).toNat).toArray.toList = _
    rw [List.toList_toArray, List.take_of_length_le]
    · rfl
    · rw [List.length_drop, ← str_len]; (first | lia | omega)
  by_cases h : p ≤ x.length
  · exact key p h
  · have e : Txt.slice x (some (p : Int)) none = Txt.slice x (some ((x.length : Nat) : Int)) none := by
      unfold Txt.slice
      have : PySem.Builtin.Str.strSliceIndices (some (p : Int)) none 1 x.length = PySem.Builtin.Str.strSliceIndices (some ((x.length : Nat) : Int)) none 1 x.length := by
        unfold PySem.Builtin.Str.strSliceIndices
        dsimp only
        congr 1
        all_goals (first | lia | omega)
      rw [this]
    rw [e, key _ (Nat.le_refl _), List.drop_of_length_le (Nat.le_of_eq (str_len x).symm), List.drop_of_length_le (by have := str_len x; show (sg x).length ≤ p; change x.length = (sg x).length at this; (first | lia | omega))]
theorem len_of_nodup {α : Type} [DecidableEq α] : ∀ {l m : List α}, l.Nodup → (∀ x ∈ l, x ∈ m) → l.length ≤ m.length
  | [], _, _, _ => Nat.zero_le _
  | a :: l, m, nd, h => by
    obtain ⟨na, nd'⟩ := List.nodup_cons.mp nd
    have hm := h a List.mem_cons_self
    have ih := len_of_nodup (l := l) (m := m.erase a) nd' fun x hx => by
      have hne : x ≠ a := fun z => na (z ▸ hx)
      exact (List.mem_erase_of_ne hne).mpr (h x (List.mem_cons_of_mem _ hx))
    rw [List.length_erase_of_mem hm] at ih
    have : 0 < m.length := List.length_pos_of_mem hm
    rw [List.length_cons]
    (first | lia | omega)
/-- an end of a code -/
noncomputable def Sfx (B : List (Str × Str)) (r : Str) : Prop := ∃ q ∈ B, sg r <:+ sg q.2
noncomputable def sfxs (B : List (Str × Str)) : List Str := B.flatMap fun q => (List.range (q.2.length + 1)).map fun i => ⟨((sg q.2).drop i).toArray⟩
theorem Sfx.mem {B : List (Str × Str)} {r : Str} (h : Sfx B r) : r ∈ sfxs B := by
  obtain ⟨q, hq, hs⟩ := h
  refine List.mem_flatMap.mpr ⟨q, hq, List.mem_map.mpr ⟨(sg q.2).length - (sg r).length, List.mem_range.mpr ?_, ?_⟩⟩
  · have e : q.2.length = (sg q.2).length := str_len q.2
    (first | lia | omega)
  · refine str_eq ?_
    show ((sg q.2).drop _).toArray.toList = _
    rw [List.toList_toArray]
    exact (List.suffix_iff_eq_drop.mp hs).symm
theorem sfxs_len {B : List (Str × Str)} (cd : ∀ q ∈ B, CodeOk 12 q.2) : (sfxs B).length ≤ 13 * B.length := by
  induction B with
  | nil => exact Nat.le_refl _
  | cons q B ih =>
    have h1 := ih fun x hx => cd x (List.mem_cons_of_mem _ hx)
    have h2 := (cd q List.mem_cons_self).le
    show (((List.range (q.2.length + 1)).map _) ++ sfxs B).length ≤ _
    rw [List.length_append, List.length_map, List.length_range, List.length_cons]
    (first | lia | omega)
theorem Sfx.len {B : List (Str × Str)} {r : Str} (cd : ∀ q ∈ B, CodeOk 12 q.2) (h : Sfx B r) : r.length ≤ 12 := by
  obtain ⟨q, hq, hs⟩ := h
  have h1 := hs.length_le
  have h2 := (cd q hq).le
  have e1 : r.length = (sg r).length := str_len r
  have e2 : q.2.length = (sg q.2).length := str_len q.2
  (first | lia | omega)
theorem Sfx.cut {B : List (Str × Str)} {r : Str} (h : Sfx B r) (p : Nat) : Sfx B (Txt.slice r (some (p : Int)) none) := by
  obtain ⟨q, hq, hs⟩ := h
  refine ⟨q, hq, ?_⟩
  rw [sl_fromN]
  exact (List.drop_suffix _ _).trans hs
/-- what a stand tells, n names at most in a list -/
structure Gst (B : List (Str × Str)) (n : Nat) (t r : Str) (ns ms : List Str) : Prop where
  t : t.length ≤ 12 * n
  r : Sfx B r
  a : ns ≠ []
  ni : ∀ x ∈ ns, x ∈ B.map (·.1)
  mi : ∀ x ∈ ms, x ∈ B.map (·.1)
  nl : ns.length ≤ n
  ml : ms.length ≤ n
theorem Gst.mono {B : List (Str × Str)} {n m : Nat} {t r : Str} {ns ms : List Str} (h : Gst B n t r ns ms) (le : n ≤ m) : Gst B m t r ns ms :=
  ⟨Nat.le_trans h.t (Nat.mul_le_mul_left _ le), h.r, h.a, h.ni, h.mi, Nat.le_trans h.nl le, Nat.le_trans h.ml le⟩
/-- a stand lies there -/
noncomputable def Sd (H : Hp) (a : Addr) (t r : Str) (ns ms : List Str) : Prop := ∃ p q, H a = some (.tup [.str t, .str r, .ref p, .ref q]) ∧ H p = some (.lst (ns.map V.str)) ∧ H q = some (.lst (ms.map V.str))
theorem Sd.same {H H' : Hp} {a : Addr} {t r : Str} {ns ms : List Str} (h : Sd H a t r ns ms) (s : Same H H') : Sd H' a t r ns ms := by
  obtain ⟨p, q, h1, h2, h3⟩ := h
  exact ⟨p, q, s _ _ h1, s _ _ h2, s _ _ h3⟩
noncomputable def Std (B : List (Str × Str)) (n : Nat) (H : Hp) (a : Addr) (r : Str) : Prop := ∃ t ns ms, Sd H a t r ns ms ∧ Gst B n t r ns ms ∧ ms ≠ []
theorem Std.same {B : List (Str × Str)} {n : Nat} {H H' : Hp} {a : Addr} {r : Str} (h : Std B n H a r) (s : Same H H') : Std B n H' a r := by
  obtain ⟨t, ns, ms, h1, h2⟩ := h
  exact ⟨t, ns, ms, h1.same s, h2⟩
theorem Std.mono {B : List (Str × Str)} {n m : Nat} {H : Hp} {a : Addr} {r : Str} (h : Std B n H a r) (le : n ≤ m) : Std B m H a r := by
  obtain ⟨t, ns, ms, h1, h2, h3⟩ := h
  exact ⟨t, ns, ms, h1, h2.mono le, h3⟩
/-- all stays but at one place -/
noncomputable def Off (d : Addr) (H H' : Hp) : Prop := ∀ b o, b ≠ d → H b = some o → H' b = some o
theorem Off.trans {d : Addr} {H H1 H2 : Hp} (a : Off d H H1) (b : Off d H1 H2) : Off d H H2 := fun c o n h => b c o n (a c o n h)
theorem Std.off {B : List (Str × Str)} {n : Nat} {H H' : Hp} {a d : Addr} {r : Str} {kvs : List (Key × V)} (h : Std B n H a r) (s : Off d H H') (hd : H d = some (.dK kvs)) : Std B n H' a r := by
  obtain ⟨t, ns, ms, ⟨p, q, h1, h2, h3⟩, h4⟩ := h
  refine ⟨t, ns, ms, ⟨p, q, s _ _ (fun z => ?_) h1, s _ _ (fun z => ?_) h2, s _ _ (fun z => ?_) h3⟩, h4⟩
  · rw [z, hd] at h1; cases h1
  · rw [z, hd] at h2; cases h2
  · rw [z, hd] at h3; cases h3
/-- a dict of stands by their rests -/
structure Wt (B : List (Str × Str)) (n : Nat) (H : Hp) (kvs : List (Key × V)) : Prop where
  nd : (kvs.map (·.1)).Nodup
  st : ∀ z ∈ kvs, ∃ r a, z = (.inr r, .ref a) ∧ Std B n H a r
theorem keys_le {B : List (Str × Str)} {ks : List Key} (h : ks.Nodup) (hs : ∀ k ∈ ks, ∃ r, k = .inr r ∧ Sfx B r) : ks.length ≤ (sfxs B).length := by
  have : ks.length ≤ ((sfxs B).map (Sum.inr : Str → Key)).length := len_of_nodup h fun k hk => by
    obtain ⟨r, rfl, hr⟩ := hs k hk
    exact List.mem_map_of_mem hr.mem
  rwa [List.length_map] at this
theorem Wt.sfx {B : List (Str × Str)} {n : Nat} {H : Hp} {kvs : List (Key × V)} (h : Wt B n H kvs) : ∀ k ∈ kvs.map (·.1), ∃ r, k = .inr r ∧ Sfx B r := fun k hk => by
  obtain ⟨z, hz, rfl⟩ := List.mem_map.mp hk
  obtain ⟨r, a, rfl, t, ns, ms, _, g, _⟩ := h.st z hz
  exact ⟨r, rfl, g.r⟩
theorem valV_mem {kvs : List (Key × V)} {k : Key} {v : V} (h : valV kvs k = some v) : (k, v) ∈ kvs := by
  induction kvs with
  | nil => cases h
  | cons p r ih =>
    by_cases e : p.1 = k
    · rw [valV_pos e] at h
      cases h
      rw [← e]; exact List.mem_cons_self
    · rw [valV_neg e] at h
      exact List.mem_cons_of_mem _ (ih h)
theorem mem_valV {kvs : List (Key × V)} {k : Key} {v : V} (nd : (kvs.map (·.1)).Nodup) (h : (k, v) ∈ kvs) : valV kvs k = some v := by
  induction kvs with
  | nil => cases h
  | cons p r ih =>
    rw [List.map_cons, List.nodup_cons] at nd
    rcases List.mem_cons.mp h with rfl | h
    · exact valV_pos rfl
    · rw [valV_neg fun z => nd.1 (by rw [z]; exact List.mem_map_of_mem (f := (·.1)) h)]
      exact ih nd.2 h
theorem keys_put {kvs : List (Key × V)} {k : Key} {v w : V} (h : valV kvs k = some w) : (putK kvs k v).map (·.1) = kvs.map (·.1) := by
  unfold putK
  rw [valV_any, h]
  rw [if_pos (show (some w).isSome = true from rfl), List.map_map]
  refine List.map_congr_left fun z _ => ?_
  show (if z.1 = k then (z.1, v) else z).1 = z.1
  split <;> rfl
theorem mem_put {kvs : List (Key × V)} {k : Key} {v : V} {z : Key × V} (h : z ∈ putK kvs k v) : z = (k, v) ∨ z ∈ kvs := by
  unfold putK at h
  split at h
  · obtain ⟨y, hy, rfl⟩ := List.mem_map.mp h
    split
    · rename_i e; exact .inl (by rw [e])
    · exact .inr hy
  · rcases List.mem_append.mp h with h | h
    · exact .inr h
    · exact .inl (List.mem_singleton.mp h)
theorem Wt.put {B : List (Str × Str)} {n : Nat} {H : Hp} {kvs : List (Key × V)} {r : Str} {a : Addr} (h : Wt B n H kvs) (s : Std B n H a r) : Wt B n H (putK kvs (.inr r) (.ref a)) := by
  refine ⟨?_, fun z hz => ?_⟩
  · cases e : valV kvs (.inr r) with
    | none => exact nd_putK _ h.nd e
    | some w => rw [keys_put e]; exact h.nd
  · rcases mem_put hz with rfl | hz
    · exact ⟨r, a, rfl, s⟩
    · exact h.st z hz
theorem Wt.step {B : List (Str × Str)} {n : Nat} {H H' : Hp} {kvs : List (Key × V)} (h : Wt B n H kvs) (f : ∀ a r, Std B n H a r → Std B n H' a r) : Wt B n H' kvs := ⟨h.nd, fun z hz => by
  obtain ⟨r, a, e, s⟩ := h.st z hz
  exact ⟨r, a, e, f a r s⟩⟩
end Z

set_option Elab.async false
set_option linter.all false
set_option maxRecDepth 100000
set_option maxHeartbeats 4000000
namespace Z
open PySem L2 PyProof.Rows
/-! two_readings' parts (k16) -/
noncomputable def spLf : Sp := fun vs H Q _ => ∃ t : Str, vs = [.str t] ∧ t.length ≤ 100000 ∧ ∀ z H', New H z (.tup [.int t.length, .str t]) H' → Q (.ref z) H'
noncomputable def spSo : Sp := fun vs H Q _ => ∃ (a : Addr) (t r : Str) (ns ms : List Str), vs = [.ref a] ∧ Sd H a t r ns ms ∧ t.length ≤ 100000 ∧ ∀ z H', New H z (.tup [.int t.length, .str t]) H' → Q (.ref z) H'
theorem stands_of {B : List (Str × Str)} {n : Nat} {H : Hp} : ∀ {kvs : List (Key × V)}, (∀ z ∈ kvs, ∃ r a, z = (.inr r, .ref a) ∧ Std B n H a r) →
    ∃ L : List (Str × Addr × Str), kvs = L.map (fun x => (.inr x.1, .ref x.2.1)) ∧ ∀ x ∈ L, ∃ ns ms, Sd H x.2.1 x.2.2 x.1 ns ms ∧ Gst B n x.2.2 x.1 ns ms ∧ ms ≠ []
  | [], _ => ⟨[], rfl, fun _ h => nomatch h⟩
  | z :: kvs, h => by
    obtain ⟨L, rfl, hL⟩ := stands_of fun y hy => h y (List.mem_cons_of_mem _ hy)
    obtain ⟨r, a, rfl, t, ns, ms, h1⟩ := h z List.mem_cons_self
    refine ⟨(r, a, t) :: L, rfl, fun x hx => ?_⟩
    rcases List.mem_cons.mp hx with rfl | hx
    · exact ⟨ns, ms, h1⟩
    · exact hL x hx
section
variable {P : Program} {w : World} {K : PySem.W.Frag} {mg : Str → Option Value} {base : Heap} {f : Addr} {fd : FuncData}
theorem sc_length_first : FnScope ["text"] ["text"] (defScope (top i_length_first)) := ⟨rfl, rfl, rfl, by decide +kernel, rfl, by decide +kernel, by decide +kernel⟩
theorem ok_lf (F : Fun K "length_first" "length_first" (top i_length_first) f fd) (T : Nm mg) : FnOk P w K mg base CX0 1 f fd ["text"] spLf := by
  refine F.ok sc_length_first (fun vs H Q E h => ?_) (fun cdv A outer s H vs Q E hr h => ?_)
  · obtain ⟨t, rfl, _⟩ := h
    rfl
  obtain ⟨t, rfl, ht, q⟩ := h
  refine ⟨_, (pss_one (ps_ret (tupN (pa_cons (pe_callB (lenK K) rfl T.n_len (by rfl) (pa_cons (pv 0) pa_nil)) (pa_cons (pv 0) pa_nil))))), ?_⟩
  exact ⟨_, rfl, _, _, rfl, ⟨sizeOk (by (first | lia | omega)), rfl⟩, _, rfl, by show 2 ≤ sizeLine; decide, fun p H' n => q p H' n⟩
theorem sc_stand_order : FnScope ["stand"] ["stand"] (defScope (top i_stand_order)) := ⟨rfl, rfl, rfl, by decide +kernel, rfl, by decide +kernel, by decide +kernel⟩
theorem ok_so (F : Fun K "stand_order" "stand_order" (top i_stand_order) f fd) (T : Nm mg) (f_length_first : Fn P w K mg base 1 "length_first" ["text"] spLf) : FnOk P w K mg base CX0 2 f fd ["stand"] spSo := by
  refine F.ok sc_stand_order (fun vs H Q E h => ?_) (fun cdv A outer s H vs Q E hr h => ?_)
  · obtain ⟨a, t, r, ns, ms, rfl, _⟩ := h
    rfl
  obtain ⟨a, t, r, ns, ms, rfl, ⟨p, q', h1, _⟩, ht, q⟩ := h
  refine ⟨_, (pss_one (ps_ret (pe_fn (f_length_first.mono (by first | decide | exact Nat.le_refl _ | (first | lia | omega))) hr rfl (pa_cons (pe_ix (ixK K) (pv 0) pe_int (fun _ _ => rfl)) pa_nil)))), ?_⟩
  exact ⟨_, rfl, .inr (.inl ⟨a, _, 0, .str t, rfl, rfl, SqT.of h1, rfl, t, rfl, ht, q⟩)⟩
theorem sc_least_stand : FnScope ["waiting"] ["waiting"] (defScope (top i_least_stand)) := ⟨rfl, rfl, rfl, by decide +kernel, rfl, by decide +kernel, by decide +kernel⟩
end
end Z

set_option Elab.async false
set_option linter.all false
set_option maxRecDepth 100000
set_option maxHeartbeats 4000000
namespace Z
open PySem L2 PyProof.Rows
/-! the least text of two readings: what two_readings finds (k18) -/
theorem lf_ge {a b c : Str} (h1 : ¬ lfLt b a) (h2 : ¬ lfLt c b) : ¬ lfLt c a := fun h => h2 (lf_ntrans h h1)
theorem lf_refl (a : Str) : ¬ lfLt a a := lfLt_irrefl a
theorem lf_anti {a b : Str} (h1 : ¬ lfLt a b) (h2 : ¬ lfLt b a) : a = b := by
  by_cases e : a = b
  · exact e
  · exact ((lfLt_or e).elim h1 h2).elim
theorem lt_app : ∀ {a b o : List Nat}, a.length = b.length → a ++ o < b ++ o → a < b
  | [], [], o, _, h => by rw [List.nil_append] at h; exact absurd h (List.lt_irrefl _)
  | [], _ :: _, _, e, _ => by cases e
  | _ :: _, [], _, e, _ => by cases e
  | x :: a, y :: b, o, e, h => by
    rw [List.cons_append, List.cons_append, List.cons_lt_cons_iff] at h
    rw [List.cons_lt_cons_iff]
    rcases h with h | ⟨h1, h2⟩
    · exact .inl h
    · exact .inr ⟨h1, lt_app (Nat.succ.inj e) h2⟩
theorem lf_app {t u : Str} (o : Str) (h : ¬ lfLt u t) : ¬ lfLt (u ++ o) (t ++ o) := fun z => by
  rcases z with z | ⟨z1, z2⟩
  · rw [len_append, len_append] at z
    exact h (.inl (by (first | lia | omega)))
  · rw [len_append, len_append] at z1
    have e : u.length = t.length := by (first | lia | omega)
    refine h (.inr ⟨e, lt_app (o := sg o) ?_ ?_⟩)
    · rw [← str_len, ← str_len]; exact e
    · have := z2
      change sg (u ++ o) < sg (t ++ o) at this
      rw [sg_app, sg_app] at this
      exact this
theorem lf_pre {u t : Str} (h : sg u <+: sg t) : ¬ lfLt t u := fun z => by
  have hl := h.length_le
  have e1 : t.length = (sg t).length := str_len t
  have e2 : u.length = (sg u).length := str_len u
  rcases z with z | ⟨z1, z2⟩
  · (first | lia | omega)
  · have : sg u = sg t := h.eq_of_length (by (first | lia | omega))
    have z2 : sg t < sg u := z2
    rw [this] at z2
    exact List.lt_irrefl _ z2
/-- one name more on the side that is behind -/
noncomputable def Nx (z : Str × Str) (t r t' r' : Str) : Prop := (sg r = sg z.2 ++ sg r' ∧ t' = t) ∨ (¬ sg z.2 <+: sg r ∧ sg z.2 = sg r ++ sg r' ∧ t' = t ++ r')
theorem Nx.one {z : Str × Str} {t r t1 r1 t2 r2 : Str} (h : Nx z t r t1 r1) (g : Nx z t r t2 r2) : t1 = t2 ∧ r1 = r2 := by
  rcases h with ⟨h1, rfl⟩ | ⟨h0, h1, rfl⟩ <;> rcases g with ⟨g1, rfl⟩ | ⟨g0, g1, rfl⟩
  · rw [h1] at g1
    exact ⟨rfl, str_eq (List.append_cancel_left g1)⟩
  · exact absurd (h1 ▸ List.prefix_append _ _) g0
  · exact absurd (g1 ▸ List.prefix_append _ _) h0
  · rw [h1] at g1
    have e : r1 = r2 := str_eq (List.append_cancel_left g1)
    rw [e]; exact ⟨rfl, rfl⟩
theorem Nx.mono {z : Str × Str} {t u r u' r' : Str} (h : Nx z u r u' r') (le : ¬ lfLt u t) : ∃ t', Nx z t r t' r' ∧ ¬ lfLt u' t' := by
  rcases h with ⟨h1, rfl⟩ | ⟨h0, h1, rfl⟩
  · exact ⟨t, .inl ⟨h1, rfl⟩, le⟩
  · exact ⟨t ++ r', .inr ⟨h0, h1, rfl⟩, lf_app _ le⟩
theorem Nx.up {z : Str × Str} {t r t' r' : Str} (h : Nx z t r t' r') : ¬ lfLt t' t := by
  rcases h with ⟨h1, rfl⟩ | ⟨h0, h1, rfl⟩
  · exact lf_refl _
  · exact lf_pre (by rw [sg_app]; exact List.prefix_append _ _)
/-- the first stands -/
noncomputable def Sta (B : List (Str × Str)) (t r : Str) : Prop := ∃ (i : Nat) (hi : i < B.length), ∃ z ∈ B.take i, Nx z B[i].2 B[i].2 t r
/-- the stands that are reached -/
inductive Rch (B : List (Str × Str)) : Str → Str → Prop
  | start {t r : Str} : Sta B t r → Rch B t r
  | step {t r t' r' : Str} {z : Str × Str} : Rch B t r → r ≠ "" → z ∈ B → Nx z t r t' r' → Rch B t' r'
/-- two readings of a text -/
noncomputable def Amb (B : List (Str × Str)) (t : Str) : Prop := ∃ ps qs, Of B ps ∧ Of B qs ∧ ps ≠ qs ∧ tx ps = sg t ∧ tx qs = sg t
/-- what waits and what is done -/
structure Dij (B : List (Str × Str)) (W D : Str → Str → Prop) : Prop where
  ws : ∀ {t r}, W t r → Rch B t r
  st : ∀ {t r}, Sta B t r → ∃ t', (W t' r ∨ D t' r) ∧ ¬ lfLt t t'
  ed : ∀ {t r z t' r'}, D t r → z ∈ B → Nx z t r t' r' → ∃ t'', (W t'' r' ∨ D t'' r') ∧ ¬ lfLt t' t''
  mn : ∀ {t r u}, D t r → Rch B u r → ¬ lfLt u t
  ne : ∀ {t r}, D t r → r ≠ ""
theorem Dij.or {B : List (Str × Str)} {W D : Str → Str → Prop} (h : Dij B W D) {u r : Str} (hu : Rch B u r) : (∃ t, D t r ∧ ¬ lfLt u t) ∨ ∃ t r', W t r' ∧ ¬ lfLt u t := by
  induction hu with
  | start hs =>
    obtain ⟨t', h1 | h1, h2⟩ := h.st hs
    · exact .inr ⟨t', _, h1, h2⟩
    · exact .inl ⟨t', h1, h2⟩
  | step hu hr hz hn ih =>
    rcases ih with ⟨t0, h1, h2⟩ | ⟨t0, r0, h1, h2⟩
    · obtain ⟨t1, g1, g2⟩ := hn.mono h2
      obtain ⟨t2, h3 | h3, h4⟩ := h.ed h1 hz g1
      · exact .inr ⟨t2, _, h3, lf_ge h4 g2⟩
      · exact .inl ⟨t2, h3, lf_ge h4 g2⟩
    · exact .inr ⟨t0, r0, h1, lf_ge h2 hn.up⟩
/-- nothing waits: there are none -/
theorem Dij.none {B : List (Str × Str)} {W D : Str → Str → Prop} (h : Dij B W D) (hw : ∀ t r, ¬ W t r) (u : Str) : ¬ Rch B u "" := fun hu => by
  rcases h.or hu with ⟨t, h1, _⟩ | ⟨t, r, h1, _⟩
  · exact h.ne h1 rfl
  · exact hw _ _ h1
/-- the least that waits is least -/
theorem Dij.least {B : List (Str × Str)} {W D : Str → Str → Prop} (h : Dij B W D) {t r : Str} (hd : ∀ t', ¬ D t' r) (hm : ∀ t' r', W t' r' → ¬ lfLt t' t) {u : Str} (hu : Rch B u r) : ¬ lfLt u t := by
  rcases h.or hu with ⟨t', h1, _⟩ | ⟨t', r', h1, h2⟩
  · exact absurd h1 (hd _)
  · exact lf_ge (hm _ _ h1) h2
theorem Dij.next {B : List (Str × Str)} {W D W' : Str → Str → Prop} (h : Dij B W D) {t r : Str} (hw : W t r) (hr : r ≠ "") (fn : ∀ t', W t' r → t' = t) (hd : ∀ t', ¬ D t' r) (hm : ∀ t' r', W t' r' → ¬ lfLt t' t)
    (ws : ∀ t' r', W' t' r' → W t' r' ∨ ∃ z ∈ B, Nx z t r t' r') (cv : ∀ t' r', W t' r' → r' ≠ r → ∃ t'', W' t'' r' ∧ ¬ lfLt t' t'')
    (ce : ∀ z t' r', z ∈ B → Nx z t r t' r' → r' ≠ r → (∀ u, ¬ D u r') → ∃ t'', W' t'' r' ∧ ¬ lfLt t' t'') : Dij B W' fun a b => D a b ∨ (a = t ∧ b = r) := by
  have hR := h.ws hw
  have move : ∀ {t1 r1 : Str}, (∃ t', (W t' r1 ∨ D t' r1) ∧ ¬ lfLt t1 t') → ∃ t', (W' t' r1 ∨ (D t' r1 ∨ (t' = t ∧ r1 = r))) ∧ ¬ lfLt t1 t' := fun {t1 r1} ⟨t', h1, h2⟩ => by
    rcases h1 with h1 | h1
    · by_cases e : r1 = r
      · subst e
        exact ⟨t', .inr (.inr ⟨fn _ h1, rfl⟩), h2⟩
      · obtain ⟨t'', g1, g2⟩ := cv _ _ h1 e
        exact ⟨t'', .inl g1, lf_ge g2 h2⟩
    · exact ⟨t', .inr (.inl h1), h2⟩
  have mn : ∀ {t1 r1 u : Str}, (D t1 r1 ∨ (t1 = t ∧ r1 = r)) → Rch B u r1 → ¬ lfLt u t1 := fun {t1 r1 u} hx hu => by
    rcases hx with hx | ⟨rfl, rfl⟩
    · exact h.mn hx hu
    · exact h.least hd hm hu
  refine ⟨fun {t1 r1} hx => ?_, fun hs => move (h.st hs), fun {t1 r1 z t2 r2} hx hz hn => ?_, mn, fun {t1 r1} hx => ?_⟩
  · rcases ws _ _ hx with hx | ⟨z, hz, hn⟩
    · exact h.ws hx
    · exact .step hR hr hz hn
  · rcases hx with hx | ⟨rfl, rfl⟩
    · exact move (h.ed hx hz hn)
    · have hR2 : Rch B t2 r2 := .step hR hr hz hn
      by_cases e : r2 = r1
      · exact ⟨t1, .inr (.inr ⟨rfl, e⟩), h.least hd hm (e ▸ hR2)⟩
      · by_cases hD : ∃ u, D u r2
        · obtain ⟨u, hu⟩ := hD
          exact ⟨u, .inr (.inl hu), h.mn hu hR2⟩
        · obtain ⟨t'', g1, g2⟩ := ce z t2 r2 hz hn e fun u hu => hD ⟨u, hu⟩
          exact ⟨t'', .inl g1, g2⟩
  · rcases hx with hx | ⟨rfl, rfl⟩
    · exact h.ne hx
    · exact hr
/-- what is reached with no rest has two readings -/
theorem Rch.amb' {B : List (Str × Str)} (nd : B.Nodup) {t r : Str} (h : Rch B t r) : ∃ a b ps qs, Of B (a :: ps) ∧ Of B (b :: qs) ∧ a ≠ b ∧ tx (a :: ps) = sg t ∧ tx (a :: ps) = tx (b :: qs) ++ sg r := by
  have of1 : ∀ {x : Str × Str}, x ∈ B → Of B [x] := fun h q hq => by rw [List.mem_singleton.mp hq]; exact h
  have tx1 : ∀ x : Str × Str, tx [x] = sg x.2 := fun x => by unfold tx; simp
  induction h with
  | @start t r hs =>
    obtain ⟨i, hi, z, hz, hn⟩ := hs
    have hm := List.mem_of_mem_take hz
    have hne : B[i] ≠ z := fun e => by
      obtain ⟨j, hj, e2⟩ := List.mem_iff_getElem.mp hz
      rw [List.length_take] at hj
      rw [List.getElem_take] at e2
      have := (List.getElem_inj nd).mp (e.trans e2.symm)
      (first | lia | omega)
    rcases hn with ⟨h1, rfl⟩ | ⟨h0, h1, rfl⟩
    · exact ⟨B[i], z, [], [], of1 (List.getElem_mem hi), of1 hm, hne, tx1 _, by rw [tx1, tx1]; exact h1⟩
    · exact ⟨z, B[i], [], [], of1 hm, of1 (List.getElem_mem hi), hne.symm, by rw [tx1, sg_app]; exact h1, by rw [tx1, tx1]; exact h1⟩
  | @step t r t' r' z hu hr hz hn ih =>
    obtain ⟨a, b, ps, qs, o1, o2, hab, e1, e2⟩ := ih
    have o3 : Of B (b :: (qs ++ [z])) := fun y hy => by
      rw [← List.cons_append] at hy
      rcases List.mem_append.mp hy with hy | hy
      · exact o2 y hy
      · exact of1 hz y hy
    have e3 : tx (b :: (qs ++ [z])) = tx (b :: qs) ++ sg z.2 := by rw [← List.cons_append, tx_app, tx1]
    rcases hn with ⟨h1, rfl⟩ | ⟨h0, h1, rfl⟩
    · exact ⟨a, b, ps, qs ++ [z], o1, o3, hab, e1, by rw [e3, List.append_assoc, ← h1]; exact e2⟩
    · refine ⟨b, a, qs ++ [z], ps, o3, o1, hab.symm, ?_, ?_⟩
      · rw [e3, h1, ← List.append_assoc, ← e2, e1, sg_app]
      · rw [e3, h1, ← List.append_assoc, ← e2]
theorem Rch.amb {B : List (Str × Str)} (nd : B.Nodup) {t : Str} (h : Rch B t "") : Amb B t := by
  obtain ⟨a, b, ps, qs, o1, o2, hab, e1, e2⟩ := h.amb' nd
  have : sg "" = [] := by decide +kernel
  rw [this, List.append_nil] at e2
  exact ⟨_, _, o1, o2, fun z => hab (by injection z), e1, e2 ▸ e1⟩
theorem tx_cons (a : Str × Str) (ps : List (Str × Str)) : tx (a :: ps) = sg a.2 ++ tx ps := List.flatMap_cons
/-- two readings from a stand on come to a stand with no rest -/
theorem Rch.go {B : List (Str × Str)} : ∀ (n : Nat) {t r : Str} {ps qs : List (Str × Str)}, ps.length + qs.length ≤ n → Rch B t r → Of B ps → Of B qs → tx qs = sg r ++ tx ps → ∃ u, Rch B u "" ∧ sg u <+: sg t ++ tx ps
  | n, t, r, ps, qs, hn, h, o1, o2, e => by
    have e0 : sg "" = [] := by decide +kernel
    by_cases hr : r = ""
    · subst hr
      exact ⟨t, h, List.prefix_append _ _⟩
    have hrn : sg r ≠ [] := fun z => hr (str_eq (z.trans e0.symm))
    cases qs with
    | nil =>
      have : sg r ++ tx ps = [] := e.symm
      exact absurd (List.append_eq_nil_iff.mp this).1 hrn
    | cons q qs =>
      rw [tx_cons] at e
      have oq : q ∈ B := o2 q List.mem_cons_self
      have o3 : Of B qs := fun y hy => o2 y (List.mem_cons_of_mem _ hy)
      cases n with
      | zero => simp at hn
      | succ n =>
        rw [List.length_cons] at hn
        by_cases hp : sg q.2 <+: sg r
        · obtain ⟨r', hr'⟩ := hp
          have hs : Rch B t ⟨r'.toArray⟩ := .step h hr oq (.inl ⟨by rw [← hr'], rfl⟩)
          refine Rch.go n (qs := qs) (by (first | lia | omega)) hs o1 o3 ?_
          rw [← hr', List.append_assoc] at e
          have := List.append_cancel_left e
          rw [this]
        · have : sg r <+: sg q.2 := by
            rcases List.prefix_or_prefix_of_prefix (l₁ := sg q.2) (l₂ := sg r) (l₃ := sg q.2 ++ tx qs) (List.prefix_append _ _) (e ▸ List.prefix_append _ _) with z | z
            · exact absurd z hp
            · exact z
          obtain ⟨r', hr'⟩ := this
          have e1 : sg (⟨r'.toArray⟩ : Str) = r' := by simp
          have hs : Rch B (t ++ ⟨r'.toArray⟩) ⟨r'.toArray⟩ := .step h hr oq (.inr ⟨hp, by rw [e1]; exact hr'.symm, rfl⟩)
          rw [← hr', List.append_assoc] at e
          have e2 := List.append_cancel_left e
          obtain ⟨u, h1, h2⟩ := Rch.go n (ps := qs) (qs := ps) (by (first | lia | omega)) hs o3 o1 (by rw [e1]; exact e2.symm)
          refine ⟨u, h1, ?_⟩
          rw [sg_app, e1, List.append_assoc, e2] at h2
          exact h2
theorem Amb.strip {B : List (Str × Str)} (cd : ∀ q ∈ B, CodeOk 12 q.2) : ∀ {ps qs : List (Str × Str)}, Of B ps → Of B qs → ps ≠ qs → tx ps = tx qs → ∃ c a b ps' qs', ps = c ++ a :: ps' ∧ qs = c ++ b :: qs' ∧ a ≠ b
  | [], [], _, _, h, _ => absurd rfl h
  | [], q :: qs, _, o2, _, e => by
    have := (cd q (o2 q List.mem_cons_self)).pos
    rw [str_len] at this
    have e2 : ([] : List Nat) = sg q.2 ++ tx qs := (tx_cons q qs) ▸ e
    have := congrArg List.length e2
    rw [List.length_append] at this
    change 0 = (sg q.2).length + _ at this
    have h3 : 1 ≤ (sg q.2).length := by assumption
    (first | lia | omega)
  | p :: ps, [], o1, _, _, e => by
    have := (cd p (o1 p List.mem_cons_self)).pos
    rw [str_len] at this
    have e2 : sg p.2 ++ tx ps = ([] : List Nat) := (tx_cons p ps) ▸ e
    have := congrArg List.length e2
    rw [List.length_append] at this
    change (sg p.2).length + _ = 0 at this
    have h3 : 1 ≤ (sg p.2).length := by assumption
    (first | lia | omega)
  | p :: ps, q :: qs, o1, o2, h, e => by
    by_cases hpq : p = q
    · subst hpq
      rw [tx_cons, tx_cons] at e
      obtain ⟨c, a, b, ps', qs', e1, e2, e3⟩ := Amb.strip cd (fun y hy => o1 y (List.mem_cons_of_mem _ hy)) (fun y hy => o2 y (List.mem_cons_of_mem _ hy)) (fun z => h (by rw [z])) (List.append_cancel_left e)
      exact ⟨p :: c, a, b, ps', qs', by rw [e1]; rfl, by rw [e2]; rfl, e3⟩
    · exact ⟨[], p, q, ps, qs, rfl, rfl, hpq⟩
theorem tx_nil : tx [] = [] := rfl
/-- a text of two readings: a text that is reached is no greater -/
theorem Amb.rch {B : List (Str × Str)} (cd : ∀ q ∈ B, CodeOk 12 q.2) {t : Str} (h : Amb B t) : ∃ u, Rch B u "" ∧ ¬ lfLt t u := by
  obtain ⟨ps, qs, o1, o2, hne, e1, e2⟩ := h
  obtain ⟨c, a, b, ps', qs', rfl, rfl, hab⟩ := Amb.strip cd o1 o2 hne (e1.trans e2.symm)
  rw [tx_app] at e1 e2
  have e3 : tx (a :: ps') = tx (b :: qs') := List.append_cancel_left (e1.trans e2.symm)
  rw [tx_cons, tx_cons] at e3
  have oa : a ∈ B := o1 a (List.mem_append_right _ List.mem_cons_self)
  have ob : b ∈ B := o2 b (List.mem_append_right _ List.mem_cons_self)
  have op : Of B ps' := fun y hy => o1 y (List.mem_append_right _ (List.mem_cons_of_mem _ hy))
  have oq : Of B qs' := fun y hy => o2 y (List.mem_append_right _ (List.mem_cons_of_mem _ hy))
  -- the later of the two ahead
  have key : ∀ {a b : Str × Str} {ps qs : List (Str × Str)}, Of B ps → Of B qs → sg a.2 ++ tx ps = sg b.2 ++ tx qs → (∃ (i : Nat) (hi : i < B.length), B[i] = a ∧ b ∈ B.take i) → ∃ u, Rch B u "" ∧ sg u <+: sg a.2 ++ tx ps := by
    rintro a b ps qs o1 o2 e ⟨i, hi, rfl, hb⟩
    by_cases hp : sg b.2 <+: sg B[i].2
    · obtain ⟨r', hr'⟩ := hp
      have ea : sg (⟨r'.toArray⟩ : Str) = r' := by simp
      have hs : Rch B B[i].2 ⟨r'.toArray⟩ := .start ⟨i, hi, b, hb, .inl ⟨by rw [ea]; exact hr'.symm, rfl⟩⟩
      rw [← hr', List.append_assoc] at e
      exact hs.go _ (qs := qs) (Nat.le_refl _) o1 o2 (by rw [ea]; exact (List.append_cancel_left e).symm)
    · have : sg B[i].2 <+: sg b.2 := by
        rcases List.prefix_or_prefix_of_prefix (l₁ := sg b.2) (l₂ := sg B[i].2) (l₃ := sg b.2 ++ tx qs) (List.prefix_append _ _) (e ▸ List.prefix_append _ _) with z | z
        · exact absurd z hp
        · exact z
      obtain ⟨r', hr'⟩ := this
      have ea : sg (⟨r'.toArray⟩ : Str) = r' := by simp
      have hs : Rch B (B[i].2 ++ ⟨r'.toArray⟩) ⟨r'.toArray⟩ := .start ⟨i, hi, b, hb, .inr ⟨hp, by rw [ea]; exact hr'.symm, rfl⟩⟩
      rw [← hr', List.append_assoc] at e
      have e2 := List.append_cancel_left e
      obtain ⟨u, h1, h2⟩ := hs.go _ (ps := qs) (qs := ps) (Nat.le_refl _) o2 o1 (by rw [ea]; exact e2)
      refine ⟨u, h1, ?_⟩
      rw [sg_app, ea, List.append_assoc, ← e2] at h2
      exact h2
  have fin : ∀ {u : Str}, (sg u <+: sg a.2 ++ tx ps') → ¬ lfLt t u := fun {u} hu => by
    have hx : sg (⟨(sg a.2 ++ tx ps').toArray⟩ : Str) = sg a.2 ++ tx ps' := by simp
    have h1 : ¬ lfLt (⟨(sg a.2 ++ tx ps').toArray⟩ : Str) u := lf_pre (by rw [hx]; exact hu)
    refine lf_ge h1 ?_
    rintro (z | ⟨z1, z2⟩)
    · rw [str_len, str_len] at z
      have z : (sg t).length < (sg (⟨(sg a.2 ++ tx ps').toArray⟩ : Str)).length := z
      rw [hx, ← e1, tx_cons, List.length_append] at z
      (first | lia | omega)
    · rw [str_len, str_len] at z1
      have z1 : (sg t).length = (sg (⟨(sg a.2 ++ tx ps').toArray⟩ : Str)).length := z1
      have z2 : sg t < sg (⟨(sg a.2 ++ tx ps').toArray⟩ : Str) := z2
      rw [hx] at z1 z2
      rw [← e1, tx_cons, List.length_append] at z1
      have hc : tx c = [] := List.eq_nil_of_length_eq_zero (by (first | lia | omega))
      rw [← e1, tx_cons, hc, List.nil_append] at z2
      exact List.lt_irrefl _ z2
  obtain ⟨i, hi, ei⟩ := List.mem_iff_getElem.mp oa
  obtain ⟨j, hj, ej⟩ := List.mem_iff_getElem.mp ob
  rcases Nat.lt_trichotomy i j with hij | hij | hij
  · obtain ⟨u, h1, h2⟩ := key (a := b) (b := a) oq op e3.symm ⟨j, hj, ej, ei ▸ List.mem_take_iff_getElem.mpr ⟨i, by (first | lia | omega), rfl⟩⟩
    exact ⟨u, h1, fin (e3 ▸ h2)⟩
  · subst hij; exact absurd (ei.symm.trans ej) hab
  · obtain ⟨u, h1, h2⟩ := key (a := a) (b := b) op oq e3 ⟨i, hi, ei, ej ▸ List.mem_take_iff_getElem.mpr ⟨j, by (first | lia | omega), rfl⟩⟩
    exact ⟨u, h1, fin h2⟩
end Z

set_option Elab.async false
set_option linter.all false
set_option maxRecDepth 100000
set_option maxHeartbeats 4000000
namespace Z
open PySem L2 PyProof.Rows
/-! the stands with their texts (k18) -/
noncomputable def St3 (B : List (Str × Str)) (n : Nat) (H : Hp) (a : Addr) (t r : Str) : Prop := ∃ ns ms, Sd H a t r ns ms ∧ Gst B n t r ns ms ∧ ms ≠ []
section
variable {B : List (Str × Str)} {n m : Nat} {H H' : Hp} {a d : Addr} {t r t' r' : Str} {kvs kvs' : List (Key × V)}
theorem St3.std (h : St3 B n H a t r) : Std B n H a r := ⟨t, h⟩
theorem Std.st3 (h : Std B n H a r) : ∃ t, St3 B n H a t r := h
theorem St3.one (h : St3 B n H a t r) (g : St3 B m H a t' r') : t = t' ∧ r = r' := by
  obtain ⟨_, _, ⟨_, _, h1, _⟩, _⟩ := h
  obtain ⟨_, _, ⟨_, _, g1, _⟩, _⟩ := g
  rw [h1] at g1
  injection g1 with g1
  injection g1 with g1
  injection g1 with e1 g1
  injection g1 with e2 g1
  injection e1 with e1
  injection e2 with e2
  exact ⟨e1, e2⟩
theorem St3.same (h : St3 B n H a t r) (s : Same H H') : St3 B n H' a t r := by
  obtain ⟨ns, ms, h1, h2⟩ := h
  exact ⟨ns, ms, h1.same s, h2⟩
theorem St3.mono (h : St3 B n H a t r) (le : n ≤ m) : St3 B m H a t r := by
  obtain ⟨ns, ms, h1, h2, h3⟩ := h
  exact ⟨ns, ms, h1, h2.mono le, h3⟩
theorem St3.off (h : St3 B n H a t r) (s : Off d H H') (hd : H d = some (.dK kvs)) : St3 B n H' a t r := by
  obtain ⟨ns, ms, ⟨p, q, h1, h2, h3⟩, h4⟩ := h
  refine ⟨ns, ms, ⟨p, q, s _ _ (fun z => ?_) h1, s _ _ (fun z => ?_) h2, s _ _ (fun z => ?_) h3⟩, h4⟩
  · rw [z, hd] at h1; cases h1
  · rw [z, hd] at h2; cases h2
  · rw [z, hd] at h3; cases h3
/-- what waits -/
noncomputable def In (B : List (Str × Str)) (n : Nat) (H : Hp) (kvs : List (Key × V)) (t r : Str) : Prop := ∃ a, ((.inr r : Key), V.ref a) ∈ kvs ∧ St3 B n H a t r
theorem In.step (h : In B n H kvs t r) (f : ∀ a t r, St3 B n H a t r → St3 B m H' a t r) : In B m H' kvs t r := by
  obtain ⟨a, h1, h2⟩ := h
  exact ⟨a, h1, f _ _ _ h2⟩
theorem pair_one {ps : List (Key × V)} (nd : (ps.map (·.1)).Nodup) {k : Key} {u v : V} (h : (k, u) ∈ ps) (g : (k, v) ∈ ps) : u = v := by
  have h1 := mem_valV nd h
  have h2 := mem_valV nd g
  rw [h1] at h2
  exact Option.some.inj h2
theorem In.one (nd : (kvs.map (·.1)).Nodup) (h : In B n H kvs t r) (g : In B m H kvs t' r) : t = t' := by
  obtain ⟨a, h1, h2⟩ := h
  obtain ⟨a', g1, g2⟩ := g
  have := pair_one nd h1 g1
  injection this with this
  subst this
  exact (h2.one g2).1
end
noncomputable def spLs3 : Sp := fun vs H Q _ => ∃ (d : Addr) (kvs : List (Key × V)) (B : List (Str × Str)) (n : Nat), vs = [.ref d] ∧ H d = some (.dK kvs) ∧ Wt B n H kvs ∧ kvs.length ≤ 1000 ∧ n ≤ 1000 ∧ kvs ≠ [] ∧
  ∀ t r a H', (.inr r, .ref a) ∈ kvs → St3 B n H a t r → (∀ t' r', In B n H kvs t' r' → ¬ lfLt t' t) → Same H H' → Q (.ref a) H'
section
variable {P : Program} {w : World} {K : PySem.W.Frag} {mg : Str → Option Value} {base : Heap} {f : Addr} {fd : FuncData}
theorem ok_ls3 (F : Fun K "least_stand" "least_stand" (top i_least_stand) f fd) (T : Nm mg) (f_stand_order : Fn P w K mg base 2 "stand_order" ["stand"] spSo) : FnOk P w K mg base CX0 5 f fd ["waiting"] spLs3 := by
  obtain ⟨ky_stand_order, fdk, FK_stand_order, BK_stand_order, _, GK_stand_order⟩ := f_stand_order.ex
  refine F.ok sc_least_stand (fun vs H Q E h => ?_) (fun cdv A outer s H vs Q E hr h => ?_)
  · obtain ⟨d, kvs, B, n, rfl, _⟩ := h
    rfl
  obtain ⟨d, kvs, B, n, rfl, hd, wt, hk, hn, hne, q⟩ := h
  have hu := hu_of hr
  have hu6 := hr.units
  refine ⟨_, (pss_one (ps_ret (pe_callBK (minKT K (key_fn1 FK_stand_order (hr.mono (by decide)) BK_stand_order) rfl hu6) rfl T.n_min (by rfl) (pa_cons (pe_thaw (pe_lcomp rfl (comp_ok (Nc := ["rest"]) (Fc := ["waiting"]) (js := [0])) (pi_dkeys (pv 0)) (gk_name (i := 0) (n := 1) (by decide)) (fun _ _ _ _ _ => (pg_name (i := 0) (show (["rest", "waiting"] : List Str).Nodup by decide +kernel) rfl (Or.inl rfl))) (fun _ _ _ _ _ => pts_nil) (fun _ _ _ _ _ => (pe_dget hu (pv 1) (pv 0) (fun _ _ => rfl))))) pa_nil) (pk_cons (pe_glob (v := .ref ky_stand_order) rfl GK_stand_order rfl) pk_nil)))), ?_⟩
  refine ⟨d, ⟨kvs, hd⟩, _, rfl, d, kvs, rfl, hd, fun ob => ?_⟩
  obtain ⟨L, rfl, hL⟩ := stands_of wt.st
  rw [List.length_map] at hk
  have at1 : ∀ {i : Nat} (hi : i < L.length), (L.map fun x => ((.inr x.1 : Key), V.ref x.2.1))[i]? = some (.inr L[i].1, .ref L[i].2.1) := fun hi => by rw [List.getElem?_map, List.getElem?_eq_getElem hi]; rfl
  refine comp_go (N := L.length) (fun i ys H' => H' = upd H d (.frz ob (.dK (L.map fun x => (.inr x.1, .ref x.2.1)))) ∧ ys = (L.take i).map fun x => V.ref x.2.1) ⟨rfl, rfl⟩ ?_ ?_
  · rintro i ys H1 Ny hi ⟨rfl, rfl⟩ ny
    refine ⟨⟨upd_same, by rw [List.length_map]; exact hi⟩, by rw [List.length_map, List.length_take]; exact Nat.lt_of_le_of_lt (show min i L.length ≤ 1000 by (first | lia | omega)) (by decide), ?_⟩
    rintro x H2 ⟨rfl, z, hz, rfl⟩
    rw [at1 hi] at hz
    cases hz
    refine gn ⟨_, rfl, _, rfl, d, .ref L[i].2.1, rfl, .inl ⟨_, .inr L[i].1, .inr ⟨_, upd_same⟩, rfl, ?_⟩, ny _ _ ⟨rfl, ?_⟩⟩
    · exact (mem_valV wt.nd (List.mem_map.mpr ⟨L[i], List.getElem_mem hi, rfl⟩)).symm
    · rw [take_next hi, List.map_append]; rfl
  · rintro ys H1 ⟨rfl, rfl⟩
    refine ⟨⟨upd_same, by rw [List.length_map]; exact Nat.le_refl _⟩, fun p hp => ?_⟩
    rw [List.take_length]
    have dp : d ≠ p := fun z => by rw [z, upd_same] at hp; cases hp
    have e : upd (upd (upd H d (.frz ob (.dK (L.map fun x => (.inr x.1, .ref x.2.1))))) p (.lst (L.map fun x => V.ref x.2.1))) d (.dK (L.map fun x => (.inr x.1, .ref x.2.1))) = upd H p (.lst (L.map fun x => V.ref x.2.1)) := by
      funext b
      by_cases b1 : b = d
      · rw [b1, upd_same, upd_ne dp, hd]
      · rw [upd_ne b1]
        by_cases b2 : b = p
        · rw [b2, upd_same, upd_same]
        · rw [upd_ne b2, upd_ne b2, upd_ne b1]
    have hp0 : H p = none := by rw [upd_ne (Ne.symm dp)] at hp; exact hp
    refine ⟨ob, _, by rw [upd_ne dp]; exact upd_same, ?_⟩
    rw [e]
    have n1 : New H p (.lst (L.map fun x => V.ref x.2.1)) (upd H p (.lst (L.map fun x => V.ref x.2.1))) := ⟨hp0, rfl⟩
    generalize upd H p (.lst (L.map fun x => V.ref x.2.1)) = H1 at n1 ⊢
    have em : (L.map fun x => V.ref x.2.1) = (L.map fun x => x.2.1).map V.ref := by rw [List.map_map]; rfl
    refine ⟨p, L.map fun x => x.2.1, fun i => ((L[i]?).map fun x => x.2.2).getD "", rfl, rfl, em ▸ SqL.of n1.at, fun z => hne ?_, fun i a hi Hj sj => ?_, fun i a H' hi fst s' => ?_⟩
    · have : L = [] := List.map_eq_nil_iff.mp z
      rw [this]; rfl
    · rw [List.getElem?_map] at hi
      cases hx : L[i]? with
      | none => rw [hx] at hi; cases hi
      | some x =>
        rw [hx] at hi
        cases hi
        obtain ⟨ns, ms, h1, h2, h3⟩ := hL x (List.mem_of_getElem? hx)
        refine ⟨x.2.1, x.2.2, x.1, ns, ms, rfl, (h1.same n1.same).same sj, ?_, fun z H' n => ⟨z, rfl, ?_⟩⟩
        · have := h2.t
          (first | lia | omega)
        · dsimp only; rw [hx]; exact n
    · rw [List.getElem?_map] at hi
      cases hx : L[i]? with
      | none => rw [hx] at hi; cases hi
      | some x =>
        rw [hx] at hi
        cases hi
        obtain ⟨ns, ms, h1⟩ := hL x (List.mem_of_getElem? hx)
        refine q x.2.2 x.1 x.2.1 H' (List.mem_map.mpr ⟨x, List.mem_of_getElem? hx, rfl⟩) ⟨ns, ms, h1⟩ (fun t' r' hin => ?_) (n1.same.trans s')
        obtain ⟨a', g1, g2⟩ := hin
        obtain ⟨y, hy, ey⟩ := List.mem_map.mp g1
        injection ey with ey1 ey2
        injection ey1 with ey1
        injection ey2 with ey2
        obtain ⟨ns', ms', h1'⟩ := hL y hy
        have h1' : St3 B n H y.2.1 y.2.2 y.1 := ⟨ns', ms', h1'⟩
        rw [ey2] at h1'
        rw [(g2.one h1').1]
        obtain ⟨j, hj, ej⟩ := List.mem_iff_getElem.mp hy
        have := fst.2.1 j (by rw [List.length_map]; exact hj)
        dsimp only at this
        rw [hx, List.getElem?_eq_getElem hj, ej] at this
        exact this
end
end Z

set_option Elab.async false
set_option linter.all false
set_option maxRecDepth 100000
set_option maxHeartbeats 4000000
namespace Z
open PySem L2 PyProof.Rows
section
variable {P : Program} {w : World} {K : PySem.W.Frag} {mg : Str → Option Value} {base : Heap} {f : Addr} {fd : FuncData}
theorem sc_keep_least : FnScope ["waiting", "stands", "stand", "rest"] ["waiting", "stands"] (defScope (top i_keep_least)) := ⟨rfl, rfl, rfl, by decide +kernel, rfl, by decide +kernel, by decide +kernel⟩
end
end Z

set_option Elab.async false
set_option linter.all false
set_option maxRecDepth 100000
set_option maxHeartbeats 4000000
namespace Z
open PySem L2 PyProof.Rows
theorem put_self {kvs : List (Key × V)} {k : Key} {v : V} : (k, v) ∈ putK kvs k v := by
  unfold putK
  split
  · rename_i h
    obtain ⟨z, hz, e⟩ := List.any_eq_true.mp h
    refine List.mem_map.mpr ⟨z, hz, ?_⟩
    have e : z.1 = k := by simpa using e
    rw [if_pos e, e]
  · exact List.mem_append_right _ (List.mem_singleton.mpr rfl)
theorem put_keep {kvs : List (Key × V)} {k k' : Key} {v u : V} (h : (k', u) ∈ kvs) (ne : k' ≠ k) : (k', u) ∈ putK kvs k v := by
  unfold putK
  split
  · exact List.mem_map.mpr ⟨_, h, if_neg ne⟩
  · exact List.mem_append_left _ h
theorem put_only {kvs : List (Key × V)} {k k' : Key} {v u : V} (h : (k', u) ∈ putK kvs k v) : (k' = k ∧ u = v) ∨ (k' ≠ k ∧ (k', u) ∈ kvs) := by
  unfold putK at h
  split at h
  · obtain ⟨z, hz, e⟩ := List.mem_map.mp h
    by_cases ek : z.1 = k
    · rw [if_pos ek] at e
      injection e with e1 e2
      exact .inl ⟨e1 ▸ ek, e2.symm⟩
    · rw [if_neg ek] at e
      subst e
      exact .inr ⟨ek, hz⟩
  · rename_i hn
    rcases List.mem_append.mp h with h | h
    · refine .inr ⟨fun e => hn (List.any_eq_true.mpr ⟨_, h, by simpa using e⟩), h⟩
    · have := List.mem_singleton.mp h
      injection this with e1 e2
      exact .inl ⟨e1, e2⟩
/-- of what waited and the first i stands, the least of each rest -/
structure KlS (B : List (Str × Str)) (n : Nat) (H : Hp) (kvs : List (Key × V)) (as : List (Str × Addr)) (i : Nat) (H' : Hp) (kvs' : List (Key × V)) : Prop where
  snd : ∀ t r, In B n H' kvs' t r → In B n H kvs t r ∨ ∃ x ∈ as, x.1 = r ∧ St3 B n H x.2 t r
  cv1 : ∀ t r, In B n H kvs t r → ∃ t', In B n H' kvs' t' r ∧ ¬ lfLt t t'
  cv2 : ∀ x ∈ as.take i, ∀ t, St3 B n H x.2 t x.1 → ∃ t', In B n H' kvs' t' x.1 ∧ ¬ lfLt t t'
section
variable {B : List (Str × Str)} {n i : Nat} {H H' H4 : Hp} {kvs kvs' : List (Key × V)} {as : List (Str × Addr)} {t : Str}
theorem In.back (wt : Wt B n H' kvs') (f : ∀ a t r, St3 B n H' a t r → St3 B n H4 a t r) {t r : Str} (h : In B n H4 kvs' t r) : In B n H' kvs' t r := by
  obtain ⟨a, h1, h2⟩ := h
  obtain ⟨r', a', e, t', g⟩ := wt.st _ h1
  cases e
  have g : St3 B n H' a t' r := g
  have := ((f _ _ _ g).one h2).1
  subst this
  exact ⟨a, h1, g⟩
theorem KlS.keep (k : KlS B n H kvs as i H' kvs') (wt : Wt B n H' kvs') (hi : i < as.length) (f : ∀ a t r, St3 B n H' a t r → St3 B n H4 a t r) (hs : St3 B n H as[i].2 t as[i].1) (hx : ∃ t', In B n H' kvs' t' as[i].1 ∧ ¬ lfLt t t') : KlS B n H kvs as (i + 1) H4 kvs' := by
  refine ⟨fun t r h => k.snd t r (h.back wt f), fun t r h => ?_, fun x hx' t1 h1 => ?_⟩
  · obtain ⟨t', h1, h2⟩ := k.cv1 t r h
    exact ⟨t', h1.step f, h2⟩
  · rw [take_next hi] at hx'
    rcases List.mem_append.mp hx' with hx' | hx'
    · obtain ⟨t', g1, g2⟩ := k.cv2 x hx' t1 h1
      exact ⟨t', g1.step f, g2⟩
    · have e := List.mem_singleton.mp hx'
      subst e
      rw [(h1.one hs).1]
      obtain ⟨t', g1, g2⟩ := hx
      exact ⟨t', g1.step f, g2⟩
theorem KlS.put (k : KlS B n H kvs as i H' kvs') (wt : Wt B n H' kvs') (hi : i < as.length) (f : ∀ a t r, St3 B n H' a t r → St3 B n H4 a t r) (hs : St3 B n H as[i].2 t as[i].1) (h4 : St3 B n H4 as[i].2 t as[i].1) (lt : ∀ t', In B n H' kvs' t' as[i].1 → ¬ lfLt t' t) : KlS B n H kvs as (i + 1) H4 (putK kvs' (.inr as[i].1) (.ref as[i].2)) := by
  have self : In B n H4 (putK kvs' (.inr as[i].1) (.ref as[i].2)) t as[i].1 := ⟨_, put_self, h4⟩
  have cov : ∀ {t1 r1 : Str}, (∃ t', In B n H' kvs' t' r1 ∧ ¬ lfLt t1 t') → ∃ t', In B n H4 (putK kvs' (.inr as[i].1) (.ref as[i].2)) t' r1 ∧ ¬ lfLt t1 t' := fun {t1 r1} ⟨t', h1, h2⟩ => by
    by_cases e : r1 = as[i].1
    · subst e
      exact ⟨t, self, lf_ge (lt _ h1) h2⟩
    · obtain ⟨a, g1, g2⟩ := h1
      exact ⟨t', ⟨a, put_keep g1 (fun z => e (Sum.inr.inj z)), f _ _ _ g2⟩, h2⟩
  refine ⟨fun t1 r1 h => ?_, fun t1 r1 h => cov (k.cv1 t1 r1 h), fun x hx' t1 h1 => ?_⟩
  · obtain ⟨a, g1, g2⟩ := h
    rcases put_only g1 with ⟨e1, e2⟩ | ⟨_, g1⟩
    · have e1 := Sum.inr.inj e1
      injection e2 with e2
      subst e1 e2
      rw [(g2.one h4).1]
      exact .inr ⟨_, List.getElem_mem hi, rfl, hs⟩
    · exact k.snd t1 r1 (In.back wt f ⟨a, g1, g2⟩)
  · rw [take_next hi] at hx'
    rcases List.mem_append.mp hx' with hx' | hx'
    · exact cov (k.cv2 x hx' t1 h1)
    · have e := List.mem_singleton.mp hx'
      subst e
      rw [(h1.one hs).1]
      exact ⟨t, self, lf_refl _⟩
end
/-- stands by their rests, the least of each -/
noncomputable def spKl3 (K : PySem.W.Frag) : Sp := fun vs H Q _ => ∃ (d l : Addr) (kvs : List (Key × V)) (as : List (Str × Addr)) (B : List (Str × Str)) (n : Nat), vs = [.ref d, .ref l] ∧ H d = some (.dK kvs) ∧ H l = some (.lst (as.map fun x => V.ref x.2)) ∧ Wt B n H kvs ∧ (sfxs B).length ≤ 1000 ∧ n ≤ 1000 ∧ as.length ≤ 1000 ∧ (∀ x ∈ as, Std B n H x.2 x.1) ∧
  ∀ kvs' H', Off d H H' → H' d = some (.dK kvs') → Wt B n H' kvs' → (∀ k ∈ kvs'.map (·.1), k ∈ kvs.map (·.1) ∨ ∃ x ∈ as, k = .inr x.1) → KlS B n H kvs as as.length H' kvs' → Q .non H'
section
variable {P : Program} {w : World} {K : PySem.W.Frag} {mg : Str → Option Value} {base : Heap} {f : Addr} {fd : FuncData}
theorem ok_kl3 (F : Fun K "keep_least" "keep_least" (top i_keep_least) f fd) (T : Nm mg) (f_stand_order : Fn P w K mg base 2 "stand_order" ["stand"] spSo) : FnOk P w K mg base CX0 3 f fd ["waiting", "stands"] (spKl3 K) := by
  refine F.ok sc_keep_least (fun vs H Q E h => ?_) (fun cdv A outer s H vs Q E hr h => ?_)
  · obtain ⟨d, l, kvs, as, B, n, rfl, _⟩ := h
    rfl
  obtain ⟨d, l, kvs, as, B, n, rfl, hd, hl, wt, hB, hn, has, hst, q⟩ := h
  have hu := hu_of hr
  have hu6 := hr.units
  refine ⟨_, (pss_one (ps_for PassesOwn.never rfl (piK K (pv 1)) (pg_name (i := 2) sc_keep_least.nd rfl (Or.inl rfl)) (pss_cons (ps_set (i := 3) sc_keep_least.nd rfl (Or.inl rfl) (pe_ix (ixK K) (pv 2) pe_int (fun _ _ => rfl)))
    (pss_one (ps_if (PW.pt (pw_or (pt_cmp (pc_dnotin hu (pv 3) (pv 0))) (pw_or1 (pt_cmpR (op_ltP (Nat.lt_of_le_of_lt (Nat.le_add_right _ 64) hu6)) (pe_fn (f_stand_order.mono (by first | decide | exact Nat.le_refl _ | (first | lia | omega))) hr rfl (pa_cons (pv 2) pa_nil)) (pe_fn (f_stand_order.mono (by first | decide | exact Nat.le_refl _ | (first | lia | omega))) hr rfl (pa_cons (pe_dget hu (pv 0) (pv 3) (fun _ _ => rfl)) pa_nil)) (nomark _))))) (pss_one (ps_dput hu (pv 0) (pv 3) (pv 2) rfl)) pss_nil))))), ?_⟩
  have ld : l ≠ d := fun z => by rw [z, hd] at hl; cases hl
  have at1 : ∀ {i : Nat} (hi : i < as.length), (as.map fun x => V.ref x.2)[i]? = some (.ref as[i].2) := fun hi => by rw [List.getElem?_map, List.getElem?_eq_getElem hi]; rfl
  refine ⟨_, rfl, l, rfl, ⟨_, SqL.of hl⟩, ?_⟩
  refine for_go (N := as.length) (fun i σ H' => ∃ x2 x3 kvs', σ = [some (.ref d), some (.ref l), x2, x3] ∧ Off d H H' ∧ H' d = some (.dK kvs') ∧ Wt B n H' kvs' ∧ (∀ k ∈ kvs'.map (·.1), k ∈ kvs.map (·.1) ∨ ∃ x ∈ as, k = .inr x.1) ∧ KlS B n H kvs as i H' kvs') ⟨_, _, kvs, rfl, fun _ _ _ h => h, hd, wt, fun k hk => .inl hk, fun t r h => .inl h, fun t r h => ⟨t, h, lf_refl _⟩, fun x hx => nomatch hx⟩ ?_ ?_
  · rintro i σ H1 hi ⟨x2, x3, kvs', rfl, of1, hd1, wt1, hk1, ks1⟩
    have hl1 := of1 _ _ ld hl
    refine ⟨⟨_, _, SqL.of hl1, at1 hi⟩, ?_⟩
    rintro x H2 ⟨rfl, hy⟩
    have e := hy _ (SqL.of hl1)
    rw [at1 hi] at e; cases e
    have hm := List.getElem_mem hi
    obtain ⟨t, sx⟩ := (hst _ hm).st3
    have sd3 : St3 B n H2 as[i].2 t as[i].1 := sx.off of1 hd
    have ksP := fun {H4 : Hp} (f : ∀ a t r, St3 B n H2 a t r → St3 B n H4 a t r) (lt : ∀ t', In B n H2 kvs' t' as[i].1 → ¬ lfLt t' t) => ks1.put wt1 hi f sx (f _ _ _ sd3) lt
    have ksK := fun {H4 : Hp} (f : ∀ a t r, St3 B n H2 a t r → St3 B n H4 a t r) (h : ∃ t', In B n H2 kvs' t' as[i].1 ∧ ¬ lfLt t t') => ks1.keep wt1 hi f sx h
    have sd := sd3.std
    generalize as[i] = x at hm sd sd3 ksP ksK
    obtain ⟨ns, ms, ⟨p, p', h1, h2, h3⟩, g, hms⟩ := id sd3
    have ht := g.t
    have hlen := keys_le wt1.nd wt1.sfx
    rw [List.length_map] at hlen
    have put : ∀ {H3 : Hp}, Same H2 H3 → (∀ t', In B n H2 kvs' t' x.1 → ¬ lfLt t' t) → ∃ H4, DPut H3 d (.str x.1) (.ref x.2) H4 ∧ (∃ (x2 x3 : Option V) (kvs' : List (Key × V)), ([some (.ref d), some (.ref l), some (.ref x.2), some (.str x.1)] : L2.St) = [some (.ref d), some (.ref l), x2, x3] ∧ Off d H H4 ∧ H4 d = some (.dK kvs') ∧ Wt B n H4 kvs' ∧ (∀ k ∈ kvs'.map (·.1), k ∈ kvs.map (·.1) ∨ ∃ x ∈ as, k = .inr x.1) ∧ KlS B n H kvs as (i + 1) H4 kvs') := fun {H3} s3 lt => by
      have hd3 := s3 _ _ hd1
      have of4 : Off d H3 (upd H3 d (.dK (putK kvs' (.inr x.1) (.ref x.2)))) := fun b o nb h => by rw [upd_ne nb]; exact h
      refine ⟨_, .inl ⟨_, .inr x.1, hd3, rfl, Nat.lt_of_le_of_lt (Nat.le_trans hlen hB) (by decide), rfl⟩, _, _, _, rfl, (of1.trans fun b o _ h => s3 b o h).trans of4, upd_same, ?_, fun k hk => ?_, ksP (fun a t r h => (h.same s3).off of4 hd3) lt⟩
      · exact (wt1.put sd).step fun a r h => (h.same s3).off of4 hd3
      · obtain ⟨z, hz, rfl⟩ := List.mem_map.mp hk
        rcases mem_put hz with rfl | hz
        · exact .inr ⟨x, hm, rfl⟩
        · exact hk1 _ (List.mem_map_of_mem hz)
    refine gn ⟨_, rfl, .inr (.inl ⟨_, _, 1, .str x.1, rfl, rfl, SqT.of h1, rfl, gn ?_⟩)⟩
    dsimp only
    cases hv : valV kvs' (.inr x.1) with
    | none =>
      refine ⟨_, rfl, _, rfl, d, none, rfl, .inl ⟨_, .inr x.1, .inl hd1, rfl, hv.symm⟩, _, rfl, iteT (iteT ⟨_, rfl, _, rfl, _, rfl, ?_⟩)⟩
      obtain ⟨H4, h4, r4⟩ := put (fun _ _ h => h) fun t' ⟨a, h1, _⟩ => absurd (List.mem_map_of_mem (f := (·.1)) h1) (valV_not hv)
      exact ⟨d, H4, rfl, h4, r4⟩
    | some v =>
      obtain ⟨r', a', e', t', ns', ms', sd', g', hm'⟩ := wt1.st _ (valV_mem hv)
      cases e'
      have in' : In B n H2 kvs' t' x.1 := ⟨a', valV_mem hv, ns', ms', sd', g', hm'⟩
      have ht' := g'.t
      refine ⟨_, rfl, _, rfl, d, some (.ref a'), rfl, .inl ⟨_, .inr x.1, .inl hd1, rfl, hv.symm⟩, _, rfl, iteF ?_⟩
      refine ⟨_, rfl, x.2, t, x.1, ns, ms, rfl, ⟨p, p', h1, h2, h3⟩, by (first | lia | omega), fun z3 H3 n3 => ?_⟩
      refine ⟨_, rfl, _, rfl, d, .ref a', rfl, .inl ⟨_, .inr x.1, .inl (n3.same _ _ hd1), rfl, hv.symm⟩, a', t', x.1, ns', ms', rfl, sd'.same n3.same, by (first | lia | omega), fun z4 H4 n4 => ?_⟩
      refine ⟨z3, z4, _, _, t, t', rfl, rfl, SqT.of (n4.same _ _ n3.at), SqT.of n4.at, _, rfl, ?_⟩
      rw [prLt_lf]
      refine ite2 (fun c => ⟨_, rfl, _, rfl, _, rfl, ?_⟩) fun c => ?_
      · obtain ⟨H5, h5, r5⟩ := put (n3.same.trans n4.same) fun t1 h1 => by
          rw [h1.one wt1.nd in']
          have c : lfLt t t' := by simpa using c
          exact fun z => lfLt_irrefl _ (lfLt_trans c z)
        exact ⟨d, H5, rfl, h5, r5⟩
      · have s4 := n3.same.trans n4.same
        exact ⟨_, _, kvs', rfl, of1.trans fun b o _ h => s4 b o h, s4 _ _ hd1, wt1.step fun a r h => h.same s4, hk1, ksK (fun a t r h => h.same s4) ⟨t', in', by simpa using c⟩⟩
  · rintro σ H1 ⟨x2, x3, kvs', rfl, of1, hd1, wt1, hk1, ks1⟩
    exact ⟨⟨_, SqL.of (of1 _ _ ld hl), by rw [List.length_map]; exact Nat.le_refl _⟩, q kvs' H1 of1 hd1 wt1 hk1 ks1⟩
end
end Z

set_option Elab.async false
set_option linter.all false
set_option maxRecDepth 100000
set_option maxHeartbeats 4000000
namespace Z
open PySem L2 PyProof.Rows
theorem Same.off {d : Addr} {H H' : Hp} (h : Same H H') : Off d H H' := fun b o _ e => h b o e
theorem chgOff {d : Addr} {H H' : Hp} {o : HO} (h : Chg H d o H') : Off d H H' := fun b o n e => by rw [h.ne n]; exact e
section
variable {P : Program} {w : World} {K : PySem.W.Frag} {mg : Str → Option Value} {base : Heap} {f : Addr} {fd : FuncData}
theorem sc_stands_behind : FnScope ["book", "stand", "text", "rest", "ahead", "behind", "stands", "name", "code", "over"] ["book", "stand"] (defScope (top i_stands_behind)) := ⟨rfl, rfl, rfl, by decide +kernel, rfl, by decide +kernel, by decide +kernel⟩
end
end Z

set_option Elab.async false
set_option linter.all false
set_option maxRecDepth 100000
set_option maxHeartbeats 4000000
namespace Z
open PySem L2 PyProof.Rows
theorem starts_iff (x y : Str) : Txt.startswith x y = true ↔ sg y <+: sg x := by
  have hl : y.length = (sg y).length := str_len y
  have hx : x.length = (sg x).length := str_len x
  have e : (x.cps.extract 0 (0 + y.length) == y.cps) = true ↔ (sg x).take y.length = sg y := by
    rw [beq_iff_eq, ← Array.toList_inj]
    simp [Array.toList_extract]
  show (decide (0 + y.length ≤ x.length) && (x.cps.extract 0 (0 + y.length) == y.cps)) = true ↔ _
  rw [Bool.and_eq_true, decide_eq_true_iff, e]
  constructor
  · rintro ⟨_, h⟩
    rw [← h]
    exact List.take_prefix _ _
  · intro h
    exact ⟨by have := h.length_le; (first | lia | omega), by rw [hl]; exact (List.prefix_iff_eq_take.mp h).symm⟩
theorem sg_drop {x y : Str} (c : sg x <+: sg y) : sg y = sg x ++ sg (Txt.slice y (some ((x.length : Nat) : Int)) none) := by
  rw [sl_fromN, show x.length = (sg x).length from str_len x]
  exact List.prefix_iff_eq_append.mp c |>.symm
theorem nx_no {z : Str × Str} {t r : Str} (c1 : ¬ sg z.2 <+: sg r) (c2 : ¬ sg r <+: sg z.2) (t' r' : Str) : ¬ Nx z t r t' r' := fun h => by
  rcases h with ⟨h1, _⟩ | ⟨_, h1, _⟩
  · exact c1 (h1 ▸ List.prefix_append _ _)
  · exact c2 (h1 ▸ List.prefix_append _ _)
/-- the stands behind one -/
noncomputable def spSb3 (K : PySem.W.Frag) : Sp := fun vs H Q _ => ∃ (l a : Addr) (bk B : List (Str × Str)) (n : Nat) (t r : Str) (ns ms : List Str), vs = [.ref l, .ref a] ∧ BkL K H bk l ∧ (∀ q ∈ bk, q ∈ B) ∧ bk.length ≤ 16 ∧ (∀ q ∈ B, CodeOk 12 q.2) ∧ Sd H a t r ns ms ∧ Gst B n t r ns ms ∧ n ≤ 999 ∧
  ∀ (as : List (Str × Addr)) (p : Addr) (H' : Hp), Same H H' → H p = none → H' p = some (.lst (as.map fun x => V.ref x.2)) → as.length ≤ bk.length → (∀ x ∈ as, ∃ z ∈ bk, ∃ t', Nx z t r t' x.1 ∧ St3 B (n + 1) H' x.2 t' x.1) → (∀ z ∈ bk, ∀ t' r', Nx z t r t' r' → ∃ x ∈ as, x.1 = r' ∧ St3 B (n + 1) H' x.2 t' r') → Q (.ref p) H'
/-- a stand, none of whose parts is the list l -/
noncomputable def Sdy (l : Addr) (B : List (Str × Str)) (n : Nat) (H : Hp) (a : Addr) (t r : Str) : Prop := ∃ ns ms p q, H a = some (.tup [.str t, .str r, .ref p, .ref q]) ∧ H p = some (.lst (ns.map V.str)) ∧ H q = some (.lst (ms.map V.str)) ∧ p ≠ l ∧ q ≠ l ∧ Gst B n t r ns ms ∧ ms ≠ []
theorem Sdy.st3 {l : Addr} {B : List (Str × Str)} {n : Nat} {H : Hp} {a : Addr} {t r : Str} (h : Sdy l B n H a t r) : St3 B n H a t r := by
  obtain ⟨ns, ms, p, q, h1, h2, h3, _, _, g, hm⟩ := h
  exact ⟨ns, ms, ⟨p, q, h1, h2, h3⟩, g, hm⟩
theorem Sdy.off {l : Addr} {B : List (Str × Str)} {n : Nat} {H H' : Hp} {a : Addr} {t r : Str} {xs : List V} (h : Sdy l B n H a t r) (hl : H l = some (.lst xs)) (s : Off l H H') : Sdy l B n H' a t r := by
  obtain ⟨ns, ms, p, q, h1, h2, h3, hp, hq, g⟩ := h
  exact ⟨ns, ms, p, q, s _ _ (fun z => by rw [z, hl] at h1; cases h1) h1, s _ _ hp h2, s _ _ hq h3, hp, hq, g⟩
noncomputable def SbJ (H : Hp) (l a : Addr) (t r : Str) (pA pB fp : Addr) (B : List (Str × Str)) (n : Nat) (L : List (Str × Str)) (σ : L2.St) (H' : Hp) : Prop :=
  ∃ (x7 x8 x9 : Option V) (as : List (Str × Addr)), σ = [some (.ref l), some (.ref a), some (.str t), some (.str r), some (.ref pA), some (.ref pB), some (.ref fp), x7, x8, x9] ∧ Same H H' ∧ H' fp = some (.lst (as.map fun x => V.ref x.2)) ∧ as.length ≤ L.length ∧ (∀ x ∈ as, ∃ z ∈ L, ∃ t', Nx z t r t' x.1 ∧ Sdy fp B (n + 1) H' x.2 t' x.1) ∧ ∀ z ∈ L, ∀ t' r', Nx z t r t' r' → ∃ x ∈ as, x.1 = r' ∧ Sdy fp B (n + 1) H' x.2 t' r'
theorem SbJ.more {H H2 H3 H4 H5 H6 : Hp} {l a : Addr} {t r t' r' nm : Str} {pA pB fp p1 p2 a' u v : Addr} {B L : List (Str × Str)} {z : Str × Str} {n : Nat} {as : List (Str × Addr)} {ms ns' ms' : List Str} {x7 x8 x9 : Option V} (sm : Same H H2) (h0 : H fp = none) (hf : H2 fp = some (.lst (as.map fun x => V.ref x.2))) (hal : as.length ≤ L.length) (hst : ∀ x ∈ as, ∃ z ∈ L, ∃ t', Nx z t r t' x.1 ∧ Sdy fp B (n + 1) H2 x.2 t' x.1)
    (hcv : ∀ z ∈ L, ∀ t' r', Nx z t r t' r' → ∃ x ∈ as, x.1 = r' ∧ Sdy fp B (n + 1) H2 x.2 t' r') (nx : Nx z t r t' r')
    (n3 : New H2 p1 (.lst [.str nm]) H3) (n4 : New H3 p2 (.lst (ms.map V.str ++ [.str nm])) H4) (n5 : New H4 a' (.tup [.str t', .str r', .ref u, .ref v]) H5) (c6 : Chg H5 fp (.lst (as.map (fun x => V.ref x.2) ++ [.ref a'])) H6)
    (hu : H5 u = some (.lst (ns'.map V.str))) (hv : H5 v = some (.lst (ms'.map V.str))) (uf : u ≠ fp) (vf : v ≠ fp) (g : Gst B (n + 1) t' r' ns' ms') (hm : ms' ≠ []) :
    SbJ H l a t r pA pB fp B n (L ++ [z]) [some (.ref l), some (.ref a), some (.str t), some (.str r), some (.ref pA), some (.ref pB), some (.ref fp), x7, x8, x9] H6 := by
  have s5 : Same H2 H5 := n3.same.trans (n4.same.trans n5.same)
  have hf5 := s5 _ _ hf
  have of : Off fp H2 H6 := (Same.off s5).trans (chgOff c6)
  have af : a' ≠ fp := fun z => by
    have := n5.nn
    rw [z, n4.same _ _ (n3.same _ _ hf)] at this; cases this
  have new : Sdy fp B (n + 1) H6 a' t' r' := ⟨ns', ms', u, v, by rw [c6.ne af]; exact n5.at, by rw [c6.ne uf]; exact hu, by rw [c6.ne vf]; exact hv, uf, vf, g, hm⟩
  refine ⟨x7, x8, x9, as ++ [(r', a')], rfl, fun b o e => of b o (ne_of_none e h0) (sm b o e), ?_, ?_, fun x hx => ?_, fun y hy t1 r1 hn => ?_⟩
  · rw [c6.at, List.map_append]; rfl
  · rw [List.length_append, List.length_append]; exact Nat.succ_le_succ hal
  · rcases List.mem_append.mp hx with hx | hx
    · obtain ⟨y, hy, t1, h1, h2⟩ := hst x hx
      exact ⟨y, List.mem_append_left _ hy, t1, h1, h2.off hf of⟩
    · rw [List.mem_singleton.mp hx]
      exact ⟨z, List.mem_append_right _ (List.mem_singleton.mpr rfl), t', nx, new⟩
  · rcases List.mem_append.mp hy with hy | hy
    · obtain ⟨x, hx, e, h2⟩ := hcv y hy t1 r1 hn
      exact ⟨x, List.mem_append_left _ hx, e, h2.off hf of⟩
    · rw [List.mem_singleton.mp hy] at hn
      obtain ⟨e1, e2⟩ := nx.one hn
      subst e1 e2
      exact ⟨(r', a'), List.mem_append_right _ (List.mem_singleton.mpr rfl), rfl, new⟩
section
variable {P : Program} {w : World} {K : PySem.W.Frag} {mg : Str → Option Value} {base : Heap} {f : Addr} {fd : FuncData}
theorem ok_sb3 (F : Fun K "stands_behind" "stands_behind" (top i_stands_behind) f fd) (T : Nm mg) : FnOk P w K mg base CX0 1 f fd ["book", "stand"] (spSb3 K) := by
  refine F.ok sc_stands_behind (fun vs H Q E h => ?_) (fun cdv A outer s H vs Q E hr h => ?_)
  · obtain ⟨l, a, bk, B, n, t, r, ns, ms, rfl, _⟩ := h
    rfl
  obtain ⟨l, a, bk, B, n, t, r, ns, ms, rfl, hB, sub, hbl, cd, ⟨pA, pB, h1, h2, h3⟩, g, hn, q⟩ := h
  refine ⟨_, (pss_cons (ps_asg (pv 1) (tupK K 4 rfl (pgs_cons (pg_name (i := 2) sc_stands_behind.nd rfl (Or.inl rfl)) (pgs_cons (pg_name (i := 3) sc_stands_behind.nd rfl (Or.inl rfl)) (pgs_cons (pg_name (i := 4) sc_stands_behind.nd rfl (Or.inl rfl)) (pgs_cons (pg_name (i := 5) sc_stands_behind.nd rfl (Or.inl rfl)) pgs_nil))))))
    (pss_cons (ps_set (i := 6) sc_stands_behind.nd rfl (Or.inl rfl) (lstN pa_nil))
    (pss_cons (ps_for PassesOwn.never rfl (piK K (pv 0)) (tupK K 2 rfl (pgs_cons (pg_name (i := 7) sc_stands_behind.nd rfl (Or.inl rfl)) (pgs_cons (pg_name (i := 8) sc_stands_behind.nd rfl (Or.inl rfl)) pgs_nil))) (pss_one (ps_if (pt_val (bmK K PySem.F.plainAttrs_str PySem.F.slot_str_startswith PySem.F.type_str_startswith mt_startswith (pv 3) (pa_cons (pv 8) pa_nil))) (pss_one (ps_expr (bmK K PySem.F.plainAttrs_list PySem.F.slot_list_append PySem.F.type_list_append appendN (pv 6) (pa_cons (tupN (pa_cons (pv 2) (pa_cons (pe_slice (slN K) (pv 3) (po_some (pe_callB (lenK K) rfl T.n_len (by rfl) (pa_cons (pv 8) pa_nil))) po_none) (pa_cons (pv 4) (pa_cons (pe_op addN (pv 5) (lstN (pa_cons (pv 7) pa_nil))) pa_nil))))) pa_nil)))) (pss_one (ps_if (pt_val (bmK K PySem.F.plainAttrs_str PySem.F.slot_str_startswith PySem.F.type_str_startswith mt_startswith (pv 8) (pa_cons (pv 3) pa_nil))) (pss_cons (ps_set (i := 9) sc_stands_behind.nd rfl (Or.inl rfl) (pe_slice (slN K) (pv 8) (po_some (pe_callB (lenK K) rfl T.n_len (by rfl) (pa_cons (pv 3) pa_nil))) po_none))
    (pss_one (ps_expr (bmK K PySem.F.plainAttrs_list PySem.F.slot_list_append PySem.F.type_list_append appendN (pv 6) (pa_cons (tupN (pa_cons (pe_op addN (pv 2) (pv 9)) (pa_cons (pv 9) (pa_cons (pe_op addN (pv 5) (lstN (pa_cons (pv 7) pa_nil))) (pa_cons (pv 4) pa_nil))))) pa_nil))))) pss_nil)))))
    (pss_one (ps_ret (pv 6)))))), ?_⟩
  refine ⟨_, rfl, a, _, rfl, SqT.of h1, rfl, _, _, rfl, _, _, rfl, _, _, rfl, _, _, rfl, rfl, ?_⟩
  refine ⟨by show 0 ≤ sizeLine; decide, fun fp H1 n1 => gn ?_⟩
  dsimp only
  obtain ⟨vs, hl, hd⟩ := id (hB.same n1.same)
  have hlen := bk_len hd
  have hr12 := g.r.len cd
  have ht := g.t
  have hms := g.ml
  have hf0 : H fp = none := n1.nn
  have pAf : pA ≠ fp := ne_of_none h2 n1.nn
  have pBf : pB ≠ fp := ne_of_none h3 n1.nn
  refine seqCut (t := tFor _ _ _) (SbJ H l a t r pA pB fp B n bk) (fun Nn nx => ?_) ?_
  · refine ⟨_, rfl, l, rfl, ⟨_, hl⟩, ?_⟩
    refine for_go (N := bk.length) (fun i => SbJ H l a t r pA pB fp B n (bk.take i)) ⟨_, _, _, [], rfl, n1.same, n1.at, Nat.zero_le _, (fun _ h => nomatch h), fun _ h => nomatch h⟩ ?_ ?_
    · rintro i σ H2 hi ⟨x7, x8, x9, as, rfl, sm, hf2, hal, hst, hcv⟩
      have hal' : as.length ≤ 16 := by rw [List.length_take] at hal; (first | lia | omega)
      have htk := take_next hi
      obtain ⟨vs2, hl2, hd2⟩ := id (hB.same sm)
      obtain ⟨tp, e1, e2⟩ := bk_at hd2 hi
      refine ⟨⟨_, _, hl2, e1⟩, ?_⟩
      rintro x H3 ⟨rfl, hy⟩
      have e := hy _ hl2
      rw [e1] at e; cases e
      have hq := sub _ (List.getElem_mem hi)
      generalize bk[i] = z at e2 hq htk
      have hz := (cd z hq).le
      have hnm : z.1 ∈ B.map (·.1) := List.mem_map_of_mem hq
      refine ⟨tp, _, rfl, e2, rfl, _, _, rfl, _, _, rfl, rfl, ?_⟩
      refine ⟨_, rfl, rfl, _, rfl, _, _, rfl, rfl, _, rfl, ite2 (fun c1 => ?_) (fun c1 => ?_)⟩
      · have c1 := (starts_iff _ _).mp (by simpa using c1)
        refine ⟨_, rfl, .inl ⟨rfl, _, SqL.of hf2⟩, _, rfl, _, rfl, _, rfl, _, _, rfl, ⟨sizeOk (by (first | lia | omega)), rfl⟩, _, rfl, .inr ⟨r, rfl, sizeOk (by (first | lia | omega)), _, rfl, _, rfl, _, rfl, by show 1 ≤ sizeLine; decide, fun p1 H3 n3 => ?_⟩⟩
        refine .inr (.inr ⟨pB, p1, _, _, rfl, rfl, n3.same _ _ (sm _ _ h3), n3.at, by rw [List.length_map]; exact sizeOk (by show _ + 1 ≤ _; (first | lia | omega)), fun p2 H4 n4 => ⟨by show 4 ≤ sizeLine; decide, fun a' H5 n5 => ?_⟩⟩)
        have hf5 := n5.same _ _ (n4.same _ _ (n3.same _ _ hf2))
        refine ⟨fp, _, _, rfl, rfl, hf5, by rw [List.length_map]; exact Nat.lt_of_le_of_lt (show as.length ≤ 1000 by (first | lia | omega)) (by decide), fun H6 c6 => ?_⟩
        refine htk ▸ SbJ.more (ns' := ns) (ms' := ms ++ [z.1]) sm hf0 hf2 hal hst hcv (.inl ⟨sg_drop c1, rfl⟩) n3 n4 n5 c6 (n5.same _ _ (n4.same _ _ (n3.same _ _ (sm _ _ h2)))) ?_ pAf (fun y => ?_) ⟨by (first | lia | omega), g.r.cut _, g.a, g.ni, fun x hx => ?_, Nat.le_succ_of_le g.nl, ?_⟩ (by simp)
        · rw [n5.same _ _ n4.at, List.map_append]; rfl
        · have := n4.nn
          rw [y, n3.same _ _ hf2] at this; cases this
        · rcases List.mem_append.mp hx with hx | hx
          · exact g.mi x hx
          · rw [List.mem_singleton.mp hx]; exact hnm
        · rw [List.length_append]; exact Nat.succ_le_succ g.ml
      · have c1 : ¬ sg z.2 <+: sg r := fun z => c1 (by simpa using (starts_iff _ _).mpr z)
        refine ⟨_, rfl, rfl, _, rfl, _, _, rfl, rfl, _, rfl, ite2 (fun c2 => ?_) (fun c2 => ?_)⟩
        rotate_left
        · have c2 : ¬ sg r <+: sg z.2 := fun z => c2 (by simpa using (starts_iff _ _).mpr z)
          refine ⟨_, _, _, as, rfl, sm, hf2, by rw [htk, List.length_append]; (first | lia | omega), fun x hx => ?_, fun y hy t1 r1 hn => ?_⟩
          · obtain ⟨y, hy, h⟩ := hst x hx
            exact ⟨y, htk ▸ List.mem_append_left _ hy, h⟩
          · rw [htk] at hy
            rcases List.mem_append.mp hy with hy | hy
            · exact hcv y hy t1 r1 hn
            · rw [List.mem_singleton.mp hy] at hn
              exact absurd hn (nx_no c1 c2 _ _)
        have c2 := (starts_iff _ _).mp (by simpa using c2)
        have ec := sg_drop c2
        refine ⟨_, rfl, _, rfl, _, _, rfl, ⟨sizeOk (by (first | lia | omega)), rfl⟩, _, rfl, .inr ⟨z.2, rfl, sizeOk (by (first | lia | omega)), gn ?_⟩⟩
        have hov : (Txt.slice z.2 (some ((r.length : Nat) : Int)) none).length ≤ 12 := by
          rw [str_len]
          show (sg _).length ≤ 12
          rw [sl_fromN, List.length_drop]
          have : z.2.length = (sg z.2).length := str_len z.2
          (first | lia | omega)
        have hsx : Sfx B (Txt.slice z.2 (some ((r.length : Nat) : Int)) none) := ⟨z, hq, by rw [sl_fromN]; exact List.drop_suffix _ _⟩
        generalize Txt.slice z.2 (some ((r.length : Nat) : Int)) none = ov at hov hsx ec
        refine ⟨_, rfl, .inl ⟨rfl, _, SqL.of hf2⟩, _, rfl, _, rfl, .inr (.inl ⟨_, _, rfl, rfl, sizeOk (by (first | lia | omega)), _, rfl, _, rfl, _, rfl, by show 1 ≤ sizeLine; decide, fun p1 H3 n3 => ?_⟩)⟩
        refine .inr (.inr ⟨pB, p1, _, _, rfl, rfl, n3.same _ _ (sm _ _ h3), n3.at, by rw [List.length_map]; exact sizeOk (by show _ + 1 ≤ _; (first | lia | omega)), fun p2 H4 n4 => ⟨_, rfl, by show 4 ≤ sizeLine; decide, fun a' H5 n5 => ?_⟩⟩)
        have hf5 := n5.same _ _ (n4.same _ _ (n3.same _ _ hf2))
        refine ⟨fp, _, _, rfl, rfl, hf5, by rw [List.length_map]; exact Nat.lt_of_le_of_lt (show as.length ≤ 1000 by (first | lia | omega)) (by decide), fun H6 c6 => ?_⟩
        refine htk ▸ SbJ.more (ns' := ms ++ [z.1]) (ms' := ns) sm hf0 hf2 hal hst hcv (.inr ⟨c1, ec, rfl⟩) n3 n4 n5 c6 ?_ (n5.same _ _ (n4.same _ _ (n3.same _ _ (sm _ _ h2)))) (fun y => ?_) pAf ⟨by rw [len_append]; (first | lia | omega), hsx, by simp, fun x hx => ?_, g.ni, ?_, Nat.le_succ_of_le g.nl⟩ g.a
        · rw [n5.same _ _ n4.at, List.map_append]; rfl
        · have := n4.nn
          rw [y, n3.same _ _ hf2] at this; cases this
        · rcases List.mem_append.mp hx with hx | hx
          · exact g.mi x hx
          · rw [List.mem_singleton.mp hx]; exact hnm
        · rw [List.length_append]; exact Nat.succ_le_succ g.ml
    · rintro σ H2 ⟨x7, x8, x9, as, rfl, sm, hf2, hal, hst, hcv⟩
      obtain ⟨vs2, hl2, hd2⟩ := id (hB.same sm)
      exact ⟨⟨_, hl2, by rw [bk_len hd2]; exact Nat.le_refl _⟩, nx _ _ (by rw [List.take_length] at hal hst hcv; exact ⟨_, _, _, as, rfl, sm, hf2, hal, hst, hcv⟩)⟩
  rintro σ H2 ⟨x7, x8, x9, as, rfl, sm, hf2, hal, hst, hcv⟩
  exact ⟨_, rfl, q as fp H2 sm hf0 hf2 hal (fun x hx => by obtain ⟨z, hz, t', h1, h2⟩ := hst x hx; exact ⟨z, hz, t', h1, h2.st3⟩) fun z hz t' r' hn => by obtain ⟨x, hx, e, h2⟩ := hcv z hz t' r' hn; exact ⟨x, hx, e, h2.st3⟩⟩
end
end Z

set_option Elab.async false
set_option linter.all false
set_option maxRecDepth 100000
set_option maxHeartbeats 4000000
namespace Z
open PySem L2 PyProof.Rows
theorem index_of {xs : List Str} {y : Str} (h : y ∈ xs) : ∃ j : Nat, xs[j]? = some y ∧ ∀ m, m < j → xs[m]? ≠ some y := by
  induction xs with
  | nil => cases h
  | cons x xs ih =>
    by_cases e : x = y
    · exact ⟨0, by rw [e]; rfl, fun m hm => absurd hm (Nat.not_lt_zero _)⟩
    · obtain ⟨j, h1, h2⟩ := ih ((List.mem_cons.mp h).resolve_left (Ne.symm e))
      refine ⟨j + 1, h1, fun m hm => ?_⟩
      cases m with
      | zero => exact fun z => e (Option.some.inj z)
      | succ m => exact h2 m (by (first | lia | omega))
section
variable {P : Program} {w : World} {K : PySem.W.Frag} {mg : Str → Option Value} {base : Heap} {f : Addr} {fd : FuncData}
theorem sc_in_order : FnScope ["book", "stand", "text", "rest", "one", "other", "names"] ["book", "stand"] (defScope (top i_in_order)) := ⟨rfl, rfl, rfl, by decide +kernel, rfl, by decide +kernel, by decide +kernel⟩
end
end Z

set_option Elab.async false
set_option linter.all false
set_option maxRecDepth 100000
set_option maxHeartbeats 4000000
namespace Z
open PySem L2 PyProof.Rows
theorem cut_take (vs : List V) (j : Nat) (h : j ≤ vs.length) : cutV vs none (some (j : Int)) = vs.take j := by
  unfold cutV
  have e : HT.sIx vs.length vs.length (some (j : Int)) = j := by
    unfold HT.sIx
    dsimp only
    rw [if_neg (show ¬ ((j : Int) < 0) by (first | lia | omega))]
    (first | lia | omega)
  rw [e]
  rfl
theorem dens_take {K : PySem.W.Frag} {H : Hp} : ∀ {ds : List PyData} {vs : List V} (i : Nat), Dens K H ds vs → Dens K H (ds.take i) (vs.take i)
  | _, _, 0, _ => by rw [List.take_zero, List.take_zero]; unfold Dens; rfl
  | [], vs, i + 1, h => by unfold Dens at h; rw [h]; unfold Dens; rfl
  | d :: ds, vs, i + 1, h => by
    unfold Dens at h
    obtain ⟨v, r, rfl, h1, h2⟩ := h
    rw [List.take_succ_cons, List.take_succ_cons]
    unfold Dens
    exact ⟨v, r.take i, rfl, h1, dens_take i h2⟩
section
variable {P : Program} {w : World} {K : PySem.W.Frag} {mg : Str → Option Value} {base : Heap} {f : Addr} {fd : FuncData}
theorem sc_first_stands : FnScope ["book", "stands", "at", "name", "code"] ["book"] (defScope (top i_first_stands)) := ⟨rfl, rfl, rfl, by decide +kernel, rfl, by decide +kernel, by decide +kernel⟩
end
end Z

set_option Elab.async false
set_option linter.all false
set_option maxRecDepth 100000
set_option maxHeartbeats 4000000
namespace Z
open PySem L2 PyProof.Rows
/-- the stands of each two codes -/
noncomputable def spFs3 (K : PySem.W.Frag) : Sp := fun vs H Q _ => ∃ (l : Addr) (B : List (Str × Str)), vs = [.ref l] ∧ BkL K H B l ∧ GoodN B ∧
  ∀ (as : List (Str × Addr)) (p : Addr) (H' : Hp), Same H H' → H p = none → H' p = some (.lst (as.map fun x => V.ref x.2)) → as.length ≤ 256 → (∀ x ∈ as, ∃ t', Sta B t' x.1 ∧ St3 B 2 H' x.2 t' x.1) → (∀ t' r', Sta B t' r' → ∃ x ∈ as, x.1 = r' ∧ St3 B 2 H' x.2 t' r') → Q (.ref p) H'
/-- both readings in order -/
noncomputable def spIo3 (K : PySem.W.Frag) : Sp := fun vs H Q _ => ∃ (l a : Addr) (B : List (Str × Str)) (n : Nat) (t r : Str), vs = [.ref l, .ref a] ∧ BkL K H B l ∧ GoodN B ∧ n ≤ 1000 ∧ St3 B n H a t r ∧
  ∀ (z p q : Addr) (ns ms : List Str) (H' : Hp), Same H H' → H' z = some (.tup [.str t, .ref p, .ref q]) → H' p = some (.lst (ns.map V.str)) → H' q = some (.lst (ms.map V.str)) → (∀ x ∈ ns, x ∈ B.map (·.1)) → (∀ x ∈ ms, x ∈ B.map (·.1)) → ns.length ≤ n → ms.length ≤ n → Q (.ref z) H'
theorem St3.offL {B : List (Str × Str)} {n : Nat} {H H' : Hp} {a d : Addr} {t r : Str} {as : List (Str × Addr)} (h : St3 B n H a t r) (s : Off d H H') (hd : H d = some (.lst (as.map fun x => V.ref x.2))) : St3 B n H' a t r := by
  obtain ⟨ns, ms, ⟨p, q, h1, h2, h3⟩, g, hm⟩ := h
  have ne : ∀ {zs : List Str} {u : Addr}, zs ≠ [] → H u = some (.lst (zs.map V.str)) → u ≠ d := fun {zs u} hz hu z => by
    rw [z, hd] at hu
    cases zs with
    | nil => exact hz rfl
    | cons y ys => cases as <;> simp at hu
  exact ⟨ns, ms, ⟨p, q, s _ _ (fun z => by rw [z, hd] at h1; cases h1) h1, s _ _ (ne g.a h2) h2, s _ _ (ne hm h3) h3⟩, g, hm⟩
/-- the first stands up to the i-th code -/
noncomputable def StaI (B : List (Str × Str)) (k : Nat) (t r : Str) : Prop := ∃ (i : Nat) (hi : i < B.length), i < k ∧ ∃ z ∈ B.take i, Nx z B[i].2 B[i].2 t r
noncomputable def FsJ (H : Hp) (l fp : Addr) (B : List (Str × Str)) (i : Nat) (σ : L2.St) (H' : Hp) : Prop :=
  ∃ (x2 x3 x4 : Option V) (as : List (Str × Addr)), σ = [some (.ref l), some (.ref fp), x2, x3, x4] ∧ Same H H' ∧ H' fp = some (.lst (as.map fun x => V.ref x.2)) ∧ as.length ≤ 16 * i ∧ (∀ x ∈ as, ∃ t', Sta B t' x.1 ∧ St3 B 2 H' x.2 t' x.1) ∧ ∀ t' r', StaI B i t' r' → ∃ x ∈ as, x.1 = r' ∧ St3 B 2 H' x.2 t' r'
section
variable {P : Program} {w : World} {K : PySem.W.Frag} {mg : Str → Option Value} {base : Heap} {f : Addr} {fd : FuncData}
theorem ok_io3 (F : Fun K "in_order" "in_order" (top i_in_order) f fd) (T : Nm mg) : FnOk P w K mg base CX0 1 f fd ["book", "stand"] (spIo3 K) := by
  refine F.ok sc_in_order (fun vs H Q E h => ?_) (fun cdv A outer s H vs Q E hr h => ?_)
  · obtain ⟨l, a, B, n, t, r, rfl, _⟩ := h
    rfl
  obtain ⟨l, a, B, n, t, r, rfl, hB, gB, hn, ⟨ns, ms, ⟨pA, pB, h1, h2, h3⟩, g, hms⟩, q⟩ := h
  refine ⟨_, (pss_cons (ps_asg (pv 1) (tupK K 4 rfl (pgs_cons (pg_name (i := 2) sc_in_order.nd rfl (Or.inl rfl)) (pgs_cons (pg_name (i := 3) sc_in_order.nd rfl (Or.inl rfl)) (pgs_cons (pg_name (i := 4) sc_in_order.nd rfl (Or.inl rfl)) (pgs_cons (pg_name (i := 5) sc_in_order.nd rfl (Or.inl rfl)) pgs_nil))))))
    (pss_cons (ps_setcomp (i := 6) sc_in_order.nd rfl (Or.inl rfl) rfl (comp_ok (Nc := ["name", "code"]) (Fc := []) (js := [])) (piK K (pv 0)) (gk_tup (gks_cons (gk_name (i := 0) (n := 2) (by decide)) (gks_cons (gk_name (i := 1) (n := 2) (by decide)) gks_nil gm_name gms_nil) gm_name (gms_cons gm_name gms_nil))) (fun _ _ _ _ _ => (tupK K 2 rfl (pgs_cons (pg_name (i := 0) (show (["name", "code"] : List Str).Nodup by decide +kernel) rfl (Or.inl rfl)) (pgs_cons (pg_name (i := 1) (show (["name", "code"] : List Str).Nodup by decide +kernel) rfl (Or.inl rfl)) pgs_nil)))) (fun _ _ _ _ _ => pts_nil) (fun _ _ _ _ _ => (pv 0)))
    (pss_cons (ps_if (pt_cmpR op_lt (bmK K PySem.F.plainAttrs_list PySem.F.slot_list_index PySem.F.type_list_index indexS (pv 6) (pa_cons (pe_ix (ixK K) (pv 5) pe_int (fun _ _ => rfl)) pa_nil)) (bmK K PySem.F.plainAttrs_list PySem.F.slot_list_index PySem.F.type_list_index indexS (pv 6) (pa_cons (pe_ix (ixK K) (pv 4) pe_int (fun _ _ => rfl)) pa_nil)) (nomark _)) (pss_one (ps_ret (tupN (pa_cons (pv 2) (pa_cons (pv 5) (pa_cons (pv 4) pa_nil)))))) pss_nil)
    (pss_one (ps_ret (tupN (pa_cons (pv 2) (pa_cons (pv 4) (pa_cons (pv 5) pa_nil))))))))), ?_⟩
  refine ⟨_, rfl, a, _, rfl, SqT.of h1, rfl, _, _, rfl, _, _, rfl, _, _, rfl, _, _, rfl, rfl, ?_⟩
  obtain ⟨vs, hl, hd⟩ := id hB
  have hlen := bk_len hd
  have hle := gB.le
  obtain ⟨y, ns', rfl⟩ : ∃ y ns', ns = y :: ns' := by cases ns with | nil => exact absurd rfl g.a | cons y r => exact ⟨y, r, rfl⟩
  obtain ⟨y2, ms', rfl⟩ : ∃ y ms', ms = y :: ms' := by cases ms with | nil => exact absurd rfl hms | cons y r => exact ⟨y, r, rfl⟩
  dsimp only
  refine asgCut (te := tComp _ _ _ _ _ _) (fun v H' => ∃ p, v = .ref p ∧ New H p (.lst ((B.map (·.1)).map V.str)) H') (fun Qn qn => ?_) ?_
  · refine ⟨_, rfl, l, rfl, ⟨_, hl⟩, ?_⟩
    refine comp_goN (N := B.length) (fun i ys H' => H' = H ∧ ys = ((B.take i).map (·.1)).map V.str) ⟨rfl, rfl⟩ ?_ ?_
    · rintro i ys H1 Ny hi ⟨rfl, rfl⟩ ny
      obtain ⟨tp, e1, e2⟩ := bk_at hd hi
      refine ⟨⟨_, _, hl, e1⟩, by rw [List.length_map, List.length_map, List.length_take]; exact Nat.lt_of_le_of_lt (show min i B.length ≤ 1000 by (first | lia | omega)) (by decide), ?_⟩
      rintro x H2 ⟨rfl, hy⟩
      have e := hy _ hl
      rw [e1] at e; cases e
      refine ⟨tp, _, rfl, e2, rfl, _, _, rfl, _, _, rfl, rfl, ?_⟩
      refine ⟨_, rfl, ny _ _ ⟨rfl, ?_⟩⟩
      rw [take_next hi, List.map_append, List.map_append]; rfl
    · rintro ys H1 ⟨rfl, rfl⟩
      refine ⟨⟨_, hl, by (first | lia | omega)⟩, fun p H' n => qn _ _ ⟨p, rfl, ?_⟩⟩
      rwa [List.take_length] at n
  rintro v H1 ⟨pn, rfl, n1⟩
  refine gn ?_
  have k2 := n1.same _ _ h2
  have k3 := n1.same _ _ h3
  obtain ⟨j, hj, hj'⟩ := index_of (g.ni y List.mem_cons_self)
  obtain ⟨j2, hj2, hj2'⟩ := index_of (g.mi y2 List.mem_cons_self)
  refine ⟨_, rfl, .inl ⟨rfl, _, SqL.of n1.at⟩, _, rfl, .inl ⟨pB, _, 0, .str y2, rfl, rfl, SqL.of k3, at_nat (by decide) rfl, pn, _, y2, j2, rfl, rfl, n1.at, hj2, hj2', ?_⟩⟩
  refine ⟨_, rfl, .inl ⟨rfl, _, SqL.of n1.at⟩, _, rfl, .inl ⟨pA, _, 0, .str y, rfl, rfl, SqL.of k2, at_nat (by decide) rfl, pn, _, y, j, rfl, rfl, n1.at, hj, hj', ?_⟩⟩
  refine ⟨_, _, rfl, rfl, _, rfl, ite2 (fun _ => ?_) (fun _ => ?_)⟩
  · exact ⟨_, rfl, _, rfl, _, rfl, by show 3 ≤ sizeLine; decide, fun z H2 n2 => q z pB pA (y2 :: ms') (y :: ns') H2 (n1.same.trans n2.same) n2.at (n2.same _ _ k3) (n2.same _ _ k2) g.mi g.ni g.ml g.nl⟩
  · exact ⟨_, rfl, _, rfl, _, rfl, by show 3 ≤ sizeLine; decide, fun z H2 n2 => q z pA pB (y :: ns') (y2 :: ms') H2 (n1.same.trans n2.same) n2.at (n2.same _ _ k2) (n2.same _ _ k3) g.ni g.mi g.nl g.ml⟩
theorem ok_fs3 (F : Fun K "first_stands" "first_stands" (top i_first_stands) f fd) (T : Nm mg) (f_stands_behind : Fn P w K mg base 1 "stands_behind" ["book", "stand"] (spSb3 K)) : FnOk P w K mg base CX0 2 f fd ["book"] (spFs3 K) := by
  refine F.ok sc_first_stands (fun vs H Q E h => ?_) (fun cdv A outer s H vs Q E hr h => ?_)
  · obtain ⟨l, B, rfl, _⟩ := h
    rfl
  obtain ⟨l, B, rfl, hB, gB, q⟩ := h
  refine ⟨_, (pss_cons (ps_set (i := 1) sc_first_stands.nd rfl (Or.inl rfl) (lstN pa_nil))
    (pss_cons (ps_for PassesOwn.never rfl (enumK K rfl T.n_enumerate (pa_cons (pv 0) pa_nil)) (tupK K 2 rfl (pgs_cons (pg_name (i := 2) sc_first_stands.nd rfl (Or.inl rfl)) (pgs_cons (tupK K 2 rfl (pgs_cons (pg_name (i := 3) sc_first_stands.nd rfl (Or.inl rfl)) (pgs_cons (pg_name (i := 4) sc_first_stands.nd rfl (Or.inl rfl)) pgs_nil))) pgs_nil))) (pss_one (ps_expr (bmK K PySem.F.plainAttrs_list PySem.F.slot_list_extend PySem.F.type_list_extend extendN (pv 1) (pa_cons (pe_fn (f_stands_behind.mono (by first | decide | exact Nat.le_refl _ | (first | lia | omega))) hr rfl (pa_cons (pe_slice (slN K) (pv 0) po_none (po_some (pv 2))) (pa_cons (tupN (pa_cons (pv 4) (pa_cons (pv 4) (pa_cons (lstN (pa_cons (pv 3) pa_nil)) (pa_cons (lstN pa_nil) pa_nil))))) pa_nil))) pa_nil)))))
    (pss_one (ps_ret (pv 1))))), ?_⟩
  refine ⟨by show 0 ≤ sizeLine; decide, fun fp H1 n1 => gn ?_⟩
  dsimp only
  obtain ⟨vs, hl, hd⟩ := id hB
  have hlen := bk_len hd
  have hle := gB.le
  have hf0 : H fp = none := n1.nn
  refine seqCut (t := tFor _ _ _) (FsJ H l fp B B.length) (fun Nn nx => ?_) ?_
  · refine ⟨_, rfl, l, rfl, ⟨_, n1.same.seq hl⟩, ?_⟩
    refine for_go (N := B.length) (FsJ H l fp B) ⟨_, _, _, [], rfl, n1.same, n1.at, Nat.le_refl _, (fun _ h => nomatch h), fun t' r' ⟨i, hi, h0, _⟩ => absurd h0 (Nat.not_lt_zero _)⟩ ?_ ?_
    · rintro i σ H2 hi ⟨x2, x3, x4, as, rfl, sm, hf2, hal, hst, hcv⟩
      obtain ⟨tp, e1, e2⟩ := bk_at hd hi
      refine ⟨⟨_, _, sm.seq hl, e1⟩, ?_⟩
      rintro x H3 ⟨t1, rfl, ht1, hy⟩
      have e := hy _ _ (sm.seq hl) e1
      have n3 : New H2 t1 (.tup [.int i, .ref tp]) H3 := ⟨ht1, e⟩
      have hq := List.getElem_mem hi
      have sta : ∀ {y : Str × Str} {t' r' : Str}, y ∈ B.take i → Nx y B[i].2 B[i].2 t' r' → Sta B t' r' := fun hy hn => ⟨i, hi, _, hy, hn⟩
      have stI : ∀ {t' r' : Str}, StaI B (i + 1) t' r' → StaI B i t' r' ∨ ∃ y ∈ B.take i, Nx y B[i].2 B[i].2 t' r' := fun {t' r'} ⟨j, hj, h1, h2⟩ => by
        by_cases e : j = i
        · subst e; exact .inr h2
        · exact .inl ⟨j, hj, by (first | lia | omega), h2⟩
      generalize B[i] = z at e2 hq sta stI
      have hz := (gB.cd z hq).le
      have hnm : z.1 ∈ B.map (·.1) := List.mem_map_of_mem hq
      have s3 := sm.trans n3.same
      refine ⟨t1, _, rfl, SqT.of n3.at, rfl, _, _, rfl, _, _, rfl, tp, _, rfl, s3.seqT e2, rfl, _, _, rfl, _, _, rfl, rfl, rfl, ?_⟩
      refine ⟨_, rfl, .inl ⟨rfl, _, SqL.of (n3.same _ _ hf2)⟩, _, rfl, _, rfl, _, rfl, .inl ⟨l, _, rfl, s3.seq hl, fun p4 H4 n4 => ?_⟩⟩
      rw [cut_take vs i (by (first | lia | omega))] at n4
      refine ⟨_, rfl, _, rfl, _, rfl, by show 1 ≤ sizeLine; decide, fun p5 H5 n5 => ⟨by show 0 ≤ sizeLine; decide, fun p6 H6 n6 => ⟨by show 4 ≤ sizeLine; decide, fun a7 H7 n7 => ?_⟩⟩⟩
      have s7 : Same H4 H7 := n5.same.trans (n6.same.trans n7.same)
      have s2 : Same H2 H7 := n3.same.trans (n4.same.trans s7)
      refine ⟨p4, a7, B.take i, B, 1, z.2, z.2, [z.1], [], rfl, ⟨_, SqL.of (s7 _ _ n4.at), ?_⟩, fun y hy => List.mem_of_mem_take hy, by rw [List.length_take]; (first | lia | omega), gB.cd, ⟨p5, p6, n7.at, n7.same _ _ (n6.same _ _ n5.at), n7.same _ _ n6.at⟩, ⟨by (first | lia | omega), ⟨z, hq, List.suffix_refl _⟩, (by simp), fun x hx => by rw [List.mem_singleton.mp hx]; exact hnm, (fun _ h => nomatch h), Nat.le_refl _, Nat.zero_le _⟩, by decide, fun as2 p8 H8 s8 hp8 h8 hl8 hst8 hcv8 => ?_⟩
      · rw [List.map_take]
        exact dens_take i ((hd.same (sm.trans s2)))
      · have hf8 := s8 _ _ (s2 _ _ hf2)
        refine ⟨fp, p8, _, _, rfl, rfl, hf8, h8, ?_, fun H9 c9 => ?_⟩
        · rw [List.length_map, List.length_map]
          rw [List.length_take] at hl8
          exact sizeOk (by (first | lia | omega))
        · have of9 : Off fp H8 H9 := chgOff c9
          refine ⟨_, _, _, as ++ as2, rfl, fun b o e => of9 b o (ne_of_none e hf0) (s8 _ _ (s2 _ _ (sm b o e))), by rw [c9.at, List.map_append], ?_, fun x hx => ?_, fun t' r' hs => ?_⟩
          · rw [List.length_append]
            rw [List.length_take] at hl8
            (first | lia | omega)
          · rcases List.mem_append.mp hx with hx | hx
            · obtain ⟨t', h1, h2⟩ := hst x hx
              exact ⟨t', h1, (h2.same (s2.trans s8)).offL of9 hf8⟩
            · obtain ⟨y, hy, t', h1, h2⟩ := hst8 x hx
              exact ⟨t', sta hy h1, h2.offL of9 hf8⟩
          · rcases stI hs with hs | ⟨y, hy, hn⟩
            · obtain ⟨x, hx, e, h2⟩ := hcv t' r' hs
              exact ⟨x, List.mem_append_left _ hx, e, (h2.same (s2.trans s8)).offL of9 hf8⟩
            · obtain ⟨x, hx, e, h2⟩ := hcv8 y hy t' r' hn
              exact ⟨x, List.mem_append_right _ hx, e, h2.offL of9 hf8⟩
    · rintro σ H2 ⟨x2, x3, x4, as, rfl, sm, hf2, hal, hst, hcv⟩
      exact ⟨⟨_, sm.seq hl, by (first | lia | omega)⟩, nx _ _ ⟨_, _, _, as, rfl, sm, hf2, hal, hst, hcv⟩⟩
  rintro σ H2 ⟨x2, x3, x4, as, rfl, sm, hf2, hal, hst, hcv⟩
  exact ⟨_, rfl, q as fp H2 sm hf0 hf2 (by (first | lia | omega)) hst fun t' r' ⟨i, hi, h2⟩ => hcv t' r' ⟨i, hi, hi, h2⟩⟩
end
end Z

set_option Elab.async false
set_option linter.all false
set_option maxRecDepth 100000
set_option maxHeartbeats 4000000
namespace Z
open PySem L2 PyProof.Rows
structure Trn (H : Hp) (d dn : Addr) (B : List (Str × Str)) (kvs done : List (Key × V)) (H' : Hp) : Prop where
  sm : Same H H'
  hd : H' d = some (.dK kvs)
  hn : H' dn = some (.dK done)
  wt : Wt B (done.length + 2) H' kvs
  nd : (done.map (·.1)).Nodup
  sx : ∀ k ∈ done.map (·.1), ∃ r, k = .inr r ∧ Sfx B r
  dj : ∀ k ∈ kvs.map (·.1), k ∉ done.map (·.1)
theorem Wt.mono {B : List (Str × Str)} {n m : Nat} {H : Hp} {kvs : List (Key × V)} (h : Wt B n H kvs) (le : n ≤ m) : Wt B m H kvs := ⟨h.nd, fun z hz => by
  obtain ⟨r, a, e, s⟩ := h.st z hz
  exact ⟨r, a, e, s.mono le⟩⟩
theorem Wt.drop {B : List (Str × Str)} {n : Nat} {H : Hp} {kvs : List (Key × V)} (h : Wt B n H kvs) (k : Key) : Wt B n H (dropK kvs k) := ⟨nd_dropK h.nd, fun z hz => h.st z (dropK_mem hz)⟩
section
variable {P : Program} {w : World} {K : PySem.W.Frag} {mg : Str → Option Value} {base : Heap} {f : Addr} {fd : FuncData}
theorem sc_two_readings : FnScope ["book", "waiting", "done", "stand", "rest"] ["book"] (defScope (top i_two_readings)) := ⟨rfl, rfl, rfl, by decide +kernel, rfl, by decide +kernel, by decide +kernel⟩
end
end Z

set_option Elab.async false
set_option linter.all false
set_option maxRecDepth 100000
set_option maxHeartbeats 4000000
namespace Z
open PySem L2 PyProof.Rows
/-- the least text of two readings, or none -/
noncomputable def spTr3 (K : PySem.W.Frag) : Sp := fun vs H Q _ => ∃ (l : Addr) (B : List (Str × Str)), vs = [.ref l] ∧ BkL K H B l ∧ GoodN B ∧ ((∀ u, ¬ Amb B u) → ∀ H', Same H H' → Q .non H') ∧
  ∀ (z p q : Addr) (t : Str) (ns ms : List Str) (H' : Hp), Amb B t → (∀ u, Amb B u → ¬ lfLt u t) → t.length ≤ 5000 → Same H H' → H' z = some (.tup [.str t, .ref p, .ref q]) → H' p = some (.lst (ns.map V.str)) → H' q = some (.lst (ms.map V.str)) → (∀ x ∈ ns, x ∈ B.map (·.1)) → (∀ x ∈ ms, x ∈ B.map (·.1)) → ns.length ≤ 300 → ms.length ≤ 300 → Q (.ref z) H'
theorem GoodN.nodup {B : List (Str × Str)} (g : GoodN B) : B.Nodup := (List.nodup_iff_pairwise_ne.mpr ((List.pairwise_map.mp (List.nodup_iff_pairwise_ne.mp g.nm)).imp fun h e => h (by rw [e])))
structure Trn3 (H : Hp) (d dn : Addr) (B : List (Str × Str)) (kvs done : List (Key × V)) (D : Str → Str → Prop) (H' : Hp) : Prop extends Trn H d dn B kvs done H' where
  dij : Dij B (In B (done.length + 2) H' kvs) D
  dk : ∀ r, ((.inr r : Key) ∈ done.map (·.1)) ↔ ∃ t, D t r
noncomputable def TrJ (H : Hp) (l d dn : Addr) (B : List (Str × Str)) (m : Nat) (σ : L2.St) (H' : Hp) : Prop :=
  ∃ (x3 x4 : Option V) (kvs done : List (Key × V)) (D : Str → Str → Prop), σ = [some (.ref l), some (.ref d), some (.ref dn), x3, x4] ∧ m = (sfxs B).length - done.length ∧ Trn3 H d dn B kvs done D H'
theorem In.back2 {B : List (Str × Str)} {n m : Nat} {H H4 : Hp} {kvs : List (Key × V)} (wt : Wt B n H kvs) (f : ∀ a t r, St3 B n H a t r → St3 B m H4 a t r) {t r : Str} (h : In B m H4 kvs t r) : In B n H kvs t r := by
  obtain ⟨a, h1, h2⟩ := h
  obtain ⟨r', a', e, t', g⟩ := wt.st _ h1
  cases e
  have g : St3 B n H a t' r := g
  have := ((f _ _ _ g).one h2).1
  subst this
  exact ⟨a, h1, g⟩
theorem in_drop {kvs : List (Key × V)} {k k' : Key} {v : V} (h : (k', v) ∈ kvs) (ne : k' ≠ k) : (k', v) ∈ dropK kvs k := List.mem_filter.mpr ⟨h, decide_eq_true ne⟩
section
variable {P : Program} {w : World} {K : PySem.W.Frag} {mg : Str → Option Value} {base : Heap} {f : Addr} {fd : FuncData}
theorem ok_tr3 (F : Fun K "two_readings" "two_readings" (top i_two_readings) f fd) (T : Nm mg) (f_stands_behind : Fn P w K mg base 1 "stands_behind" ["book", "stand"] (spSb3 K)) (f_first_stands : Fn P w K mg base 2 "first_stands" ["book"] (spFs3 K)) (f_keep_least : Fn P w K mg base 3 "keep_least" ["waiting", "stands"] (spKl3 K)) (f_least_stand : Fn P w K mg base 5 "least_stand" ["waiting"] spLs3) (f_in_order : Fn P w K mg base 1 "in_order" ["book", "stand"] (spIo3 K)) : FnOk P w K mg base CX0 6 f fd ["book"] (spTr3 K) := by
  refine F.ok sc_two_readings (fun vs H Q E h => ?_) (fun cdv A outer s H vs Q E hr h => ?_)
  · obtain ⟨l, B, rfl, _⟩ := h
    rfl
  obtain ⟨l, B, rfl, hB, gB, qN, qY⟩ := h
  have hu := hu_of hr
  have hu6 := hr.units
  have hle := gB.le
  have hsx := sfxs_len gB.cd
  refine ⟨_, (pss_cons (ps_set (i := 1) sc_two_readings.nd rfl (Or.inl rfl) dnewN)
    (pss_cons (ps_expr (pe_fn (f_keep_least.mono (by first | decide | exact Nat.le_refl _ | (first | lia | omega))) hr rfl (pa_cons (pv 1) (pa_cons (pe_fn (f_first_stands.mono (by first | decide | exact Nat.le_refl _ | (first | lia | omega))) hr rfl (pa_cons (pv 0) pa_nil)) pa_nil))))
    (pss_cons (ps_set (i := 2) sc_two_readings.nd rfl (Or.inr rfl) dnewN)
    (pss_cons (ps_while PassesOwn.never (pt_truth (pv 1) fun _ => rfl) (pss_cons (ps_set (i := 3) sc_two_readings.nd rfl (Or.inl rfl) (pe_fn (f_least_stand.mono (by first | decide | exact Nat.le_refl _ | (first | lia | omega))) hr rfl (pa_cons (pv 1) pa_nil)))
    (pss_cons (ps_set (i := 4) sc_two_readings.nd rfl (Or.inl rfl) (pe_ix (ixK K) (pv 3) pe_int (fun _ _ => rfl)))
    (pss_cons (ps_if (pt_cmpR (eqK K hu6) (pv 4) pe_str (nomark _)) (pss_one (ps_ret (pe_fn (f_in_order.mono (by first | decide | exact Nat.le_refl _ | (first | lia | omega))) hr rfl (pa_cons (pv 0) (pa_cons (pv 3) pa_nil))))) pss_nil)
    (pss_cons (ps_ddel (pv 1) (pv 4))
    (pss_cons (ps_dput hu (pv 2) (pv 4) pe_bl rfl)
    (pss_one (ps_expr (pe_fn (f_keep_least.mono (by first | decide | exact Nat.le_refl _ | (first | lia | omega))) hr rfl (pa_cons (pv 1) (pa_cons (pe_lcomp rfl (comp_ok (Nc := ["later"]) (Fc := ["done"]) (js := [2])) (piK K (pe_fn (f_stands_behind.mono (by first | decide | exact Nat.le_refl _ | (first | lia | omega))) hr rfl (pa_cons (pv 0) (pa_cons (pv 3) pa_nil)))) (gk_name (i := 0) (n := 1) (by decide)) (fun _ _ _ _ _ => (pg_name (i := 0) (show (["later", "done"] : List Str).Nodup by decide +kernel) rfl (Or.inl rfl))) (fun _ _ _ _ _ => (pts_one (pt_cmp (pc_dnotin hu (pe_ix (ixK K) (pv 0) pe_int (fun _ _ => rfl)) (pv 1))))) (fun _ _ _ _ _ => (pv 0))) pa_nil)))))))))))
    (pss_one (ps_ret pe_non)))))), ?_⟩
  refine fun d H1 n1 => gn ?_
  refine ⟨_, rfl, _, rfl, l, B, rfl, hB.same n1.same, gB, fun as p H2 s2 hp h2 hal hst hcv => ?_⟩
  have hd2 := s2 _ _ n1.at
  refine ⟨d, p, [], as, B, 2, rfl, hd2, h2, ⟨List.nodup_nil, fun z hz => nomatch hz⟩, by (first | lia | omega), by decide, by (first | lia | omega), (fun x hx => by obtain ⟨t', _, h⟩ := hst x hx; exact h.std), fun kvs H3 of3 hd3 wt3 hk3 ks3 => ?_⟩
  have sm3 : Same H H3 := fun b o e => of3 b o (ne_of_none e n1.nn) (s2 _ _ (n1.same b o e))
  refine fun dn H4 n4 => gn ?_
  have ddn : d ≠ dn := ne_of_none hd3 n4.nn
  have hdn0 : H dn = none := by
    cases e : H dn with
    | none => rfl
    | some o => have := n4.nn; rw [sm3 _ _ e] at this; cases this
  have d4 : Dij B (In B 2 H4 kvs) (fun _ _ => False) := by
    refine ⟨fun {t r} hin => ?_, fun {t r} hs => ?_, fun h => h.elim, fun h => h.elim, fun h => h.elim⟩
    · have hin : In B 2 H3 kvs t r := In.back wt3 (fun a t r h => h.same n4.same) hin
      rcases ks3.snd t r hin with ⟨a, h, _⟩ | ⟨x, hx, rfl, h⟩
      · cases h
      · obtain ⟨t', h1, h2⟩ := hst x hx
        rw [(h.one h2).1]
        exact .start h1
    · obtain ⟨x, hx, rfl, h⟩ := hcv t r hs
      obtain ⟨t', g1, g2⟩ := ks3.cv2 x (by rw [List.take_length]; exact hx) t h
      exact ⟨t', .inl (g1.step fun a t r h => h.same n4.same), g2⟩
  have rA : ∀ {u : Str}, Rch B u "" → Amb B u := fun h => h.amb gB.nodup
  have aR : ∀ {t u : Str}, (∀ u, Rch B u "" → ¬ lfLt u t) → Amb B u → ¬ lfLt u t := fun h ha => by
    obtain ⟨v, h1, h2⟩ := ha.rch gB.cd
    exact lf_ge (h v h1) h2
  dsimp only
  refine seqCut (t := tWhile _ _) (fun σ H' => Same H H' ∧ ∀ u, ¬ Amb B u) (fun Nn nx => ?_) ?_
  · refine whileGo (TrJ H l d dn B) ⟨_, _, _, kvs, [], _, rfl, rfl, ⟨⟨sm3.trans n4.same, n4.same _ _ hd3, n4.at, wt3.step fun a r h => h.same n4.same, List.nodup_nil, (fun _ h => nomatch h), fun _ _ h => nomatch h⟩, d4, fun r => ⟨(fun h => nomatch h), fun ⟨_, h⟩ => h.elim⟩⟩⟩ ?_
    clear d4 ks3 wt3 hk3
    rintro m σ H5 ⟨x3, x4, kvs, done, D, rfl, rfl, t5⟩
    refine ⟨_, rfl, !kvs.isEmpty, .inr (.inr ⟨kvs, t5.hd, rfl⟩), ?_⟩
    by_cases hne : kvs = []
    · have e : (!kvs.isEmpty) = false := by rw [hne]; rfl
      rw [e]
      refine iteF (nx _ _ ⟨t5.sm, fun u ha => ?_⟩)
      obtain ⟨v, h1, _⟩ := ha.rch gB.cd
      exact t5.dij.none (fun t r ⟨a, h, _⟩ => by rw [hne] at h; cases h) v h1
    have e : (!kvs.isEmpty) = true := by cases kvs with | nil => exact absurd rfl hne | cons _ _ => rfl
    rw [e]
    refine iteT ⟨fun σ' H' => ∃ m', m' < (sfxs B).length - done.length ∧ TrJ H l d dn B m' σ' H', fun _ _ h => h, ?_⟩
    have hkl := keys_le t5.wt.nd t5.wt.sfx
    rw [List.length_map] at hkl
    have hdl := keys_le t5.nd t5.sx
    rw [List.length_map] at hdl
    refine ⟨_, rfl, d, kvs, B, _, rfl, t5.hd, t5.wt, by (first | lia | omega), by (first | lia | omega), hne, fun t r a H6 hmem st5 least s6 => gn ?_⟩
    have st6 := st5.same s6
    have std6 := st6.std
    obtain ⟨ns, ms, ⟨pA, pB, h1, h2, h3⟩, g, hms⟩ := id st6
    refine ⟨_, rfl, .inr (.inl ⟨a, _, 1, .str r, rfl, rfl, SqT.of h1, rfl, gn ?_⟩)⟩
    refine ⟨_, rfl, .inl ⟨rfl, _, rfl, ite2 (fun c => ?_) (fun c => ?_)⟩⟩
    · have er : r = "" := by
        have := of_decide_eq_true c
        injection this
      subst er
      have hd0 : ∀ t', ¬ D t' "" := fun t' h => t5.dij.ne h rfl
      have l0 : ∀ u, Rch B u "" → ¬ lfLt u t := fun u hu => t5.dij.least hd0 (fun t' r' h => least t' r' h) hu
      exact ⟨_, rfl, _, rfl, l, a, B, _, t, "", rfl, hB.same (t5.sm.trans s6), gB, by (first | lia | omega), st6, fun z p q ns ms H' s' hz hp hq i1 i2 l1 l2 => qY z p q t ns ms H' (rA (t5.dij.ws ⟨a, hmem, st5⟩)) (fun u hu => aR l0 hu) (by have := g.t; (first | lia | omega)) ((t5.sm.trans s6).trans s') hz hp hq i1 i2 (by (first | lia | omega)) (by (first | lia | omega))⟩
    have rne : r ≠ "" := fun e => c (by rw [e]; exact decide_eq_true rfl)
    have hd6 := s6 _ _ t5.hd
    have hn6 := s6 _ _ t5.hn
    refine ⟨_, rfl, _, rfl, d, kvs, .inr r, rfl, hd6, rfl, by rw [mem_valV t5.wt.nd hmem]; rfl, ?_⟩
    have c7 : Chg H6 d (.dK (dropK kvs (.inr r))) (upd H6 d (.dK (dropK kvs (.inr r)))) := ⟨rfl⟩
    generalize upd H6 d (.dK (dropK kvs (.inr r))) = H7 at c7 ⊢
    have hn7 : H7 dn = some (.dK done) := by rw [c7.ne (Ne.symm ddn)]; exact hn6
    have rin : (.inr r : Key) ∈ kvs.map (·.1) := List.mem_map_of_mem (f := (·.1)) hmem
    have rno := t5.dj _ rin
    have vno : valV done (.inr r) = none := by
      cases e : valV done (.inr r) with
      | none => rfl
      | some v => exact absurd (valV_in e) rno
    refine ⟨_, rfl, _, rfl, dn, _, rfl, .inl ⟨done, .inr r, hn7, rfl, Nat.lt_of_le_of_lt (show done.length ≤ 1000 by (first | lia | omega)) (by decide), rfl⟩, ?_⟩
    rw [putK_new _ vno]
    have c8 : Chg H7 dn (.dK (done ++ [(.inr r, .bl true)])) (upd H7 dn (.dK (done ++ [(.inr r, .bl true)]))) := ⟨rfl⟩
    generalize upd H7 dn (.dK (done ++ [(.inr r, .bl true)])) = H8 at c8 ⊢
    have hd8 : H8 d = some (.dK (dropK kvs (.inr r))) := by rw [c8.ne ddn]; exact c7.at
    have of7 := chgOff c7
    have of8 := chgOff c8
    have std8 : ∀ a r, Std B (done.length + 2) H6 a r → Std B (done.length + 2) H8 a r := fun a r h => (h.off of7 hd6).off of8 hn7
    have st8 : ∀ a t r, St3 B (done.length + 2) H6 a t r → St3 B (done.length + 2) H8 a t r := fun a t r h => (h.off of7 hd6).off of8 hn7
    have sm8 : Same H H8 := fun b o e => of8 b o (ne_of_none e hdn0) (of7 b o (ne_of_none e n1.nn) (s6 _ _ (t5.sm b o e)))
    obtain ⟨ns8, ms8, sd8, g8, hm8⟩ := st8 a t r st6
    have nd9 : ((done ++ [((.inr r : Key), V.bl true)]).map (·.1)).Nodup := by
      rw [List.map_append]
      exact nd_snoc t5.nd rno
    have sx9 : ∀ k ∈ (done ++ [((.inr r : Key), V.bl true)]).map (·.1), ∃ r, k = .inr r ∧ Sfx B r := fun k hk => by
      rw [List.map_append] at hk
      rcases List.mem_append.mp hk with hk | hk
      · exact t5.sx k hk
      · exact ⟨r, List.mem_singleton.mp hk, g8.r⟩
    have hdl9 := keys_le nd9 sx9
    rw [List.length_map, List.length_append, List.length_singleton] at hdl9
    refine ⟨_, rfl, _, rfl, _, rfl, l, a, B, B, _, t, r, ns8, ms8, rfl, hB.same sm8, (fun _ h => h), hle, gB.cd, sd8, g8, by (first | lia | omega), fun as p9 H9 s9 hp9 h9 hal9 hst9 hcv9 => ⟨p9, rfl, ⟨_, SqL.of h9⟩, ?_⟩⟩
    have hd9 := s9 _ _ hd8
    have hn9 := s9 _ _ c8.at
    have at1 : ∀ {i : Nat} (hi : i < as.length), (as.map fun x => V.ref x.2)[i]? = some (.ref as[i].2) := fun hi => by rw [List.getElem?_map, List.getElem?_eq_getElem hi]; rfl
    refine comp_go (N := as.length) (fun i ys H' => H' = H9 ∧ ∃ bs : List (Str × Addr), ys = bs.map (fun x => V.ref x.2) ∧ bs.length ≤ i ∧ (∀ x ∈ bs, x ∈ as ∧ (.inr x.1 : Key) ∉ (done ++ [((.inr r : Key), V.bl true)]).map (·.1)) ∧ ∀ x ∈ as.take i, (.inr x.1 : Key) ∉ (done ++ [((.inr r : Key), V.bl true)]).map (·.1) → x ∈ bs) ⟨rfl, [], rfl, Nat.le_refl _, (fun _ h => nomatch h), fun _ h => nomatch h⟩ ?_ ?_
    · rintro i ys H10 Ny hi ⟨rfl, bs, rfl, hbl, hbs, hbc⟩ ny
      refine ⟨⟨_, _, SqL.of h9, at1 hi⟩, by rw [List.length_map]; exact Nat.lt_of_le_of_lt (show bs.length ≤ 1000 by (first | lia | omega)) (by decide), ?_⟩
      rintro x H11 ⟨rfl, hy⟩
      have e := hy _ (SqL.of h9)
      rw [at1 hi] at e; cases e
      have hm := List.getElem_mem hi
      have htk := take_next hi
      generalize as[i] = x at hm htk
      obtain ⟨_, _, tx, _, nx', mx, ⟨u1, u2, k1, _⟩, _⟩ := hst9 x hm
      refine gn ⟨_, rfl, .inr (.inl ⟨x.2, _, 1, .str x.1, rfl, rfl, SqT.of k1, rfl, ?_⟩)⟩
      cases hv : valV (done ++ [((.inr r : Key), V.bl true)]) (.inr x.1) with
      | none =>
        refine ⟨_, rfl, dn, none, rfl, .inl ⟨_, .inr x.1, .inl hn9, rfl, hv.symm⟩, _, rfl, iteT ⟨_, rfl, ny _ _ ⟨rfl, bs ++ [x], by rw [List.map_append]; rfl, by rw [List.length_append]; exact Nat.succ_le_succ hbl, fun y hy => ?_, fun y hy hn => ?_⟩⟩⟩
        · rcases List.mem_append.mp hy with hy | hy
          · exact hbs y hy
          · rw [List.mem_singleton.mp hy]; exact ⟨hm, valV_not hv⟩
        · rw [htk] at hy
          rcases List.mem_append.mp hy with hy | hy
          · exact List.mem_append_left _ (hbc y hy hn)
          · exact List.mem_append_right _ hy
      | some v =>
        exact ⟨_, rfl, dn, some v, rfl, .inl ⟨_, .inr x.1, .inl hn9, rfl, hv.symm⟩, _, rfl, iteF (ny _ _ ⟨rfl, bs, rfl, by (first | lia | omega), hbs, fun y hy hn => by
          rw [htk] at hy
          rcases List.mem_append.mp hy with hy | hy
          · exact hbc y hy hn
          · rw [List.mem_singleton.mp hy] at hn
            exact absurd (valV_in hv) hn⟩)⟩
    · rintro ys H10 ⟨rfl, bs, rfl, hbl, hbs, hbc⟩
      rw [List.take_length] at hbc
      refine ⟨⟨_, SqL.of h9, by rw [List.length_map]; exact Nat.le_refl _⟩, fun p11 hp11 => ?_⟩
      have n11 : New H10 p11 (.lst (bs.map fun x => V.ref x.2)) (upd H10 p11 (.lst (bs.map fun x => V.ref x.2))) := ⟨hp11, rfl⟩
      generalize upd H10 p11 (.lst (bs.map fun x => V.ref x.2)) = H11 at n11 ⊢
      have s11 : Same H8 H11 := s9.trans n11.same
      have hd11 := n11.same _ _ hd9
      have hn11 := n11.same _ _ hn9
      have wt8 : Wt B (done.length + 2) H8 (dropK kvs (.inr r)) := (t5.wt.drop _).step fun a r h => std8 a r (h.same s6)
      refine ⟨d, p11, _, bs, B, done.length + 3, rfl, hd11, n11.at, (wt8.mono (by (first | lia | omega))).step fun a r h => h.same s11, by (first | lia | omega), by (first | lia | omega), by (first | lia | omega), fun x hx => (by obtain ⟨_, _, t', _, h⟩ := hst9 x (hbs x hx).1; exact (h.same n11.same).std), fun kvs' H12 of12 hd12 wt12 hk12 ks12 => ?_⟩
      have hn12 : H12 dn = some (.dK (done ++ [((.inr r : Key), V.bl true)])) := of12 _ _ (Ne.symm ddn) hn11
      have f11 : ∀ a t r, St3 B (done.length + 2) H5 a t r → St3 B (done.length + 3) H11 a t r := fun a t r h => ((st8 a t r (h.same s6)).same s11).mono (by (first | lia | omega))
      have dij : Dij B (In B (done.length + 3) H12 kvs') (fun a b => D a b ∨ (a = t ∧ b = r)) := by
        refine t5.dij.next ⟨a, hmem, st5⟩ rne (fun t' h => h.one t5.wt.nd ⟨a, hmem, st5⟩) (fun t' h => rno ((t5.dk r).mpr ⟨t', h⟩)) least (fun t' r' h => ?_) (fun t' r' h hne' => ?_) (fun z t' r' hz hn hne' hD => ?_)
        · rcases ks12.snd t' r' h with ⟨b, g1, g2⟩ | ⟨x, hx, rfl, g⟩
          · exact .inl (In.back2 t5.wt f11 ⟨b, dropK_mem g1, g2⟩)
          · obtain ⟨z, hz, t2, h1, h2⟩ := hst9 x (hbs x hx).1
            rw [(g.one (h2.same n11.same)).1]
            exact .inr ⟨z, hz, h1⟩
        · obtain ⟨b, g1, g2⟩ := h
          exact ks12.cv1 t' r' ⟨b, in_drop g1 (fun e => hne' (Sum.inr.inj e)), f11 _ _ _ g2⟩
        · obtain ⟨x, hx, rfl, g⟩ := hcv9 z hz t' r' hn
          have hxb : x ∈ bs.take bs.length := by
            rw [List.take_length]
            refine hbc x hx fun h => ?_
            rw [List.map_append] at h
            rcases List.mem_append.mp h with h | h
            · obtain ⟨u, hu⟩ := (t5.dk x.1).mp h
              exact hD u hu
            · exact hne' (Sum.inr.inj (List.mem_singleton.mp h))
          exact ks12.cv2 x hxb t' (g.same n11.same)
      refine ⟨_, ?_, _, _, kvs', done ++ [((.inr r : Key), V.bl true)], (fun a b => D a b ∨ (a = t ∧ b = r)), rfl, rfl, ⟨⟨fun b o e => of12 b o (ne_of_none e n1.nn) (s11 _ _ (sm8 b o e)), hd12, hn12, ?_, nd9, sx9, fun k hk hk2 => ?_⟩, by rw [List.length_append, List.length_singleton]; exact dij, fun r1 => ?_⟩⟩
      · rw [List.length_append, List.length_singleton]; (first | lia | omega)
      · rw [List.length_append, List.length_singleton]; exact wt12
      · rcases hk12 k hk with h | ⟨x, hx, rfl⟩
        · have hk3 := hk2
          rw [List.map_append] at hk3
          rcases List.mem_append.mp hk3 with h3 | h3
          · obtain ⟨z, hz, rfl⟩ := List.mem_map.mp h
            exact t5.dj _ (List.mem_map_of_mem (dropK_mem hz)) h3
          · obtain ⟨z, hz, rfl⟩ := List.mem_map.mp h
            have := (List.mem_filter.mp hz).2
            have := of_decide_eq_true this
            exact this (List.mem_singleton.mp h3)
        · exact (hbs x hx).2 hk2
      · rw [List.map_append]
        refine ⟨fun h => ?_, fun ⟨u, hu⟩ => ?_⟩
        · rcases List.mem_append.mp h with h | h
          · obtain ⟨u, hu⟩ := (t5.dk r1).mp h
            exact ⟨u, .inl hu⟩
          · exact ⟨t, .inr ⟨rfl, Sum.inr.inj (List.mem_singleton.mp h)⟩⟩
        · rcases hu with hu | ⟨_, rfl⟩
          · exact List.mem_append_left _ ((t5.dk r1).mpr ⟨u, hu⟩)
          · exact List.mem_append_right _ (List.mem_singleton.mpr rfl)
  rintro σ H5 ⟨sm5, no⟩
  exact qN no H5 sm5
end
end Z

set_option Elab.async false
set_option linter.all false
set_option maxRecDepth 100000
set_option maxHeartbeats 4000000
namespace Z
open PySem L2 PyProof.Rows
/-! the readings of a text, counted place by place (k18) -/
noncomputable def Cnd (B : List (Str × Str)) (s : List Nat) (p k q : Nat) (ps : List (Str × Str)) : Prop :=
  Of B ps ∧ tx ps = s.take q ∧ (ps = [] ∨ ∃ qs e, ps = qs ++ [e] ∧ ((tx qs).length < p ∨ ((tx qs).length = p ∧ e ∈ B.take k)))
noncomputable def Cts (B : List (Str × Str)) (s : List Nat) (p k : Nat) (L : Nat → List (List (Str × Str))) : Prop := ∀ q, q ≤ s.length → (L q).Nodup ∧ ∀ ps, ps ∈ L q ↔ Cnd B s p k q ps
section
variable {B : List (Str × Str)} {s : List Nat} {p k : Nat} {L : Nat → List (List (Str × Str))}
theorem tx_snoc (qs : List (Str × Str)) (e : Str × Str) : tx (qs ++ [e]) = tx qs ++ sg e.2 := by rw [tx_app, tx_cons, tx_nil, List.append_nil]
theorem code_pos {e : Str × Str} (cd : ∀ q ∈ B, CodeOk 12 q.2) (h : e ∈ B) : 1 ≤ (sg e.2).length := by
  have := (cd e h).pos
  rw [str_len] at this
  exact this
theorem Cts.zero (cd : ∀ q ∈ B, CodeOk 12 q.2) : Cts B s 0 0 fun q => if q = 0 then [[]] else [] := fun q hq => by
  dsimp only
  have none : ∀ ps, Cnd B s 0 0 q ps → ps = [] := fun ps ⟨_, _, h⟩ => by
    rcases h with h | ⟨qs, e, _, h | ⟨_, h⟩⟩
    · exact h
    · exact absurd h (Nat.not_lt_zero _)
    · rw [List.take_zero] at h; cases h
  by_cases e : q = 0
  · subst e
    refine ⟨by rw [if_pos rfl]; exact List.nodup_cons.mpr ⟨by simp, List.nodup_nil⟩, fun ps => ?_⟩
    rw [if_pos rfl, List.mem_singleton]
    refine ⟨fun h => ?_, none ps⟩
    subst h
    exact ⟨(fun _ h => nomatch h), rfl, .inl rfl⟩
  · refine ⟨by rw [if_neg e]; exact List.nodup_nil, fun ps => ?_⟩
    rw [if_neg e]
    refine ⟨(fun h => nomatch h), fun h => ?_⟩
    have := none ps h
    subst this
    have h2 := congrArg List.length h.2.1
    rw [List.length_take] at h2
    change 0 = _ at h2
    (first | lia | omega)
theorem Cts.next (h : Cts B s p B.length L) : Cts B s (p + 1) 0 L := fun q hq => by
  obtain ⟨h1, h2⟩ := h q hq
  refine ⟨h1, fun ps => (h2 ps).trans ⟨fun ⟨a, b, c⟩ => ⟨a, b, ?_⟩, fun ⟨a, b, c⟩ => ⟨a, b, ?_⟩⟩⟩
  · rcases c with c | ⟨qs, e, rfl, c | ⟨c, _⟩⟩
    · exact .inl c
    · exact .inr ⟨qs, e, rfl, .inl (by (first | lia | omega))⟩
    · exact .inr ⟨qs, e, rfl, .inl (by (first | lia | omega))⟩
  · rcases c with c | ⟨qs, e, rfl, c | ⟨_, c⟩⟩
    · exact .inl c
    · refine .inr ⟨qs, e, rfl, ?_⟩
      by_cases z : (tx qs).length = p
      · exact .inr ⟨z, by rw [List.take_length]; exact a e (List.mem_append_right _ (List.mem_singleton.mpr rfl))⟩
      · exact .inl (by (first | lia | omega))
    · rw [List.take_zero] at c; cases c
/-- the last code of a reading that ends at p lies ahead of p -/
theorem Cts.all (cd : ∀ q ∈ B, CodeOk 12 q.2) (h : Cts B s p k L) {q : Nat} (hq : q ≤ s.length) (hp : q ≤ p) (ps : List (Str × Str)) : ps ∈ L q ↔ Of B ps ∧ tx ps = s.take q := by
  refine ((h q hq).2 ps).trans ⟨fun ⟨a, b, _⟩ => ⟨a, b⟩, fun ⟨a, b⟩ => ⟨a, b, ?_⟩⟩
  rcases List.eq_nil_or_concat ps with rfl | ⟨qs, e, rfl⟩
  · exact .inl rfl
  · refine .inr ⟨qs, e, List.concat_eq_append, .inl ?_⟩
    rw [List.concat_eq_append] at b a
    have h1 := code_pos cd (a e (List.mem_append_right _ (List.mem_singleton.mpr rfl)))
    rw [tx_snoc] at b
    have h2 := congrArg List.length b
    rw [List.length_append, List.length_take] at h2
    (first | lia | omega)
theorem app_at {a c b : List Nat} {p q : Nat} (h : a ++ c = b.take q) (hp : a.length = p) (hq : q ≤ b.length) : q = p + c.length ∧ a = b.take p ∧ (b.drop p).take c.length = c := by
  have hl := congrArg List.length h
  rw [List.length_append, List.length_take] at hl
  have e : q = p + c.length := by (first | lia | omega)
  subst e
  have h1 : (a ++ c).take p = a := by rw [← hp]; exact List.take_left
  have h2 : (a ++ c).drop p = c := by rw [← hp]; exact List.drop_left
  rw [h] at h1 h2
  refine ⟨rfl, ?_, ?_⟩
  · rw [List.take_take, Nat.min_eq_left (Nat.le_add_right _ _)] at h1
    exact h1.symm
  · rw [List.drop_take, Nat.add_sub_cancel_left] at h2
    exact h2
theorem Cts.skip (h : Cts B s p k L) (hk : k < B.length) (no : (s.drop p).take (sg B[k].2).length ≠ sg B[k].2) : Cts B s p (k + 1) L := fun q hq => by
  obtain ⟨h1, h2⟩ := h q hq
  refine ⟨h1, fun ps => (h2 ps).trans ⟨fun ⟨a, b, c⟩ => ⟨a, b, ?_⟩, fun ⟨a, b, c⟩ => ⟨a, b, ?_⟩⟩⟩
  · rcases c with c | ⟨qs, e, rfl, c | ⟨c, d⟩⟩
    · exact .inl c
    · exact .inr ⟨qs, e, rfl, .inl c⟩
    · exact .inr ⟨qs, e, rfl, .inr ⟨c, by rw [take_next hk]; exact List.mem_append_left _ d⟩⟩
  · rcases c with c | ⟨qs, e, rfl, c | ⟨c, d⟩⟩
    · exact .inl c
    · exact .inr ⟨qs, e, rfl, .inl c⟩
    · rw [take_next hk] at d
      rcases List.mem_append.mp d with d | d
      · exact .inr ⟨qs, e, rfl, .inr ⟨c, d⟩⟩
      · have d := List.mem_singleton.mp d
        subst d
        rw [tx_snoc] at b
        exact absurd (app_at b c hq).2.2 no
theorem nodup_snoc_map {L : List (List (Str × Str))} (e : Str × Str) (h : L.Nodup) : (L.map (· ++ [e])).Nodup := by
  rw [List.nodup_iff_pairwise_ne] at h ⊢
  exact List.pairwise_map.mpr (h.imp fun hab z => hab (List.append_cancel_right z))
theorem Cts.take (nd : B.Nodup) (cd : ∀ q ∈ B, CodeOk 12 q.2) (h : Cts B s p k L) (hk : k < B.length) (hp : p ≤ s.length) (yes : (s.drop p).take (sg B[k].2).length = sg B[k].2) : Cts B s p (k + 1) fun q => if q = p + (sg B[k].2).length then L q ++ (L p).map (· ++ [B[k]]) else L q := fun q hq => by
  dsimp only
  obtain ⟨h1, h2⟩ := h q hq
  have hkB : B[k] ∈ B := List.getElem_mem hk
  have kno : B[k] ∉ B.take k := fun z => by
    obtain ⟨j, hj, e2⟩ := List.mem_iff_getElem.mp z
    rw [List.length_take] at hj
    rw [List.getElem_take] at e2
    have := (List.getElem_inj nd).mp e2
    (first | lia | omega)
  have up : ∀ ps, Cnd B s p k q ps → Cnd B s p (k + 1) q ps := fun ps ⟨a, b, c⟩ => ⟨a, b, by
    rcases c with c | ⟨qs, e, rfl, c | ⟨c, d⟩⟩
    · exact .inl c
    · exact .inr ⟨qs, e, rfl, .inl c⟩
    · exact .inr ⟨qs, e, rfl, .inr ⟨c, by rw [take_next hk]; exact List.mem_append_left _ d⟩⟩⟩
  have down : ∀ ps, Cnd B s p (k + 1) q ps → Cnd B s p k q ps ∨ (q = p + (sg B[k].2).length ∧ ∃ qs, ps = qs ++ [B[k]] ∧ Of B qs ∧ tx qs = s.take p) := fun ps ⟨a, b, c⟩ => by
    rcases c with c | ⟨qs, e, rfl, c | ⟨c, d⟩⟩
    · exact .inl ⟨a, b, .inl c⟩
    · exact .inl ⟨a, b, .inr ⟨qs, e, rfl, .inl c⟩⟩
    · rw [take_next hk] at d
      rcases List.mem_append.mp d with d | d
      · exact .inl ⟨a, b, .inr ⟨qs, e, rfl, .inr ⟨c, d⟩⟩⟩
      · have d := List.mem_singleton.mp d
        subst d
        rw [tx_snoc] at b
        obtain ⟨e1, e2, _⟩ := app_at b c hq
        exact .inr ⟨e1, qs, rfl, fun y hy => a y (List.mem_append_left _ hy), e2⟩
  by_cases e : q = p + (sg B[k].2).length
  · rw [if_pos e]
    refine ⟨List.nodup_append.mpr ⟨h1, nodup_snoc_map _ (h p hp).1, fun a ha b hb z => ?_⟩, fun ps => ?_⟩
    · subst z
      obtain ⟨qs, hqs, rfl⟩ := List.mem_map.mp hb
      have g := ((h p hp).2 qs).mp hqs
      have hlq : (tx qs).length = p := by rw [g.2.1, List.length_take]; (first | lia | omega)
      obtain ⟨_, _, c⟩ := (h2 _).mp ha
      rcases c with c | ⟨qs', e', z, c⟩
      · exact absurd (List.append_eq_nil_iff.mp c).2 (by simp)
      · obtain ⟨z1, z2⟩ := List.append_inj' z rfl
        injection z2 with z2
        subst z1 z2
        rcases c with c | ⟨_, c⟩
        · (first | lia | omega)
        · exact kno c
    · rw [List.mem_append]
      refine ⟨fun hx => ?_, fun hx => ?_⟩
      · rcases hx with hx | hx
        · exact up ps ((h2 ps).mp hx)
        · obtain ⟨qs, hqs, rfl⟩ := List.mem_map.mp hx
          have g := ((h p hp).2 qs).mp hqs
          have hlq : (tx qs).length = p := by rw [g.2.1, List.length_take]; (first | lia | omega)
          refine ⟨fun y hy => ?_, ?_, .inr ⟨qs, _, rfl, .inr ⟨hlq, by rw [take_next hk]; exact List.mem_append_right _ (List.mem_singleton.mpr rfl)⟩⟩⟩
          · rcases List.mem_append.mp hy with hy | hy
            · exact g.1 y hy
            · rw [List.mem_singleton.mp hy]; exact hkB
          · rw [tx_snoc, g.2.1, e]
            have : s.take p ++ (s.drop p).take (sg B[k].2).length = s.take (p + (sg B[k].2).length) := List.take_add.symm
            rw [yes] at this
            exact this
      · rcases down ps hx with hx | ⟨_, qs, rfl, o, t⟩
        · exact .inl ((h2 ps).mpr hx)
        · exact .inr (List.mem_map.mpr ⟨qs, (h.all cd hp (Nat.le_refl _) qs).mpr ⟨o, t⟩, rfl⟩)
  · rw [if_neg e]
    refine ⟨h1, fun ps => (h2 ps).trans ⟨up ps, fun hx => ?_⟩⟩
    rcases down ps hx with hx | ⟨z, _⟩
    · exact hx
    · exact absurd z e
/-- more than one reading -/
theorem Cts.amb (cd : ∀ q ∈ B, CodeOk 12 q.2) (x : Str) (h : Cts B (sg x) (sg x).length 0 L) : 1 < (L (sg x).length).length ↔ Amb B x := by
  have ha := h.all cd (Nat.le_refl _) (Nat.le_refl _)
  have nd := (h _ (Nat.le_refl _)).1
  rw [List.take_length] at ha
  generalize L (sg x).length = l at ha nd
  constructor
  · intro hl
    match l, hl with
    | a :: b :: r, _ =>
      obtain ⟨o1, e1⟩ := (ha a).mp List.mem_cons_self
      obtain ⟨o2, e2⟩ := (ha b).mp (List.mem_cons_of_mem _ List.mem_cons_self)
      exact ⟨a, b, o1, o2, fun z => (List.nodup_cons.mp nd).1 (by rw [z]; exact List.mem_cons_self), e1, e2⟩
  · rintro ⟨ps, qs, o1, o2, hne, e1, e2⟩
    have m1 := (ha ps).mpr ⟨o1, e1⟩
    have m2 := (ha qs).mpr ⟨o2, e2⟩
    match l with
    | [] => cases m1
    | [a] => exact absurd ((List.mem_singleton.mp m1).trans (List.mem_singleton.mp m2).symm) hne
    | a :: b :: r => simp
end
end Z

set_option Elab.async false
set_option linter.all false
set_option maxRecDepth 100000
set_option maxHeartbeats 4000000
namespace Z
open PySem L2 PyProof.Rows
/-! the drawn books of k16: any codes, free ones, turned about, with one more -/
noncomputable def spSz : Sp := fun vs H Q _ => ∃ (b c : Addr) (t : Int), vs = [.ref b] ∧ Bx H b c t ∧ 0 ≤ t ∧ t < 900000 ∧
  ∀ (m o : Int) (tp : Addr) (H' : Hp) (t' : Int), 1 ≤ m → m ≤ 8 → 1 ≤ o → o ≤ 8 → Step b c H H' t t' 3 → H' tp = some (.tup [.int m, .int o]) → Q (.ref tp) H'
theorem bit01 {r : Int} (h0 : 0 ≤ r) (h1 : r < 2) : ∃ c, atI (Str.ofString "01").cps.toList r = some c ∧ (c = 48 ∨ c = 49) := by
  have : r = 0 ∨ r = 1 := by (first | lia | omega)
  rcases this with rfl | rfl
  · exact ⟨48, by decide +kernel, .inl rfl⟩
  · exact ⟨49, by decide +kernel, .inr rfl⟩
noncomputable def spBk (K : PySem.W.Frag) : Sp := fun vs H Q _ => ∃ (b c : Addr) (t : Int), vs = [.ref b] ∧ Bx H b c t ∧ 0 ≤ t ∧ t < 800000 ∧
  ∀ (bk : List (Str × Str)) (v : V) (H' : Hp) (t' : Int), GoodN bk → bk ≠ [] → BookAt K (hid H' b c) bk v → Step b c H H' t t' 600 → Q v H'
theorem ones_bin {xs : List Str} (h : ∀ x ∈ xs, ∃ ch : Nat, x = ⟨#[ch]⟩ ∧ (ch = 48 ∨ ch = 49)) : Bin (Txt.join "" xs) ∧ (Txt.join "" xs).length = xs.length := by
  refine ⟨fun ch hc => ?_, ?_⟩
  · have hc : ch ∈ (Txt.join "" xs).cps.toList := hc
    rw [join_list0] at hc
    obtain ⟨x, hx, hc⟩ := List.mem_flatMap.mp hc
    obtain ⟨k, rfl, hk⟩ := h x hx
    have : ch ∈ [k] := hc
    rw [List.mem_singleton.mp this]; exact hk
  · rw [str_len]
    rw [join_list0]
    exact (ones_len fun x hx => by obtain ⟨k, e, _⟩ := h x hx; exact ⟨k, e⟩).1
theorem sl_cut {x : Str} (j : Nat) : sg (Txt.slice x none (some (j : Int))) = (sg x).take j := by
  have e : Txt.slice x none (some (j : Int)) = Txt.slice x (some ((0 : Nat) : Int)) (some (j : Int)) := by
    unfold Txt.slice
    have : PySem.Builtin.Str.strSliceIndices none (some (j : Int)) 1 x.length = PySem.Builtin.Str.strSliceIndices (some ((0 : Nat) : Int)) (some (j : Int)) 1 x.length := by
      unfold PySem.Builtin.Str.strSliceIndices
      dsimp only
      congr 1
      all_goals simp
    rw [this]
  rw [e, sl_mid (Nat.zero_le _) (Nat.zero_le _)]
  rfl
theorem cut_code {x : Str} (hb : Bin x) (hp : 1 ≤ x.length) (n : Nat) (hn : 1 ≤ n) (j : Int) (hj : j = (n : Int)) : CodeOk n (Txt.slice x none (some j)) := by
  subst hj
  have e := sl_cut (x := x) n
  have l : (Txt.slice x none (some (n : Int))).length = min n x.length := by
    rw [str_len]
    show (sg _).length = _
    rw [e, List.length_take, str_len]
  refine ⟨fun ch hc => hb ch ?_, by (first | lia | omega), by (first | lia | omega)⟩
  have hc : ch ∈ sg (Txt.slice x none (some (n : Int))) := hc
  rw [e] at hc
  exact List.mem_of_mem_take hc
theorem rev_code {n : Nat} {x y : Str} (h : CodeOk n x) (e : y.cps.toList = x.cps.toList.reverse) : CodeOk n y := by
  have l : y.length = x.length := by
    rw [str_len, str_len]
    show y.cps.toList.length = _
    rw [e, List.length_reverse]
  refine ⟨fun ch hc => h.bin ch ?_, by rw [l]; exact h.pos, by rw [l]; exact h.le⟩
  have hc : ch ∈ y.cps.toList := hc
  rw [e] at hc
  exact List.mem_reverse.mp hc
noncomputable def BkI (H : Hp) (b c : Addr) (t way m o at' : Int) (x5 x6 : Str) (sz : Nat) (σ : L2.St) (H' : Hp) : Prop := ∃ (cs : List Str) (l : Addr) (t' : Int), σ = [some (.ref b), some (.int way), some (.int m), some (.int o), some (.ref l), some (.str x5), some (.str x6), some (.int at')] ∧ H l = none ∧ l ≠ b ∧ l ≠ c ∧ cs ≠ [] ∧ at' ≤ cs.length ∧ cs.length ≤ sz ∧ (∀ x ∈ cs, CodeOk 12 x) ∧ Step b c H H' t t' (200 + sz) ∧ H' l = some (.lst (cs.map V.str))
theorem BkI.more {H : Hp} {b c : Addr} {t way m o at' : Int} {x5 x6 : Str} {sz : Nat} {σ : L2.St} {H' : Hp} (h : BkI H b c t way m o at' x5 x6 sz σ H') : BkI H b c t way m o at' x5 x6 (sz + 1) σ H' := by
  obtain ⟨cs, l, t', e, h1, h2, h3, h4, h5, h6, h7, h8, h9⟩ := h
  exact ⟨cs, l, t', e, h1, h2, h3, h4, h5, by (first | lia | omega), h7, h8.more (by (first | lia | omega)), h9⟩
theorem BkI.ins {H : Hp} {b c l : Addr} {t t' way m o at' : Int} {x5 x6 y : Str} {sz : Nat} {H' H2 : Hp} {cs : List Str} (hl : H l = none) (lb : l ≠ b) (lc : l ≠ c) (a0 : 0 ≤ at') (ha : at' ≤ cs.length) (hs : cs.length ≤ sz) (cd : ∀ x ∈ cs, CodeOk 12 x) (cy : CodeOk 12 y) (st : Step b c H H' t t' (200 + sz + 1))
    (ch : Chg H' l (.lst ((cs.map V.str).take at'.toNat ++ .str y :: (cs.map V.str).drop at'.toNat)) H2) : BkI H b c t way m o at' x5 x6 (sz + 1) [some (.ref b), some (.int way), some (.int m), some (.int o), some (.ref l), some (.str x5), some (.str x6), some (.int at')] H2 := by
  refine ⟨cs.take at'.toNat ++ y :: cs.drop at'.toNat, l, t', rfl, hl, lb, lc, by simp, ?_, ?_, fun x hx => ?_, (st.chgN ch hl lb lc).more (by (first | lia | omega)), ?_⟩
  · rw [List.length_append, List.length_cons, List.length_take, List.length_drop]; (first | lia | omega)
  · rw [List.length_append, List.length_cons, List.length_take, List.length_drop]; (first | lia | omega)
  · rcases List.mem_append.mp hx with h | h
    · exact cd x (List.mem_of_mem_take h)
    · rcases List.mem_cons.mp h with rfl | h
      · exact cy
      · exact cd x (List.mem_of_mem_drop h)
  · rw [ch.at, List.map_append, List.map_cons, List.map_take, List.map_drop]
section
variable {P : Program} {w : World} {K : PySem.W.Frag} {mg : Str → Option Value} {base : Heap} {f : Addr} {fd : FuncData}
theorem sc_law_sizes : FnScope ["_law_state"] ["_law_state"] (defScope (top i_law_sizes)) := ⟨rfl, rfl, rfl, by decide +kernel, rfl, by decide +kernel, by decide +kernel⟩
theorem ok_sz (F : Fun K "_law_sizes" "_law_sizes" (top i_law_sizes) f fd) (T : Nm mg) (f_law_take : Fn P w K mg base 1 "_law_take" ["_law_state", "_law_many"] spTk) : FnOk P w K mg base CX0 2 f fd ["_law_state"] spSz := by
  refine F.ok sc_law_sizes (fun vs H Q E h => ?_) (fun cdv A outer s H vs Q E hr h => ?_)
  · obtain ⟨b, c, t, rfl, _⟩ := h
    rfl
  obtain ⟨b, c, t, rfl, bx, t0, t1, q⟩ := h
  have hu6 := hr.units
  refine ⟨_, (pss_cons (ps_if (pt_cmpR (eqK K hu6) (pe_fn (f_law_take.mono (by first | decide | exact Nat.le_refl _ | (first | lia | omega))) hr rfl (pa_cons (pv 0) (pa_cons pe_int pa_nil))) pe_int (nomark _)) (pss_one (ps_ret (tupN (pa_cons (pe_op addN pe_int (pe_fn (f_law_take.mono (by first | decide | exact Nat.le_refl _ | (first | lia | omega))) hr rfl (pa_cons (pv 0) (pa_cons pe_int pa_nil)))) (pa_cons (pe_op addN pe_int (pe_fn (f_law_take.mono (by first | decide | exact Nat.le_refl _ | (first | lia | omega))) hr rfl (pa_cons (pv 0) (pa_cons pe_int pa_nil)))) pa_nil))))) pss_nil)
    (pss_one (ps_ret (tupN (pa_cons (pe_op addN pe_int (pe_fn (f_law_take.mono (by first | decide | exact Nat.le_refl _ | (first | lia | omega))) hr rfl (pa_cons (pv 0) (pa_cons pe_int pa_nil)))) (pa_cons (pe_op addN pe_int (pe_fn (f_law_take.mono (by first | decide | exact Nat.le_refl _ | (first | lia | omega))) hr rfl (pa_cons (pv 0) (pa_cons pe_int pa_nil)))) pa_nil)))))), ?_⟩
  refine ⟨_, rfl, b, c, t, 8, rfl, bx, by (first | lia | omega), by (first | lia | omega), by decide, by decide, fun r H1 r0 r1 st1 => .inl ⟨rfl, _, rfl, ite2 (fun _ => ?_) (fun _ => ?_)⟩⟩
  · refine ⟨_, rfl, b, c, _, 7, rfl, st1.bx, by (first | lia | omega), by (first | lia | omega), by decide, by decide, fun m H2 m0 m1 st2 => .inl ⟨_, _, rfl, rfl, ?_⟩⟩
    refine ⟨_, rfl, b, c, _, 7, rfl, st2.bx, by (first | lia | omega), by (first | lia | omega), by decide, by decide, fun o H3 o0 o1 st3 => .inl ⟨_, _, rfl, rfl, by show 2 ≤ sizeLine; decide, fun tp H4 n4 => ?_⟩⟩
    exact q (2 + m) (2 + o) tp H4 _ (by (first | lia | omega)) (by (first | lia | omega)) (by (first | lia | omega)) (by (first | lia | omega)) (((st1.trans st2).trans st3).newN n4) n4.at
  · refine ⟨_, rfl, b, c, _, 6, rfl, st1.bx, by (first | lia | omega), by (first | lia | omega), by decide, by decide, fun m H2 m0 m1 st2 => .inl ⟨_, _, rfl, rfl, ?_⟩⟩
    refine ⟨_, rfl, b, c, _, 5, rfl, st2.bx, by (first | lia | omega), by (first | lia | omega), by decide, by decide, fun o H3 o0 o1 st3 => .inl ⟨_, _, rfl, rfl, by show 2 ≤ sizeLine; decide, fun tp H4 n4 => ?_⟩⟩
    exact q (1 + m) (1 + o) tp H4 _ (by (first | lia | omega)) (by (first | lia | omega)) (by (first | lia | omega)) (by (first | lia | omega)) (((st1.trans st2).trans st3).newN n4) n4.at
theorem sc_law_book : FnScope ["_law_state", "_law_way", "_law_many", "_law_most", "_law_codes", "_law_one", "_law_other", "_law_at"] ["_law_state"] (defScope (top i_law_book)) := ⟨rfl, rfl, rfl, by decide +kernel, rfl, by decide +kernel, by decide +kernel⟩
theorem ok_bk16 (F : Fun K "_law_book" "_law_book" (top i_law_book) f fd) (T : Nm mg) (f_law_take : Fn P w K mg base 1 "_law_take" ["_law_state", "_law_many"] spTk) (f_law_sizes : Fn P w K mg base 2 "_law_sizes" ["_law_state"] spSz) (f_law_free : Fn P w K mg base 2 "_law_free" ["_law_state", "_law_many", "_law_most"] spFr) (f_law_names : Fn P w K mg base 2 "_law_names" ["_law_state", "_law_many"] spNl) : FnOk P w K mg base CX0 3 f fd ["_law_state"] (spBk K) := by
  refine F.ok sc_law_book (fun vs H Q E h => ?_) (fun cdv A outer s H vs Q E hr h => ?_)
  · obtain ⟨b, c, t, rfl, _⟩ := h
    rfl
  obtain ⟨b, c, t, rfl, bx, t0, t1, q⟩ := h
  have hu6 := hr.units
  have small : ∀ {n : Nat}, n ≤ 1000 → n < sizeLine := fun h => Nat.lt_of_le_of_lt h (by decide)
  refine ⟨_, (pss_cons (ps_set (i := 1) sc_law_book.nd rfl (Or.inl rfl) (pe_fn (f_law_take.mono (by first | decide | exact Nat.le_refl _ | (first | lia | omega))) hr rfl (pa_cons (pv 0) (pa_cons pe_int pa_nil))))
    (pss_cons (ps_asg (pe_fn (f_law_sizes.mono (by first | decide | exact Nat.le_refl _ | (first | lia | omega))) hr rfl (pa_cons (pv 0) pa_nil)) (tupK K 2 rfl (pgs_cons (pg_name (i := 2) sc_law_book.nd rfl (Or.inl rfl)) (pgs_cons (pg_name (i := 3) sc_law_book.nd rfl (Or.inr rfl)) pgs_nil))))
    (pss_cons (ps_set (i := 4) sc_law_book.nd rfl (Or.inl rfl) (pe_fn (f_law_free.mono (by first | decide | exact Nat.le_refl _ | (first | lia | omega))) hr rfl (pa_cons (pv 0) (pa_cons (pv 2) (pa_cons (pv 3) pa_nil)))))
    (pss_cons (ps_if (pt_cmpR (eqK K hu6) (pv 1) pe_int (nomark _)) (pss_one (ps_setcomp (i := 4) sc_law_book.nd rfl (Or.inl rfl) rfl (comp_ok (Nc := ["_law_code"]) (Fc := ["_law_state", "_law_most"]) (js := [0, 3])) (piK K (pv 4)) (gk_name (i := 0) (n := 1) (by decide)) (fun _ _ _ _ _ => (pg_name (i := 0) (show (["_law_code", "_law_state", "_law_most"] : List Str).Nodup by decide +kernel) rfl (Or.inl rfl))) (fun _ _ _ _ _ => pts_nil) (fun _ _ _ _ _ => (bmK K PySem.F.plainAttrs_str PySem.F.slot_str_join PySem.F.type_str_join (joinK K) pe_str (pa_cons (pe_lcomp rfl (comp_ok (Nc := ["_law_j"]) (Fc := ["_law_state"]) (js := [1])) (pi_range1 rfl T.n_range (pa_cons (pe_op addN pe_int (pe_fn (f_law_take.mono (by first | decide | exact Nat.le_refl _ | (first | lia | omega))) hr rfl (pa_cons (pv 1) (pa_cons (pv 2) pa_nil)))) pa_nil)) (gk_name (i := 0) (n := 1) (by decide)) (fun _ _ _ _ _ => (pg_name (i := 0) (show (["_law_j", "_law_state"] : List Str).Nodup by decide +kernel) rfl (Or.inl rfl))) (fun _ _ _ _ _ => pts_nil) (fun _ _ _ _ _ => (pe_ix (ixK K) pe_str (pe_fn (f_law_take.mono (by first | decide | exact Nat.le_refl _ | (first | lia | omega))) hr rfl (pa_cons (pv 1) (pa_cons pe_int pa_nil))) (fun _ _ => rfl)))) pa_nil))))) pss_nil)
    (pss_cons (ps_par (i := 5) (j := 6) rfl sc_law_book.nd rfl rfl (by decide) rfl rfl (pa_cons (pe_ix (ixK K) (pv 4) (pe_fn (f_law_take.mono (by first | decide | exact Nat.le_refl _ | (first | lia | omega))) hr rfl (pa_cons (pv 0) (pa_cons (pe_callB (lenK K) rfl T.n_len (by rfl) (pa_cons (pv 4) pa_nil)) pa_nil))) (fun _ _ => rfl)) (pa_cons (pe_ix (ixK K) (pv 4) (pe_fn (f_law_take.mono (by first | decide | exact Nat.le_refl _ | (first | lia | omega))) hr rfl (pa_cons (pv 0) (pa_cons (pe_callB (lenK K) rfl T.n_len (by rfl) (pa_cons (pv 4) pa_nil)) pa_nil))) (fun _ _ => rfl)) pa_nil)) rfl)
    (pss_cons (ps_set (i := 7) sc_law_book.nd rfl (Or.inl rfl) (pe_fn (f_law_take.mono (by first | decide | exact Nat.le_refl _ | (first | lia | omega))) hr rfl (pa_cons (pv 0) (pa_cons (pe_op addN (pe_callB (lenK K) rfl T.n_len (by rfl) (pa_cons (pv 4) pa_nil)) pe_int) pa_nil))))
    (pss_cons (ps_if (pt_cmpR (eqK K hu6) (pv 1) pe_int (nomark _)) (pss_one (ps_setcomp (i := 4) sc_law_book.nd rfl (Or.inl rfl) rfl (comp_ok (Nc := ["_law_code"]) (Fc := []) (js := [])) (piK K (pv 4)) (gk_name (i := 0) (n := 1) (by decide)) (fun _ _ _ _ _ => (pg_name (i := 0) (show (["_law_code"] : List Str).Nodup by decide +kernel) rfl (Or.inl rfl))) (fun _ _ _ _ _ => pts_nil) (fun _ _ _ _ _ => (pe_revT (pv 0))))) pss_nil)
    (pss_cons (ps_if (pt_cmpR (eqK K hu6) (pv 1) pe_int (nomark _)) (pss_one (ps_expr (bmK K PySem.F.plainAttrs_list PySem.F.slot_list_insert PySem.F.type_list_insert insertN (pv 4) (pa_cons (pv 7) (pa_cons (pe_slice (slN K) (pe_op addN (pv 5) (pv 6)) po_none (po_some pe_int)) pa_nil))))) pss_nil)
    (pss_cons (ps_if (pt_cmpR (eqK K hu6) (pv 1) pe_int (nomark _)) (pss_one (ps_expr (bmK K PySem.F.plainAttrs_list PySem.F.slot_list_insert PySem.F.type_list_insert insertN (pv 4) (pa_cons (pv 7) (pa_cons (pv 5) pa_nil))))) pss_nil)
    (pss_cons (ps_if (pt_cmpR (eqK K hu6) (pv 1) pe_int (nomark _)) (pss_one (ps_expr (bmK K PySem.F.plainAttrs_list PySem.F.slot_list_insert PySem.F.type_list_insert insertN (pv 4) (pa_cons (pv 7) (pa_cons (pe_slice (slN K) (pe_op addN (pv 5) (pe_slice (slN K) (pv 6) po_none (po_some (pe_op addN pe_int (pe_fn (f_law_take.mono (by first | decide | exact Nat.le_refl _ | (first | lia | omega))) hr rfl (pa_cons (pv 0) (pa_cons (pe_callB (lenK K) rfl T.n_len (by rfl) (pa_cons (pv 6) pa_nil)) pa_nil))))))) po_none (po_some pe_int)) pa_nil))))) pss_nil)
    (pss_one (ps_ret (pe_listzip rfl rfl T.n_list rfl T.n_zip (pa_cons (pe_fn (f_law_names.mono (by first | decide | exact Nat.le_refl _ | (first | lia | omega))) hr rfl (pa_cons (pv 0) (pa_cons (pe_callB (lenK K) rfl T.n_len (by rfl) (pa_cons (pv 4) pa_nil)) pa_nil))) (pa_cons (pv 4) pa_nil))))))))))))))), ?_⟩
  refine ⟨_, rfl, b, c, t, 6, rfl, bx, by (first | lia | omega), by (first | lia | omega), by decide, by decide, fun way H1 w0 w1 st1 => gn ?_⟩
  refine ⟨_, rfl, b, c, _, rfl, st1.bx, by (first | lia | omega), by (first | lia | omega), fun m o tp H2 t2 m0 m1 o0 o1 st2 htp => ⟨tp, _, rfl, SqT.of htp, rfl, _, _, rfl, _, _, rfl, rfl, ?_⟩⟩
  have st2 := st1.trans st2
  have ub2 := st2.ub
  have lo2 := st2.le
  refine ⟨_, rfl, _, rfl, _, rfl, b, c, t2, m, o, rfl, st2.bx, by (first | lia | omega), by (first | lia | omega), m0, m1, o0, o1, fun cs l H3 t3 ne le fr cd st3 hl hl3 => gn ?_⟩
  obtain ⟨lb, lc⟩ := st2.bx.ne_new hl
  have hl0 : H l = none := st2.fresh bx hl
  have st3 := st2.trans st3
  have cd8 : ∀ x ∈ cs, CodeOk 8 x := fun x hx => (cd x hx).mono (by (first | lia | omega))
  dsimp only
  refine seqCut (t := tIfS _ _ _) (fun σ H' => ∃ (cs : List Str) (l : Addr) (t' : Int), σ = [some (.ref b), some (.int way), some (.int m), some (.int o), some (.ref l), none, none, none] ∧ H l = none ∧ l ≠ b ∧ l ≠ c ∧ cs ≠ [] ∧ cs.length ≤ 8 ∧ (∀ x ∈ cs, CodeOk 8 x) ∧ Step b c H H' t t' 200 ∧ H' l = some (.lst (cs.map V.str))) (fun Nx nx => ?_) ?_
  · refine ⟨_, rfl, .inl ⟨rfl, _, rfl, ite2 (fun _ => ?_) (fun _ => nx _ _ ⟨cs, l, t3, rfl, hl0, lb, lc, ne, by (first | lia | omega), cd8, st3.more (by (first | lia | omega)), hl3⟩)⟩⟩
    have atc : ∀ {k : Nat} (hk : k < cs.length), (cs.map V.str)[k]? = some (.str cs[k]) := fun hk => by rw [List.getElem?_map, List.getElem?_eq_getElem hk]; rfl
    have ub3 := st3.ub
    have lo3 := st3.le
    refine ⟨_, rfl, l, rfl, ⟨_, SqL.of hl3⟩, ?_⟩
    refine comp_go (N := cs.length) (fun k ys H' => ∃ (zs : List Str) (t' : Int), ys = zs.map V.str ∧ zs.length = k ∧ (∀ x ∈ zs, CodeOk 8 x) ∧ Step b c H H' t t' (44 + 10 * k) ∧ H' l = some (.lst (cs.map V.str))) ⟨[], t3, rfl, rfl, (fun _ h => nomatch h), st3.more (by (first | lia | omega)), hl3⟩ ?_ ?_
    · rintro k ys H4 Ny hk ⟨zs, t4, rfl, zl, zok, st4, hl4⟩ ny
      have ub4 := st4.ub
      have lo4 := st4.le
      refine ⟨⟨_, _, SqL.of hl4, atc hk⟩, small (by rw [List.length_map]; (first | lia | omega)), ?_⟩
      rintro x H5 ⟨rfl, hy⟩
      have e := hy _ (SqL.of hl4)
      rw [atc hk] at e; cases e
      refine gn ⟨rfl, _, rfl, _, rfl, b, c, t4, o, rfl, st4.bx, by (first | lia | omega), by (first | lia | omega), by (first | lia | omega), by (first | lia | omega), fun r H6 r0 r1 st6 => .inl ⟨_, _, rfl, rfl, 1 + r, rfl, by (first | lia | omega), by (first | lia | omega), ?_⟩⟩
      refine comp_go (N := (1 + r).toNat) (fun k2 ys H' => ∃ (us : List Str) (t' : Int), ys = us.map V.str ∧ us.length = k2 ∧ (∀ x ∈ us, ∃ ch : Nat, x = ⟨#[ch]⟩ ∧ (ch = 48 ∨ ch = 49)) ∧ Step b c H H' t t' (44 + 10 * k + 1 + k2) ∧ H' l = some (.lst (cs.map V.str))) ⟨[], _, rfl, rfl, (fun _ h => nomatch h), (st4.trans st6).more (by (first | lia | omega)), st6.old hl4 lb lc⟩ ?_ ?_
      · rintro k2 ys H7 Nz hk2 ⟨us, t7, rfl, ul, uok, st7, hl7⟩ nz
        have ub7 := st7.ub
        have lo7 := st7.le
        refine ⟨hk2, small (by rw [List.length_map]; (first | lia | omega)), ?_⟩
        rintro x H8 ⟨rfl, rfl⟩
        refine gn ⟨_, rfl, b, c, t7, 2, rfl, st7.bx, by (first | lia | omega), by (first | lia | omega), by decide, by decide, fun d H9 d0 d1 st9 => ?_⟩
        obtain ⟨ch, hch, hb⟩ := bit01 d0 d1
        refine .inr (.inr ⟨_, d, _, rfl, rfl, by decide +kernel, hch, nz _ _ ⟨us ++ [⟨#[ch]⟩], _, by rw [List.map_append]; rfl, by rw [List.length_append, ul]; rfl, fun x hx => ?_, (st7.trans st9).more (by (first | lia | omega)), st9.old hl7 lb lc⟩⟩)
        rcases List.mem_append.mp hx with h | h
        · exact uok x h
        · exact ⟨ch, List.mem_singleton.mp h, hb⟩
      · rintro ys H7 ⟨us, t7, rfl, ul, uok, st7, hl7⟩
        obtain ⟨jb, jl⟩ := ones_bin uok
        refine ⟨Nat.le_refl _, fun p hp => ⟨_, p, us, rfl, rfl, SqL.of upd_same, ?_, ?_⟩⟩
        · rw [(ones_len fun x hx => by obtain ⟨k, e, _⟩ := uok x hx; exact ⟨k, e⟩).2]
          show us.length + us.length * 0 ≤ 16777216
          (first | lia | omega)
        · have hn : New H7 p (.lst (us.map V.str)) (upd H7 p (.lst (us.map V.str))) := ⟨hp, rfl⟩
          generalize upd H7 p (.lst (us.map V.str)) = H8 at hn ⊢
          refine ny _ _ ⟨zs ++ [Txt.join "" us], t7, by rw [List.map_append]; rfl, by rw [List.length_append, zl]; rfl, fun x hx => ?_, (st7.newN hn).more (by (first | lia | omega)), hn.same _ _ hl7⟩
          rcases List.mem_append.mp hx with h | h
          · exact zok x h
          · rw [List.mem_singleton.mp h]
            exact ⟨jb, by (first | lia | omega), by (first | lia | omega)⟩
    · rintro ys H4 ⟨zs, t4, rfl, zl, zok, st4, hl4⟩
      refine ⟨⟨_, SqL.of hl4, by rw [List.length_map]; exact Nat.le_refl _⟩, fun p hp => ?_⟩
      obtain ⟨H5, n5⟩ : ∃ H5, New H4 p (.lst (zs.map V.str)) H5 := ⟨_, hp, rfl⟩
      rw [← n5.eq]
      obtain ⟨pb, pc⟩ := st4.bx.ne_new n5.nn
      refine nx _ _ ⟨zs, p, t4, rfl, st4.fresh bx n5.nn, pb, pc, fun z => ne ?_, by (first | lia | omega), zok, (st4.newN n5).more (by (first | lia | omega)), n5.at⟩
      exact List.eq_nil_of_length_eq_zero (by rw [← zl, z]; rfl)
  clear ne le fr cd cd8 hl3 lb lc hl hl0
  rintro σ H4 ⟨cs, l, t4, rfl, hl0, lb, lc, ne, le, cd, st4, hl4⟩
  have ub4 := st4.ub
  have lo4 := st4.le
  have len : (cs.map V.str).length = cs.length := List.length_map _
  have pos : 0 < cs.length := List.length_pos_iff.mpr ne
  have pick : ∀ {r : Int}, 0 ≤ r → r < cs.length → ∃ x, x ∈ cs ∧ atI (cs.map V.str) r = some (.str x) := fun {r} r0 r1 => by
    have h : r.toNat < cs.length := by (first | lia | omega)
    exact ⟨_, List.getElem_mem h, at_nat r0 (by rw [List.getElem?_map, List.getElem?_eq_getElem h]; rfl)⟩
  refine ⟨_, rfl, _, rfl, _, rfl, _, _, rfl, .inl ⟨_, SqL.of hl4, rfl⟩, b, c, _, _, rfl, st4.bx, by (first | lia | omega), by (first | lia | omega), by (first | lia | omega), by (first | lia | omega), fun r5 H5 r50 r51 st5 => ?_⟩
  obtain ⟨x5, m5, a5⟩ := pick r50 (by (first | lia | omega))
  have hl5 := st5.old hl4 lb lc
  have st5 := st4.trans st5
  refine .inl ⟨l, _, _, _, rfl, rfl, SqL.of hl5, a5, ?_⟩
  refine ⟨_, rfl, _, rfl, _, rfl, _, _, rfl, .inl ⟨_, SqL.of hl5, rfl⟩, b, c, _, _, rfl, st5.bx, by (first | lia | omega), by (first | lia | omega), by (first | lia | omega), by (first | lia | omega), fun r6 H6 r60 r61 st6 => ?_⟩
  obtain ⟨x6, m6, a6⟩ := pick r60 (by (first | lia | omega))
  have hl6 := st6.old hl5 lb lc
  have st6 := st5.trans st6
  refine .inl ⟨l, _, _, _, rfl, rfl, SqL.of hl6, a6, ?_⟩
  refine ⟨_, _, rfl, ?_⟩
  refine ⟨_, rfl, _, rfl, _, _, rfl, .inl ⟨_, SqL.of hl6, rfl⟩, .inl ⟨_, _, rfl, rfl, b, c, _, _, rfl, st6.bx, by (first | lia | omega), by (first | lia | omega), by (first | lia | omega), by (first | lia | omega), fun at' H7 a0 a1 st7 => gn ?_⟩⟩
  have hl7 := st7.old hl6 lb lc
  have st7 := st6.trans st7
  have c5 := cd x5 m5
  have c6 := cd x6 m6
  dsimp only
  refine seqCut (t := tIfS _ _ _) (BkI H b c t way m o at' x5 x6 8) (fun Nx nx => ?_) ?_
  · refine ⟨_, rfl, .inl ⟨rfl, _, rfl, ite2 (fun _ => ?_) (fun _ => nx _ _ ⟨cs, l, _, rfl, hl0, lb, lc, ne, by (first | lia | omega), le, fun x hx => (cd x hx).mono (by decide), st7.more (by (first | lia | omega)), hl7⟩)⟩⟩
    have atc : ∀ {k : Nat} (hk : k < cs.length), (cs.map V.str)[k]? = some (.str cs[k]) := fun hk => by rw [List.getElem?_map, List.getElem?_eq_getElem hk]; rfl
    refine ⟨_, rfl, l, rfl, ⟨_, SqL.of hl7⟩, ?_⟩
    refine comp_go (N := cs.length) (fun k ys H' => H' = H7 ∧ ∃ zs : List Str, ys = zs.map V.str ∧ zs.length = k ∧ ∀ x ∈ zs, CodeOk 12 x) ⟨rfl, [], rfl, rfl, (fun _ h => nomatch h)⟩ ?_ ?_
    · rintro k ys H8 Ny hk ⟨rfl, zs, rfl, zl, zok⟩ ny
      refine ⟨⟨_, _, SqL.of hl7, atc hk⟩, small (by rw [List.length_map]; (first | lia | omega)), ?_⟩
      rintro x H9 ⟨rfl, hy⟩
      have e := hy _ (SqL.of hl7)
      rw [atc hk] at e; cases e
      have ck := cd _ (List.getElem_mem hk)
      generalize cs[k] = z at ck
      have := ck.le
      refine gn ⟨_, rfl, z, rfl, sizeOk (by (first | lia | omega)), fun y hy' => ny _ _ ⟨rfl, zs ++ [y], by rw [List.map_append]; rfl, by rw [List.length_append, zl]; rfl, fun x hx => ?_⟩⟩
      rcases List.mem_append.mp hx with h | h
      · exact zok x h
      · rw [List.mem_singleton.mp h]
        exact rev_code (ck.mono (by decide)) hy'
    · rintro ys H8 ⟨rfl, zs, rfl, zl, zok⟩
      refine ⟨⟨_, SqL.of hl7, by rw [List.length_map]; exact Nat.le_refl _⟩, fun p hp => ?_⟩
      obtain ⟨H9, n9⟩ : ∃ H9, New H8 p (.lst (zs.map V.str)) H9 := ⟨_, hp, rfl⟩
      rw [← n9.eq]
      obtain ⟨pb, pc⟩ := st7.bx.ne_new n9.nn
      refine nx _ _ ⟨zs, p, _, rfl, st7.fresh bx n9.nn, pb, pc, fun z => ?_, by (first | lia | omega), by (first | lia | omega), zok, (st7.newN n9).more (by (first | lia | omega)), n9.at⟩
      rw [z] at zl
      exact absurd zl.symm (by show ¬ cs.length = 0; (first | lia | omega))
  rintro σ H8 i8
  refine seqCut (t := tIfS _ _ _) (BkI H b c t way m o at' x5 x6 9) (fun Nx nx => ?_) ?_
  · obtain ⟨cs, l, t8, rfl, hl0, lb, lc, ne, ha, le, cd, st8, hl8⟩ := id i8
    refine ⟨_, rfl, .inl ⟨rfl, _, rfl, ite2 (fun _ => ?_) (fun _ => nx _ _ i8.more)⟩⟩
    refine ⟨_, rfl, .inl ⟨rfl, _, SqL.of hl8⟩, _, rfl, _, rfl, _, rfl, .inr (.inl ⟨_, _, rfl, rfl, sizeOk (by have := c5.le; have := c6.le; (first | lia | omega)), _, rfl, .inr ⟨_, rfl, sizeOk (by rw [len_append]; have := c5.le; have := c6.le; (first | lia | omega)), l, _, at', _, rfl, rfl, hl8, a0, by rw [List.length_map]; exact ha, small (by rw [List.length_map]; (first | lia | omega)), fun H9 c9 => nx _ _ ?_⟩⟩)⟩
    exact BkI.ins hl0 lb lc a0 ha le cd (cut_code (c5.bin.app c6.bin) (by rw [len_append]; have := c5.pos; (first | lia | omega)) 12 (by decide) _ rfl) (st8.more (by (first | lia | omega))) c9
  clear i8
  rintro σ H8 i8
  refine seqCut (t := tIfS _ _ _) (BkI H b c t way m o at' x5 x6 10) (fun Nx nx => ?_) ?_
  · obtain ⟨cs, l, t8, rfl, hl0, lb, lc, ne, ha, le, cd, st8, hl8⟩ := id i8
    refine ⟨_, rfl, .inl ⟨rfl, _, rfl, ite2 (fun _ => ?_) (fun _ => nx _ _ i8.more)⟩⟩
    refine ⟨_, rfl, .inl ⟨rfl, _, SqL.of hl8⟩, _, rfl, _, rfl, l, _, at', _, rfl, rfl, hl8, a0, by rw [List.length_map]; exact ha, small (by rw [List.length_map]; (first | lia | omega)), fun H9 c9 => nx _ _ ?_⟩
    exact BkI.ins hl0 lb lc a0 ha le cd (c5.mono (by decide)) (st8.more (by (first | lia | omega))) c9
  clear i8
  rintro σ H8 i8
  refine seqCut (t := tIfS _ _ _) (BkI H b c t way m o at' x5 x6 11) (fun Nx nx => ?_) ?_
  · obtain ⟨cs, l, t8, rfl, hl0, lb, lc, ne, ha, le, cd, st8, hl8⟩ := id i8
    refine ⟨_, rfl, .inl ⟨rfl, _, rfl, ite2 (fun _ => ?_) (fun _ => nx _ _ i8.more)⟩⟩
    have k5 := c5.le
    have k6 := c6.le
    have p5 := c5.pos
    have p6 := c6.pos
    have ub8 := st8.ub
    have lo8 := st8.le
    refine ⟨_, rfl, .inl ⟨rfl, _, SqL.of hl8⟩, _, rfl, _, rfl, _, rfl, _, rfl, _, rfl, _, _, rfl, ⟨sizeOk (by (first | lia | omega)), rfl⟩, b, c, _, _, rfl, st8.bx, by (first | lia | omega), by (first | lia | omega), by (first | lia | omega), by (first | lia | omega), fun r H9 r0 r1 st9 => ?_⟩
    have hl9 := st8.trans st9
    have hl9' := st9.old hl8 lb lc
    refine .inl ⟨_, _, rfl, rfl, _, rfl, .inr ⟨_, rfl, sizeOk (by (first | lia | omega)), ?_⟩⟩
    obtain ⟨k, hk⟩ : ∃ k : Nat, 1 + r = (k : Int) := ⟨(1 + r).toNat, by (first | lia | omega)⟩
    have cp := cut_code c6.bin p6 k (by (first | lia | omega)) (1 + r) hk
    generalize Txt.slice x6 none (some (1 + r)) = y at cp
    have ky := cp.le
    refine .inr (.inl ⟨_, _, rfl, rfl, sizeOk (by (first | lia | omega)), _, rfl, .inr ⟨_, rfl, sizeOk (by rw [len_append]; (first | lia | omega)), l, _, at', _, rfl, rfl, hl9', a0, by rw [List.length_map]; exact ha, small (by rw [List.length_map]; (first | lia | omega)), fun H10 c10 => nx _ _ ?_⟩⟩)
    exact BkI.ins hl0 lb lc a0 ha le cd (cut_code (c5.bin.app cp.bin) (by rw [len_append]; (first | lia | omega)) 12 (by decide) _ rfl) (hl9.more (by (first | lia | omega))) c10
  clear i8
  rintro σ H8 ⟨cs, l, t8, rfl, hl0, lb, lc, ne, ha, le, cd, st8, hl8⟩
  have ub8 := st8.ub
  have lo8 := st8.le
  have len8 : (cs.map V.str).length = cs.length := List.length_map _
  refine ⟨_, rfl, _, rfl, _, _, rfl, .inl ⟨_, SqL.of hl8, rfl⟩, b, c, t8, _, rfl, st8.bx, by (first | lia | omega), by (first | lia | omega), by (first | lia | omega), by (first | lia | omega), fun xs nl H9 t9 xl nd ln st9 hnl hn9 => ?_⟩
  have hl9 := st9.old hl8 lb lc
  have st9 := st8.trans st9
  rw [len8] at xl
  refine ⟨_, rfl, nl, l, _, _, rfl, SqL.of hn9, SqL.of hl9, fun H7 p as sm hp hp7 hal hpairs => ?_⟩
  have xl' : xs.length = cs.length := by (first | lia | omega)
  refine q (xs.zip cs) (.ref p) H7 t9 ?_ (fun z => ne ?_) (book_zip st9.bx hp hp7 xl' hal hpairs) ((st9.trans (Step.same st9.bx sm)).more (by (first | lia | omega)))
  · have h1 : (xs.zip cs).map (·.1) = xs := List.map_fst_zip (by (first | lia | omega))
    exact ⟨by rw [List.length_zip]; (first | lia | omega), by rw [h1]; exact nd, fun z hz => cd _ (List.of_mem_zip (a := z.1) (b := z.2) hz).2, fun z hz => (ln _ (List.of_mem_zip (a := z.1) (b := z.2) hz).1).1, fun z hz => (ln _ (List.of_mem_zip (a := z.1) (b := z.2) hz).1).2⟩
  · have h2 : (xs.zip cs).map (·.2) = cs := List.map_snd_zip (by (first | lia | omega))
    rw [← h2, z]; rfl
end
end Z

set_option Elab.async false
set_option linter.all false
set_option maxRecDepth 100000
set_option maxHeartbeats 4000000
namespace Z
open PySem L2 PyProof.Rows
/-- more than one reading of a text -/
noncomputable def spCt : Sp := fun vs H Q _ => ∃ (p : Addr) (x : Str) (B : List (Str × Str)), vs = [.ref p, .str x] ∧ H p = some (.lst ((B.map (·.2)).map V.str)) ∧ GoodN B ∧ x.length ≤ 100 ∧ ∀ (c : Int) (H' : Hp), (c > 1 ↔ Amb B x) → Same H H' → Q (.int c) H'
noncomputable def wv (L : Nat → List (List (Str × Str))) (n : Nat) : List V := (List.range (n + 1)).map fun q => V.int ((L q).length : Nat)
section
variable {L : Nat → List (List (Str × Str))} {n p q e : Nat}
theorem wv_len : (wv L n).length = n + 1 := by unfold wv; rw [List.length_map, List.length_range]
theorem wv_at (h : q ≤ n) : (wv L n)[q]? = some (.int ((L q).length : Nat)) := by
  unfold wv
  rw [List.getElem?_map, List.getElem?_range (by (first | lia | omega))]; rfl
theorem wv_set {g : List (Str × Str) → List (Str × Str)} : (wv L n).set e (.int (((L e).length : Nat) + ((L p).length : Nat))) = wv (fun q => if q = e then L q ++ (L p).map g else L q) n := by
  refine List.ext_getElem? fun j => ?_
  rw [List.getElem?_set, wv_len]
  by_cases hj : j ≤ n
  · rw [wv_at hj]
    by_cases z : e = j
    · subst z
      rw [if_pos rfl, if_pos (by (first | lia | omega)), wv_at hj]
      rw [if_pos rfl, List.length_append, List.length_map]
      rfl
    · rw [if_neg z, wv_at hj]
      rw [if_neg (Ne.symm z)]
  · have h1 : (wv (fun q => if q = e then L q ++ (L p).map g else L q) n)[j]? = none := List.getElem?_eq_none (by rw [wv_len]; (first | lia | omega))
    have h2 : (wv L n)[j]? = none := List.getElem?_eq_none (by rw [wv_len]; (first | lia | omega))
    rw [h1, h2]
    by_cases z : e = j
    · rw [if_pos z, if_neg (by (first | lia | omega))]
    · rw [if_neg z]
theorem wv_zero : [V.int 1] ++ (List.replicate n [V.int 0]).flatten = wv (fun q => if q = 0 then [[]] else []) n := by
  have h : ∀ n : Nat, (List.replicate n [V.int 0]).flatten = List.replicate n (V.int 0) := fun n => by
    induction n with
    | zero => rfl
    | succ n ih => rw [List.replicate_succ, List.flatten_cons, ih, List.replicate_succ]; rfl
  rw [h]
  refine List.ext_getElem? fun j => ?_
  cases j with
  | zero => rw [wv_at (Nat.zero_le _)]; rfl
  | succ j =>
    rw [List.singleton_append, List.getElem?_cons_succ, List.getElem?_replicate]
    by_cases hj : j < n
    · rw [if_pos hj, wv_at (by (first | lia | omega))]; rfl
    · rw [if_neg hj, List.getElem?_eq_none (by rw [wv_len]; (first | lia | omega))]
end
section
variable {P : Program} {w : World} {K : PySem.W.Frag} {mg : Str → Option Value} {base : Heap} {f : Addr} {fd : FuncData}
theorem sc_law_counts : FnScope ["_law_codes", "_law_text", "_law_ways", "_law_place", "_law_code", "_law_end"] ["_law_codes", "_law_text"] (defScope (top i_law_counts)) := ⟨rfl, rfl, rfl, by decide +kernel, rfl, by decide +kernel, by decide +kernel⟩
theorem ok_ct (F : Fun K "_law_counts" "_law_counts" (top i_law_counts) f fd) (T : Nm mg) : FnOk P w K mg base CX0 1 f fd ["_law_codes", "_law_text"] spCt := by
  refine F.ok sc_law_counts (fun vs H Q E h => ?_) (fun cdv A outer s H vs Q E hr h => ?_)
  · obtain ⟨p, x, B, rfl, _⟩ := h
    rfl
  obtain ⟨p, x, B, rfl, hp, gB, hx, qk⟩ := h
  have hu6 := hr.units
  refine ⟨_, (pss_cons (ps_set (i := 2) sc_law_counts.nd rfl (Or.inl rfl) (pe_op addN (lstN (pa_cons pe_int pa_nil)) (pe_op mulN (lstN (pa_cons pe_int pa_nil)) (pe_callB (lenK K) rfl T.n_len (by rfl) (pa_cons (pv 1) pa_nil)))))
    (pss_cons (ps_for PassesOwn.never rfl (pi_range1 rfl T.n_range (pa_cons (pe_callB (lenK K) rfl T.n_len (by rfl) (pa_cons (pv 1) pa_nil)) pa_nil)) (pg_name (i := 3) sc_law_counts.nd rfl (Or.inl rfl)) (pss_one (ps_for PassesOwn.never rfl (piK K (pv 0)) (pg_name (i := 4) sc_law_counts.nd rfl (Or.inl rfl)) (pss_cons (ps_set (i := 5) sc_law_counts.nd rfl (Or.inl rfl) (pe_op addN (pv 3) (pe_callB (lenK K) rfl T.n_len (by rfl) (pa_cons (pv 4) pa_nil))))
    (pss_one (ps_if (pt_cmpR (eqK K hu6) (pe_slice (slN K) (pv 1) (po_some (pv 3)) (po_some (pv 5))) (pv 4) (nomark _)) (pss_one (ps_asg (pe_op addN (pe_ix (ixK K) (pv 2) (pv 5) (fun _ _ => rfl)) (pe_ix (ixK K) (pv 2) (pv 3) (fun _ _ => rfl))) (pg_sub (pv 2) (pv 5) set_list))) pss_nil))))))
    (pss_one (ps_ret (pe_ix (ixK K) (pv 2) (pe_un un_neg pe_int) (fun _ _ => rfl)))))), ?_⟩
  have hle := gB.le
  have nd := gB.nodup
  have cat : ∀ {i : Nat} (hi : i < B.length), ((B.map (·.2)).map V.str)[i]? = some (.str B[i].2) := fun hi => by rw [List.getElem?_map, List.getElem?_map, List.getElem?_eq_getElem hi]; rfl
  have clen : ((B.map (·.2)).map V.str).length = B.length := by rw [List.length_map, List.length_map]
  have hxs : x.length = (sg x).length := str_len x
  refine ⟨by show 1 ≤ sizeLine; decide, fun a1 H1 n1 => ⟨by show 1 ≤ sizeLine; decide, fun a2 H2 n2 => ⟨_, rfl, _, _, rfl, ⟨sizeOk (by (first | lia | omega)), rfl⟩, .inr ⟨a2, _, _, rfl, rfl, n2.at, by (first | lia | omega), by (first | lia | omega), by rw [Int.toNat_natCast]; exact sizeOk (by show 1 * x.length ≤ _; (first | lia | omega)), fun a3 H3 n3 => ?_⟩⟩⟩⟩
  rw [Int.toNat_natCast] at n3
  refine .inr (.inr ⟨a1, a3, _, _, rfl, rfl, n3.same _ _ (n2.same _ _ n1.at), n3.at, ?_, fun a4 H4 n4 => gn ?_⟩)
  · have e : (List.replicate x.length [V.int 0]).flatten.length = x.length := by
      have := congrArg List.length (wv_zero (n := x.length))
      rw [List.length_append, wv_len] at this
      change 1 + _ = _ at this
      (first | lia | omega)
    rw [e]
    exact sizeOk (by show 1 + x.length ≤ _; (first | lia | omega))
  rw [wv_zero] at n4
  have s4 : Same H H4 := n1.same.trans (n2.same.trans (n3.same.trans n4.same))
  have h40 : H a4 = none := n1.back (n2.back (n3.back n4.nn))
  dsimp only
  refine seqCut (t := tFor _ _ _) (fun σ H' => ∃ x3 x4 x5 L, σ = [some (.ref p), some (.str x), some (.ref a4), x3, x4, x5] ∧ Same H H' ∧ H' a4 = some (.lst (wv L x.length)) ∧ Cts B (sg x) (sg x).length 0 L) (fun Nn nx => ?_) ?_
  · refine ⟨_, rfl, _, _, rfl, ⟨sizeOk (by (first | lia | omega)), rfl⟩, (x.length : Nat), rfl, by (first | lia | omega), by (first | lia | omega), ?_⟩
    refine for_range (lo := 0) (n := x.length) (fun i σ H' => ∃ x3 x4 x5 L, σ = [some (.ref p), some (.str x), some (.ref a4), x3, x4, x5] ∧ Same H H' ∧ H' a4 = some (.lst (wv L x.length)) ∧ Cts B (sg x) i 0 L) ⟨_, _, _, _, rfl, s4, n4.at, Cts.zero gB.cd⟩ ?_ ?_
    · rintro i σ H5 hi ⟨x3, x4, x5, L, rfl, sm5, h5, ct5⟩
      refine ⟨_, rfl, p, rfl, ⟨_, SqL.of (sm5 _ _ hp)⟩, ?_⟩
      refine for_go (N := B.length) (fun k σ H' => ∃ x4 x5 L, σ = [some (.ref p), some (.str x), some (.ref a4), some (.int (0 + i)), x4, x5] ∧ Same H H' ∧ H' a4 = some (.lst (wv L x.length)) ∧ Cts B (sg x) i k L) ⟨_, _, L, rfl, sm5, h5, ct5⟩ ?_ ?_
      · rintro k σ H6 hk ⟨x4, x5, L, rfl, sm6, h6, ct6⟩
        refine ⟨⟨_, _, SqL.of (sm6 _ _ hp), cat hk⟩, ?_⟩
        rintro y H7 ⟨rfl, hy⟩
        have e := hy _ (SqL.of (sm6 _ _ hp))
        rw [cat hk] at e; cases e
        have hc := (gB.cd _ (List.getElem_mem hk)).le
        have hcs : B[k].2.length = (sg B[k].2).length := str_len _
        refine gn ⟨_, rfl, _, rfl, _, _, rfl, ⟨sizeOk (by (first | lia | omega)), rfl⟩, .inl ⟨_, _, rfl, rfl, gn ?_⟩⟩
        have esl : sg (Txt.slice x (some (0 + (i : Int))) (some (0 + (i : Int) + (B[k].2.length : Nat)))) = ((sg x).drop i).take (sg B[k].2).length := by
          have := sl_mid (x := x) (p := i) (q := i + B[k].2.length) (by (first | lia | omega)) (by (first | lia | omega))
          rw [Nat.add_sub_cancel_left, hcs] at this
          rw [show (0 + (i : Int)) = (i : Int) by (first | lia | omega), show ((i : Int) + (B[k].2.length : Nat)) = ((i + B[k].2.length : Nat) : Int) by (first | lia | omega), hcs]
          exact this
        refine ⟨_, rfl, _, rfl, _, rfl, _, rfl, _, rfl, .inr ⟨x, rfl, sizeOk (by (first | lia | omega)), _, rfl, .inl ⟨rfl, _, rfl, ite2 (fun c => ?_) (fun c => ?_)⟩⟩⟩
        · have c : Txt.slice x (some (0 + (i : Int))) (some (0 + (i : Int) + (B[k].2.length : Nat))) = B[k].2 := by
            have := of_decide_eq_true c
            injection this
          have yes := esl.symm.trans (congrArg (fun z : Str => sg z) c)
          have hend : i + (sg B[k].2).length ≤ (sg x).length := by
            have := congrArg List.length yes
            rw [List.length_take, List.length_drop] at this
            (first | lia | omega)
          refine ⟨_, rfl, _, rfl, .inl ⟨a4, _, _, _, rfl, rfl, SqL.of h6, at_nat (by (first | lia | omega)) (wv_at (q := (0 + (i : Int) + (B[k].2.length : Nat)).toNat) (by (first | lia | omega))), _, rfl, _, rfl, .inl ⟨a4, _, _, _, rfl, rfl, SqL.of h6, at_nat (by (first | lia | omega)) (wv_at (q := (0 + (i : Int)).toNat) (by (first | lia | omega))), .inl ⟨_, _, rfl, rfl, _, rfl, _, rfl, a4, _, _, i + (sg B[k].2).length, rfl, rfl, h6, ?_, ?_⟩⟩⟩⟩
          · unfold ixN
            rw [wv_len, if_pos (by (first | lia | omega)), if_pos (by (first | lia | omega))]
            congr 1
            (first | lia | omega)
          · rw [show (0 + (i : Int) + (B[k].2.length : Nat)).toNat = i + (sg B[k].2).length by (first | lia | omega), show (0 + (i : Int)).toNat = i by (first | lia | omega)]
            rw [wv_set (g := (· ++ [B[k]]))]
            exact ⟨_, _, _, rfl, fun b o e => by rw [upd_ne (ne_of_none e h40)]; exact sm6 b o e, upd_same, ct6.take nd gB.cd hk (by (first | lia | omega)) yes⟩
        · refine ⟨_, _, L, rfl, sm6, h6, ct6.skip hk fun z => c ?_⟩
          exact decide_eq_true (congrArg V.str (str_eq (esl.trans z)))
      · rintro σ H6 ⟨x4, x5, L, rfl, sm6, h6, ct6⟩
        exact ⟨⟨_, SqL.of (sm6 _ _ hp), by (first | lia | omega)⟩, _, _, _, L, rfl, sm6, h6, ct6.next⟩
    · rintro σ H5 ⟨x3, x4, x5, L, rfl, sm5, h5, ct5⟩
      exact nx _ _ ⟨_, _, _, L, rfl, sm5, h5, hxs ▸ ct5⟩
  rintro σ H5 ⟨x3, x4, x5, L, rfl, sm5, h5, ct5⟩
  refine ⟨_, rfl, 1, rfl, .inl ⟨a4, _, _, .int ((L x.length).length : Nat), rfl, rfl, SqL.of h5, ?_, qk _ H5 ?_ sm5⟩⟩
  · unfold atI ixN
    rw [wv_len, if_neg (by decide), if_pos (by (first | lia | omega))]
    show (wv L x.length)[_]? = _
    rw [show (-1 + ((x.length + 1 : Nat) : Int)).toNat = x.length by (first | lia | omega)]
    exact wv_at (Nat.le_refl _)
  · have := ct5.amb gB.cd x
    rw [← hxs] at this
    rw [← this]
    (first | lia | omega)
end
end Z

set_option Elab.async false
set_option linter.all false
set_option maxRecDepth 100000
set_option maxHeartbeats 4000000
namespace Z
open PySem L2 PyProof.Rows
/-! all texts, the shorter ahead (k18) -/
noncomputable def two (t : Str) : List Str := [t ++ "0", t ++ "1"]
noncomputable def allT : Nat → List Str
  | 0 => [""]
  | n + 1 => (allT n).flatMap two
theorem sg0 : sg ("0" : Str) = [48] := by decide +kernel
theorem sg1' : sg ("1" : Str) = [49] := by decide +kernel
theorem sgE : sg ("" : Str) = [] := by decide +kernel
theorem allT_len : ∀ n, (allT n).length = 2 ^ n
  | 0 => rfl
  | n + 1 => by
    have h : ∀ l : List Str, (l.flatMap two).length = 2 * l.length := fun l => by
      induction l with
      | nil => rfl
      | cons a l ih => rw [List.flatMap_cons, List.length_append, ih, List.length_cons]; show 2 + _ = _; (first | lia | omega)
    show ((allT n).flatMap two).length = _
    rw [h, allT_len n, Nat.pow_succ, Nat.mul_comm]
theorem allT_size : ∀ {n : Nat} {t : Str}, t ∈ allT n → t.length = n
  | 0, t, h => by rw [List.mem_singleton.mp h]; rfl
  | n + 1, t, h => by
    obtain ⟨u, hu, ht⟩ := List.mem_flatMap.mp h
    have := allT_size hu
    rcases List.mem_cons.mp ht with rfl | ht
    · rw [len_append, this]; rfl
    · rw [List.mem_singleton.mp ht, len_append, this]; rfl
theorem allT_mem : ∀ {n : Nat} {t : Str}, Bin t → t.length = n → t ∈ allT n
  | 0, t, _, h => List.mem_singleton.mpr (str_eq (by
      rw [sgE]
      rw [str_len] at h
      exact List.eq_nil_of_length_eq_zero h))
  | n + 1, t, hb, h => by
    rcases List.eq_nil_or_concat (sg t) with e | ⟨l, c, e⟩
    · rw [str_len] at h
      change (sg t).length = _ at h
      rw [e] at h; cases h
    · rw [List.concat_eq_append] at e
      have hl : l.length = n := by
        rw [str_len] at h
        change (sg t).length = _ at h
        rw [e, List.length_append] at h
        exact Nat.succ.inj h
      have eu : sg (⟨l.toArray⟩ : Str) = l := by simp
      have hu : (⟨l.toArray⟩ : Str) ∈ allT n := allT_mem (fun ch hc => hb ch (by show ch ∈ sg t; rw [e]; exact List.mem_append_left _ (by simpa using hc))) (by rw [str_len]; show (sg (⟨l.toArray⟩ : Str)).length = n; rw [eu]; exact hl)
      refine List.mem_flatMap.mpr ⟨_, hu, ?_⟩
      rcases hb c (by show c ∈ sg t; rw [e]; exact List.mem_append_right _ (List.mem_singleton.mpr rfl)) with rfl | rfl
      · exact List.mem_cons.mpr (.inl (str_eq (by rw [sg_app, sg0, eu, e])))
      · exact List.mem_cons.mpr (.inr (List.mem_singleton.mpr (str_eq (by rw [sg_app, sg1', eu, e]))))
theorem lt_ext : ∀ {a b c d : List Nat}, a.length = b.length → a < b → a ++ c < b ++ d
  | [], [], _, _, _, h => absurd h (List.lt_irrefl _)
  | [], _ :: _, _, _, e, _ => by cases e
  | _ :: _, [], _, _, e, _ => by cases e
  | x :: a, y :: b, c, d, e, h => by
    rw [List.cons_lt_cons_iff] at h
    rw [List.cons_append, List.cons_append, List.cons_lt_cons_iff]
    rcases h with h | ⟨h1, h2⟩
    · exact .inl h
    · exact .inr ⟨h1, lt_ext (Nat.succ.inj e) h2⟩
theorem lt_same : ∀ {a c d : List Nat}, c < d → a ++ c < a ++ d
  | [], _, _, h => h
  | x :: a, c, d, h => by
    rw [List.cons_append, List.cons_append, List.cons_lt_cons_iff]
    exact .inr ⟨rfl, lt_same h⟩
theorem lf_two {t u a b : Str} (ht : a ∈ two t) (hu : b ∈ two u) (e : t.length = u.length) (h : lfLt t u) : lfLt a b := by
  have h : sg t < sg u := by
    rcases h with h | ⟨_, h⟩
    · (first | lia | omega)
    · exact h
  have el : (sg t).length = (sg u).length := by rw [← str_len, ← str_len]; exact e
  have key : ∀ c d : Str, c.length = d.length → lfLt (t ++ c) (u ++ d) := fun c d hc => .inr ⟨by rw [len_append, len_append, e, hc], by
    show sg (t ++ c) < sg (u ++ d)
    rw [sg_app, sg_app]
    exact lt_ext el h⟩
  unfold two at ht hu
  rcases List.mem_cons.mp ht with rfl | ht <;> rcases List.mem_cons.mp hu with rfl | hu
  · exact key _ _ rfl
  · rw [List.mem_singleton.mp hu]; exact key _ _ rfl
  · rw [List.mem_singleton.mp ht]; exact key _ _ rfl
  · rw [List.mem_singleton.mp ht, List.mem_singleton.mp hu]; exact key _ _ rfl
theorem allT_asc : ∀ n, (allT n).Pairwise lfLt
  | 0 => List.pairwise_singleton _ _
  | n + 1 => by
    have h : ∀ l : List Str, l.Pairwise lfLt → (∀ t ∈ l, t.length = n) → (l.flatMap two).Pairwise lfLt := fun l => by
      induction l with
      | nil => exact fun _ _ => List.Pairwise.nil
      | cons t l ih =>
        intro hp hl
        obtain ⟨h1, h2⟩ := List.pairwise_cons.mp hp
        rw [List.flatMap_cons]
        refine List.pairwise_append.mpr ⟨?_, ih h2 fun y hy => hl y (List.mem_cons_of_mem _ hy), fun a ha b hb => ?_⟩
        · refine List.pairwise_cons.mpr ⟨fun y hy => ?_, List.pairwise_singleton _ _⟩
          rw [List.mem_singleton.mp hy]
          refine .inr ⟨by rw [len_append, len_append]; rfl, ?_⟩
          show sg (t ++ "0") < sg (t ++ "1")
          rw [sg_app, sg_app, sg0, sg1']
          exact lt_same (by decide)
        · obtain ⟨u, hu, hb⟩ := List.mem_flatMap.mp hb
          exact lf_two ha hb ((hl t List.mem_cons_self).trans (hl u (List.mem_cons_of_mem _ hu)).symm) (h1 u hu)
    exact h (allT n) (allT_asc n) fun t ht => allT_size ht
theorem Amb.bin {B : List (Str × Str)} (cd : ∀ q ∈ B, CodeOk 12 q.2) {u : Str} (h : Amb B u) : Bin u := fun ch hc => by
  obtain ⟨ps, qs, o1, _, _, e1, _⟩ := h
  have hc : ch ∈ sg u := hc
  rw [← e1] at hc
  obtain ⟨r, hr, hc⟩ := List.mem_flatMap.mp hc
  exact (cd r (o1 r hr)).bin ch hc
theorem Amb.pos {B : List (Str × Str)} (cd : ∀ q ∈ B, CodeOk 12 q.2) {u : Str} (h : Amb B u) : 0 < u.length := by
  obtain ⟨ps, qs, o1, o2, hne, e1, e2⟩ := h
  rw [str_len]
  cases e : sg u with
  | cons a l => show 0 < (sg u).length; rw [e]; exact Nat.succ_pos _
  | nil =>
    rw [e] at e1 e2
    have key : ∀ {ps : List (Str × Str)}, Of B ps → tx ps = [] → ps = [] := fun {ps} o z => by
      cases ps with
      | nil => rfl
      | cons q r =>
        rw [tx_cons] at z
        have := code_pos cd (o q List.mem_cons_self)
        rw [(List.append_eq_nil_iff.mp z).1] at this
        exact absurd this (by decide)
    exact absurd ((key o1 e1).trans (key o2 e2).symm) hne
/-- the first of these texts that has two readings is the least -/
theorem first_least {B : List (Str × Str)} (cd : ∀ q ∈ B, CodeOk 12 q.2) {n j : Nat} (hj : j < (allT (n + 1)).length) (lo : ∀ u, Amb B u → n < u.length) (no : ∀ t ∈ (allT (n + 1)).take j, ¬ Amb B t) (u : Str) (hu : Amb B u) : ¬ lfLt u (allT (n + 1))[j] := fun z => by
  have h1 := lo u hu
  have h2 := allT_size (List.getElem_mem hj)
  have h3 : u.length = n + 1 := by
    rcases z with z | ⟨z, _⟩ <;> (first | lia | omega)
  obtain ⟨m, hm, em⟩ := List.mem_iff_getElem.mp (allT_mem (hu.bin cd) h3)
  by_cases hmj : m < j
  · exact no u (em ▸ List.mem_take_iff_getElem.mpr ⟨m, by (first | lia | omega), rfl⟩) hu
  · by_cases e : m = j
    · subst e
      rw [em] at z
      exact lfLt_irrefl _ z
    · have := List.pairwise_iff_getElem.mp (allT_asc (n + 1)) j m hj hm (by (first | lia | omega))
      rw [em] at this
      exact lfLt_irrefl _ (lfLt_trans z this)
theorem first_none {B : List (Str × Str)} (cd : ∀ q ∈ B, CodeOk 12 q.2) {n : Nat} (lo : ∀ u, Amb B u → n < u.length) (no : ∀ t ∈ allT (n + 1), ¬ Amb B t) (u : Str) (hu : Amb B u) : n + 1 < u.length := by
  have h1 := lo u hu
  by_cases e : u.length = n + 1
  · exact absurd hu (no u (allT_mem (hu.bin cd) e))
  · (first | lia | omega)
noncomputable def spFi : Sp := fun vs H Q _ => ∃ (p : Addr) (B : List (Str × Str)), vs = [.ref p] ∧ H p = some (.lst ((B.map (·.2)).map V.str)) ∧ GoodN B ∧
  (∀ x H', Amb B x → (∀ u, Amb B u → ¬ lfLt u x) → Same H H' → Q (.str x) H') ∧ ((∀ u, Amb B u → 9 < u.length) → ∀ H', Same H H' → Q .non H')
section
variable {P : Program} {w : World} {K : PySem.W.Frag} {mg : Str → Option Value} {base : Heap} {f : Addr} {fd : FuncData}
theorem sc_law_first : FnScope ["_law_codes", "_law_texts", "_law_size", "_law_longer", "_law_text"] ["_law_codes"] (defScope (top i_law_first)) := ⟨rfl, rfl, rfl, by decide +kernel, rfl, by decide +kernel, by decide +kernel⟩
theorem ok_fi (F : Fun K "_law_first" "_law_first" (top i_law_first) f fd) (T : Nm mg) (f_law_counts : Fn P w K mg base 1 "_law_counts" ["_law_codes", "_law_text"] spCt) : FnOk P w K mg base CX0 2 f fd ["_law_codes"] spFi := by
  refine F.ok sc_law_first (fun vs H Q E h => ?_) (fun cdv A outer s H vs Q E hr h => ?_)
  · obtain ⟨p, B, rfl, _⟩ := h
    rfl
  obtain ⟨p, B, rfl, hp, gB, qY, qN⟩ := h
  have hu6 := hr.units
  refine ⟨_, (pss_cons (ps_set (i := 1) sc_law_first.nd rfl (Or.inl rfl) (lstN (pa_cons pe_str pa_nil)))
    (pss_cons (ps_for PassesOwn.never rfl (pi_range1 rfl T.n_range (pa_cons pe_int pa_nil)) (pg_name (i := 2) sc_law_first.nd rfl (Or.inl rfl)) (pss_cons (ps_set (i := 3) sc_law_first.nd rfl (Or.inl rfl) (lstN pa_nil))
    (pss_cons (ps_for PassesOwn.never rfl (piK K (pv 1)) (pg_name (i := 4) sc_law_first.nd rfl (Or.inl rfl)) (pss_one (ps_expr (bmK K PySem.F.plainAttrs_list PySem.F.slot_list_extend PySem.F.type_list_extend extendN (pv 3) (pa_cons (lstN (pa_cons (pe_op addN (pv 4) pe_str) (pa_cons (pe_op addN (pv 4) pe_str) pa_nil))) pa_nil)))))
    (pss_cons (ps_set (i := 1) sc_law_first.nd rfl (Or.inl rfl) (pv 3))
    (pss_one (ps_for PassesOwn.never rfl (piK K (pv 1)) (pg_name (i := 4) sc_law_first.nd rfl (Or.inl rfl)) (pss_one (ps_if (pt_cmpR op_gt (pe_fn (f_law_counts.mono (by first | decide | exact Nat.le_refl _ | (first | lia | omega))) hr rfl (pa_cons (pv 0) (pa_cons (pv 4) pa_nil))) pe_int (nomark _)) (pss_one (ps_ret (pv 4))) pss_nil))))))))
    (pss_one (ps_ret pe_non)))), ?_⟩
  refine ⟨by show 1 ≤ sizeLine; decide, fun a1 H1 n1 => gn ?_⟩
  dsimp only
  refine seqCut (t := tFor _ _ _) (fun σ H' => Same H H' ∧ ∀ u, Amb B u → 9 < u.length) (fun Nn nx => ?_) ?_
  · refine ⟨9, rfl, by decide, by decide, ?_⟩
    refine for_range (lo := 0) (n := 9) (fun i σ H' => ∃ x2 x3 x4 a, σ = [some (.ref p), some (.ref a), x2, x3, x4] ∧ Same H H' ∧ H' a = some (.lst ((allT i).map V.str)) ∧ ∀ u, Amb B u → i < u.length) ⟨_, _, _, a1, rfl, n1.same, n1.at, fun u hu => hu.pos gB.cd⟩ ?_ ?_
    · rintro i σ H2 hi ⟨x2, x3, x4, a, rfl, sm2, ha2, lo⟩
      have h2i : (allT i).length ≤ 256 := by
        rw [allT_len]
        exact Nat.pow_le_pow_right (by decide) (show i ≤ 8 by (first | lia | omega))
      have at1 : ∀ {n k : Nat} (hk : k < (allT n).length), ((allT n).map V.str)[k]? = some (.str (allT n)[k]) := fun hk => by rw [List.getElem?_map, List.getElem?_eq_getElem hk]; rfl
      have ln1 : ∀ n, ((allT n).map V.str).length = (allT n).length := fun n => List.length_map _
      refine ⟨by show 0 ≤ sizeLine; decide, fun a3 H3 n3 => gn ?_⟩
      have h30 : H a3 = none := by
        cases e : H a3 with
        | none => rfl
        | some o => have := n3.nn; rw [sm2 _ _ e] at this; cases this
      have aa : a ≠ a3 := ne_of_none ha2 n3.nn
      dsimp only
      refine seqCut (t := tFor _ _ _) (fun σ H' => ∃ x4, σ = [some (.ref p), some (.ref a), some (.int (0 + i)), some (.ref a3), x4] ∧ Same H H' ∧ H' a3 = some (.lst ((allT (i + 1)).map V.str))) (fun Nm nm => ?_) ?_
      · refine ⟨_, rfl, a, rfl, ⟨_, SqL.of (n3.same _ _ ha2)⟩, ?_⟩
        refine for_go (N := (allT i).length) (fun k σ H' => ∃ x4, σ = [some (.ref p), some (.ref a), some (.int (0 + i)), some (.ref a3), x4] ∧ Same H H' ∧ H' a = some (.lst ((allT i).map V.str)) ∧ H' a3 = some (.lst ((((allT i).take k).flatMap two).map V.str))) ⟨_, rfl, sm2.trans n3.same, n3.same _ _ ha2, n3.at⟩ ?_ ?_
        · rintro k σ H4 hk ⟨x4, rfl, sm4, ha4, h34⟩
          refine ⟨⟨_, _, SqL.of ha4, at1 hk⟩, ?_⟩
          rintro y H5 ⟨rfl, hy⟩
          have e := hy _ (SqL.of ha4)
          rw [at1 hk] at e; cases e
          have hs := allT_size (List.getElem_mem hk)
          have htk := take_next hk
          generalize (allT i)[k] = t at hs htk
          have sz : ∀ x : Str, x.length = 1 → t.length + x.length ≤ sizeLine := fun x hx => sizeOk (by (first | lia | omega))
          refine gn ⟨_, rfl, .inl ⟨rfl, _, SqL.of h34⟩, _, rfl, .inr (.inl ⟨_, _, rfl, rfl, sz _ rfl, _, rfl, .inr (.inl ⟨_, _, rfl, rfl, sz _ rfl, by show 2 ≤ sizeLine; decide, fun a6 H6 n6 => ?_⟩)⟩)⟩
          have hl : (((allT i).take k).flatMap two).length ≤ 512 := by
            have : ∀ l : List Str, (l.flatMap two).length = 2 * l.length := fun l => by
              induction l with
              | nil => rfl
              | cons a l ih => rw [List.flatMap_cons, List.length_append, ih, List.length_cons]; show 2 + _ = _; (first | lia | omega)
            rw [this, List.length_take]; (first | lia | omega)
          refine ⟨a3, a6, _, _, rfl, rfl, n6.same _ _ h34, n6.at, by rw [List.length_map]; exact sizeOk (by show _ + 2 ≤ _; (first | lia | omega)), fun H7 c7 => ?_⟩
          have h67 : Same H H7 := fun b o e => by rw [c7.ne (ne_of_none e h30)]; exact n6.same _ _ (sm4 b o e)
          refine ⟨_, rfl, h67, by rw [c7.ne aa]; exact n6.same _ _ ha4, ?_⟩
          rw [c7.at, htk, List.flatMap_append, List.map_append]
          rfl
        · rintro σ H4 ⟨x4, rfl, sm4, ha4, h34⟩
          rw [List.take_length] at h34
          exact ⟨⟨_, SqL.of ha4, by rw [ln1]; exact Nat.le_refl _⟩, nm _ _ ⟨_, rfl, sm4, h34⟩⟩
      rintro σ H4 ⟨x4, rfl, sm4, h34⟩
      refine ⟨_, rfl, gn ?_⟩
      refine ⟨_, rfl, a3, rfl, ⟨_, SqL.of h34⟩, ?_⟩
      refine for_go (N := (allT (i + 1)).length) (fun k σ H' => ∃ x4, σ = [some (.ref p), some (.ref a3), some (.int (0 + i)), some (.ref a3), x4] ∧ Same H4 H' ∧ ∀ t ∈ (allT (i + 1)).take k, ¬ Amb B t) ⟨_, rfl, Same.refl _, fun _ h => nomatch h⟩ ?_ ?_
      · rintro k σ H5 hk ⟨x4, rfl, sm5, no⟩
        refine ⟨⟨_, _, SqL.of (sm5 _ _ h34), at1 hk⟩, ?_⟩
        rintro y H6 ⟨rfl, hy⟩
        have e := hy _ (SqL.of (sm5 _ _ h34))
        rw [at1 hk] at e; cases e
        have hs := allT_size (List.getElem_mem hk)
        have lst := first_least gB.cd hk lo no
        have htk := take_next hk
        generalize (allT (i + 1))[k] = t at hs htk lst
        refine gn ⟨_, rfl, _, rfl, p, t, B, rfl, sm5 _ _ (sm4 _ _ hp), gB, by (first | lia | omega), fun c H7 hc s7 => ⟨_, _, rfl, rfl, _, rfl, ite2 (fun z => ?_) (fun z => ?_)⟩⟩
        · have z : c > 1 := of_decide_eq_true z
          exact ⟨_, rfl, qY t H7 (hc.mp z) lst (sm4.trans (sm5.trans s7))⟩
        · refine ⟨_, rfl, sm5.trans s7, fun t' ht => ?_⟩
          rw [htk] at ht
          rcases List.mem_append.mp ht with ht | ht
          · exact no t' ht
          · rw [List.mem_singleton.mp ht]
            exact fun ha => z (decide_eq_true (hc.mpr ha))
      · rintro σ H5 ⟨x4, rfl, sm5, no⟩
        rw [List.take_length] at no
        exact ⟨⟨_, SqL.of (sm5 _ _ h34), by rw [ln1]; exact Nat.le_refl _⟩, _, _, _, a3, rfl, sm4.trans sm5, sm5 _ _ h34, first_none gB.cd lo no⟩
    · rintro σ H2 ⟨x2, x3, x4, a, rfl, sm2, ha2, lo⟩
      exact nx _ _ ⟨sm2, lo⟩
  rintro σ H2 ⟨sm2, lo⟩
  exact qN lo H2 sm2
end
end Z

set_option Elab.async false
set_option linter.all false
set_option maxRecDepth 100000
set_option maxHeartbeats 4000000
namespace Z
open PySem L2 PyProof.Rows
noncomputable def spLaw (K : PySem.W.Frag) : Sp := fun vs H Q _ => ∃ (a : Addr) (ns : List Int), vs = [.ref a] ∧ SqL K H a (ns.map V.int) ∧ ns.length ≤ 63 ∧ ∀ H', Q (.bl true) H'
theorem BookAt.bkl {K : PySem.W.Frag} {H : Hp} {b c : Addr} {B : List (Str × Str)} {v : V} (h : BookAt K (hid H b c) B v) : ∃ l, v = .ref l ∧ l ≠ b ∧ l ≠ c ∧ BkL K H B l ∧ BkL K (hid H b c) B l := by
  obtain ⟨l, vs, rfl, h1, h2⟩ := h
  obtain ⟨e, lb, lc⟩ := of_hid h1
  exact ⟨l, rfl, lb, lc, ⟨vs, SqL.of e, h2.same hid_le⟩, ⟨vs, SqL.of h1, h2⟩⟩
section
variable {P : Program} {w : World} {K : PySem.W.Frag} {mg : Str → Option Value} {base : Heap} {f : Addr} {fd : FuncData}
theorem sc_law : FnScope ["_law_script", "_law_state", "_law_turn", "_law_book_here", "_law_found", "_law_due"] ["_law_script"] (defScope (top i_law)) := ⟨rfl, rfl, rfl, by decide +kernel, rfl, by decide +kernel, by decide +kernel⟩
theorem ok_law (F : Fun K "law" "law" (top i_law) f fd) (T : Nm mg) (f_law_begin : Fn P w K mg base 1 "_law_begin" ["_law_script"] (spBegin K)) (f_law_book : Fn P w K mg base 3 "_law_book" ["_law_state"] (spBk K)) (f_two_readings : Fn P w K mg base 6 "two_readings" ["book"] (spTr3 K)) (f_law_first : Fn P w K mg base 2 "_law_first" ["_law_codes"] spFi) :
    FnOk P w K mg base CX0 7 f fd ["_law_script"] (spLaw K) := by
  refine F.ok sc_law (fun vs H Q E h => ?_) (fun cdv A outer s H vs Q E hr h => ?_)
  · obtain ⟨a, ns, rfl, _⟩ := h
    rfl
  obtain ⟨a, ns, rfl, hS, hlen, q⟩ := h
  have hu6 := hr.units
  refine ⟨_, (pss_cons (ps_set (i := 1) sc_law.nd rfl (Or.inl rfl) (pe_fn (f_law_begin.mono (by first | decide | exact Nat.le_refl _ | (first | lia | omega))) hr rfl (pa_cons (pv 0) pa_nil)))
    (pss_cons (ps_for PassesOwn.never rfl (pi_range1 rfl T.n_range (pa_cons (pe_op addN pe_int (pe_callTy call_int1 rfl T.n_int (by rfl) (pa_cons (pe_cmpR op_gt (pe_callB (lenK K) rfl T.n_len (by rfl) (pa_cons (pv 0) pa_nil)) pe_int (nomark _)) pa_nil))) pa_nil)) (pg_name (i := 2) sc_law.nd rfl (Or.inl rfl)) (pss_cons (ps_set (i := 3) sc_law.nd rfl (Or.inl rfl) (pe_fn (f_law_book.mono (by first | decide | exact Nat.le_refl _ | (first | lia | omega))) hr rfl (pa_cons (pv 1) pa_nil)))
    (pss_cons (ps_set (i := 4) sc_law.nd rfl (Or.inl rfl) (pe_fn (f_two_readings.mono (by first | decide | exact Nat.le_refl _ | (first | lia | omega))) hr rfl (pa_cons (pv 3) pa_nil)))
    (pss_cons (ps_set (i := 5) sc_law.nd rfl (Or.inl rfl) (pe_fn (f_law_first.mono (by first | decide | exact Nat.le_refl _ | (first | lia | omega))) hr rfl (pa_cons (pe_lcomp rfl (comp_ok (Nc := ["_law_name", "_law_code"]) (Fc := []) (js := [])) (piK K (pv 3)) (gk_tup (gks_cons (gk_name (i := 0) (n := 2) (by decide)) (gks_cons (gk_name (i := 1) (n := 2) (by decide)) gks_nil gm_name gms_nil) gm_name (gms_cons gm_name gms_nil))) (fun _ _ _ _ _ => (tupK K 2 rfl (pgs_cons (pg_name (i := 0) (show (["_law_name", "_law_code"] : List Str).Nodup by decide +kernel) rfl (Or.inl rfl)) (pgs_cons (pg_name (i := 1) (show (["_law_name", "_law_code"] : List Str).Nodup by decide +kernel) rfl (Or.inl rfl)) pgs_nil)))) (fun _ _ _ _ _ => pts_nil) (fun _ _ _ _ _ => (pv 1))) pa_nil)))
    (pss_cons (ps_if (PW.pt (pw_and (pt_cmpR g_is (pv 5) pe_non (nomark _)) (pw_and (pt_cmpR g_isnot (pv 4) pe_non (nomark _)) (pw_and1 (pt_cmpR op_lt (pe_callB (lenK K) rfl T.n_len (by rfl) (pa_cons (pe_ix (ixK K) (pv 4) pe_int (fun _ _ => rfl)) pa_nil)) pe_int (nomark _)))))) (pss_one (ps_ret pe_bl)) pss_nil)
    (pss_one (ps_if (PW.pt (pw_and (pt_cmpR g_isnot (pv 5) pe_non (nomark _)) (pw_and1 (PW.pt (pw_or (pt_cmpR g_is (pv 4) pe_non (nomark _)) (pw_or1 (pt_cmpR (neK K hu6) (pe_ix (ixK K) (pv 4) pe_int (fun _ _ => rfl)) (pv 5) (nomark _)))))))) (pss_one (ps_ret pe_bl)) pss_nil)))))))
    (pss_one (ps_ret pe_bl)))), ?_⟩
  refine ⟨_, rfl, a, ns, rfl, hS, hlen, fun b c H1 bx1 hb hc sm1 => ?_⟩
  refine gn ?_
  dsimp only
  have hS1 : SqL K H1 a (ns.map V.int) := (sm1.trans hid_same).seq hS
  refine ⟨_, rfl, _, _, rfl, .inl ⟨_, hS1, rfl⟩, _, _, rfl, rfl, .inr ⟨_, rfl, .inl ⟨_, _, rfl, rfl, ?_⟩⟩⟩
  obtain ⟨m, em, hm⟩ : ∃ m : Nat, ((1 : Int) + if decide ((0 : Int) < (((ns.map V.int).length : Nat) : Int)) = true then 1 else 0) = (m : Int) ∧ m ≤ 2 := by
    by_cases z : decide ((0 : Int) < (((ns.map V.int).length : Nat) : Int)) = true
    · exact ⟨2, by rw [if_pos z]; rfl, by decide⟩
    · exact ⟨1, by rw [if_neg z]; rfl, by decide⟩
  rw [em]
  refine ⟨(m : Nat), rfl, by (first | lia | omega), by (first | lia | omega), ?_⟩
  refine for_range (lo := 0) (n := m) (fun i σ H' => ∃ (t' : Int) (x2 x3 x4 x5 : Option V), σ = [some (.ref a), some (.ref b), x2, x3, x4, x5] ∧ Step b c H1 H' 0 t' (1000 * i)) ⟨0, _, _, _, _, rfl, (Step.refl bx1).more (by (first | lia | omega))⟩ ?_ ?_
  · rintro i σ H2 hi ⟨t2, x2, x3, x4, x5, rfl, st2⟩
    have ub2 := st2.ub
    have lo2 := st2.le
    refine ⟨_, rfl, b, c, t2, rfl, st2.bx, by (first | lia | omega), by (first | lia | omega), fun B v H3 t3 gB hne hv st3 => gn ?_⟩
    obtain ⟨l, rfl, lb, lc, hB, _⟩ := hv.bkl
    have hle := gB.le
    dsimp only
    refine asgCut (te := tCall _ _ _ _) (fun v H' => Same H3 H' ∧ ((v = .non ∧ ∀ u, ¬ Amb B u) ∨ ∃ (z p q : Addr) (t : Str), v = .ref z ∧ H' z = some (.tup [.str t, .ref p, .ref q]) ∧ t.length ≤ 5000 ∧ Amb B t ∧ ∀ u, Amb B u → ¬ lfLt u t)) (fun Qn qn => ?_) ?_
    · exact ⟨_, rfl, l, B, rfl, hB, gB, fun no H' s' => qn _ _ ⟨s', .inl ⟨rfl, no⟩⟩, fun z p q t ns ms H' ha lst tl s' hz _ _ _ _ _ _ => qn _ _ ⟨s', .inr ⟨z, p, q, t, rfl, hz, tl, ha, lst⟩⟩⟩
    rintro fv H4 ⟨s4, hf4⟩
    refine gn ?_
    refine asgCut (te := tCall _ _ _ _) (fun v H' => Same H4 H' ∧ ((v = .non ∧ ∀ u, Amb B u → 9 < u.length) ∨ ∃ x : Str, v = .str x ∧ Amb B x ∧ ∀ u, Amb B u → ¬ lfLt u x)) (fun Qn qn => ?_) ?_
    · obtain ⟨vs, hl, hd⟩ := hB.same s4
      have hlen := bk_len hd
      refine ⟨_, rfl, l, rfl, ⟨_, hl⟩, ?_⟩
      refine comp_go (N := B.length) (fun i ys H' => H' = H4 ∧ ys = ((B.take i).map (·.2)).map V.str) ⟨rfl, rfl⟩ ?_ ?_
      · rintro i ys H5 Ny hi ⟨rfl, rfl⟩ ny
        obtain ⟨tp, e1, e2⟩ := bk_at hd hi
        refine ⟨⟨_, _, hl, e1⟩, by rw [List.length_map, List.length_map, List.length_take]; exact Nat.lt_of_le_of_lt (show min i B.length ≤ 1000 by (first | lia | omega)) (by decide), ?_⟩
        rintro x H6 ⟨rfl, hy⟩
        have e := hy _ hl
        rw [e1] at e; cases e
        refine ⟨tp, _, rfl, e2, rfl, _, _, rfl, _, _, rfl, rfl, ?_⟩
        refine ⟨_, rfl, ny _ _ ⟨rfl, ?_⟩⟩
        rw [take_next hi, List.map_append, List.map_append]; rfl
      · rintro ys H5 ⟨rfl, rfl⟩
        refine ⟨⟨_, hl, by (first | lia | omega)⟩, fun p hp => ?_⟩
        rw [List.take_length]
        have n6 : New H5 p (.lst ((B.map (·.2)).map V.str)) (upd H5 p (.lst ((B.map (·.2)).map V.str))) := ⟨hp, rfl⟩
        generalize upd H5 p (.lst ((B.map (·.2)).map V.str)) = H6 at n6 ⊢
        exact ⟨p, B, rfl, n6.at, gB, fun x H' ha lst s' => qn _ _ ⟨n6.same.trans s', .inr ⟨x, rfl, ha, lst⟩⟩, fun lo H' s' => qn _ _ ⟨n6.same.trans s', .inl ⟨rfl, lo⟩⟩⟩
    rintro dv H5 ⟨s5, hd5⟩
    refine gn ?_
    have st5 : Step b c H1 H5 0 t3 (1000 * (i + 1 : Nat)) := ((st2.trans st3).trans (Step.same st3.bx (s4.trans s5))).more (by (first | lia | omega))
    have fin : ∃ (t' : Int) (x2 x3 x4 x5 : Option V), ([some (.ref a), some (.ref b), some (.int (0 + i)), some (.ref l), some fv, some dv] : L2.St) = [some (.ref a), some (.ref b), x2, x3, x4, x5] ∧ Step b c H1 H5 0 t' (1000 * (i + 1 : Nat)) := ⟨_, _, _, _, _, rfl, st5⟩
    rcases hd5 with ⟨rfl, lo⟩ | ⟨x, rfl, hx, lx⟩
    · rcases hf4 with ⟨rfl, no⟩ | ⟨z, p, q', t, rfl, hz, tl, ht, lt⟩
      · refine ⟨_, rfl, .inl ⟨rfl, _, rfl, iteT ⟨_, rfl, .inl ⟨rfl, _, rfl, iteF ?_⟩⟩⟩⟩
        exact ⟨_, rfl, .inl ⟨rfl, _, rfl, iteF fin⟩⟩
      · have h10 := lo t ht
        refine ⟨_, rfl, .inl ⟨rfl, _, rfl, iteT ⟨_, rfl, .inl ⟨rfl, _, rfl, iteT ⟨_, rfl, .inr (.inl ⟨z, _, 0, .str t, rfl, rfl, SqT.of (s5 _ _ hz), rfl, _, _, rfl, ⟨?_, rfl⟩, _, _, rfl, rfl, _, rfl, ?_⟩)⟩⟩⟩⟩⟩
        · exact sizeOk (by (first | lia | omega))
        · rw [decide_eq_false (by (first | lia | omega))]
          refine iteF ?_
          exact ⟨_, rfl, .inl ⟨rfl, _, rfl, iteF fin⟩⟩
    · refine ⟨_, rfl, .inl ⟨rfl, _, rfl, iteF ?_⟩⟩
      rcases hf4 with ⟨rfl, no⟩ | ⟨z, p, q', t, rfl, hz, tl, ht, lt⟩
      · exact absurd hx (no x)
      · obtain rfl : t = x := lf_anti (lx t ht) (lt x hx)
        refine ⟨_, rfl, .inl ⟨rfl, _, rfl, iteT ⟨_, rfl, .inl ⟨rfl, _, rfl, iteF ⟨_, rfl, .inr (.inl ⟨z, _, 0, .str t, rfl, rfl, SqT.of (s5 _ _ hz), rfl, _, rfl, .inl ⟨rfl, _, rfl, ?_⟩⟩)⟩⟩⟩⟩⟩
        rw [decide_eq_true rfl]
        exact iteF fin
  · rintro σ H2 ⟨t2, x2, x3, x4, x5, rfl, st2⟩
    exact q H2
end
end Z

namespace Z
open PySem L2
theorem lenZ {α : Type} {P : List α → Prop} (h : P []) : ∀ us : List α, us.length = 0 → P us := fun us e => List.eq_nil_of_length_eq_zero e ▸ h
theorem lenS {α : Type} {P : List α → Prop} {n : Nat} (h : ∀ a (us : List α), us.length = n → P (a :: us)) (us : List α) (e : us.length = n + 1) : P us := by
  cases us with | nil => cases e | cons a us => exact h a us (Nat.succ.inj e)
theorem all_mk {l : PySem.W.OpenLaw} {w : World} {K : PySem.W.Frag} {h : Heap} {mg : Str → Option Value} {fa f1 f2 f3 f4 f5 f6 f7 f8 f9 f10 f11 f12 f13 f14 f15 f16 f17 : Addr} (X : K.In h) (G : h.Ns mainGlobals mg) (hfa : mg "law" = some (.ref fa))
    {od1 an1 : Option Addr} {sl1 : Array (Option Value)} {oc1 kV1 dc1 pm1 cd1 ct1 : Value}
    {od2 an2 : Option Addr} {sl2 : Array (Option Value)} {oc2 kV2 dc2 pm2 cd2 ct2 : Value}
    {od3 an3 : Option Addr} {sl3 : Array (Option Value)} {oc3 kV3 dc3 pm3 cd3 ct3 : Value}
    {od4 an4 : Option Addr} {sl4 : Array (Option Value)} {oc4 kV4 dc4 pm4 cd4 ct4 : Value}
    {od5 an5 : Option Addr} {sl5 : Array (Option Value)} {oc5 kV5 dc5 pm5 cd5 ct5 : Value}
    {od6 an6 : Option Addr} {sl6 : Array (Option Value)} {oc6 kV6 dc6 pm6 cd6 ct6 : Value}
    {od7 an7 : Option Addr} {sl7 : Array (Option Value)} {oc7 kV7 dc7 pm7 cd7 ct7 : Value}
    {od8 an8 : Option Addr} {sl8 : Array (Option Value)} {oc8 kV8 dc8 pm8 cd8 ct8 : Value}
    {od9 an9 : Option Addr} {sl9 : Array (Option Value)} {oc9 kV9 dc9 pm9 cd9 ct9 : Value}
    {od10 an10 : Option Addr} {sl10 : Array (Option Value)} {oc10 kV10 dc10 pm10 cd10 ct10 : Value}
    {od11 an11 : Option Addr} {sl11 : Array (Option Value)} {oc11 kV11 dc11 pm11 cd11 ct11 : Value}
    {od12 an12 : Option Addr} {sl12 : Array (Option Value)} {oc12 kV12 dc12 pm12 cd12 ct12 : Value}
    {od13 an13 : Option Addr} {sl13 : Array (Option Value)} {oc13 kV13 dc13 pm13 cd13 ct13 : Value}
    {od14 an14 : Option Addr} {sl14 : Array (Option Value)} {oc14 kV14 dc14 pm14 cd14 ct14 : Value}
    {od15 an15 : Option Addr} {sl15 : Array (Option Value)} {oc15 kV15 dc15 pm15 cd15 ct15 : Value}
    {od16 an16 : Option Addr} {sl16 : Array (Option Value)} {oc16 kV16 dc16 pm16 cd16 ct16 : Value}
    {od17 an17 : Option Addr} {sl17 : Array (Option Value)} {oc17 kV17 dc17 pm17 cd17 ct17 : Value}
    (a1 : PySem.W.nsIn K mainGlobals "length_first" = some (some (.ref f1))) (l1 : K.lookup f1 = some ⟨oc1, od1, .func (PySem.W.fnOf "length_first" "length_first" (defArgs (top i_length_first)) (defBody (top i_length_first)) (defScope (top i_length_first)) .none kV1 dc1 pm1 an1 cd1 ct1), sl1⟩) (c1 : PySem.W.codeIn K cd1 "length_first" = true) (k1 : PySem.W.keepIn K (.ref f1) = true)
    (a2 : PySem.W.nsIn K mainGlobals "stand_order" = some (some (.ref f2))) (l2 : K.lookup f2 = some ⟨oc2, od2, .func (PySem.W.fnOf "stand_order" "stand_order" (defArgs (top i_stand_order)) (defBody (top i_stand_order)) (defScope (top i_stand_order)) .none kV2 dc2 pm2 an2 cd2 ct2), sl2⟩) (c2 : PySem.W.codeIn K cd2 "stand_order" = true) (k2 : PySem.W.keepIn K (.ref f2) = true)
    (a3 : PySem.W.nsIn K mainGlobals "least_stand" = some (some (.ref f3))) (l3 : K.lookup f3 = some ⟨oc3, od3, .func (PySem.W.fnOf "least_stand" "least_stand" (defArgs (top i_least_stand)) (defBody (top i_least_stand)) (defScope (top i_least_stand)) .none kV3 dc3 pm3 an3 cd3 ct3), sl3⟩) (c3 : PySem.W.codeIn K cd3 "least_stand" = true) (k3 : PySem.W.keepIn K (.ref f3) = true)
    (a4 : PySem.W.nsIn K mainGlobals "keep_least" = some (some (.ref f4))) (l4 : K.lookup f4 = some ⟨oc4, od4, .func (PySem.W.fnOf "keep_least" "keep_least" (defArgs (top i_keep_least)) (defBody (top i_keep_least)) (defScope (top i_keep_least)) .none kV4 dc4 pm4 an4 cd4 ct4), sl4⟩) (c4 : PySem.W.codeIn K cd4 "keep_least" = true) (k4 : PySem.W.keepIn K (.ref f4) = true)
    (a5 : PySem.W.nsIn K mainGlobals "stands_behind" = some (some (.ref f5))) (l5 : K.lookup f5 = some ⟨oc5, od5, .func (PySem.W.fnOf "stands_behind" "stands_behind" (defArgs (top i_stands_behind)) (defBody (top i_stands_behind)) (defScope (top i_stands_behind)) .none kV5 dc5 pm5 an5 cd5 ct5), sl5⟩) (c5 : PySem.W.codeIn K cd5 "stands_behind" = true) (k5 : PySem.W.keepIn K (.ref f5) = true)
    (a6 : PySem.W.nsIn K mainGlobals "in_order" = some (some (.ref f6))) (l6 : K.lookup f6 = some ⟨oc6, od6, .func (PySem.W.fnOf "in_order" "in_order" (defArgs (top i_in_order)) (defBody (top i_in_order)) (defScope (top i_in_order)) .none kV6 dc6 pm6 an6 cd6 ct6), sl6⟩) (c6 : PySem.W.codeIn K cd6 "in_order" = true) (k6 : PySem.W.keepIn K (.ref f6) = true)
    (a7 : PySem.W.nsIn K mainGlobals "first_stands" = some (some (.ref f7))) (l7 : K.lookup f7 = some ⟨oc7, od7, .func (PySem.W.fnOf "first_stands" "first_stands" (defArgs (top i_first_stands)) (defBody (top i_first_stands)) (defScope (top i_first_stands)) .none kV7 dc7 pm7 an7 cd7 ct7), sl7⟩) (c7 : PySem.W.codeIn K cd7 "first_stands" = true) (k7 : PySem.W.keepIn K (.ref f7) = true)
    (a8 : PySem.W.nsIn K mainGlobals "two_readings" = some (some (.ref f8))) (l8 : K.lookup f8 = some ⟨oc8, od8, .func (PySem.W.fnOf "two_readings" "two_readings" (defArgs (top i_two_readings)) (defBody (top i_two_readings)) (defScope (top i_two_readings)) .none kV8 dc8 pm8 an8 cd8 ct8), sl8⟩) (c8 : PySem.W.codeIn K cd8 "two_readings" = true) (k8 : PySem.W.keepIn K (.ref f8) = true)
    (a9 : PySem.W.nsIn K mainGlobals "_law_begin" = some (some (.ref f9))) (l9 : K.lookup f9 = some ⟨oc9, od9, .func (PySem.W.fnOf "_law_begin" "_law_begin" (defArgs (top i_law_begin)) (defBody (top i_law_begin)) (defScope (top i_law_begin)) .none kV9 dc9 pm9 an9 cd9 ct9), sl9⟩) (c9 : PySem.W.codeIn K cd9 "_law_begin" = true) (k9 : PySem.W.keepIn K (.ref f9) = true)
    (a10 : PySem.W.nsIn K mainGlobals "_law_take" = some (some (.ref f10))) (l10 : K.lookup f10 = some ⟨oc10, od10, .func (PySem.W.fnOf "_law_take" "_law_take" (defArgs (top i_law_take)) (defBody (top i_law_take)) (defScope (top i_law_take)) .none kV10 dc10 pm10 an10 cd10 ct10), sl10⟩) (c10 : PySem.W.codeIn K cd10 "_law_take" = true) (k10 : PySem.W.keepIn K (.ref f10) = true)
    (a11 : PySem.W.nsIn K mainGlobals "_law_names" = some (some (.ref f11))) (l11 : K.lookup f11 = some ⟨oc11, od11, .func (PySem.W.fnOf "_law_names" "_law_names" (defArgs (top i_law_names)) (defBody (top i_law_names)) (defScope (top i_law_names)) .none kV11 dc11 pm11 an11 cd11 ct11), sl11⟩) (c11 : PySem.W.codeIn K cd11 "_law_names" = true) (k11 : PySem.W.keepIn K (.ref f11) = true)
    (a12 : PySem.W.nsIn K mainGlobals "_law_free" = some (some (.ref f12))) (l12 : K.lookup f12 = some ⟨oc12, od12, .func (PySem.W.fnOf "_law_free" "_law_free" (defArgs (top i_law_free)) (defBody (top i_law_free)) (defScope (top i_law_free)) .none kV12 dc12 pm12 an12 cd12 ct12), sl12⟩) (c12 : PySem.W.codeIn K cd12 "_law_free" = true) (k12 : PySem.W.keepIn K (.ref f12) = true)
    (a13 : PySem.W.nsIn K mainGlobals "_law_sizes" = some (some (.ref f13))) (l13 : K.lookup f13 = some ⟨oc13, od13, .func (PySem.W.fnOf "_law_sizes" "_law_sizes" (defArgs (top i_law_sizes)) (defBody (top i_law_sizes)) (defScope (top i_law_sizes)) .none kV13 dc13 pm13 an13 cd13 ct13), sl13⟩) (c13 : PySem.W.codeIn K cd13 "_law_sizes" = true) (k13 : PySem.W.keepIn K (.ref f13) = true)
    (a14 : PySem.W.nsIn K mainGlobals "_law_book" = some (some (.ref f14))) (l14 : K.lookup f14 = some ⟨oc14, od14, .func (PySem.W.fnOf "_law_book" "_law_book" (defArgs (top i_law_book)) (defBody (top i_law_book)) (defScope (top i_law_book)) .none kV14 dc14 pm14 an14 cd14 ct14), sl14⟩) (c14 : PySem.W.codeIn K cd14 "_law_book" = true) (k14 : PySem.W.keepIn K (.ref f14) = true)
    (a15 : PySem.W.nsIn K mainGlobals "_law_counts" = some (some (.ref f15))) (l15 : K.lookup f15 = some ⟨oc15, od15, .func (PySem.W.fnOf "_law_counts" "_law_counts" (defArgs (top i_law_counts)) (defBody (top i_law_counts)) (defScope (top i_law_counts)) .none kV15 dc15 pm15 an15 cd15 ct15), sl15⟩) (c15 : PySem.W.codeIn K cd15 "_law_counts" = true) (k15 : PySem.W.keepIn K (.ref f15) = true)
    (a16 : PySem.W.nsIn K mainGlobals "_law_first" = some (some (.ref f16))) (l16 : K.lookup f16 = some ⟨oc16, od16, .func (PySem.W.fnOf "_law_first" "_law_first" (defArgs (top i_law_first)) (defBody (top i_law_first)) (defScope (top i_law_first)) .none kV16 dc16 pm16 an16 cd16 ct16), sl16⟩) (c16 : PySem.W.codeIn K cd16 "_law_first" = true) (k16 : PySem.W.keepIn K (.ref f16) = true)
    (a17 : PySem.W.nsIn K mainGlobals "law" = some (some (.ref f17))) (l17 : K.lookup f17 = some ⟨oc17, od17, .func (PySem.W.fnOf "law" "law" (defArgs (top i_law)) (defBody (top i_law)) (defScope (top i_law)) .none kV17 dc17 pm17 an17 cd17 ct17), sl17⟩) (c17 : PySem.W.codeIn K cd17 "law" = true) (k17 : PySem.W.keepIn K (.ref f17) = true)
    (z0 : PySem.W.nsIn K mainGlobals "len" = some none) (z1 : PySem.W.nsIn K mainGlobals "range" = some none) (z2 : PySem.W.nsIn K mainGlobals "max" = some none) (z3 : PySem.W.nsIn K mainGlobals "min" = some none) (z4 : PySem.W.nsIn K mainGlobals "sum" = some none) (z5 : PySem.W.nsIn K mainGlobals "all" = some none) (z6 : PySem.W.nsIn K mainGlobals "any" = some none) (z7 : PySem.W.nsIn K mainGlobals "list" = some none) (z8 : PySem.W.nsIn K mainGlobals "tuple" = some none) (z9 : PySem.W.nsIn K mainGlobals "int" = some none) (z10 : PySem.W.nsIn K mainGlobals "str" = some none) (z11 : PySem.W.nsIn K mainGlobals "bool" = some none) (z12 : PySem.W.nsIn K mainGlobals "zip" = some none) (z13 : PySem.W.nsIn K mainGlobals "enumerate" = some none) (z14 : PySem.W.nsIn K mainGlobals "isinstance" = some none) (z15 : PySem.W.nsIn K mainGlobals "divmod" = some none) :
    ∃ fd : FuncData, (∀ (s : Shared) (v : Value), BindsTo s fd ⟨[v], []⟩ [("_law_script", v)]) ∧ ∀ base : Heap, K.In base → base.Ns mainGlobals mg → FnOk l.prog w K mg base CX0 7 fa fd ["_law_script"] (spLaw K) := by
  have e := hfa.symm.trans (PySem.W.mg_of X G a17)
  cases e
  have T : Nm mg := ⟨PySem.W.mg_none_of X G z0, PySem.W.mg_none_of X G z1, PySem.W.mg_none_of X G z2, PySem.W.mg_none_of X G z3, PySem.W.mg_none_of X G z4, PySem.W.mg_none_of X G z5, PySem.W.mg_none_of X G z6, PySem.W.mg_none_of X G z7, PySem.W.mg_none_of X G z8, PySem.W.mg_none_of X G z9, PySem.W.mg_none_of X G z10, PySem.W.mg_none_of X G z11, PySem.W.mg_none_of X G z12, PySem.W.mg_none_of X G z13, PySem.W.mg_none_of X G z14, PySem.W.mg_none_of X G z15⟩
  have F1 := fun_mk (st := top i_length_first) l1 c1 k1
  have b1 := F1.binds (ps := ["text"]) fun _ _ _ _ _ _ => lenS fun _ => lenZ rfl
  have F2 := fun_mk (st := top i_stand_order) l2 c2 k2
  have b2 := F2.binds (ps := ["stand"]) fun _ _ _ _ _ _ => lenS fun _ => lenZ rfl
  have F3 := fun_mk (st := top i_least_stand) l3 c3 k3
  have b3 := F3.binds (ps := ["waiting"]) fun _ _ _ _ _ _ => lenS fun _ => lenZ rfl
  have F4 := fun_mk (st := top i_keep_least) l4 c4 k4
  have b4 := F4.binds (ps := ["waiting", "stands"]) fun _ _ _ _ _ _ => lenS fun _ => lenS fun _ => lenZ rfl
  have F5 := fun_mk (st := top i_stands_behind) l5 c5 k5
  have b5 := F5.binds (ps := ["book", "stand"]) fun _ _ _ _ _ _ => lenS fun _ => lenS fun _ => lenZ rfl
  have F6 := fun_mk (st := top i_in_order) l6 c6 k6
  have b6 := F6.binds (ps := ["book", "stand"]) fun _ _ _ _ _ _ => lenS fun _ => lenS fun _ => lenZ rfl
  have F7 := fun_mk (st := top i_first_stands) l7 c7 k7
  have b7 := F7.binds (ps := ["book"]) fun _ _ _ _ _ _ => lenS fun _ => lenZ rfl
  have F8 := fun_mk (st := top i_two_readings) l8 c8 k8
  have b8 := F8.binds (ps := ["book"]) fun _ _ _ _ _ _ => lenS fun _ => lenZ rfl
  have F9 := fun_mk (st := top i_law_begin) l9 c9 k9
  have b9 := F9.binds (ps := ["_law_script"]) fun _ _ _ _ _ _ => lenS fun _ => lenZ rfl
  have F10 := fun_mk (st := top i_law_take) l10 c10 k10
  have b10 := F10.binds (ps := ["_law_state", "_law_many"]) fun _ _ _ _ _ _ => lenS fun _ => lenS fun _ => lenZ rfl
  have F11 := fun_mk (st := top i_law_names) l11 c11 k11
  have b11 := F11.binds (ps := ["_law_state", "_law_many"]) fun _ _ _ _ _ _ => lenS fun _ => lenS fun _ => lenZ rfl
  have F12 := fun_mk (st := top i_law_free) l12 c12 k12
  have b12 := F12.binds (ps := ["_law_state", "_law_many", "_law_most"]) fun _ _ _ _ _ _ => lenS fun _ => lenS fun _ => lenS fun _ => lenZ rfl
  have F13 := fun_mk (st := top i_law_sizes) l13 c13 k13
  have b13 := F13.binds (ps := ["_law_state"]) fun _ _ _ _ _ _ => lenS fun _ => lenZ rfl
  have F14 := fun_mk (st := top i_law_book) l14 c14 k14
  have b14 := F14.binds (ps := ["_law_state"]) fun _ _ _ _ _ _ => lenS fun _ => lenZ rfl
  have F15 := fun_mk (st := top i_law_counts) l15 c15 k15
  have b15 := F15.binds (ps := ["_law_codes", "_law_text"]) fun _ _ _ _ _ _ => lenS fun _ => lenS fun _ => lenZ rfl
  have F16 := fun_mk (st := top i_law_first) l16 c16 k16
  have b16 := F16.binds (ps := ["_law_codes"]) fun _ _ _ _ _ _ => lenS fun _ => lenZ rfl
  have F17 := fun_mk (st := top i_law) l17 c17 k17
  refine ⟨PySem.W.fnOf "law" "law" (defArgs (top i_law)) (defBody (top i_law)) (defScope (top i_law)) .none kV17 dc17 pm17 an17 cd17 ct17, fun s v => .of_eq rfl, fun base hB hG => ?_⟩
  have fLf : Fn l.prog w K mg base 1 "length_first" ["text"] (spLf) := ⟨f1, _, ok_lf F1 T, b1, k1, PySem.W.mg_of X G a1⟩
  have fSo : Fn l.prog w K mg base 2 "stand_order" ["stand"] (spSo) := ⟨f2, _, ok_so F2 T fLf, b2, k2, PySem.W.mg_of X G a2⟩
  have fLs : Fn l.prog w K mg base 5 "least_stand" ["waiting"] (spLs3) := ⟨f3, _, ok_ls3 F3 T fSo, b3, k3, PySem.W.mg_of X G a3⟩
  have fKl : Fn l.prog w K mg base 3 "keep_least" ["waiting", "stands"] (spKl3 K) := ⟨f4, _, ok_kl3 F4 T fSo, b4, k4, PySem.W.mg_of X G a4⟩
  have fSb : Fn l.prog w K mg base 1 "stands_behind" ["book", "stand"] (spSb3 K) := ⟨f5, _, ok_sb3 F5 T, b5, k5, PySem.W.mg_of X G a5⟩
  have fIo : Fn l.prog w K mg base 1 "in_order" ["book", "stand"] (spIo3 K) := ⟨f6, _, ok_io3 F6 T, b6, k6, PySem.W.mg_of X G a6⟩
  have fFs : Fn l.prog w K mg base 2 "first_stands" ["book"] (spFs3 K) := ⟨f7, _, ok_fs3 F7 T fSb, b7, k7, PySem.W.mg_of X G a7⟩
  have fTr : Fn l.prog w K mg base 6 "two_readings" ["book"] (spTr3 K) := ⟨f8, _, ok_tr3 F8 T fSb fFs fKl fLs fIo, b8, k8, PySem.W.mg_of X G a8⟩
  have fBegin : Fn l.prog w K mg base 1 "_law_begin" ["_law_script"] (spBegin K) := ⟨f9, _, ok_begin F9 T, b9, k9, PySem.W.mg_of X G a9⟩
  have fTake : Fn l.prog w K mg base 1 "_law_take" ["_law_state", "_law_many"] (spTake) := ⟨f10, _, ok_take F10 T, b10, k10, PySem.W.mg_of X G a10⟩
  have fTk : Fn l.prog w K mg base 1 "_law_take" ["_law_state", "_law_many"] (spTk) := Fn.imp fTake (fun _ _ _ _ h => spTk_of h)
  have fNl : Fn l.prog w K mg base 2 "_law_names" ["_law_state", "_law_many"] (spNl) := ⟨f11, _, ok_nl16 F11 T fTk, b11, k11, PySem.W.mg_of X G a11⟩
  have fFree : Fn l.prog w K mg base 2 "_law_free" ["_law_state", "_law_many", "_law_most"] (spFr) := ⟨f12, _, ok_free F12 T fTk, b12, k12, PySem.W.mg_of X G a12⟩
  have fSz : Fn l.prog w K mg base 2 "_law_sizes" ["_law_state"] (spSz) := ⟨f13, _, ok_sz F13 T fTk, b13, k13, PySem.W.mg_of X G a13⟩
  have fBk : Fn l.prog w K mg base 3 "_law_book" ["_law_state"] (spBk K) := ⟨f14, _, ok_bk16 F14 T fTk fSz fFree fNl, b14, k14, PySem.W.mg_of X G a14⟩
  have fCt : Fn l.prog w K mg base 1 "_law_counts" ["_law_codes", "_law_text"] (spCt) := ⟨f15, _, ok_ct F15 T, b15, k15, PySem.W.mg_of X G a15⟩
  have fFi : Fn l.prog w K mg base 2 "_law_first" ["_law_codes"] (spFi) := ⟨f16, _, ok_fi F16 T fCt, b16, k16, PySem.W.mg_of X G a16⟩
  exact ok_law F17 T fBegin fBk fTr fFi
theorem walk {l : PySem.W.OpenLaw} {q : Program} {loose : List Str} {XP : (Str → Option Value) → Heap → Prop} {YP : World → Heap → Prop} {d : DefRec} {K : Params → PySem.W.Frag} (hn : l.most = some 63) (hdf : d.params.defaults = [])
    (hY : ∀ (w : World) (h : Heap), YP w h → (K w.params).In h)
    (F : ∀ (w : World) (mg : Str → Option Value) (fa : Addr) (h : Heap), (K w.params).In h → h.Ns mainGlobals mg → mg d.name = some (.ref fa) →
      ∃ fd : FuncData, (∀ (s : Shared) (u : Value), BindsTo s fd ⟨[u], []⟩ [("_law_script", u)]) ∧ ∀ base : Heap, (K w.params).In base → base.Ns mainGlobals mg → FnOk l.prog w (K w.params) mg base CX0 7 fa fd ["_law_script"] (spLaw (K w.params))) :
    PySem.W.WalkO q loose XP YP l.row.toRowW d [] (fun f vs => PySem.call f vs) :=
  L2.walk_of (n := 63) (k := 7) (x := "_law_script") (CX := fun _ => CX0) (sp := fun w => spLaw (K w.params)) hn (by decide) hdf ⟨rfl, by decide, by decide, rfl⟩ hY F (fun _ _ a ns hl _ hS => ⟨a, ns, rfl, hS, hl, fun _ => rfl⟩) fun _ _ _ _ _ z => z
end Z
open PySem PySem.W PyProof.Rows L2
set_option maxRecDepth 100000 in
set_option maxHeartbeats 0 in
theorem PySem.Challenge.cw_oddlong_k18_readings_of_all_short_texts_holds : PySem.Challenge.rw_oddlong_k18_readings_of_all_short_texts.Holds := by
  w_on; o_law; k_head; (case hw => w_witness2)
  k_fill
  refine Z.walk (l := PySem.Challenge.rw_oddlong_k18_readings_of_all_short_texts) rfl rfl (fun w h Y => PySem.W.kIn_of Y) ?F
  case F =>
    intro w mg fa h KX G hmg
    refine' Z.all_mk KX G hmg ?a1 ?l1 ?c1 ?k1 ?a2 ?l2 ?c2 ?k2 ?a3 ?l3 ?c3 ?k3 ?a4 ?l4 ?c4 ?k4 ?a5 ?l5 ?c5 ?k5 ?a6 ?l6 ?c6 ?k6 ?a7 ?l7 ?c7 ?k7 ?a8 ?l8 ?c8 ?k8 ?a9 ?l9 ?c9 ?k9 ?a10 ?l10 ?c10 ?k10 ?a11 ?l11 ?c11 ?k11 ?a12 ?l12 ?c12 ?k12 ?a13 ?l13 ?c13 ?k13 ?a14 ?l14 ?c14 ?k14 ?a15 ?l15 ?c15 ?k15 ?a16 ?l16 ?c16 ?k16 ?a17 ?l17 ?c17 ?k17 ?z0 ?z1 ?z2 ?z3 ?z4 ?z5 ?z6 ?z7 ?z8 ?z9 ?z10 ?z11 ?z12 ?z13 ?z14 ?z15
    (case a1 => k_is); (case l1 => k_is); (case c1 => k_is); (case k1 => k_is); (case a2 => k_is); (case l2 => k_is); (case c2 => k_is); (case k2 => k_is)
    (case a3 => k_is); (case l3 => k_is); (case c3 => k_is); (case k3 => k_is); (case a4 => k_is); (case l4 => k_is); (case c4 => k_is); (case k4 => k_is)
    (case a5 => k_is); (case l5 => k_is); (case c5 => k_is); (case k5 => k_is); (case a6 => k_is); (case l6 => k_is); (case c6 => k_is); (case k6 => k_is)
    (case a7 => k_is); (case l7 => k_is); (case c7 => k_is); (case k7 => k_is); (case a8 => k_is); (case l8 => k_is); (case c8 => k_is); (case k8 => k_is)
    (case a9 => k_is); (case l9 => k_is); (case c9 => k_is); (case k9 => k_is); (case a10 => k_is); (case l10 => k_is); (case c10 => k_is); (case k10 => k_is)
    (case a11 => k_is); (case l11 => k_is); (case c11 => k_is); (case k11 => k_is); (case a12 => k_is); (case l12 => k_is); (case c12 => k_is); (case k12 => k_is)
    (case a13 => k_is); (case l13 => k_is); (case c13 => k_is); (case k13 => k_is); (case a14 => k_is); (case l14 => k_is); (case c14 => k_is); (case k14 => k_is)
    (case a15 => k_is); (case l15 => k_is); (case c15 => k_is); (case k15 => k_is); (case a16 => k_is); (case l16 => k_is); (case c16 => k_is); (case k16 => k_is)
    (case a17 => k_is); (case l17 => k_is); (case c17 => k_is); (case k17 => k_is); (case z0 => k_is); (case z1 => k_is); (case z2 => k_is); (case z3 => k_is)
    (case z4 => k_is); (case z5 => k_is); (case z6 => k_is); (case z7 => k_is); (case z8 => k_is); (case z9 => k_is); (case z10 => k_is); (case z11 => k_is)
    (case z12 => k_is); (case z13 => k_is); (case z14 => k_is); (case z15 => k_is)
