import PyProof.Rows.All
import Wide.All
import OpenK.AllK
import Wide.FinOn
import PyProof.EqAt
import PyProof.EqKinds
import PyProof.TupleCall
import PyProof.DictCompW
import PyProof.Rows.SortWalk
import OpenK.KRaise
import PyProof.ExcClass2
import KE.KTryMore
import KE.KSortTup
import KE.KIsAll
import PyProof.ListRange
import PyProof.StrBlock2
import PyProof.Rows.SetFrom
import PyProof.SetRoads
import PyProof.ReprRoads
import PyProof.CallStr
import PyProof.Rows.SortStr
import PyProof.Rows.Range3
import PyProof.Rows.IntBool
import KE.KRevIter
import PyProof.MeetsSeq
import PyProof.MinMaxWalk
import PyProof.SliceStr2
import PyProof.P3Eq
import PyProof.Rows.StrLen
import PyProof.Rows.StrCase
import PyProof.InstStoreFacts
import PyProof.ExcInit
import PyProof.StrCalls
import PyProof.DictIter
import PyProof.DictWalks
import PyProof.AutoIntG2
import PyProof.DictItems
import PyProof.RulesTry
import PyProof.EnumMake
import PyProof.Draws
import PyProof.FactsAll.set_1
import PyProof.IsiH_list
import KE.KDictOf
import PyProof.RulesRaise
import KE.KIntText
import PyProof.DictRoadsH
import PyProof.Rows.CatFin
import Lean
import PySem.Challenge.RW_oddlong_k12_texts_again_and_shared
set_option Elab.async false
set_option linter.all false
set_option maxRecDepth 100000
/-! THE HAND LAYER, for ints, bools, texts, own classes, LISTS and tuples (index, slices, in, append, pop ..), calls, loops. Paste it whole ahead of your own text; what your proof does not reach may be deleted. -/
namespace L2
/-! several things there are, with one constructor: what is said of them is stored once -/
set_option genSizeOf false
set_option genInjectivity false
inductive Ex2 {α0 α1 : Type} (P : α0 → α1 → Prop) : Prop | mk (x0 : α0) (x1 : α1) (h : P x0 x1) : Ex2 P
inductive Ex3 {α0 α1 α2 : Type} (P : α0 → α1 → α2 → Prop) : Prop | mk (x0 : α0) (x1 : α1) (x2 : α2) (h : P x0 x1 x2) : Ex3 P
inductive Ex4 {α0 α1 α2 α3 : Type} (P : α0 → α1 → α2 → α3 → Prop) : Prop | mk (x0 : α0) (x1 : α1) (x2 : α2) (x3 : α3) (h : P x0 x1 x2 x3) : Ex4 P
inductive Ex5 {α0 α1 α2 α3 α4 : Type} (P : α0 → α1 → α2 → α3 → α4 → Prop) : Prop | mk (x0 : α0) (x1 : α1) (x2 : α2) (x3 : α3) (x4 : α4) (h : P x0 x1 x2 x3 x4) : Ex5 P
inductive Ex6 {α0 α1 α2 α3 α4 α5 : Type} (P : α0 → α1 → α2 → α3 → α4 → α5 → Prop) : Prop | mk (x0 : α0) (x1 : α1) (x2 : α2) (x3 : α3) (x4 : α4) (x5 : α5) (h : P x0 x1 x2 x3 x4 x5) : Ex6 P
set_option genSizeOf true
set_option genInjectivity true
end L2
namespace L2
open PySem PySem.Spec PyProof.Rows

/-- a key: an int or a str -/
noncomputable abbrev Key := Sum Int Str
noncomputable def keyIs : Key → Value → Bool
  | .inl k, v => Value.isInt k v
  | .inr x, v => Value.isStrOf x v
noncomputable def keyH (w : World) : Key → Int
  | .inl k => hashInt k
  | .inr x => hashStr w x
theorem keyIs_shape : ∀ {k : Key} {v : Value}, keyIs k v = true → (∃ i t, k = Sum.inl i ∧ v = Value.int i t) ∨ (∃ x t, k = Sum.inr x ∧ v = Value.str x t)
  | .inl i, v, h => by
    obtain ⟨t, e⟩ := Value.isInt_shape (k := i) (v := v) h
    exact .inl ⟨i, t, rfl, e⟩
  | .inr x, v, h => by
    obtain ⟨t, e⟩ := Value.isStrOf_shape (x := x) (v := v) h
    exact .inr ⟨x, t, rfl, e⟩
theorem keyIs_int (i : Int) (t : Tok) : keyIs (.inl i) (.int i t) = true := by simp [keyIs, Value.isInt]
theorem keyIs_str (x : Str) (t : Tok) : keyIs (.inr x) (.str x t) = true := by simp [keyIs, Value.isStrOf]
theorem key_ll (a b : Int) : decide ((Sum.inl a : Key) = Sum.inl b) = (a == b) := by
  by_cases e : a = b
  · subst e; simp
  · have h : ¬ (Sum.inl a : Key) = Sum.inl b := fun q => e (Sum.inl.inj q)
    rw [decide_eq_false h]
    exact (beq_eq_false_iff_ne.mpr e).symm
theorem key_rr (a b : Str) : decide ((Sum.inr a : Key) = Sum.inr b) = decide (a = b) := by
  by_cases e : a = b
  · subst e; simp
  · have h : ¬ (Sum.inr a : Key) = Sum.inr b := fun q => e (Sum.inr.inj q)
    rw [decide_eq_false h, decide_eq_false e]
theorem key_lr (a : Int) (b : Str) : decide ((Sum.inl a : Key) = Sum.inr b) = false := decide_eq_false (fun q => nomatch q)
theorem key_rl (a : Str) (b : Int) : decide ((Sum.inr a : Key) = Sum.inl b) = false := decide_eq_false (fun q => nomatch q)

noncomputable def mixKind (prog : Program) (w : World) : PySem.KeyKind prog w Key where
  is := keyIs
  hash := keyH w
  inj := fun v a b ha hb => by
    rcases keyIs_shape ha with ⟨i, t, rfl, rfl⟩ | ⟨x, t, rfl, rfl⟩
    · rcases keyIs_shape hb with ⟨j, u, rfl, e⟩ | ⟨y, u, rfl, e⟩
      · injection e with e1 _; rw [e1]
      · exact nomatch e
    · rcases keyIs_shape hb with ⟨j, u, rfl, e⟩ | ⟨y, u, rfl, e⟩
      · exact nomatch e
      · injection e with e1 _; rw [e1]
  byValue := fun k v h => by
    rcases keyIs_shape h with ⟨i, t, rfl, rfl⟩ | ⟨x, t, rfl, rfl⟩ <;> rfl
  pyHash := fun hv h => by
    rcases keyIs_shape hv with ⟨i, t, rfl, rfl⟩ | ⟨x, t, rfl, rfl⟩
    · exact wpAny_pyHash_int h
    · exact wpAny_pyHash_str h
  eqBool := fun hu hv h => by
    rcases keyIs_shape hu with ⟨i, t, rfl, rfl⟩ | ⟨x, t, rfl, rfl⟩
    · rcases keyIs_shape hv with ⟨j, u, rfl, rfl⟩ | ⟨y, u, rfl, rfl⟩
      · rw [key_ll] at h; exact wpAny_eqBool_int h
      · rw [key_lr] at h; exact SeqAt.EqAt.int_str i t y u _ _ _ _ h
    · rcases keyIs_shape hv with ⟨j, u, rfl, rfl⟩ | ⟨y, u, rfl, rfl⟩
      · rw [key_rl] at h; exact SeqAt.EqAt.str_int x t j u _ _ _ _ h
      · rw [key_rr] at h; exact wpAny_eqBool_str h
  «strs» := fun k x t v h => by
    rcases keyIs_shape h with ⟨i, u, rfl, e⟩ | ⟨y, u, rfl, e⟩
    · exact nomatch e
    · injection e with e1 _
      subst e1
      cases v <;> rfl

theorem mixKind_int (prog : Program) (w : World) (i : Int) (t : Tok) : (mixKind prog w).is (.inl i) (.int i t) = true := keyIs_int i t
theorem mixKind_str (prog : Program) (w : World) (x : Str) (t : Tok) : (mixKind prog w).is (.inr x) (.str x t) = true := keyIs_str x t
end L2

namespace L2
open PySem PySem.Spec PyProof.Rows

/-- a value, without the heap -/
inductive V where
  | non | bl (b : Bool) | int (i : Int) | str (x : Str) | byt (b : Array UInt8) | flt (b : UInt64) | ref (a : Addr) | ty (n : String)
  deriving DecidableEq

noncomputable def RelV : V → Value → Prop
  | .non, u => u = Value.none
  | .bl b, u => u = Value.bool b
  | .int i, u => ∃ t, u = Value.int i t
  | .str x, u => ∃ t, u = Value.str x t
  | .byt b, u => ∃ t, u = Value.bytes b t
  | .flt b, u => ∃ t, u = Value.float b t
  | .ref a, u => u = Value.ref a
  | .ty n, u => u = Value.type n

noncomputable abbrev Vals : List V → List Value → Prop := Paired RelV
theorem Vals.length {xs : List V} {us : List Value} (r : Vals xs us) : xs.length = us.length := Paired.length r
theorem Vals.get : ∀ {xs : List V} {us : List Value} {i : Nat} {x : V}, Vals xs us → xs[i]? = some x → ∃ u, us[i]? = some u ∧ RelV x u
  | _, _, _, _, .nil, e => by simp at e
  | _, _, 0, _, .cons r _, e => by simp at e; subst e; exact ⟨_, rfl, r⟩
  | _, _, i + 1, x, .cons _ t, e => by
    obtain ⟨u, h1, h2⟩ := Vals.get (i := i) (x := x) t (by simpa using e)
    exact ⟨u, by simpa using h1, h2⟩
theorem Vals.set {x : V} {u : Value} (r : RelV x u) : ∀ {xs : List V} {us : List Value} (i : Nat), Vals xs us → Vals (xs.set i x) (us.set i u)
  | _, _, _, .nil => .nil
  | _, _, 0, .cons _ t => .cons r t
  | _, _, i + 1, .cons q t => .cons q (Vals.set r i t)
theorem Vals.append {xs ys : List V} {us ws : List Value} (h : Vals xs us) (s : Vals ys ws) : Vals (xs ++ ys) (us ++ ws) := by
  induction h with
  | nil => exact s
  | cons r t ih => exact .cons r ih
theorem Vals.take : ∀ {xs : List V} {us : List Value} (n : Nat), Vals xs us → Vals (xs.take n) (us.take n)
  | _, _, 0, _ => .nil
  | _, _, _ + 1, .nil => .nil
  | _, _, n + 1, .cons r t => .cons r (Vals.take n t)
theorem Vals.drop : ∀ {xs : List V} {us : List Value} (n : Nat), Vals xs us → Vals (xs.drop n) (us.drop n)
  | _, _, 0, r => r
  | _, _, _ + 1, .nil => .nil
  | _, _, n + 1, .cons _ t => Vals.drop n t
noncomputable def RelO : Option V → Option Value → Prop
  | some v, some u => RelV v u
  | none, none => True
  | _, _ => False
noncomputable def KV {κ : Type} : List (κ × V) → List (κ × Value) → Prop := Paired fun (p : κ × V) (q : κ × Value) => p.1 = q.1 ∧ RelV p.2 q.2

/-- a key of a dict (00_mix): an int or a text -/
noncomputable def kV : Key → V
  | .inl i => .int i
  | .inr x => .str x

/-- what stands at a tracked address -/
inductive HO where
  /-- a list -/
  | lst (xs : List V)
  /-- a tuple (never changes) -/
  | tup (xs : List V)
  /-- a dict whose keys are ints and texts; one whose keys are tuples of ints and texts (the empty one is both) -/
  | dK (kvs : List (Key × V)) | dT (kvs : List (List Key × V))
  /-- a set of ints: its members, its size -/
  | set (S : Int → Bool) (n : Nat)
  /-- an instance of the class at C, its dict at dx, its attributes -/
  | ins (C dx : Addr) (fs : List (Str × V))
  /-- the dict of the instance at x -/
  | own (x : Addr)
  /-- the dict of an exception -/
  | xd (fs : List (Str × V))
  /-- a bound method, f of x -/
  | met (f x : Addr)
  /-- a range object lo, lo + 1, .. below hi -/
  | rng (lo hi : Int)
  /-- a thing that is known to the object (the script; a dict while a loop walks it): read, never written while it is so -/
  | frz (o : Obj) (u : HO)
  /-- a code object's table -/
  | tbl (ps : Array Value)
  /-- any other thing, by what is true of its one object (a def of one's own: SetO a S n := HO.ext fun h => ..) -/
  | ext (φ : Heap → Prop)

noncomputable abbrev Hp := Addr → Option HO
noncomputable def upd (H : Hp) (a : Addr) (o : HO) : Hp := fun b => if b = a then some o else H b
theorem upd_same {H : Hp} {a : Addr} {o : HO} : upd H a o a = some o := by unfold upd; rw [if_pos rfl]
theorem upd_ne {H : Hp} {a b : Addr} {o : HO} (h : b ≠ a) : upd H a o b = H b := by unfold upd; rw [if_neg h]
theorem upd_upd {H : Hp} {a : Addr} {o u : HO} : upd (upd H a o) a u = upd H a u := by
  funext b; unfold upd; split <;> rfl
/-- two objects of different content stand apart -/
theorem ne_of {H : Hp} {a b : Addr} {o u : HO} (h : H a = some o) (h' : H b = some u) (d : o ≠ u) : a ≠ b := by
  intro e; subst e; rw [h] at h'; exact d (Option.some.inj h')
theorem ne_of_none {H : Hp} {a b : Addr} {o : HO} (h : H a = some o) (h' : H b = none) : a ≠ b := by
  intro e; subst e; rw [h] at h'; cases h'

section
variable (P : Program) (w : World)
noncomputable def ObjOk (H : Hp) (h : Heap) (a : Addr) : HO → Prop
  | .lst xs => xs.length ≤ sizeLine ∧ Ex2 fun (its : List Value) (n : Nat) => Vals xs its ∧ h.get? a = some { cls := .type "list", data := .seq its.toArray n }
  | .tup xs => xs.length ≤ sizeLine ∧ ∃ its : List Value, Vals xs its ∧ IsTup h a its.toArray
  | .dK kvs => kvs.length ≤ sizeLine ∧ (a == sysModules) = false ∧ ∃ vs, KV kvs vs ∧ h.DictOf (mixKind P w) a vs
  | .dT kvs => kvs.length ≤ sizeLine ∧ (a == sysModules) = false ∧ ∃ xs : List (List Key × Addr × Value),
      Paired (fun (p : List Key × V) (q : List Key × Addr × Value) => p.1 = q.1 ∧ H q.2.1 = some (.tup (p.1.map kV)) ∧ RelV p.2 q.2.2) kvs xs ∧
      Ex3 fun o es ep => h.get? a = some o ∧ o.ExactDict ∧ o.data = .dict es ep ∧ es.toList = xs.map (entryOfKey (tupleKind (mixKind P w))) ∧ (xs.map (·.1)).Nodup
  | .set S n => h.SetOf (intKind P w) a S n
  | .ins C dx fs => H dx = some (.own a) ∧ fs.length ≤ 1000 ∧ dx ≠ a ∧ h.get? a = some (PySem.W.instObj C dx) ∧
      ∃ mA, h.Ns1 dx mA ∧ (∀ f, RelO (fs.lookup f) (mA f)) ∧ PySem.Within mA (fs.map (·.1))
  | .own _ => ∃ o, h.get? a = some o
  | .xd fs => ∃ mA, h.Ns1 a mA ∧ ∀ f, RelO (fs.lookup f) (mA f)
  | .rng lo hi => Ex3 fun t u v => h.get? a = some { cls := .type "range", data := .fields #[.int lo t, .int hi u, .int 1 v] }
  | .frz o u => h.get? a = some o ∧ ObjOk H h a u
  | .tbl ps => h.get? a = some { cls := .none, data := .fields ps }
  | .met f x => h.get? a = some (PySem.W.methodObj (.ref f) (.ref x))
  | .ext φ => φ h ∧ (∃ o, h.get? a = some o) ∧ ∀ h1 h2 : Heap, φ h1 → (∀ o, h1.get? a = some o → h2.get? a = some o) → φ h2
/-- the abstract heap is held -/
noncomputable def HOk (H : Hp) (h : Heap) : Prop := ∀ a o, H a = some o → ObjOk P w H h a o
end

section
variable {P : Program} {w : World} {H H' : Hp} {h h' : Heap} {a : Addr} {o : HO}
theorem ObjOk.lt (x : ObjOk P w H h a o) : a < h.objs.size := by
  cases o with
  | lst xs => obtain ⟨_, _, _, _, e⟩ := x; exact Heap.lt_size e
  | tup xs => obtain ⟨_, _, _, p⟩ := x; exact p.lt
  | dK kvs => obtain ⟨_, _, _, _, o, _, _, e, _⟩ := x; exact Heap.lt_size e
  | dT kvs => obtain ⟨_, _, _, _, o, _, _, e, _⟩ := x; exact Heap.lt_size e
  | set S n => obtain ⟨o, _, _, _, e, _⟩ := x; exact Heap.lt_size e
  | ins C dx fs => obtain ⟨_, _, _, e, _⟩ := x; exact Heap.lt_size e
  | own y => obtain ⟨_, e⟩ := x; exact Heap.lt_size e
  | xd fs => obtain ⟨_, ⟨_, _, _, e, _⟩, _⟩ := x; exact Heap.lt_size e
  | rng lo hi => obtain ⟨_, _, _, e⟩ := x; exact Heap.lt_size e
  | frz ob u => obtain ⟨e, _⟩ := x; exact Heap.lt_size e
  | tbl ps => exact Heap.lt_size (show h.get? a = some _ from x)
  | met f y => exact Heap.lt_size (show h.get? a = some _ from x)
  | ext φ => obtain ⟨_, ⟨_, e⟩, _⟩ := x; exact Heap.lt_size e
theorem Paired.mapP {α β : Type} {F G : α → β → Prop} {l₁ : List α} {l₂ : List β} (h : Paired F l₁ l₂) (f : ∀ a b, F a b → G a b) : Paired G l₁ l₂ := by
  induction h with
  | nil => exact .nil
  | cons r t ih => exact .cons (f _ _ r) ih
/-- what an object's description leans on: its own object, its own dict, the tuples -/
theorem ObjOk.stay (x : ObjOk P w H h a o) (k : ∀ b u, (b = a ∨ H b = some (.own a)) → h.get? b = some u → h'.get? b = some u)
    (ho : ∀ b, H b = some (.own a) → H' b = some (.own a)) (ht : ∀ b xs, H b = some (.tup xs) → H' b = some (.tup xs)) : ObjOk P w H' h' a o := by
  induction o with
  | lst xs => obtain ⟨z, its, n, r, e⟩ := x; exact ⟨z, its, n, r, k _ _ (.inl rfl) e⟩
  | tup xs => obtain ⟨z, its, r, ob, e, c⟩ := x; exact ⟨z, its, r, ob, k _ _ (.inl rfl) e, c⟩
  | dK kvs => obtain ⟨z, y, vs, r, ob, es, ep, e, c⟩ := x; exact ⟨z, y, vs, r, ob, es, ep, k _ _ (.inl rfl) e, c⟩
  | dT kvs =>
    obtain ⟨z, y, xs, r, ob, es, ep, e, c⟩ := x
    exact ⟨z, y, xs, Paired.mapP r fun p q z => ⟨z.1, ht _ _ z.2.1, z.2.2⟩, ob, es, ep, k _ _ (.inl rfl) e, c⟩
  | set S n => obtain ⟨ob, es, ep, t, e, c⟩ := x; exact ⟨ob, es, ep, t, k _ _ (.inl rfl) e, c⟩
  | ins C dx fs =>
    obtain ⟨d, z, ne, e, mA, ⟨od, es, ep, e2, c⟩, r⟩ := x
    exact ⟨ho _ d, z, ne, k _ _ (.inl rfl) e, mA, ⟨od, es, ep, k _ _ (.inr d) e2, c⟩, r⟩
  | own y => obtain ⟨ob, e⟩ := x; exact ⟨ob, k _ _ (.inl rfl) e⟩
  | xd fs => obtain ⟨mA, ⟨od, es, ep, e, c⟩, r⟩ := x; exact ⟨mA, ⟨od, es, ep, k _ _ (.inl rfl) e, c⟩, r⟩
  | rng lo hi => obtain ⟨t, u, v, e⟩ := x; exact ⟨t, u, v, k _ _ (.inl rfl) e⟩
  | frz ob u ih => obtain ⟨e, q⟩ := x; exact ⟨k _ _ (.inl rfl) e, ih q⟩
  | tbl ps =>
    have e : h.get? a = some { cls := .none, data := .fields ps } := x
    show h'.get? a = some { cls := .none, data := .fields ps }
    exact k a _ (.inl rfl) e
  | met f y =>
    have e : h.get? a = some (PySem.W.methodObj (.ref f) (.ref y)) := x
    show h'.get? a = some (PySem.W.methodObj (.ref f) (.ref y))
    exact k a _ (.inl rfl) e
  | ext φ => obtain ⟨p, ⟨o, e⟩, st⟩ := x; exact ⟨st _ _ p fun o q => k _ _ (.inl rfl) q, ⟨o, k _ _ (.inl rfl) e⟩, st⟩
theorem HOk.lt (x : HOk P w H h) (e : H a = some o) : a < h.objs.size := (x a o e).lt
theorem HOk.fresh (x : HOk P w H h) (e : h.objs.size ≤ a) : H a = none := by
  cases q : H a with
  | none => rfl
  | some u => exact absurd (Nat.lt_of_lt_of_le (x.lt q) e) (Nat.lt_irrefl _)
/-- every object of the heap is kept -/
theorem HOk.kept (x : HOk P w H h) (k : ∀ b u, h.get? b = some u → h'.get? b = some u) : HOk P w H h' := fun a o e =>
  (x a o e).stay (fun b u _ q => k b u q) (fun _ q => q) fun _ _ q => q
/-- a new object is laid and tracked -/
theorem HOk.laid (x : HOk P w H h) (k : ∀ b u, h.get? b = some u → h'.get? b = some u) (hp : h.objs.size ≤ a) (new : ObjOk P w (upd H a o) h' a o) : HOk P w (upd H a o) h' := fun b u e => by
  have hn := x.fresh hp
  by_cases hb : b = a
  · subst hb; rw [upd_same] at e; cases e; exact new
  · rw [upd_ne hb] at e
    exact (x b u e).stay (fun c v _ q => k c v q) (fun c q => by rw [upd_ne (ne_of_none q hn)]; exact q) fun c xs q => by rw [upd_ne (ne_of_none q hn)]; exact q
end

/-- what may be read as u: it is u, or a known u -/
noncomputable def Rd (H : Hp) (a : Addr) (u : HO) : Prop := H a = some u ∨ ∃ o, H a = some (.frz o u)
theorem Rd.ok {P : Program} {w : World} {H : Hp} {h : Heap} {a : Addr} {u : HO} (r : Rd H a u) (x : HOk P w H h) : ObjOk P w H h a u := by
  rcases r with r | ⟨o, r⟩
  · exact x a u r
  · obtain ⟨_, q⟩ := x a _ r
    exact q
/-- what may be written -/
noncomputable def Mut : Option HO → Prop
  | some (.lst _) => True
  | some (.dK _) => True
  | some (.dT _) => True
  | some (.set _ _) => True
  | some (.ins _ _ _) => True
  | some (.ext _) => True
  | _ => False
section
variable {P : Program} {w : World} {H : Hp} {h h' : Heap} {x e : Addr} {o' : HO}
/-- the object at e is changed: x itself, or the dict of the instance x -/
theorem HOk.write (ok : HOk P w H h) (mu : Mut (H x)) (he : e = x ∨ H e = some (.own x)) (k : ∀ b u, b ≠ e → h.get? b = some u → h'.get? b = some u) (heo : ∃ u, h'.get? e = some u)
    (new : ObjOk P w (upd H x o') h' x o') : HOk P w (upd H x o') h' := fun b u q => by
  have nown : ∀ c y, H c = some (.own y) → c ≠ x := fun c y r z => by subst z; rw [r] at mu; exact mu
  have ntup : ∀ c xs, H c = some (.tup xs) → c ≠ x := fun c xs r z => by subst z; rw [r] at mu; exact mu
  by_cases hb : b = x
  · subst hb; rw [upd_same] at q; cases q; exact new
  · rw [upd_ne hb] at q
    by_cases hbe : b = e
    · have q' : H b = some (.own x) := by
        rcases he with z | z
        · exact absurd (hbe.trans z) hb
        · rw [hbe]; exact z
      rw [q] at q'; cases q'
      obtain ⟨v, hv⟩ := heo
      exact ⟨v, by rw [hbe]; exact hv⟩
    · refine (ok b u q).stay (fun c v hc r => k c v ?_ r) (fun c r => by rw [upd_ne (nown c b r)]; exact r) fun c xs r => by rw [upd_ne (ntup c xs r)]; exact r
      rcases hc with rfl | hc
      · exact hbe
      · rintro rfl
        rcases he with z | z
        · exact nown c b hc z
        · rw [hc] at z; cases z; exact hb rfl
end

/-! ### kept unless tracked; of the frames at fs (the callers') the slots may change (an exception that passes writes there); of the records at ex (iterators) nothing is said -/
structure Un (fs ex : List Addr) (H H' : Hp) (h h' : Heap) : Prop where
  keep : ∀ b o, h.get? b = some o → H b = none → b ∉ fs → b ∉ ex → h'.get? b = some o
  slot : ∀ b o, h.get? b = some o → H b = none → b ∈ fs → b ∉ ex → ∃ sl, h'.get? b = some { o with slots := sl }
  free : ∀ b o, h.get? b = some o → H b = none → b ∉ ex → H' b = none
  there : ∀ b o, h.get? b = some o → b ∉ ex → ∃ o', h'.get? b = some o'
  tups : ∀ b xs, H b = some (.tup xs) → H' b = some (.tup xs)
  frzs : ∀ b o u, H b = some (.frz o u) → H' b = some (.frz o u)
  tbls : ∀ b ps, H b = some (.tbl ps) → ∃ more, H' b = some (.tbl (ps ++ more))
section
variable {fs fs' ex ex' : List Addr} {H H1 H2 : Hp} {h h1 h2 h' : Heap} {a x e : Addr} {o : HO}
theorem Un.any (u : Un fs ex H H1 h h1) {b : Addr} {ob : Obj} (q : h.get? b = some ob) (n : H b = none) (hx : b ∉ ex) : ∃ sl, h1.get? b = some { ob with slots := sl } := by
  by_cases hb : b ∈ fs
  · exact u.slot b ob q n hb hx
  · exact ⟨ob.slots, u.keep b ob q n hb hx⟩
theorem Un.kept (k : ∀ b u, h.get? b = some u → h'.get? b = some u) : Un fs ex H H h h' :=
  ⟨fun b ob q _ _ _ => k b ob q, fun b ob q _ _ _ => ⟨ob.slots, k b ob q⟩, fun _ _ _ n _ => n, fun b ob q _ => ⟨ob, k b ob q⟩, fun _ _ q => q, fun _ _ _ q => q, fun _ ps q => ⟨#[], by rw [q]; simp⟩⟩
theorem Un.refl : Un fs ex H H h h := Un.kept fun _ _ q => q
theorem Un.laid (k : ∀ b u, h.get? b = some u → h'.get? b = some u) (hp : h.objs.size ≤ a) (hn : H a = none) : Un fs ex H (upd H a o) h h' where
  keep := fun b u q _ _ _ => k b u q
  slot := fun b u q _ _ _ => ⟨u.slots, k b u q⟩
  free := fun b u q n _ => by rw [upd_ne (Nat.ne_of_lt (Nat.lt_of_lt_of_le (Heap.lt_size q) hp))]; exact n
  there := fun b u q _ => ⟨u, k b u q⟩
  tups := fun b xs q => by rw [upd_ne (ne_of_none q hn)]; exact q
  frzs := fun b u xs q => by rw [upd_ne (ne_of_none q hn)]; exact q
  tbls := fun b ps q => ⟨#[], by rw [upd_ne (ne_of_none q hn), q]; simp⟩
theorem Un.write (mu : Mut (H x)) (he : e = x ∨ H e = some (.own x)) (k : ∀ b u, b ≠ e → h.get? b = some u → h'.get? b = some u) (heo : ∃ u, h'.get? e = some u) : Un fs ex H (upd H x o) h h' := by
  have hx : ∀ b, H b = none → b ≠ x := fun b n z => by subst z; rw [n] at mu; exact mu
  have hb : ∀ b, H b = none → b ≠ e := fun b n z => by
    subst z
    rcases he with r | r
    · exact hx b n r
    · rw [n] at r; cases r
  have hm : ∀ b u, H b = some u → ¬ Mut (some u) → b ≠ x := fun b u q nm z => by subst z; rw [q] at mu; exact nm mu
  refine ⟨fun b u q n _ _ => k b u (hb b n) q, fun b u q n _ _ => ⟨u.slots, k b u (hb b n) q⟩, fun b u q n _ => by rw [upd_ne (hx b n)]; exact n, fun b u q _ => ?_,
    fun b xs q => by rw [upd_ne (hm b _ q fun z => z)]; exact q, fun b u xs q => by rw [upd_ne (hm b _ q fun z => z)]; exact q, fun b ps q => ⟨#[], by rw [upd_ne (hm b _ q fun z => z), q]; simp⟩⟩
  by_cases hbe : b = e
  · subst hbe; exact heo
  · exact ⟨u, k b u hbe q⟩
end

/-! ### the heap without what is tracked -/
noncomputable def trk (h : Heap) (H : Hp) : List Addr := (List.range h.objs.size).filter fun a => (H a).isSome
noncomputable def hidT (h : Heap) (H : Hp) : Heap := PySem.W.hideAll h (trk h H)
theorem hidT_size (h : Heap) (H : Hp) : (hidT h H).objs.size = h.objs.size := PySem.W.hideAll_size _ _
theorem hidT_get {h : Heap} {H : Hp} {b : Addr} {o : Obj} (e : h.get? b = some o) (n : H b = none) : (hidT h H).get? b = some o :=
  PySem.W.hideAll_get _ e fun hm => by
    have q : (H b).isSome = true := (List.mem_filter.mp hm).2
    rw [n] at q; simp at q
theorem of_hidT {h : Heap} {H : Hp} {b : Addr} {o : Obj} (e : (hidT h H).get? b = some o) : h.get? b = some o ∧ H b = none := by
  have e' : h.get? b = some o := PySem.W.of_hideAll (trk h H) e
  refine ⟨e', ?_⟩
  cases q : H b with
  | none => rfl
  | some x =>
    have hm : b ∈ trk h H := List.mem_filter.mpr ⟨List.mem_range.mpr (Heap.lt_size e'), by simp [q]⟩
    have z : (hidT h H).get? b = none := PySem.W.hideAll_none (trk h H) hm
    rw [z] at e; cases e

/-! ### OpenK's ledger, filled with every new object but one -/
end L2

namespace L2
open PySem PySem.Spec PyProof.Rows

/-- the module's facts, over the base: the heap at the law's entry without what is tracked there -/
structure Mod (K : PySem.W.Frag) (mg : Str → Option Value) (base : Heap) : Prop where
  kin : K.In base
  glob : base.Ns mainGlobals mg
  blt : ∃ mb, base.Ns builtinsNs mb ∧ ∀ x : Str, x ≠ "__name__" → mb x = bootBuiltins x
  nolimit : base.NoLimit

/-- the context: a def's body (or a comprehension's block) running. base: fixed through the whole law; s₀, H₀: the entry; outer: the frames whose slots others may change (a def's callers); stack: all frames that run;
   ex: iterators that were made ahead of the entry and are walked here (a comprehension's); fn: the names whose cells were made at the entry (a def: all; a comprehension's block: its own); calm: not within an except suite; pn: pins that every state bears; xe: what is wanted of an exception that leaves the code -/
structure Cx where
  prog : Program
  w : World
  K : PySem.W.Frag
  mg : Str → Option Value
  base : Heap
  A : Around
  N : List Str
  s₀ : Shared
  H₀ : Hp
  env : Env
  outer : List Env
  stack : List Env
  ex : List Addr
  fn : Str → Bool
  calm : Bool
  pn : List (Addr × Obj)
  xe : Value → Shared → Prop
/-- the callers' frames -/
noncomputable def frs (l : List Env) : List Addr := l.filterMap (·.frame)
noncomputable abbrev Cx.fs (X : Cx) : List Addr := frs X.outer

noncomputable def Vis (sc : Scope) (x : Str) : Prop := sc.names.lookup x = some .local ∨ sc.names.lookup x = some .cell ∨ sc.names.lookup x = some .free
noncomputable def Loc (sc : Scope) (x : Str) : Prop := sc.names.lookup x = some .local ∨ sc.names.lookup x = some .cell
noncomputable def Look (env : Env) (h : Heap) (m : Str → Option Value) (x : Str) (u : Value) : Prop :=
  (env.kindOf x = some .local ∧ m x = some u) ∨ ((env.kindOf x = some .cell ∨ env.kindOf x = some .free) ∧ ∃ c, env.cells.lookup x = some c ∧ h.IsCell c (some u))

structure Cx.Ok (X : Cx) : Prop where
  mod : Mod X.K X.mg X.base
  kind : X.env.scope.kind = .function
  glob : X.env.globals = mainGlobals
  blt : X.env.builtins = builtinsNs
  above : X.s₀.heap.objs.size ≤ X.env.locals
  inj : ∀ x y c, X.env.cells.lookup x = some c → X.env.cells.lookup y = some c → x = y
  has : ∀ x, (X.env.kindOf x = some .cell ∨ X.env.kindOf x = some .free) → ∃ c, X.env.cells.lookup x = some c
  cab : ∀ x c, X.fn x = true → X.env.cells.lookup x = some c → X.s₀.heap.objs.size ≤ c
  hd : X.calm = true → X.A.handled = none
  frames : X.A.frames = some X.stack
  stk : X.stack = X.outer ∨ (X.stack = X.env :: X.outer ∧ X.env.frame = some X.env.locals)
  exf : ∀ b ∈ X.ex, b ≠ X.env.locals ∧ ∀ x c, X.env.cells.lookup x = some c → c ≠ b
  bs : ∀ b o, X.base.get? b = some o → X.s₀.heap.get? b = some o ∧ X.H₀ b = none
  bsz : X.base.objs.size ≤ X.s₀.heap.objs.size
  noex : ∀ b o, X.base.get? b = some o → b ∉ X.ex
  exfs : ∀ b ∈ X.ex, b ∉ X.fs
  funs : X.s₀.heap.FunFrames X.base X.outer
  frf : ∀ b ∈ X.fs, X.H₀ b = none

structure Inv (X : Cx) (pins : List (Addr × Obj)) (σ : List (Option V)) (H : Hp) (s : Shared) : Prop where
  ok : X.Ok
  os : s.os = X.s₀.os
  bare : AllBare s.gens
  base : Un X.fs X.ex X.H₀ H X.s₀.heap s.heap
  loc : ∃ m, s.heap.Ns X.env.locals m ∧ ∀ (i : Nat) (x : Str) (v : V), X.N[i]? = some x → σ[i]? = some (some v) → Vis X.env.scope x → ∃ u, RelV v u ∧ Look X.env s.heap m x u
  cell : ∀ x c, X.env.cells.lookup x = some c → ∃ v, s.heap.IsCell c v
  free : H X.env.locals = none
  freeC : ∀ x c, X.env.cells.lookup x = some c → H c = none
  pin : ∀ p ∈ X.pn ++ pins, s.heap.get? p.1 = some p.2 ∧ H p.1 = none ∧ p.1 ≠ X.env.locals ∧ p.1 ∉ X.fs ∧ ∀ v, p.2.data ≠ .cell v
  hok : HOk X.prog X.w H s.heap
  len : σ.length = X.N.length

section
variable {X : Cx} {pins : List (Addr × Obj)} {σ : List (Option V)} {H H' : Hp} {s : Shared} {h' : Heap}

theorem Cx.Ok.nofr (ok : X.Ok) {b : Addr} {o : Obj} (e : X.base.get? b = some o) : b ∉ X.fs := fun hb => by
  have := (ok.funs.mem hb).1
  rw [e] at this; cases this
theorem Inv.bs (I : Inv X pins σ H s) : ∀ b o, X.base.get? b = some o → s.heap.get? b = some o ∧ H b = none := fun b o e =>
  ⟨I.base.keep b o (I.ok.bs b o e).1 (I.ok.bs b o e).2 (I.ok.nofr e) (I.ok.noex b o e), I.base.free b o (I.ok.bs b o e).1 (I.ok.bs b o e).2 (I.ok.noex b o e)⟩
theorem Inv.bk (I : Inv X pins σ H s) : ∀ b o, X.base.get? b = some o → s.heap.get? b = some o := fun b o e => (I.bs b o e).1
theorem Inv.mod (I : Inv X pins σ H s) : Mod X.K X.mg X.base := I.ok.mod
theorem Inv.kIn (I : Inv X pins σ H s) : X.K.In s.heap := I.ok.mod.kin.keeps I.bk
theorem Inv.lt (I : Inv X pins σ H s) : X.env.locals < s.heap.objs.size := let ⟨_, hn, _⟩ := I.loc; hn.lt
theorem Inv.sz (I : Inv X pins σ H s) : X.s₀.heap.objs.size ≤ s.heap.objs.size := Nat.le_trans I.ok.above (Nat.le_of_lt I.lt)
theorem Inv.nofs (I : Inv X pins σ H s) {a : Addr} (h : s.heap.objs.size ≤ a) : a ∉ X.fs := fun hb => by
  obtain ⟨_, o, ho, _⟩ := I.ok.funs.mem hb
  exact absurd (Nat.lt_of_lt_of_le (Heap.lt_size ho) (Nat.le_trans I.sz h)) (Nat.lt_irrefl _)
theorem Inv.cne (I : Inv X pins σ H s) : ∀ x c, X.env.cells.lookup x = some c → c ≠ X.env.locals := fun x c e z => by
  obtain ⟨v, o, ho, hd⟩ := I.cell x c e
  obtain ⟨m, ⟨o', es, ep, ho', hd', _⟩, _⟩ := I.loc
  rw [z, ho'] at ho; cases ho; rw [hd'] at hd; cases hd
theorem Inv.funs (I : Inv X pins σ H s) : s.heap.FunFrames X.base X.outer := by
  have all : ∀ (l : List Env), (∀ b ∈ frs l, b ∈ X.fs) → X.s₀.heap.FunFrames X.base l → s.heap.FunFrames X.base l := by
    intro l
    induction l with
    | nil => intro _ _; trivial
    | cons env r ih =>
      intro hs hl
      obtain ⟨hk, ⟨L, o, hf, hn, ho, hd⟩, hr⟩ := hl
      have hL : L ∈ X.fs := hs L (by unfold frs; rw [List.filterMap_cons, hf]; exact List.mem_cons_self)
      obtain ⟨sl, e⟩ := I.base.slot L o ho (I.ok.frf L hL) hL fun z => I.ok.exfs L z hL
      exact ⟨hk, ⟨L, _, hf, hn, e, hd⟩, ih (fun b hb => hs b (by unfold frs; rw [List.filterMap_cons, hf]; exact List.mem_cons_of_mem _ hb)) hr⟩
  exact all X.outer (fun _ hb => hb) I.ok.funs

/-- the frames that run, for a call -/
theorem Inv.stack (I : Inv X pins σ H s) : s.heap.FunFrames X.base X.stack := by
  rcases I.ok.stk with e | ⟨e, hf⟩
  · rw [e]; exact I.funs
  · rw [e]
    obtain ⟨m, hn, _⟩ := I.loc
    refine .cons (by rw [I.ok.kind]; decide) hf hn ?_ I.funs
    exact Heap.get?_none_of_le (Nat.le_trans I.ok.bsz I.ok.above)
theorem Inv.stkSub (I : Inv X pins σ H s) : ∀ b ∈ frs X.stack, b ∈ X.env.locals :: X.fs := fun b hb => by
  rcases I.ok.stk with e | ⟨e, hf⟩
  · rw [e] at hb; exact List.mem_cons_of_mem _ hb
  · rw [e] at hb
    unfold frs at hb
    rw [List.filterMap_cons, hf] at hb
    exact hb
theorem Inv.stkFree (I : Inv X pins σ H s) : ∀ b ∈ frs X.stack, H b = none := fun b hb => by
  rcases List.mem_cons.mp (I.stkSub b hb) with e | hb
  · rw [e]; exact I.free
  · obtain ⟨_, o, ho, _⟩ := I.ok.funs.mem hb
    exact I.base.free b o ho (I.ok.frf b hb) fun z => I.ok.exfs b z hb

/-- THE STEP: the untracked objects but the frame and the records at ch are kept (the callers' frames up to slots), the frame's map is kept, the new abstract heap is held -/
theorem Inv.step {g' : Array GenState} {t' : Nat} {d' : Drawn} {ch : List Addr} (I : Inv X pins σ H s)
    (hch : ∀ b ∈ ch, (b ∈ X.ex ∨ X.s₀.heap.objs.size ≤ b) ∧ b ≠ X.env.locals ∧ (∀ x c, X.env.cells.lookup x = some c → c ≠ b) ∧ ∀ p ∈ X.pn ++ pins, p.1 ≠ b)
    (keep : ∀ b o, b ≠ X.env.locals → b ∉ X.fs → b ∉ ch → s.heap.get? b = some o → H b = none → h'.get? b = some o)
    (slot : ∀ b o, b ≠ X.env.locals → b ∈ X.fs → b ∉ ch → s.heap.get? b = some o → H b = none → ∃ sl, h'.get? b = some { o with slots := sl }) (free : ∀ b o, b ∉ ch → s.heap.get? b = some o → H b = none → H' b = none)
    (there : ∀ b o, b ∉ ch → s.heap.get? b = some o → ∃ o', h'.get? b = some o')
    (tups : ∀ b xs, H b = some (.tup xs) → H' b = some (.tup xs)) (frzs : ∀ b o u, H b = some (.frz o u) → H' b = some (.frz o u)) (tbls : ∀ b ps, H b = some (.tbl ps) → ∃ more, H' b = some (.tbl (ps ++ more)))
    (ns : ∀ m, s.heap.Ns X.env.locals m → h'.Ns X.env.locals m) (hok : HOk X.prog X.w H' h') (hg : AllBare g') :
    Inv X pins σ H' { s with heap := h', gens := g', drawn := d', toks := t' } := by
  have neL : ∀ b o, X.s₀.heap.get? b = some o → b ≠ X.env.locals := fun b o e => Nat.ne_of_lt (Nat.lt_of_lt_of_le (Heap.lt_size e) I.ok.above)
  have neC : ∀ b o, X.s₀.heap.get? b = some o → b ∉ X.ex → b ∉ ch := fun b o e hx hb => by
    rcases (hch b hb).1 with z | z
    · exact hx z
    · exact absurd (Nat.lt_of_lt_of_le (Heap.lt_size e) z) (Nat.lt_irrefl _)
  have cellK : ∀ x c, X.env.cells.lookup x = some c → ∀ v, s.heap.IsCell c v → h'.IsCell c v := fun x c e v ⟨o, ho, hd⟩ => by
    have nch : c ∉ ch := fun z => (hch c z).2.2.1 x c e rfl
    by_cases hc : c ∈ X.fs
    · obtain ⟨sl, q⟩ := slot c o (I.cne x c e) hc nch ho (I.freeC x c e)
      exact ⟨_, q, hd⟩
    · exact ⟨o, keep c o (I.cne x c e) hc nch ho (I.freeC x c e), hd⟩
  refine ⟨I.ok, I.os, hg, ⟨fun b o e n hb hx => ?_, fun b o e n hb hx => ?_, fun b o e n hx => ?_, fun b o e hx => ?_, fun b xs e => tups b xs (I.base.tups b xs e), fun b o xs e => frzs b o xs (I.base.frzs b o xs e), fun b ps e => ?_⟩, ?_, fun x c e => ?_, ?_, fun x c e => ?_, fun p hp => ?_, hok, I.len⟩
  · exact keep b o (neL b o e) hb (neC b o e hx) (I.base.keep b o e n hb hx) (I.base.free b o e n hx)
  · obtain ⟨sl, e1⟩ := I.base.slot b o e n hb hx
    obtain ⟨sl', e2⟩ := slot b _ (neL b o e) hb (neC b o e hx) e1 (I.base.free b o e n hx)
    exact ⟨sl', e2⟩
  · obtain ⟨o', e1⟩ := I.base.there b o e hx
    exact free b o' (neC b o e hx) e1 (I.base.free b o e n hx)
  · obtain ⟨o', e1⟩ := I.base.there b o e hx
    exact there b o' (neC b o e hx) e1
  · obtain ⟨m1, e1⟩ := I.base.tbls b ps e
    obtain ⟨m2, e2⟩ := tbls b _ e1
    exact ⟨m1 ++ m2, by rw [e2, Array.append_assoc]⟩
  · obtain ⟨m, hn, hl⟩ := I.loc
    refine ⟨m, ns m hn, fun i x v e1 e2 e3 => ?_⟩
    obtain ⟨u, r, l⟩ := hl i x v e1 e2 e3
    refine ⟨u, r, ?_⟩
    rcases l with l | ⟨k, c, e, z⟩
    · exact .inl l
    · exact .inr ⟨k, c, e, cellK x c e _ z⟩
  · obtain ⟨v, z⟩ := I.cell x c e
    exact ⟨v, cellK x c e v z⟩
  · obtain ⟨m, ⟨o, _, _, ho, _⟩, _⟩ := I.loc
    exact free _ o (fun z => (hch _ z).2.1 rfl) ho I.free
  · obtain ⟨v, o, ho, hd⟩ := I.cell x c e
    exact free c o (fun z => (hch c z).2.2.1 x c e rfl) ho (I.freeC x c e)
  · obtain ⟨e, n, ne, nf, d⟩ := I.pin p hp
    have nch : p.1 ∉ ch := fun z => (hch p.1 z).2.2.2 p hp rfl
    exact ⟨keep p.1 p.2 ne nf nch e n, free p.1 p.2 nch e n, ne, nf, d⟩
/-- .. where the frame's own object is kept too -/
theorem Inv.un {t' : Nat} (I : Inv X pins σ H s) (u : Un X.fs [] H H' s.heap h') (hok : HOk X.prog X.w H' h') : Inv X pins σ H' { s with heap := h', toks := t' } := by
  obtain ⟨m, ⟨o, es, ep, ho, r⟩, _⟩ := id I.loc
  obtain ⟨sl, hL⟩ := u.any ho I.free (by simp)
  exact I.step (g' := s.gens) (d' := s.drawn) (ch := []) (fun _ z => nomatch z) (fun b o _ hb _ e n => u.keep b o e n hb (by simp)) (fun b o _ hb _ e n => u.slot b o e n hb (by simp)) (fun b o _ e n => u.free b o e n (by simp)) (fun b o _ e => u.there b o e (by simp)) u.tups u.frzs u.tbls (fun m' hm => by
    obtain ⟨o', es', ep', ho', r'⟩ := hm
    rw [ho] at ho'; cases ho'
    exact ⟨_, es', ep', hL, r'⟩) hok I.bare
/-- behind a call (or a comprehension's block): the slots of this frame may have changed too, the records at ch may have turned -/
theorem Inv.call {g' : Array GenState} {t' : Nat} {d' : Drawn} {ch : List Addr} (I : Inv X pins σ H s) (u : Un (frs X.stack) ch H H' s.heap h') (hok : HOk X.prog X.w H' h') (hg : AllBare g')
    (hch : ∀ b ∈ ch, (b ∈ X.ex ∨ X.s₀.heap.objs.size ≤ b) ∧ b ≠ X.env.locals ∧ (∀ x c, X.env.cells.lookup x = some c → c ≠ b) ∧ ∀ p ∈ X.pn ++ pins, p.1 ≠ b) :
    Inv X pins σ H' { s with heap := h', gens := g', drawn := d', toks := t' } := by
  obtain ⟨m, ⟨o, es, ep, ho, r⟩, _⟩ := id I.loc
  obtain ⟨sl, hL⟩ := u.any ho I.free fun z => (hch _ z).2.1 rfl
  exact I.step (ch := ch) hch (fun b o hL hb hc e n => u.keep b o e n (fun z => (List.mem_cons.mp (I.stkSub b z)).elim hL hb) hc) (fun b o _ _ hc e n => u.any e n hc) (fun b o hc e n => u.free b o e n hc) (fun b o hc e => u.there b o e hc) u.tups u.frzs u.tbls (fun m' hm => by
    obtain ⟨o', es', ep', ho', r'⟩ := hm
    rw [ho] at ho'; cases ho'
    exact ⟨_, es', ep', hL, r'⟩) hok hg
/-- an untracked record of ours (an iterator) has turned -/
theorem Inv.turned {t' : Nat} {it : Addr} (I : Inv X pins σ H s) (k : ∀ b o, b ≠ it → s.heap.get? b = some o → h'.get? b = some o) (hn : H it = none) (hL : it ≠ X.env.locals)
    (h1 : it ∈ X.ex ∨ X.s₀.heap.objs.size ≤ it) (h2 : ∀ x c, X.env.cells.lookup x = some c → c ≠ it) (h3 : ∀ p ∈ X.pn ++ pins, p.1 ≠ it) : Inv X pins σ H { s with heap := h', toks := t' } := by
  have nit : ∀ b u, H b = some u → b ≠ it := fun b u e z => by rw [z, hn] at e; cases e
  refine I.step (g' := s.gens) (d' := s.drawn) (ch := [it]) (fun b hb => ?_) (fun b o _ _ hc e _ => k b o (fun z => hc (by simp [z])) e) (fun b o _ _ hc e _ => ⟨o.slots, k b o (fun z => hc (by simp [z])) e⟩) (fun _ _ _ _ n => n)
    (fun b o hc e => ⟨o, k b o (fun z => hc (by simp [z])) e⟩) (fun _ _ e => e) (fun _ _ _ e => e) (fun b ps e => ⟨#[], by rw [e]; simp⟩) (fun m hm => ?_) (fun b u e => ?_) I.bare
  · have e : b = it := by simpa using hb
    subst e
    exact ⟨h1, hL, h2, h3⟩
  · obtain ⟨o, es, ep, ho, r⟩ := hm
    exact ⟨o, es, ep, k _ o (Ne.symm hL) ho, r⟩
  · refine (I.hok b u e).stay (fun c v hc q => k c v ?_ q) (fun _ q => q) fun _ _ q => q
    rcases hc with z | z
    · rw [z]; exact nit b u e
    · exact nit c _ z
theorem Inv.tok (I : Inv X pins σ H s) (t : Nat) : Inv X pins σ H { s with toks := t } := I.un (h' := s.heap) (t' := t) Un.refl I.hok
/-- all objects kept -/
theorem Inv.kept {t' : Nat} (I : Inv X pins σ H s) (k : ∀ b u, s.heap.get? b = some u → h'.get? b = some u) : Inv X pins σ H { s with heap := h', toks := t' } := I.un (Un.kept k) (I.hok.kept k)
/-- a new object laid and tracked -/
theorem Inv.laid {a : Addr} {o : HO} {t' : Nat} (I : Inv X pins σ H s) (k : ∀ b u, s.heap.get? b = some u → h'.get? b = some u) (hp : s.heap.objs.size ≤ a) (new : ObjOk X.prog X.w (upd H a o) h' a o) :
    Inv X pins σ (upd H a o) { s with heap := h', toks := t' } := I.un (Un.laid k hp (I.hok.fresh hp)) (I.hok.laid k hp new)
/-- an object written -/
theorem Inv.write {x e : Addr} {o : HO} {t' : Nat} (I : Inv X pins σ H s) (mu : Mut (H x)) (he : e = x ∨ H e = some (.own x)) (k : ∀ b u, b ≠ e → s.heap.get? b = some u → h'.get? b = some u) (heo : ∃ u, h'.get? e = some u)
    (new : ObjOk X.prog X.w (upd H x o) h' x o) : Inv X pins σ (upd H x o) { s with heap := h', toks := t' } := I.un (Un.write mu he k heo) (I.hok.write mu he k heo new)
/-- forgetting slots, pins -/
theorem Inv.weak {σ' : List (Option V)} (I : Inv X pins σ H s) (hl : σ'.length = σ.length) (w : ∀ (i : Nat) v, σ'[i]? = some (some v) → σ[i]? = some (some v)) : Inv X pins σ' H s :=
  ⟨I.ok, I.os, I.bare, I.base, let ⟨m, hn, hl'⟩ := I.loc; ⟨m, hn, fun i x v e1 e2 e3 => hl' i x v e1 (w i v e2) e3⟩, I.cell, I.free, I.freeC, I.pin, I.hok, hl.trans I.len⟩
theorem Inv.pins_of {pins' : List (Addr × Obj)} (I : Inv X pins σ H s) (h : ∀ p ∈ pins', s.heap.get? p.1 = some p.2 ∧ H p.1 = none ∧ p.1 ≠ X.env.locals ∧ p.1 ∉ X.fs ∧ ∀ v, p.2.data ≠ .cell v) : Inv X pins' σ H s :=
  ⟨I.ok, I.os, I.bare, I.base, I.loc, I.cell, I.free, I.freeC, fun p hp => (List.mem_append.mp hp).elim (fun z => I.pin p (List.mem_append_left _ z)) (h p), I.hok, I.len⟩

theorem nodup_ix {N : List Str} (hN : N.Nodup) {i j : Nat} {x : Str} (a : N[i]? = some x) (b : N[j]? = some x) : i = j := by
  obtain ⟨h1, e1⟩ := List.getElem?_eq_some_iff.mp a
  obtain ⟨h2, e2⟩ := List.getElem?_eq_some_iff.mp b
  exact (List.getElem_inj hN).mp (e1.trans e2.symm)

/-- a name is stored; what changed -/
theorem store_ok2 {M : Model} {A : Around} {E : Value → Shared → Prop} {i : Nat} {x : Str} {v : V} {u : Value} {Q : Unit → Shared → Prop} (I : Inv X pins σ H s) (hN : X.N.Nodup) (hi : X.N[i]? = some x) (hx : Loc X.env.scope x) (r : RelV v u)
    (h : ∀ s', Inv X pins (σ.set i (some v)) H s' → (∃ a, Heap.SameBut a s.heap s'.heap ∧ (a = X.env.locals ∨ X.env.cells.lookup x = some a)) → Q () s') (hf : X.fn x = true ∨ X.env.scope.names.lookup x = some .local := by first | exact .inl rfl | exact .inr rfl | assumption) : wpAny M A (storeName X.env x u) Q E s := by
  obtain ⟨m, hn, hl⟩ := id I.loc
  have hcls : (X.env.scope.kind == .class || (X.env.scope.kind == .module && X.env.locals != X.env.globals)) = false := by rw [I.ok.kind]; rfl
  have hiσ : i < σ.length := by rw [I.len]; exact (List.getElem?_eq_some_iff.mp hi).1
  have cne := I.cne
  have tracked : ∀ {a : Addr} {h' : Heap}, (∃ o, s.heap.get? a = some o ∧ H a = none) → Heap.SameBut a s.heap h' → HOk X.prog X.w H h' := fun {a h'} ha hs b ob e => by
    obtain ⟨_, _, hfree⟩ := ha
    refine (I.hok b ob e).stay (fun c w' hc q => (hs.2 c ?_).trans q) (fun _ q => q) fun _ _ q => q
    rintro rfl
    rcases hc with rfl | hc
    · rw [hfree] at e; cases e
    · rw [hfree] at hc; cases hc
  rcases hx with hk | hk
  · refine wpAny_storeName_local hk hn (fun h' hn' hs => ?_) hcls
    obtain ⟨oL, _, _, hoL, _⟩ := id hn
    refine h _ ⟨I.ok, I.os, I.bare, ⟨fun b o e n hb hx => ?_, fun b o e n hb hx => ?_, I.base.free, fun b o e hx => ?_, I.base.tups, I.base.frzs, I.base.tbls⟩, ⟨_, hn', fun j y v' e1 e2 e3 => ?_⟩, fun y c e => ?_, I.free, I.freeC, fun p hp => ?_, tracked ⟨oL, hoL, I.free⟩ hs, by simpa using I.len⟩ ⟨_, hs, .inl rfl⟩
    · exact (hs.2 b (Nat.ne_of_lt (Nat.lt_of_lt_of_le (Heap.lt_size e) I.ok.above))).trans (I.base.keep b o e n hb hx)
    · obtain ⟨sl, e1⟩ := I.base.slot b o e n hb hx
      exact ⟨sl, (hs.2 b (Nat.ne_of_lt (Nat.lt_of_lt_of_le (Heap.lt_size e) I.ok.above))).trans e1⟩
    · obtain ⟨o', e1⟩ := I.base.there b o e hx
      exact ⟨o', (hs.2 b (Nat.ne_of_lt (Nat.lt_of_lt_of_le (Heap.lt_size e) I.ok.above))).trans e1⟩
    · by_cases hj : j = i
      · subst hj
        rw [hi] at e1; cases e1
        rw [List.getElem?_set_self hiσ] at e2
        cases e2
        exact ⟨u, r, .inl ⟨hk, by simp⟩⟩
      · rw [List.getElem?_set_ne (Ne.symm hj)] at e2
        obtain ⟨u', r', q⟩ := hl j y v' e1 e2 e3
        refine ⟨u', r', ?_⟩
        rcases q with ⟨k, e⟩ | ⟨k, c, e, z⟩
        · refine .inl ⟨k, ?_⟩
          have : y ≠ x := fun e => hj (nodup_ix hN e1 (e ▸ hi))
          simp [this, e]
        · exact .inr ⟨k, c, e, z.sameBut hs (cne y c e)⟩
    · obtain ⟨w', z⟩ := I.cell y c e
      exact ⟨w', z.sameBut hs (cne y c e)⟩
    · obtain ⟨e, n, ne, nf, d⟩ := I.pin p hp
      exact ⟨(hs.2 p.1 ne).trans e, n, ne, nf, d⟩
  · have hfn : X.fn x = true := by
      rcases hf with z | z
      · exact z
      · rw [z] at hk; cases hk
    obtain ⟨c, hc⟩ := I.ok.has x (.inl hk)
    obtain ⟨w', z⟩ := I.cell x c hc
    refine wpAny_storeName_cell I.ok.kind hk hc z (fun h' hc' hs => ?_)
    obtain ⟨oc, hoc, hocd⟩ := id z
    refine h { s with heap := h' } ⟨I.ok, I.os, I.bare, ⟨fun b o e n hb hx => ?_, fun b o e n hb hx => ?_, I.base.free, fun b o e hx => ?_, I.base.tups, I.base.frzs, I.base.tbls⟩, ⟨m, hn.sameBut hs (Ne.symm (cne x c hc)), fun j y v' e1 e2 e3 => ?_⟩, fun y c' e => ?_, I.free, I.freeC, fun p hp => ?_, tracked ⟨oc, hoc, I.freeC x c hc⟩ hs, by simpa using I.len⟩ ⟨c, hs, .inr hc⟩
    · exact (hs.2 b (Nat.ne_of_lt (Nat.lt_of_lt_of_le (Heap.lt_size e) (I.ok.cab x c hfn hc)))).trans (I.base.keep b o e n hb hx)
    · obtain ⟨sl, e1⟩ := I.base.slot b o e n hb hx
      exact ⟨sl, (hs.2 b (Nat.ne_of_lt (Nat.lt_of_lt_of_le (Heap.lt_size e) (I.ok.cab x c hfn hc)))).trans e1⟩
    · obtain ⟨o', e1⟩ := I.base.there b o e hx
      exact ⟨o', (hs.2 b (Nat.ne_of_lt (Nat.lt_of_lt_of_le (Heap.lt_size e) (I.ok.cab x c hfn hc)))).trans e1⟩
    · by_cases hj : j = i
      · subst hj
        rw [hi] at e1; cases e1
        rw [List.getElem?_set_self hiσ] at e2
        cases e2
        exact ⟨u, r, .inr ⟨.inl hk, c, hc, hc'⟩⟩
      · rw [List.getElem?_set_ne (Ne.symm hj)] at e2
        obtain ⟨u', r', q⟩ := hl j y v' e1 e2 e3
        refine ⟨u', r', ?_⟩
        rcases q with q | ⟨k, c', e, z'⟩
        · exact .inl q
        · refine .inr ⟨k, c', e, z'.sameBut hs ?_⟩
          rintro rfl
          exact hj (nodup_ix hN e1 (I.ok.inj _ _ _ e hc ▸ hi))
    · by_cases hcc : c' = c
      · subst hcc; exact ⟨_, hc'⟩
      · obtain ⟨w2, z2⟩ := I.cell y c' e
        exact ⟨w2, z2.sameBut hs hcc⟩
    · obtain ⟨e, n, ne, nf, d⟩ := I.pin p hp
      refine ⟨(hs.2 p.1 ?_).trans e, n, ne, nf, d⟩
      intro q
      rw [q, hoc] at e
      have q' : oc = p.2 := Option.some.inj e
      exact d w' (by rw [← q']; exact hocd)
theorem store_ok {M : Model} {A : Around} {E : Value → Shared → Prop} {i : Nat} {x : Str} {v : V} {u : Value} {Q : Unit → Shared → Prop} (I : Inv X pins σ H s) (hN : X.N.Nodup) (hi : X.N[i]? = some x) (hx : Loc X.env.scope x) (r : RelV v u)
    (h : ∀ s', Inv X pins (σ.set i (some v)) H s' → Q () s') (hf : X.fn x = true ∨ X.env.scope.names.lookup x = some .local := by first | exact .inl rfl | exact .inr rfl | assumption) : wpAny M A (storeName X.env x u) Q E s :=
  store_ok2 I hN hi hx r (fun s' I' _ => h s' I') hf
/-- behind a call or a block, the state as it is -/
theorem Inv.call' {s' : Shared} {ch : List Addr} (I : Inv X pins σ H s) (ho : s'.os = s.os) (u : Un (frs X.stack) ch H H' s.heap s'.heap) (hok : HOk X.prog X.w H' s'.heap) (hg : AllBare s'.gens)
    (hch : ∀ b ∈ ch, (b ∈ X.ex ∨ X.s₀.heap.objs.size ≤ b) ∧ b ≠ X.env.locals ∧ (∀ x c, X.env.cells.lookup x = some c → c ≠ b) ∧ ∀ p ∈ X.pn ++ pins, p.1 ≠ b) : Inv X pins σ H' s' := by
  obtain ⟨h', g', d', t', o'⟩ := s'
  have e : o' = s.os := ho
  subst e
  exact I.call (g' := g') (t' := t') (d' := d') u hok hg hch
end

/-! ### the judgements -/
/-- an exception: its class, its own dict's address (where it has one), the abstract heap behind it -/
noncomputable abbrev XK := Value → Option Addr → Hp → Prop
noncomputable abbrev St := List (Option V)
noncomputable abbrev VK := V → Hp → Prop
/-- an expression's reading; a test's; an argument list's -/
noncomputable abbrev TE := St → Hp → VK → Prop
noncomputable abbrev TT := St → Hp → (Bool → Hp → Prop) → Prop
noncomputable abbrev TA := St → Hp → (List V → Hp → Prop) → Prop
/-- what is wanted behind a statement -/
structure Ends where
  nx : St → Hp → Prop
  rt : VK
  bk : St → Hp → Prop := fun _ _ => False
  ct : St → Hp → Prop := fun _ _ => False
noncomputable abbrev TS := Ends → St → Hp → Prop

noncomputable def EP (X : Cx) (pins : List (Addr × Obj)) (σ : St) (Q : VK) (u : Value) (s' : Shared) : Prop := Ex2 fun v H' => Inv X pins σ H' s' ∧ RelV v u ∧ Q v H'
noncomputable def TP (X : Cx) (pins : List (Addr × Obj)) (σ : St) (Q : Bool → Hp → Prop) (b : Bool) (s' : Shared) : Prop := ∃ H', Inv X pins σ H' s' ∧ Q b H'
noncomputable def AP (X : Cx) (pins : List (Addr × Obj)) (σ : St) (Q : List V → Hp → Prop) (us : List Value) (s' : Shared) : Prop := Ex2 fun vs H' => Inv X pins σ H' s' ∧ Vals vs us ∧ Q vs H'
noncomputable def SP (X : Cx) (pins : List (Addr × Obj)) (D : Ends) (f : Flow) (s' : Shared) : Prop :=
  match f with
  | .next => Ex2 fun σ' H' => Inv X pins σ' H' s' ∧ D.nx σ' H'
  | .brk => Ex2 fun σ' H' => Inv X pins σ' H' s' ∧ D.bk σ' H'
  | .cont => Ex2 fun σ' H' => Inv X pins σ' H' s' ∧ D.ct σ' H'
  | .ret u => Ex3 fun v σ' H' => Inv X pins σ' H' s' ∧ RelV v u ∧ D.rt v H'

noncomputable def PE (X : Cx) (e : Expr) (t : TE) : Prop :=
  ∀ ⦃pins : List (Addr × Obj)⦄ (s : Shared) (σ : St) (H : Hp) (Q : VK), Inv X pins σ H s → t σ H Q → wpAny (model X.prog X.w) X.A (eval e X.env) (EP X pins σ Q) X.xe s
noncomputable def PT (X : Cx) (e : Expr) (t : TT) : Prop :=
  ∀ ⦃pins : List (Addr × Obj)⦄ (s : Shared) (σ : St) (H : Hp) (Q : Bool → Hp → Prop), Inv X pins σ H s → t σ H Q → wpAny (model X.prog X.w) X.A (isTrue e X.env (eval e X.env)) (TP X pins σ Q) X.xe s
/-- a test whatever its 'whole' is (and, or) -/
noncomputable def PW (X : Cx) (e : Expr) (t : TT) : Prop :=
  ∀ ⦃whole : Sem Value⦄ ⦃pins : List (Addr × Obj)⦄ (s : Shared) (σ : St) (H : Hp) (Q : Bool → Hp → Prop), Inv X pins σ H s → t σ H Q → wpAny (model X.prog X.w) X.A (isTrue e X.env whole) (TP X pins σ Q) X.xe s
theorem PW.pt {X : Cx} {e : Expr} {t : TT} (h : PW X e t) : PT X e t := fun pins s σ H Q I q => h s σ H Q I q
/-- an argument list (no star), from the left -/
noncomputable def PA (X : Cx) (es : List Expr) (t : TA) : Prop :=
  ∀ ⦃pos : Pos⦄ ⦃pins : List (Addr × Obj)⦄ (s : Shared) (σ : St) (H : Hp) (Q : List V → Hp → Prop), Inv X pins σ H s → t σ H Q → wpAny (model X.prog X.w) X.A (spliced (backTo pos (starEach es X.env))) (AP X pins σ Q) X.xe s
noncomputable def PS (X : Cx) (st : Stmt) (t : TS) : Prop :=
  ∀ ⦃pins : List (Addr × Obj)⦄ (s : Shared) (σ : St) (H : Hp) (D : Ends), Inv X pins σ H s → t D σ H → wpAny (model X.prog X.w) X.A (exec st X.env) (SP X pins D) X.xe s
noncomputable def PSs (X : Cx) (st : List Stmt) (t : TS) : Prop :=
  ∀ ⦃pins : List (Addr × Obj)⦄ (s : Shared) (σ : St) (H : Hp) (D : Ends), Inv X pins σ H s → t D σ H → wpAny (model X.prog X.w) X.A (execs st X.env) (SP X pins D) X.xe s
/-- weaken the end -/
theorem thn {α : Type} {t : Sem α} {Q Q' : α → Shared → Prop} {M : Model} {A : Around} {E : Value → Shared → Prop} {s : Shared} (h : wpAny M A t Q E s) (hQ : ∀ a s, Q a s → Q' a s) : wpAny M A t Q' E s := wpAny_mono h hQ fun _ _ x => x
end L2

namespace L2
open PySem PySem.Spec PyProof.Rows
section
variable {X : Cx}

/-! ### names and constants -/
noncomputable def tVar (i : Nat) : TE := fun σ H Q => ∃ v, σ[i]? = some (some v) ∧ Q v H
noncomputable def tC (v : V) : TE := fun _ H Q => Q v H
theorem pe_var {i : Nat} {x : Str} {pos : Pos} (hN : X.N[i]? = some x) (hv : Vis X.env.scope x) (hd : (x == ("__debug__" : Str)) = false := by decide) (hcd : (x == ("__classdict__" : Str)) = false := by decide) : PE X (.Name x pos) (tVar i) := by
  intro pins s σ H Q I h
  obtain ⟨v, e, h⟩ := h
  obtain ⟨m, hn, hl⟩ := I.loc
  obtain ⟨u, r, l⟩ := hl i x v hN e hv
  have fin : EP X pins σ Q u s := ⟨v, H, I, r, h⟩
  rcases l with ⟨hk, hm⟩ | ⟨hk, c, hc, hcell⟩
  · exact wpAny_Name (wpAny_loadName_local I.ok.kind hk hn hm fin) hd
  · rcases hk with hk | hk
    · exact wpAny_Name (wpAny_loadName_cell I.ok.kind hk hc hcell fin) hd
    · exact wpAny_Name (wpAny_loadName_free I.ok.kind hk hc hcell fin hcd) hd
theorem pe_int {i j pos} : PE X (.Constant (.int i) j pos) (tC (.int i)) := fun _ _ _ H _ I h => wpAny_Constant_int ⟨.int i, H, I.tok _, ⟨_, rfl⟩, h⟩
theorem pe_bl {b j pos} : PE X (.Constant (.bool b) j pos) (tC (.bl b)) := fun _ _ _ H _ I h => Constant_bool ⟨.bl b, H, I, rfl, h⟩
theorem pe_non {j pos} : PE X (.Constant .none j pos) (tC .non) := fun _ _ _ H _ I h => Constant_none ⟨.non, H, I, rfl, h⟩
theorem pe_str {x j pos} : PE X (.Constant (.str x) j pos) (tC (.str x)) := fun _ _ _ H _ I h => Calls.Constant_str ⟨.str x, H, I.tok _, ⟨_, rfl⟩, h⟩

/-- a global name of the def -/
noncomputable def Gl (X : Cx) (x : Str) : Prop := X.env.kindOf x = some .globalImplicit
theorem ld_glob {E : Value → Shared → Prop} {pins : List (Addr × Obj)} {s : Shared} {σ : St} {H : Hp} {x : Str} {u : Value} {pos : Pos} {Q : Value → Shared → Prop} (I : Inv X pins σ H s) (hg : Gl X x) (hm : X.mg x = some u) (h : Q u s)
    (hd : (x == ("__debug__" : Str)) = false := by decide) : wpAny (model X.prog X.w) X.A (eval (.Name x pos) X.env) Q E s :=
  Calls.Name_function_global I.ok.kind hg (Calls.loadGlobal_global (by rw [I.ok.glob]; exact I.mod.glob.keeps I.bk) hm h) hd
theorem ld_blt {E : Value → Shared → Prop} {pins : List (Addr × Obj)} {s : Shared} {σ : St} {H : Hp} {x : Str} {u : Value} {pos : Pos} {Q : Value → Shared → Prop} (I : Inv X pins σ H s) (hg : Gl X x) (hm : X.mg x = none) (hv : bootBuiltins x = some u) (h : Q u s)
    (hn : x ≠ "__name__" := by decide) (hd : (x == ("__debug__" : Str)) = false := by decide) : wpAny (model X.prog X.w) X.A (eval (.Name x pos) X.env) Q E s := by
  obtain ⟨mb, h1, h2⟩ := I.mod.blt
  exact Calls.Name_function_global I.ok.kind hg (Calls.loadGlobal_builtin (by rw [I.ok.glob]; exact I.mod.glob.keeps I.bk) hm (by rw [I.ok.blt]; exact h1.keeps I.bk) ((h2 x hn).trans hv) h) hd
theorem pe_bltn {x : Str} {v : V} {u : Value} {pos : Pos} (hg : Gl X x) (hm : X.mg x = none) (hv : bootBuiltins x = some u) (r : RelV v u) (hn : x ≠ "__name__" := by decide) (hd : (x == ("__debug__" : Str)) = false := by decide) : PE X (.Name x pos) (tC v) :=
  fun _ _ _ H _ I h => ld_blt I hg hm hv ⟨v, H, I, r, h⟩ hn hd

/-! ### arithmetic -/
variable {a b : Expr} {ta tb : TE} {pos : Pos}
/-! ### comparisons -/
noncomputable def PC (X : Cx) (op : CmpOp) (a b : Expr) (t : TE) : Prop :=
  ∀ ⦃pins : List (Addr × Obj)⦄ (s : Shared) (σ : St) (H : Hp) (Q : VK), Inv X pins σ H s → t σ H Q →
    wpAny (model X.prog X.w) X.A (eval a X.env) (fun v s₁ => wpAny (model X.prog X.w) X.A (eval b X.env) (fun u s₂ => wpAny (model X.prog X.w) X.A (compareOp op v u) (EP X pins σ Q) X.xe s₂) X.xe s₁) X.xe s
/-- a comparison as a value, as a test -/
noncomputable def tB (t : TE) : TT := fun σ H Q => t σ H fun x H1 => ∃ c, x = .bl c ∧ Q c H1
theorem pt_cmp {op : CmpOp} {t : TE} (h : PC X op a b t) (h1 : behindInMarks op b = false := by first | exact nobehind _ (by decide) (by decide) | rfl) : PT X (.Compare a [op] [b] pos) (tB t) := by
  intro pins s σ H Q I hw
  refine wpAny_isTrue_Compare1 (thn (h s σ H _ I hw) fun v s1 h1 => thn h1 fun u s2 h2 => thn h2 fun c s3 ⟨x, H1, I1, r1, q1⟩ => ?_) h1
  obtain ⟨d, rfl, q⟩ := q1
  cases r1
  exact wpAny_truthy_bool ⟨H1, I1, q⟩
/-- an expression whose value is a bool, as a test -/
theorem pt_val {e : Expr} {t : TE} (h : PE X e t) (he : ∀ whole, isTrue e X.env whole = (do let v ← whole; standAt e.pos; holding [v] (truthy v)) := by intro _; rfl) : PT X e (tB t) := by
  intro pins s σ H Q I hw
  refine isTrue_plain (thn (h s σ H _ I hw) fun v s1 ⟨x, H1, I1, r1, q1⟩ => ?_) (he _)
  obtain ⟨d, rfl, q⟩ := q1
  cases r1
  exact wpAny_truthy_bool ⟨H1, I1, q⟩

/-! ### and, or, not -/
variable {tA tB' : TT} {rest : List Expr}
noncomputable def tAnd (t u : TT) : TT := fun σ H Q => t σ H fun c H1 => if c = true then u σ H1 Q else Q false H1
noncomputable def tOr (t u : TT) : TT := fun σ H Q => t σ H fun c H1 => if c = true then Q true H1 else u σ H1 Q
noncomputable def tNot (t : TT) : TT := fun σ H Q => t σ H fun c H1 => Q (!c) H1
theorem pw_and1 (ha : PT X a tA) : PW X (.BoolOp .And [a] pos) tA := by
  intro wh pins s σ H Q I h
  refine isTrue_and (thn (ha s σ H Q I h) fun c s1 e => ?_)
  cases c with
  | true => exact isTrue_and_nil e
  | false => exact e
theorem pw_or1 (ha : PT X a tA) : PW X (.BoolOp .Or [a] pos) tA := by
  intro wh pins s σ H Q I h
  refine isTrue_or (thn (ha s σ H Q I h) fun c s1 e => ?_)
  cases c with
  | false => exact isTrue_or_nil e
  | true => exact e
theorem pw_and (ha : PT X a tA) (hb : PW X (.BoolOp .And (b :: rest) pos) tB') : PW X (.BoolOp .And (a :: b :: rest) pos) (tAnd tA tB') := by
  intro wh pins s σ H Q I h
  refine isTrue_and (thn (ha s σ H _ I h) fun c s1 ⟨H1, I1, q1⟩ => ?_)
  cases c with
  | true => exact hb s1 σ H1 Q I1 q1
  | false => exact ⟨H1, I1, q1⟩
theorem pw_or (ha : PT X a tA) (hb : PW X (.BoolOp .Or (b :: rest) pos) tB') : PW X (.BoolOp .Or (a :: b :: rest) pos) (tOr tA tB') := by
  intro wh pins s σ H Q I h
  refine isTrue_or (thn (ha s σ H _ I h) fun c s1 ⟨H1, I1, q1⟩ => ?_)
  cases c with
  | true => exact ⟨H1, I1, q1⟩
  | false => exact hb s1 σ H1 Q I1 q1
theorem pt_not (ha : PT X a tA) : PT X (.UnaryOp .Not a pos) (tNot tA) := by
  intro pins s σ H Q I h
  exact isTrue_not (ha s σ H (fun c H1 => Q (!c) H1) I h)
/-- .. as values (bools) -/
noncomputable def tAndV (ta tb : TE) : TE := fun σ H Q => ta σ H fun x H1 => ∃ c, x = .bl c ∧ if c = true then tb σ H1 Q else Q (.bl false) H1
noncomputable def tNotV (ta : TE) : TE := fun σ H Q => ta σ H fun x H1 => ∃ c, x = .bl c ∧ Q (.bl (!c)) H1
theorem pe_one {op} {t : TE} (h : PE X a t) : PE X (.BoolOp op [a] pos) t := fun pins s σ H Q I hw => BoolOp_one (h s σ H Q I hw)
theorem pe_and (ha : PE X a ta) (hb : PE X (.BoolOp .And (b :: rest) pos) tb) : PE X (.BoolOp .And (a :: b :: rest) pos) (tAndV ta tb) := by
  intro pins s σ H Q I h
  refine BoolOp_and (thn (ha s σ H _ I h) fun v s1 ⟨x, H1, I1, r1, q1⟩ => ?_)
  obtain ⟨c, rfl, q1⟩ := q1
  cases r1
  refine wpAny_truthy_bool ?_
  cases c with
  | true => exact hb s1 σ H1 Q I1 q1
  | false => exact ⟨.bl false, H1, I1, rfl, q1⟩
theorem pe_not (ha : PE X a ta) : PE X (.UnaryOp .Not a pos) (tNotV ta) := by
  intro pins s σ H Q I h
  refine UnaryOp_ (thn (ha s σ H _ I h) fun v s1 ⟨x, H1, I1, r1, q1⟩ => ?_)
  obtain ⟨c, rfl, q1⟩ := q1
  cases r1
  exact not_of (wpAny_truthy_bool ⟨.bl (!c), H1, I1, rfl, q1⟩)
/-- a if t else b -/
noncomputable def tIf (t : TT) (ta tb : TE) : TE := fun σ H Q => t σ H fun c H1 => if c = true then ta σ H1 Q else tb σ H1 Q
theorem pe_ifExp {c : Expr} (hc : PT X c tA) (ha : PE X a ta) (hb : PE X b tb) : PE X (.IfExp c a b pos) (tIf tA ta tb) := by
  intro pins s σ H Q I h
  refine wpAny_IfExp (thn (hc s σ H _ I h) fun d s1 ⟨H1, I1, q1⟩ => ?_)
  cases d with
  | true => exact ha s1 σ H1 Q I1 q1
  | false => exact hb s1 σ H1 Q I1 q1
end
end L2

namespace L2
open PySem PySem.Spec PyProof.Rows

/-! ### a list, a tuple that is read: tracked, frozen, or an object of the module -/
noncomputable def SqL (K : PySem.W.Frag) (H : Hp) (a : Addr) (xs : List V) : Prop :=
  Rd H a (.lst xs) ∨
    Ex3 fun (o : Obj) (its : Array Value) (n : Nat) => K.lookup a = some o ∧ o.cls = .type "list" ∧ o.dict = none ∧ o.data = .seq its n ∧ its.size ≤ sizeLine ∧ Vals xs its.toList
noncomputable def SqT (K : PySem.W.Frag) (H : Hp) (a : Addr) (xs : List V) : Prop :=
  Rd H a (.tup xs) ∨
    Ex3 fun (o : Obj) (its : Array Value) (n : Nat) => K.lookup a = some o ∧ o.cls = .type "tuple" ∧ o.data = .seq its n ∧ its.size ≤ sizeLine ∧ Vals xs its.toList
noncomputable def absV : Value → Option V
  | .none => some .non
  | .bool b => some (.bl b)
  | .int i _ => some (.int i)
  | .str x _ => some (.str x)
  | .bytes b _ => some (.byt b)
  | .float b _ => some (.flt b)
  | .ref a => some (.ref a)
  | .type n => some (.ty n)
  | _ => none
theorem RelV.abs {x : V} {u : Value} (r : RelV x u) : absV u = some x := by
  cases x with
  | non => cases r; rfl
  | bl _ => cases r; rfl
  | int _ => obtain ⟨t, rfl⟩ := r; rfl
  | str _ => obtain ⟨t, rfl⟩ := r; rfl
  | byt _ => obtain ⟨t, rfl⟩ := r; rfl
  | flt _ => obtain ⟨t, rfl⟩ := r; rfl
  | ref _ => cases r; rfl
  | ty _ => cases r; rfl
theorem RelV.inj {x y : V} {u : Value} (r : RelV x u) (q : RelV y u) : x = y := Option.some.inj (r.abs.symm.trans q.abs)
theorem Vals.inj {xs ys : List V} {us : List Value} (h : Vals xs us) (h' : Vals ys us) : xs = ys := by
  induction h generalizing ys with
  | nil => cases h'; rfl
  | cons r t ih => cases h' with | cons r' t' => rw [RelV.inj r r', ih t']
section
variable {X : Cx} {pins : List (Addr × Obj)} {σ : St} {H : Hp} {s : Shared} {a : Addr} {xs ys : List V}
theorem SqL.of {K : PySem.W.Frag} (h : H a = some (.lst xs)) : SqL K H a xs := .inl (.inl h)
theorem SqT.of {K : PySem.W.Frag} (h : H a = some (.tup xs)) : SqT K H a xs := .inl (.inl h)
theorem Inv.list (I : Inv X pins σ H s) (h : SqL X.K H a xs) : ∃ its : List Value, Vals xs its ∧ PlainL s.heap a its.toArray ∧ xs.length ≤ sizeLine := by
  rcases h with h | ⟨o, its, n, hk, hc, hd, hs, hz, r⟩
  · obtain ⟨z, its, n, r, e⟩ := h.ok I.hok
    exact ⟨its, r, ⟨_, n, e, rfl, rfl, rfl⟩, z⟩
  · refine ⟨its.toList, r, ⟨o, n, I.kIn a o hk, hc, hd, by simpa using hs⟩, ?_⟩
    have e := r.length
    simp only [Array.length_toList] at e
    (first | lia | omega)
theorem Inv.tuple (I : Inv X pins σ H s) (h : SqT X.K H a xs) : ∃ its : List Value, Vals xs its ∧ IsTup s.heap a its.toArray ∧ xs.length ≤ sizeLine := by
  rcases h with h | ⟨o, its, n, hk, hc, hs, hz, r⟩
  · obtain ⟨z, its, r, p⟩ := h.ok I.hok
    exact ⟨its, r, p, z⟩
  · refine ⟨its.toList, r, ⟨o, I.kIn a o hk, hc, n, by simpa using hs⟩, ?_⟩
    have e := r.length
    simp only [Array.length_toList] at e
    (first | lia | omega)
theorem Inv.list_inj (I : Inv X pins σ H s) (h : SqL X.K H a xs) (h' : SqL X.K H a ys) : xs = ys := by
  obtain ⟨its, r, ⟨o, n, e, _, _, d⟩, _⟩ := I.list h
  obtain ⟨its', r', ⟨o', n', e', _, _, d'⟩, _⟩ := I.list h'
  rw [e] at e'; cases e'
  rw [d] at d'
  injection d' with d1 _
  have : its = its' := by simpa using congrArg Array.toList d1
  subst this
  exact r.inj r'
theorem Inv.tuple_inj (I : Inv X pins σ H s) (h : SqT X.K H a xs) (h' : SqT X.K H a ys) : xs = ys := by
  obtain ⟨its, r, ⟨o, e, _, n, d⟩, _⟩ := I.tuple h
  obtain ⟨its', r', ⟨o', e', _, n', d'⟩, _⟩ := I.tuple h'
  rw [e] at e'; cases e'
  rw [d] at d'
  injection d' with d1 _
  have : its = its' := by simpa using congrArg Array.toList d1
  subst this
  exact r.inj r'
end

/-! ### another wish about exceptions -/
noncomputable abbrev Cx.wish (X : Cx) (E : Value → Shared → Prop) : Cx := { X with xe := E }
/-- no exception leaves -/
noncomputable abbrev Cx.nox (X : Cx) : Cx := X.wish fun _ _ => False
theorem Cx.Ok.wish {X : Cx} (ok : X.Ok) (E : Value → Shared → Prop) : (X.wish E).Ok :=
  ⟨ok.mod, ok.kind, ok.glob, ok.blt, ok.above, ok.inj, ok.has, ok.cab, ok.hd, ok.frames, ok.stk, ok.exf, ok.bs, ok.bsz, ok.noex, ok.exfs, ok.funs, ok.frf⟩
theorem Cx.Ok.unwish {X : Cx} {E : Value → Shared → Prop} (ok : (X.wish E).Ok) : X.Ok :=
  ⟨ok.mod, ok.kind, ok.glob, ok.blt, ok.above, ok.inj, ok.has, ok.cab, ok.hd, ok.frames, ok.stk, ok.exf, ok.bs, ok.bsz, ok.noex, ok.exfs, ok.funs, ok.frf⟩
section
variable {X : Cx} {pins : List (Addr × Obj)} {σ : St} {H : Hp} {s : Shared} {E : Value → Shared → Prop}
theorem Inv.wish (I : Inv X pins σ H s) (E : Value → Shared → Prop) : Inv (X.wish E) pins σ H s := ⟨I.ok.wish E, I.os, I.bare, I.base, I.loc, I.cell, I.free, I.freeC, I.pin, I.hok, I.len⟩
theorem Inv.unwish (I : Inv (X.wish E) pins σ H s) : Inv X pins σ H s := ⟨I.ok.unwish, I.os, I.bare, I.base, I.loc, I.cell, I.free, I.freeC, I.pin, I.hok, I.len⟩
theorem SP.unwish {D : Ends} {f : Flow} {s' : Shared} (h : SP (X.wish E) pins D f s') : SP X pins D f s' := by
  cases f with
  | next => obtain ⟨σ', H', I, q⟩ := h; exact ⟨σ', H', I.unwish, q⟩
  | brk => obtain ⟨σ', H', I, q⟩ := h; exact ⟨σ', H', I.unwish, q⟩
  | cont => obtain ⟨σ', H', I, q⟩ := h; exact ⟨σ', H', I.unwish, q⟩
  | ret u => obtain ⟨v, σ', H', I, r, q⟩ := h; exact ⟨v, σ', H', I.unwish, r, q⟩
theorem PSs.nox {st : List Stmt} {t : TS} (h : PSs X.nox st t) : PSs X st t := fun pins s σ H D I hw =>
  wpAny_mono (h s σ H D (I.wish _) hw) (fun _ _ q => q.unwish) fun _ _ z => False.elim z
end

/-! ### blocks and small statements -/
section
variable {X : Cx} {st : Stmt} {rest : List Stmt} {t u : TS} {e : Expr} {te : TE} {pos : Pos}
noncomputable def tNext : TS := fun D σ H => D.nx σ H
noncomputable def tSeq (t u : TS) : TS := fun D σ H => t { D with nx := u D } σ H
theorem pss_nil : PSs X [] tNext := fun _ _ σ H _ I h => wpAny_execs_nil ⟨σ, H, I, h⟩
theorem pss_cons (h1 : PS X st t) (h2 : PSs X rest u) : PSs X (st :: rest) (tSeq t u) := by
  intro pins s σ H D I h
  refine wpAny_execs_cons (thn (h1 s σ H { D with nx := u D } I h) fun f s1 q => ?_)
  cases f with
  | next =>
    obtain ⟨σ', H', I', q⟩ := q
    exact h2 s1 σ' H' D I' q
  | ret v => exact q
  | brk => exact q
  | cont => exact q
theorem pss_one (h1 : PS X st t) : PSs X [st] t := by
  intro pins s σ H D I h
  refine wpAny_execs_cons (thn (h1 s σ H D I h) fun f s1 q => ?_)
  cases f with
  | next => exact wpAny_execs_nil q
  | ret v => exact q
  | brk => exact q
  | cont => exact q
/-- in a def's body nothing is shown -/
theorem Inv.quiet {pins : List (Addr × Obj)} {σ : St} {H : Hp} {s : Shared} (I : Inv X pins σ H s) : interactive X.env = false := by simp [interactive, I.ok.kind]
/-- an expression whose value is dropped -/
noncomputable def tDrop (te : TE) : TS := fun D σ H => te σ H fun _ H1 => D.nx σ H1
theorem ps_expr (he : PE X e te) (hs : swapsWith e none pos.line X.env = pure false := by rfl) : PS X (.Expr e pos) (tDrop te) := by
  intro pins s σ H D I h
  exact wpAny_Expr_any (thn (he s σ H _ I h) fun v s1 ⟨x, H1, I1, r1, q1⟩ => ⟨σ, H1, I1, q1⟩) I.quiet hs
noncomputable def tRet (te : TE) : TS := fun D σ H => te σ H D.rt
theorem ps_ret (he : PE X e te) : PS X (.Return (some e) pos) (tRet te) := by
  intro pins s σ H D I h
  exact wpAny_Return_some (thn (he s σ H _ I h) fun v s1 ⟨x, H1, I1, r1, q1⟩ => ⟨x, σ, H1, I1, r1, q1⟩)
noncomputable def tIfS (c : TT) (t u : TS) : TS := fun D σ H => c σ H fun b H1 => if b = true then t D σ H1 else u D σ H1
theorem ps_if {c : Expr} {a b : List Stmt} {tc : TT} (hc : PT X c tc) (ha : PSs X a t) (hb : PSs X b u) : PS X (.If c a b pos) (tIfS tc t u) := by
  intro pins s σ H D I h
  refine wpAny_If (thn (hc s σ H _ I h) fun d s1 ⟨H1, I1, q1⟩ => ?_)
  cases d with
  | true => exact ha s1 σ H1 D I1 q1
  | false => exact hb s1 σ H1 D I1 q1
end

/-! ### targets -/
noncomputable abbrev TG := V → St → Hp → (St → Hp → Prop) → Prop
noncomputable abbrev TGs := List V → St → Hp → (St → Hp → Prop) → Prop
noncomputable def PG (X : Cx) (target : Expr) (t : TG) : Prop :=
  ∀ ⦃pins : List (Addr × Obj)⦄ (s : Shared) (σ : St) (H : Hp) (v : V) (u : Value) (Q : St → Hp → Prop), Inv X pins σ H s → RelV v u → t v σ H Q →
    wpAny (model X.prog X.w) X.A (assign target X.env u) (fun _ s' => Ex2 fun σ' H' => Inv X pins σ' H' s' ∧ Q σ' H') X.xe s
/-- several targets, one after another -/
noncomputable def PGs (X : Cx) (ts : List Expr) (t : TGs) : Prop :=
  ∀ ⦃pins : List (Addr × Obj)⦄ (s : Shared) (σ : St) (H : Hp) (vs : List V) (us : List Value) (Q : St → Hp → Prop), Inv X pins σ H s → Vals vs us → t vs σ H Q →
    wpAny (model X.prog X.w) X.A (assignInOrder ((assignEach ts X.env).map (·.2)) us) (fun _ s' => Ex2 fun σ' H' => Inv X pins σ' H' s' ∧ Q σ' H') X.xe s
/-- o[i] = v, by values -/
noncomputable abbrev TSet := V → V → V → Hp → (Hp → Prop) → Prop
noncomputable def PSet (X : Cx) (t : TSet) : Prop :=
  ∀ ⦃pins : List (Addr × Obj)⦄ (s : Shared) (σ : St) (H : Hp) (o i v : V) (ov iv u : Value) (Q : Hp → Prop), Inv X pins σ H s → RelV o ov → RelV i iv → RelV v u → t o i v H Q →
    wpAny (model X.prog X.w) X.A (setItem ov iv u) (fun _ s' => ∃ H', Inv X pins σ H' s' ∧ Q H') X.xe s
/-- a op= b, by values -/
noncomputable abbrev TIp := V → V → Hp → VK → Prop
noncomputable def PIp (X : Cx) (op : Operator) (t : TIp) : Prop :=
  ∀ ⦃pins : List (Addr × Obj)⦄ (s : Shared) (σ : St) (H : Hp) (x y : V) (v u : Value) (Q : VK), Inv X pins σ H s → RelV x v → RelV y u → t x y H Q →
    wpAny (model X.prog X.w) X.A (inplaceOp op v u) (EP X pins σ Q) X.xe s
section
variable {X : Cx} {pos : Pos}
noncomputable def gName (i : Nat) : TG := fun v σ H Q => Q (σ.set i (some v)) H
theorem pg_name {i : Nat} {x : Str} (hN : X.N.Nodup) (hi : X.N[i]? = some x) (hx : Loc X.env.scope x) (hf : X.fn x = true ∨ X.env.scope.names.lookup x = some .local := by first | exact .inl rfl | exact .inr rfl | assumption) : PG X (.Name x pos) (gName i) := by
  intro pins s σ H v u Q I r h
  exact wpAny_assign_Name (store_ok I hN hi hx r (fun s' I' => ⟨_, H, I', h⟩) hf)
noncomputable def gNil : TGs := fun vs σ H Q => vs = [] ∧ Q σ H
noncomputable def gCons (t : TG) (u : TGs) : TGs := fun vs σ H Q => Ex2 fun v r => vs = v :: r ∧ t v σ H fun σ' H' => u r σ' H' Q
theorem pgs_nil : PGs X [] gNil := by
  intro pins s σ H vs us Q I r h
  obtain ⟨e, h⟩ := h
  subst e
  cases r
  exact assignInOrder_nil ⟨σ, H, I, h⟩
theorem pgs_cons {e : Expr} {es : List Expr} {t : TG} {u : TGs} (h1 : PG X e t) (h2 : PGs X es u)
    (hs : (assignEach (e :: es) X.env).map (·.2) = assign e X.env :: (assignEach es X.env).map (·.2) := by rfl) : PGs X (e :: es) (gCons t u) := by
  intro pins s σ H vs us Q I r h
  obtain ⟨v, vr, e1, h⟩ := h
  subst e1
  cases r with
  | cons r rr =>
    rw [hs]
    refine assignInOrder_cons (thn (h1 s σ H _ _ _ I r h) fun _ s1 ⟨σ1, H1, I1, q1⟩ => ?_)
    exact h2 s1 σ1 H1 _ _ Q I1 rr q1
/-- (a, b, ..) = a tuple of that length -/
noncomputable def gTup (K : PySem.W.Frag) (n : Nat) (t : TGs) : TG := fun v σ H Q => Ex2 fun a xs => v = .ref a ∧ SqT K H a xs ∧ xs.length = n ∧ t xs σ H Q
theorem pg_tup {es : List Expr} {k : Nat} {t : TGs} {n : Nat} (hc : X.calm = true) (h : PGs X es t)
    (hn : (assignEach es X.env).length = n := by rfl) (hst : (assignEach es X.env).findIdx? (·.1) = none := by rfl) : PG X (.Tuple es k pos) (gTup X.K n t) := by
  intro pins s σ H v u Q I r hw
  obtain ⟨a, xs, e1, hq, hl, hw⟩ := hw
  subst e1
  cases r
  obtain ⟨its, rv, ht, hz⟩ := I.tuple hq
  refine assign_Tuple_tuple (I.ok.hd hc) ht (by simp [hn, ← hl, rv.length]) hst fun h' hx => ?_
  have I1 : Inv X pins σ H { s with heap := h' } := I.kept (t' := s.toks) fun b o e => hx b o (Nat.ne_of_lt (Heap.lt_size e)) e
  exact h _ σ H xs _ Q I1 (by simpa using rv) hw
/-- o[i] = .. -/
noncomputable def gSub (to ti : TE) (t : TSet) : TG := fun v σ H Q => to σ H fun o H1 => ti σ H1 fun i H2 => t o i v H2 fun H3 => Q σ H3
theorem pg_sub {o i : Expr} {to ti : TE} {t : TSet} (ho : PE X o to) (hi : PE X i ti) (hs : PSet X t)
    (ha : ∀ v, assign (.Subscript o i pos) X.env v = (do
      let ov ← holding [v] (eval o X.env)
      let iv ← holding [v, ov] (eval i X.env)
      standAt pos
      holding [v, ov, iv] (setItem ov iv v)
      release [v, ov, iv] []) := by intro _; rfl) : PG X (.Subscript o i pos) (gSub to ti t) := by
  intro pins s σ H v u Q I r h
  rw [ha]
  refine wpAny_bind (wpAny_holding (thn (ho s σ H _ I h) fun ov s1 ⟨x, H1, I1, r1, q1⟩ => ?_))
  refine wpAny_bind (wpAny_holding (thn (hi s1 σ H1 _ I1 q1) fun iv s2 ⟨y, H2, I2, r2, q2⟩ => ?_))
  refine wpAny_bind (wpAny_standAt (wpAny_bind (wpAny_holding (thn (hs s2 σ H2 x y v ov iv u _ I2 r1 r2 r q2) fun _ s3 ⟨H3, I3, q3⟩ => ?_))))
  exact wpAny_release ⟨σ, H3, I3, q3⟩
/-- target = value -/
noncomputable def tAsg (te : TE) (g : TG) : TS := fun D σ H => te σ H fun x H1 => g x σ H1 D.nx
theorem ps_asg {tg e : Expr} {te : TE} {g : TG} (he : PE X e te) (hg : PG X tg g) (hs : swapsWithSole [tg] e pos.line X.env = pure false := by rfl) (hw : swappedStores [tg] e X.env = pure none := by rfl)
    (h1 : (assignEach [tg] X.env).map (·.2) = [assign tg X.env] := by rfl) : PS X (.Assign [tg] e pos) (tAsg te g) := by
  intro pins s σ H D I h
  refine wpAny_Assign_stores (thn (he s σ H _ I h) fun v s1 ⟨x, H1, I1, r1, q1⟩ => ?_) hs hw
  rw [h1]
  exact thn (hg s1 σ H1 x v _ I1 r1 q1) fun _ s2 q => q
/-- name = value -/
theorem ps_set {i : Nat} {x : Str} {e : Expr} {te : TE} {pos' : Pos} (hN : X.N.Nodup) (hi : X.N[i]? = some x) (hx : Loc X.env.scope x) (he : PE X e te) (hs : swapsWith e (some (.Name x pos')) pos.line X.env = pure false := by rfl) (hf : X.fn x = true ∨ X.env.scope.names.lookup x = some .local := by first | exact .inl rfl | exact .inr rfl | assumption) :
    PS X (.Assign [.Name x pos'] e pos) (tAsg te (gName i)) := by
  intro pins s σ H D I h
  refine wpAny_Assign_Name (thn (he s σ H _ I h) fun v s1 ⟨y, H1, I1, r1, q1⟩ => ?_) hs
  exact store_ok I1 hN hi hx r1 (fun s2 I2 => ⟨_, H1, I2, q1⟩) hf
/-- a, b = x, y with plain local names: stored from the right; the pair itself is not tracked (the opening rows as in PyProof/Rows/TupAssign.lean:23) -/
noncomputable def tPar (i j : Nat) (ta : TA) : TS := fun D σ H => ta σ H fun vs H1 => Ex2 fun v w => vs = [v, w] ∧ D.nx ((σ.set i (some v)).set j (some w)) H1
theorem ps_par {i j : Nat} {x y : Str} {a b : Expr} {ta : TA} {px py pt : Pos} {kt k2 pt2} (hc : X.calm = true) (hN : X.N.Nodup) (hi : X.N[i]? = some x) (hj : X.N[j]? = some y) (hij : i ≠ j)
    (hx : X.env.scope.names.lookup x = some .local) (hy : X.env.scope.names.lookup y = some .local) (ha : PA X [a, b] ta)
    (hw : swappedStores [.Tuple [.Name x px, .Name y py] kt pt] (.Tuple [a, b] k2 pt2) X.env = pure (some [x, y]))
    (hs : swapsWithSole [.Tuple [.Name x px, .Name y py] kt pt] (.Tuple [a, b] k2 pt2) pos.line X.env = pure false := by rfl) :
    PS X (.Assign [.Tuple [.Name x px, .Name y py] kt pt] (.Tuple [a, b] k2 pt2) pos) (tPar i j ta) := by
  intro pins s σ H D I h
  rw [exec_Assign_arm]
  refine wpAny_bind (wpAny_standAt ?_)
  rw [hs]
  refine wpAny_bind (wpAny_pure ?_)
  rw [if_neg (by decide)]
  refine wpAny_bind (Tuple_ (thn (ha s σ H _ I h) fun us s1 ⟨vs, H1, I1, r1, q1⟩ => ?_))
  obtain ⟨v, w, e1, q1⟩ := q1
  subst e1
  obtain ⟨u1, u2, rfl, rv, rw'⟩ : ∃ u1 u2, us = [u1, u2] ∧ RelV v u1 ∧ RelV w u2 := by
    cases r1 with
    | cons p q =>
      cases q with
      | cons p' q' =>
        cases q'
        exact ⟨_, _, rfl, p, p'⟩
  refine wpAny_newObj_type ?_ (by show 2 ≤ sizeLine; decide)
  have I2 : Inv X pins σ H1 { s1 with heap := s1.heap.push { cls := .type "tuple", data := .seq [u1, u2].toArray } } := I1.kept (t' := s1.toks) fun b o e => Heap.get?_push_of_some _ e
  rw [hw]
  refine wpAny_bind (wpAny_pure ?_)
  show wpAny (model X.prog X.w) X.A (do rule "assign.swapped-stores"; let items ← unpackItems (.ref s1.heap.objs.size) 2 none; assignInOrder [fun v => bindName X.env y v, fun v => bindName X.env x v] items.reverse; pure Flow.next) _ _ _
  refine wpAny_bind (wpAny_rule (wpAny_bind (unpackItems_tuple (items := #[u1, u2]) (I.ok.hd hc) (IsTup.new s1.heap _) fun h' hx' => ?_)))
  have I3 := I2.kept (h' := h') (t' := s1.toks) fun b o e => hx' b o (Nat.ne_of_lt (Heap.lt_size e)) e
  show wpAny _ _ (assignInOrder [fun v => bindName X.env y v, fun v => bindName X.env x v] [u2, u1] >>= fun _ => pure Flow.next) _ _ _
  refine wpAny_bind (assignInOrder_cons (wpAny_bindName (store_ok I3 hN hj (.inl hy) rw' (fun s2 I4 => ?_) (.inr hy))))
  refine assignInOrder_cons (wpAny_bindName (store_ok I4 hN hi (.inl hx) rv (fun s3 I5 => assignInOrder_nil (wpAny_pure ?_)) (.inr hx)))
  rw [List.set_comm _ _ (Ne.symm hij)] at I5
  exact ⟨_, H1, I5, q1⟩
/-- name op= e -/
noncomputable def tAug (i : Nat) (te : TE) (ti : TIp) : TS := fun D σ H => ∃ x, σ[i]? = some (some x) ∧ te σ H fun y H1 => ti x y H1 fun z H2 => D.nx (σ.set i (some z)) H2
theorem ps_aug {i : Nat} {x : Str} {e : Expr} {te : TE} {op : Operator} {ti : TIp} {pos' : Pos} (hN : X.N.Nodup) (hi : X.N[i]? = some x) (hx : Loc X.env.scope x) (he : PE X e te) (ho : PIp X op ti) (hf : X.fn x = true ∨ X.env.scope.names.lookup x = some .local := by first | exact .inl rfl | exact .inr rfl | assumption) :
    PS X (.AugAssign (.Name x pos') op e pos) (tAug i te ti) := by
  intro pins s σ H D I h
  obtain ⟨v, e1, h⟩ := h
  obtain ⟨m, hn, hl⟩ := I.loc
  have vis : Vis X.env.scope x := by rcases hx with k | k; exact .inl k; exact .inr (.inl k)
  obtain ⟨u, r, l⟩ := hl i x v hi e1 vis
  refine wpAny_AugAssign_Name ?_
  have go : wpAny (model X.prog X.w) X.A (eval e X.env) (fun w s₂ => wpAny (model X.prog X.w) X.A (inplaceOp op u w) (fun r s₃ => wpAny (model X.prog X.w) X.A (storeName X.env x r) (fun _ => SP X pins D .next) X.xe s₃) X.xe s₂) X.xe s := by
    refine thn (he s σ H _ I h) fun w s1 ⟨y, H1, I1, r1, q1⟩ => ?_
    refine thn (ho s1 σ H1 v y u w _ I1 r r1 q1) fun z s2 ⟨zv, H2, I2, r2, q2⟩ => ?_
    exact store_ok I2 hN hi hx r2 (fun s3 I3 => ⟨_, H2, I3, q2⟩) hf
  rcases l with ⟨hk, hm⟩ | ⟨hk, c, hc, hcell⟩
  · exact wpAny_loadName_local I.ok.kind hk hn hm go
  · rcases hk with hk | hk
    · exact wpAny_loadName_cell I.ok.kind hk hc hcell go
    · rcases hx with k | k
      · have : X.env.scope.names.lookup x = some .free := hk
        rw [k] at this; cases this
      · have : X.env.scope.names.lookup x = some .free := hk
        rw [k] at this; cases this
/-- ints -/
noncomputable def ipI (f : Int → Int → Int) : TIp := fun x y H Q => Ex2 fun i j => x = .int i ∧ y = .int j ∧ Q (.int (f i j)) H
theorem ip_add : PIp X .Add (ipI fun i j => i + j) := by
  intro pins s σ H x y v u Q I r1 r2 h
  obtain ⟨i, j, e1, e2, q⟩ := h
  subst e1; subst e2
  obtain ⟨t, rfl⟩ := r1
  obtain ⟨t', rfl⟩ := r2
  exact iadd_int ⟨.int _, H, I.tok _, ⟨_, rfl⟩, q⟩
end

/-! ### while -/
section
variable {X : Cx} {pos : Pos}
/-- the invariant W with its measure -/
noncomputable def tWhile (c : TT) (tb : TS) : TS := fun D σ H => ∃ W : Nat → St → Hp → Prop, (∃ m, W m σ H) ∧ ∀ m σ H, W m σ H →
  c σ H fun b H1 => if b = true then ∃ N : St → Hp → Prop, (∀ σ' H', N σ' H' → ∃ m', m' < m ∧ W m' σ' H') ∧ tb { D with nx := N, ct := N, bk := D.nx } σ H1 else D.nx σ H1
theorem ps_while {c : Expr} {body : List Stmt} {tc : TT} {tb : TS} (hp : PassesOwn (model X.prog X.w) X.A X.env X.xe) (hc : PT X c tc) (hb : PSs X body tb) : PS X (.While c body [] pos) (tWhile tc tb) := by
  intro pins s σ H D I h
  obtain ⟨W, ⟨m0, w0⟩, turn⟩ := h
  refine wpAny_While (codeAny_whileLoop (fun n s' => ∃ σ' H', Inv X pins σ' H' s' ∧ W n σ' H') ?_ m0 ⟨σ, H, I, w0⟩)
  rintro n s1 ⟨σ1, H1, I1, w1⟩
  refine wpAny_passesOwn hp (thn (hc s1 σ1 H1 _ I1 (turn n σ1 H1 w1)) fun b s2 ⟨H2, I2, q2⟩ => ?_)
  cases b with
  | true =>
    obtain ⟨N, hN, q2⟩ := q2
    rw [if_pos rfl]
    refine wpAny_passesOwn hp (thn (hb s2 σ1 H2 _ I2 q2) fun f s3 q3 => ?_)
    cases f with
    | next =>
      obtain ⟨σ3, H3, I3, n3⟩ := q3
      obtain ⟨m', hm, w3⟩ := hN σ3 H3 n3
      exact ⟨m', hm, σ3, H3, I3, w3⟩
    | cont =>
      obtain ⟨σ3, H3, I3, n3⟩ := q3
      obtain ⟨m', hm, w3⟩ := hN σ3 H3 n3
      exact ⟨m', hm, σ3, H3, I3, w3⟩
    | brk => exact q3
    | ret v => exact q3
  | false =>
    rw [if_neg Bool.false_ne_true]
    exact wpAny_execs_nil ⟨σ1, H2, I2, q2⟩
end

/-! ### what a loop or a comprehension walks -/
/-- at turn i: it yields x (the heap may grow), or it stops -/
structure It where
  go : Nat → Hp → Prop
  yld : Nat → Hp → V → Hp → Prop
  stop : Nat → Hp → Prop
/-- the iterator's own objects may turn: they are not the frame's, not pinned, younger than the entry (or a comprehension's own) -/
noncomputable def FpOk (X : Cx) (pins : List (Addr × Obj)) (H : Hp) (b : Addr) : Prop :=
  H b = none ∧ b ≠ X.env.locals ∧ b ∉ X.fs ∧ (b ∈ X.ex ∨ X.s₀.heap.objs.size ≤ b) ∧ (∀ x c, X.env.cells.lookup x = some c → c ≠ b) ∧ ∀ p ∈ X.pn ++ pins, p.1 ≠ b
theorem Inv.fpOk {X : Cx} {pins : List (Addr × Obj)} {σ : St} {H H' : Hp} {s : Shared} {b : Addr} (I : Inv X pins σ H s) (hb : s.heap.objs.size ≤ b) (hn : H' b = none) : FpOk X pins H' b := by
  refine ⟨hn, Nat.ne_of_gt (Nat.lt_of_lt_of_le I.lt hb), I.nofs hb, .inr (Nat.le_trans I.sz hb), fun x c e z => ?_, fun p hp z => ?_⟩
  · obtain ⟨v, q⟩ := I.cell x c e
    exact absurd (Nat.lt_of_lt_of_le q.lt (by rw [z]; exact hb)) (Nat.lt_irrefl _)
  · exact absurd (Nat.lt_of_lt_of_le (Heap.lt_size (I.pin p hp).1) (by rw [z]; exact hb)) (Nat.lt_irrefl _)
structure Turn (P : Program) (w : World) (K : PySem.W.Frag) (tg : Expr) (J : It) (fp : List Addr) (it : Addr) (tn : Nat → Heap → Prop) : Prop where
  mem : it ∈ fp
  obj : ∀ i h, tn i h → ∀ b ∈ fp, ∃ o, h.get? b = some o ∧ ∀ v, o.data ≠ .cell v
  keep : ∀ i h h', tn i h → (∀ b ∈ fp, ∀ o, h.get? b = some o → h'.get? b = some o) → tn i h'
  item : ∀ (X : Cx), X.prog = P → X.w = w → X.K = K → X.calm = true → ∀ (i : Nat) (pins : List (Addr × Obj)) (s : Shared) (σ : St) (H : Hp) (E : Value → Shared → Prop), Inv X pins σ H s → (∀ b ∈ fp, FpOk X pins H b) → tn i s.heap → J.go i H →
    wpAny (model P w) X.A (pyNext (.ref it)) (fun r s1 => ∃ u, r = some u ∧
      wpAny (model P w) X.A (letOwnedTupleGo tg (.ref it) u) (fun _ s2 => ∃ x H', Inv X pins σ H' s2 ∧ RelV x u ∧ J.yld i H x H' ∧ tn (i + 1) s2.heap ∧ ∀ b ∈ fp, H' b = none) E s1) E s
  done : ∀ (X : Cx), X.prog = P → X.w = w → X.K = K → X.calm = true → ∀ (i : Nat) (pins : List (Addr × Obj)) (s : Shared) (σ : St) (H : Hp) (E : Value → Shared → Prop), Inv X pins σ H s → (∀ b ∈ fp, FpOk X pins H b) → tn i s.heap → J.stop i H →
    wpAny (model P w) X.A (pyNext (.ref it)) (fun r s1 => r = none ∧ Inv X pins σ H s1) E s
  self : ∀ (A : Around) (i : Nat) (s : Shared) (Q : Value → Shared → Prop) (E : Value → Shared → Prop), tn i s.heap → Q (.ref it) s → wpAny (model P w) A (pyIter (.ref it)) Q E s
noncomputable abbrev TI := St → Hp → (It → Hp → Prop) → Prop
/-- an iterator has come -/
noncomputable def PIE (X : Cx) (pins : List (Addr × Obj)) (σ : St) (tg : Expr) (R : It → Hp → Prop) (itv : Value) (s2 : Shared) : Prop :=
  Ex5 fun (it : Addr) (fp : List Addr) (tn : Nat → Heap → Prop) (J : It) (H' : Hp) => itv = .ref it ∧ Inv X pins σ H' s2 ∧ Turn X.prog X.w X.K tg J fp it tn ∧ tn 0 s2.heap ∧ (∀ b ∈ fp, FpOk X pins H' b) ∧ R J H'
noncomputable def PI (X : Cx) (tg iter : Expr) (wi : TI) : Prop :=
  ∀ ⦃pins : List (Addr × Obj)⦄ (s : Shared) (σ : St) (H : Hp) (R : It → Hp → Prop), Inv X pins σ H s → wi σ H R →
    wpAny (model X.prog X.w) X.A (eval iter X.env) (fun v s1 => wpAny (model X.prog X.w) X.A (pyIter v) (PIE X pins σ tg R) X.xe s1) X.xe s

/-- the step ahead of the store is nothing for an iterator that keeps no tuple -/
theorem go_of {M : Model} {A : Around} {E : Value → Shared → Prop} {s : Shared} {tg : Expr} {it : Addr} {u : Value} {o : Obj} {n : String} {vs : Array Value} {Q : Unit → Shared → Prop} (ho : s.heap.get? it = some o) (hc : o.cls = .type n) (hd : o.data = .fields vs)
    (hn : ["enumerate", "zip", "dict_itemiterator", "dict_reverseitemiterator", "odict_iterator", "itertools.zip_longest", "itertools.pairwise"].contains n = false) (hQ : Q () s) : wpAny M A (letOwnedTupleGo tg (.ref it) u) Q E s := by
  unfold letOwnedTupleGo
  cases tg <;> first
    | exact wpAny_pure hQ
    | (cases u <;> first
        | exact wpAny_pure hQ
        | (refine wpAny_bind (wpAny_load ho ?_)
           rw [hc, hd]
           show wpAny M A (if (["enumerate", "zip", "dict_itemiterator", "dict_reverseitemiterator", "odict_iterator", "itertools.zip_longest", "itertools.pairwise"].contains n && vs[0]? == some (rawInt _)) = true then _ else _) Q E s
           rw [if_neg (by intro h; rw [hn, Bool.false_and] at h; cases h)]
           exact wpAny_pure hQ))

/-- the list at a, as it stands at each turn (a loop may append to it) -/
noncomputable def Itl (K : PySem.W.Frag) (a : Addr) : It :=
  ⟨fun i H => Ex2 fun xs x => SqL K H a xs ∧ xs[i]? = some x, fun i H x H' => H' = H ∧ ∀ xs, SqL K H a xs → xs[i]? = some x, fun i H => ∃ xs, SqL K H a xs ∧ xs.length ≤ i⟩
noncomputable def Itt (K : PySem.W.Frag) (a : Addr) : It :=
  ⟨fun i H => Ex2 fun xs x => SqT K H a xs ∧ xs[i]? = some x, fun i H x H' => H' = H ∧ ∀ xs, SqT K H a xs → xs[i]? = some x, fun i H => ∃ xs, SqT K H a xs ∧ xs.length ≤ i⟩
/-- lo, lo + 1, .. (n of them) -/
noncomputable def Itr (lo : Int) (n : Nat) : It := ⟨fun i _ => i < n, fun i H x H' => H' = H ∧ x = .int (lo + i), fun i _ => n ≤ i⟩
theorem turn_list {P : Program} {w : World} {K : PySem.W.Frag} {tg : Expr} (a it : Addr) : Turn P w K tg (Itl K a) [it] it (fun i h => h.IsListIter it a i) where
  mem := by simp
  obj := fun i h st b hb => by
    have e : b = it := by simpa using hb
    subst e
    obtain ⟨o, e, c, d⟩ := st
    exact ⟨o, e, fun v z => by rw [d] at z; cases z⟩
  keep := fun i h h' st k => st.at fun o e => k it (by simp) o e
  item := by
    intro X hP hw hK hc i pins s σ H E I hf st hg
    subst hP hw hK
    obtain ⟨xs, x, hq, hx⟩ := hg
    obtain ⟨its, rv, p, hz⟩ := I.list hq
    obtain ⟨u, hu, ru⟩ := rv.get hx
    obtain ⟨f0, f1, f2, f3, f4, f5⟩ := hf it (by simp)
    refine wpAny_pyNext_list_item st p.isList (x := u) (by simpa using hu) fun h' st' sb => ?_
    have I1 : Inv X pins σ H { s with heap := h' } := I.turned (t' := s.toks) (fun b o hb e => (sb.2 b hb).trans e) f0 f1 f3 f4 f5
    obtain ⟨o, e, c, d⟩ := id st'
    exact ⟨u, rfl, go_of (s := { s with heap := h' }) e c d (by decide) ⟨x, H, I1, ru, ⟨rfl, fun ys hy => by rw [I.list_inj hy hq]; exact hx⟩, st', fun b hb => (hf b hb).1⟩⟩
  done := by
    intro X hP hw hK hc i pins s σ H E I hf st hg
    subst hP hw hK
    obtain ⟨xs, hq, hx⟩ := hg
    obtain ⟨its, rv, p, hz⟩ := I.list hq
    obtain ⟨f0, f1, f2, f3, f4, f5⟩ := hf it (by simp)
    have hl := rv.length
    exact wpAny_pyNext_list_end (I.ok.hd hc) st p.isList (by simp; (first | lia | omega)) fun h' eb => ⟨rfl, I.turned (t' := s.toks) (fun b o hb e => eb b o hb e) f0 f1 f3 f4 f5⟩
  self := fun _ _ _ _ _ st h => wpAny_pyIter_listiter st h
theorem turn_tuple {P : Program} {w : World} {K : PySem.W.Frag} {tg : Expr} (a it : Addr) : Turn P w K tg (Itt K a) [it] it (fun i h => h.IsTupleIter it a i) where
  mem := by simp
  obj := fun i h st b hb => by
    have e : b = it := by simpa using hb
    subst e
    obtain ⟨o, e, c, d⟩ := st
    exact ⟨o, e, fun v z => by rw [d] at z; cases z⟩
  keep := fun i h h' st k => st.at fun o e => k it (by simp) o e
  item := by
    intro X hP hw hK hc i pins s σ H E I hf st hg
    subst hP hw hK
    obtain ⟨xs, x, hq, hx⟩ := hg
    obtain ⟨its, rv, p, hz⟩ := I.tuple hq
    obtain ⟨u, hu, ru⟩ := rv.get hx
    obtain ⟨f0, f1, f2, f3, f4, f5⟩ := hf it (by simp)
    refine wpAny_pyNext_tuple_item st (show s.heap.IsTuple a its.toArray from p) (x := u) (by simpa using hu) fun h' st' sb => ?_
    have I1 : Inv X pins σ H { s with heap := h' } := I.turned (t' := s.toks) (fun b o hb e => (sb.2 b hb).trans e) f0 f1 f3 f4 f5
    obtain ⟨o, e, c, d⟩ := id st'
    exact ⟨u, rfl, go_of (s := { s with heap := h' }) e c d (by decide) ⟨x, H, I1, ru, ⟨rfl, fun ys hy => by rw [I.tuple_inj hy hq]; exact hx⟩, st', fun b hb => (hf b hb).1⟩⟩
  done := by
    intro X hP hw hK hc i pins s σ H E I hf st hg
    subst hP hw hK
    obtain ⟨xs, hq, hx⟩ := hg
    obtain ⟨its, rv, p, hz⟩ := I.tuple hq
    obtain ⟨f0, f1, f2, f3, f4, f5⟩ := hf it (by simp)
    have hl := rv.length
    exact wpAny_pyNext_tuple_end (I.ok.hd hc) st (show s.heap.IsTuple a its.toArray from p) (by simp; (first | lia | omega)) fun h' eb => ⟨rfl, I.turned (t' := s.toks) (fun b o hb e => eb b o hb e) f0 f1 f3 f4 f5⟩
  self := fun _ _ _ _ _ st h => wpAny_pyIter_tupleiter st h
theorem turn_range {P : Program} {w : World} {K : PySem.W.Frag} {tg : Expr} (it : Addr) (lo : Int) (n : Nat) : Turn P w K tg (Itr lo n) [it] it (fun i h => IsRangeIter h it (lo + (i : Nat) * 1) ((n : Int) - (i : Nat)) 1) where
  mem := by simp
  obj := fun i h st b hb => by
    have e : b = it := by simpa using hb
    subst e
    exact ⟨_, st, fun v z => by
      have z' : Data.fields _ = Data.cell v := z
      cases z'⟩
  keep := fun i h h' st k => k it (by simp) _ st
  item := by
    intro X hP hw hK hc i pins s σ H E I hf st hg
    subst hP hw hK
    obtain ⟨f0, f1, f2, f3, f4, f5⟩ := hf it (by simp)
    have W := Walks.range (prog := X.prog) (w := X.w) (I.ok.hd hc) it lo 1 n
    refine W.item i s _ _ hg st fun v h' tk hv st' kk => ?_
    obtain ⟨t, rfl⟩ := hv
    have I1 : Inv X pins σ H { s with heap := h', toks := tk } := I.turned (fun b o hb e => kk b o (by simpa using hb) e) f0 f1 f3 f4 f5
    refine ⟨_, rfl, go_of (s := { s with heap := h', toks := tk }) (n := "range_iterator") st' rfl rfl (by decide) ⟨.int (lo + i), H, I1, ⟨t, ?_⟩, ⟨rfl, rfl⟩, st', fun b hb => (hf b hb).1⟩⟩
    rw [Int.mul_one]
  done := by
    intro X hP hw hK hc i pins s σ H E I hf st hg
    subst hP hw hK
    obtain ⟨f0, f1, f2, f3, f4, f5⟩ := hf it (by simp)
    exact wpAny_pyNext_range_end (I.ok.hd hc) st (by have : n ≤ i := hg; (first | lia | omega)) fun h' eb => ⟨rfl, I.turned (t' := s.toks) (fun b o hb e => eb b o hb e) f0 f1 f3 f4 f5⟩
  self := fun _ _ _ _ _ st h => wpAny_pyIter_rangeiter st h
end L2

namespace L2
open PySem PySem.Spec PyProof.Rows
section
variable {X : Cx} {tg : Expr}
noncomputable def iList (K : PySem.W.Frag) (tl : TE) : TI := fun σ H R => tl σ H fun x H1 => ∃ a, x = .ref a ∧ (∃ xs, SqL K H1 a xs) ∧ R (Itl K a) H1
noncomputable def iTup (K : PySem.W.Frag) (tl : TE) : TI := fun σ H R => tl σ H fun x H1 => ∃ a, x = .ref a ∧ (∃ xs, SqT K H1 a xs) ∧ R (Itt K a) H1
theorem pi_list {l : Expr} {tl : TE} (hl : PE X l tl) : PI X tg l (iList X.K tl) := by
  intro pins s σ H R I h
  refine thn (hl s σ H _ I h) fun v s1 ⟨x, H1, I1, r1, q1⟩ => ?_
  obtain ⟨a, e, ⟨xs, hq⟩, q⟩ := q1
  subst e
  cases r1
  obtain ⟨its, rv, p, hz⟩ := I1.list hq
  refine wpAny_pyIter_list p.isList ?_
  refine ⟨s1.heap.objs.size, [s1.heap.objs.size], _, _, H1, rfl, I1.kept (t' := s1.toks) fun b o e => Heap.get?_push_of_some _ e, turn_list a _, ⟨_, Heap.get?_push_size _ rfl, rfl, rfl⟩, fun b hb => ?_, q⟩
  have e : b = s1.heap.objs.size := by simpa using hb
  subst e
  exact I1.fpOk (Nat.le_refl _) (I1.hok.fresh (Nat.le_refl _))
theorem pi_tup {l : Expr} {tl : TE} (hl : PE X l tl) : PI X tg l (iTup X.K tl) := by
  intro pins s σ H R I h
  refine thn (hl s σ H _ I h) fun v s1 ⟨x, H1, I1, r1, q1⟩ => ?_
  obtain ⟨a, e, ⟨xs, hq⟩, q⟩ := q1
  subst e
  cases r1
  obtain ⟨its, rv, p, hz⟩ := I1.tuple hq
  refine wpAny_pyIter_tuple (show s1.heap.IsTuple a its.toArray from p) ?_
  refine ⟨s1.heap.objs.size, [s1.heap.objs.size], _, _, H1, rfl, I1.kept (t' := s1.toks) fun b o e => Heap.get?_push_of_some _ e, turn_tuple a _, ⟨_, Heap.get?_push_size _ rfl, rfl, rfl⟩, fun b hb => ?_, q⟩
  have e : b = s1.heap.objs.size := by simpa using hb
  subst e
  exact I1.fpOk (Nat.le_refl _) (I1.hok.fresh (Nat.le_refl _))
/-- a range object just made, walked -/
theorem range_it {pins : List (Addr × Obj)} {σ : St} {H : Hp} {s : Shared} {R : It → Hp → Prop} {E : Value → Shared → Prop} {lo hi : Int} {t u v : Tok} {tk : Nat} (I : Inv X pins σ H s) (h1 : -(2 ^ 62) ≤ lo) (h2 : lo < 2 ^ 62) (h3 : -(2 ^ 62) ≤ hi) (h4 : hi < 2 ^ 62)
    (q : R (Itr lo (hi - lo).toNat) H) : wpAny (model X.prog X.w) X.A (pyIter (.ref s.heap.objs.size)) (PIE X pins σ tg R) E { s with heap := s.heap.push { cls := .type "range", data := .fields #[.int lo t, .int hi u, .int 1 v] }, toks := tk } := by
  refine wpAny_pyIter_range (IsRange.new ..) (small_one h1 h2 h3 h4) ?_
  have I1 : Inv X pins σ H { s with heap := s.heap.push { cls := .type "range", data := .fields #[.int lo t, .int hi u, .int 1 v] }, toks := tk } := I.kept fun b o e => Heap.get?_push_of_some _ e
  refine ⟨(s.heap.push { cls := .type "range", data := .fields #[.int lo t, .int hi u, .int 1 v] }).objs.size, [(s.heap.push { cls := .type "range", data := .fields #[.int lo t, .int hi u, .int 1 v] }).objs.size], _, _, H, rfl,
    I1.kept (t' := tk) fun b o e => Heap.get?_push_of_some _ e, turn_range _ lo (hi - lo).toNat, ?_, fun b hb => ?_, q⟩
  · have e1 : lo + ((0 : Nat) : Int) * 1 = lo := by simp
    have e2 : (((hi - lo).toNat : Nat) : Int) - ((0 : Nat) : Int) = Builtin.Range.rangeSize lo hi 1 := by rw [rangeSize_one]; split <;> (first | lia | omega)
    show IsRangeIter _ _ (lo + ((0 : Nat) : Int) * 1) ((((hi - lo).toNat : Nat) : Int) - ((0 : Nat) : Int)) 1
    rw [e1, e2]
    exact Heap.get?_push_size _ rfl
  · have e : b = (s.heap.push { cls := .type "range", data := .fields #[.int lo t, .int hi u, .int 1 v] }).objs.size := by simpa using hb
    subst e
    exact I1.fpOk (Nat.le_refl _) (I1.hok.fresh (Nat.le_refl _))
noncomputable def iRng1 (ta : TA) : TI := fun σ H R => ta σ H fun vs H1 => ∃ j : Int, vs = [.int j] ∧ -(2 ^ 62) ≤ j ∧ j < 2 ^ 62 ∧ R (Itr 0 j.toNat) H1
theorem pi_range1 {a : Expr} {ta : TA} {p pos : Pos} (hg : Gl X "range") (hm : X.mg "range" = none) (ha : PA X [a] ta) (hs : starEach [a] X.env = [(false, eval a X.env)] := by rfl) : PI X tg (.Call (.Name "range" p) [a] [] pos) (iRng1 ta) := by
  intro pins s σ H R I h
  refine Call_ (ld_blt I hg hm boot_range (PyProof.Rows.callWith_type1 (thn (ha s σ H _ I h) fun us s1 ⟨vs, H1, I1, r1, q1⟩ => ?_) hs rfl))
  obtain ⟨j, e, q1, q2, q⟩ := q1
  subst e
  cases r1 with
  | cons r rr =>
    cases rr
    obtain ⟨t, rfl⟩ := r
    exact call_range_1 (range_it I1 (by (first | lia | omega)) (by (first | lia | omega)) q1 q2 (by simpa using q))
/-! ### for -/
/-- W: the invariant by the turn and a measure; N: what the body is to reach -/
noncomputable def tFor (wi : TI) (g : TG) (tb : TS) : TS := fun D σ H => wi σ H fun J H1 => ∃ W : Nat → Nat → St → Hp → Prop, (∃ m, W 0 m σ H1) ∧ ∀ i m σ H, W i m σ H →
  (J.stop i H ∧ D.nx σ H) ∨ (J.go i H ∧ ∃ N : St → Hp → Prop, (∀ σ' H', N σ' H' → ∃ m', m' < m ∧ W (i + 1) m' σ' H') ∧ ∀ x H', J.yld i H x H' → g x σ H' fun σ2 H2 => tb { D with nx := N, ct := N, bk := D.nx } σ2 H2)
/-- the records at fp as they stand -/
noncomputable def pinsAt (fp : List Addr) (h : Heap) : List (Addr × Obj) := fp.filterMap fun b => (h.get? b).map fun o => (b, o)
theorem mem_pinsAt {fp : List Addr} {h : Heap} {b : Addr} {o : Obj} (hb : b ∈ fp) (e : h.get? b = some o) : (b, o) ∈ pinsAt fp h := List.mem_filterMap.mpr ⟨b, hb, by rw [e]; rfl⟩
theorem of_pinsAt {fp : List Addr} {h : Heap} {p : Addr × Obj} (hp : p ∈ pinsAt fp h) : p.1 ∈ fp ∧ h.get? p.1 = some p.2 := by
  obtain ⟨b, hb, e⟩ := List.mem_filterMap.mp hp
  cases q : h.get? b with
  | none => rw [q] at e; cases e
  | some o =>
    rw [q] at e
    have e' : (b, o) = p := Option.some.inj e
    subst e'
    exact ⟨hb, q⟩
theorem Inv.pinned {pins : List (Addr × Obj)} {σ : St} {H : Hp} {s : Shared} {fp : List Addr} (I : Inv X pins σ H s) (hf : ∀ b ∈ fp, FpOk X pins H b) (ho : ∀ b ∈ fp, ∃ o, s.heap.get? b = some o ∧ ∀ v, o.data ≠ .cell v) : Inv X (pins ++ pinsAt fp s.heap) σ H s :=
  I.pins_of fun p hp => (List.mem_append.mp hp).elim (fun z => I.pin p (List.mem_append_right _ z)) fun z => by
    obtain ⟨hb, e⟩ := of_pinsAt z
    obtain ⟨f0, f1, f2, _⟩ := hf p.1 hb
    obtain ⟨o, e', d⟩ := ho p.1 hb
    rw [e] at e'; cases e'
    exact ⟨e, f0, f1, f2, d⟩
theorem Inv.unpinned {pins pl : List (Addr × Obj)} {σ : St} {H : Hp} {s : Shared} (I : Inv X (pins ++ pl) σ H s) : Inv X pins σ H s := I.pins_of fun p hp => I.pin p (List.mem_append_right _ (List.mem_append_left _ hp))
theorem ps_for {iter : Expr} {body : List Stmt} {wi : TI} {g : TG} {tb : TS} {pos : Pos} (hp : PassesOwn (model X.prog X.w) X.A X.env X.xe) (hc : X.calm = true) (hi : PI X tg iter wi) (hg : PG X tg g) (hb : PSs X body tb)
    (hs : ∀ x, foldedSetIterable iter X.env x = pure x := by intro _; rfl) : PS X (.For tg iter body [] pos) (tFor wi g tb) := by
  intro pins s σ H D I h
  refine wpAny_For (thn (hi s σ H _ I h) fun v s1 h1 => thn h1 fun itv s2 h2 => ?_) hs
  obtain ⟨it, fp, tn, J, H2, e, I2, T, st2, f2, W, ⟨m0, w0⟩, turn⟩ := h2
  subst e
  -- what stays true of the iterator's objects through the loop
  have stat : ∀ {H' : Hp}, (∀ b ∈ fp, H' b = none) → ∀ b ∈ fp, FpOk X pins H' b := fun hn b hb => ⟨hn b hb, (f2 b hb).2⟩
  refine codeAny_forLoop_any (fun n s' => ∃ i σ' H', Inv X pins σ' H' s' ∧ tn i s'.heap ∧ (∀ b ∈ fp, H' b = none) ∧ W i n σ' H') ?_ m0 ⟨0, σ, H2, I2, st2, fun b hb => (f2 b hb).1, w0⟩
  rintro n s3 ⟨i, σ3, H3, I3, st3, fr3, w3⟩
  rcases turn i n σ3 H3 w3 with ⟨stop, qn⟩ | ⟨go, N, hN, step⟩
  · refine wpAny_passesOwn hp (thn (T.done X rfl rfl rfl hc i pins s3 σ3 H3 X.xe I3 (stat fr3) st3 stop) fun r s4 ⟨hr, I4⟩ => ?_)
    subst hr
    exact wpAny_execs_nil ⟨σ3, H3, I4, qn⟩
  · refine wpAny_passesOwn hp (thn (T.item X rfl rfl rfl hc i pins s3 σ3 H3 X.xe I3 (stat fr3) st3 go) fun r s4 ⟨u, hr, h4⟩ => ?_)
    subst hr
    refine wpAny_passesOwn hp (thn h4 fun _ s5 ⟨x, H5, I5, r5, y5, st5, fr5⟩ => ?_)
    have I5' := I5.pinned (stat fr5) (T.obj _ _ st5)
    refine wpAny_passesOwn hp (thn (hg s5 σ3 H5 x u _ I5' r5 (step x H5 y5)) fun _ s6 ⟨σ6, H6, I6, q6⟩ => ?_)
    refine wpAny_passesOwn hp (thn (hb s6 σ6 H6 _ I6 q6) fun f s7 q7 => ?_)
    have again : ∀ {σ7 : St} {H7 : Hp}, Inv X (pins ++ pinsAt fp s5.heap) σ7 H7 s7 → N σ7 H7 → ∃ m, m < n ∧ ∃ i σ' H', Inv X pins σ' H' s7 ∧ tn i s7.heap ∧ (∀ b ∈ fp, H' b = none) ∧ W i m σ' H' := fun {σ7 H7} I7 n7 => by
      obtain ⟨m', hm, w7⟩ := hN σ7 H7 n7
      refine ⟨m', hm, i + 1, σ7, H7, I7.unpinned, T.keep _ _ _ st5 fun b hb o e => (I7.pin (b, o) (List.mem_append_right _ (List.mem_append_right _ (mem_pinsAt hb e)))).1, fun b hb => ?_, w7⟩
      obtain ⟨o, e, d⟩ := T.obj _ _ st5 b hb
      exact (I7.pin (b, o) (List.mem_append_right _ (List.mem_append_right _ (mem_pinsAt hb e)))).2.1
    cases f with
    | next => obtain ⟨σ7, H7, I7, n7⟩ := q7; exact again I7 n7
    | cont => obtain ⟨σ7, H7, I7, n7⟩ := q7; exact again I7 n7
    | brk => obtain ⟨σ7, H7, I7, q7⟩ := q7; exact ⟨σ7, H7, I7.unpinned, q7⟩
    | ret v => obtain ⟨x7, σ7, H7, I7, r7, q7⟩ := q7; exact ⟨x7, σ7, H7, I7.unpinned, r7, q7⟩
end

/-! ### the forms one uses -/
theorem for_range {lo : Int} {n : Nat} {g : TG} {tb : TS} {D : Ends} {σ : St} {H : Hp} (Pv : Nat → St → Hp → Prop) (h0 : Pv 0 σ H)
    (hs : ∀ i σ H, i < n → Pv i σ H → g (.int (lo + i)) σ H fun σ2 H2 => tb { D with nx := Pv (i + 1), ct := Pv (i + 1), bk := D.nx } σ2 H2) (hd : ∀ σ H, Pv n σ H → D.nx σ H) :
    ∃ W : Nat → Nat → St → Hp → Prop, (∃ m, W 0 m σ H) ∧ ∀ i m σ H, W i m σ H →
      ((Itr lo n).stop i H ∧ D.nx σ H) ∨ ((Itr lo n).go i H ∧ ∃ N : St → Hp → Prop, (∀ σ' H', N σ' H' → ∃ m', m' < m ∧ W (i + 1) m' σ' H') ∧ ∀ x H', (Itr lo n).yld i H x H' → g x σ H' fun σ2 H2 => tb { D with nx := N, ct := N, bk := D.nx } σ2 H2) := by
  refine ⟨fun i m σ H => m = n - i ∧ i ≤ n ∧ Pv i σ H, ⟨n, by simp, Nat.zero_le _, h0⟩, ?_⟩
  rintro i m σ H ⟨rfl, hi, p⟩
  by_cases hlt : i < n
  · refine .inr ⟨hlt, Pv (i + 1), fun σ' H' p' => ⟨n - (i + 1), by (first | lia | omega), rfl, hlt, p'⟩, fun x H' y => ?_⟩
    obtain ⟨e, y⟩ := y
    subst e y
    exact hs i σ _ hlt p
  · have e : i = n := by (first | lia | omega)
    subst e
    exact .inl ⟨Nat.le_refl _, hd σ H p⟩
end L2

namespace L2
open PySem PySem.Spec PyProof.Rows

noncomputable abbrev R2 := V → V → Hp → VK → Prop
/-- a two-place operation on values: f is binaryOp op, inplaceOp op or compareOp op -/
noncomputable def OpR (X : Cx) (f : Value → Value → Sem Value) (r : R2) : Prop :=
  ∀ ⦃pins : List (Addr × Obj)⦄ (s : Shared) (σ : St) (H : Hp) (x y : V) (v u : Value) (Q : VK), Inv X pins σ H s → RelV x v → RelV y u → r x y H Q →
    wpAny (model X.prog X.w) X.A (f v u) (EP X pins σ Q) X.xe s
/-- a one-place operation -/
noncomputable def UnR (X : Cx) (f : Value → Sem Value) (r : V → Hp → VK → Prop) : Prop :=
  ∀ ⦃pins : List (Addr × Obj)⦄ (s : Shared) (σ : St) (H : Hp) (x : V) (v : Value) (Q : VK), Inv X pins σ H s → RelV x v → r x H Q →
    wpAny (model X.prog X.w) X.A (f v) (EP X pins σ Q) X.xe s
/-- a call of a value that is known (a builtin, a type) with values -/
noncomputable def CallR (X : Cx) (f : Value) (r : List V → Hp → VK → Prop) : Prop :=
  ∀ ⦃pins : List (Addr × Obj)⦄ (s : Shared) (σ : St) (H : Hp) (xs : List V) (us : List Value) (Q : VK), Inv X pins σ H s → Vals xs us → r xs H Q →
    wpAny (model X.prog X.w) X.A (call f us) (EP X pins σ Q) X.xe s
noncomputable def tOp (r : R2) (ta tb : TE) : TE := fun σ H Q => ta σ H fun x H1 => tb σ H1 fun y H2 => r x y H2 Q
noncomputable def tUn (r : V → Hp → VK → Prop) (ta : TE) : TE := fun σ H Q => ta σ H fun x H1 => r x H1 Q
/-- ints in, under C, and a value out -/
noncomputable def rI (C : Int → Int → Prop) (g : Int → Int → V) : R2 := fun x y H Q => Ex2 fun i j => x = .int i ∧ y = .int j ∧ C i j ∧ Q (g i j) H
noncomputable def rI0 (g : Int → Int → V) : R2 := fun x y H Q => Ex2 fun i j => x = .int i ∧ y = .int j ∧ Q (g i j) H
noncomputable def rU (g : Int → V) : V → Hp → VK → Prop := fun x H Q => ∃ i, x = .int i ∧ Q (g i) H

section
variable {X : Cx} {a b c : Expr} {ta tb tc : TE} {pos : Pos}

theorem binT (ha : PE X a ta) (hb : PE X b tb) {pins : List (Addr × Obj)} {s : Shared} {σ : St} {H : Hp} {R : V → V → Hp → Prop} (I : Inv X pins σ H s)
    (h : ta σ H fun x H1 => tb σ H1 fun y H2 => R x y H2) {Q : Value → Shared → Prop} {f : Value → Value → Sem Value}
    (hf : ∀ v u s2 x y H2, Inv X pins σ H2 s2 → RelV x v → RelV y u → R x y H2 → wpAny (model X.prog X.w) X.A (f v u) Q X.xe s2) :
    wpAny (model X.prog X.w) X.A (eval a X.env) (fun v s₁ => wpAny (model X.prog X.w) X.A (eval b X.env) (fun u s₂ => wpAny (model X.prog X.w) X.A (f v u) Q X.xe s₂) X.xe s₁) X.xe s := by
  refine thn (ha s σ H _ I h) fun v s1 ⟨x, H1, I1, r1, q1⟩ => ?_
  refine thn (hb s1 σ H1 _ I1 q1) fun u s2 ⟨y, H2, I2, r2, q2⟩ => ?_
  exact hf v u s2 x y H2 I2 r1 r2 q2

theorem pe_op {op : Operator} {r : R2} (ho : OpR X (binaryOp op) r) (ha : PE X a ta) (hb : PE X b tb) : PE X (.BinOp a op b pos) (tOp r ta tb) := by
  intro pins s σ H Q I h
  exact wpAny_BinOp (binT ha hb I h fun v u s2 x y H2 I2 rx ry q => ho s2 σ H2 x y v u Q I2 rx ry q)
theorem pe_un {op : UnaryOp} {r : V → Hp → VK → Prop} (ho : UnR X (unaryOp op) r) (ha : PE X a ta) : PE X (.UnaryOp op a pos) (tUn r ta) := by
  intro pins s σ H Q I h
  exact UnaryOp_ (thn (ha s σ H _ I h) fun v s1 ⟨x, H1, I1, r1, q1⟩ => ho s1 σ H1 x v Q I1 r1 q1)
/-! ### ints -/
theorem opI {f : Value → Value → Sem Value} {C : Int → Int → Prop} {g : Int → Int → Int}
    (rule : ∀ (i j : Int) (t u : Tok) (s : Shared) (Q : Value → Shared → Prop) (E : Value → Shared → Prop), C i j → Q (.int (g i j) s.toks) { s with toks := s.toks + 1 } → wpAny (model X.prog X.w) X.A (f (.int i t) (.int j u)) Q E s) :
    OpR X f (rI C fun i j => .int (g i j)) := by
  intro pins s σ H x y v u Q I rx ry h
  obtain ⟨i, j, rfl, rfl, hc, q⟩ := h
  obtain ⟨t, rfl⟩ := rx
  obtain ⟨t', rfl⟩ := ry
  exact rule i j t t' s _ _ hc ⟨.int (g i j), H, I.tok _, ⟨_, rfl⟩, q⟩
theorem opI0 {f : Value → Value → Sem Value} {g : Int → Int → Int}
    (rule : ∀ (i j : Int) (t u : Tok) (s : Shared) (Q : Value → Shared → Prop) (E : Value → Shared → Prop), Q (.int (g i j) s.toks) { s with toks := s.toks + 1 } → wpAny (model X.prog X.w) X.A (f (.int i t) (.int j u)) Q E s) :
    OpR X f (rI0 fun i j => .int (g i j)) := by
  intro pins s σ H x y v u Q I rx ry h
  obtain ⟨i, j, rfl, rfl, q⟩ := h
  obtain ⟨t, rfl⟩ := rx
  obtain ⟨t', rfl⟩ := ry
  exact rule i j t t' s _ _ ⟨.int (g i j), H, I.tok _, ⟨_, rfl⟩, q⟩
theorem opB0 {f : Value → Value → Sem Value} {g : Int → Int → Bool}
    (rule : ∀ (i j : Int) (t u : Tok) (s : Shared) (Q : Value → Shared → Prop) (E : Value → Shared → Prop), Q (.bool (g i j)) s → wpAny (model X.prog X.w) X.A (f (.int i t) (.int j u)) Q E s) :
    OpR X f (rI0 fun i j => .bl (g i j)) := by
  intro pins s σ H x y v u Q I rx ry h
  obtain ⟨i, j, rfl, rfl, q⟩ := h
  obtain ⟨t, rfl⟩ := rx
  obtain ⟨t', rfl⟩ := ry
  exact rule i j t t' s _ _ ⟨.bl (g i j), H, I, rfl, q⟩

noncomputable def CDiv (i j : Int) : Prop := 0 < j ∧ j < 1073741824
noncomputable def CPow (i j : Int) : Prop := 0 ≤ j ∧ j ≤ 1000000 ∧ i.natAbs < 2 ^ 64
noncomputable def CMul (i j : Int) : Prop := (-(2 ^ 64) < i ∧ i < 2 ^ 64) ∨ (-(2 ^ 64) < j ∧ j < 2 ^ 64)
theorem CMul.ok {i j : Int} (h : CMul i j) : IntMulOk i j := by
  rcases h with ⟨h1, h2⟩ | ⟨h1, h2⟩
  · exact .of_left (intBits_le_64 h1 h2)
  · exact .of_right (intBits_le_64 h1 h2)
theorem op_add : OpR X (binaryOp .Add) (rI0 fun i j => .int (i + j)) := opI0 fun _ _ _ _ _ _ _ q => add_int q
theorem op_sub : OpR X (binaryOp .Sub) (rI0 fun i j => .int (i - j)) := opI0 fun _ _ _ _ _ _ _ q => sub_int q
theorem op_mul : OpR X (binaryOp .Mult) (rI CMul fun i j => .int (i * j)) := opI fun _ _ _ _ _ _ _ hc q => mul_int q hc.ok
/-- // by a positive divisor -/
theorem op_fdiv : OpR X (binaryOp .FloorDiv) (rI CDiv fun i j => .int (i / j)) := opI fun i j _ _ _ _ _ hc q => by
  have h1 : (0 : Int) < j := hc.1
  have h2 : j < 1073741824 := hc.2
  exact floordiv_int (by (first | lia | omega)) (by rw [Int.fdiv_eq_ediv_of_nonneg i (by (first | lia | omega))]; exact q) (.inl (PyProof.noPylong_small (by (first | lia | omega))))
/-- % by a positive divisor of any size -/
theorem op_mod : OpR X (binaryOp .Mod) (rI (fun _ j => 0 < j) fun i j => .int (i % j)) := opI fun i j _ _ _ _ _ hc q => by
  have h1 : (0 : Int) < j := hc
  exact mod_int' (by (first | lia | omega)) (by rw [Int.fmod_eq_emod_of_nonneg i (by (first | lia | omega))]; exact q)
theorem op_pow : OpR X (binaryOp .Pow) (rI CPow fun i j => .int (i ^ j.toNat)) := opI fun _ _ _ _ _ _ _ hc q => pow_int_small hc.1 hc.2.1 hc.2.2 q
theorem unI {f : Value → Sem Value} {g : Int → Int}
    (rule : ∀ (i : Int) (t : Tok) (s : Shared) (Q : Value → Shared → Prop) (E : Value → Shared → Prop), Q (.int (g i) s.toks) { s with toks := s.toks + 1 } → wpAny (model X.prog X.w) X.A (f (.int i t)) Q E s) :
    UnR X f (rU fun i => .int (g i)) := by
  intro pins s σ H x v Q I rx h
  obtain ⟨i, rfl, q⟩ := h
  obtain ⟨t, rfl⟩ := rx
  exact rule i t s _ _ ⟨.int (g i), H, I.tok _, ⟨_, rfl⟩, q⟩
theorem un_neg : UnR X (unaryOp .USub) (rU fun i => .int (-i)) := unI fun _ _ _ _ _ q => neg_int q
/-! ### bools among ints: n += (a < b) -/
end

/-! ### comparisons -/
/-- the scalars that == tells apart as data does -/
noncomputable def scal : V → V → Bool
  | .non, .non => true | .non, .int _ => true | .int _, .non => true | .non, .bl _ => true | .bl _, .non => true | .non, .str _ => true | .str _, .non => true
  | .int _, .int _ => true | .bl _, .bl _ => true | .str _, .str _ => true | .byt _, .byt _ => true
  | .int _, .str _ => true | .str _, .int _ => true | .bl _, .str _ => true | .str _, .bl _ => true
  | _, _ => false
noncomputable def rEq : R2 := fun x y H Q => scal x y = true ∧ Q (.bl (decide (x = y))) H
noncomputable def rNe : R2 := fun x y H Q => scal x y = true ∧ Q (.bl (!decide (x = y))) H

theorem dec_int {i j : Int} : decide (V.int i = V.int j) = (i == j) := by
  rw [Bool.eq_iff_iff]
  simp
theorem dec_bl {i j : Bool} : decide (V.bl i = V.bl j) = (i == j) := by
  rw [Bool.eq_iff_iff]
  simp
theorem dec_str {i j : Str} : decide (V.str i = V.str j) = (i == j) := by
  rw [Bool.eq_iff_iff]
  simp
theorem dec_byt {i j : Array UInt8} : decide (V.byt i = V.byt j) = (i.toList == j.toList) := by
  rw [Bool.eq_iff_iff]
  cases i
  cases j
  simp

section
variable {X : Cx} {a b c : Expr} {ta tb tc : TE} {pos : Pos}
theorem fin_bl {pins : List (Addr × Obj)} {σ : St} {H : Hp} {s : Shared} {Q : VK} {k k' : Bool} (I : Inv X pins σ H s) (q : Q (.bl k) H) (e : k = k') : EP X pins σ Q (.bool k') s := by
  subst e
  exact ⟨.bl k, H, I, rfl, q⟩
theorem op_eq : OpR X (compareOp .Eq) rEq := by
  intro pins s σ H x y v u Q I rx ry h
  obtain ⟨hs, q⟩ := h
  cases x with
  | non =>
    cases rx
    cases y with
    | non => cases ry; exact PySem.EqNone.eq_none_none (fin_bl I q (by simp))
    | bl j => cases ry; exact PySem.EqNone.eq_none_bool (fin_bl I q (by simp))
    | int j => obtain ⟨t', rfl⟩ := ry; exact PySem.EqNone.eq_none_int (fin_bl I q (by simp))
    | str j => obtain ⟨t', rfl⟩ := ry; exact PySem.EqNone.eq_none_str (fin_bl I q (by simp))
    | _ => exact absurd (show false = true from hs) Bool.false_ne_true
  | bl i =>
    cases rx
    cases y with
    | non => cases ry; exact PySem.EqNone.eq_bool_none (fin_bl I q (by simp))
    | bl j => cases ry; exact eq_bool (fin_bl I q dec_bl)
    | str j => obtain ⟨t', rfl⟩ := ry; exact PySem.EqMixed.eq_bool_str (fin_bl I q (by simp))
    | _ => exact absurd (show false = true from hs) Bool.false_ne_true
  | int i =>
    obtain ⟨t, rfl⟩ := rx
    cases y with
    | non => cases ry; exact PySem.EqNone.eq_int_none (fin_bl I q (by simp))
    | int j => obtain ⟨t', rfl⟩ := ry; exact eq_int (fin_bl I q dec_int)
    | str j => obtain ⟨t', rfl⟩ := ry; exact PySem.EqMixed.eq_int_str (fin_bl I q (by simp))
    | _ => exact absurd (show false = true from hs) Bool.false_ne_true
  | str i =>
    obtain ⟨t, rfl⟩ := rx
    cases y with
    | non => cases ry; exact PySem.EqNone.eq_str_none (fin_bl I q (by simp))
    | bl j => cases ry; exact PySem.EqMixed.eq_str_bool (fin_bl I q (by simp))
    | int j => obtain ⟨t', rfl⟩ := ry; exact PySem.EqMixed.eq_str_int (fin_bl I q (by simp))
    | str j => obtain ⟨t', rfl⟩ := ry; exact eq_str (fin_bl I q dec_str)
    | _ => exact absurd (show false = true from hs) Bool.false_ne_true
  | byt i =>
    obtain ⟨t, rfl⟩ := rx
    cases y with
    | byt j => obtain ⟨t', rfl⟩ := ry; exact PySem.W.eq_bytes (fin_bl I q dec_byt)
    | _ => exact absurd (show false = true from hs) Bool.false_ne_true
  | _ => cases y <;> exact absurd (show false = true from hs) Bool.false_ne_true
theorem op_ne : OpR X (compareOp .NotEq) rNe := by
  intro pins s σ H x y v u Q I rx ry h
  obtain ⟨hs, q⟩ := h
  cases x with
  | non =>
    cases rx
    cases y with
    | non => cases ry; exact PySem.EqNone.ne_none_none (fin_bl I q (by simp))
    | bl j => cases ry; exact PySem.EqNone.ne_none_bool (fin_bl I q (by simp))
    | int j => obtain ⟨t', rfl⟩ := ry; exact PySem.EqNone.ne_none_int (fin_bl I q (by simp))
    | str j => obtain ⟨t', rfl⟩ := ry; exact PySem.EqNone.ne_none_str (fin_bl I q (by simp))
    | _ => exact absurd (show false = true from hs) Bool.false_ne_true
  | bl i =>
    cases rx
    cases y with
    | non => cases ry; exact PySem.EqNone.ne_bool_none (fin_bl I q (by simp))
    | bl j => cases ry; exact ne_bool (fin_bl I q (congrArg not dec_bl))
    | str j => obtain ⟨t', rfl⟩ := ry; exact PySem.EqMixed.ne_bool_str (fin_bl I q (by simp))
    | _ => exact absurd (show false = true from hs) Bool.false_ne_true
  | int i =>
    obtain ⟨t, rfl⟩ := rx
    cases y with
    | non => cases ry; exact PySem.EqNone.ne_int_none (fin_bl I q (by simp))
    | int j => obtain ⟨t', rfl⟩ := ry; exact ne_int (fin_bl I q (congrArg not dec_int))
    | str j => obtain ⟨t', rfl⟩ := ry; exact PySem.EqMixed.ne_int_str (fin_bl I q (by simp))
    | _ => exact absurd (show false = true from hs) Bool.false_ne_true
  | str i =>
    obtain ⟨t, rfl⟩ := rx
    cases y with
    | non => cases ry; exact PySem.EqNone.ne_str_none (fin_bl I q (by simp))
    | bl j => cases ry; exact PySem.EqMixed.ne_str_bool (fin_bl I q (by simp))
    | int j => obtain ⟨t', rfl⟩ := ry; exact PySem.EqMixed.ne_str_int (fin_bl I q (by simp))
    | str j => obtain ⟨t', rfl⟩ := ry; exact ne_str (fin_bl I q (congrArg not dec_str))
    | _ => exact absurd (show false = true from hs) Bool.false_ne_true
  | byt i =>
    obtain ⟨t, rfl⟩ := rx
    cases y with
    | byt j => obtain ⟨t', rfl⟩ := ry; exact PySem.W.ne_bytes (fin_bl I q (congrArg not dec_byt))
    | _ => exact absurd (show false = true from hs) Bool.false_ne_true
  | _ => cases y <;> exact absurd (show false = true from hs) Bool.false_ne_true

theorem op_lt : OpR X (compareOp .Lt) (rI0 fun i j => .bl (decide (i < j))) := opB0 fun _ _ _ _ _ _ _ q => lt_int q
theorem op_gt : OpR X (compareOp .Gt) (rI0 fun i j => .bl (decide (j < i))) := opB0 fun _ _ _ _ _ _ _ q => gt_int q
theorem op_ge : OpR X (compareOp .GtE) (rI0 fun i j => .bl (decide (j ≤ i))) := opB0 fun _ _ _ _ _ _ _ q => ge_int q
/-- is None, is not None: the right side a value none -/
theorem op_isN : OpR X (compareOp .Is) (fun x y H Q => y = .non ∧ Q (.bl (decide (x = .non))) H) := by
  intro pins s σ H x y v u Q I rx ry h
  obtain ⟨rfl, q⟩ := h
  cases ry
  refine is_none_gen (fin_bl I q ?_)
  cases x <;> first
    | (cases rx; rfl)
    | (obtain ⟨t, rfl⟩ := rx; rfl)
/-- two rules for one operation: by cases -/
theorem OpR.or {f : Value → Value → Sem Value} {r r' : R2} (h : OpR X f r) (h' : OpR X f r') : OpR X f (fun x y H Q => r x y H Q ∨ r' x y H Q) := by
  intro pins s σ H x y v u Q I rx ry q
  rcases q with q | q
  · exact h s σ H x y v u Q I rx ry q
  · exact h' s σ H x y v u Q I rx ry q

theorem nomark (b : Expr) {op : CmpOp} (h : op ≠ .In := by decide) (h2 : op ≠ .NotIn := by decide) : behindInMarks op b = false := by
  have e1 : (op == CmpOp.In) = false := by cases op <;> first | rfl | exact absurd rfl h
  have e2 : (op == CmpOp.NotIn) = false := by cases op <;> first | rfl | exact absurd rfl h2
  cases b <;> simp [behindInMarks, e1, e2]
/-- a comparison as a value; hm: nomark b, or (for in, not in) by with_unfolding_all rfl -/
theorem pe_cmpR {op : CmpOp} {r : R2} (ho : OpR X (compareOp op) r) (ha : PE X a ta) (hb : PE X b tb) (hm : behindInMarks op b = false) : PE X (.Compare a [op] [b] pos) (tOp r ta tb) := by
  intro pins s σ H Q I h
  exact wpAny_Compare1 (binT ha hb I h fun v u s2 x y H2 I2 rx ry q => ho s2 σ H2 x y v u Q I2 rx ry q) hm
/-- a reading of a value as a test -/
noncomputable def tTest (t : TE) : TT := fun σ H Q => t σ H fun x H' => ∃ k, x = .bl k ∧ Q k H'
theorem pt_cmpR {op : CmpOp} {r : R2} (ho : OpR X (compareOp op) r) (ha : PE X a ta) (hb : PE X b tb) (hm : behindInMarks op b = false) : PT X (.Compare a [op] [b] pos) (tTest (tOp r ta tb)) := by
  intro pins s σ H Q I h
  refine wpAny_isTrue_Compare1 (thn (ha s σ H _ I h) fun v s1 ⟨x, H1, I1, r1, q1⟩ => thn (hb s1 σ H1 _ I1 q1) fun u s2 ⟨y, H2, I2, r2, q2⟩ =>
    thn (ho s2 σ H2 x y v u _ I2 r1 r2 q2) fun c s3 ⟨z, H3, I3, r3, k, e, q3⟩ => ?_) hm
  subst e
  cases r3
  exact wpAny_truthy_bool ⟨H3, I3, q3⟩
/-! ### truth -/
theorem line63 : (sizeLine : Nat) < 2 ^ 63 := by rw [sizeLine_eq]; decide
/-! ### strs and bytes -/
theorem op_add_str : OpR X (binaryOp .Add) (fun x y H Q => ∃ i j, x = .str i ∧ y = .str j ∧ i.length + j.length ≤ sizeLine ∧ Q (.str (i ++ j)) H) := by
  intro pins s σ H x y v u Q I rx ry h
  obtain ⟨i, j, rfl, rfl, hz, q⟩ := h
  obtain ⟨t, rfl⟩ := rx
  obtain ⟨t', rfl⟩ := ry
  exact add_str (fun t' tk => ⟨.str (i ++ j), H, I.tok _, ⟨_, rfl⟩, q⟩) hz
/-! ### scalar builtins, by CallR -/
theorem vals1 {x : V} {us : List Value} (r : Vals [x] us) : ∃ u, us = [u] ∧ RelV x u := by
  cases r with
  | cons r1 r2 => cases r2; exact ⟨_, rfl, r1⟩
theorem vals2 {x y : V} {us : List Value} (r : Vals [x, y] us) : ∃ u w', us = [u, w'] ∧ RelV x u ∧ RelV y w' := by
  cases r with
  | cons r1 r2 =>
    cases r2 with
    | cons r3 r4 => cases r4; exact ⟨_, _, rfl, r1, r3⟩
theorem call_min2 (hc : X.calm = true) : CallR X (.builtin "min") (fun xs H Q => ∃ i j, xs = [.int i, .int j] ∧ Q (.int (if j < i then j else i)) H) := by
  intro pins s σ H xs us Q I r h
  obtain ⟨i, j, rfl, q⟩ := h
  obtain ⟨u, w', rfl, ⟨t, rfl⟩, ⟨t', rfl⟩⟩ := vals2 r
  refine min_two_ints (I.ok.hd hc) fun h' tk k => ⟨_, H, I.kept k, ?_, q⟩
  by_cases hj : j < i
  · rw [if_pos hj, if_pos hj]; exact ⟨_, rfl⟩
  · rw [if_neg hj, if_neg hj]; exact ⟨_, rfl⟩
theorem call_int1 : CallR X (.type "int") (fun xs H Q => (∃ i, xs = [.int i] ∧ Q (.int i) H) ∨ ∃ k, xs = [.bl k] ∧ Q (.int (if k then 1 else 0)) H) := by
  intro pins s σ H xs us Q I r h
  rcases h with ⟨i, rfl, q⟩ | ⟨k, rfl, q⟩
  · obtain ⟨u, rfl, t, rfl⟩ := vals1 r
    exact call_int_int ⟨.int i, H, I, ⟨_, rfl⟩, q⟩
  · obtain ⟨u, rfl, r1⟩ := vals1 r
    cases r1
    exact call_int_bool ⟨.int (if k then 1 else 0), H, I.tok _, ⟨_, rfl⟩, q⟩
/-- len of a str, a bytes, a list, a tuple -/
noncomputable def LenV (K : PySem.W.Frag) (x : V) (H : Hp) (n : Nat) : Prop :=
  match x with
  | .str y => y.length ≤ sizeLine ∧ n = y.length
  | .byt y => y.size ≤ sizeLine ∧ n = y.size
  | .ref p => (∃ xs, SqL K H p xs ∧ n = xs.length) ∨ ∃ xs, SqT K H p xs ∧ n = xs.length
  | _ => False
theorem call_len : CallR X (.builtin "len") (fun xs H Q => ∃ x n, xs = [x] ∧ LenV X.K x H n ∧ Q (.int n) H) := by
  intro pins s σ H xs us Q I r h
  obtain ⟨x, n, rfl, e, q⟩ := h
  obtain ⟨u, rfl, rx⟩ := vals1 r
  have hl := line63
  have hs : sizeLine = 16777216 := sizeLine_eq
  cases x with
  | str y =>
    obtain ⟨t, rfl⟩ := rx
    obtain ⟨hy, e'⟩ : y.length ≤ sizeLine ∧ n = y.length := e
    subst e'
    exact len_str (by (first | lia | omega)) ⟨.int _, H, I.tok _, ⟨_, rfl⟩, q⟩
  | byt y =>
    obtain ⟨t, rfl⟩ := rx
    obtain ⟨hy, e'⟩ : y.size ≤ sizeLine ∧ n = y.size := e
    subst e'
    exact PySem.W.len_bytes (by (first | lia | omega)) ⟨.int _, H, I.tok _, ⟨_, rfl⟩, q⟩
  | ref p =>
    cases rx
    have e' : (∃ xs, SqL X.K H p xs ∧ n = xs.length) ∨ ∃ xs, SqT X.K H p xs ∧ n = xs.length := e
    rcases e' with ⟨xs, hx, e'⟩ | ⟨xs, hx, e'⟩
    · subst e'
      obtain ⟨its, r', pl, hz⟩ := I.list hx
      have hlen := r'.length
      exact Calls.call_len_list pl.isList (by simp only [List.size_toArray]; (first | lia | omega)) ⟨.int xs.length, H, I.tok _, ⟨_, by simp only [List.size_toArray]; rw [hlen]⟩, q⟩
    · subst e'
      obtain ⟨its, r', pl, hz⟩ := I.tuple hx
      have hlen := r'.length
      exact len_tuple pl (by simp only [List.size_toArray]; (first | lia | omega)) ⟨.int xs.length, H, I.tok _, ⟨_, by simp only [List.size_toArray]; rw [hlen]⟩, q⟩
  | _ => exact (show False from e).elim
/-- divmod: a new tuple -/
theorem call_divmod : CallR X (.builtin "divmod") (fun xs H Q => ∃ i j, xs = [.int i, .int j] ∧ CDiv i j ∧ ∀ p, H p = none → Q (.ref p) (upd H p (.tup [.int (i / j), .int (i % j)]))) := by
  intro pins s σ H xs us Q I r h
  obtain ⟨i, j, rfl, ⟨h1, h2⟩, q⟩ := h
  obtain ⟨u, w', rfl, ⟨t, rfl⟩, ⟨t', rfl⟩⟩ := vals2 r
  refine divmod_int (by (first | lia | omega)) ?_ (.inl (PyProof.noPylong_small (by (first | lia | omega))))
  rw [Int.fdiv_eq_ediv_of_nonneg i (by (first | lia | omega)), Int.fmod_eq_emod_of_nonneg i (by (first | lia | omega))]
  have hn : H s.heap.objs.size = none := I.hok.fresh (Nat.le_refl _)
  refine ⟨.ref s.heap.objs.size, _, ?_, rfl, q _ hn⟩
  refine I.laid (fun b o e => Heap.get?_push_of_some _ e) (Nat.le_refl _) ⟨by simp only [List.length_cons, List.length_nil]; rw [sizeLine_eq]; decide, [.int (i / j) s.toks, .int (i % j) (s.toks + 1)], .cons ⟨_, rfl⟩ (.cons ⟨_, rfl⟩ .nil), ?_⟩
  exact ⟨_, Heap.get?_push_size s.heap rfl, rfl, 0, rfl⟩
end
end L2

namespace L2
open PySem PySem.Spec PyProof.Rows

/-! ### an instance, its attributes a map -/
structure ObjM (h : Heap) (x dx C : Addr) (mA : Str → Option Value) : Prop where
  obj : h.get? x = some (PySem.W.instObj C dx)
  ns : h.Ns1 dx mA
  ne : dx ≠ x

theorem lookIn_ns {h : Heap} {dx : Addr} {mA : Str → Option Value} (n : h.Ns1 dx mA) : ∃ od, h.get? dx = some od ∧ ∀ name, PySem.W.lookIn name od = some (mA name) := by
  obtain ⟨o, es, ep, ho, hd, hk, _, hm⟩ := n
  refine ⟨o, ho, fun name => ?_⟩
  have e := hm name
  unfold nsFind findBy at e
  rw [← Array.find?_toList] at e
  unfold PySem.W.lookIn
  rw [hd]
  dsimp only
  split
  · rename_i y q
    rw [q] at e
    exact congrArg some e
  · rename_i q
    rw [q] at e
    have a : es.toList.any (·.refKey) = false := by
      rw [List.any_eq_false]
      intro y hy
      obtain ⟨z, t, hkey⟩ := hk y (Array.mem_toList_iff.mp hy)
      simp [DictEntry.refKey, hkey]
    have a' : ¬ es.toList.any (·.refKey) = true := by rw [a]; exact Bool.false_ne_true
    rw [if_neg a']
    exact congrArg some e

theorem ObjM.look {h : Heap} {x dx C : Addr} {mA : Str → Option Value} (I : ObjM h x dx C mA) : ∃ od, PySem.W.InstAt h x (PySem.W.instObj C dx) C (some od) ∧ ∀ name, PySem.W.lookIn name od = some (mA name) :=
  let ⟨od, ho, hl⟩ := lookIn_ns I.ns
  ⟨od, ⟨I.obj, rfl, rfl, ho⟩, hl⟩

section
variable {prog : Program} {w : World} {A : Around} {E : Value → Shared → Prop} {s : Shared} {K : PySem.W.Frag} {x dx C f : Addr} {mA : Str → Option Value} {name : Str} {v : Value}

end

/-! ### the attributes as a list of pairs -/
theorem RelO.some_of {v : V} {o : Option Value} (r : RelO (some v) o) : ∃ u, o = some u ∧ RelV v u := by
  cases o with
  | none => exact (show False from r).elim
  | some u => exact ⟨u, rfl, r⟩
section
variable {P : Program} {w : World} {H H' : Hp} {h h' : Heap} {a C dx : Addr} {fs fs' : List (Str × V)}
theorem ins_get (hok : HOk P w H h) (e : H a = some (.ins C dx fs)) : ∃ mA, ObjM h a dx C mA ∧ (∀ f, RelO (fs.lookup f) (mA f)) ∧ PySem.Within mA (fs.map (·.1)) ∧ fs.length ≤ 1000 ∧ H dx = some (.own a) := by
  obtain ⟨d, z, ne, ob, mA, n, r, q⟩ := (show ObjOk P w H h a (.ins C dx fs) from hok a _ e)
  exact ⟨mA, ⟨ob, n, ne⟩, r, q, z, d⟩
end

/-! ### what of the text a class must have -/
structure Cls (K : PySem.W.Frag) (C : Addr) : Prop where
  pg : PySem.W.plainGet K C Str.empty = true
  hd : PySem.W.hasDictIn K C = true
  po : PySem.W.plainOver K C = true
  sa : PySem.W.findIn K (.ref C) "__setattr__" = some (some (.builtin "object.__setattr__"))
theorem Cls.get {K : PySem.W.Frag} {C : Addr} (c : Cls K C) (f : Str) : PySem.W.plainGet K C f = true := c.pg
section
variable {X : Cx} {pins : List (Addr × Obj)} {σ : St} {H : Hp} {s : Shared} {a C dx : Addr} {fs : List (Str × V)} {f : Str} {v : V} {A : Around} {E : Value → Shared → Prop}

/-- e.f where nothing but the object is asked: through attributeBase (super) and the last hold -/
theorem attr_of {prog : Program} {w : World} {env : Env} {e : Expr} {f : Str} {pos : Pos} {s : Shared} {Q : Value → Shared → Prop} (hb : attributeBase e f env (eval e env) = eval e env)
    (h : wpAny (model prog w) A (eval e env) (fun o s₁ => wpAny (model prog w) A (getAttr o f true) Q E s₁) E s) : wpAny (model prog w) A (eval (.Attribute e f pos) env) Q E s :=
  Attribute_any_ h (by rw [arm_eval_Attribute, hb])
end

/-! ### readings and rules -/
section
variable {X : Cx} {o e value : Expr} {f : Str} {pos pos' tpos : Pos} {ta tv : TE}
end

/-! ### isinstance -/
section
variable {X : Cx} {pins : List (Addr × Obj)} {σ : St} {H : Hp} {s : Shared} {A : Around} {E : Value → Shared → Prop} {Q : Value → Shared → Prop} {c : Value} {b : Bool}
/-- the type of a value, as the fragment's deciders take it; for an instance its class -/
inductive TyOf (K : PySem.W.Frag) (H : Hp) : V → Value → Prop where
  | non : TyOf K H .non (.type "NoneType")
  | bl (x : Bool) : TyOf K H (.bl x) (.type "bool")
  | int (i : Int) : TyOf K H (.int i) (.type "int")
  | str (x : Str) : TyOf K H (.str x) (.type "str")
  | flt (x : UInt64) : TyOf K H (.flt x) (.type "float")
  | lst {a : Addr} {xs : List V} (e : H a = some (.lst xs)) : TyOf K H (.ref a) (.type "list")
  | frz {a : Addr} {o : Obj} {xs : List V} (e : H a = some (.frz o (.lst xs))) : TyOf K H (.ref a) (.type "list")
  | tup {a : Addr} {xs : List V} (e : H a = some (.tup xs)) : TyOf K H (.ref a) (.type "tuple")
  | dK {a : Addr} {kvs : List (Key × V)} (e : H a = some (.dK kvs)) : TyOf K H (.ref a) (.type "dict")
  | dT {a : Addr} {kvs : List (List Key × V)} (e : H a = some (.dT kvs)) : TyOf K H (.ref a) (.type "dict")
  | ins {a C dx : Addr} {fs : List (Str × V)} (e : H a = some (.ins C dx fs)) (cl : Cls K C) (ha : PySem.W.findIn K (.ref C) "__class__" = some (some (.builtin "object.__class__")))
      (hn : PySem.W.specialIn K (.builtin "object.__class__") "__get__" = some (some (.builtin "getset_descriptor.__get__"))) (htk : PySem.W.takesIn K (.builtin "object.__class__") = some true)
      (hm : PySem.W.mroIn K C (.type "object") = some true) : TyOf K H (.ref a) (.ref C)
/-- isinstance(x, c) for one class c, a built-in or an own one: kitOne's answer -/
theorem isinst_ok {x : V} {u t : Value} (I : Inv X pins σ H s) (rx : RelV x u) (ty : TyOf X.K H x t) (e : PySem.W.kitOne X.K t c = some b) (h : ∀ tk, Q (.bool b) { s with toks := tk }) :
    wpAny (model X.prog X.w) A (call (.builtin "isinstance") [u, c]) Q E s := by
  cases ty with
  | non => cases (show u = Value.none from rx); exact PySem.W.kia_one PySem.W.kitx_none I.kIn True.intro e (fun z => nomatch z) h
  | bl y => cases (show u = Value.bool y from rx); exact PySem.W.kia_one PySem.W.kitx_bool I.kIn True.intro e (fun z => nomatch z) h
  | int i => obtain ⟨t, q⟩ := (show ∃ t, u = Value.int i t from rx); cases q; exact PySem.W.kia_one PySem.W.kitx_int I.kIn True.intro e (fun z => nomatch z) h
  | str y => obtain ⟨t, q⟩ := (show ∃ t, u = Value.str y t from rx); cases q; exact PySem.W.kia_one PySem.W.kitx_str I.kIn True.intro e (fun z => nomatch z) h
  | flt y => obtain ⟨t, q⟩ := (show ∃ t, u = Value.float y t from rx); cases q; exact PySem.W.kia_one PySem.W.kitx_float I.kIn True.intro e (fun z => nomatch z) h
  | @lst a xs ea =>
    cases (show u = Value.ref a from rx)
    obtain ⟨_, _, n, _, h1⟩ := (show ObjOk X.prog X.w H s.heap a (.lst xs) from I.hok a _ ea)
    exact PySem.W.kia_one PySem.W.kitx_list I.kIn ⟨_, h1, rfl⟩ e (fun z => nomatch z) h
  | @frz a ob xs ea =>
    cases (show u = Value.ref a from rx)
    obtain ⟨_, _, _, n, _, h1⟩ := (show ObjOk X.prog X.w H s.heap a (.frz ob (.lst xs)) from I.hok a _ ea)
    exact PySem.W.kia_one PySem.W.kitx_list I.kIn ⟨_, h1, rfl⟩ e (fun z => nomatch z) h
  | @tup a xs ea =>
    cases (show u = Value.ref a from rx)
    obtain ⟨_, _, _, p⟩ := (show ObjOk X.prog X.w H s.heap a (.tup xs) from I.hok a _ ea)
    obtain ⟨o, h1, h2, _⟩ := p
    exact PySem.W.kia_one PySem.W.kitx_tuple I.kIn ⟨o, h1, h2⟩ e (fun z => nomatch z) h
  | @dK a kvs ea =>
    cases (show u = Value.ref a from rx)
    obtain ⟨_, _, vs, _, p⟩ := (show ObjOk X.prog X.w H s.heap a (.dK kvs) from I.hok a _ ea)
    obtain ⟨o, es, ep, h1, h2, _⟩ := p
    exact PySem.W.kia_one PySem.W.kitx_dict I.kIn ⟨o, h1, h2.1⟩ e (fun z => nomatch z) h
  | @dT a kvs ea =>
    cases (show u = Value.ref a from rx)
    obtain ⟨_, _, xs, _, o, es, ep, h1, h2, _⟩ := (show ObjOk X.prog X.w H s.heap a (.dT kvs) from I.hok a _ ea)
    exact PySem.W.kia_one PySem.W.kitx_dict I.kIn ⟨o, h1, h2.1⟩ e (fun z => nomatch z) h
  | @ins a C dx fs ea cl ha hn htk hm =>
    cases (show u = Value.ref a from rx)
    obtain ⟨mA, O, _⟩ := ins_get I.hok ea
    obtain ⟨od, J, _⟩ := O.look
    exact PySem.W.kia_one (PySem.W.kitx_own (cl.get _) cl.hd ha hn htk hm) I.kIn J e (fun z => nomatch z) h
end
end L2

namespace L2
open PySem PySem.Spec PyProof.Rows

/-! ### room -/
structure Room (k : Nat) (A : Around) : Prop where
  hd : A.handled = none
  dp : A.depth + 3 * k + 5 < recursionLimit
  un : A.units + 16 * k + 200 < cLine
  gd : A.guards = some []
theorem Room.mono {j k : Nat} {A : Around} (r : Room k A) (h : j ≤ k) : Room j A := ⟨r.hd, by have := r.dp; (first | lia | omega), by have := r.un; (first | lia | omega), r.gd⟩
theorem Room.deeper {k : Nat} {A : Around} (r : Room (k + 1) A) (env : Env) : Room k (A.deeper env) :=
  ⟨r.hd, by have := r.dp; show A.depth + 1 + 3 * k + 5 < _; (first | lia | omega), by have := r.un; show A.units + 3 + 16 * k + 200 < _; (first | lia | omega), r.gd⟩
theorem make_depth {A : Around} {C : Addr} {us : List Value} {kw : List (Str × Value)} : (A.under (.builtin "type.__call__" ⟨.ref C :: us, kw⟩)).depth = A.depth + 1 := by
  first | rfl | simp [Around.under, Code.weight, Code.isCreation, Code.isGuard, Code.isCaller, Code.frames, Code.isFrame, guardIds]
theorem make_units {A : Around} {C : Addr} {us : List Value} {kw : List (Str × Value)} : (A.under (.builtin "type.__call__" ⟨.ref C :: us, kw⟩)).units = A.units + 1 := by
  first | rfl | simp [Around.under, Code.cUnits, Code.frames, Code.isFrame]
theorem make_guards {A : Around} {C : Addr} {us : List Value} {kw : List (Str × Value)} : (A.under (.builtin "type.__call__" ⟨.ref C :: us, kw⟩)).guards = A.guards := by
  first | rfl | simp [Around.under, Code.guards, Code.isGuard, guardIds, pushGuards]
theorem Room.make {k : Nat} {A : Around} (r : Room (k + 1) A) (C : Addr) (us : List Value) (kw : List (Str × Value)) : Room k (A.under (.builtin "type.__call__" ⟨.ref C :: us, kw⟩)) :=
  ⟨r.hd, by have := r.dp; rw [make_depth]; (first | lia | omega), by have := r.un; rw [make_units]; (first | lia | omega), by rw [make_guards]; exact r.gd⟩
theorem Room.depth {k : Nat} {A : Around} (r : Room k A) : A.depth < recursionLimit := by have := r.dp; (first | lia | omega)
theorem Room.units {k : Nat} {A : Around} (r : Room k A) : A.units + 64 < cLine := by have := r.un; (first | lia | omega)
/-! ### argument lists and displays -/
noncomputable def tNil : TA := fun _ H Q => Q [] H
noncomputable def tCons (ta : TE) (tr : TA) : TA := fun σ H Q => ta σ H fun x H1 => tr σ H1 fun xs H2 => Q (x :: xs) H2
section
variable {X : Cx} {e : Expr} {es : List Expr} {te : TE} {t : TA} {pos : Pos}
theorem pa_nil : PA X [] tNil := fun _ _ _ _ H Q I h => Calls.spliced_nil ⟨[], H, I, .nil, h⟩
theorem pa_cons (ha : PE X e te) (hr : PA X es t) (hs : starEach (e :: es) X.env = (false, eval e X.env) :: starEach es X.env := by rfl) : PA X (e :: es) (tCons te t) := by
  intro pos pins s σ H Q I h
  rw [hs]
  show wpAny _ _ (spliced ((false, eval e X.env) :: backTo pos (starEach es X.env))) _ _ s
  refine Calls.spliced_cons (thn (ha s σ H _ I h) fun u s1 ⟨x, H1, I1, r1, q1⟩ => ?_)
  exact thn (hr s1 σ H1 _ I1 q1) fun us s2 ⟨xs, H2, I2, r2, q2⟩ => ⟨x :: xs, H2, I2, .cons r1 r2, q2⟩

/-- a tuple, a list of written items -/
noncomputable def tTup (t : TA) : TE := fun σ H Q => t σ H fun xs H1 => xs.length ≤ sizeLine ∧ ∀ p, H1 p = none → Q (.ref p) (upd H1 p (.tup xs))
noncomputable def tLst (t : TA) : TE := fun σ H Q => t σ H fun xs H1 => xs.length ≤ sizeLine ∧ ∀ p, H1 p = none → Q (.ref p) (upd H1 p (.lst xs))
theorem pe_tup {x1} (h : PA X es t) : PE X (.Tuple es x1 pos) (tTup t) := by
  intro pins s σ H Q I hq
  refine wpAny_Tuple_spliced (thn (h s σ H _ I hq) fun us s1 ⟨xs, H1, I1, r, z, q⟩ => ⟨by rw [← r.length]; exact z, ?_⟩)
  have hf : H1 s1.heap.objs.size = none := I1.hok.fresh (Nat.le_refl _)
  refine ⟨.ref s1.heap.objs.size, upd H1 s1.heap.objs.size (.tup xs), I1.laid (t' := s1.toks) (fun b u e => Heap.get?_push_of_some _ e) (Nat.le_refl _) ?_, rfl, q _ hf⟩
  exact ⟨z, us, r, ⟨_, Heap.get?_push_size _ rfl, rfl, _, rfl⟩⟩
theorem pe_lst (h : PA X es t) : PE X (.List es pos) (tLst t) := by
  intro pins s σ H Q I hq
  refine wpAny_List_spliced (thn (h s σ H _ I hq) fun us s1 ⟨xs, H1, I1, r, z, q⟩ => ⟨by rw [← r.length]; exact z, ?_⟩)
  have hf : H1 s1.heap.objs.size = none := I1.hok.fresh (Nat.le_refl _)
  refine ⟨.ref s1.heap.objs.size, upd H1 s1.heap.objs.size (.lst xs), I1.laid (t' := s1.toks) (fun b u e => Heap.get?_push_of_some _ e) (Nat.le_refl _) ?_, rfl, q _ hf⟩
  exact ⟨z, us, 0, r, Heap.get?_push_size _ rfl⟩
end

/-! ### what a def promises -/
/-- a def's promise: the bound arguments in the parameters' order, the heap, the wanted end, the wanted exception -/
noncomputable abbrev Sp := List V → Hp → VK → XK → Prop
/-- how an exception lies behind a call (file 08 gives it): the callers' frames, abstract heap and state ahead of the call, the wish, the exception, the state -/
noncomputable abbrev CXT := List Env → Hp → Shared → XK → Value → Shared → Prop

/-- the state at a call -/
structure Env0 (P : Program) (w : World) (K : PySem.W.Frag) (mg : Str → Option Value) (base : Heap) (A : Around) (outer : List Env) (s : Shared) (H : Hp) : Prop where
  frames : A.frames = some outer
  mod : Mod K mg base
  bs : ∀ b o, base.get? b = some o → s.heap.get? b = some o ∧ H b = none
  bsz : base.objs.size ≤ s.heap.objs.size
  funs : s.heap.FunFrames base outer
  frf : ∀ b ∈ frs outer, H b = none
  hok : HOk P w H s.heap
  bare : AllBare s.gens
/-- a call's end -/
noncomputable def CE (outer : List Env) (P : Program) (w : World) (H : Hp) (s : Shared) (Q : VK) (u : Value) (s' : Shared) : Prop :=
  Ex2 fun v H' => s'.os = s.os ∧ AllBare s'.gens ∧ Un (frs outer) [] H H' s.heap s'.heap ∧ HOk P w H' s'.heap ∧ RelV v u ∧ Q v H'
noncomputable def CR (CX : CXT) (outer : List Env) (P : Program) (w : World) (H : Hp) (s : Shared) (Q : VK) (E : XK) (r : Result) (s' : Shared) : Prop :=
  match r with
  | .ok (.ret u) => CE outer P w H s Q u s'
  | .ok _ => False
  | .error e => CX outer H s E e s'
structure FnOk (P : Program) (w : World) (K : PySem.W.Frag) (mg : Str → Option Value) (base : Heap) (CX : CXT) (k : Nat) (f : Addr) (fd : FuncData) (ps : List Str) (sp : Sp) : Prop where
  len : ∀ vs H Q E, sp vs H Q E → vs.length = ps.length
  run : ∀ (A : Around) (outer : List Env) (s : Shared) (H : Hp) (args : Args) (us : List Value) (vs : List V) (Q : VK) (E : XK), Room k A → Env0 P w K mg base A outer s H → BindsTo s fd args (ps.zip us) → Vals vs us → sp vs H Q E →
    codeAny (model P w) A (.call (.ref f) args) (CR CX outer P w H s Q E) s
theorem FnOk.mono {P : Program} {w : World} {K : PySem.W.Frag} {mg : Str → Option Value} {base : Heap} {CX : CXT} {j k : Nat} {f : Addr} {fd : FuncData} {ps : List Str} {sp : Sp} (F : FnOk P w K mg base CX j f fd ps sp) (h : j ≤ k) :
    FnOk P w K mg base CX k f fd ps sp := ⟨F.len, fun A outer s H args us vs Q E hr => F.run A outer s H args us vs Q E (hr.mono h)⟩
/-- a weaker promise -/
theorem FnOk.imp {P : Program} {w : World} {K : PySem.W.Frag} {mg : Str → Option Value} {base : Heap} {CX : CXT} {k : Nat} {f : Addr} {fd : FuncData} {ps : List Str} {sp sp' : Sp} (F : FnOk P w K mg base CX k f fd ps sp)
    (h : ∀ vs H Q E, sp' vs H Q E → sp vs H Q E) : FnOk P w K mg base CX k f fd ps sp' :=
  ⟨fun vs H Q E q => F.len vs H Q E (h _ _ _ _ q), fun A outer s H args us vs Q E hr he hb hv hs => F.run A outer s H args us vs Q E hr he hb hv (h _ _ _ _ hs)⟩

theorem Env0.make {P : Program} {w : World} {K : PySem.W.Frag} {mg : Str → Option Value} {base : Heap} {A : Around} {outer : List Env} {s : Shared} {H : Hp} (e : Env0 P w K mg base A outer s H) (C : Addr) (us : List Value) (kw : List (Str × Value)) :
    Env0 P w K mg base (A.under (.builtin "type.__call__" ⟨.ref C :: us, kw⟩)) outer s H := ⟨by first | exact e.frames | (simpa [Around.under, Code.envs, Code.isFrame, pushEnvs] using e.frames), e.mod, e.bs, e.bsz, e.funs, e.frf, e.hok, e.bare⟩
section
variable {X : Cx} {pins : List (Addr × Obj)} {σ : St} {H : Hp} {s s' : Shared}
/-- from a body: what a callee wants -/
theorem Inv.env0 (I : Inv X pins σ H s) : Env0 X.prog X.w X.K X.mg X.base X.A X.stack s H :=
  ⟨I.ok.frames, I.ok.mod, I.bs, Nat.le_trans I.ok.bsz I.sz, I.stack, I.stkFree, I.hok, I.bare⟩
/-- behind a call -/
theorem Inv.after {Q : VK} {u : Value} (I : Inv X pins σ H s) (h : CE X.stack X.prog X.w H s Q u s') : EP X pins σ Q u s' := by
  obtain ⟨v, H', os, bare, un, hok, r, q⟩ := h
  obtain ⟨hh, g, d, t, os'⟩ := s'
  obtain rfl : os' = s.os := os
  exact ⟨v, H', I.call (h' := hh) (g' := g) (d' := d) (t' := t) (ch := []) un hok bare (fun b z => absurd z (by simp)), r, q⟩
end

/-! ### calls -/
/-- f(..): the written arguments, then the defaults dvs; E: what is wanted of an exception -/
noncomputable def tCall (sp : Sp) (dvs : List V) (E : XK) (t : TA) : TE := fun σ H Q => t σ H fun vs H1 => sp (vs ++ dvs) H1 Q E
/-- how the parameters are bound: us the positional arguments, kw the keywords' values by name, ds the defaults that fill up -/
noncomputable def Binds (K : PySem.W.Frag) (fd : FuncData) (ps : List Str) (ds : List Value) : Prop :=
  ∀ (s : Shared) (us : List Value), K.In s.heap → (us ++ ds).length = ps.length → BindsTo s fd ⟨us, []⟩ (ps.zip (us ++ ds))
/-- every parameter is given -/
theorem Binds.all {K : PySem.W.Frag} {fd : FuncData} {ps : List Str} (h : ∀ us : List Value, us.length = ps.length → bindArgs fd ⟨us, []⟩ = pure (ps.zip us)) : Binds K fd ps [] := fun s us _ hl => by
  rw [List.append_nil] at hl ⊢
  exact .of_eq (h us hl)

/-- an exception of a callee reaches what this body wants of exceptions -/
noncomputable def Passes (CX : CXT) (X : Cx) (E : XK) : Prop := ∀ (pins : List (Addr × Obj)) (σ : St) (H : Hp) (s : Shared) (e : Value) (s' : Shared), Inv X pins σ H s → CX X.stack H s E e s' → X.xe e s'

section
variable {X : Cx} {CX : CXT} {k : Nat} {f C : Addr} {fd : FuncData} {ps : List Str} {sp : Sp} {dvs : List V} {ds : List Value} {E : XK} {x m : Str} {p pos apos : Pos} {e o : Expr} {es : List Expr} {ta : TE} {t : TA}

/-- the callee runs -/
theorem run_fn {pins : List (Addr × Obj)} {σ : St} {H : Hp} {s : Shared} {Q : VK} {us : List Value} {vs : List V} (F : FnOk X.prog X.w X.K X.mg X.base CX k f fd ps sp) (hr : Room k X.A) (hb : Binds X.K fd ps ds) (hd : Vals dvs ds) (hx : Passes CX X E)
    (I : Inv X pins σ H s) (r : Vals vs us) (h : sp (vs ++ dvs) H Q E) : wpAny (model X.prog X.w) X.A (call (.ref f) us) (EP X pins σ Q) X.xe s := by
  have r2 : Vals (vs ++ dvs) (us ++ ds) := r.append hd
  have hl : (us ++ ds).length = ps.length := by rw [← r2.length]; exact F.len _ _ _ _ h
  refine wpAny_call (codeAny_mono (F.run X.A X.stack s H ⟨us, []⟩ (us ++ ds) (vs ++ dvs) Q E hr I.env0 (hb s us I.kIn hl) r2 h) fun r s' hq => ?_)
  cases r with
  | error e => exact hx pins σ H s e s' I hq
  | ok fl =>
    cases fl with
    | ret u => exact I.after hq
    | next => exact False.elim hq
    | brk => exact False.elim hq
    | cont => exact False.elim hq

theorem pe_call (F : FnOk X.prog X.w X.K X.mg X.base CX k f fd ps sp) (hr : Room k X.A) (hg : Gl X x) (hm : X.mg x = some (.ref f)) (hk : PySem.W.keepIn X.K (.ref f) = true) (hb : Binds X.K fd ps ds) (hd : Vals dvs ds) (hx : Passes CX X E)
    (ha : PA X (e :: es) t) (hdb : (x == ("__debug__" : Str)) = false := by decide) (he : starEach (e :: es) X.env = (false, eval e X.env) :: starEach es X.env := by rfl) (hpl : (backTo pos (starEach es X.env)).any (·.1) = false := by rfl) :
    PE X (.Call (.Name x p) (e :: es) [] pos) (tCall sp dvs E t) := by
  intro pins s σ H Q I h
  refine wpAny_Call_Name_kw (ld_glob I hg hm ?_ hdb)
  refine PySem.W.callWith_K (h₀ := X.base) I.ok.mod.kin hk (thn (ha s σ H _ I h) fun us s1 ⟨vs, H1, I1, r, q⟩ => ⟨I1.kIn, ?_⟩) he hpl
  exact run_fn F hr hb hd hx I1 r q
end

/-! ### keywords -/
section
variable {X : Cx} {CX : CXT} {k : Nat} {f C : Addr} {fd : FuncData} {ps ks : List Str} {sp : Sp} {E : XK} {x m : Str} {p pos apos kpos : Pos} {e o : Expr} {es : List Expr} {kws : List Keyword} {te ta : TE} {t tk : TA} {nm : Option Str}
variable {g : List Value → List Value → List Value} {gV : List V → List V → List V}
end

/-! ### a def's body keeps its promise -/
/-- names: the parameters first -/
structure FnScope (N P : List Str) (sc : Scope) : Prop where
  kind : sc.kind = .function
  co : sc.isCoroutine = false
  gen : sc.isGenerator = false
  nd : N.Nodup
  pre : N.take P.length = P
  par : ∀ x ∈ P, sc.names.lookup x = some .local ∨ sc.names.lookup x = some .cell
  nofree : ∀ y ∈ sc.names, y.2 ≠ .free

theorem bindL_out {kindOf : Str → Option NameKind} {x : Str} : ∀ {binds : List (Str × Value)} {m : Str → Option Value}, (∀ v, (x, v) ∉ binds) → bindL kindOf binds m x = m x
  | [], _, _ => rfl
  | (n, v) :: r, m, h => by
    unfold bindL
    rw [bindL_out fun w hw => h w (List.mem_cons_of_mem _ hw)]
    split
    · have : x ≠ n := by rintro rfl; exact h v List.mem_cons_self
      simp [this]
    · rfl
theorem bindC_out {kindOf : Str → Option NameKind} {x : Str} : ∀ {binds : List (Str × Value)} {m : Str → Option Value}, (∀ v, (x, v) ∉ binds) → bindC kindOf binds m x = m x
  | [], _, _ => rfl
  | (n, v) :: r, m, h => by
    unfold bindC
    rw [bindC_out fun w hw => h w (List.mem_cons_of_mem _ hw)]
    split
    · rfl
    · have : x ≠ n := by rintro rfl; exact h v List.mem_cons_self
      simp [this]
theorem bindL_get {kindOf : Str → Option NameKind} {x : Str} {v : Value} : ∀ {P : List Str} {vs : List Value} {i : Nat} {m : Str → Option Value}, P.Nodup → P[i]? = some x → vs[i]? = some v → kindOf x = some .local →
    bindL kindOf (P.zip vs) m x = some v
  | [], _, _, _, _, h, _, _ => by simp at h
  | _ :: _, [], _, _, _, _, h, _ => by simp at h
  | p :: P, w :: vs, 0, m, nd, h1, h2, hk => by
    simp at h1 h2; subst h1; subst h2
    show bindL kindOf ((p, w) :: P.zip vs) m p = _
    unfold bindL
    rw [bindL_out fun v hv => (List.nodup_cons.mp nd).1 (List.of_mem_zip hv).1, if_pos hk]
    simp
  | p :: P, w :: vs, i + 1, m, nd, h1, h2, hk => by
    show bindL kindOf ((p, w) :: P.zip vs) m x = _
    unfold bindL
    exact bindL_get (i := i) (List.nodup_cons.mp nd).2 (by simpa using h1) (by simpa using h2) hk
theorem bindC_get {kindOf : Str → Option NameKind} {x : Str} {v : Value} : ∀ {P : List Str} {vs : List Value} {i : Nat} {m : Str → Option Value}, P.Nodup → P[i]? = some x → vs[i]? = some v → kindOf x ≠ some .local →
    bindC kindOf (P.zip vs) m x = some v
  | [], _, _, _, _, h, _, _ => by simp at h
  | _ :: _, [], _, _, _, _, h, _ => by simp at h
  | p :: P, w :: vs, 0, m, nd, h1, h2, hk => by
    simp at h1 h2; subst h1; subst h2
    show bindC kindOf ((p, w) :: P.zip vs) m p = _
    unfold bindC
    rw [bindC_out fun v hv => (List.nodup_cons.mp nd).1 (List.of_mem_zip hv).1, if_neg hk]
    simp
  | p :: P, w :: vs, i + 1, m, nd, h1, h2, hk => by
    show bindC kindOf ((p, w) :: P.zip vs) m x = _
    unfold bindC
    exact bindC_get (i := i) (List.nodup_cons.mp nd).2 (by simpa using h1) (by simpa using h2) hk

/-- the names' values at the entry -/
noncomputable def start (N : List Str) (vs : List V) : St := vs.map some ++ List.replicate (N.length - vs.length) none

/-- the context of a def's body, at its entry; an exception leaves the frame, then lies as CX says -/
noncomputable def cxOf (CX : CXT) (P : Program) (w : World) (K : PySem.W.Frag) (mg : Str → Option Value) (base : Heap) (N : List Str) (qual : Str) (scope : Scope) (f : Addr) (cd : Value) (A : Around) (outer : List Env) (s : Shared) (H : Hp) (E : XK) : Cx where
  prog := P
  w := w
  K := K
  mg := mg
  base := base
  A := A.deeper (envOfC qual scope s.heap.objs.size f cd)
  N := N
  s₀ := s
  H₀ := H
  env := envOfC qual scope s.heap.objs.size f cd
  outer := outer
  stack := envOfC qual scope s.heap.objs.size f cd :: outer
  ex := []
  calm := true
  fn := fun _ => true
  pn := []
  xe := fun e s' => wpAny (model P w) (A.deeper (envOfC qual scope s.heap.objs.size f cd)) (leaving (envOfC qual scope s.heap.objs.size f cd) e) (fun _ s'' => CX outer H s E e s'') (fun e' s'' => CX outer H s E e' s'') s'

theorem cell_has {sc : Scope} {n : Nat} {x : Str} (h : sc.names.lookup x = some .cell) : ∃ c, (cellsFrom n sc.names []).lookup x = some c := by
  have q := PySem.W.cellsFrom_some sc.names n [] (.inl h)
  exact Option.isSome_iff_exists.mp q

theorem inv_start {CX : CXT} {P : Program} {w : World} {K : PySem.W.Frag} {mg : Str → Option Value} {base : Heap} {N ps : List Str} {qual : Str} {scope : Scope} {f : Addr} {cd : Value} {A : Around} {outer : List Env} {s s1 : Shared} {H : Hp} {E : XK} {us : List Value} {vs : List V}
    (S : FnScope N ps scope) (hd : A.handled = none) (e0 : Env0 P w K mg base A outer s H) (hl : vs.length = ps.length) (r : Vals vs us)
    (x : InCallC s s.heap.objs.size (bindL (envOfC qual scope s.heap.objs.size f cd).kindOf (ps.zip us) fun _ => none) (cellsFrom (s.heap.objs.size + 1) scope.names []) (bindC (envOfC qual scope s.heap.objs.size f cd).kindOf (ps.zip us) fun _ => none) s1) :
    Inv (cxOf CX P w K mg base N qual scope f cd A outer s H E) [] (start N vs) H s1 := by
  have hpl : ps.length ≤ N.length := by have := congrArg List.length S.pre; rw [List.length_take] at this; (first | lia | omega)
  obtain ⟨h1, tk, rfl, hk⟩ := x.done
  have noA : ∀ b : Addr, b ∉ (cxOf CX P w K mg base N qual scope f cd A outer s H E).ex := fun b z => absurd (show b ∈ ([] : List Addr) from z) (by simp)
  refine ⟨⟨e0.mod, S.kind, rfl, rfl, Nat.le_refl _, fun y z c h1 h2 => ?_, fun y hy => ?_, fun y c _ h => ?_, fun _ => hd, Around.frames_deeper e0.frames, .inr ⟨rfl, rfl⟩, fun b z => absurd z (noA b), e0.bs, e0.bsz, fun b _ _ => noA b, fun b z => absurd z (noA b), e0.funs, e0.frf⟩,
    rfl, e0.bare, Un.kept hk, ⟨_, x.toInCall.ns, fun i y v h1 h2 h3 => ?_⟩, fun y c h => ⟨_, x.cell y c h⟩, e0.hok.fresh (Nat.le_refl _), fun y c h => ?_, fun p hp => absurd (show p ∈ ([] : List (Addr × Obj)) from hp) (by simp), e0.hok.kept hk, ?_⟩
  · exact name_of_addr x.apart (PySem.mem_of_lookup h1) (PySem.mem_of_lookup h2)
  · have hy : scope.names.lookup y = some .cell ∨ scope.names.lookup y = some .free := hy
    rcases hy with hy | hy
    · exact cell_has hy
    · exact absurd rfl (S.nofree _ (PySem.mem_of_lookup hy))
  · exact Nat.le_of_lt (x.above y c (PySem.mem_of_lookup h))
  · have hi : i < vs.length := by
      unfold start at h2
      by_cases hi : i < vs.length
      · exact hi
      · rw [List.getElem?_append_right (by simpa using hi)] at h2
        rw [List.getElem?_replicate] at h2
        split at h2 <;> cases h2
    have ha : vs[i]? = some v := by
      unfold start at h2
      rw [List.getElem?_append_left (by simpa using hi), List.getElem?_map] at h2
      cases e : vs[i]? with
      | none => rw [e] at h2; cases h2
      | some a => rw [e] at h2; cases h2; rfl
    obtain ⟨u, hu, rv⟩ := r.get ha
    have hp : ps[i]? = some y := by
      rw [← S.pre, List.getElem?_take_of_lt (by (first | lia | omega))]; exact h1
    have ndP : ps.Nodup := by rw [← S.pre]; exact S.nd.sublist (List.take_sublist _ _)
    refine ⟨u, rv, ?_⟩
    rcases S.par y (List.mem_of_getElem? hp) with k | k
    · exact .inl ⟨k, bindL_get ndP hp hu k⟩
    · obtain ⟨c, e⟩ := cell_has (n := s.heap.objs.size + 1) k
      refine .inr ⟨.inl k, c, e, ?_⟩
      have q := x.cell y c e
      rw [bindC_get ndP hp hu (by show scope.names.lookup y ≠ _; rw [k]; decide)] at q
      exact q
  · exact e0.hok.fresh (Nat.le_of_lt (x.above y c (PySem.mem_of_lookup h)))
  · unfold start
    show _ = N.length
    rw [List.length_append, List.length_map, List.length_replicate]
    (first | lia | omega)

/-- THE RULE: a def (or a method) of the text, by its body. The body's reading t is chosen for each entry; it is run at the parameters' values -/
theorem fn_of {CX : CXT} {P : Program} {w : World} {K : PySem.W.Frag} {mg : Str → Option Value} {base : Heap} {k : Nat} {f : Addr} {name qual : Str} {params : Arguments} {body : List Stmt} {scope : Scope} {dV kV doc pm cdv ct oc : Value} {an od : Option Addr}
    {osl : Array (Option Value)} {N ps : List Str} {sp : Sp} (lk : K.lookup f = some ⟨oc, od, .func (PySem.W.fnOf name qual params body scope dV kV doc pm an cdv ct), osl⟩) (hcd : PySem.W.codeIn K cdv qual = true) (S : FnScope N ps scope)
    (len : ∀ vs H Q E, sp vs H Q E → vs.length = ps.length)
    (hbody : ∀ (A : Around) (outer : List Env) (s : Shared) (H : Hp) (vs : List V) (Q : VK) (E : XK), Room k (A.deeper (envOfC qual scope s.heap.objs.size f cdv)) → sp vs H Q E →
      ∃ t, PSs (cxOf CX P w K mg base N qual scope f cdv A outer s H E) body t ∧ t { nx := fun _ H' => Q .non H', rt := Q } (start N vs) H) :
    FnOk P w K mg base CX (k + 1) f (PySem.W.fnOf name qual params body scope dV kV doc pm an cdv ct) ps sp := by
  refine ⟨len, fun A outer s H args us vs Q E hr e0 hb r hsp => ?_⟩
  have hl := len _ _ _ _ hsp
  have KX : K.In s.heap := e0.mod.kin.keeps fun b o e => (e0.bs b o e).1
  have lim : s.heap.NoLimit := e0.mod.nolimit.keeps fun b o e => (e0.bs b o e).1
  have hkind : ∀ y ∈ ps.zip us, scope.names.lookup y.1 = some .local ∨ (scope.names.lookup y.1 = some .cell ∧ ((cellsFrom (s.heap.objs.size + 1) scope.names []).lookup y.1).isSome = true) := fun ⟨n, v⟩ hy => by
    rcases S.par n (List.of_mem_zip hy).1 with q | q
    · exact .inl q
    · exact .inr ⟨q, PySem.W.cellsFrom_some _ _ _ (.inl q)⟩
  refine codeAny_call_function hr.depth (KX _ _ lk) rfl S.co S.gen rfl (PySem.W.codeRec_of KX hcd) (hb _ _ _ _ ?_)
  refine wpAny_newFunctionEnv_cells S.kind hkind fun env he s1 x => ?_
  subst he
  refine ⟨lim.keeps x.toInCall.keep, codeAny_func ?_⟩
  obtain ⟨t, ht, hq⟩ := hbody A outer s H vs Q E (hr.deeper _) hsp
  have I : Inv (cxOf CX P w K mg base N qual scope f cdv A outer s H E) [] (start N vs) H s1 := inv_start S hr.hd e0 hl r x
  refine wpAny_mono (ht s1 (start N vs) H _ I hq) (fun fl s' hs => ?_) fun e s' hs => hs
  have fin : ∀ {σ' : St} {H' : Hp} {v : V} {u : Value}, Inv (cxOf CX P w K mg base N qual scope f cdv A outer s H E) [] σ' H' s' → RelV v u → Q v H' → CE outer P w H s Q u s' :=
    fun {σ' H' v u} J rv q => ⟨v, H', J.os, J.bare, J.base, J.hok, rv, q⟩
  cases fl with
  | ret u =>
    obtain ⟨v, σ', H', J, rv, q⟩ := hs
    exact fin J rv q
  | next =>
    obtain ⟨σ', H', J, q⟩ := hs
    exact fin (v := V.non) (u := Value.none) J rfl q
  | brk =>
    obtain ⟨_, _, _, q⟩ := hs
    exact False.elim q
  | cont =>
    obtain ⟨_, _, _, q⟩ := hs
    exact False.elim q
end L2

namespace L2
open PySem PySem.Spec PyProof.Rows
section
variable {X : Cx} {x : Str} {p pos : Pos} {e : Expr} {es : List Expr} {t : TA} {id T : String} {r : List V → Hp → VK → Prop}

noncomputable def tCB (r : List V → Hp → VK → Prop) (t : TA) : TE := fun σ H Q => t σ H fun vs H1 => r vs H1 Q
/-- f(e, ..), f a built-in function -/
theorem pe_callB (hc : CallR X (.builtin id) r) (hg : Gl X x) (hm : X.mg x = none) (hv : bootBuiltins x = some (.builtin id)) (ha : PA X (e :: es) t) (hn : x ≠ "__name__" := by decide) (hdb : (x == ("__debug__" : Str)) = false := by decide)
    (he : starEach (e :: es) X.env = (false, eval e X.env) :: starEach es X.env := by rfl) (hpl : (backTo pos (starEach es X.env)).any (·.1) = false := by rfl) : PE X (.Call (.Name x p) (e :: es) [] pos) (tCB r t) := by
  intro pins s σ H Q I h
  refine wpAny_Call_Name_kw (ld_blt I hg hm hv ?_ hn hdb)
  exact PyProof.Rows.callWith_builtin1 (thn (ha s σ H _ I h) fun us s1 ⟨vs, H1, I1, r1, q1⟩ => hc s1 σ H1 vs us Q I1 r1 q1) he hpl
/-- T(e, ..), T a built-in type -/
theorem pe_callTy (hc : CallR X (.type T) r) (hg : Gl X x) (hm : X.mg x = none) (hv : bootBuiltins x = some (.type T)) (ha : PA X (e :: es) t) (hn : x ≠ "__name__" := by decide) (hdb : (x == ("__debug__" : Str)) = false := by decide)
    (he : starEach (e :: es) X.env = (false, eval e X.env) :: starEach es X.env := by rfl) (hpl : (backTo pos (starEach es X.env)).any (·.1) = false := by rfl) : PE X (.Call (.Name x p) (e :: es) [] pos) (tCB r t) := by
  intro pins s σ H Q I h
  refine wpAny_Call_Name_kw (ld_blt I hg hm hv ?_ hn hdb)
  exact PyProof.Rows.callWith_type1 (thn (ha s σ H _ I h) fun us s1 ⟨vs, H1, I1, r1, q1⟩ => hc s1 σ H1 vs us Q I1 r1 q1) he hpl
end
end L2

namespace L2
open PySem PySem.Spec PyProof.Rows

/-! ### lists of pairs as tables -/
section
variable {κ : Type} [DecidableEq κ]
noncomputable def valV (kvs : List (κ × V)) (k : κ) : Option V := (kvs.find? fun kv => decide (kv.1 = k)).map (·.2)
/-- in its place, or at the end -/
noncomputable def putK (kvs : List (κ × V)) (k : κ) (v : V) : List (κ × V) :=
  if (kvs.any fun kv => decide (kv.1 = k)) = true then kvs.map (fun kv => if kv.1 = k then (kv.1, v) else kv) else kvs ++ [(k, v)]
theorem valV_pos {p : κ × V} {r : List (κ × V)} {k : κ} (e : p.1 = k) : valV (p :: r) k = some p.2 := by simp [valV, List.find?_cons, e]
theorem valV_neg {p : κ × V} {r : List (κ × V)} {k : κ} (e : ¬ p.1 = k) : valV (p :: r) k = valV r k := by simp [valV, List.find?_cons, e]
theorem valV_any (k : κ) : ∀ kvs : List (κ × V), (kvs.any fun kv => decide (kv.1 = k)) = (valV kvs k).isSome
  | [] => rfl
  | p :: r => by
    rw [List.any_cons]
    by_cases e : p.1 = k
    · simp only [valV_pos e, decide_eq_true e, Bool.true_or, Option.isSome_some]
    · rw [valV_neg e, decide_eq_false e, Bool.false_or]; exact valV_any k r
theorem valV_map (k j : κ) (y : V) : ∀ kvs : List (κ × V), valV (kvs.map fun kv => if kv.1 = k then (kv.1, y) else kv) j = (valV kvs j).map fun x => if j = k then y else x
  | [] => rfl
  | p :: r => by
    have ih := valV_map k j y r
    rw [List.map_cons]
    by_cases h : p.1 = k
    · rw [if_pos h]
      by_cases e : p.1 = j
      · rw [valV_pos (p := (p.1, y)) e, valV_pos e, Option.map_some, if_pos (e.symm.trans h)]
      · rw [valV_neg (p := (p.1, y)) e, valV_neg e, ih]
    · rw [if_neg h]
      by_cases e : p.1 = j
      · rw [valV_pos (p := p) e, valV_pos e, Option.map_some, if_neg (fun z => h (e.trans z))]
      · rw [valV_neg (p := p) e, valV_neg e, ih]
theorem valV_snoc (k j : κ) (y : V) : ∀ kvs : List (κ × V), valV kvs k = none → valV (kvs ++ [(k, y)]) j = if j = k then some y else valV kvs j
  | [], _ => by
    by_cases e : k = j
    · rw [if_pos e.symm]; exact valV_pos (p := (k, y)) e
    · rw [if_neg (fun z => e z.symm)]; exact valV_neg (p := (k, y)) e
  | p :: r, hn => by
    rw [List.cons_append]
    have hk : ¬ p.1 = k := fun z => by rw [valV_pos z] at hn; cases hn
    rw [valV_neg hk] at hn
    have ih := valV_snoc k j y r hn
    by_cases e : p.1 = j
    · rw [valV_pos e, valV_pos e, if_neg (fun z => hk (e.trans z))]
    · rw [valV_neg e, valV_neg e, ih]
theorem valV_put (kvs : List (κ × V)) (k j : κ) (y : V) : valV (putK kvs k y) j = if j = k then some y else valV kvs j := by
  unfold putK
  by_cases a : (kvs.any fun kv => decide (kv.1 = k)) = true
  · rw [if_pos a, valV_map]
    rw [valV_any] at a
    by_cases e : j = k
    · obtain ⟨x, hx⟩ := Option.isSome_iff_exists.mp a
      rw [if_pos e, e, hx, Option.map_some, if_pos rfl]
    · rw [if_neg e]
      cases valV kvs j with
      | none => rfl
      | some x => rw [Option.map_some, if_neg e]
  · rw [if_neg a]
    refine valV_snoc k j y kvs ?_
    rw [valV_any] at a
    cases q : valV kvs k with
    | none => rfl
    | some x => rw [q] at a; exact (a rfl).elim
theorem length_putK (kvs : List (κ × V)) (k : κ) (v : V) : (putK kvs k v).length ≤ kvs.length + 1 := by
  unfold putK
  split
  · rw [List.length_map]; (first | lia | omega)
  · rw [List.length_append, List.length_cons, List.length_nil]; (first | lia | omega)
theorem putK_new {kvs : List (κ × V)} {k : κ} (v : V) (h : valV kvs k = none) : putK kvs k v = kvs ++ [(k, v)] := by
  unfold putK
  rw [valV_any, h]
  exact if_neg (by decide)

theorem RelO.isSome_eq {o : Option V} {u : Option Value} (r : RelO o u) : o.isSome = u.isSome := by
  cases o with
  | none => cases u with
    | none => rfl
    | some _ => exact (show False from r).elim
  | some _ => cases u with
    | none => exact (show False from r).elim
    | some _ => rfl
/-- raw tables of the same keys -/
theorem KV.val {kvs : List (κ × V)} {vs : List (κ × Value)} (r : KV kvs vs) (k : κ) : RelO (valV kvs k) (valueAt vs k) := by
  unfold KV at r
  induction r with
  | nil => exact True.intro
  | @cons p q ps qs h t ih =>
    obtain ⟨h1, h2⟩ := h
    by_cases e : p.1 = k
    · have e' : q.1 = k := h1.symm.trans e
      have b : valueAt (q :: qs) k = some q.2 := by simp [valueAt, List.find?_cons, e']
      rw [valV_pos e, b]; exact h2
    · have e' : ¬ q.1 = k := fun z => e (h1.trans z)
      have b : valueAt (q :: qs) k = valueAt qs k := by simp [valueAt, List.find?_cons, e']
      rw [valV_neg e, b]; exact ih
theorem KV.any {kvs : List (κ × V)} {vs : List (κ × Value)} (r : KV kvs vs) (k : κ) : (kvs.any fun kv => decide (kv.1 = k)) = vs.any fun kv => decide (kv.1 = k) := by
  unfold KV at r
  induction r with
  | nil => rfl
  | cons h t ih => rw [List.any_cons, List.any_cons, ih, h.1]
theorem KV.repl {kvs : List (κ × V)} {vs : List (κ × Value)} (r : KV kvs vs) (k : κ) {y : V} {u : Value} (ry : RelV y u) :
    KV (kvs.map fun kv => if kv.1 = k then (kv.1, y) else kv) (vs.map fun kv => if kv.1 = k then (kv.1, u) else kv) := by
  unfold KV at r ⊢
  induction r with
  | nil => exact .nil
  | @cons p q ps qs h t ih =>
    rw [List.map_cons, List.map_cons]
    refine .cons ?_ ih
    obtain ⟨h1, h2⟩ := h
    by_cases e : p.1 = k
    · rw [if_pos e, if_pos (h1.symm.trans e)]; exact ⟨h1, ry⟩
    · rw [if_neg e, if_neg (fun z => e (h1.trans z))]; exact ⟨h1, h2⟩
theorem KV.put {kvs : List (κ × V)} {vs : List (κ × Value)} (r : KV kvs vs) (k : κ) {y : V} {u : Value} (ry : RelV y u) : KV (putK kvs k y) (stored vs k u) := by
  unfold putK stored
  rw [r.any k]
  by_cases e : (vs.any fun kv => decide (kv.1 = k)) = true
  · rw [if_pos e, if_pos e]; exact r.repl k ry
  · rw [if_neg e, if_neg e]; exact Paired.snoc r ⟨rfl, ry⟩
theorem KV.length {kvs : List (κ × V)} {vs : List (κ × Value)} (r : KV kvs vs) : kvs.length = vs.length := Paired.length r
end


/-! ### a tracked dict, its keys ints and texts or tuples of these -/
theorem kV_is {P : Program} {w : World} {k : Key} {u : Value} (r : RelV (kV k) u) : (mixKind P w).is k u = true := by
  cases k with
  | inl i => obtain ⟨t, e⟩ := (show ∃ t, u = Value.int i t from r); subst e; exact mixKind_int P w i t
  | inr x => obtain ⟨t, e⟩ := (show ∃ t, u = Value.str x t from r); subst e; exact mixKind_str P w x t
theorem items_are {P : Program} {w : World} : ∀ {ks : List Key} {us : List Value}, Vals (ks.map kV) us → ItemsAre (mixKind P w) ks us
  | [], _, r => by rw [List.map_nil] at r; cases r; exact .nil
  | k :: ks, _, r => by
    rw [List.map_cons] at r
    cases r with
    | cons h t => exact .cons (kV_is h) (items_are t)

/-- raw entries of a dict with tuple keys -/
noncomputable abbrev KT (H : Hp) : List (List Key × V) → List (List Key × Addr × Value) → Prop := Paired fun p q => p.1 = q.1 ∧ H q.2.1 = some (.tup (p.1.map kV)) ∧ RelV p.2 q.2.2
theorem KT.val {H : Hp} {kvs : List (List Key × V)} {xs : List (List Key × Addr × Value)} (r : KT H kvs xs) (k : List Key) : RelO (valV kvs k) ((atKey xs k).map (·.2)) := by
  induction r with
  | nil => exact True.intro
  | @cons p q ps qs h t ih =>
    obtain ⟨h1, _, h2⟩ := h
    by_cases e : p.1 = k
    · have e' : q.1 = k := h1.symm.trans e
      have b : atKey (q :: qs) k = some q.2 := by simp [atKey, List.find?_cons, e']
      rw [valV_pos e, b]; exact h2
    · have e' : ¬ q.1 = k := fun z => e (h1.trans z)
      have b : atKey (q :: qs) k = atKey qs k := by simp [atKey, List.find?_cons, e']
      rw [valV_neg e, b]; exact ih
theorem KT.repl {H : Hp} {kvs : List (List Key × V)} {xs : List (List Key × Addr × Value)} (r : KT H kvs xs) (k : List Key) {y : V} {u : Value} (ry : RelV y u) :
    KT H (kvs.map fun kv => if kv.1 = k then (kv.1, y) else kv) (xs.map (putAt k u)) := by
  induction r with
  | nil => exact .nil
  | @cons p q ps qs h t ih =>
    rw [List.map_cons, List.map_cons]
    refine .cons ?_ ih
    obtain ⟨h1, h2, h3⟩ := h
    unfold putAt
    by_cases e : p.1 = k
    · rw [if_pos e, if_pos (h1.symm.trans e)]; exact ⟨h1, h2, ry⟩
    · rw [if_neg e, if_neg (fun z => e (h1.trans z))]; exact ⟨h1, h2, h3⟩
theorem KT.put {H : Hp} {kvs : List (List Key × V)} {xs : List (List Key × Addr × Value)} (r : KT H kvs xs) (k : List Key) {b : Addr} {y : V} {u : Value} (hb : H b = some (.tup (k.map kV))) (ry : RelV y u) :
    KT H (putK kvs k y) (storedH xs k b u) := by
  have e : (kvs.any fun kv => decide (kv.1 = k)) = (atKey xs k).isSome := by
    rw [valV_any, (r.val k).isSome_eq, Option.isSome_map]
  unfold putK storedH
  rw [e]
  by_cases q : (atKey xs k).isSome = true
  · rw [if_pos q, if_pos q]; exact r.repl k ry
  · rw [if_neg q, if_neg q]; exact Paired.snoc r ⟨rfl, hb, ry⟩
theorem KT.keeps {H H' : Hp} {kvs : List (List Key × V)} {xs : List (List Key × Addr × Value)} (r : KT H kvs xs) (ht : ∀ b ys, H b = some (.tup ys) → H' b = some (.tup ys)) : KT H' kvs xs :=
  Paired.mapP r fun _ _ z => ⟨z.1, ht _ _ z.2.1, z.2.2⟩

section
variable {P : Program} {w : World} {H : Hp} {h : Heap} {a : Addr}
theorem rd_of {u : HO} (ok : HOk P w H h) (e : Rd H a u) : ObjOk P w H h a u := e.ok ok
theorem dk_rd {kvs : List (Key × V)} (ok : HOk P w H h) (e : Rd H a (.dK kvs)) : kvs.length ≤ sizeLine ∧ (a == sysModules) = false ∧ ∃ vs, KV kvs vs ∧ h.DictOf (mixKind P w) a vs :=
  show ObjOk P w H h a (.dK kvs) from rd_of ok e
theorem dk_of {kvs : List (Key × V)} (ok : HOk P w H h) (e : H a = some (.dK kvs)) : kvs.length ≤ sizeLine ∧ (a == sysModules) = false ∧ ∃ vs, KV kvs vs ∧ h.DictOf (mixKind P w) a vs := dk_rd ok (.inl e)
/-- a tracked tuple of ints and texts is a key -/
theorem key_of {ks : List Key} (ok : HOk P w H h) (e : H a = some (.tup (ks.map kV))) : (tupleKind (mixKind P w)).is h ks a := by
  obtain ⟨_, its, r, o, h1, h2, n, h3⟩ := (show ObjOk P w H h a (.tup (ks.map kV)) from ok a _ e)
  exact ⟨o, its.toArray, n, h1, h2, h3, by simpa using items_are r⟩
theorem dt_rd {kvs : List (List Key × V)} (ok : HOk P w H h) (e : Rd H a (.dT kvs)) : kvs.length ≤ sizeLine ∧ (a == sysModules) = false ∧
    ∃ xs, KT H kvs xs ∧ h.DictOfH (tupleKind (mixKind P w)) a xs := by
  obtain ⟨z, y, xs, r, o, es, ep, h1, h2, h3, h4, h5⟩ := (show ObjOk P w H h a (.dT kvs) from rd_of ok e)
  refine ⟨z, y, xs, r, o, es, ep, h1, h2, h3, h4, fun x hx => ?_, h5⟩
  have all : ∀ {l : List (List Key × V)} {m : List (List Key × Addr × Value)}, KT H l m → ∀ x ∈ m, (tupleKind (mixKind P w)).is h x.1 x.2.1 := by
    intro l m q
    induction q with
    | nil => intro x hx; exact nomatch hx
    | @cons p q ps qs hq t ih =>
      intro x hx
      rcases List.mem_cons.mp hx with e | hx
      · subst e
        exact key_of ok (by rw [← hq.1]; exact hq.2.1)
      · exact ih x hx
  exact all r x hx
theorem dt_of {kvs : List (List Key × V)} (ok : HOk P w H h) (e : H a = some (.dT kvs)) : kvs.length ≤ sizeLine ∧ (a == sysModules) = false ∧
    ∃ xs, KT H kvs xs ∧ h.DictOfH (tupleKind (mixKind P w)) a xs := dt_rd ok (.inl e)
end

/-- what the dict at a holds at the key y -/
noncomputable def DGet (H : Hp) (a : Addr) (y : V) (r : Option V) : Prop :=
  (Ex2 fun kvs k => Rd H a (.dK kvs) ∧ y = kV k ∧ r = valV kvs k) ∨ Ex3 fun kvs k b => Rd H a (.dT kvs) ∧ y = .ref b ∧ H b = some (.tup (k.map kV)) ∧ r = valV kvs k
/-- the heap behind a[y] = v -/
noncomputable def DPut (H : Hp) (a : Addr) (y v : V) (H' : Hp) : Prop :=
  (Ex2 fun kvs k => H a = some (.dK kvs) ∧ y = kV k ∧ kvs.length < sizeLine ∧ H' = upd H a (.dK (putK kvs k v))) ∨
  Ex3 fun kvs k b => H a = some (.dT kvs) ∧ y = .ref b ∧ H b = some (.tup (k.map kV)) ∧ kvs.length < sizeLine ∧ H' = upd H a (.dT (putK kvs k v))
theorem DGet.k {H : Hp} {a : Addr} {kvs : List (Key × V)} {k : Key} (e : H a = some (.dK kvs)) : DGet H a (kV k) (valV kvs k) := .inl ⟨kvs, k, .inl e, rfl, rfl⟩
theorem DPut.k {H : Hp} {a : Addr} {kvs : List (Key × V)} {k : Key} {v : V} (e : H a = some (.dK kvs)) (hl : kvs.length < sizeLine) : DPut H a (kV k) v (upd H a (.dK (putK kvs k v))) := .inl ⟨kvs, k, e, rfl, hl, rfl⟩
section
variable {X : Cx} {pins : List (Addr × Obj)} {σ : St} {H : Hp} {s : Shared} {a : Addr} {y v : V} {u r : Value} {o : Option V} {A : Around} {E : Value → Shared → Prop}

theorem Inv.big (I : Inv X pins σ H s) : sysModules < s.heap.objs.size := by
  have h : mainGlobals < s.heap.objs.size := (I.mod.glob.keeps I.bk).lt
  exact Nat.lt_trans (by decide) h

/-- d[y], there -/
theorem d_getItem {Q : Value → Shared → Prop} (hu : A.units + 1 < cLine) (I : Inv X pins σ H s) (g : DGet H a y (some v)) (ry : RelV y u) (h : ∀ w' s', Inv X pins σ H s' → RelV v w' → Q w' s') :
    wpAny (model X.prog X.w) A (getItem (.ref a) u) Q E s := by
  rcases g with ⟨kvs, k, e, ey, l⟩ | ⟨kvs, k, b, e, ey, eb, l⟩
  · subst ey
    obtain ⟨z, hd, vs, rel, dd⟩ := dk_rd I.hok e
    obtain ⟨w', hw, rw'⟩ := RelO.some_of (v := v) (o := valueAt vs k) (by rw [l]; exact rel.val k)
    exact wpAny_getItem_of (kV_is ry) dd.mapOf hw (h w' _ (I.tok _) rw')
  · subst ey
    cases (show u = Value.ref b from ry)
    obtain ⟨z, hd, xs, rel, dd⟩ := dt_rd I.hok e
    obtain ⟨w', hw, rw'⟩ := RelO.some_of (v := v) (o := (atKey xs k).map (·.2)) (by rw [l]; exact rel.val k)
    obtain ⟨p, hp, hp2⟩ := Option.map_eq_some_iff.mp hw
    refine wpAny_getItem_heap (tupleKind_room_in1 hu) (key_of I.hok eb) dd hp ?_
    rw [hp2]
    exact h w' _ (I.tok _) rw'
/-- y in d -/
theorem d_in {Q : Value → Shared → Prop} (hu : A.units + 1 < cLine) (I : Inv X pins σ H s) (g : DGet H a y o) (ry : RelV y u) (h : ∀ s', Inv X pins σ H s' → Q (.bool o.isSome) s') :
    wpAny (model X.prog X.w) A (compareOp .In u (.ref a)) Q E s := by
  rcases g with ⟨kvs, k, e, ey, l⟩ | ⟨kvs, k, b, e, ey, eb, l⟩
  · subst ey
    obtain ⟨z, hd, vs, rel, dd⟩ := dk_rd I.hok e
    refine wpAny_in_of (kV_is ry) hd dd.mapOf ?_
    rw [← (rel.val k).isSome_eq, ← l]
    exact h _ (I.tok _)
  · subst ey
    cases (show u = Value.ref b from ry)
    obtain ⟨z, hd, xs, rel, dd⟩ := dt_rd I.hok e
    refine wpAny_in_heap (tupleKind_room_in1 hu) (key_of I.hok eb) hd dd ?_
    have q := (rel.val k).isSome_eq
    rw [Option.isSome_map] at q
    rw [← q, ← l]
    exact h _ (I.tok _)
theorem d_notIn {Q : Value → Shared → Prop} (hu : A.units + 1 < cLine) (I : Inv X pins σ H s) (g : DGet H a y o) (ry : RelV y u) (h : ∀ s', Inv X pins σ H s' → Q (.bool (!o.isSome)) s') :
    wpAny (model X.prog X.w) A (compareOp .NotIn u (.ref a)) Q E s := by
  rcases g with ⟨kvs, k, e, ey, l⟩ | ⟨kvs, k, b, e, ey, eb, l⟩
  · subst ey
    obtain ⟨z, hd, vs, rel, dd⟩ := dk_rd I.hok e
    refine wpAny_notIn_of (kV_is ry) hd dd.mapOf ?_
    rw [← (rel.val k).isSome_eq, ← l]
    exact h _ (I.tok _)
  · subst ey
    cases (show u = Value.ref b from ry)
    obtain ⟨z, hd, xs, rel, dd⟩ := dt_rd I.hok e
    refine wpAny_notIn_heap (tupleKind_room_in1 hu) (key_of I.hok eb) hd dd ?_
    have q := (rel.val k).isSome_eq
    rw [Option.isSome_map] at q
    rw [← q, ← l]
    exact h _ (I.tok _)
/-- a dict's object is replaced -/
theorem d_write {h' : Heap} {t' : Nat} {ob : HO} (I : Inv X pins σ H s) (mu : Mut (H a)) (hs : Heap.SameBut a s.heap h') (he : ∃ q, h'.get? a = some q) (new : ObjOk X.prog X.w (upd H a ob) h' a ob) :
    Inv X pins σ (upd H a ob) { s with heap := h', toks := t' } :=
  I.write (x := a) (e := a) mu (.inl rfl) (fun b q hb z => (hs.2 b hb).trans z) he new
theorem dk_new {P : Program} {w : World} {H' : Hp} {h' : Heap} {kvs : List (Key × V)} {vs : List (Key × Value)} (z : kvs.length ≤ sizeLine) (hd : (a == sysModules) = false) (rel : KV kvs vs) (dd : h'.DictOf (mixKind P w) a vs) :
    ObjOk P w H' h' a (.dK kvs) := ⟨z, hd, vs, rel, dd⟩
/-- d[y] = v -/
theorem d_setItem {H' : Hp} {Q : Unit → Shared → Prop} (hu : A.units + 1 < cLine) (I : Inv X pins σ H s) (g : DPut H a y v H') (ry : RelV y u) (rv : RelV v r) (h : ∀ s', Inv X pins σ H' s' → Q () s') :
    wpAny (model X.prog X.w) A (setItem (.ref a) u r) Q E s := by
  rcases g with ⟨kvs, k, e, ey, l, eH⟩ | ⟨kvs, k, b, e, ey, eb, l, eH⟩
  · subst ey eH
    obtain ⟨z, hd, vs, rel, dd⟩ := dk_of I.hok e
    have hz : vs.length ≤ sizeLine := by rw [← rel.length]; exact z
    have hl : (putK kvs k v).length ≤ sizeLine := by have := length_putK kvs k v; (first | lia | omega)
    refine wpAny_setItem_pairs (hsz := hz) (kV_is ry) dd fun h' dd' hs => h _ ?_
    have he : ∃ q, h'.get? a = some q := let ⟨q, _, _, hq, _⟩ := dd'; ⟨q, hq⟩
    exact d_write I (by rw [e]; exact True.intro) hs he (dk_new hl hd (rel.put k rv) dd')
  · subst ey eH
    cases (show u = Value.ref b from ry)
    obtain ⟨z, hd, xs, rel, dd⟩ := dt_of I.hok e
    have hz : xs.length ≤ sizeLine := by rw [← Paired.length rel]; exact z
    have hl : (putK kvs k v).length ≤ sizeLine := by have := length_putK kvs k v; (first | lia | omega)
    refine wpAny_setItem_heap (hsz := hz) (tupleKind_room_in1 hu) (key_of I.hok eb) dd fun h' dd' hs => h _ ?_
    obtain ⟨q, es, ep, hq, h2, h3, h4, _, h5⟩ := dd'
    refine d_write I (by rw [e]; exact True.intro) hs ⟨q, hq⟩ ⟨hl, hd, _, (rel.put k eb rv).keeps fun c ys ec => ?_, q, es, ep, hq, h2, h3, h4, h5⟩
    rw [upd_ne (ne_of ec e (fun z => nomatch z))]
    exact ec
end

section
variable {X : Cx} {pins : List (Addr × Obj)} {σ : St} {H : Hp} {s : Shared} {a : Addr} {kvs : List (Key × V)} {k : Key} {u : Value} {A : Around} {E : Value → Shared → Prop}
end


/-! ### readings and rules -/
/-- the element of a subscription, not a slice -/
noncomputable def NoSl (i : Expr) : Prop := ∀ ov iv, subscripted i false ov iv = operate [ov, iv] (getItem ov iv)
theorem subD_of {prog : Program} {w : World} {A : Around} {E : Value → Shared → Prop} {s : Shared} {env : Env} {value slice : Expr} {pos : Pos} {T id : String} {Q : Value → Shared → Prop}
    (hl : typeLookup (.type T) "__getitem__" = pure (some (.builtin id))) (hs : NoSl slice)
    (h : wpAny (model prog w) A (eval value env) (fun o s₁ => wpAny (model prog w) A (eval slice env) (fun i s₂ => s₂.TypeIs o T ∧ wpAny (model prog w) A (getItem o i) Q E s₂) E s₁) E s) :
    wpAny (model prog w) A (eval (.Subscript value slice pos) env) Q E s := by
  refine Subscript_ (wpAny_mono h (fun o s₁ h₁ => wpAny_mono h₁ (fun i s₂ h₂ => ?_) fun _ _ x => x) fun _ _ x => x)
  obtain ⟨hT, h₂⟩ := h₂
  unfold subscriptTail
  refine wpAny_bind ?_
  rw [getitemInPython_of_ne hT.not_modules]
  refine wpAny_bind (wpAny_specialOf hT hl ?_)
  have fin : wpAny (model prog w) A (subscripted slice false o i) (fun r s₃ => wpAny (model prog w) A (letTemporaryGo value o r >>= fun _ => pure r) Q E s₃) E s₂ := by
    rw [hs o i]
    exact wpAny_operating (wpAny_mono h₂ (fun r s₃ h₃ => wpAny_bind (wpAny_letTemporaryGo (wpAny_pure h₃))) fun _ _ x => x)
  first
    | exact wpAny_pure (wpAny_bind fin)
    | exact wpAny_bind (wpAny_pure (wpAny_bind fin))
    | exact wpAny_bind fin

theorem dict_typeIs {X : Cx} {pins : List (Addr × Obj)} {σ : St} {H : Hp} {s : Shared} {a : Addr} {y : V} {o : Option V} (I : Inv X pins σ H s) (g : DGet H a y o) : s.TypeIs (.ref a) "dict" := by
  rcases g with ⟨kvs, k, e, _, _⟩ | ⟨kvs, k, b, e, _, _, _⟩
  · obtain ⟨_, _, vs, _, dd⟩ := dk_rd I.hok e
    exact dd.typeIs
  · obtain ⟨_, _, xs, _, dd⟩ := dt_rd I.hok e
    exact dd.typeIs
/-- d[y] -/
noncomputable def tDGet (td ty : TE) : TE := fun σ H Q => td σ H fun x H1 => ty σ H1 fun y H2 => Ex2 fun a v => x = .ref a ∧ DGet H2 a y (some v) ∧ Q v H2
/-- y in d, y not in d -/
noncomputable def tDIn (ty td : TE) : TE := fun σ H Q => ty σ H fun y H1 => td σ H1 fun x H2 => Ex2 fun a o => x = .ref a ∧ DGet H2 a y o ∧ Q (.bl o.isSome) H2
noncomputable def tDNotIn (ty td : TE) : TE := fun σ H Q => ty σ H fun y H1 => td σ H1 fun x H2 => Ex2 fun a o => x = .ref a ∧ DGet H2 a y o ∧ Q (.bl (!o.isSome)) H2
/-- d[y] = v -/
noncomputable def sDPut (td ty tv : TE) : TS := fun D σ H => tv σ H fun v H1 => td σ H1 fun x H2 => ty σ H2 fun y H3 => Ex2 fun a H4 => x = .ref a ∧ DPut H3 a y v H4 ∧ D.nx σ H4
section
variable {X : Cx} {o i e value : Expr} {pos pos' tpos : Pos} {td ty tv : TE}
theorem pe_dget (hu : X.A.units + 1 < cLine) (ho : PE X o td) (hi : PE X i ty) (hs : NoSl i) : PE X (.Subscript o i pos) (tDGet td ty) := by
  intro pins s σ H Q I h
  refine subD_of PySem.F.slot_dict_getitem.lookup hs (thn (ho s σ H _ I h) fun u s1 ⟨x, H1, I1, rx, q1⟩ => thn (hi s1 σ H1 _ I1 q1) fun iv s2 ⟨y, H2, I2, ry, a, v, ex, g, q2⟩ => ?_)
  subst ex
  obtain rfl : u = Value.ref a := rx
  exact ⟨dict_typeIs I2 g, d_getItem hu I2 g ry fun w' s3 I3 rw' => ⟨v, H2, I3, rw', q2⟩⟩
theorem pc_din (hu : X.A.units + 1 < cLine) (hi : PE X i ty) (ho : PE X o td) : PC X .In i o (tDIn ty td) := by
  intro pins s σ H Q I h
  refine thn (hi s σ H _ I h) fun iv s1 ⟨y, H1, I1, ry, q1⟩ => thn (ho s1 σ H1 _ I1 q1) fun u s2 ⟨x, H2, I2, rx, a, ov, ex, g, q2⟩ => ?_
  subst ex
  obtain rfl : u = Value.ref a := rx
  exact d_in hu I2 g ry fun s3 I3 => ⟨.bl ov.isSome, H2, I3, rfl, q2⟩
theorem pc_dnotin (hu : X.A.units + 1 < cLine) (hi : PE X i ty) (ho : PE X o td) : PC X .NotIn i o (tDNotIn ty td) := by
  intro pins s σ H Q I h
  refine thn (hi s σ H _ I h) fun iv s1 ⟨y, H1, I1, ry, q1⟩ => thn (ho s1 σ H1 _ I1 q1) fun u s2 ⟨x, H2, I2, rx, a, ov, ex, g, q2⟩ => ?_
  subst ex
  obtain rfl : u = Value.ref a := rx
  exact d_notIn hu I2 g ry fun s3 I3 => ⟨.bl (!ov.isSome), H2, I3, rfl, q2⟩
theorem ps_dput (hu : X.A.units + 1 < cLine) (ho : PE X o td) (hi : PE X i ty) (hv : PE X value tv) (hs : swapsWith value (some (.Subscript o i pos')) pos.line X.env = pure false) :
    PS X (.Assign [.Subscript o i pos'] value pos) (sDPut td ty tv) := by
  intro pins s σ H D I h
  refine wpAny_Assign_Subscript (thn (hv s σ H _ I h) fun r s1 ⟨v, H1, I1, rv, q1⟩ => thn (ho s1 σ H1 _ I1 q1) fun u s2 ⟨x, H2, I2, rx, q2⟩ => thn (hi s2 σ H2 _ I2 q2) fun iv s3 ⟨y, H3, I3, ry, a, H4, ex, g, q3⟩ => ?_) hs
  subst ex
  obtain rfl : u = Value.ref a := rx
  exact d_setItem hu I3 g ry rv fun s4 I4 => ⟨σ, H4, I4, q3⟩
end


/-! ### displays -/
theorem dk_empty {P : Program} {w : World} {H : Hp} (h : Heap) (hb : sysModules < h.objs.size) : ObjOk P w H (h.push { cls := .type "dict", data := .dict #[] }) h.objs.size (.dK []) :=
  ⟨Nat.zero_le _, beq_eq_false_iff_ne.mpr (Ne.symm (Nat.ne_of_lt hb)), [], .nil, Heap.DictOf.new h⟩
theorem dt_empty {P : Program} {w : World} {H : Hp} (h : Heap) (hb : sysModules < h.objs.size) : ObjOk P w H (h.push { cls := .type "dict", data := .dict #[] }) h.objs.size (.dT []) :=
  ⟨Nat.zero_le _, beq_eq_false_iff_ne.mpr (Ne.symm (Nat.ne_of_lt hb)), [], .nil, _, #[], 0, Heap.get?_push_size _ rfl, ⟨rfl, rfl, rfl⟩, rfl, rfl, List.nodup_nil⟩
noncomputable def tDNewT : TE := fun _ H Q => ∀ p, H p = none → Q (.ref p) (upd H p (.dT []))
section
variable {X : Cx} {pos : Pos}
theorem pe_dnewT : PE X (.Dict [] [] pos) tDNewT := fun pins s σ H Q I h =>
  wpAny_Dict_empty ⟨.ref s.heap.objs.size, _, I.laid (a := s.heap.objs.size) (o := .dT []) (t' := s.toks) (fun _ _ q => Heap.get?_push_of_some _ q) (Nat.le_refl _) (dt_empty s.heap I.big), rfl, h _ (I.hok.fresh (Nat.le_refl _))⟩
end

/-- the pairs of a display, from the left -/
noncomputable def tPairs : List (TE × TE) → St → Hp → (List (V × V) → Hp → Prop) → Prop
  | [], _, H, Q => Q [] H
  | (tk, tv) :: r, σ, H, Q => tk σ H fun x H1 => tv σ H1 fun y H2 => tPairs r σ H2 fun ps H3 => Q ((x, y) :: ps) H3
noncomputable abbrev VV : List (V × V) → List (Value × Value) → Prop := Paired fun p q => RelV p.1 q.1 ∧ RelV p.2 q.2
noncomputable def PPs (X : Cx) (pos : Pos) (keys : List (Option Expr)) (values : List Expr) (trs : List (TE × TE)) : Prop :=
  ∀ ⦃pins : List (Addr × Obj)⦄ (s : Shared) (σ : St) (H : Hp) (Q : List (V × V) → Hp → Prop), Inv X pins σ H s → tPairs trs σ H Q →
    wpAny (model X.prog X.w) X.A (evalPairs (pairTrees keys values X.env pos)) (fun vs s' => Ex2 fun ps H' => Inv X pins σ H' s' ∧ VV ps vs ∧ Q ps H') X.xe s
theorem pps_nil {X : Cx} {pos : Pos} : PPs X pos [] [] [] := fun pins s σ H Q I h => pairTrees_nil_walk ⟨[], H, I, .nil, h⟩
theorem pps_cons {X : Cx} {pos : Pos} {k v : Expr} {ks : List (Option Expr)} {vs : List Expr} {tk tv : TE} {trs : List (TE × TE)} (hk : PE X k tk) (hv : PE X v tv) (hr : PPs X pos ks vs trs) :
    PPs X pos (some k :: ks) (v :: vs) ((tk, tv) :: trs) := fun pins s σ H Q I h =>
  pairTrees_cons_walk (thn (hk s σ H _ I h) fun u s1 ⟨x, H1, I1, rx, q1⟩ => thn (hv s1 σ H1 _ I1 q1) fun w2 s2 ⟨y, H2, I2, ry, q2⟩ =>
    thn (hr s2 σ H2 _ I2 q2) fun ws s3 ⟨ps, H3, I3, rel, q3⟩ => ⟨(x, y) :: ps, H3, I3, .cons ⟨rx, ry⟩ rel, q3⟩)

noncomputable def mergeK (kvs more : List (Key × V)) : List (Key × V) := more.foldl (fun acc kv => putK acc kv.1 kv.2) kvs
theorem KV.merge : ∀ {more : List (Key × V)} {rs : List (Key × Value)} {kvs : List (Key × V)} {vs : List (Key × Value)}, KV more rs → KV kvs vs → KV (mergeK kvs more) (merged vs rs) := by
  intro more rs kvs vs r
  unfold KV at r
  induction r generalizing kvs vs with
  | nil => intro q; exact q
  | @cons p q ps qs h t ih =>
    intro r0
    have e : KV (putK kvs p.1 p.2) (stored vs q.1 q.2) := by
      have := r0.put p.1 h.2
      rw [← h.1]; exact this
    exact ih e
theorem length_mergeK : ∀ (more kvs : List (Key × V)), (mergeK kvs more).length ≤ kvs.length + more.length
  | [], kvs => by show kvs.length ≤ kvs.length + 0; (first | lia | omega)
  | p :: r, kvs => by
    have h1 := length_mergeK r (putK kvs p.1 p.2)
    have h2 := length_putK kvs p.1 p.2
    show (mergeK (putK kvs p.1 p.2) r).length ≤ _
    rw [List.length_cons]; (first | lia | omega)
theorem carries_of {P : Program} {w : World} : ∀ {kvs : List (Key × V)} {ws : List (Value × Value)}, VV (kvs.map fun kv => (kV kv.1, kv.2)) ws → ∃ rs, Carries (mixKind P w) ws rs ∧ KV kvs rs
  | [], _, r => by rw [List.map_nil] at r; cases r; exact ⟨[], True.intro, .nil⟩
  | p :: kvs, _, r => by
    rw [List.map_cons] at r
    cases r with
    | @cons a b as bs h t =>
      obtain ⟨rs, c, q⟩ := carries_of (P := P) (w := w) t
      obtain ⟨b1, b2⟩ := b
      exact ⟨(p.1, b2) :: rs, ⟨kV_is h.1, rfl, c⟩, .cons ⟨rfl, h.2⟩ q⟩
/-- {k: v, ..} with keys ints and texts; the new dict stands empty while the pairs are made -/
noncomputable def tDisp (trs : List (TE × TE)) : TE := fun σ H Q => ∀ p, H p = none → tPairs trs σ (upd H p (.dK [])) fun ps H2 => H2 p = some (.dK []) ∧ ∃ kvs : List (Key × V), ps = kvs.map (fun kv => (kV kv.1, kv.2)) ∧ kvs.length ≤ 15 ∧ Q (.ref p) (upd H2 p (.dK (mergeK [] kvs)))
theorem pe_disp {X : Cx} {pos : Pos} {keys : List (Option Expr)} {values : List Expr} {trs : List (TE × TE)} (h : PPs X pos keys values trs) (hall : keys.all (·.isSome) = true) (hl : keys.length = values.length) (h0 : keys ≠ [])
    (h15 : keys.length ≤ 15) : PE X (.Dict keys values pos) (tDisp trs) := by
  intro pins s σ H Q I q
  have hn := I.hok.fresh (Nat.le_refl s.heap.objs.size)
  have I1 := I.laid (a := s.heap.objs.size) (o := .dK []) (h' := s.heap.push { cls := .type "dict", data := .dict #[] }) (t' := s.toks) (fun _ _ q => Heap.get?_push_of_some _ q) (Nat.le_refl _) (dk_empty s.heap I.big)
  refine wpAny_Dict_walk (knd := mixKind X.prog X.w) hall hl h0 h15 (thn (h _ σ _ _ I1 (q _ hn)) fun ws s2 ⟨ps, H2, I2, rel, e, kvs, ep, lk, q2⟩ => ?_)
  subst ep
  obtain ⟨rs, c, rk⟩ := carries_of (P := X.prog) (w := X.w) rel
  obtain ⟨z, hd, vs0, r0, dd⟩ := dk_of I2.hok e
  cases r0
  refine ⟨rs, c, dd, fun h' dd' hs => ⟨.ref s.heap.objs.size, _, ?_, rfl, q2⟩⟩
  have hz : (mergeK [] kvs).length ≤ sizeLine := by
    have h1 := length_mergeK kvs []
    rw [List.length_nil] at h1
    rw [sizeLine_eq]; (first | lia | omega)
  have he : ∃ q, h'.get? s.heap.objs.size = some q := let ⟨q, _, _, hq, _⟩ := dd'; ⟨q, hq⟩
  exact d_write I2 (by rw [e]; exact True.intro) hs he (dk_new hz hd (rk.merge .nil) dd')


/-! ### methods -/
/-- a is a dict, whatever its keys -/
noncomputable def IsD (H : Hp) (a : Addr) : Prop := (∃ kvs, Rd H a (.dK kvs)) ∨ ∃ kvs, Rd H a (.dT kvs)
theorem isD_at {X : Cx} {pins : List (Addr × Obj)} {σ : St} {H : Hp} {s : Shared} {a : Addr} (I : Inv X pins σ H s) (d : IsD H a) :
    s.TypeIs (.ref a) "dict" ∧ (∀ b, Value.ref a = .ref b → ∃ ob, s.heap.get? b = some ob ∧ ob.dict = none) ∧ (a == sysModules) = false := by
  rcases d with ⟨kvs, e⟩ | ⟨kvs, e⟩
  · obtain ⟨_, hd, vs, _, dd⟩ := dk_rd I.hok e
    refine ⟨dd.typeIs, fun b q => ?_, hd⟩
    cases q
    obtain ⟨ob, _, _, h1, h2, _⟩ := dd
    exact ⟨ob, h1, h2.2.1⟩
  · obtain ⟨_, hd, xs, _, dd⟩ := dt_rd I.hok e
    refine ⟨dd.typeIs, fun b q => ?_, hd⟩
    cases q
    obtain ⟨ob, _, _, h1, h2, _⟩ := dd
    exact ⟨ob, h1, h2.2.1⟩

section
variable {X : Cx} {pins : List (Addr × Obj)} {σ : St} {H : Hp} {s : Shared} {a : Addr} {y d : V} {u r : Value} {o : Option V} {A : Around} {E : Value → Shared → Prop}
end

section
variable {X : Cx} {o e f : Expr} {apos cpos : Pos} {td ty tx : TE}
end

/-! ### dict(d): a copy -/
section
variable {X : Cx} {pins : List (Addr × Obj)} {σ : St} {H : Hp} {s : Shared} {a : Addr} {kvs : List (Key × V)} {A : Around} {E : Value → Shared → Prop}
end


section
variable {X : Cx} {pins : List (Addr × Obj)} {σ : St} {H : Hp} {s : Shared} {a : Addr} {y : V} {u : Value} {A : Around} {E : Value → Shared → Prop}
end
end L2

namespace HT
open PySem PyProof.Rows

section
open PySem.SeqAt
open PySem.AutoSeq1 (wpAny_loadPart')
open PySem.MeetsSeq PySem.MeetsSeq2 PySem.MeetsSeq3

end

section
variable {prog : Program} {w : World} {A : Around} {E : Value → Shared → Prop} {s : Shared}

/-! ### t[a:b], not the whole -/
/-- a slice's bound as a place among n (d where it is left out) -/
noncomputable def sIx (n d : Nat) : Option Int → Nat
  | none => d
  | some v => if v < 0 then (v + (n : Int)).toNat else min v.toNat n
theorem sIx_none (n d : Nat) : sIx n d none = d := rfl
theorem sIx_nat (n d k : Nat) : sIx n d (some (k : Int)) = min k n := by
  show (if (k : Int) < 0 then ((k : Int) + (n : Int)).toNat else min (k : Int).toNat n) = min k n
  rw [if_neg (by (first | lia | omega)), Int.toNat_natCast]
end
end HT

namespace L2
open PySem PySem.Spec PyProof.Rows

/-! ### the parts of a slice -/
noncomputable abbrev TO := St → Hp → (Option Int → Hp → Prop) → Prop
/-- a slice's part (left out, or an int) -/
noncomputable def PO (X : Cx) (e : Option Expr) (t : TO) : Prop :=
  ∀ ⦃pins : List (Addr × Obj)⦄ (s : Shared) (σ : St) (H : Hp) (Q : Option Int → Hp → Prop), Inv X pins σ H s → t σ H Q →
    wpAny (model X.prog X.w) X.A (evalPart e X.env) (fun u s' => Ex2 fun o H' => Inv X pins σ H' s' ∧ IsPart u o ∧ Q o H') X.xe s
noncomputable def tNoPart : TO := fun _ H Q => Q none H
noncomputable def tPart (t : TE) : TO := fun σ H Q => t σ H fun x H1 => ∃ i, x = .int i ∧ Q (some i) H1

section
variable {X : Cx} {e : Expr} {te : TE} {lo hi : Option Expr} {tl th : TO} {pos p2 : Pos}

theorem po_none : PO X none tNoPart := by
  intro pins s σ H Q I h
  rw [evalPart_none]
  exact wpAny_pure ⟨none, H, I, .none, h⟩
theorem po_some (h : PE X e te) : PO X (some e) (tPart te) := by
  intro pins s σ H Q I hw
  rw [evalPart_some]
  refine thn (h s σ H _ I hw) fun u s1 ⟨x, H1, I1, r1, q1⟩ => ?_
  obtain ⟨i, rfl, q⟩ := q1
  obtain ⟨t, rfl⟩ := r1
  exact ⟨some i, H1, I1, .int i t, q⟩

/-- what a slice of a value is, by values: the slice object stands at sl -/
noncomputable def SlR (X : Cx) (r : V → Option Int → Option Int → Hp → VK → Prop) : Prop :=
  ∀ ⦃pins : List (Addr × Obj)⦄ (s : Shared) (σ : St) (H : Hp) (x : V) (v vl vu : Value) (lo hi : Option Int) (sl : Addr) (Q : VK), Inv X pins σ H s → RelV x v → s.heap.IsSliceOf sl vl vu .none → IsPart vl lo → IsPart vu hi → r x lo hi H Q →
    Ex2 fun T id => typeLookup (.type T) "__getitem__" = pure (some (.builtin id)) ∧ s.TypeIs v T ∧ wpAny (model X.prog X.w) X.A (getItem v (.ref sl)) (EP X pins σ Q) X.xe s
theorem SlR.or {r r' : V → Option Int → Option Int → Hp → VK → Prop} (h : SlR X r) (h' : SlR X r') : SlR X (fun x lo hi H Q => r x lo hi H Q ∨ r' x lo hi H Q) := by
  intro pins s σ H x v vl vu lo hi sl Q I rx hs pl pu q
  rcases q with q | q
  · exact h s σ H x v vl vu lo hi sl Q I rx hs pl pu q
  · exact h' s σ H x v vl vu lo hi sl Q I rx hs pl pu q
noncomputable def tSl (r : V → Option Int → Option Int → Hp → VK → Prop) (te : TE) (tl th : TO) : TE := fun σ H Q => te σ H fun x H1 => tl σ H1 fun l H2 => th σ H2 fun u H3 => r x l u H3 Q
/-- a[lo:hi], any a -/
theorem pe_slice {r : V → Option Int → Option Int → Hp → VK → Prop} (hr : SlR X r) (he : PE X e te) (hl : PO X lo tl) (hu : PO X hi th) : PE X (.Subscript e (.Slice lo hi none p2) pos) (tSl r te tl th) := by
  intro pins s σ H Q I h
  refine Subscript_ (thn (he s σ H _ I h) fun v s1 ⟨x, H1, I1, r1, q1⟩ => ?_)
  refine wpAny_Slice (thn (hl s1 σ H1 _ I1 q1) fun vl s2 ⟨l, H2, I2, pl, q2⟩ => thn (hu s2 σ H2 _ I2 q2) fun vu s3 ⟨u, H3, I3, pu, q3⟩ => ?_)
  rw [evalPart_none]
  refine wpAny_pure ?_
  have I4 : Inv X pins σ H3 { s3 with heap := s3.heap.push { cls := .type "slice", data := .fields #[vl, vu, .none] } } := I3.kept (t' := s3.toks) fun b ob q => Heap.get?_push_of_some _ q
  obtain ⟨T, id, hT, ht, hg⟩ := hr { s3 with heap := s3.heap.push { cls := .type "slice", data := .fields #[vl, vu, .none] } } σ H3 x v vl vu l u s3.heap.objs.size Q I4 r1 (Heap.IsSliceOf.new ..) pl pu q3
  show wpAny (model X.prog X.w) X.A (subscriptTail e (.Slice lo hi none p2) v (.ref s3.heap.objs.size)) (EP X pins σ Q) X.xe { s3 with heap := s3.heap.push { cls := .type "slice", data := .fields #[vl, vu, .none] } }
  exact tail_any (ops := [.ref s3.heap.objs.size, v]) ht hT hg (by with_unfolding_all rfl)

/-- the items of xs[lo:hi] -/
noncomputable def cutV (xs : List V) (lo hi : Option Int) : List V := (xs.drop (HT.sIx xs.length 0 lo)).take (HT.sIx xs.length xs.length hi - HT.sIx xs.length 0 lo)
theorem cutV_length (xs : List V) (lo hi : Option Int) : (cutV xs lo hi).length ≤ xs.length := by
  unfold cutV
  rw [List.length_take, List.length_drop]
  (first | lia | omega)
/-! ### t < u, t + u -/
end
end L2

namespace L2
open PySem PySem.Spec PyProof.Rows

/-! ### places -/
/-- the place that an index of any sign means -/
noncomputable def ixN (n : Nat) (i : Int) : Option Nat := if 0 ≤ i then (if i < n then some i.toNat else none) else if -(n : Int) ≤ i then some (i + n).toNat else none
noncomputable def atI {α : Type} (xs : List α) (i : Int) : Option α := (ixN xs.length i).bind fun j => xs[j]?
theorem ixN_seq {n : Nat} {i : Int} {j : Nat} (h : ixN n i = some j) : seqIndex? i n = some j ∧ j < n ∧ -(n : Int) ≤ i ∧ i < n := by
  unfold ixN at h
  by_cases h0 : 0 ≤ i
  · rw [if_pos h0] at h
    by_cases h1 : i < n
    · rw [if_pos h1] at h
      have e : i.toNat = j := Option.some.inj h
      exact ⟨by rw [seqIndex_of h0 h1, e], by (first | lia | omega), by (first | lia | omega), h1⟩
    · rw [if_neg h1] at h; cases h
  · rw [if_neg h0] at h
    by_cases h1 : -(n : Int) ≤ i
    · rw [if_pos h1] at h
      have e : (i + n).toNat = j := Option.some.inj h
      exact ⟨by rw [seqIndex_neg (by (first | lia | omega)) h1, e], by (first | lia | omega), h1, by (first | lia | omega)⟩
    · rw [if_neg h1] at h; cases h
theorem atI_get {α : Type} {xs : List α} {i : Int} {v : α} (h : atI xs i = some v) : ∃ j, seqIndex? i xs.length = some j ∧ xs[j]? = some v ∧ j < xs.length ∧ -(xs.length : Int) ≤ i ∧ i < xs.length := by
  unfold atI at h
  cases e : ixN xs.length i with
  | none => rw [e] at h; cases h
  | some j =>
    rw [e] at h
    obtain ⟨h1, h2, h3, h4⟩ := ixN_seq e
    exact ⟨j, h1, h, h2, h3, h4⟩
theorem atI_nat {α : Type} {xs : List α} {j : Nat} {v : α} (h : xs[j]? = some v) : atI xs (j : Int) = some v := by
  have hj : j < xs.length := (List.getElem?_eq_some_iff.mp h).1
  have e : ixN xs.length (j : Int) = some j := by
    unfold ixN
    rw [if_pos (by (first | lia | omega)), if_pos (by (first | lia | omega))]; simp
  unfold atI; rw [e]; exact h
theorem atI_last {α : Type} (xs : List α) (v : α) : atI (xs ++ [v]) (-1) = some v := by
  have hl : (xs ++ [v]).length = xs.length + 1 := by simp
  have e : ixN (xs ++ [v]).length (-1) = some xs.length := by
    unfold ixN
    rw [hl, if_neg (by decide), if_pos (by (first | lia | omega))]
    congr 1
    (first | lia | omega)
  unfold atI
  rw [e]
  show (xs ++ [v])[xs.length]? = some v
  simp

/-! ### what may be subscripted -/
/-- what stands as an index of a plain subscript -/
noncomputable def PlainIx (b : Expr) : Prop := ∀ o i, subscripted b false o i = operate [o, i] (getItem o i)
/-- a subscript by values -/
noncomputable def IxR (X : Cx) (r : R2) : Prop :=
  ∀ ⦃value slice : Expr⦄ ⦃pins : List (Addr × Obj)⦄ (s : Shared) (σ : St) (H : Hp) (x y : V) (v u : Value) (Q : VK), Inv X pins σ H s → RelV x v → RelV y u → r x y H Q →
    subscripted slice false v u = operate [v, u] (getItem v u) → wpAny (model X.prog X.w) X.A (subscriptTail value slice v u) (EP X pins σ Q) X.xe s
/-- a call of a builtin's method by values: the receiver, the arguments -/
noncomputable def MtR (X : Cx) (id : String) (r : V → List V → Hp → VK → Prop) : Prop :=
  ∀ ⦃pins : List (Addr × Obj)⦄ (s : Shared) (σ : St) (H : Hp) (x : V) (xs : List V) (v : Value) (us : List Value) (Q : VK), Inv X pins σ H s → RelV x v → Vals xs us → r x xs H Q →
    wpAny (model X.prog X.w) X.A (call (.builtin id) (v :: us)) (EP X pins σ Q) X.xe s
section
variable {X : Cx} {a b : Expr} {ta tb : TE} {pos : Pos}
theorem IxR.or {r r' : R2} (h : IxR X r) (h' : IxR X r') : IxR X (fun x y H Q => r x y H Q ∨ r' x y H Q) := by
  intro value slice pins s σ H x y v u Q I rx ry q hs
  rcases q with q | q
  · exact h s σ H x y v u Q I rx ry q hs
  · exact h' s σ H x y v u Q I rx ry q hs
/-- a[b] -/
theorem pe_ix {r : R2} (hr : IxR X r) (ha : PE X a ta) (hb : PE X b tb) (hs : PlainIx b) : PE X (.Subscript a b pos) (tOp r ta tb) := by
  intro pins s σ H Q I h
  exact Subscript_ (binT ha hb I h fun v u s2 x y H2 I2 rx ry q => hr s2 σ H2 x y v u Q I2 rx ry q (hs _ _))

noncomputable def rIxL (K : PySem.W.Frag) : R2 := fun x y H Q => Ex4 fun p xs i v => x = .ref p ∧ y = .int i ∧ SqL K H p xs ∧ atI xs i = some v ∧ Q v H
noncomputable def rIxT (K : PySem.W.Frag) : R2 := fun x y H Q => Ex4 fun p xs i v => x = .ref p ∧ y = .int i ∧ SqT K H p xs ∧ atI xs i = some v ∧ Q v H
noncomputable def rIxS : R2 := fun x y H Q => Ex3 fun z i c => x = .str z ∧ y = .int i ∧ z.length ≤ sizeLine ∧ atI z.cps.toList i = some c ∧ Q (.str ⟨#[c]⟩) H
theorem ix_list : IxR X (rIxL X.K) := by
  intro value slice pins s σ H x y v u Q I rx ry h hs
  obtain ⟨p, xs, i, z, rfl, rfl, hq, he, q⟩ := h
  cases rx
  obtain ⟨t, rfl⟩ := ry
  obtain ⟨its, r, pl, hz⟩ := I.list hq
  obtain ⟨j, h1, h2, h3, h4, h5⟩ := atI_get he
  obtain ⟨w, ew, rw'⟩ := r.get h2
  have hl := r.length
  have hn := line63
  have fin : EP X pins σ Q w s := ⟨z, H, I, rw', q⟩
  by_cases h0 : 0 ≤ i
  · have hj : i.toNat = j := by
      rw [seqIndex_of h0 h5] at h1
      exact Option.some.inj h1
    exact item_listR pl.isList h0 (by (first | lia | omega)) (by rw [hj]; simpa using ew) fin hs
  · have hj : (i + (its.toArray.size : Int)).toNat = j := by
      rw [seqIndex_neg (by (first | lia | omega)) h4] at h1
      rw [List.size_toArray, ← hl]
      exact Option.some.inj h1
    exact subscriptTail_builtinR (x := w) pl.isList.typeIs slot_list_getitem.lookup
      (wpAny_getItem_list_neg (Q := fun r s' => r = w ∧ EP X pins σ Q r s') pl.isList (by (first | lia | omega)) (by rw [List.size_toArray] <;> (first | lia | omega)) (by (first | lia | omega)) (by rw [hj]; simpa using ew) ⟨rfl, fin⟩) hs
theorem ix_tup : IxR X (rIxT X.K) := by
  intro value slice pins s σ H x y v u Q I rx ry h hs
  obtain ⟨p, xs, i, z, rfl, rfl, hq, he, q⟩ := h
  cases rx
  obtain ⟨t, rfl⟩ := ry
  obtain ⟨its, r, pl, hz⟩ := I.tuple hq
  obtain ⟨j, h1, h2, h3, h4, h5⟩ := atI_get he
  obtain ⟨w, ew, rw'⟩ := r.get h2
  have hl := r.length
  have hn := line63
  have fin : EP X pins σ Q w s := ⟨z, H, I, rw', q⟩
  exact subscriptTail_builtinR (x := w) pl.typeIs slot_tuple_getitem.lookup
    (getItem_tuple (j := j) (Q := fun r s' => r = w ∧ EP X pins σ Q r s') pl (by (first | lia | omega)) (by (first | lia | omega)) (by rw [List.size_toArray, ← hl]; exact h1) (by simpa using ew) ⟨rfl, fin⟩) hs
theorem ix_str : IxR X rIxS := by
  intro value slice pins s σ H x y v u Q I rx ry h hs
  obtain ⟨z, i, c, rfl, rfl, hz, he, q⟩ := h
  obtain ⟨t, rfl⟩ := rx
  obtain ⟨t', rfl⟩ := ry
  obtain ⟨j, h1, h2, h3, h4, h5⟩ := atI_get he
  have hl : z.cps.toList.length = z.length := by simp [Str.length]
  rw [hl] at h1 h4 h5
  have hn := line63
  exact tail_any (typeIs_str s z t) slot_str_getitem.lookup (getItem_str (c := c) (by
    have e1 : decide (i < -(2 ^ 63 : Int)) = false := decide_eq_false (by (first | lia | omega))
    have e2 : decide (i ≥ 2 ^ 63) = false := decide_eq_false (by (first | lia | omega))
    rw [e1, e2, Bool.or_false]) (by rw [h1]; simpa using h2) ⟨.str ⟨#[c]⟩, H, I.tok _, ⟨_, rfl⟩, q⟩) hs
/-- list, tuple or str -/
noncomputable def rIx (K : PySem.W.Frag) : R2 := fun x y H Q => rIxL K x y H Q ∨ rIxT K x y H Q ∨ rIxS x y H Q
theorem ix_seq : IxR X (rIx X.K) := ix_list.or (ix_tup.or ix_str)

/-! ### xs[i] = v, any sign -/
/-- the list's object behind a store -/
theorem mapSeq_set (its : List Value) (n j : Nat) (u : Value) : Obj.mapSeq (·.setIfInBounds j u) { cls := .type "list", data := .seq its.toArray n } = { cls := .type "list", data := .seq (its.set j u).toArray n } := by
  simp [Obj.mapSeq]
theorem Inv.lst {pins : List (Addr × Obj)} {σ : St} {H : Hp} {s : Shared} {p : Addr} {xs : List V} (I : Inv X pins σ H s) (h : H p = some (.lst xs)) :
    ∃ (its : List Value) (n : Nat), Vals xs its ∧ s.heap.get? p = some { cls := .type "list", data := .seq its.toArray n } ∧ xs.length ≤ sizeLine := by
  obtain ⟨z, its, n, r, e⟩ := I.hok p _ h
  exact ⟨its, n, r, e, z⟩
/-- the list at p is written by an update of its object -/
theorem Inv.lstUpd {pins : List (Addr × Obj)} {σ : St} {H : Hp} {s : Shared} {p : Addr} {xs ys : List V} {its its' : List Value} {n n' : Nat} {f : Obj → Obj} (I : Inv X pins σ H s) (h : H p = some (.lst xs))
    (ho : s.heap.get? p = some { cls := .type "list", data := .seq its.toArray n }) (hf : f { cls := .type "list", data := .seq its.toArray n } = { cls := .type "list", data := .seq its'.toArray n' }) (r : Vals ys its') (hz : ys.length ≤ sizeLine) (t : Nat) :
    Inv X pins σ (upd H p (.lst ys)) { s with heap := s.heap.update p f, toks := t } := by
  have e : (s.heap.update p f).get? p = some { cls := .type "list", data := .seq its'.toArray n' } := by
    rw [Heap.get?_update_self f ho (by rw [hf] <;> rfl), hf]
  refine I.write (x := p) (e := p) (by rw [h]; trivial) (.inl rfl) (fun b u hb q => (Heap.get?_update_other _ _ (Ne.symm hb)).trans q) ⟨_, e⟩ ?_
  exact ⟨hz, its', n', r, e⟩
noncomputable def rSetL : V → V → V → Hp → (Hp → Prop) → Prop := fun o i v H Q => Ex4 fun p xs k j => o = .ref p ∧ i = .int k ∧ H p = some (.lst xs) ∧ ixN xs.length k = some j ∧ Q (upd H p (.lst (xs.set j v)))
theorem set_list : PSet X rSetL := by
  intro pins s σ H o i v ov iv u Q I ro ri rv h
  obtain ⟨p, xs, k, j, rfl, rfl, hp, hj, q⟩ := h
  cases ro
  obtain ⟨t, rfl⟩ := ri
  obtain ⟨its, n, r, ho, hz⟩ := I.lst hp
  obtain ⟨h1, h2, h3, h4⟩ := ixN_seq hj
  have hl := r.length
  have hn := line63
  have I' : Inv X pins σ (upd H p (.lst (xs.set j v))) { s with heap := s.heap.update p (Obj.mapSeq (·.setIfInBounds j u)) } :=
    I.lstUpd hp ho (mapSeq_set its n j u) (r.set rv j) (by rw [List.length_set]; exact hz) s.toks
  by_cases h0 : 0 ≤ k
  · have hk : k.toNat = j := by
      rw [seqIndex_of h0 h4] at h1
      exact Option.some.inj h1
    exact PySem.W.ki_setAt ho h0 (by (first | lia | omega)) (by rw [List.size_toArray, ← hl]; exact h4) (by rw [hk]; exact ⟨_, I', q⟩)
  · have hk : (k + (its.toArray.size : Int)).toNat = j := by
      rw [seqIndex_neg (by (first | lia | omega)) h3] at h1
      rw [List.size_toArray, ← hl]
      exact Option.some.inj h1
    exact PySem.W.ki_setBack ho (by (first | lia | omega)) (by rw [List.size_toArray, ← hl]; exact h3) (by (first | lia | omega)) (by rw [hk]; exact ⟨_, I', q⟩)

/-! ### slices -/
theorem slice_bounds (lo hi : Option Int) (n : Nat) : (sliceBounds lo hi none n).1 = ((HT.sIx n 0 lo : Nat) : Int) ∧ (sliceBounds lo hi none n).2.1 = ((HT.sIx n n hi : Nat) : Int) ∧ (sliceBounds lo hi none n).2.2 = 1 := by
  refine ⟨?_, ?_, rfl⟩
  · cases lo with
    | none => simp [sliceBounds, HT.sIx]
    | some i =>
      simp only [sliceBounds, HT.sIx, Option.getD_none, show (1 : Int) > 0 by decide, if_true]
      by_cases h : i < 0
      · simp only [h, if_true] <;> (first | lia | omega)
      · simp only [h, if_false] <;> (first | lia | omega)
  · cases hi with
    | none => simp [sliceBounds, HT.sIx]
    | some i =>
      simp only [sliceBounds, HT.sIx, Option.getD_none, show (1 : Int) > 0 by decide, if_true]
      by_cases h : i < 0
      · simp only [h, if_true] <;> (first | lia | omega)
      · simp only [h, if_false] <;> (first | lia | omega)
theorem slicePick_cut (its : List Value) (lo hi : Option Int) : slicePick its.toArray lo hi none = ((its.drop (HT.sIx its.length 0 lo)).take (HT.sIx its.length its.length hi - HT.sIx its.length 0 lo)).toArray := by
  obtain ⟨h1, h2, h3⟩ := slice_bounds lo hi its.toArray.size
  unfold slicePick
  rw [h1, h2, h3]
  simp only [sliceRange_one, pick_run, List.size_toArray] <;> rfl
/-- xs[lo:hi] of a list: a new list -/
noncomputable def rSlL (K : PySem.W.Frag) : V → Option Int → Option Int → Hp → VK → Prop := fun x lo hi H Q => Ex2 fun a xs => x = .ref a ∧ SqL K H a xs ∧ ∀ p, H p = none → Q (.ref p) (upd H p (.lst (cutV xs lo hi)))
theorem sl_list : SlR X (rSlL X.K) := by
  intro pins s σ H x v vl vu lo hi sl Q I rx hs pl pu h
  obtain ⟨a, xs, rfl, hx, q⟩ := h
  cases rx
  obtain ⟨its, r, ht, hz⟩ := I.list hx
  have hlen := r.length
  refine ⟨"list", _, slot_list_getitem.lookup, ht.isList.typeIs, ?_⟩
  refine wpAny_getItem_list_slice ht.isList hs pl pu .none (by simp) ?_ (by rw [List.size_toArray] <;> (first | lia | omega))
  rw [slicePick_cut, ← hlen]
  refine ⟨.ref s.heap.objs.size, _, I.laid (t' := s.toks) (o := .lst (cutV xs lo hi)) (fun b ob q => Heap.get?_push_of_some _ q) (Nat.le_refl _) ?_, rfl, q _ (I.hok.fresh (Nat.le_refl _))⟩
  exact ⟨Nat.le_trans (cutV_length xs lo hi) hz, _, 0, (r.drop (HT.sIx xs.length 0 lo)).take (HT.sIx xs.length xs.length hi - HT.sIx xs.length 0 lo), Heap.get?_push_size _ rfl⟩

/-! ### in, not in: flat items -/
/-! ### len, list(x), tuple(x) of any list or tuple that is read -/
theorem CallR.or {f : Value} {r r' : List V → Hp → VK → Prop} (h : CallR X f r) (h' : CallR X f r') : CallR X f (fun xs H Q => r xs H Q ∨ r' xs H Q) := by
  intro pins s σ H xs us Q I rs q
  rcases q with q | q
  · exact h s σ H xs us Q I rs q
  · exact h' s σ H xs us Q I rs q
theorem call_list_of : CallR X (.type "list") (fun xs H Q => ∃ p ys, xs = [.ref p] ∧ (SqL X.K H p ys ∨ SqT X.K H p ys) ∧ ∀ l, H l = none → Q (.ref l) (upd H l (.lst ys))) := by
  intro pins s σ H xs us Q I r h
  obtain ⟨p, ys, rfl, hq, q⟩ := h
  obtain ⟨u, rfl, rx⟩ := vals1 r
  cases rx
  have fin : ∀ (its : List Value), Vals ys its → ys.length ≤ sizeLine → ∀ (h' : Heap) (c' : Nat), (∀ b o', s.heap.get? b = some o' → h'.get? b = some o') →
      h'.get? s.heap.objs.size = some { cls := .type "list", dict := none, data := .seq its.toArray c', slots := #[] } → EP X pins σ Q (.ref s.heap.objs.size) { s with heap := h' } := fun its r' hz h' c' kp e =>
    ⟨.ref s.heap.objs.size, _, I.laid (t' := s.toks) kp (Nat.le_refl _) (show ObjOk X.prog X.w _ h' _ (.lst ys) from ⟨hz, its, c', r', e⟩), rfl, q _ (I.hok.fresh (Nat.le_refl _))⟩
  rcases hq with hq | hq
  · obtain ⟨its, r', pl, hz⟩ := I.list hq
    have hlen := r'.length
    obtain ⟨o, ho, hc, n, hd⟩ := pl.isList
    exact call_list_seq p (.inl rfl) ho hc hd (fun h' c' kp e => fin its r' hz h' c' kp e) (by simp only [List.size_toArray] <;> (first | lia | omega))
  · obtain ⟨its, r', pl, hz⟩ := I.tuple hq
    have hlen := r'.length
    obtain ⟨o, ho, hc, n, hd⟩ := pl
    exact call_list_seq p (.inr rfl) ho hc hd (fun h' c' kp e => fin its r' hz h' c' kp e) (by simp only [List.size_toArray] <;> (first | lia | omega))
theorem call_tuple_of : CallR X (.type "tuple") (fun xs H Q => ∃ p ys, xs = [.ref p] ∧ ((SqL X.K H p ys ∧ ∀ l, H l = none → Q (.ref l) (upd H l (.tup ys))) ∨ (SqT X.K H p ys ∧ Q (.ref p) H))) := by
  intro pins s σ H xs us Q I r h
  obtain ⟨p, ys, rfl, h⟩ := h
  obtain ⟨u, rfl, rx⟩ := vals1 r
  cases rx
  rcases h with ⟨hq, q⟩ | ⟨hq, q⟩
  · obtain ⟨its, r', pl, hz⟩ := I.list hq
    have hlen := r'.length
    refine call_tuple_list pl.isList (fun h' kp => ?_) (by simp only [List.size_toArray] <;> (first | lia | omega))
    have I1 : Inv X pins σ H { s with heap := h' } := I.kept (t' := s.toks) kp
    have I2 : Inv X pins σ (upd H h'.objs.size (.tup ys)) { s with heap := h'.push { cls := .type "tuple", data := .seq its.toArray } } :=
      I1.laid (t' := s.toks) (fun b o e => Heap.get?_push_of_some _ e) (Nat.le_refl _) (show ObjOk X.prog X.w _ _ _ (.tup ys) from ⟨hz, its, r', IsTup.new _ _⟩)
    exact ⟨.ref h'.objs.size, _, I2, rfl, q _ (I1.hok.fresh (Nat.le_refl _))⟩
  · obtain ⟨its, r', pl, hz⟩ := I.tuple hq
    exact call_tuple_same pl ⟨.ref p, H, I, rfl, q⟩

/-! ### the call of a builtin's method: o.m(..) -/
/-- the value is of that builtin type -/
noncomputable def tyV (K : PySem.W.Frag) (T : String) (x : V) (H : Hp) : Prop := match x with
  | .str _ => T = "str"
  | .int _ => T = "int"
  | .ref p => (T = "list" ∧ ∃ xs, SqL K H p xs) ∨ (T = "tuple" ∧ ∃ o, K.lookup p = some o ∧ o.cls = .type "tuple" ∧ o.dict = none) ∨
      (T = "dict" ∧ ((∃ kvs, H p = some (.dK kvs)) ∨ ∃ kvs, H p = some (.dT kvs))) ∨ (T = "set" ∧ Ex2 fun S n => H p = some (.set S n))
  | _ => False
theorem tyV_is {pins : List (Addr × Obj)} {σ : St} {H : Hp} {s : Shared} {T : String} {x : V} {v : Value} (I : Inv X pins σ H s) (r : RelV x v) (ty : tyV X.K T x H) :
    s.TypeIs v T ∧ ∀ a, v = .ref a → ∃ ob, s.heap.get? a = some ob ∧ ob.dict = none := by
  cases x with
  | str z =>
    obtain ⟨t, rfl⟩ := r
    cases (show T = "str" from ty)
    exact ⟨typeIs_str s z t, fun _ e => nomatch e⟩
  | int i =>
    obtain ⟨t, rfl⟩ := r
    cases (show T = "int" from ty)
    exact ⟨typeIs_int s i t, fun _ e => nomatch e⟩
  | ref p =>
    cases r
    rcases ty with ⟨rfl, xs, hq⟩ | ⟨rfl, o, hk, hc, hd⟩ | ⟨rfl, hk⟩ | ⟨rfl, S, n, hk⟩
    · obtain ⟨its, _, pl, _⟩ := I.list hq
      refine ⟨pl.isList.typeIs, fun a e => ?_⟩
      cases e
      obtain ⟨o, n, e, c, hd, _⟩ := pl
      exact ⟨o, e, hd⟩
    · refine ⟨⟨o, I.kIn p o hk, hc⟩, fun a e => ?_⟩
      cases e
      exact ⟨o, I.kIn _ o hk, hd⟩
    · have z : ∃ o, s.heap.get? p = some o ∧ o.ExactDict := by
        rcases hk with ⟨kvs, hk⟩ | ⟨kvs, hk⟩
        · obtain ⟨_, _, _, _, o, _, _, e, ex, _⟩ := I.hok p _ hk
          exact ⟨o, e, ex⟩
        · obtain ⟨_, _, _, _, o, _, _, e, ex, _⟩ := I.hok p _ hk
          exact ⟨o, e, ex⟩
      obtain ⟨o, e, ex⟩ := z
      refine ⟨⟨o, e, ex.1⟩, fun a e2 => ?_⟩
      cases e2
      exact ⟨o, e, ex.2.1⟩
    · obtain ⟨o, _, _, _, e, ex, _⟩ := I.hok p _ hk
      refine ⟨⟨o, e, ex.1⟩, fun a e2 => ?_⟩
      cases e2
      exact ⟨o, e, ex.2.1⟩
  | _ => exact False.elim ty
noncomputable def tBM0 (K : PySem.W.Frag) (T : String) (r : V → List V → Hp → VK → Prop) (to : TE) : TE := fun σ H Q => to σ H fun x H1 => tyV K T x H1 ∧ r x [] H1 Q
noncomputable def tBM (K : PySem.W.Frag) (T : String) (r : V → List V → Hp → VK → Prop) (to : TE) (t : TA) : TE := fun σ H Q => to σ H fun x H1 => tyV K T x H1 ∧ t σ H1 fun xs H2 => r x xs H2 Q
variable {o e : Expr} {es : List Expr} {to : TE} {t : TA} {name : Str} {apos cpos : Pos} {T id : String} {r : V → List V → Hp → VK → Prop}
theorem pe_bm0 (pa : PlainAttrs T) (slot : Slot T name id) (hty : typeOf (.builtin id) = pure (.type "method_descriptor")) (hm : MtR X id r) (ho : PE X o to)
    (hbase : attributeBase o name X.env (eval o X.env) = eval o X.env := by rfl) (hline : (apos.endLine == cpos.line) = true := by rfl) : PE X (.Call (.Attribute o name apos) [] [] cpos) (tBM0 X.K T r to) := by
  intro pins s σ H Q I h
  refine wpAny_Call_method0_late hbase hline (thn (ho s σ H _ I h) fun v s1 ⟨x, H1, I1, r1, ty, q1⟩ => ?_)
  obtain ⟨h1, h2⟩ := tyV_is I1 r1 ty
  exact ⟨T, id, pa, slot, hty, h1, h2, Calls.callWith_builtin rfl (PySem.evalArgs_none (hm s1 σ H1 x [] v [] Q I1 r1 .nil q1))⟩
theorem pe_bm (pa : PlainAttrs T) (slot : Slot T name id) (hty : typeOf (.builtin id) = pure (.type "method_descriptor")) (hm : MtR X id r) (ho : PE X o to) (ha : PA X (e :: es) t)
    (hbase : attributeBase o name X.env (eval o X.env) = eval o X.env := by rfl)
    (hfew : ((backTo cpos (starEach (e :: es) X.env)).all (fun x => !x.1) && (backToKw cpos (keywordEach [] X.env)).all (fun x => x.1.isSome)
      && decide ((e :: es).length + ([] : List Keyword).length + (if ([] : List Keyword).isEmpty then 0 else 1) < 30)) = true := by rfl)
    (hline : (apos.endLine == cpos.line) = true := by rfl) (hs : starEach (e :: es) X.env = (false, eval e X.env) :: starEach es X.env := by rfl) (hplain : (backTo cpos (starEach es X.env)).any (·.1) = false := by rfl) :
    PE X (.Call (.Attribute o name apos) (e :: es) [] cpos) (tBM X.K T r to t) := by
  intro pins s σ H Q I h
  refine wpAny_Call_method_late hbase hfew hline rfl (thn (ho s σ H _ I h) fun v s1 ⟨x, H1, I1, r1, ty, q1⟩ => ?_)
  obtain ⟨h1, h2⟩ := tyV_is I1 r1 ty
  refine ⟨T, id, pa, slot, hty, h1, h2, ?_⟩
  have hA := ha (pos := cpos) s1 σ H1 _ I1 q1
  rw [hs] at hA ⊢
  refine Calls.callWith_builtin (by show (false || (backTo cpos (starEach es X.env)).any (·.1)) = false; rw [hplain] <;> rfl) (Calls.evalArgs_plain ?_)
  exact thn hA fun us s2 ⟨vs, H2, I2, r2, q2⟩ => hm s2 σ H2 x vs v us Q I2 r1 r2 q2
/- xs.append(e), list.index on a module's tuple .. are MtR facts of 06m -/
end
end L2

namespace L2
open PySem PySem.Spec PyProof.Rows

noncomputable def MtM (X : Cx) (id : String) (r : V → List V → Hp → VK → Prop) : Prop :=
  ∀ ⦃pins : List (Addr × Obj)⦄ (s : Shared) (σ : St) (H : Hp) (x : V) (xs : List V) (v : Value) (us : List Value) (Q : VK), Inv X pins σ H s → RelV x v → Vals xs us → r x xs H Q →
    wpAny (model X.prog X.w) X.A (call (.builtin id) (v :: us)) (EP X pins σ Q) X.xe s

/-! ### lists of values -/
theorem Vals.hd {x : V} {xs : List V} {us : List Value} (h : Vals (x :: xs) us) : ∃ u r, us = u :: r ∧ RelV x u ∧ Vals xs r := by
  cases h with | cons a b => exact ⟨_, _, rfl, a, b⟩
theorem Vals.one {x : V} {us : List Value} (h : Vals [x] us) : ∃ u, us = [u] ∧ RelV x u := by
  obtain ⟨u, r, rfl, a, h⟩ := h.hd
  cases h
  exact ⟨_, rfl, a⟩
theorem Vals.eraseIdx : ∀ {xs : List V} {us : List Value} (i : Nat), Vals xs us → Vals (xs.eraseIdx i) (us.eraseIdx i)
  | _, _, _, .nil => .nil
  | _, _, 0, .cons _ t => t
  | _, _, i + 1, .cons r t => .cons r (Vals.eraseIdx i t)
theorem Vals.rep {xs : List V} {us : List Value} (h : Vals xs us) : ∀ k : Nat, Vals (List.replicate k xs).flatten (List.replicate k us).flatten
  | 0 => .nil
  | k + 1 => by
    rw [List.replicate_succ, List.replicate_succ, List.flatten_cons, List.flatten_cons]
    exact Vals.append h (Vals.rep h k)
theorem len_erase {α : Type} : ∀ (l : List α) (i : Nat), (l.eraseIdx i).length ≤ l.length
  | [], _ => Nat.le_refl _
  | _ :: _, 0 => Nat.le_succ _
  | _ :: r, i + 1 => Nat.succ_le_succ (len_erase r i)
theorem foldl_rep (its : List Value) : ∀ (k : Nat) (acc : List Value),
    List.foldl (fun x1 x2 => x1 ++ x2) acc.toArray (List.replicate k its.toArray) = (acc ++ (List.replicate k its).flatten).toArray
  | 0, acc => by simp
  | k + 1, acc => by
    have e : acc.toArray ++ its.toArray = (acc ++ its).toArray := by simp
    have e2 : (acc ++ its) ++ (List.replicate k its).flatten = acc ++ (List.replicate (k + 1) its).flatten := by
      rw [List.replicate_succ, List.flatten_cons, List.append_assoc]
    rw [← e2, ← foldl_rep its k (acc ++ its), ← e, List.replicate_succ, List.foldl_cons]

section
variable {X : Cx} {pins : List (Addr × Obj)} {σ : St} {H : Hp} {s : Shared} {l b : Addr} {xs ys zs : List V}

/-! ### the two steps: a tracked list is rewritten, a new list is laid -/
theorem Inv.lset {its its' : List Value} {n : Nat} {f : Array Value → Array Value} {t' : Nat} (I : Inv X pins σ H s) (hH : H l = some (.lst xs))
    (e : s.heap.get? l = some { cls := .type "list", data := .seq its.toArray n }) (hf : f its.toArray = its'.toArray) (hv : Vals ys its') (hz : ys.length ≤ sizeLine) :
    Inv X pins σ (upd H l (.lst ys)) { s with heap := s.heap.update l (Obj.mapSeq f), toks := t' } := by
  have q := PySem.IsL.update e f
  rw [hf] at q
  refine I.write (x := l) (e := l) (by rw [hH]; exact trivial) (.inl rfl) (fun b' u hb hu => (Heap.get?_update_other s.heap (Obj.mapSeq f) (Ne.symm hb)).trans hu) ⟨_, q⟩ ?_
  exact ⟨hz, its', _, hv, q⟩
theorem Inv.lnew {its : List Value} {t' : Nat} (I : Inv X pins σ H s) (hv : Vals ys its) (hz : ys.length ≤ sizeLine) :
    Inv X pins σ (upd H s.heap.objs.size (.lst ys)) { s with heap := s.heap.push { cls := .type "list", data := .seq its.toArray }, toks := t' } :=
  I.laid (fun _ _ q => Heap.get?_push_of_some _ q) (Nat.le_refl _) ⟨hz, its, 0, hv, Heap.get?_push_size _ rfl⟩
theorem Inv.fresh (I : Inv X pins σ H s) : H s.heap.objs.size = none := I.hok.fresh (Nat.le_refl _)
theorem Inv.lstM (I : Inv X pins σ H s) (hH : H l = some (.lst xs)) : xs.length ≤ sizeLine ∧ ∃ (its : List Value) (n : Nat), Vals xs its ∧ xs.length = its.length ∧ s.heap.get? l = some { cls := .type "list", data := .seq its.toArray n } := by
  obtain ⟨z, its, n, r, e⟩ := I.hok l _ hH
  exact ⟨z, its, n, r, r.length, e⟩

theorem notLongL {n : Nat} (h : n ≤ sizeLine) : Builtin.List.listTooLong n = false := by
  unfold Builtin.List.listTooLong
  exact decide_eq_false (by (first | lia | omega))
end

section
variable {X : Cx}

/-! ### methods -/
noncomputable def rAppend : V → List V → Hp → VK → Prop := fun x vs H Q => Ex3 fun l xs y => x = .ref l ∧ vs = [y] ∧ H l = some (.lst xs) ∧ xs.length < sizeLine ∧ Q .non (upd H l (.lst (xs ++ [y])))
theorem mt_append : MtM X "list.append" rAppend := by
  intro pins s σ H x vs v us Q I rx rv h
  obtain ⟨l, xs, y, rfl, rfl, hH, hz, q⟩ := h
  cases rx
  obtain ⟨u, rfl, ru⟩ := rv.one
  obtain ⟨z, its, n, r, hl, e⟩ := I.lstM hH
  refine call_meets F.slot_list_append ⟨_, e, rfl⟩ F.entry_list_append (F.args_list_append_2 _ _) (PySem.list_append l its.toArray n u (by rw [List.size_toArray]; (first | lia | omega))) ⟨e, ?_⟩
  refine ⟨.non, _, I.lset (its' := its ++ [u]) hH e (by simp) (r.append (.cons ru .nil)) ?_, rfl, q⟩
  rw [List.length_append, List.length_singleton]
  (first | lia | omega)

noncomputable def rPopAt : V → List V → Hp → VK → Prop := fun x vs H Q => Ex5 fun l xs i k y => x = .ref l ∧ vs = [.int i] ∧ H l = some (.lst xs) ∧ -(2 ^ 63) ≤ i ∧ i < 2 ^ 63 ∧ seqIndex? i xs.length = some k ∧ xs[k]? = some y ∧ Q y (upd H l (.lst (xs.eraseIdx k)))
theorem mt_popAt : MtM X "list.pop" rPopAt := by
  intro pins s σ H x vs v us Q I rx rv h
  obtain ⟨l, xs, i, k, y, rfl, rfl, hH, h1, h2, hk, hy, q⟩ := h
  cases rx
  obtain ⟨u, rfl, ru⟩ := rv.one
  obtain ⟨t, rfl⟩ := ru
  obtain ⟨z, its, n, r, hl, e⟩ := I.lstM hH
  obtain ⟨w, hw, rw'⟩ := r.get hy
  refine call_meets F.slot_list_pop ⟨_, e, rfl⟩ F.entry_list_pop (F.args_list_pop_2 _ _)
    (MeetsSeq.list_pop_at l its.toArray n i t k w (fitsIndex_both h1 h2) (by rw [List.size_toArray, ← hl]; exact hk) (by rw [← Array.getElem?_toList]; exact hw) (by rw [List.size_toArray]; (first | lia | omega))) ⟨e, ?_⟩
  refine ⟨y, _, I.lset (its' := its.eraseIdx k) hH e ?_ (r.eraseIdx k) ?_, rw', q⟩
  · show its.toArray.eraseIdxIfInBounds k = (its.eraseIdx k).toArray
    rw [List.eraseIdxIfInBounds_toArray]
  · have := len_erase xs k
    (first | lia | omega)

/-! ### list + list, list += list, list * int -/
noncomputable def rCat : R2 := fun x y H Q => Ex4 fun l b xs zs => x = .ref l ∧ y = .ref b ∧ H l = some (.lst xs) ∧ H b = some (.lst zs) ∧ xs.length + zs.length ≤ sizeLine ∧ ∀ p, H p = none → Q (.ref p) (upd H p (.lst (xs ++ zs)))
theorem op_cat : OpR X (binaryOp .Add) rCat := by
  intro pins s σ H x y v u Q I rx ry h
  obtain ⟨l, b, xs, zs, rfl, rfl, hH, hB, hz, q⟩ := h
  cases rx
  cases ry
  obtain ⟨z, its, n, r, hl, e⟩ := I.lstM hH
  obtain ⟨z2, its2, n2, r2, hl2, e2⟩ := I.lstM hB
  refine PySem.P.add_list e e2 ?_ (by rw [List.size_toArray, List.size_toArray]; (first | lia | omega))
  have ea : its.toArray ++ its2.toArray = (its ++ its2).toArray := by simp
  rw [ea]
  exact ⟨.ref _, _, I.lnew (t' := s.toks) (r.append r2) (by rw [List.length_append]; (first | lia | omega)), rfl, q _ I.fresh⟩
/-- a list times an int (a negative one is nothing) -/
noncomputable def rRep : R2 := fun x y H Q => Ex3 fun l k xs => x = .ref l ∧ y = .int k ∧ H l = some (.lst xs) ∧ -(2 ^ 63) ≤ k ∧ k < 2 ^ 63 ∧ xs.length * k.toNat ≤ sizeLine ∧
  ∀ p, H p = none → Q (.ref p) (upd H p (.lst (List.replicate k.toNat xs).flatten))
theorem len_rep {α : Type} (xs : List α) (k : Nat) : (List.replicate k xs).flatten.length = k * xs.length := by
  induction k with
  | zero => simp
  | succ k ih => rw [List.replicate_succ, List.flatten_cons, List.length_append, ih, Nat.succ_mul, Nat.add_comm]
theorem op_rep : OpR X (binaryOp .Mult) rRep := by
  intro pins s σ H x y v u Q I rx ry h
  obtain ⟨l, k, xs, rfl, rfl, hH, h1, h2, hz, q⟩ := h
  cases rx
  obtain ⟨t, rfl⟩ := ry
  obtain ⟨z, its, n, r, hl, e⟩ := I.lstM hH
  have hlen : its.toArray.size * k.toNat ≤ sizeLine := by rw [List.size_toArray, ← hl]; exact hz
  have hcap : ¬ its.toArray.size * k.toNat > (2 ^ 63 - 1) / 8 := by
    have : (sizeLine : Nat) ≤ (2 ^ 63 - 1) / 8 := by decide
    (first | lia | omega)
  have hfit : ¬ (!Builtin.List.listFitsIndex k) = true := by
    rw [fitsIndex_both h1 h2]
    exact Bool.false_ne_true
  have hlong : ¬ Builtin.List.listTooLong (its.toArray.size * k.toNat) = true := by
    rw [notLongL hlen]
    exact Bool.false_ne_true
  have hnew : List.foldl (fun x1 x2 => x1 ++ x2) #[] (List.replicate (if its.toArray.isEmpty = true then 0 else k.toNat) its.toArray) = (List.replicate k.toNat its).flatten.toArray := by
    have f0 : ∀ m : Nat, List.foldl (fun x1 x2 => x1 ++ x2) #[] (List.replicate m its.toArray) = (List.replicate m its).flatten.toArray := fun m => by
      have := foldl_rep its m []
      rw [List.nil_append] at this
      exact this
    rw [f0]
    cases its with
    | nil => simp
    | cons a r' => rw [if_neg (by simp)]
  refine wpAny_binaryOp_repeat_ref (T := "list") (U := "int") (by decide) ⟨_, e, rfl⟩ (fun s' => typeIs_int s' k t) noFill_list_mul F.fills_int_mul F.slot_int_rmul repeat_list F.slot_int_index.lookup
    (call_meets F.slot_int_rmul (typeIs_int s k t) F.entry_int_rmul (F.args_int_rmul_2 _ _) (int___rmul___int_list k t l its.toArray n)
      ⟨e, rfl, ⟨_, e, rfl⟩, call_meets F.slot_list_mul ⟨_, e, rfl⟩ F.entry_list_mul (F.args_list_mul_2 _ _) (AutoListH.list___mul___list_int_3 l its.toArray n k t hfit hcap hlong) ⟨e, ?_⟩⟩)
  rw [hnew]
  exact ⟨.ref _, _, I.lnew (t' := s.toks) (r.rep k.toNat) (by rw [len_rep, Nat.mul_comm]; exact hz), rfl, q _ I.fresh⟩

/-! ### del xs[i] -/
end

/-! ### xs[a:b] = ys -/
section
variable {prog : Program} {w : World} {A : Around} {E : Value → Shared → Prop} {s : Shared}
set_option maxRecDepth 100000 in
end

section
variable {X : Cx}
end
end L2

namespace Att
open PySem PySem.W PySem.Calls PyProof.Rows

/-! ### the script -/
theorem ints_of_wellAll {P : Params} {h : Heap} : ∀ (ns : List Int) (vs : List Value), WellAll P h vs (ns.map WData.int) → IntsAre vs ns := by
  intro ns
  induction ns with
  | nil =>
    intro vs w
    rw [List.map_nil] at w
    cases w
    exact .nil
  | cons n ns ih =>
    intro vs w
    rw [List.map_cons] at w
    cases w with
    | cons a b =>
      cases a
      exact .cons _ _ (ih _ b)

theorem script_of {l : OpenLaw} {n : Nat} (hn : l.most = some n) {P : Params} {h : Heap} {args : List WData} {vals : List Value}
    (hpre : l.row.toRowW.claim.pre args = true) (hwl : WellAll P h vals args) :
    ∃ a vs ns, vals = [Value.ref a] ∧ args = [WData.list (ns.map WData.int)] ∧ h.get? a = some { cls := .type "list", data := .seq vs.toArray } ∧ IntsAre vs ns ∧ ns.length ≤ n := by
  have hsh : WShape.hasAll [] args [.list .int] = true := (pre_splitW hpre).1
  have hc : l.pre.holds [] { args := args } = true := (pre_splitW hpre).2
  obtain ⟨d, r, rfl, h1, h2⟩ := hasAllW_cons hsh
  obtain rfl := hasAllW_nil h2
  obtain ⟨xs, rfl, h3⟩ := hasW_list h1
  obtain ⟨ns, rfl⟩ := items_int h3
  have hlen : ns.length ≤ n := by
    unfold OpenLaw.pre at hc
    have h4 : (WTm.not (.lt (.lit (.int (n : Int))) (.len (.arg 0)))).holds [] { args := [.list (ns.map .int)] } = true := by
      have h4 := (holds_andW hc).1
      rw [hn] at h4
      exact h4
    have h5 := condW_of h4 (w_not (w_lt w_lit (w_len_list (w_arg rfl))))
    rw [List.length_map] at h5
    refine Nat.le_of_not_lt fun q => ?_
    have q' : (n : Int) < ((ns.length : Nat) : Int) := by (first | lia | omega)
    first
      | (rw [decide_eq_true q'] at h5; exact absurd h5 (by decide))
      | (simp at h5; (first | lia | omega))
  cases hwl with
  | cons w1 w2 =>
    cases w2
    cases w1 with
    | list ho hall => exact ⟨_, _, ns, rfl, rfl, ho, ints_of_wellAll ns _ hall, hlen⟩

theorem post_true (l : OpenLaw) (args : List WData) : l.row.toRowW.claim.post args (.bool true) args = true :=
  postW_of (r := l.row.toRowW) (X := (true == true))
    (show WShape.has [] (.bool true) .bool = true by first | rfl | decide | simp [WShape.has, WShape.arms, WShape.armsAll])
    (show (WTm.eq .res (.lit (.bool true))).value [] { args := args, res := some (.bool true), after := args } = some (.bool (true == true)) from w_eq_bool (w_res rfl) w_lit) rfl

/-! ### the attachment: holds_open's last premise (the goal 'hc' behind k_head) from a wpAny of the law's body -/
/-- the same from a codeAny of the CALL (for a layer whose function contracts speak of calls) -/
theorem attach_call {l : OpenLaw} {n : Nat} {q : Program} {loose : List Str} {XP : (Str → Option Value) → Heap → Prop} {YP : World → Heap → Prop} {d : DefRec}
    (hn : l.most = some n) (hdf : d.params.defaults = [])
    (call : ∀ (w : World) (s₀ s₁ : Shared) (mg mb : Str → Option Value) (fa : Addr) (o : Obj) (pm cd doc : Value) (a : Addr) (vs : List Value) (ns : List Int),
      Ground q loose [] XP w s₀ mg mb s₁.heap → YP w s₁.heap →
      s₁.heap.get? fa = some o → o.data = .func (docDef d.name d.params d.body d.scope pm cd doc) → s₁.heap.CodeRec cd d.name → mg d.name = some (.ref fa) →
      s₁.heap.get? a = some { cls := .type "list", data := .seq vs.toArray } → IntsAre vs ns → ns.length ≤ n → s₁.gens = #[] →
      codeAny (model l.prog w) callerA (.call (.ref fa) ⟨[.ref a], []⟩) (fun r s' => r = .ok (.ret (.bool true)) ∧ OldK s₁.heap s'.heap ∧ s'.os = s₁.os ∧ AllBare s'.gens) s₁) :
    WalkO q loose XP YP l.row.toRowW d [] (fun f vs => PySem.call f vs) := by
  intro w s₀ s₁ mg mb G Y fa o pm cd doc dV kV ho hd hcd hD hmg hg args vals as hpre hlay hrd hwl hlo
  obtain rfl : dV = .none := Dflts.none hD hdf
  obtain rfl : kV = .none := Dflts.noKw hD
  obtain ⟨a, vs, ns, rfl, rfl, hobj, hints, hlen⟩ := script_of hn hpre hwl
  refine enter_call (codeAny_mono (call w s₀ s₁ mg mb fa o pm cd doc a vs ns G Y ho (fd_plain hd) hcd hmg hobj hints hlen hg) fun r s' hq => ?_)
  obtain ⟨rfl, h2, h3, h4⟩ := hq
  exact ⟨.inl ⟨.bool true, .bool true, [], rfl, fun _ => rfl, .bool true, post_true l _, fun _ => ⟨List.Pairwise.nil, fun _ hm => (nomatch hm)⟩⟩, h2, h3, h4⟩

/-! ### rules over ANY heap (no ledger) from facts about the written part K: the library's own take a ledger (News) for what they write -/
section
variable {prog : Program} {w : World} {A : Around} {E : Value → Shared → Prop} {s : Shared} {K : Frag}

/-! the whole heap as the ledger: makes every rule that writes through a ledger a rule over any heap -/
end
end Att

namespace L2
open PySem PySem.Spec PyProof.Rows

theorem vals_ints {vs : List Value} {ns : List Int} (h : IntsAre vs ns) : Vals (ns.map V.int) vs := by
  induction h with
  | nil => exact .nil
  | cons n t h ih => exact .cons ⟨t, rfl⟩ ih

/-- nothing is tracked but the script, known to the object (or it is an object of the module) -/
noncomputable def Only (H : Hp) : Prop := ∀ b, H b = none ∨ Ex2 fun o xs => H b = some (.frz o (.lst xs))

/-- THE HEAD: the law's promise, at the heap behind the top. F, the promise of the law's def, may use that base is part of the heap (so K.In base, base.Ns mainGlobals mg stand in Mod) -/
theorem law_call {P : Program} {w : World} {K : PySem.W.Frag} {mg mb : Str → Option Value} {CX : CXT} {k : Nat} {fa a : Addr} {fd : FuncData} {x : Str} {sp : Sp} {s₁ : Shared} {vs : List Value} {ns : List Int}
    (KX : K.In s₁.heap) (hns : s₁.heap.Ns mainGlobals mg) (hb : s₁.heap.Ns builtinsNs mb) (hbb : ∀ x : Str, x ≠ "__name__" → mb x = bootBuiltins x) (hlim : s₁.heap.NoLimit) (hg : s₁.gens = #[])
    (ha : s₁.heap.get? a = some { cls := .type "list", data := .seq vs.toArray }) (hi : IntsAre vs ns) (hl : ns.length ≤ sizeLine) (hr : Room k callerA)
    (F : ∀ base : Heap, K.In base → base.Ns mainGlobals mg → FnOk P w K mg base CX k fa fd [x] sp) (hbind : ∀ (s : Shared) (u : Value), BindsTo s fd ⟨[u], []⟩ [(x, u)])
    (hsp : ∀ H : Hp, Only H → SqL K H a (ns.map V.int) → sp [.ref a] H (fun v _ => v = .bl true) fun _ _ _ => False)
    (hCX : ∀ H e s', CX [] H s₁ (fun _ _ _ => False) e s' → False) :
    codeAny (model P w) callerA (.call (.ref fa) ⟨[.ref a], []⟩) (fun r s' => r = .ok (.ret (.bool true)) ∧ OldK s₁.heap s'.heap ∧ s'.os = s₁.os ∧ AllBare s'.gens) s₁ := by
  have rv := vals_ints hi
  have lenV := hi.length
  -- from an abstract heap in which nothing but the script may be tracked
  have core : ∀ H : Hp, Only H → SqL K H a (ns.map V.int) → HOk P w H s₁.heap → (∀ b, H b ≠ none → b = a) → (H a ≠ none → K.lookup a = none) →
      codeAny (model P w) callerA (.call (.ref fa) ⟨[.ref a], []⟩) (fun r s' => r = .ok (.ret (.bool true)) ∧ OldK s₁.heap s'.heap ∧ s'.os = s₁.os ∧ AllBare s'.gens) s₁ := by
    intro H hO hS hok hA hK
    have base_of : ∀ {b : Addr} {o : Obj}, s₁.heap.get? b = some o → H b = none → (hidT s₁.heap H).get? b = some o := fun e n => hidT_get e n
    have noA : ∀ {b : Addr} {o : Obj} {es : Array DictEntry} {ep : Nat}, s₁.heap.get? b = some o → o.data = .dict es ep → H b = none := fun {b o es ep} e d => by
      cases q : H b with
      | none => rfl
      | some u =>
        have e' : b = a := hA b (by rw [q]; simp)
        subst e'
        rw [ha] at e; cases e
        have d' : Data.seq vs.toArray _ = Data.dict es ep := d
        cases d'
    have nsK : ∀ {b : Addr} {m : Str → Option Value}, s₁.heap.Ns b m → (hidT s₁.heap H).Ns b m := fun {b m} ⟨o, es, ep, e, d, r⟩ => ⟨o, es, ep, base_of e (noA e d), d, r⟩
    have hKb : K.In (hidT s₁.heap H) := fun b o e => base_of (KX b o e) (by
      cases q : H b with
      | none => rfl
      | some u =>
        have e' : b = a := hA b (by rw [q]; simp)
        subst e'
        rw [hK (by rw [q]; simp)] at e; cases e)
    have hM : Mod K mg (hidT s₁.heap H) := ⟨hKb, nsK hns, ⟨mb, nsK hb, hbb⟩, let ⟨mc, h1, h2⟩ := hlim; ⟨mc, nsK h1, h2⟩⟩
    have e0 : Env0 P w K mg (hidT s₁.heap H) callerA [] s₁ H := ⟨rfl, hM, fun b o e => of_hidT e, Nat.le_of_eq (hidT_size _ _), trivial, fun b hb => absurd (show b ∈ ([] : List Addr) from hb) (by simp), hok, .of_eq hg⟩
    refine codeAny_mono ((F _ hKb (nsK hns)).run callerA [] s₁ H ⟨[.ref a], []⟩ [.ref a] [.ref a] _ _ hr e0 (hbind s₁ (.ref a)) (.cons rfl .nil) (hsp H hO hS)) fun r s' h => ?_
    cases r with
    | error e => exact (hCX H e s' h).elim
    | ok fl =>
      cases fl with
      | next => exact False.elim h
      | brk => exact False.elim h
      | cont => exact False.elim h
      | ret u =>
        obtain ⟨v, H', os, bare, un, hok', r', q⟩ := h
        have q' : v = .bl true := q
        subst q'
        obtain rfl : u = Value.bool true := r'
        refine ⟨rfl, OldK.of_keep fun b o e => ?_, os, bare⟩
        cases q : H b with
        | none => exact un.keep b o e q (by intro z; exact absurd (show b ∈ ([] : List Addr) from z) (by simp)) (by simp)
        | some u =>
          rcases hO b with z | ⟨ob, xs, z⟩
          · rw [q] at z; cases z
          · have z2 := un.frzs b ob _ z
            obtain ⟨e1, _⟩ := hok b _ z
            obtain ⟨e2, _⟩ := hok' b _ z2
            rw [e] at e1; cases e1
            exact e2
  cases hk : K.lookup a with
  | some o =>
    -- the script is one of the module's own objects
    have e := KX a o hk
    rw [ha] at e
    cases e
    refine core (fun _ => none) (fun _ => .inl rfl) (.inr ⟨_, vs.toArray, _, hk, rfl, rfl, rfl, by rw [List.size_toArray, lenV]; exact hl, by simpa using rv⟩) (fun b u z => by have z' : (none : Option HO) = some u := z; cases z') (fun b z => absurd rfl z) fun z => absurd rfl z
  | none =>
    refine core (fun b => if b = a then some (.frz { cls := .type "list", data := .seq vs.toArray } (.lst (ns.map V.int))) else none) (fun b => ?_) (.inl (.inr ⟨{ cls := .type "list", data := .seq vs.toArray }, if_pos rfl⟩)) (fun b u z => ?_) (fun b z => ?_) fun _ => hk
    · by_cases hb : b = a
      · exact .inr ⟨_, _, if_pos hb⟩
      · exact .inl (if_neg hb)
    · by_cases hb : b = a
      · have z' := (if_pos hb).symm.trans z
        cases z'
        subst hb
        exact ⟨ha, by rw [List.length_map]; exact hl, vs, _, rv, ha⟩
      · have z' := (if_neg hb).symm.trans z
        cases z'
    · by_cases hb : b = a
      · exact hb
      · exact absurd (if_neg hb) z
end L2

namespace L2
open PySem PySem.Spec PyProof.Rows

/-- the goal that k_head leaves (case hc), from the law's promise. F gives the function object fd (K's own) once, then the promise over every base -/
theorem walk_of {l : PySem.W.OpenLaw} {n k : Nat} {q : Program} {loose : List Str} {XP : (Str → Option Value) → Heap → Prop} {YP : World → Heap → Prop} {d : DefRec} {K : Params → PySem.W.Frag} {CX : World → CXT} {sp : World → Sp} {x : Str}
    (hn : l.most = some n) (hn2 : n ≤ sizeLine) (hdf : d.params.defaults = []) (hr : Room k callerA)
    (hY : ∀ (w : World) (h : Heap), YP w h → (K w.params).In h)
    (F : ∀ (w : World) (mg : Str → Option Value) (fa : Addr) (h : Heap), (K w.params).In h → h.Ns mainGlobals mg → mg d.name = some (.ref fa) →
      ∃ fd : FuncData, (∀ (s : Shared) (u : Value), BindsTo s fd ⟨[u], []⟩ [(x, u)]) ∧
        ∀ base : Heap, (K w.params).In base → base.Ns mainGlobals mg → FnOk l.prog w (K w.params) mg base (CX w) k fa fd [x] (sp w))
    (hsp : ∀ (w : World) (H : Hp) (a : Addr) (ns : List Int), ns.length ≤ n → Only H → SqL (K w.params) H a (ns.map V.int) → sp w [.ref a] H (fun v _ => v = .bl true) fun _ _ _ => False)
    (hCX : ∀ (w : World) (H : Hp) (s : Shared) (e : Value) (s' : Shared), CX w [] H s (fun _ _ _ => False) e s' → False) :
    PySem.W.WalkO q loose XP YP l.row.toRowW d [] (fun f vs => PySem.call f vs) := by
  refine Att.attach_call hn hdf fun w s₀ s₁ mg mb fa o pm cd doc a vs ns G Y ho hd hcd hmg hobj hints hlen hg => ?_
  have KX := hY w _ Y
  obtain ⟨fd, hb, hF⟩ := F w mg fa _ KX G.T.g hmg
  exact law_call KX G.T.g G.T.b G.T.builtins G.T.nolimit hg hobj hints (Nat.le_trans hlen hn2) hr hF hb (fun H hO hS => hsp w H a ns hlen hO hS) fun H e s' => hCX w H s₁ e s'
end L2

/- THE LAST THEOREM (shape; LID, My.* are yours):
   My.Adr: a structure of the addresses that your layer names (classes, functions); My.Txt K t: a structure (Prop) of the equations over K;
   My.txt_mk : {K} {implicit addresses ..} (e1 : nsIn K mainGlobals "law" = some (some (.ref f))) (e2 : K.lookup f = some ⟨oc, od, .func (fnOf "law" "law" params body scope dV kV doc pm an cdv ct), sl⟩) (e3 : codeIn K cdv "law" = true) .. : ∃ t, My.Txt K t

set_option maxRecDepth 100000 in
set_option maxHeartbeats 0 in
theorem PySem.Challenge.cw_LID_holds : PySem.Challenge.rw_LID.Holds := by
  w_on; o_law; k_head; (case hw => w_witness2)
  k_fill
  refine L2.walk_of (l := PySem.Challenge.rw_LID) (n := 63) (k := 40) (x := "script") (CX := fun w => ..) (sp := fun _ => My.sp_law) rfl (by decide) rfl ⟨rfl, by decide, by decide⟩ (fun w h Y => PySem.W.kIn_of Y) ?F ?S ?C
  case F =>
    intro w mg fa h KX G hmg
    have T : ∃ t, My.Txt (L2.KOf KX) t := by
      dsimp only [L2.KOf]                          -- K must stand as «<heap const> w.params» for k_is
      refine' My.txt_mk ?e1 ?e2 ?e3 ..
      (case e1 => PySem.W.k_is)                    -- in the order: a name -> its address -> its object -> its parts
      (case e2 => PySem.W.k_is)
      ..
    obtain ⟨t, T⟩ := T
    have e0 := hmg.symm.trans (PySem.W.mg_of KX G T.law)
    cases e0                                       -- fa is the law's own address
    exact ⟨_, fun s u => .of_eq rfl, fun base kb nb => My.law_fn T kb nb⟩     -- if «.of_eq rfl» comes too early: refine' ⟨_, ?b, fun base kb nb => My.law_fn T kb nb⟩; exact fun s u => .of_eq rfl
  case S => exact fun w H a ns hl hO hS => ..
  case C => exact ..
(the tactic k_is has no namespace: write k_is) -/

/-! SHORT WORDS over the layer: a def of the text, its body, what a loop and a test want. -/
namespace L2
open PySem PySem.Spec PyProof.Rows

/-! ### the text by places -/
/-- the j-th statement of a class's body -/
noncomputable def inClass (s : Stmt) (j : Nat) : Stmt := match s with
  | .ClassDef _ _ _ body _ _ _ _ _ _ _ => body.getD j (.Pass ⟨0, 0, 0, 0⟩)
  | _ => .Pass ⟨0, 0, 0, 0⟩
noncomputable def defArgs (s : Stmt) : Arguments := match s with
  | .FunctionDef _ a _ _ _ _ _ _ _ _ => a
  | _ => { posonlyargs := [], args := [], vararg := none, kwonlyargs := [], kw_defaults := [], kwarg := none, defaults := [] }
noncomputable def defBody (s : Stmt) : List Stmt := match s with
  | .FunctionDef _ _ b _ _ _ _ _ _ _ => b
  | _ => []
noncomputable def defScope (s : Stmt) : Scope := match s with
  | .FunctionDef _ _ _ _ _ _ sc _ _ _ => sc
  | _ => { kind := .function, names := [], isGenerator := false, isCoroutine := false }

/-! ### no exception leaves a def -/
noncomputable abbrev CX0 : CXT := fun _ _ _ _ _ _ => False
noncomputable abbrev E0 : XK := fun _ _ _ => False
theorem pass0 {X : Cx} : Passes CX0 X E0 := fun _ _ _ _ _ _ _ h => h.elim

/-! ### a def (or method) of the text as it stands behind the top -/
structure Fun (K : PySem.W.Frag) (x qual : Str) (st : Stmt) (f : Addr) (fd : FuncData) : Prop where
  ex : ∃ (oc : Value) (od : Option Addr) (kV doc pm : Value) (an : Option Addr) (cdv ct : Value) (osl : Array (Option Value)),
    fd = PySem.W.fnOf x qual (defArgs st) (defBody st) (defScope st) .none kV doc pm an cdv ct ∧ K.lookup f = some ⟨oc, od, .func fd, osl⟩ ∧ PySem.W.codeIn K cdv qual = true
  kp : PySem.W.keepIn K (.ref f) = true
section
variable {P : Program} {w : World} {K : PySem.W.Frag} {mg : Str → Option Value} {base : Heap}
/-- THE RULE for a def: its body as a term of rules, and the reading of that term -/
theorem Fun.ok {x qual : Str} {st : Stmt} {f : Addr} {fd : FuncData} {N ps : List Str} {k : Nat} {sp : Sp} (F : Fun K x qual st f fd) (S : FnScope N ps (defScope st)) (len : ∀ vs H Q E, sp vs H Q E → vs.length = ps.length)
    (hbody : ∀ (cdv : Value) (A : Around) (outer : List Env) (s : Shared) (H : Hp) (vs : List V) (Q : VK) (E : XK), Room k (A.deeper (envOfC qual (defScope st) s.heap.objs.size f cdv)) → sp vs H Q E →
      ∃ t, PSs (cxOf CX0 P w K mg base N qual (defScope st) f cdv A outer s H E).nox (defBody st) t ∧ t { nx := fun _ H' => Q .non H', rt := Q } (start N vs) H) : FnOk P w K mg base CX0 (k + 1) f fd ps sp := by
  obtain ⟨oc, od, kV, doc, pm, an, cdv, ct, osl, rfl, lk, hcd⟩ := F.ex
  refine fn_of lk hcd S len fun A outer s H vs Q E hr hsp => ?_
  obtain ⟨t, h, q⟩ := hbody cdv A outer s H vs Q E hr hsp
  exact ⟨t, h.nox, q⟩
/-- how its arguments bind (no defaults): h is «fun _ _ _ _ _ _ us hl => match us, hl with | [_, _], _ => rfl», one _ a parameter -/
theorem Fun.binds {x qual : Str} {st : Stmt} {f : Addr} {fd : FuncData} {ps : List Str} (F : Fun K x qual st f fd)
    (h : ∀ (kV doc pm : Value) (an : Option Addr) (cdv ct : Value) (us : List Value), us.length = ps.length → bindArgs (PySem.W.fnOf x qual (defArgs st) (defBody st) (defScope st) .none kV doc pm an cdv ct) ⟨us, []⟩ = pure (ps.zip us)) : Binds K fd ps [] := by
  obtain ⟨oc, od, kV, doc, pm, an, cdv, ct, osl, rfl, lk, hcd⟩ := F.ex
  exact .all (h kV doc pm an cdv ct)
theorem fun_mk {x qual : Str} {st : Stmt} {f : Addr} {oc : Value} {od an : Option Addr} {osl : Array (Option Value)} {kV doc pm cdv ct : Value} (l : K.lookup f = some ⟨oc, od, .func (PySem.W.fnOf x qual (defArgs st) (defBody st) (defScope st) .none kV doc pm an cdv ct), osl⟩)
    (c : PySem.W.codeIn K cdv qual = true) (k : PySem.W.keepIn K (.ref f) = true) : Fun K x qual st f (PySem.W.fnOf x qual (defArgs st) (defBody st) (defScope st) .none kV doc pm an cdv ct) := ⟨⟨oc, od, kV, doc, pm, an, cdv, ct, osl, rfl, l, c⟩, k⟩
end
theorem hu_of {A : Around} {k : Nat} (hr : Room k A) : A.units + 1 < cLine := Nat.lt_of_le_of_lt (Nat.add_le_add_left (by decide : 1 ≤ 64) _) hr.units
/-! ### expressions in short: the name that stands in the i-th slot -/
section
variable {X : Cx}
theorem pv (i : Nat) {x : Str} {pos : Pos} (hN : X.N[i]? = some x := by rfl) (hv : Vis X.env.scope x := by first | exact Or.inl rfl | exact Or.inr (Or.inl rfl) | exact Or.inr (Or.inr rfl)) (hd : (x == ("__debug__" : Str)) = false := by decide)
    (hcd : (x == ("__classdict__" : Str)) = false := by decide) : PE X (.Name x pos) (tVar i) := pe_var hN hv hd hcd
end

/-! ### tests -/
theorem iteF {A B : Prop} (h : B) : if false = true then A else B := by
  rw [if_neg Bool.false_ne_true]
  exact h
theorem iteT {A B : Prop} (h : A) : if true = true then A else B := by
  rw [if_pos rfl]
  exact h
theorem ite2 {c A B : Prop} [Decidable c] (h1 : c → A) (h2 : ¬ c → B) : if c then A else B := by
  by_cases h : c
  · rw [if_pos h]
    exact h1 h
  · rw [if_neg h]
    exact h2 h
/-! ### heaps -/
/-- all that was tracked is as it was -/
noncomputable def Same (H H' : Hp) : Prop := ∀ b o, H b = some o → H' b = some o
theorem Same.refl (H : Hp) : Same H H := fun _ _ h => h
theorem Same.trans {H H1 H2 : Hp} (a : Same H H1) (b : Same H1 H2) : Same H H2 := fun c o h => b c o (a c o h)
theorem Same.free {H H' : Hp} (e : Same H H') {l : Addr} (h : H' l = Option.none) : H l = Option.none := by
  cases q : H l with
  | none => rfl
  | some o =>
    rw [e l o q] at h
    cases h
theorem Same.seq {K : PySem.W.Frag} {H H' : Hp} {a : Addr} {xs : List V} (e : Same H H') (h : SqL K H a xs) : SqL K H' a xs := by
  rcases h with (h | ⟨o, h⟩) | h
  · exact .inl (.inl (e _ _ h))
  · exact .inl (.inr ⟨o, e _ _ h⟩)
  · exact .inr h

end L2


namespace L2
open PySem PySem.Spec PyProof.Rows
section
variable {X : Cx}
end
end L2

namespace L2
open PySem PySem.Spec PyProof.Rows

/-! ### a dict's pairs: keys that differ -/
section
variable {κ : Type} [DecidableEq κ]
end
end L2

set_option Elab.async false
set_option linter.all false
set_option maxRecDepth 100000
set_option maxHeartbeats 4000000
/-! comprehensions over the hand layer -/
namespace L2
/-- what is known, taken apart with the goal said once -/
class Elim (P : Prop) (F : outParam (Prop → Prop)) : Prop where
  el : P → ∀ G : Prop, F G → G
noncomputable instance (priority := low) elimBase {P : Prop} : Elim P (fun G => P → G) := ⟨fun h _ k => k h⟩
noncomputable instance elimEx {α : Sort u} {P : α → Prop} {F : α → Prop → Prop} [h : ∀ x, Elim (P x) (F x)] : Elim (∃ x, P x) (fun G => ∀ x, F x G) := ⟨fun ⟨x, hx⟩ G k => (h x).el hx G (k x)⟩
noncomputable instance elimAnd {A B : Prop} {F : Prop → Prop} [h : Elim B F] : Elim (A ∧ B) (fun G => A → F G) := ⟨fun ⟨a, b⟩ G k => h.el b G (k a)⟩
noncomputable instance elimEx2 {α0 α1 : Type} {P : α0 → α1 → Prop} {F : α0 → α1 → Prop → Prop} [i : ∀ x0 x1, Elim (P x0 x1) (F x0 x1)] : Elim (Ex2 P) (fun G => ∀ x0 x1, F x0 x1 G) := ⟨fun ⟨x0, x1, h⟩ G k => (i x0 x1).el h G (k x0 x1)⟩
noncomputable instance elimEx3 {α0 α1 α2 : Type} {P : α0 → α1 → α2 → Prop} {F : α0 → α1 → α2 → Prop → Prop} [i : ∀ x0 x1 x2, Elim (P x0 x1 x2) (F x0 x1 x2)] : Elim (Ex3 P) (fun G => ∀ x0 x1 x2, F x0 x1 x2 G) := ⟨fun ⟨x0, x1, x2, h⟩ G k => (i x0 x1 x2).el h G (k x0 x1 x2)⟩
noncomputable instance elimEx4 {α0 α1 α2 α3 : Type} {P : α0 → α1 → α2 → α3 → Prop} {F : α0 → α1 → α2 → α3 → Prop → Prop} [i : ∀ x0 x1 x2 x3, Elim (P x0 x1 x2 x3) (F x0 x1 x2 x3)] : Elim (Ex4 P) (fun G => ∀ x0 x1 x2 x3, F x0 x1 x2 x3 G) := ⟨fun ⟨x0, x1, x2, x3, h⟩ G k => (i x0 x1 x2 x3).el h G (k x0 x1 x2 x3)⟩
noncomputable instance elimEx5 {α0 α1 α2 α3 α4 : Type} {P : α0 → α1 → α2 → α3 → α4 → Prop} {F : α0 → α1 → α2 → α3 → α4 → Prop → Prop} [i : ∀ x0 x1 x2 x3 x4, Elim (P x0 x1 x2 x3 x4) (F x0 x1 x2 x3 x4)] : Elim (Ex5 P) (fun G => ∀ x0 x1 x2 x3 x4, F x0 x1 x2 x3 x4 G) := ⟨fun ⟨x0, x1, x2, x3, x4, h⟩ G k => (i x0 x1 x2 x3 x4).el h G (k x0 x1 x2 x3 x4)⟩
noncomputable instance elimEx6 {α0 α1 α2 α3 α4 α5 : Type} {P : α0 → α1 → α2 → α3 → α4 → α5 → Prop} {F : α0 → α1 → α2 → α3 → α4 → α5 → Prop → Prop} [i : ∀ x0 x1 x2 x3 x4 x5, Elim (P x0 x1 x2 x3 x4 x5) (F x0 x1 x2 x3 x4 x5)] : Elim (Ex6 P) (fun G => ∀ x0 x1 x2 x3 x4 x5, F x0 x1 x2 x3 x4 x5 G) := ⟨fun ⟨x0, x1, x2, x3, x4, x5, h⟩ G k => (i x0 x1 x2 x3 x4 x5).el h G (k x0 x1 x2 x3 x4 x5)⟩
end L2
namespace L2
open PySem PySem.Spec PyProof.Rows

noncomputable abbrev noE : Value → Shared → Prop := fun _ _ => False
theorem noE_to {α : Type} {M : Model} {A : Around} {t : Sem α} {Q : α → Shared → Prop} {E : Value → Shared → Prop} {s : Shared} (h : wpAny M A t Q noE s) : wpAny M A t Q E s :=
  wpAny_mono h (fun _ _ q => q) fun _ _ z => z.elim

theorem addr_ne {a b : Addr} {n : Nat} (h : a < n) (h' : n ≤ b) : a ≠ b := fun e => absurd (Nat.lt_of_lt_of_le h h') (by rw [e]; exact Nat.lt_irrefl _)
theorem addr_ne' {a b : Addr} {n : Nat} (h : a < n) (h' : n ≤ b) : b ≠ a := fun e => addr_ne h h' e.symm

theorem closure_go (env : Env) : ∀ (names : List (Str × NameKind)) (acc : List (Str × Addr)),
    (∀ y ∈ names, y.2 = .free → ∃ c, env.cells.lookup y.1 = some c) → (∀ n c, acc.lookup n = some c → env.cells.lookup n = some c) →
    ∃ cl, (forIn names acc fun (x : Str × NameKind) (cs : List (Str × Addr)) => (if (x.2 == NameKind.free) = true then do
        let a ← cellOf env x.1
        pure (ForInStep.yield ((x.1, a) :: cs)) else pure (ForInStep.yield cs) : Sem (ForInStep (List (Str × Addr))))) = pure cl ∧
      (∀ n c, cl.lookup n = some c → env.cells.lookup n = some c) ∧ (∀ n c, acc.lookup n = some c → ∃ c', cl.lookup n = some c') ∧ ∀ y ∈ names, y.2 = .free → ∃ c, cl.lookup y.1 = some c
  | [], acc, _, h2 => ⟨acc, rfl, h2, fun _ c h => ⟨c, h⟩, fun _ h => nomatch h⟩
  | (n, k) :: r, acc, h1, h2 => by
    have hr : ∀ y ∈ r, y.2 = .free → ∃ c, env.cells.lookup y.1 = some c := fun y hy => h1 y (List.mem_cons_of_mem _ hy)
    by_cases hk : k = .free
    · subst hk
      obtain ⟨c, hc⟩ := h1 (n, .free) List.mem_cons_self rfl
      obtain ⟨cl, e, p1, p2, p3⟩ := closure_go env r ((n, c) :: acc) hr (fun m d hm => by
        rw [List.lookup_cons] at hm
        by_cases q : m == n
        · rw [q] at hm
          have : m = n := by simpa using q
          subst this
          cases hm
          exact hc
        · have q' : (m == n) = false := by simpa using q
          rw [q'] at hm
          exact h2 m d hm)
      refine ⟨cl, ?_, p1, fun m d hm => ?_, fun y hy hf => ?_⟩
      · rw [List.forIn_cons]
        rw [← e]
        show (cellOf env n >>= fun a => _) >>= _ = _
        unfold cellOf
        rw [hc]
        rfl
      · by_cases q : m = n
        · subst q
          exact p2 m c (by rw [List.lookup_cons]; simp)
        · exact p2 m d (by rw [List.lookup_cons]; simp only [beq_eq_false_iff_ne.mpr q]; exact hm)
      · rcases List.mem_cons.mp hy with rfl | hy
        · exact p2 n c (by rw [List.lookup_cons]; simp)
        · exact p3 y hy hf
    · obtain ⟨cl, e, p1, p2, p3⟩ := closure_go env r acc hr h2
      refine ⟨cl, ?_, p1, p2, fun y hy hf => ?_⟩
      · rw [List.forIn_cons, ← e]
        have hb : (k == NameKind.free) = false := by simpa using hk
        simp only [hb, Bool.false_eq_true, if_false]
        rfl
      · rcases List.mem_cons.mp hy with rfl | hy
        · exact absurd hf hk
        · exact p3 y hy hf
theorem closure_of {scope : Scope} {env : Env} (h : ∀ y ∈ scope.names, y.2 = .free → ∃ c, env.cells.lookup y.1 = some c) :
    ∃ cl, closureFor scope env = pure cl ∧ (∀ n c, cl.lookup n = some c → env.cells.lookup n = some c) ∧ ∀ y ∈ scope.names, y.2 = .free → ∃ c, cl.lookup y.1 = some c := by
  obtain ⟨cl, e, p1, _, p3⟩ := closure_go env scope.names [] h (fun n c h => by simp at h)
  refine ⟨cl, ?_, p1, p3⟩
  unfold closureFor
  refine Eq.trans ?_ (congrArg (fun m => m >>= fun (cs : List (Str × Addr)) => (pure cs : Sem _)) e)
  rfl

noncomputable def testsOf (ifs : List Expr) (env : Env) : Sem Bool := forIn ifs true fun c r => if r = true then do let ok ← isTrue c env (eval c env); pure (ForInStep.yield ok) else pure (ForInStep.yield r)

section
variable {prog : Program} {w : World} {A : Around} {R : Result → Shared → Prop} {s : Shared}
theorem comp_turns {elt target iter : Expr} {ifs : List Expr} {scope : Scope} {pos : Pos} {it acc : Value} {env : Env} (I : Nat → Shared → Prop)
    (turn : ∀ n s, I n s → wpAny (model prog w) A (pyNext it) (fun r s1 => match r with
      | none => R (.ok .next) s1
      | some v => wpAny (model prog w) A (letOwnedTupleGo target it v) (fun _ s1' => wpAny (model prog w) A (assign target env v) (fun _ s2 =>
          wpAny (model prog w) A (testsOf ifs env) (fun ok s3 =>
            if ok = true then wpAny (model prog w) A (eval elt env) (fun x s4 =>
              wpAny (model prog w) A (call (.builtin "list.append") [acc, x]) (fun _ s5 => ∃ m, m < n ∧ I m s5) noE s4) noE s3
            else ∃ m, m < n ∧ I m s3) noE s2) noE s1') noE s1) noE s)
    (n : Nat) (h : I n s) : codeAny (model prog w) A (.compLoop (.ListComp elt [⟨target, iter, ifs, 0⟩] scope pos) 0 it acc env) R s := by
  refine codeAny_loop rfl I (fun n s hI => (show wpAny _ A (Sem.onRaise (compTurn (.ListComp elt [⟨target, iter, ifs, 0⟩] scope pos) 0 it acc env) (fun x => do noteFrame x env; theTreesLotGoes x)) _ _ s from wpAny_noted ?_)) n h
  rw [compTurn_list]
  refine wpAny_bind (wpAny_standAt (wpAny_bind (noE_to (thn (turn n s hI) fun r s1 h1 => ?_))))
  cases r with
  | none => exact wpAny_pure h1
  | some v =>
    refine wpAny_bind (noE_to (thn h1 fun _ s1' h1' => ?_))
    refine wpAny_bind (noE_to (thn h1' fun _ s2 h2 => wpAny_bind (noE_to (thn h2 fun ok s3 h3 => ?_))))
    cases ok with
    | false => exact wpAny_pure ⟨rfl, h3⟩
    | true => exact wpAny_bind (wpAny_bind (noE_to (thn h3 fun x s4 h4 => wpAny_bind (noE_to (thn h4 fun _ s5 h5 => wpAny_pure (wpAny_pure ⟨rfl, h5⟩))))))
end

theorem HOk.adopt {P : Program} {w : World} {H : Hp} {h : Heap} {a : Addr} {o : HO} (x : HOk P w H h) (hn : H a = none) (new : ObjOk P w (upd H a o) h a o) : HOk P w (upd H a o) h := fun b u e => by
  by_cases hb : b = a
  · subst hb; rw [upd_same] at e; cases e; exact new
  · rw [upd_ne hb] at e
    exact (x b u e).stay (fun c v _ q => q) (fun c q => by rw [upd_ne (ne_of_none q hn)]; exact q) fun c xs q => by rw [upd_ne (ne_of_none q hn)]; exact q

/-- what a comprehension's block stands in: Nc its own names, Fc the captured ones, js their places among the names around -/
structure CompOk (X : Cx) (scope : Scope) (Nc Fc : List Str) (js : List Nat) : Prop where
  kind : scope.kind = .function
  nocell : ∀ y ∈ scope.names, y.2 ≠ .cell
  names : ∀ y ∈ scope.names, y.2 = .local → scope.names.lookup y.1 = some .local
  free : ∀ y ∈ scope.names, y.2 = .free → X.env.kindOf y.1 = some .cell ∨ X.env.kindOf y.1 = some .free
  frees : ∀ (k : Nat) (x : Str), Fc[k]? = some x → scope.names.lookup x = some .free ∧ ∃ j, js[k]? = some j ∧ X.N[j]? = some x
  lens : js.length = Fc.length

noncomputable def cvals (σ : St) (js : List Nat) : St := js.map fun j => (σ[j]?).join

noncomputable def cxC (X : Cx) (Nc Fc : List Str) (scope : Scope) (cl : List (Str × Addr)) (C : Addr) (s : Shared) (H : Hp) (fp : List Addr) : Cx :=
  { X with N := Nc ++ Fc, s₀ := s, H₀ := H, env := compEnvC scope cl C X.env, outer := X.stack, stack := X.stack, ex := fp, fn := fun _ => false, pn := [], xe := noE }

theorem relabel_free {env : Env} : ∀ {names : List (Str × NameKind)} {x : Str} {k : NameKind}, (names.map fun (n, k) => if (k == NameKind.free && env.scope.kind == .function && env.kindOf n == some .cell) then (n, NameKind.cell) else (n, k)).lookup x = some k →
    names.lookup x = some k ∨ (k = .cell ∧ names.lookup x = some .free)
  | [], _, _, h => by simp at h
  | (n, k0) :: r, x, k, h => by
    have ih := @relabel_free env r x k
    rw [List.map_cons] at h
    dsimp only at h
    by_cases hx : x = n
    · subst hx
      by_cases hc : (k0 == NameKind.free && env.scope.kind == .function && env.kindOf x == some .cell) = true
      · rw [if_pos hc] at h
        simp only [List.lookup_cons, beq_self_eq_true] at h
        have hk : k0 = .free := by
          have := (Bool.and_eq_true _ _).mp ((Bool.and_eq_true _ _).mp hc).1
          simpa using this.1
        subst hk
        cases h
        exact .inr ⟨rfl, by simp only [List.lookup_cons, beq_self_eq_true]⟩
      · rw [if_neg hc] at h
        simp only [List.lookup_cons, beq_self_eq_true] at h ⊢
        exact .inl h
    · have hb : (x == n) = false := beq_eq_false_iff_ne.mpr hx
      have e : List.lookup x ((if (k0 == NameKind.free && env.scope.kind == .function && env.kindOf n == some .cell) = true then (n, NameKind.cell) else (n, k0)) :: (r.map fun (n, k) => if (k == NameKind.free && env.scope.kind == .function && env.kindOf n == some .cell) then (n, NameKind.cell) else (n, k))) = some k := h
      have e2 : List.lookup x (r.map fun (n, k) => if (k == NameKind.free && env.scope.kind == .function && env.kindOf n == some .cell) then (n, NameKind.cell) else (n, k)) = some k := by
        by_cases hc : (k0 == NameKind.free && env.scope.kind == .function && env.kindOf n == some .cell) = true
        · rw [if_pos hc] at e; simp only [List.lookup_cons, hb] at e; exact e
        · rw [if_neg hc] at e; simp only [List.lookup_cons, hb] at e; exact e
      simp only [List.lookup_cons, hb]
      exact ih e2
theorem relabel_of_free {env : Env} : ∀ {names : List (Str × NameKind)} {x : Str}, names.lookup x = some .free →
    (names.map fun (n, k) => if (k == NameKind.free && env.scope.kind == .function && env.kindOf n == some .cell) then (n, NameKind.cell) else (n, k)).lookup x = some .cell ∨
    (names.map fun (n, k) => if (k == NameKind.free && env.scope.kind == .function && env.kindOf n == some .cell) then (n, NameKind.cell) else (n, k)).lookup x = some .free
  | [], _, h => by simp at h
  | (n, k0) :: r, x, h => by
    have ih := @relabel_of_free env r x
    rw [List.map_cons]
    dsimp only
    by_cases hx : x = n
    · subst hx
      simp only [List.lookup_cons, beq_self_eq_true] at h
      cases h
      by_cases hc : (NameKind.free == NameKind.free && env.scope.kind == .function && env.kindOf x == some .cell) = true
      · rw [if_pos hc]; left; simp only [List.lookup_cons, beq_self_eq_true]
      · rw [if_neg hc]; right; simp only [List.lookup_cons, beq_self_eq_true]
    · have hb : (x == n) = false := beq_eq_false_iff_ne.mpr hx
      simp only [List.lookup_cons, hb] at h
      by_cases hc : (k0 == NameKind.free && env.scope.kind == .function && env.kindOf n == some .cell) = true
      · rw [if_pos hc]; simp only [List.lookup_cons, hb]; exact ih h
      · rw [if_neg hc]; simp only [List.lookup_cons, hb]; exact ih h
theorem mem_of_lookup' : ∀ {l : List (Str × NameKind)} {x : Str} {k : NameKind}, l.lookup x = some k → (x, k) ∈ l := fun h => PySem.mem_of_lookup h

section
variable {X : Cx} {pins : List (Addr × Obj)} {σ : St} {H : Hp} {s : Shared} {scope : Scope} {Nc Fc : List Str} {js : List Nat} {cl : List (Str × Addr)} {C D : Addr} {fp : List Addr}

theorem cxC_kind {x : Str} : (cxC X Nc Fc scope cl C s H fp).env.kindOf x = (scope.names.map fun (n, k) => if (k == NameKind.free && X.env.scope.kind == .function && X.env.kindOf n == some .cell) then (n, NameKind.cell) else (n, k)).lookup x := rfl

theorem cxC_ok (I : Inv X pins σ H s) (c : CompOk X scope Nc Fc js) (hsub : ∀ n c, cl.lookup n = some c → X.env.cells.lookup n = some c) (hhas : ∀ y ∈ scope.names, y.2 = .free → ∃ c, cl.lookup y.1 = some c)
    (hC : s.heap.objs.size ≤ C) (hf : ∀ b ∈ fp, FpOk X pins H b) (ho : ∀ b ∈ fp, ∃ o, s.heap.get? b = some o) : (cxC X Nc Fc scope cl C s H fp).Ok where
  mod := I.ok.mod
  kind := c.kind
  glob := I.ok.glob
  blt := I.ok.blt
  above := hC
  inj := fun x y a h1 h2 => I.ok.inj x y a (hsub _ _ h1) (hsub _ _ h2)
  has := fun x hx => by
    have key : scope.names.lookup x = some .free := by
      rw [cxC_kind] at hx
      rcases hx with h | h
      · rcases relabel_free h with q | ⟨_, q⟩
        · exact absurd rfl (c.nocell _ (mem_of_lookup' q))
        · exact q
      · rcases relabel_free h with q | ⟨q, _⟩
        · exact q
        · cases q
    exact hhas _ (mem_of_lookup' key) rfl
  cab := fun _ _ h => nomatch h
  hd := I.ok.hd
  frames := I.ok.frames
  stk := .inl rfl
  exf := fun b hb => ⟨fun z => by
      obtain ⟨o, e⟩ := ho b hb
      exact addr_ne (Heap.lt_size e) hC z, fun x a e z => (hf b hb).2.2.2.2.1 x a (hsub _ _ e) z⟩
  bs := fun b o e => I.bs b o e
  bsz := Nat.le_trans I.ok.bsz I.sz
  noex := fun b o e hb => by
    rcases (hf b hb).2.2.2.1 with z | z
    · exact I.ok.noex b o e z
    · exact absurd (Nat.lt_of_lt_of_le (Heap.lt_size (I.ok.bs b o e).1) z) (Nat.lt_irrefl _)
  exfs := fun b hb z => by
    rcases List.mem_cons.mp (I.stkSub b z) with q | q
    · exact (hf b hb).2.1 q
    · exact (hf b hb).2.2.1 q
  funs := I.stack
  frf := I.stkFree

/-- the state at the block's entry -/
theorem cxC_inv (I : Inv X pins σ H s) (c : CompOk X scope Nc Fc js) (hsub : ∀ n c, cl.lookup n = some c → X.env.cells.lookup n = some c) (hhas : ∀ y ∈ scope.names, y.2 = .free → ∃ c, cl.lookup y.1 = some c)
    (hC : s.heap.objs.size ≤ C) (hD : s.heap.objs.size ≤ D) (hDC : D ≠ C) (hf : ∀ b ∈ fp, FpOk X pins H b) (ho : ∀ b ∈ fp, ∃ o, s.heap.get? b = some o) {h1 : Heap} {t1 : Nat} {m : Str → Option Value} {ob : Obj}
    (hk : ∀ b o, s.heap.get? b = some o → h1.get? b = some o) (hm : h1.Ns C m) (hob : h1.get? D = some ob) (hnc : ∀ v, ob.data ≠ .cell v) :
    Inv (cxC X Nc Fc scope cl C s H fp) [(D, ob)] (List.replicate Nc.length none ++ cvals σ js) H { s with heap := h1, toks := t1 } := by
  refine ⟨cxC_ok I c hsub hhas hC hf ho, rfl, I.bare, Un.kept hk, ⟨m, hm, fun i x v e1 e2 e3 => ?_⟩, fun x a e => ?_, I.hok.fresh hC, fun x a e => I.freeC x a (hsub x a e), fun p hp => ?_, I.hok.kept hk, ?_⟩
  · have e1 : (Nc ++ Fc)[i]? = some x := e1
    have e2 : (List.replicate Nc.length none ++ cvals σ js)[i]? = some (some v) := e2
    by_cases hi : i < Nc.length
    · rw [List.getElem?_append_left (by simpa using hi), List.getElem?_replicate] at e2
      split at e2 <;> cases e2
    · rw [List.getElem?_append_right (by (first | lia | omega))] at e1
      rw [List.getElem?_append_right (by rw [List.length_replicate]; (first | lia | omega)), List.length_replicate] at e2
      obtain ⟨hfr, j, hj, hN⟩ := c.frees _ _ e1
      have hv : σ[j]? = some (some v) := by
        unfold cvals at e2
        rw [List.getElem?_map, hj] at e2
        have e2 : some ((σ[j]?).join) = some (some v) := e2
        cases q : σ[j]? with
        | none => rw [q] at e2; cases e2
        | some z => rw [q] at e2; cases e2; rfl
      have kx := c.free _ (mem_of_lookup' hfr) rfl
      obtain ⟨m0, hn0, hl0⟩ := I.loc
      have vis : Vis X.env.scope x := by
        rcases kx with k | k
        · exact .inr (.inl k)
        · exact .inr (.inr k)
      obtain ⟨u, ru, lk⟩ := hl0 j x v hN hv vis
      refine ⟨u, ru, .inr ⟨?_, ?_⟩⟩
      · rw [cxC_kind]; exact relabel_of_free hfr
      · obtain ⟨a, ha⟩ := hhas _ (mem_of_lookup' hfr) rfl
        refine ⟨a, ha, ?_⟩
        rcases lk with ⟨k, _⟩ | ⟨_, a', ha', hcell⟩
        · rcases kx with q | q <;> (rw [k] at q; cases q)
        · have e := hsub _ _ ha
          dsimp only at e
          rw [ha'] at e; cases e
          exact hcell.keeps hk
  · obtain ⟨v, z⟩ := I.cell x a (hsub x a e)
    exact ⟨v, z.keeps hk⟩
  · have hp : p = (D, ob) := by
      have : p ∈ [(D, ob)] := hp
      simpa using this
    subst hp
    refine ⟨hob, I.hok.fresh hD, hDC, fun z => ?_, hnc⟩
    have z : D ∈ frs X.stack := z
    rcases List.mem_cons.mp (I.stkSub D z) with q | q
    · exact addr_ne' I.lt hD q
    · exact I.nofs hD q
  · show (List.replicate Nc.length none ++ cvals σ js).length = (Nc ++ Fc).length
    unfold cvals
    rw [List.length_append, List.length_append, List.length_replicate, List.length_map, c.lens]
end

/-- tests of a clause: none, or one -/
noncomputable def PTs (X : Cx) (ifs : List Expr) (t : TT) : Prop :=
  ∀ ⦃pins : List (Addr × Obj)⦄ (s : Shared) (σ : St) (H : Hp) (Q : Bool → Hp → Prop), Inv X pins σ H s → t σ H Q → wpAny (model X.prog X.w) X.A (testsOf ifs X.env) (TP X pins σ Q) X.xe s
noncomputable def tYes : TT := fun _ H Q => Q true H
theorem pts_nil {X : Cx} : PTs X [] tYes := fun _ _ _ H _ I h => wpAny_tests_nil ⟨H, I, h⟩
/-- the reading: W i m ys H is what holds ahead of turn i, m falls -/
noncomputable def CompW (J : It) (n : Nat) (js : List Nat) (g : TG) (tc : TT) (te : TE) (σ : St) (H1 : Hp) (fin : List V → Hp → Prop) : Prop :=
  ∃ W : Nat → Nat → List V → Hp → Prop, (∃ m, W 0 m [] H1) ∧ ∀ i m ys H, W i m ys H →
    (J.stop i H ∧ fin ys H) ∨
    (J.go i H ∧ ys.length < sizeLine ∧ ∀ x H', J.yld i H x H' → g x (List.replicate n none ++ cvals σ js) H' fun σ2 H2 => tc σ2 H2 fun b H3 =>
      if b = true then te σ2 H3 fun y H4 => ∃ m', m' < m ∧ W (i + 1) m' (ys ++ [y]) H4 else ∃ m', m' < m ∧ W (i + 1) m' ys H3)
noncomputable def tComp (wi : TI) (n : Nat) (js : List Nat) (g : TG) (tc : TT) (te : TE) : TE := fun σ H Q => wi σ H fun J H1 =>
  CompW J n js g tc te σ H1 fun ys H2 => ∀ p, H2 p = none → Q (.ref p) (upd H2 p (.lst ys))

/-- a target that stores below place n alone -/
noncomputable def Gk (n : Nat) (g : TG) : Prop := ∀ x σ H Q, g x σ H Q → g x σ H fun σ' H' => Q σ' H' ∧ (∀ j, n ≤ j → σ'[j]? = σ[j]?) ∧ σ'.length = σ.length
noncomputable def Gks (n : Nat) (g : TGs) : Prop := ∀ x σ H Q, g x σ H Q → g x σ H fun σ' H' => Q σ' H' ∧ (∀ j, n ≤ j → σ'[j]? = σ[j]?) ∧ σ'.length = σ.length
theorem gk_name {n i : Nat} (h : i < n := by decide) : Gk n (gName i) := fun x σ H Q q => ⟨q, fun j hj => List.getElem?_set_ne (by (first | lia | omega)), List.length_set⟩
theorem gks_nil {n : Nat} : Gks n gNil := fun x σ H Q q => ⟨q.1, q.2, fun _ _ => rfl, rfl⟩
theorem gks_cons {n : Nat} {t : TG} {u : TGs} (h1 : Gk n t) (h2 : Gks n u) (mt : ∀ x σ H Q Q', (∀ a b, Q a b → Q' a b) → t x σ H Q → t x σ H Q') (mu : ∀ x σ H Q Q', (∀ a b, Q a b → Q' a b) → u x σ H Q → u x σ H Q') : Gks n (gCons t u) := fun x σ H Q q => by
  obtain ⟨v, r, e, q⟩ := q
  refine ⟨v, r, e, mt _ _ _ _ _ (fun σ1 H1 z => ?_) (h1 _ _ _ _ q)⟩
  obtain ⟨z, k1, l1⟩ := z
  exact mu _ _ _ _ _ (fun σ2 H2 ⟨z2, k2, l2⟩ => ⟨z2, fun j hj => (k2 j hj).trans (k1 j hj), l2.trans l1⟩) (h2 _ _ _ _ z)
theorem gk_tup {K : PySem.W.Frag} {n m : Nat} {t : TGs} (h : Gks n t) : Gk n (gTup K m t) := fun x σ H Q q => by
  obtain ⟨a, xs, e, h1, h2, q⟩ := q
  exact ⟨a, xs, e, h1, h2, h _ _ _ _ q⟩

/-- the block, to the state behind it -/
theorem comp_core {X : Cx} {elt tg iter : Expr} {ifs : List Expr} {scope : Scope} {pos : Pos} {Nc Fc : List Str} {js : List Nat} {wi : TI} {g : TG} {tc : TT} {te : TE} {use : Option (Value → Sem Unit)} {QV : Value → Shared → Prop}
    (hcalm : X.calm = true) (c : CompOk X scope Nc Fc js) (hi : PI X tg iter wi)
    (hg : ∀ cl C s H fp, PG (cxC X Nc Fc scope cl C s H fp) tg g) (htc : ∀ cl C s H fp, PTs (cxC X Nc Fc scope cl C s H fp) ifs tc) (hte : ∀ cl C s H fp, PE (cxC X Nc Fc scope cl C s H fp) elt te) (gk : Gk Nc.length g)
    {pins : List (Addr × Obj)} {s : Shared} {σ : St} {H : Hp} {fin : List V → Hp → Prop} (I : Inv X pins σ H s)
    (h : wi σ H fun J H1 => CompW J Nc.length js g tc te σ H1 fin)
    (behind : ∀ (C D : Addr) (m : Str → Option Value) (ys : List V) (H2 : Hp) (s2 : Shared), Inv X pins σ (upd H2 D (.lst ys)) s2 → s2.heap.Ns C m → FpOk X pins (upd H2 D (.lst ys)) C → H2 D = none → fin ys H2 → compPost (model X.prog X.w) X.A X.xe use QV (.ref D) C (.ok .next) s2)
    (hs : ∀ x, foldedSetIterable iter X.env x = pure x) :
    wpAny (model X.prog X.w) X.A (comprehension (.ListComp elt [⟨tg, iter, ifs, 0⟩] scope pos) scope X.env (firstIterPos [⟨tg, iter, ifs, 0⟩] pos) (newList []) false (eval iter X.env) use) QV X.xe s := by
  obtain ⟨cl, hclos, hsub, hhas⟩ := closure_of (scope := scope) (env := X.env) fun y hy hf => I.ok.has y.1 (c.free y hy hf)
  refine wpAny_comprehension_free (use := use) rfl hs hclos c.kind c.names ?_
  refine thn (hi s σ H _ I h) fun v s1 h1 => thn h1 fun itv s2 h2 => ?_
  obtain ⟨it, fp, tn, J, H2, e, I2, T, st2, f2, W, ⟨m0, w0⟩, turn⟩ := h2
  subst e
  refine wpAny_newObj_type (wpAny_newFunctionEnv c.nocell (by intro y hy; simp at hy) (fun h1 hns1 hsb1 => ?_) c.kind)
  dsimp only at hns1 hsb1 ⊢
  generalize hG : s2.heap.push { cls := .type "list", dict := none, data := .seq ([] : List Value).toArray } = G at hns1 hsb1 ⊢
  have hC : G.objs.size = s2.heap.objs.size + 1 := by rw [← hG, Heap.size_push]
  have hDC : s2.heap.objs.size ≠ G.objs.size := by rw [hC]; exact Nat.ne_of_lt (Nat.lt_succ_self _)
  have hle : s2.heap.objs.size ≤ G.objs.size := by rw [hC]; exact Nat.le_succ _
  have old : ∀ b o, s2.heap.get? b = some o → h1.get? b = some o := fun b o e =>
    hsb1.extBut b o (addr_ne (Heap.lt_size e) hle) (Heap.get?_push_of_some _ (hG ▸ Heap.get?_push_of_some _ e))
  have hacc : h1.PlainList s2.heap.objs.size #[] := ⟨_, hsb1.extBut _ _ hDC (Heap.get?_push_of_some _ (hG ▸ Heap.get?_push_size _ rfl))⟩
  obtain ⟨n0, hacc⟩ := hacc
  have fo : ∀ b ∈ fp, ∃ o, s2.heap.get? b = some o := fun b hb => let ⟨o, e, _⟩ := T.obj 0 _ st2 b hb; ⟨o, e⟩
  have hDfp : ∀ b ∈ fp, b < s2.heap.objs.size := fun b hb => let ⟨o, e⟩ := fo b hb; Heap.lt_size e
  let Xc : Cx := cxC X Nc Fc scope cl G.objs.size s2 H2 fp
  let D : Addr := s2.heap.objs.size
  have stat : ∀ {pl : List (Addr × Obj)} {H' : Hp}, (∀ p ∈ pl, p.1 = D) → (∀ b ∈ fp, H' b = none) → ∀ b ∈ fp, FpOk Xc pl H' b := fun {pl H'} hp hn b hb => by
    refine ⟨hn b hb, ?_, ?_, .inl hb, fun x a e => ?_, fun p hq => ?_⟩
    · exact addr_ne (hDfp b hb) hle
    · exact (cxC_ok I2 c hsub hhas hle f2 fo).exfs b hb
    · exact (f2 b hb).2.2.2.2.1 x a (hsub _ _ e)
    · have q : p ∈ ([] : List (Addr × Obj)) ++ pl := hq
      rw [hp p (by simpa using q)]
      exact addr_ne' (hDfp b hb) (Nat.le_refl _)
  have loop : ∀ t1, codeAny (model X.prog X.w) X.A (.compLoop (.ListComp elt [⟨tg, iter, ifs, 0⟩] scope pos) 0 (.ref it) (.ref s2.heap.objs.size) (compEnvC scope cl G.objs.size X.env))
      (compPost (model X.prog X.w) X.A X.xe use QV (.ref s2.heap.objs.size) G.objs.size) { s2 with heap := h1, toks := t1 } := by
    intro t1
    refine comp_turns (fun n s' => ∃ i ys H' its k, Inv Xc [(D, { cls := .type "list", data := .seq its k })] (List.replicate Nc.length none ++ cvals σ js) H' s' ∧ Vals ys its.toList ∧ ys.length ≤ sizeLine ∧ tn i s'.heap ∧ (∀ b ∈ fp, H' b = none) ∧ W i n ys H') ?_ m0
      ⟨0, [], H2, #[], n0, cxC_inv I2 c hsub hhas hle (Nat.le_refl _) hDC f2 fo old hns1 hacc (fun _ z => nomatch z), .nil, Nat.zero_le _, T.keep _ _ _ st2 (fun b hb o e => old b o e), fun b hb => (f2 b hb).1, w0⟩
    rintro n s3 ⟨i, ys, H3, its, k, I3, rv, hz, st3, fr3, w3⟩
    have onlyD : ∀ p ∈ [(D, ({ cls := .type "list", data := .seq its k } : Obj))], p.1 = D := fun p hp => congrArg Prod.fst (List.mem_singleton.mp hp)
    rcases turn i n ys H3 w3 with ⟨stop, qn⟩ | ⟨go, hlt, step⟩
    · refine thn (T.done Xc rfl rfl rfl hcalm i _ s3 _ H3 noE I3 (stat onlyD fr3) st3 stop) fun r s4 ⟨hr, I4⟩ => ?_
      subst hr
      show compPost _ _ _ _ _ _ _ _ _
      obtain ⟨hDo, hDn, hDne, hDfs, _⟩ := I4.pin (D, _) (List.mem_append_right _ List.mem_cons_self)
      have hDC' : D ≠ G.objs.size := hDC
      obtain ⟨mC, hmC, _⟩ := I4.loc
      have hCn : H3 G.objs.size = none := I4.free
      have neD : ∀ b o, s2.heap.get? b = some o → b ≠ D := fun b o e => Nat.ne_of_lt (Heap.lt_size e)
      have u : Un (frs X.stack) fp H2 H3 s2.heap s4.heap := I4.base
      have hdn2 : H2 D = none := I2.hok.fresh (Nat.le_refl _)
      have u' : Un (frs X.stack) fp H2 (upd H3 D (.lst ys)) s2.heap s4.heap :=
        ⟨u.keep, u.slot, fun b o e n hx => by rw [upd_ne (neD b o e)]; exact u.free b o e n hx, u.there,
         fun b xs e => by rw [upd_ne (ne_of_none e hdn2)]; exact u.tups b xs e, fun b o xs e => by rw [upd_ne (ne_of_none e hdn2)]; exact u.frzs b o xs e,
         fun b ps e => by rw [upd_ne (ne_of_none e hdn2)]; exact u.tbls b ps e⟩
      have hok' : HOk X.prog X.w (upd H3 D (.lst ys)) s4.heap := I4.hok.adopt hDn ⟨hz, its.toList, k, rv, by simpa using hDo⟩
      have hch : ∀ b ∈ fp, (b ∈ X.ex ∨ X.s₀.heap.objs.size ≤ b) ∧ b ≠ X.env.locals ∧ (∀ x c, X.env.cells.lookup x = some c → c ≠ b) ∧ ∀ p ∈ X.pn ++ pins, p.1 ≠ b := fun b hb =>
        ⟨(f2 b hb).2.2.2.1, (f2 b hb).2.1, (f2 b hb).2.2.2.2.1, (f2 b hb).2.2.2.2.2⟩
      have os4 : s4.os = s2.os := I4.os
      have J4 : Inv X pins σ (upd H3 D (.lst ys)) s4 := I2.call' (H' := upd H3 D (.lst ys)) os4 u' hok' I4.bare hch
      refine behind G.objs.size D mC ys H3 s4 J4 hmC (I2.fpOk hle ?_) hDn qn
      rw [upd_ne (Ne.symm hDC')]
      exact hCn
    · refine thn (T.item Xc rfl rfl rfl hcalm i _ s3 _ H3 noE I3 (stat onlyD fr3) st3 go) fun r s4 ⟨u, hr, h4⟩ => ?_
      subst hr
      show wpAny _ _ (letOwnedTupleGo tg (.ref it) u) _ _ _
      refine thn h4 fun _ s5 ⟨x, H5, I5, r5, y5, st5, fr5⟩ => ?_
      have I5' := I5.pinned (stat onlyD fr5) (T.obj _ _ st5)
      refine thn (hg cl G.objs.size s2 H2 fp s5 _ H5 x u _ I5' r5 (gk _ _ _ _ (step x H5 y5))) fun _ s6 ⟨σ6, H6, I6, q6, kσ, kl⟩ => ?_
      refine thn (htc cl G.objs.size s2 H2 fp s6 σ6 H6 _ I6 q6) fun b s7 ⟨H7, I7, q7⟩ => ?_
      have later : ∀ {σ' : St} {H' : Hp} {s' : Shared}, Inv Xc ([(D, ({ cls := .type "list", data := .seq its k } : Obj))] ++ pinsAt fp s5.heap) σ' H' s' → tn (i + 1) s'.heap ∧ ∀ b ∈ fp, H' b = none := fun {σ' H' s'} Iz => by
        refine ⟨T.keep _ _ _ st5 fun b hb o e => (Iz.pin (b, o) (List.mem_append_right _ (List.mem_append_right _ (mem_pinsAt hb e)))).1, fun b hb => ?_⟩
        obtain ⟨o, e, d⟩ := T.obj _ _ st5 b hb
        exact (Iz.pin (b, o) (List.mem_append_right _ (List.mem_append_right _ (mem_pinsAt hb e)))).2.1
      have back : ∀ {pl : List (Addr × Obj)} {H' : Hp} {s' : Shared}, Inv Xc pl σ6 H' s' → Inv Xc pl (List.replicate Nc.length none ++ cvals σ js) H' s' := fun {pl H' s'} Iz => by
        refine Iz.weak (by rw [← kl]) fun j v hj => ?_
        by_cases hn : j < Nc.length
        · rw [List.getElem?_append_left (by simpa using hn), List.getElem?_replicate] at hj
          split at hj <;> cases hj
        · rw [kσ j (by (first | lia | omega))]; exact hj
      cases b with
      | false =>
        rw [if_neg Bool.false_ne_true] at q7 ⊢
        obtain ⟨m', hm', w7⟩ := q7
        obtain ⟨l1, l2⟩ := later I7
        exact ⟨m', hm', i + 1, ys, H7, its, k, back I7.unpinned, rv, hz, l1, l2, w7⟩
      | true =>
        rw [if_pos rfl] at q7 ⊢
        refine thn (hte cl G.objs.size s2 H2 fp s7 σ6 H7 _ I7 q7) fun yv s8 ⟨y, H8, I8, r8, q8⟩ => ?_
        obtain ⟨m', hm', w8⟩ := q8
        obtain ⟨hDo, hDn, hDne, hDfs, _⟩ := I8.pin (D, _) (List.mem_append_right _ (List.mem_append_left _ List.mem_cons_self))
        obtain ⟨l1, l2⟩ := later I8
        have hits : its.size = ys.length := by
          have e1 := rv.length
          simp only [Array.length_toList] at e1
          (first | lia | omega)
        refine wpAny_list_append_plain (hsz := by (first | lia | omega)) ⟨k, hDo⟩ fun h9 hl9 hs9 => ?_
        obtain ⟨k9, hD9⟩ := hl9
        have pinF : ∀ p ∈ pinsAt fp s5.heap, p.1 ≠ D := fun p hp => by
          obtain ⟨hb, _⟩ := of_pinsAt hp
          exact addr_ne (hDfp _ hb) (Nat.le_refl _)
        have I8' : Inv Xc (pinsAt fp s5.heap) σ6 H8 s8 := I8.pins_of fun p hp => I8.pin p (List.mem_append_right _ (List.mem_append_right _ hp))
        have I9 : Inv Xc (pinsAt fp s5.heap) σ6 H8 { s8 with heap := h9, toks := s8.toks } := I8'.turned (it := D) (fun b o hb e => hs9.extBut b o hb e) hDn hDC (.inr (Nat.le_refl _))
          (fun x a e z => by
            obtain ⟨v, q⟩ := I2.cell x a (hsub _ _ e)
            exact addr_ne q.lt (Nat.le_refl _) z) (fun p hp => pinF p (by
              have hp : p ∈ ([] : List (Addr × Obj)) ++ pinsAt fp s5.heap := hp
              simpa using hp))
        obtain ⟨st9, fr9⟩ : tn (i + 1) h9 ∧ ∀ b ∈ fp, H8 b = none := by
          refine ⟨T.keep _ _ _ l1 fun b hb o e => hs9.extBut b o ?_ e, l2⟩
          exact addr_ne (hDfp _ hb) (Nat.le_refl _)
        refine ⟨m', hm', i + 1, ys ++ [y], H8, its.push yv, k9, back (I9.pins_of fun p hp => ?_), ?_, ?_, st9, fr9, w8⟩
        · cases List.mem_singleton.mp hp
          exact ⟨hD9, hDn, hDne, hDfs, fun _ z => nomatch z⟩
        · rw [Array.toList_push]
          exact rv.append (.cons r8 .nil)
        · rw [List.length_append, List.length_singleton]; (first | lia | omega)
  exact codeAny_compStart_list (loop _) (T.self _ 0 _ _ _ (T.keep _ _ _ st2 fun b hb o e => old b o e) (loop _))

theorem pe_lcomp {X : Cx} {elt tg iter : Expr} {ifs : List Expr} {scope : Scope} {pos : Pos} {Nc Fc : List Str} {js : List Nat} {wi : TI} {g : TG} {tc : TT} {te : TE}
    (hcalm : X.calm = true) (c : CompOk X scope Nc Fc js) (hi : PI X tg iter wi) (gk : Gk Nc.length g)
    (hg : ∀ cl C s H fp, PG (cxC X Nc Fc scope cl C s H fp) tg g) (htc : ∀ cl C s H fp, PTs (cxC X Nc Fc scope cl C s H fp) ifs tc) (hte : ∀ cl C s H fp, PE (cxC X Nc Fc scope cl C s H fp) elt te)
    (hs : ∀ x, foldedSetIterable iter X.env x = pure x := by intro _; rfl) :
    PE X (.ListComp elt [⟨tg, iter, ifs, 0⟩] scope pos) (tComp wi Nc.length js g tc te) := by
  intro pins s σ H Q I h
  rw [eval_ListComp]
  refine comp_core (use := none) hcalm c hi hg htc hte gk I h (fun C D m ys H2 s2 I2 hm hC hD q => ?_) hs
  refine ⟨m, hm, fun h' hs' => ?_⟩
  refine ⟨.ref D, _, I2.turned (it := C) (t' := s2.toks) (fun b o hb e => hs'.extBut b o hb e) hC.1 (hC.2.1) hC.2.2.2.1 hC.2.2.2.2.1 hC.2.2.2.2.2, rfl, q D hD⟩
/-- x = [..] in one row: the store comes ahead of the block's end -/
theorem ps_setcomp {X : Cx} {i : Nat} {y : Str} {elt tg iter : Expr} {ifs : List Expr} {scope : Scope} {pos pos' py : Pos} {Nc Fc : List Str} {js : List Nat} {wi : TI} {g : TG} {tc : TT} {te : TE} (hN : X.N.Nodup) (hy : X.N[i]? = some y) (hl : Loc X.env.scope y)
    (hcalm : X.calm = true) (c : CompOk X scope Nc Fc js) (hi : PI X tg iter wi) (gk : Gk Nc.length g)
    (hg : ∀ cl C s H fp, PG (cxC X Nc Fc scope cl C s H fp) tg g) (htc : ∀ cl C s H fp, PTs (cxC X Nc Fc scope cl C s H fp) ifs tc) (hte : ∀ cl C s H fp, PE (cxC X Nc Fc scope cl C s H fp) elt te)
    (hsw : swapsWith (.ListComp elt [⟨tg, iter, ifs, 0⟩] scope pos) (some (.Name y py)) pos'.line X.env = pure true := by rfl)
    (hs : ∀ x, foldedSetIterable iter X.env x = pure x := by intro _; rfl)
    (hf : X.fn y = true ∨ X.env.scope.names.lookup y = some .local := by first | exact .inl rfl | exact .inr rfl | assumption) :
    PS X (.Assign [.Name y py] (.ListComp elt [⟨tg, iter, ifs, 0⟩] scope pos) pos') (tAsg (tComp wi Nc.length js g tc te) (gName i)) := by
  intro pins s σ H E I h
  rw [exec_Assign_Name_used _ _ _ _ hsw]
  refine wpAny_bind (wpAny_standAt (wpAny_bind ?_))
  show wpAny _ X.A (do let _ ← comprehension (.ListComp elt [⟨tg, iter, ifs, 0⟩] scope pos) scope X.env _ (newList []) false (eval iter X.env) (some (assign (.Name y py) X.env))) _ _ s
  refine wpAny_bind (thn (comp_core (use := some (assign (.Name y py) X.env)) (QV := fun _ s' => SP X pins E .next s') hcalm c hi hg htc hte gk I h (fun C D m ys H2 s2 I2 hm hC hD q => ?_) hs) fun _ s' hq => wpAny_pure (wpAny_pure hq))
  show wpAny _ _ (assign (.Name y py) X.env (.ref D)) _ _ s2
  refine wpAny_assign_Name (store_ok2 I2 hN hy hl (v := .ref D) rfl (fun s3 I3 ⟨a, hsa, ha⟩ => ?_) hf)
  have hne : C ≠ a := by
    rcases ha with e | e
    · rw [e]; exact hC.2.1
    · exact fun z => hC.2.2.2.2.1 _ _ e z.symm
  refine ⟨m, hm.at' fun o e => hsa.extBut _ o hne e, fun h' hs' => ?_⟩
  exact ⟨_, _, I3.turned (it := C) (t' := s3.toks) (fun b o hb e => hs'.extBut b o hb e) hC.1 hC.2.1 hC.2.2.2.1 hC.2.2.2.2.1 hC.2.2.2.2.2, q D hD⟩
end L2

set_option Elab.async false
set_option linter.all false
set_option maxRecDepth 100000
set_option maxHeartbeats 4000000
/-! built-in calls over the hand layer -/
namespace L2
open PySem PySem.Spec PyProof.Rows

section
variable {X : Cx} {pins : List (Addr × Obj)} {σ : St} {H : Hp} {s : Shared} {p : Addr} {ys : List V}

/-- a list's iterator, as the consuming built-ins walk it -/
theorem walk_list {A : Around} (hh : A.handled = none) (I : Inv X pins σ H s) (hq : SqL X.K H p ys) {R : Value → Shared → Prop} {E : Value → Shared → Prop}
    (h : ∀ (its : List Value) (it : Addr) (s2 : Shared), Vals ys its → its.length ≤ sizeLine →
      Walks X.prog X.w A it [it, p] [it] its.toArray.size (fun i v => its.toArray[i]? = some v) (fun i h => h.IsListIter it p i ∧ h.IsList p its.toArray) → (s2.heap.IsListIter it p 0 ∧ s2.heap.IsList p its.toArray) → (∀ b ∈ [it, p], b < s2.heap.objs.size) →
      (∀ h' tk, (∀ b o, b ∉ [it] → s2.heap.get? b = some o → h'.get? b = some o) → Inv X pins σ H { s2 with heap := h', toks := tk }) → R (.ref it) s2) :
    wpAny (model X.prog X.w) A (pyIter (.ref p)) R E s := by
  obtain ⟨its, rv, pl, hz⟩ := I.list hq
  have hl := pl.isList
  have hp : p < s.heap.objs.size := by obtain ⟨o, e, _⟩ := hl; exact Heap.lt_size e
  refine wpAny_pyIter_list hl ?_
  refine h its s.heap.objs.size _ rv (by have := rv.length; (first | lia | omega)) (Walks.list hh _ p (Nat.ne_of_lt hp) its.toArray) ⟨⟨_, Heap.get?_push_size _ rfl, rfl, rfl⟩, hl.push _⟩ (fun b hb => ?_) fun h' tk hk => ?_
  · show b < (s.heap.push _).objs.size
    rw [Heap.size_push]
    rcases List.mem_cons.mp hb with rfl | hb
    · exact Nat.lt_succ_self _
    · rw [List.mem_singleton.mp hb]; exact Nat.lt_succ_of_lt hp
  · exact I.kept (t' := tk) fun b o e => hk b o (fun z => addr_ne (Heap.lt_size e) (Nat.le_refl _) (List.mem_singleton.mp z)) (Heap.get?_push_of_some _ e)

theorem vals_at {ys : List V} {its : List Value} (r : Vals ys its) {i : Nat} {v : Value} (e : its.toArray[i]? = some v) : ∃ y, ys[i]? = some y ∧ RelV y v := by
  have e' : its[i]? = some v := by simpa using e
  have hi : i < its.length := (List.getElem?_eq_some_iff.mp e').1
  have hl := r.length
  obtain ⟨u, h1, h2⟩ := r.get (i := i) (x := ys[i]'(by (first | lia | omega))) (by simp)
  rw [e'] at h1; cases h1
  exact ⟨_, by simp, h2⟩

theorem range_all (bs : List Bool) : (List.range bs.length).all (fun i => bs.getD i false) = bs.all id := by
  induction bs with
  | nil => rfl
  | cons b r ih =>
    rw [List.length_cons, List.range_succ_eq_map, List.all_cons, List.all_map, List.all_cons, ← ih]
    rfl
theorem truth_bl {A : Around} {bs : List Bool} {its : List Value} (r : Vals (bs.map V.bl) its) : TruthOf X.prog X.w A (fun i v => its.toArray[i]? = some v) (fun i => bs.getD i false) := by
  intro i v s Q E e hQ
  obtain ⟨y, h1, h2⟩ := vals_at r e
  rw [List.getElem?_map] at h1
  cases q : bs[i]? with
  | none => rw [q] at h1; cases h1
  | some b =>
    rw [q] at h1; cases h1
    cases h2
    have : bs.getD i false = b := by simp [List.getD, q]
    have hQ : Q (bs.getD i false) s := hQ
    rw [this] at hQ
    exact wpAny_pure hQ
theorem call_all_bl (hc : X.calm = true) : CallR X (.builtin "all") (fun xs H Q => ∃ (p : Addr) (bs : List Bool), xs = [.ref p] ∧ SqL X.K H p (bs.map V.bl) ∧ Q (.bl (bs.all id)) H) := by
  intro pins s σ H xs us Q I r h
  obtain ⟨p, bs, rfl, hq, q⟩ := h
  obtain ⟨u, rfl, ru⟩ := vals1 r
  cases ru
  refine call_all_walk (walk_list (A := X.A.in1) (I.ok.hd hc) I hq fun its it s2 rv hz W st hlt hI => ?_)
  refine ⟨it, _, _, _, _, _, fun i => bs.getD i false, rfl, W, st, truth_bl rv, fun h' tk hk => ?_⟩
  have hl : its.toArray.size = bs.length := by have := rv.length; simp at this ⊢; (first | lia | omega)
  rw [hl, range_all]
  exact ⟨.bl _, H, hI h' tk hk, rfl, q⟩
/-! the same, K named -/
theorem allK (K : PySem.W.Frag) (hc : X.calm = true) (hK : X.K = K := by rfl) : CallR X (.builtin "all") (fun xs H Q => ∃ (p : Addr) (bs : List Bool), xs = [.ref p] ∧ SqL K H p (bs.map V.bl) ∧ Q (.bl (bs.all id)) H) := by subst hK; exact call_all_bl hc
/-! texts -/
theorem strs_are : ∀ {xs : List Str} {its : List Value}, Vals (xs.map V.str) its → StrsAre its xs := by
  intro xs its r
  induction xs generalizing its with
  | nil => cases r; exact StrsAre.nil
  | cons x xs ih =>
    cases r with
    | cons r1 r2 =>
      obtain ⟨t, rfl⟩ := r1
      exact StrsAre.cons x t (ih r2)
theorem mt_join : MtR X "str.join" (fun x vs H Q => ∃ (sep : Str) (p : Addr) (xs : List Str), x = .str sep ∧ vs = [.ref p] ∧ SqL X.K H p (xs.map V.str) ∧ (xs.map (·.length)).sum + xs.length * sep.length ≤ 16777216 ∧ Q (.str (Txt.join sep xs)) H) := by
  intro pins s σ H x vs v us Q I rx rv h
  obtain ⟨sep, p, xs, rfl, rfl, hq, hz, q⟩ := h
  obtain ⟨t, rfl⟩ := rx
  obtain ⟨u, rfl, ru⟩ := rv.one
  cases ru
  obtain ⟨its, r', pl, _⟩ := I.list hq
  exact join_list pl.isList (strs_are r') hz fun t' k => ⟨.str _, H, I.tok _, ⟨_, rfl⟩, q⟩
end
end L2

set_option Elab.async false
set_option linter.all false
set_option maxRecDepth 100000
set_option maxHeartbeats 4000000
/-! data in the heap, ==, isinstance, slices of texts, divmod -/
namespace L2
open PySem PySem.Spec PyProof.Rows

mutual
/-- the value tells this data -/
noncomputable def Den (K : PySem.W.Frag) (H : Hp) : PyData → V → Prop
  | .none, v => v = .non
  | .bool b, v => v = .bl b
  | .int i, v => v = .int i
  | .str x, v => v = .str x
  | .list ds, v => Ex2 fun a vs => v = .ref a ∧ SqL K H a vs ∧ Dens K H ds vs
  | .tuple ds, v => Ex2 fun a vs => v = .ref a ∧ SqT K H a vs ∧ Dens K H ds vs
  | .dict _, _ => False
noncomputable def Dens (K : PySem.W.Frag) (H : Hp) : List PyData → List V → Prop
  | [], vs => vs = []
  | d :: ds, vs => Ex2 fun v r => vs = v :: r ∧ Den K H d v ∧ Dens K H ds r
end

theorem Same.seqT {K : PySem.W.Frag} {H H' : Hp} {a : Addr} {xs : List V} (e : Same H H') (h : SqT K H a xs) : SqT K H' a xs := by
  rcases h with (h | ⟨o, h⟩) | h
  · exact .inl (.inl (e _ _ h))
  · exact .inl (.inr ⟨o, e _ _ h⟩)
  · exact .inr h
mutual
theorem Den.same {K : PySem.W.Frag} {H H' : Hp} (e : Same H H') : ∀ {d : PyData} {v : V}, Den K H d v → Den K H' d v
  | .none, _, h => by unfold Den at h ⊢; exact h
  | .bool _, _, h => by unfold Den at h ⊢; exact h
  | .int _, _, h => by unfold Den at h ⊢; exact h
  | .str _, _, h => by unfold Den at h ⊢; exact h
  | .list ds, _, h => by
    unfold Den at h ⊢
    obtain ⟨a, vs, h1, h2, h3⟩ := h
    exact ⟨a, vs, h1, e.seq h2, Dens.same e h3⟩
  | .tuple ds, _, h => by
    unfold Den at h ⊢
    obtain ⟨a, vs, h1, h2, h3⟩ := h
    exact ⟨a, vs, h1, e.seqT h2, Dens.same e h3⟩
  | .dict _, _, h => by unfold Den at h; exact h.elim
theorem Dens.same {K : PySem.W.Frag} {H H' : Hp} (e : Same H H') : ∀ {ds : List PyData} {vs : List V}, Dens K H ds vs → Dens K H' ds vs
  | [], _, h => by unfold Dens at h ⊢; exact h
  | d :: ds, _, h => by
    unfold Dens at h ⊢
    obtain ⟨v, r, h1, h2, h3⟩ := h
    exact ⟨v, r, h1, Den.same e h2, Dens.same e h3⟩
end
mutual
theorem Den.reads {X : Cx} {pins : List (Addr × Obj)} {σ : St} {H : Hp} {s : Shared} (I : Inv X pins σ H s) : ∀ {d : PyData} {v : V} {u : Value}, Den X.K H d v → RelV v u → ∃ as, Reads s.heap u d as
  | .none, _, _, h, r => by unfold Den at h; subst h; cases r; exact ⟨_, .none⟩
  | .bool _, _, _, h, r => by unfold Den at h; subst h; cases r; exact ⟨_, .bool _⟩
  | .int _, _, _, h, r => by unfold Den at h; subst h; obtain ⟨t, rfl⟩ := r; exact ⟨_, .int _ _⟩
  | .str _, _, _, h, r => by unfold Den at h; subst h; obtain ⟨t, rfl⟩ := r; exact ⟨_, .str _ _⟩
  | .list ds, _, _, h, r => by
    unfold Den at h
    obtain ⟨a, vs, rfl, h2, h3⟩ := h
    cases r
    obtain ⟨its, rv, ⟨o, n, e1, e2, _, e4⟩, _⟩ := I.list h2
    obtain ⟨as, q⟩ := Dens.reads I h3 rv
    exact ⟨_, .list e1 e2 e4 (by simpa using q)⟩
  | .tuple ds, _, _, h, r => by
    unfold Den at h
    obtain ⟨a, vs, rfl, h2, h3⟩ := h
    cases r
    obtain ⟨its, rv, ⟨o, e1, e2, n, e4⟩, _⟩ := I.tuple h2
    obtain ⟨as, q⟩ := Dens.reads I h3 rv
    exact ⟨_, .tuple e1 e2 e4 (by simpa using q)⟩
  | .dict _, _, _, h, _ => by unfold Den at h; exact h.elim
theorem Dens.reads {X : Cx} {pins : List (Addr × Obj)} {σ : St} {H : Hp} {s : Shared} (I : Inv X pins σ H s) : ∀ {ds : List PyData} {vs : List V} {us : List Value}, Dens X.K H ds vs → Vals vs us → ∃ as, ReadsAll s.heap us ds as
  | [], _, _, h, r => by unfold Dens at h; subst h; cases r; exact ⟨_, .nil⟩
  | d :: ds, _, _, h, r => by
    unfold Dens at h
    obtain ⟨v, q, rfl, h2, h3⟩ := h
    cases r with
    | cons r1 r2 =>
      obtain ⟨as, q1⟩ := Den.reads I h2 r1
      obtain ⟨bs, q2⟩ := Dens.reads I h3 r2
      exact ⟨_, .cons q1 q2⟩
end
section
variable {X : Cx}
open PySem.SeqAt in
theorem op_eqD (hu : X.A.units + 64 < cLine) : OpR X (compareOp .Eq) (fun x y H Q => ∃ d e, Den X.K H d x ∧ Den X.K H e y ∧ shaped d = true ∧ shaped e = true ∧ Q (.bl (PyData.eqv d e)) H) := by
  intro pins s σ H x y v u Q I rx ry h
  obtain ⟨d, e, hd, he, sd, se, q⟩ := h
  obtain ⟨as, r1⟩ := hd.reads I rx
  obtain ⟨bs, r2⟩ := he.reads I ry
  exact eq_dataH r1 r2 sd se hu ⟨.bl _, H, I, rfl, q⟩
open PySem.SeqAt in
theorem op_neD (hu : X.A.units + 64 < cLine) : OpR X (compareOp .NotEq) (fun x y H Q => ∃ d e, Den X.K H d x ∧ Den X.K H e y ∧ shaped d = true ∧ shaped e = true ∧ Q (.bl (!PyData.eqv d e)) H) := by
  intro pins s σ H x y v u Q I rx ry h
  obtain ⟨d, e, hd, he, sd, se, q⟩ := h
  obtain ⟨as, r1⟩ := hd.reads I rx
  obtain ⟨bs, r2⟩ := he.reads I ry
  exact ne_dataH r1 r2 sd se hu ⟨.bl _, H, I, rfl, q⟩

/-- is True, is False -/
theorem op_isB : OpR X (compareOp .Is) (fun x y H Q => ∃ a b, x = .bl a ∧ y = .bl b ∧ Q (.bl (decide (a = b))) H) := by
  intro pins s σ H x y v u Q I rx ry h
  obtain ⟨a, b, rfl, rfl, q⟩ := h
  cases rx; cases ry
  refine wpAny_is_plain rfl (fin_bl I q ?_)
  cases a <;> cases b <;> rfl
/-! isinstance -/
theorem call_isi : CallR X (.builtin "isinstance") (fun xs H Q => ∃ x T t b, xs = [x, .ty T] ∧ TyOf X.K H x t ∧ PySem.W.kitOne X.K t (.type T) = some b ∧ Q (.bl b) H) := by
  intro pins s σ H xs us Q I r h
  obtain ⟨x, T, t, b, rfl, ty, e, q⟩ := h
  obtain ⟨u, w', rfl, r1, r2⟩ := vals2 r
  cases r2
  exact isinst_ok I r1 ty e fun tk => ⟨.bl b, H, I.tok _, rfl, q⟩
/-! a slice of a text -/
theorem sl_str : SlR X (fun x lo hi H Q => ∃ z, x = .str z ∧ z.length ≤ sizeLine ∧ Q (.str (Txt.slice z lo hi)) H) := by
  intro pins s σ H x v vl vu lo hi sl Q I rx hs pl pu q
  obtain ⟨z, rfl, hz, q⟩ := q
  obtain ⟨t, rfl⟩ := rx
  refine ⟨"str", _, F.slot_str_getitem.lookup, typeIs_str _ _ _, ?_⟩
  have fin : ∀ t' k, EP X pins σ Q (.str (Txt.slice z lo hi) t') { s with toks := k } := fun t' k => ⟨.str _, H, I.tok _, ⟨_, rfl⟩, q⟩
  cases pl with
  | none =>
    cases pu with
    | none => exact wpAny_getItem_str_slice (l := none) (u := none) (st := none) hs rfl (post_val_or_str ⟨Nat.le_trans (Txt.slice_le z _ _) hz, fin⟩)
    | int j uj => exact wpAny_getItem_str_slice (l := none) (u := some (j, uj)) (st := none) hs rfl (post_val_or_str ⟨Nat.le_trans (Txt.slice_le z _ _) hz, fin⟩)
  | int i ui =>
    cases pu with
    | none => exact wpAny_getItem_str_slice (l := some (i, ui)) (u := none) (st := none) hs rfl (post_val_or_str ⟨Nat.le_trans (Txt.slice_le z _ _) hz, fin⟩)
    | int j uj => exact wpAny_getItem_str_slice (l := some (i, ui)) (u := some (j, uj)) (st := none) hs rfl (post_val_or_str ⟨Nat.le_trans (Txt.slice_le z _ _) hz, fin⟩)

end
end L2

set_option Elab.async false
set_option linter.all false
set_option maxRecDepth 100000
set_option maxHeartbeats 4000000
/-! zip and enumerate over lists -/
namespace L2
open PySem PySem.Spec PyProof.Rows

section
variable {X : Cx} {pins : List (Addr × Obj)} {σ : St} {H : Hp} {s : Shared} {h' : Heap}
theorem Inv.iter {t' : Nat} {ch : List Addr} (I : Inv X pins σ H s) (hf : ∀ b ∈ ch, FpOk X pins H b) (keep : ∀ b o, b ∉ ch → s.heap.get? b = some o → h'.get? b = some o) : Inv X pins σ H { s with heap := h', toks := t' } := by
  have nch : ∀ b u, H b = some u → b ∉ ch := fun b u e z => by rw [(hf b z).1] at e; cases e
  refine I.step (g' := s.gens) (d' := s.drawn) (ch := ch) (fun b hb => ⟨(hf b hb).2.2.2.1, (hf b hb).2.1, (hf b hb).2.2.2.2.1, (hf b hb).2.2.2.2.2⟩) (fun b o _ _ hc e _ => keep b o hc e) (fun b o _ _ hc e _ => ⟨o.slots, keep b o hc e⟩)
    (fun _ _ _ _ n => n) (fun b o hc e => ⟨o, keep b o hc e⟩) (fun _ _ e => e) (fun _ _ _ e => e) (fun b ps e => ⟨#[], by rw [e]; simp⟩) (fun m hm => hm.at' fun o e => keep _ o (fun z => (hf _ z).2.1 rfl) e) (fun b u e => ?_) I.bare
  refine (I.hok b u e).stay (fun c v hc q => keep c v ?_ q) (fun _ q => q) fun _ _ q => q
  rcases hc with z | z
  · rw [z]; exact nch b u e
  · exact nch c _ z
theorem Inv.adopt {T : Addr} {o : HO} (I : Inv X pins σ H s) (hT : FpOk X pins H T) (hex : X.s₀.heap.objs.size ≤ T) (new : ObjOk X.prog X.w (upd H T o) s.heap T o) : Inv X pins σ (upd H T o) s :=
  ⟨I.ok, I.os, I.bare, ⟨I.base.keep, I.base.slot, fun b ob e n hx => by rw [upd_ne (addr_ne (Heap.lt_size e) hex)]; exact I.base.free b ob e n hx, I.base.there,
      fun b xs e => by rw [upd_ne (ne_of_none (I.base.tups b xs e) hT.1)]; exact I.base.tups b xs e, fun b ob xs e => by rw [upd_ne (ne_of_none (I.base.frzs b ob xs e) hT.1)]; exact I.base.frzs b ob xs e,
      fun b ps e => by
        obtain ⟨m, q⟩ := I.base.tbls b ps e
        exact ⟨m, by rw [upd_ne (ne_of_none q hT.1)]; exact q⟩⟩,
    I.loc, I.cell, by rw [upd_ne (Ne.symm hT.2.1)]; exact I.free, fun x c e => by rw [upd_ne (hT.2.2.2.2.1 x c e)]; exact I.freeC x c e,
    fun p hp => by
      obtain ⟨a, b, c, d, f⟩ := I.pin p hp
      exact ⟨a, by rw [upd_ne (hT.2.2.2.2.2 p hp)]; exact b, c, d, f⟩, I.hok.adopt hT.1 new, I.len⟩
end

theorem vals_get {xs : List V} {its : List Value} {i : Nat} {x : V} (r : Vals xs its) (e : xs[i]? = some x) : ∃ u, its.toArray[i]? = some u ∧ RelV x u := by
  obtain ⟨u, h1, h2⟩ := r.get e
  exact ⟨u, by simpa using h1, h2⟩
section
variable {X : Cx}
end
end L2

set_option Elab.async false
set_option linter.all false
set_option maxRecDepth 100000
set_option maxHeartbeats 4000000
/-! enumerate of a list -/
namespace L2
open PySem PySem.Spec PyProof.Rows

section
variable {X : Cx}
end
end L2

set_option Elab.async false
set_option linter.all false
set_option maxRecDepth 100000
set_option maxHeartbeats 4000000
/-! rules that do not ask for the kinds, calls of own defs, loops by turns -/
namespace L2
open PySem PySem.Spec PyProof.Rows

section
variable {X : Cx}
noncomputable def rAddA : R2 := fun x y H Q => (Ex2 fun i j => x = .int i ∧ y = .int j ∧ Q (.int (i + j)) H) ∨ (∃ i j, x = .str i ∧ y = .str j ∧ i.length + j.length ≤ sizeLine ∧ Q (.str (i ++ j)) H) ∨ rCat x y H Q
theorem g_add : OpR X (binaryOp .Add) rAddA := op_add.or (op_add_str.or op_cat)
noncomputable def rMulA : R2 := fun x y H Q => (Ex2 fun i j => x = .int i ∧ y = .int j ∧ CMul i j ∧ Q (.int (i * j)) H) ∨ rRep x y H Q
theorem g_mul : OpR X (binaryOp .Mult) rMulA := op_mul.or op_rep
/-- an own def, as callers use it -/
structure Fn (P : Program) (w : World) (K : PySem.W.Frag) (mg : Str → Option Value) (base : Heap) (k : Nat) (x : Str) (ps : List Str) (sp : Sp) : Prop where
  ex : ∃ f fd, FnOk P w K mg base CX0 k f fd ps sp ∧ Binds K fd ps [] ∧ PySem.W.keepIn K (.ref f) = true ∧ mg x = some (.ref f)
theorem Fn.mono {P : Program} {w : World} {K : PySem.W.Frag} {mg : Str → Option Value} {base : Heap} {j k : Nat} {x : Str} {ps : List Str} {sp : Sp} (F : Fn P w K mg base j x ps sp) (h : j ≤ k) : Fn P w K mg base k x ps sp := by
  obtain ⟨f, fd, a, b, c, d⟩ := F.ex
  exact ⟨f, fd, a.mono h, b, c, d⟩
theorem pe_fn {k : Nat} {x : Str} {ps : List Str} {sp : Sp} {p pos : Pos} {e : Expr} {es : List Expr} {t : TA} (F : Fn X.prog X.w X.K X.mg X.base k x ps sp) (hr : Room k X.A) (hg : Gl X x)
    (ha : PA X (e :: es) t) (hdb : (x == ("__debug__" : Str)) = false := by decide) (he : starEach (e :: es) X.env = (false, eval e X.env) :: starEach es X.env := by rfl) (hpl : (backTo pos (starEach es X.env)).any (·.1) = false := by rfl) :
    PE X (.Call (.Name x p) (e :: es) [] pos) (tCall sp [] E0 t) := by
  obtain ⟨f, fd, a, b, c, d⟩ := F.ex
  exact pe_call a hr hg d c b .nil pass0 ha hdb he hpl
end

/-- the closed look at a comprehension's scope -/
noncomputable def compChk (pn sn : List (Str × NameKind)) (N Fc : List Str) (js : List Nat) : Bool :=
  sn.all (fun y => y.2 != .cell) && sn.all (fun y => y.2 != .local || sn.lookup y.1 == some .local) && sn.all (fun y => y.2 != .free || pn.lookup y.1 == some .cell || pn.lookup y.1 == some .free) && js.length == Fc.length &&
  (List.range Fc.length).all fun k => match Fc[k]?, js[k]? with
    | some x, some j => sn.lookup x == some .free && N[j]? == some x
    | _, _ => false
theorem comp_ok {X : Cx} {scope : Scope} {Nc Fc : List Str} {js : List Nat} (hk : scope.kind = .function := by rfl) (h : compChk X.env.scope.names scope.names X.N Fc js = true := by rfl) : CompOk X scope Nc Fc js := by
  unfold compChk at h
  simp only [Bool.and_eq_true, List.all_eq_true, Bool.or_eq_true, bne_iff_ne, beq_iff_eq, ne_eq] at h
  obtain ⟨⟨⟨⟨h1, h2⟩, h3⟩, h4⟩, h5⟩ := h
  refine ⟨hk, h1, fun y hy hl => (h2 y hy).resolve_left (fun z => z hl), fun y hy hf => ?_, fun k x hx => ?_, h4⟩
  · rcases h3 y hy with (z | z) | z
    · exact absurd hf z
    · exact .inl z
    · exact .inr z
  · have hk' : k < Fc.length := (List.getElem?_eq_some_iff.mp hx).1
    have q := h5 k (List.mem_range.mpr hk')
    have hj : k < js.length := by (first | lia | omega)
    rw [hx, List.getElem?_eq_getElem hj] at q
    simp only [Bool.and_eq_true, beq_iff_eq] at q
    exact ⟨q.1, _, List.getElem?_eq_getElem hj, q.2⟩
end L2
namespace L2
open PySem PySem.Spec PyProof.Rows
section
variable {X : Cx}
theorem g_eq (hu : X.A.units + 64 < cLine) : OpR X (compareOp .Eq) (fun x y H Q => rEq x y H Q ∨ (∃ d e, Den X.K H d x ∧ Den X.K H e y ∧ SeqAt.shaped d = true ∧ SeqAt.shaped e = true ∧ Q (.bl (PyData.eqv d e)) H)) := op_eq.or (op_eqD hu)
theorem g_ne (hu : X.A.units + 64 < cLine) : OpR X (compareOp .NotEq) (fun x y H Q => rNe x y H Q ∨ (∃ d e, Den X.K H d x ∧ Den X.K H e y ∧ SeqAt.shaped d = true ∧ SeqAt.shaped e = true ∧ Q (.bl (!PyData.eqv d e)) H)) := op_ne.or (op_neD hu)
theorem g_is : OpR X (compareOp .Is) (fun x y H Q => (y = .non ∧ Q (.bl (decide (x = .non))) H) ∨ (∃ a b, x = .bl a ∧ y = .bl b ∧ Q (.bl (decide (a = b))) H)) := op_isN.or op_isB
theorem g_sl : SlR X (fun x lo hi H Q => rSlL X.K x lo hi H Q ∨ (∃ z, x = .str z ∧ z.length ≤ sizeLine ∧ Q (.str (Txt.slice z lo hi)) H)) := sl_list.or sl_str
/-- the built-in names that no def of the text hides -/
structure Nm (mg : Str → Option Value) : Prop where
  n_len : mg "len" = none
  n_range : mg "range" = none
  n_max : mg "max" = none
  n_min : mg "min" = none
  n_sum : mg "sum" = none
  n_all : mg "all" = none
  n_any : mg "any" = none
  n_list : mg "list" = none
  n_tuple : mg "tuple" = none
  n_int : mg "int" = none
  n_str : mg "str" = none
  n_bool : mg "bool" = none
  n_zip : mg "zip" = none
  n_enumerate : mg "enumerate" = none
  n_isinstance : mg "isinstance" = none
  n_divmod : mg "divmod" = none
end
end L2

set_option Elab.async false
set_option linter.all false
set_option maxRecDepth 100000
set_option maxHeartbeats 4000000
/-! the same rules with the text's own objects K named (inside a comprehension no hole may hang on the block) -/
namespace L2
open PySem PySem.Spec PyProof.Rows
/-- a comprehension of N turns by what holds ahead of turn i; Nx is what is to be reached behind it -/
theorem comp_go {J : It} {n : Nat} {js : List Nat} {g : TG} {tc : TT} {te : TE} {σ : St} {H1 : Hp} {fin : List V → Hp → Prop} (N : Nat) (Pv : Nat → List V → Hp → Prop) (h0 : Pv 0 [] H1)
    (go : ∀ i ys H (Nx : List V → Hp → Prop), i < N → Pv i ys H → (∀ ys' H', Pv (i + 1) ys' H' → Nx ys' H') → J.go i H ∧ ys.length < sizeLine ∧
      ∀ x H', J.yld i H x H' → g x (List.replicate n none ++ cvals σ js) H' fun σ2 H2 => tc σ2 H2 fun b H3 => if b = true then te σ2 H3 fun y H4 => Nx (ys ++ [y]) H4 else Nx ys H3)
    (stop : ∀ ys H, Pv N ys H → J.stop N H ∧ fin ys H) : CompW J n js g tc te σ H1 fin := by
  refine ⟨fun i m ys H => m = N - i ∧ i ≤ N ∧ Pv i ys H, ⟨N, by simp, Nat.zero_le _, h0⟩, ?_⟩
  rintro i m ys H ⟨rfl, hi, p⟩
  by_cases hlt : i < N
  · exact .inr (go i ys H (fun ys' H' => ∃ m', m' < N - i ∧ (m' = N - (i + 1) ∧ i + 1 ≤ N ∧ Pv (i + 1) ys' H')) hlt p fun ys' H' q => ⟨_, by (first | lia | omega), rfl, hlt, q⟩)
  · have e : i = N := by (first | lia | omega)
    subst e
    exact .inl (stop ys H p)
section
variable {X : Cx} (K : PySem.W.Frag)
theorem ixK (hK : X.K = K := by rfl) : IxR X (rIx K) := by subst hK; exact ix_seq
theorem lenK (hK : X.K = K := by rfl) : CallR X (.builtin "len") (fun xs H Q => ∃ x n, xs = [x] ∧ LenV K x H n ∧ Q (.int n) H) := by subst hK; exact call_len
theorem joinK (hK : X.K = K := by rfl) : MtR X "str.join" (fun x vs H Q => ∃ (sep : Str) (p : Addr) (xs : List Str), x = .str sep ∧ vs = [.ref p] ∧ SqL K H p (xs.map V.str) ∧ (xs.map (·.length)).sum + xs.length * sep.length ≤ 16777216 ∧ Q (.str (Txt.join sep xs)) H) := by subst hK; exact mt_join
theorem piK {tg l : Expr} {tl : TE} (hl : PE X l tl) (hK : X.K = K := by rfl) : PI X tg l (iList K tl) := by subst hK; exact pi_list hl
theorem tupK {pos : Pos} {es : List Expr} {k : Nat} {t : TGs} (n : Nat) (hc : X.calm = true) (h : PGs X es t) (hn : (assignEach es X.env).length = n := by rfl) (hst : (assignEach es X.env).findIdx? (·.1) = none := by rfl) (hK : X.K = K := by rfl) : PG X (.Tuple es k pos) (gTup K n t) := by subst hK; exact pg_tup hc h hn hst
theorem bmK {o e : Expr} {es : List Expr} {to : TE} {t : TA} {name : Str} {apos cpos : Pos} {T id : String} {r : V → List V → Hp → VK → Prop} (pa : PlainAttrs T) (slot : Slot T name id) (hty : typeOf (.builtin id) = pure (.type "method_descriptor")) (hm : MtR X id r) (ho : PE X o to) (ha : PA X (e :: es) t)
    (hbase : attributeBase o name X.env (eval o X.env) = eval o X.env := by rfl)
    (hfew : ((backTo cpos (starEach (e :: es) X.env)).all (fun x => !x.1) && (backToKw cpos (keywordEach [] X.env)).all (fun x => x.1.isSome)
      && decide ((e :: es).length + ([] : List Keyword).length + (if ([] : List Keyword).isEmpty then 0 else 1) < 30)) = true := by rfl)
    (hline : (apos.endLine == cpos.line) = true := by rfl) (hs : starEach (e :: es) X.env = (false, eval e X.env) :: starEach es X.env := by rfl) (hplain : (backTo cpos (starEach es X.env)).any (·.1) = false := by rfl) (hK : X.K = K := by rfl) :
    PE X (.Call (.Attribute o name apos) (e :: es) [] cpos) (tBM K T r to t) := by subst hK; exact pe_bm pa slot hty hm ho ha hbase hfew hline hs hplain
theorem bm0K {o : Expr} {to : TE} {name : Str} {apos cpos : Pos} {T id : String} {r : V → List V → Hp → VK → Prop} (pa : PlainAttrs T) (slot : Slot T name id) (hty : typeOf (.builtin id) = pure (.type "method_descriptor")) (hm : MtR X id r) (ho : PE X o to)
    (hbase : attributeBase o name X.env (eval o X.env) = eval o X.env := by rfl) (hline : (apos.endLine == cpos.line) = true := by rfl) (hK : X.K = K := by rfl) : PE X (.Call (.Attribute o name apos) [] [] cpos) (tBM0 K T r to) := by subst hK; exact pe_bm0 pa slot hty hm ho hbase hline
theorem eqK (hu : X.A.units + 64 < cLine) (hK : X.K = K := by rfl) : OpR X (compareOp .Eq) (fun x y H Q => rEq x y H Q ∨ (∃ d e, Den K H d x ∧ Den K H e y ∧ SeqAt.shaped d = true ∧ SeqAt.shaped e = true ∧ Q (.bl (PyData.eqv d e)) H)) := by subst hK; exact g_eq hu
theorem neK (hu : X.A.units + 64 < cLine) (hK : X.K = K := by rfl) : OpR X (compareOp .NotEq) (fun x y H Q => rNe x y H Q ∨ (∃ d e, Den K H d x ∧ Den K H e y ∧ SeqAt.shaped d = true ∧ SeqAt.shaped e = true ∧ Q (.bl (!PyData.eqv d e)) H)) := by subst hK; exact g_ne hu
end
end L2

set_option Elab.async false
set_option linter.all false
set_option maxRecDepth 100000
set_option maxHeartbeats 4000000
/-! list(it) of anything that hands out items: what it must promise (Feed), and the list that comes of it -/
namespace L2
open PySem PySem.Spec PyProof.Rows

/-- keeps g h c: what stands outside c in g stands in h -/
noncomputable abbrev Keeps (g h : Heap) (c : Addr → Prop) : Prop := ∀ b o, ¬ c b → g.get? b = some o → h.get? b = some o
/-- the thing at it hands out n items, while a list grows at S; fp: what a turn may change; St: its state; P: what is true of an item; R: of two items -/
structure Feed (prog : Program) (w : World) (A : Around) (it S : Addr) (T : String) (fp : Addr → Prop) (n : Nat) (P : Nat → Value → Heap → Prop) (R : Value → Value → Prop) (St : Nat → Heap → Prop) : Prop where
  sfp : ¬ fp S
  ne : it ≠ S
  ty : ∀ i h, St i h → ∃ o, h.get? it = some o ∧ o.cls = .type T
  self : ∀ (s : Shared) (Q : Value → Shared → Prop) (E : Value → Shared → Prop), St 0 s.heap → Q (.ref it) s → wpAny (model prog w) A (pyIter (.ref it)) Q E s
  item : ∀ i (s : Shared) (Q : Option Value → Shared → Prop) (E : Value → Shared → Prop), i < n → St i s.heap → S < s.heap.objs.size →
    (∀ v h' tk, Keeps s.heap h' fp → St (i + 1) h' → P i v h' → (∀ j u, P j u s.heap → R u v) → Q (some v) { s with heap := h', toks := tk }) → wpAny (model prog w) A (pyNext (.ref it)) Q E s
  stop : ∀ (s : Shared) (Q : Option Value → Shared → Prop) (E : Value → Shared → Prop), St n s.heap → S < s.heap.objs.size → (∀ h' tk, Keeps s.heap h' fp → Q none { s with heap := h', toks := tk }) → wpAny (model prog w) A (pyNext (.ref it)) Q E s
  keepS : ∀ i h h', St i h → Keeps h h' (· = S) → St i h'
  keepP : ∀ j v h h', P j v h → Keeps h h' (fun b => fp b ∨ b = S) → P j v h'
  nolen : typeLookup (.type T) "__len__" = pure none
  nohint : typeLookup (.type T) "__length_hint__" = pure none
  nl : (Value.type T == Value.type "list") = false
  nt : (Value.type T == Value.type "tuple") = false

/-- the list as far as it has grown -/
structure Grown (h : Heap) (S : Addr) (i : Nat) (P : Nat → Value → Heap → Prop) (R : Value → Value → Prop) (acc : Array Value) (c : Nat) : Prop where
  ob : h.get? S = some { cls := .type "list", data := .seq acc c }
  sz : acc.size = i
  pw : acc.toList.Pairwise R
  all : ∀ (j : Nat) v, acc[j]? = some v → P j v h
noncomputable abbrev RunsTo (prog : Program) (w : World) (A : Around) (R : Result → Shared → Prop) : Fin → Shared → Prop := fun fin s' => match fin with
  | .done f => R (.ok f) s'
  | .again c' => c'.quiet = true ∧ codeAny (model prog w) A c' R s'

section
variable {prog : Program} {w : World} {A : Around} {it S : Addr} {T : String} {fp : Addr → Prop} {n : Nat} {P : Nat → Value → Heap → Prop} {R : Value → Value → Prop} {St : Nat → Heap → Prop}
/-- what the list is at the end, over the heap g at the start -/
noncomputable abbrev FeedEnd (g : Heap) (S : Addr) (fp : Addr → Prop) (n : Nat) (P : Nat → Value → Heap → Prop) (R : Value → Value → Prop) (s : Shared) (Z : Shared → Prop) : Prop :=
  ∀ h' tk acc c, Keeps g h' (fun b => fp b ∨ b = S) → Grown h' S n P R acc c → Z { s with heap := h', toks := tk }

theorem feed_loop (Fd : Feed prog w A.in1 it S T fp n P R St) (hn : n ≤ sizeLine) {s : Shared} {Z : Result → Shared → Prop} {res : Value} {g : Heap} (fin : FeedEnd g S fp n P R s (Z (.ok (.ret res)))) :
    ∀ (k i : Nat) (h : Heap) (tk : Nat) (acc : Array Value) (c : Nat), i + k = n → St i h → Grown h S i P R acc c → Keeps g h (fun b => fp b ∨ b = S) →
      codeAny (model prog w) A (.builtin "list.extend.loop" ⟨[.ref S, .ref it, res], []⟩) Z { s with heap := h, toks := tk }
  | 0, i, h, tk, acc, c, hk, hst, G, kp => by
    have e : i = n := by (first | lia | omega)
    subst e
    refine codeAny_builtin PySem.F.entry_extend_loop ?_
    rw [Around.under_plainId PySem.F.plain_extend_loop _]
    refine wpAny_bind (Fd.stop { s with heap := h, toks := tk } _ _ hst (Heap.lt_size G.ob) fun h' tk' k' => wpAny_pure ?_)
    exact fin h' tk' acc c (fun b o nb q => k' b o (fun z => nb (.inl z)) (kp b o nb q)) ⟨k' _ _ Fd.sfp G.ob, G.sz, G.pw, fun j v e => Fd.keepP _ _ _ _ (G.all j v e) fun b o nb q => k' b o (fun z => nb (.inl z)) q⟩
  | k + 1, i, h, tk, acc, c, hk, hst, G, kp => by
    refine codeAny_builtin PySem.F.entry_extend_loop ?_
    rw [Around.under_plainId PySem.F.plain_extend_loop _]
    refine wpAny_bind (Fd.item i { s with heap := h, toks := tk } _ _ (by (first | lia | omega)) hst (Heap.lt_size G.ob) fun v h' tk' k' st' pv rv => ?_)
    have ob' := k' _ _ Fd.sfp G.ob
    have other : Keeps h' (h'.update S (Obj.mapSeq (·.push v))) (· = S) := fun b o nb q => (Heap.get?_update_other _ _ (Ne.symm nb)).trans q
    have k2 : Keeps h (h'.update S (Obj.mapSeq (·.push v))) (fun b => fp b ∨ b = S) := fun b o nb q => other b o (fun z => nb (.inr z)) (k' b o (fun z => nb (.inl z)) q)
    have sz := G.sz
    refine wpAny_bind (wpAny_updateSeq ob' rfl (wpAny_pure ⟨plainId_quiet PySem.F.plain_extend_loop _, ?_⟩) (by rw [sz]; (first | lia | omega)) (by show (acc.push v).size ≤ sizeLine + 1; rw [Array.size_push, sz]; (first | lia | omega)))
    refine feed_loop Fd hn fin k (i + 1) _ tk' (acc.push v) _ (by (first | lia | omega)) (Fd.keepS _ _ _ st' other) ⟨Heap.get?_update_self _ ob' rfl, by rw [Array.size_push, sz], ?_, fun j u e => ?_⟩ (fun b o nb q => k2 b o nb (kp b o nb q))
    · rw [Array.toList_push]
      refine List.pairwise_append.mpr ⟨G.pw, List.pairwise_singleton _ _, fun a ha b hb => ?_⟩
      obtain ⟨j, hj⟩ := List.mem_iff_getElem?.mp ha
      rw [List.mem_singleton.mp hb]
      exact rv j a (G.all j a (by simpa using hj))
    · by_cases hj : j < i
      · rw [Array.getElem?_push_lt (by (first | lia | omega))] at e
        exact Fd.keepP _ _ _ _ (G.all j u (by rw [Array.getElem?_eq_getElem (by (first | lia | omega))]; exact e)) k2
      · have hj' : j = i := by
          have := (Array.getElem?_eq_some_iff.mp e).1
          rw [Array.size_push] at this
          (first | lia | omega)
        subst hj'
        have e' : (acc.push v)[acc.size]? = some u := by rw [sz]; exact e
        rw [Array.getElem?_push_size] at e'
        cases e'
        exact Fd.keepP _ _ _ _ pv fun b o nb q => other b o (fun z => nb (.inr z)) q

theorem feed_extend (Fd : Feed prog w A.in1 it S T fp n P R St) (hn : n ≤ sizeLine) {s : Shared} {Z : Result → Shared → Prop} {res : Value} {c₀ : Nat} (hst : St 0 s.heap) (hS : s.heap.get? S = some { cls := .type "list", data := .seq #[] c₀ })
    (fin : FeedEnd s.heap S fp n P R s (Z (.ok (.ret res)))) :
    wpAny (model prog w) A.in1 (Builtin.List.listExtendWith (.ref S) (.ref it) res) (RunsTo prog w A Z) (fun e s' => Z (.error e) s') s := by
  have go : ∀ (h : Heap) (c tk : Nat), Keeps s.heap h (· = S) → h.get? S = some { cls := .type "list", data := .seq #[] c } → codeAny (model prog w) A (.builtin "list.extend.loop" ⟨[.ref S, .ref it, res], []⟩) Z { s with heap := h, toks := tk } :=
    fun h c tk k o => feed_loop Fd hn fin n 0 h tk #[] c (by (first | lia | omega)) (Fd.keepS _ _ _ hst k) ⟨o, rfl, .nil, fun j v e => by simp at e⟩ fun b o nb q => k b o (fun z => nb (.inr z)) q
  obtain ⟨oi, hoi, hci⟩ := Fd.ty 0 _ hst
  have hT : s.TypeIs (.ref it) T := ⟨oi, hoi, hci⟩
  have nsame : Builtin.List.listSameRef (.ref S) (.ref it) = false := by simp [Builtin.List.listSameRef, Ne.symm Fd.ne]
  unfold Builtin.List.listExtendWith
  refine wpAny_bind (wpAny_typeOf hT ?_)
  simp only [nsame, Fd.nl, Fd.nt, Bool.or_false, Bool.false_eq_true, if_false]
  refine wpAny_bind (Fd.self s _ _ hst ?_)
  have hint : ∀ (Q : Bool → Shared → Prop), Q true s → wpAny (model prog w) A.in1 (Builtin.List.listLengthHint (.ref it)) Q (fun e s' => Z (.error e) s') s := fun Q q => by
    unfold Builtin.List.listLengthHint
    refine wpAny_bind (wpAny_specialOf hT Fd.nolen ?_)
    refine wpAny_ite_split (fun z => absurd z (by decide)) fun _ => wpAny_ite_split (fun z => absurd z (by decide)) fun _ => ?_
    exact wpAny_bind (wpAny_specialOf hT Fd.nohint (wpAny_pure q))
  refine wpAny_bind (wpAny_holding (hint _ ?_))
  refine wpAny_ite_split (fun _ => ?_) fun _ => wpAny_pure ⟨plainId_quiet PySem.F.plain_extend_loop _, go _ c₀ _ (fun _ _ _ q => q) hS⟩
  refine wpAny_bind (wpAny_rule (wpAny_bind ?_))
  have o1 := Heap.get?_update_self (Obj.mapSeq (·.push Value.none)) hS rfl
  have o2 := Heap.get?_update_self (Obj.mapSeq (·.pop)) o1 rfl
  refine wpAny_bind (wpAny_updateSeq hS rfl (wpAny_updateSeq (hz := by seq_fits) o1 rfl (wpAny_pure ⟨plainId_quiet PySem.F.plain_extend_loop _, go _ _ _ (fun b o nb q => ?_) o2⟩)))
  exact (Heap.get?_update_other _ _ (Ne.symm nb)).trans ((Heap.get?_update_other _ _ (Ne.symm nb)).trans q)

theorem feed_init (Fd : Feed prog w A.in1 it S T fp n P R St) (hn : n ≤ sizeLine) {s : Shared} {Z : Result → Shared → Prop} (hst : St 0 s.heap) (hS : s.heap.get? S = some { cls := .type "list", data := .seq #[] })
    (fin : FeedEnd s.heap S fp n P R s (Z (.ok (.ret .none)))) :
    wpAny (model prog w) A.in1 (Builtin.«list.__init__» ⟨[.ref S, .ref it], []⟩) (RunsTo prog w A Z) (fun e s' => Z (.error e) s') s := by
  refine wpAny_bind ?_
  unfold Builtin.List.listItems
  refine wpAny_bind (wpAny_seqItems hS rfl (wpAny_pure ?_))
  have o1 := Heap.get?_update_self (Obj.mapSeq (fun _ => (#[] : Array Value))) hS rfl
  have k1 : Keeps s.heap (s.heap.update S (Obj.mapSeq (fun _ => (#[] : Array Value)))) (· = S) := fun b o nb q => (Heap.get?_update_other _ _ (Ne.symm nb)).trans q
  refine wpAny_bind (wpAny_updateSeq hS rfl (wpAny_bind (wpAny_letGo ?_)))
  refine feed_extend (s := { s with heap := _ }) Fd hn (Fd.keepS _ _ _ hst k1) o1 fun h' tk acc c k G => ?_
  exact fin h' tk acc c (fun b o nb q => k b o nb (k1 b o (fun z => nb (.inr z)) q)) G

/-- list(it): the list stands at the first free address -/
theorem feed_call {s : Shared} {Q : Value → Shared → Prop} {E : Value → Shared → Prop} (Fd : Feed prog w A.in1.in1 it s.heap.objs.size T fp n P R St) (hn : n ≤ sizeLine) (hst : ∀ o, St 0 (s.heap.push o))
    (fin : ∀ h' tk acc c, Keeps s.heap h' fp → Grown h' s.heap.objs.size n P R acc c → Q (.ref s.heap.objs.size) { s with heap := h', toks := tk }) :
    wpAny (model prog w) A (call (.type "list") [.ref it]) Q E s := by
  refine callType_codes (Q₁ := fun obj s₁ => obj = .ref s.heap.objs.size ∧ s₁ = { s with heap := s.heap.push { cls := .type "list", data := .seq #[] } }) F.called_list (F.typeCall_list_1 _) F.entry_list_init
    (code_list_new _ ⟨rfl, rfl⟩) fun obj s₁ h₁ => ?_
  obtain ⟨rfl, rfl⟩ := h₁
  have hS : (s.heap.push { cls := .type "list", data := .seq #[] }).get? s.heap.objs.size = some { cls := .type "list", data := .seq #[] } := Heap.get?_push_size _ rfl
  refine ⟨⟨_, hS, rfl⟩, F.args_list_init_2 _ _, feed_init (s := { s with heap := _ }) (A := A.in1) Fd hn (hst _) hS fun h' tk acc c k G => ⟨rfl, fin h' tk acc c (fun b o nb q => ?_) G⟩⟩
  exact k b o (fun z => z.elim nb fun z => addr_ne (Heap.lt_size q) (Nat.le_refl _) z) (Heap.get?_push_of_some _ q)
end
end L2

set_option Elab.async false
set_option linter.all false
set_option maxRecDepth 100000
set_option maxHeartbeats 4000000
/-! zip of two lists as a Feed: every pair that it has handed out is still held, so it lays a new one each turn -/
namespace L2
open PySem PySem.Spec PyProof.Rows

/-- a zip whose last pair stands at a -/
noncomputable abbrev ZipOut (h : Heap) (z TI TO a : Addr) (f : Bool) : Prop :=
  h.get? z = some { cls := .type "zip", dict := none, data := .fields #[rawInt a, .bool f, .bool false, .ref TI, .ref TO], slots := #[] }
section
variable {prog : Program} {w : World} {A : Around} {E : Value → Shared → Prop} {s : Shared} {z TI TO i1 i2 l1 l2 a : Addr} {f : Bool} {oa : Obj}
theorem zip_busy {Q : Bool → Shared → Prop} (hz : ZipOut s.heap z TI TO a f) (ha : s.heap.get? a = some oa)
    (q : ∀ h, ZipOut h z TI TO a true → Heap.SameBut z s.heap h → Q false { s with heap := h }) : wpAny (model prog w) A (Builtin.SmallTypes.ownedTupleIsFree (.ref z)) Q E s := by
  unfold Builtin.SmallTypes.ownedTupleIsFree
  refine wpAny_bind (wpAny_field hz rfl (x := rawInt a) rfl ?_)
  show wpAny _ _ (loadIfAlive ((a : Int).toNat) >>= _) _ _ _
  rw [Int.toNat_natCast]
  refine wpAny_bind (PySem.W.kdx_alive ha ?_)
  simp only [Option.isNone_some, Bool.false_eq_true, if_false]
  refine wpAny_bind (wpAny_field hz rfl (x := .bool f) rfl ?_)
  cases f
  · exact wpAny_bind (wpAny_setField_rec hz (by simp) fun h e k => wpAny_pure (q h e k))
  · exact wpAny_pure (q s.heap hz (Heap.SameBut.refl _ _))
theorem zip_out_item {k : Nat} {xs ys : Array Value} {x y : Value} {Q : Option Value → Shared → Prop} (D : ZipApart z TI TO i1 i2 l1 l2) (hz : ZipOut s.heap z TI TO a f) (ha : s.heap.get? a = some oa) (hTI : IsPair s.heap TI (.ref i1) (.ref i2))
    (h1 : s.heap.IsListIter i1 l1 k) (h2 : s.heap.IsListIter i2 l2 k) (hl1 : s.heap.IsList l1 xs) (hl2 : s.heap.IsList l2 ys) (hx : xs[k]? = some x) (hy : ys[k]? = some y)
    (q : ∀ h', ZipOut h' z TI TO a true → h'.IsListIter i1 l1 (k + 1) → h'.IsListIter i2 l2 (k + 1) → IsPair h' s.heap.objs.size x y → Keeps s.heap h' (fun b => b = z ∨ b = i1 ∨ b = i2) → Q (some (.ref s.heap.objs.size)) { s with heap := h' }) :
    wpAny (model prog w) A (pyNext (.ref z)) Q E s := by
  have hT : s.TypeIs (.ref z) "zip" := ⟨_, hz, rfl⟩
  unfold pyNext
  refine wpAny_bind (wpAny_attempt (wpAny_callSpecial?_slot (name := Str.ofString "__next__") hT F.slot_zip_next (wpAny_call_entry F.slot_zip_next hT F.entry_zip_next ?_ (F.args_zip_next_1 _))))
  change wpAny _ _ (Bind.bind (field (.ref z) 2) _) _ _ _
  refine wpAny_bind (wpAny_field hz rfl (x := .bool false) rfl ?_)
  change wpAny _ _ (Bind.bind (field (.ref z) 3) _) _ _ _
  refine wpAny_bind (wpAny_field hz rfl (x := .ref TI) rfl (wpAny_bind (wpAny_seqItems hTI rfl ?_)))
  change wpAny _ _ (Bind.bind (Builtin.SmallTypes.ownedTupleIsFree (.ref z)) _) _ _ _
  refine wpAny_bind (zip_busy hz ha fun h0 z0 k0 => ?_)
  simp only [Bool.false_eq_true, if_false, ← Array.forIn_toList, List.forIn_cons, List.forIn_nil]
  refine wpAny_bind (wpAny_bind (wpAny_bind (wpAny_holding (wpAny_bind (wpAny_nextOf_list_item (h1.extBut k0.extBut D.i1z) (hl1.extBut k0.extBut D.l1z) hx fun h4 e4 k4 => wpAny_pure (wpAny_pure ?_))))))
  refine wpAny_bind (wpAny_bind (wpAny_holding (wpAny_bind (wpAny_nextOf_list_item ((h2.extBut k0.extBut D.i2z).extBut k4.extBut D.i12.symm) ((hl2.extBut k0.extBut D.l2z).extBut k4.extBut D.l2i1) hy fun h5 e5 k5 => wpAny_pure (wpAny_pure (wpAny_pure ?_))))))
  refine wpAny_bind (wpAny_newTuple (hsz := by show 2 ≤ sizeLine; decide) (wpAny_pure ⟨_, rfl, wpAny_pure ?_⟩))
  have hsz : h5.objs.size = s.heap.objs.size := by rw [k5.1, k4.1, k0.1]
  show Q (some (.ref h5.objs.size)) _
  rw [hsz]
  refine q (h5.push { cls := .type "tuple", data := .seq #[x, y] }) (Heap.get?_push_of_some _ (k5.extBut _ _ D.i2z.symm (k4.extBut _ _ D.i1z.symm z0))) ((e4.extBut k5.extBut D.i12).at fun o e => Heap.get?_push_of_some _ e) (e5.at fun o e => Heap.get?_push_of_some _ e) (by rw [← hsz]; exact Heap.get?_push_size _ rfl) fun b o nb e => ?_
  exact Heap.get?_push_of_some _ (k5.extBut _ _ (fun z => nb (.inr (.inr z))) (k4.extBut _ _ (fun z => nb (.inr (.inl z))) (k0.extBut _ _ (fun z => nb (.inl z)) e)))
theorem zip_out_stop {k : Nat} {xs ys : Array Value} {Q : Option Value → Shared → Prop} (hh : A.handled = none) (D : ZipApart z TI TO i1 i2 l1 l2) (hz : ZipOut s.heap z TI TO a f) (ha : s.heap.get? a = some oa) (hTI : IsPair s.heap TI (.ref i1) (.ref i2))
    (h1 : s.heap.IsListIter i1 l1 k) (h2 : s.heap.IsListIter i2 l2 k) (hl1 : s.heap.IsList l1 xs) (hl2 : s.heap.IsList l2 ys) (he : xs[k]? = none ∨ ys[k]? = none)
    (q : ∀ h', Keeps s.heap h' (fun b => b = z ∨ b = i1 ∨ b = i2) → Q none { s with heap := h' }) :
    wpAny (model prog w) A (pyNext (.ref z)) Q E s := by
  have hT : s.TypeIs (.ref z) "zip" := ⟨_, hz, rfl⟩
  unfold pyNext
  refine wpAny_bind (wpAny_attempt (wpAny_callSpecial?_slot (name := Str.ofString "__next__") hT F.slot_zip_next (wpAny_call_entry F.slot_zip_next hT F.entry_zip_next ?_ (F.args_zip_next_1 _))))
  change wpAny _ _ (Bind.bind (field (.ref z) 2) _) _ _ _
  refine wpAny_bind (wpAny_field hz rfl (x := .bool false) rfl ?_)
  change wpAny _ _ (Bind.bind (field (.ref z) 3) _) _ _ _
  refine wpAny_bind (wpAny_field hz rfl (x := .ref TI) rfl (wpAny_bind (wpAny_seqItems hTI rfl ?_)))
  change wpAny _ _ (Bind.bind (Builtin.SmallTypes.ownedTupleIsFree (.ref z)) _) _ _ _
  refine wpAny_bind (zip_busy hz ha fun h0 z0 k0 => ?_)
  simp only [Bool.false_eq_true, if_false, ← Array.forIn_toList, List.forIn_cons, List.forIn_nil]
  refine wpAny_bind (wpAny_bind (wpAny_bind (wpAny_holding ?_)))
  cases hx : xs[k]? with
  | none =>
    refine wpAny_bind (wpAny_nextOf_list_end hh (h1.extBut k0.extBut D.i1z) (hl1.extBut k0.extBut D.l1z) hx fun h4 e k4 oe => ?_)
    obtain ⟨o, ho, hc⟩ := oe
    exact wpAny_bind (wpAny_isInstance (T := "StopIteration") (b := true) ⟨o, ho, hc⟩ isSubtype_stop (wpAny_pure (q h4 fun b o nb x => k4 _ _ (fun z => nb (.inr (.inl z))) (k0.extBut _ _ (fun z => nb (.inl z)) x))))
  | some x =>
    have hy : ys[k]? = none := he.resolve_left (by rw [hx]; exact fun z => nomatch z)
    refine wpAny_bind (wpAny_nextOf_list_item (h1.extBut k0.extBut D.i1z) (hl1.extBut k0.extBut D.l1z) hx fun h4 e4 k4 => wpAny_pure (wpAny_pure ?_))
    refine wpAny_bind (wpAny_bind (wpAny_holding (wpAny_bind (wpAny_nextOf_list_end hh ((h2.extBut k0.extBut D.i2z).extBut k4.extBut D.i12.symm) ((hl2.extBut k0.extBut D.l2z).extBut k4.extBut D.l2i1) hy fun h5 e k5 oe => ?_))))
    obtain ⟨o, ho, hc⟩ := oe
    exact wpAny_bind (wpAny_isInstance (T := "StopIteration") (b := true) ⟨o, ho, hc⟩ isSubtype_stop (wpAny_pure (q h5 fun b o nb x => k5 _ _ (fun z => nb (.inr (.inr z))) (k4.extBut _ _ (fun z => nb (.inr (.inl z))) (k0.extBut _ _ (fun z => nb (.inl z)) x)))))
end
/-- the zip ahead of its i-th pair; S: where the list of its pairs grows -/
structure ZipFeeds (z TI TO i1 i2 l1 l2 S : Addr) (xs ys : Array Value) (i : Nat) (h : Heap) : Prop where
  ti : IsPair h TI (.ref i1) (.ref i2)
  to : ∃ a b, IsPair h TO a b
  it1 : h.IsListIter i1 l1 i
  it2 : h.IsListIter i2 l2 i
  a1 : h.IsList l1 xs
  a2 : h.IsList l2 ys
  zp : IsZip h z TI TO .none ∨ 0 < i ∧ ∃ a f oa, ZipOut h z TI TO a f ∧ h.get? a = some oa ∧ S < a
noncomputable abbrev zipFp (z TO i1 i2 : Addr) (b : Addr) : Prop := b = z ∨ b = TO ∨ b = i1 ∨ b = i2
noncomputable abbrev ZipPair (S : Addr) (xs ys : Array Value) (j : Nat) (v : Value) (h : Heap) : Prop := Ex3 fun a x y => v = .ref a ∧ S < a ∧ xs[j]? = some x ∧ ys[j]? = some y ∧ IsPair h a x y
noncomputable abbrev Rising (u v : Value) : Prop := ∃ a b : Addr, u = .ref a ∧ v = .ref b ∧ a < b
theorem zip_feed {prog : Program} {w : World} {A : Around} {z TI TO i1 i2 l1 l2 S : Addr} {xs ys : Array Value} (hh : A.handled = none) (D : ZipApart z TI TO i1 i2 l1 l2) (b1 : z < S) (b2 : TI < S) (b3 : TO < S) (b4 : i1 < S) (b5 : i2 < S) (b6 : l1 < S) (b7 : l2 < S) :
    Feed prog w A z S "zip" (zipFp z TO i1 i2) (min xs.size ys.size) (ZipPair S xs ys) Rising (ZipFeeds z TI TO i1 i2 l1 l2 S xs ys) where
  sfp := fun q => by
    rcases q with q | q | q | q <;> (rw [q] at b1 b3 b4 b5; first | exact absurd b1 (Nat.lt_irrefl _) | exact absurd b3 (Nat.lt_irrefl _) | exact absurd b4 (Nat.lt_irrefl _) | exact absurd b5 (Nat.lt_irrefl _))
  ne := Nat.ne_of_lt b1
  ty := fun i h st => by
    rcases st.zp with q | ⟨_, a, f, oa, q, _⟩
    · exact ⟨_, q, rfl⟩
    · exact ⟨_, q, rfl⟩
  self := fun s Q E st q => by
    rcases st.zp with r | ⟨r, _⟩
    · exact wpAny_pyIter_zip r q
    · exact absurd r (Nat.lt_irrefl _)
  item := fun i s Q E hi st hS q => by
    obtain ⟨ti, ⟨a, b, to⟩, it1, it2, a1, a2, zp⟩ := st
    have hx : xs[i]? = some (xs[i]'(by (first | lia | omega))) := Array.getElem?_eq_getElem (by (first | lia | omega))
    have hy : ys[i]? = some (ys[i]'(by (first | lia | omega))) := Array.getElem?_eq_getElem (by (first | lia | omega))
    have old : ∀ j u, ZipPair S xs ys j u s.heap → Rising u (.ref s.heap.objs.size) := fun j u ⟨a, x, y, e, _, _, _, p⟩ => ⟨a, _, e, rfl, Heap.lt_size p⟩
    rcases zp with r | ⟨hi0, c, f, oc, r, oc', hc⟩
    · refine wpAny_pyNext_zip_item D r ti to it1 it2 a1 a2 hx hy fun h' r1 r2 r3 r4 r5 r6 r7 => ?_
      have kp : Keeps s.heap h' (zipFp z TO i1 i2) := fun b o nb e => r7 b o (fun z => nb (.inl z)) (fun z => nb (.inr (.inl z))) (fun z => nb (.inr (.inr (.inl z)))) (fun z => nb (.inr (.inr (.inr z)))) e
      refine q _ h' s.toks kp ⟨r7 _ _ D.TIz D.TITO D.TIi1 D.TIi2 ti, ⟨_, _, r2⟩, r3, r4, a1.at fun o e => r7 _ _ D.l1z D.l1TO D.l1i1 D.l1i2 e, a2.at fun o e => r7 _ _ D.l2z D.l2TO D.l2i1 D.l2i2 e, .inr ⟨Nat.succ_pos _, _, _, _, r1, r5, hS⟩⟩ ⟨_, _, _, rfl, hS, hx, hy, r5⟩ old
    · have ne : ∀ {b : Addr}, b < S → c ≠ b := fun hb => Nat.ne_of_gt (Nat.lt_trans hb hc)
      refine zip_out_item D r oc' ti it1 it2 a1 a2 hx hy fun h' r1 r2 r3 r4 r5 => ?_
      have kp : Keeps s.heap h' (zipFp z TO i1 i2) := fun b o nb e => r5 b o (fun z => z.elim (fun z => nb (.inl z)) fun z => nb (.inr (.inr z))) e
      refine q _ h' s.toks kp ⟨r5 _ _ (fun z => z.elim D.TIz fun z => z.elim D.TIi1 D.TIi2) ti, ⟨_, _, r5 _ _ (fun z => z.elim D.TOz fun z => z.elim D.TOi1 D.TOi2) to⟩, r2, r3, a1.at fun o e => r5 _ _ (fun z => z.elim D.l1z fun z => z.elim D.l1i1 D.l1i2) e, a2.at fun o e => r5 _ _ (fun z => z.elim D.l2z fun z => z.elim D.l2i1 D.l2i2) e,
        .inr ⟨Nat.succ_pos _, _, _, _, r1, r5 _ _ (fun z => z.elim (ne b1) fun z => z.elim (ne b4) (ne b5)) oc', hc⟩⟩ ⟨_, _, _, rfl, hS, hx, hy, r4⟩ old
  stop := fun s Q E st hS q => by
    obtain ⟨ti, ⟨a, b, to⟩, it1, it2, a1, a2, zp⟩ := st
    have he : xs[min xs.size ys.size]? = none ∨ ys[min xs.size ys.size]? = none := by
      rcases Nat.le_total xs.size ys.size with h | h
      · exact .inl (Array.getElem?_eq_none (by (first | lia | omega)))
      · exact .inr (Array.getElem?_eq_none (by (first | lia | omega)))
    rcases zp with r | ⟨hi0, c, f, oc, r, oc', hc⟩
    · exact wpAny_pyNext_zip_end hh D r ti to it1 it2 a1 a2 he fun h' k => q h' s.toks fun b o nb e => k b o (fun z => nb (.inl z)) (fun z => nb (.inr (.inl z))) (fun z => nb (.inr (.inr (.inl z)))) (fun z => nb (.inr (.inr (.inr z)))) e
    · exact zip_out_stop hh D r oc' ti it1 it2 a1 a2 he fun h' k => q h' s.toks fun b o nb e => k b o (fun z => z.elim (fun z => nb (.inl z)) fun z => nb (.inr (.inr z))) e
  keepS := fun i h h' st k => by
    obtain ⟨ti, ⟨a, b, to⟩, it1, it2, a1, a2, zp⟩ := st
    refine ⟨k _ _ (Nat.ne_of_lt b2) ti, ⟨a, b, k _ _ (Nat.ne_of_lt b3) to⟩, it1.at fun o e => k _ o (Nat.ne_of_lt b4) e, it2.at fun o e => k _ o (Nat.ne_of_lt b5) e, a1.at fun o e => k _ o (Nat.ne_of_lt b6) e, a2.at fun o e => k _ o (Nat.ne_of_lt b7) e, ?_⟩
    rcases zp with r | ⟨hi0, c, f, oc, r, oc', hc⟩
    · exact .inl (k _ _ (Nat.ne_of_lt b1) r)
    · exact .inr ⟨hi0, c, f, oc, k _ _ (Nat.ne_of_lt b1) r, k _ _ (Nat.ne_of_gt hc) oc', hc⟩
  keepP := fun j v h h' ⟨a, x, y, e, ha, h1, h2, p⟩ k => by
    have ne : ∀ {b : Addr}, b < S → a ≠ b := fun hb => Nat.ne_of_gt (Nat.lt_trans hb ha)
    exact ⟨a, x, y, e, ha, h1, h2, k _ _ (fun z => z.elim (fun z => z.elim (ne b1) fun z => z.elim (ne b3) fun z => z.elim (ne b4) (ne b5)) (Nat.ne_of_gt ha)) p⟩
  nolen := by rw [typeLookup_type, builtinLookup_eq_fast]; kernel_rfl
  nohint := by rw [typeLookup_type, builtinLookup_eq_fast]; kernel_rfl
  nl := by decide
  nt := by decide
end L2

set_option Elab.async false
set_option linter.all false
set_option maxRecDepth 100000
set_option maxHeartbeats 4000000
/-! list(zip(a, b)) over the hand layer -/
namespace L2
open PySem PySem.Spec PyProof.Rows

/-- many tuples adopted -/
theorem Inv.adoptAll {X : Cx} {pins : List (Addr × Obj)} {σ : St} : ∀ (as : List Addr) (ps : List (List V)) {H : Hp} {s : Shared}, Inv X pins σ H s → as.Nodup → as.length = ps.length → (∀ a ∈ as, FpOk X pins H a ∧ X.s₀.heap.objs.size ≤ a) →
    (∀ (j : Nat) a p, as[j]? = some a → ps[j]? = some p → p.length ≤ sizeLine ∧ ∃ its : List Value, Vals p its ∧ IsTup s.heap a its.toArray) →
    ∃ H', Inv X pins σ H' s ∧ Same H H' ∧ (∀ b, b ∉ as → H' b = H b) ∧ ∀ (j : Nat) a p, as[j]? = some a → ps[j]? = some p → H' a = some (.tup p)
  | [], ps, H, s, I, _, _, _, _ => ⟨H, I, Same.refl H, fun _ _ => rfl, fun j a p h _ => by simp at h⟩
  | a :: as, [], H, s, I, _, hl, _, _ => by simp at hl
  | a :: as, p :: ps, H, s, I, nd, hl, hf, ho => by
    obtain ⟨na, nd'⟩ := List.nodup_cons.mp nd
    obtain ⟨fa, sa⟩ := hf a List.mem_cons_self
    obtain ⟨hz, its, rv, ht⟩ := ho 0 a p rfl rfl
    have I1 := I.adopt (T := a) (o := .tup p) fa sa ⟨hz, its, rv, ht⟩
    obtain ⟨H', I', sm, same, all⟩ := Inv.adoptAll as ps I1 nd' (by simpa using hl) (fun b hb => by
      obtain ⟨fb, sb⟩ := hf b (List.mem_cons_of_mem _ hb)
      exact ⟨⟨by rw [upd_ne (fun (e : b = a) => na (by rw [← e]; exact hb))]; exact fb.1, fb.2⟩, sb⟩) (fun j b q h1 h2 => ho (j + 1) b q h1 h2)
    refine ⟨H', I', fun b o e => sm b o (by rw [upd_ne (ne_of_none e fa.1)]; exact e), fun b hb => ?_, fun j b q h1 h2 => ?_⟩
    · rw [same b fun z => hb (List.mem_cons_of_mem _ z), upd_ne (fun (z : b = a) => hb (by rw [z]; exact List.mem_cons_self))]
    · cases j with
      | zero =>
        cases h1; cases h2
        rw [same a na]; exact upd_same
      | succ j => exact all j b q h1 h2
theorem refs_of : ∀ {l : List Value}, (∀ v ∈ l, ∃ a : Addr, v = .ref a) → ∃ as : List Addr, l = as.map Value.ref
  | [], _ => ⟨[], rfl⟩
  | v :: r, h => by
    obtain ⟨a, rfl⟩ := h v List.mem_cons_self
    obtain ⟨as, rfl⟩ := refs_of fun u hu => h u (List.mem_cons_of_mem _ hu)
    exact ⟨a :: as, rfl⟩
section
variable {X : Cx}
noncomputable def tLZ (K : PySem.W.Frag) (ta : TA) : TE := fun σ H Q => ta σ H fun vs H1 => Ex4 fun l1 l2 xs ys => vs = [.ref l1, .ref l2] ∧ SqL K H1 l1 xs ∧ SqL K H1 l2 ys ∧
  ∀ H' p (as : List Addr), Same H1 H' → H1 p = none → H' p = some (.lst (as.map V.ref)) → as.length = min xs.length ys.length →
    (∀ (j : Nat) a x y, as[j]? = some a → xs[j]? = some x → ys[j]? = some y → H1 a = none ∧ H' a = some (.tup [x, y])) → Q (.ref p) H'
theorem zip_pairs {xs ys : List V} (j : Nat) (x y : V) (hx : xs[j]? = some x) (hy : ys[j]? = some y) : ((xs.zip ys).map fun q => [q.1, q.2])[j]? = some [x, y] := by
  rw [List.getElem?_map, (List.getElem?_zip_eq_some (z := (x, y))).mpr ⟨hx, hy⟩]
  rfl
theorem pe_listzip {a b : Expr} {ta : TA} {p p2 pos pos2 : Pos} (hc : X.calm = true) (hgl : Gl X "list") (hml : X.mg "list" = none) (hgz : Gl X "zip") (hmz : X.mg "zip" = none) (ha : PA X [a, b] ta)
    (hbl : bootBuiltins "list" = some (.type "list") := by first | rfl | decide) (hbz : bootBuiltins "zip" = some (.type "zip") := by first | rfl | decide)
    (hs0 : starEach [.Call (.Name "zip" p2) [a, b] [] pos2] X.env = [(false, eval (.Call (.Name "zip" p2) [a, b] [] pos2) X.env)] := by rfl)
    (hs : starEach [a, b] X.env = [(false, eval a X.env), (false, eval b X.env)] := by rfl) (hs2 : starEach [b] X.env = [(false, eval b X.env)] := by rfl) :
    PE X (.Call (.Name "list" p) [.Call (.Name "zip" p2) [a, b] [] pos2] [] pos) (tLZ X.K ta) := by
  intro pins s σ H Q I h
  refine wpAny_Call_Name_kw (ld_blt I hgl hml hbl ?_)
  refine PyProof.Rows.callWith_type1 ?_ hs0 rfl
  rw [hs0]
  show wpAny _ _ (spliced ((false, eval (.Call (.Name "zip" p2) [a, b] [] pos2) X.env) :: [])) _ _ _
  refine Calls.spliced_cons ?_
  refine Call_ (ld_blt I hgz hmz hbz (PyProof.Rows.callWith_type1 (thn (ha s σ H _ I h) fun us s1 ⟨vs, H1, I1, r1, q1⟩ => ?_) (by rw [hs, hs2]) (by rw [hs2]; rfl)))
  obtain ⟨l1, l2, xs, ys, e, q1, q2, q⟩ := q1
  subst e
  obtain ⟨u, w', rfl, r1, r2⟩ := vals2 r1
  cases r1; cases r2
  obtain ⟨its1, rv1, p1, hz1⟩ := I1.list q1
  obtain ⟨its2, rv2, p2, hz2⟩ := I1.list q2
  have e1 := rv1.length
  have e2 := rv2.length
  have a1 : l1 < s1.heap.objs.size := by obtain ⟨_, e, _⟩ := p1.isList; exact Heap.lt_size e
  have a2 : l2 < s1.heap.objs.size := by obtain ⟨_, e, _⟩ := p2.isList; exact Heap.lt_size e
  refine call_zip_2 p1.isList p2.isList fun h' hz hTI hTO hi1 hi2 hsz hk => ?_
  refine Calls.spliced_nil ?_
  have hSz : s1.heap.objs.size ≤ h'.objs.size := by rw [hsz]; exact Nat.le_add_right _ _
  have hin : ∀ n, n < 5 → s1.heap.objs.size + n < h'.objs.size := fun n hn => by rw [hsz]; exact Nat.add_lt_add_left hn _
  have zs : ∀ o, ZipFeeds (s1.heap.objs.size + 4) (s1.heap.objs.size + 2) (s1.heap.objs.size + 3) s1.heap.objs.size (s1.heap.objs.size + 1) l1 l2 h'.objs.size its1.toArray its2.toArray 0 (h'.push o) := fun o =>
    ⟨Heap.get?_push_of_some _ hTI, ⟨_, _, Heap.get?_push_of_some _ hTO⟩, hi1.at fun o e => Heap.get?_push_of_some _ e, hi2.at fun o e => Heap.get?_push_of_some _ e, (p1.isList.at fun o e => hk _ o e).push _, (p2.isList.at fun o e => hk _ o e).push _, .inl (Heap.get?_push_of_some _ hz)⟩
  refine feed_call (s := { s1 with heap := h' }) (zip_feed (I.ok.hd hc) (zipApart_new a1 a2) (hin 4 (by decide)) (hin 2 (by decide)) (hin 3 (by decide)) (hin 0 (by decide)) (hin 1 (by decide)) (Nat.lt_of_lt_of_le a1 hSz) (Nat.lt_of_lt_of_le a2 hSz)) (by simp; (first | lia | omega)) zs fun h2 tk acc c hk2 G => ?_
  obtain ⟨hS2, hsz2, hpw, hall⟩ := G
  obtain ⟨as, hacc⟩ := refs_of (l := acc.toList) fun v hv => by
    obtain ⟨j, hj⟩ := List.mem_iff_getElem?.mp hv
    obtain ⟨a, _, _, e, _⟩ := hall j v (by simpa using hj)
    exact ⟨a, e⟩
  have at_as : ∀ (j : Nat) a, as[j]? = some a → ∃ x y, h'.objs.size < a ∧ its1.toArray[j]? = some x ∧ its2.toArray[j]? = some y ∧ IsPair h2 a x y := fun j a h => by
    obtain ⟨a', x, y, e, g⟩ := hall j (.ref a) (by
      have : acc.toList[j]? = some (.ref a) := by rw [hacc, List.getElem?_map, h]; rfl
      simpa using this)
    cases e
    exact ⟨x, y, g⟩
  have above : ∀ a ∈ as, h'.objs.size < a := fun a ha => by
    obtain ⟨j, hj⟩ := List.mem_iff_getElem?.mp ha
    obtain ⟨_, _, g, _⟩ := at_as j a hj
    exact g
  have old : ∀ b o, s1.heap.get? b = some o → h2.get? b = some o := fun b o e => by
    have hb := Heap.lt_size e
    have gt : ∀ n, b ≠ s1.heap.objs.size + n := fun n => Nat.ne_of_lt (Nat.lt_of_lt_of_le hb (Nat.le_add_right _ _))
    exact hk2 b o (fun z => z.elim (gt 4) fun z => z.elim (gt 3) fun z => z.elim (gt 0) (gt 1)) (hk b o e)
  have I2 : Inv X pins σ H1 { s1 with heap := h2, toks := tk } := I1.kept old
  have hab : ∀ a ∈ as, s1.heap.objs.size ≤ a := fun a ha => Nat.le_of_lt (Nat.lt_of_le_of_lt hSz (above a ha))
  have nd : as.Nodup := by
    rw [hacc, List.pairwise_map] at hpw
    exact hpw.imp fun ⟨a, b, e1, e2, h⟩ => by cases e1; cases e2; exact Nat.ne_of_lt h
  have fpOk : ∀ a, s1.heap.objs.size ≤ a → FpOk X pins H1 a ∧ X.s₀.heap.objs.size ≤ a := fun a ha => ⟨I1.fpOk ha (I1.hok.fresh ha), Nat.le_trans I1.sz ha⟩
  have hal : as.length = min xs.length ys.length := by
    have z : acc.toList.length = as.length := by rw [hacc, List.length_map]
    simp at z hsz2
    (first | lia | omega)
  obtain ⟨H', I', sm, same, all⟩ := I2.adoptAll as ((xs.zip ys).map fun q => [q.1, q.2]) nd (by rw [List.length_map, List.length_zip]; (first | lia | omega)) (fun a ha => fpOk a (hab a ha)) (fun j a pp h1 h2' => by
    obtain ⟨x, y, _, g1, g2, g3⟩ := at_as j a h1
    obtain ⟨vx, gx, rx⟩ := vals_at rv1 g1
    obtain ⟨vy, gy, ry⟩ := vals_at rv2 g2
    have z := zip_pairs j vx vy gx gy
    rw [z] at h2'; cases h2'
    exact ⟨by show 2 ≤ sizeLine; decide, [x, y], .cons rx (.cons ry .nil), ⟨_, g3, rfl, _, rfl⟩⟩)
  have hSn : h'.objs.size ∉ as := fun hm => Nat.lt_irrefl _ (above _ hm)
  have hS1 : H1 h'.objs.size = none := I1.hok.fresh hSz
  obtain ⟨fS, sS⟩ := fpOk h'.objs.size hSz
  have fS' : FpOk X pins H' h'.objs.size := ⟨by rw [same _ hSn]; exact hS1, fS.2⟩
  have I3 := I'.adopt (T := h'.objs.size) (o := .lst (as.map V.ref)) fS' sS ⟨by rw [List.length_map]; (first | lia | omega), acc.toList, c, by
    rw [hacc]
    clear hS2 hacc all same I' sm hab nd hal hSn above at_as
    induction as with
    | nil => exact .nil
    | cons a r ih => exact .cons rfl ih, by simpa using hS2⟩
  refine ⟨.ref h'.objs.size, _, I3, rfl, q _ _ as (fun b o e => ?_) hS1 upd_same hal fun j a x y h1 h2' h3' => ⟨(fpOk a (hab a (List.mem_of_getElem? h1))).1.1, ?_⟩⟩
  · rw [upd_ne (ne_of_none e hS1)]; exact sm b o e
  · rw [upd_ne (fun (z : a = h'.objs.size) => hSn (by rw [← z]; exact List.mem_of_getElem? h1))]
    exact all j a [x, y] h1 (zip_pairs j x y h2' h3')
end
end L2

set_option Elab.async false
set_option linter.all false
set_option maxRecDepth 100000
set_option maxHeartbeats 4000000
/-! the rules that lay or change an object, with the heap behind them as a letter -/
namespace L2
open PySem PySem.Spec PyProof.Rows
structure New (H : Hp) (p : Addr) (o : HO) (H' : Hp) : Prop where
  nn : H p = none
  eq : H' = upd H p o
theorem New.at {H H' : Hp} {p : Addr} {o : HO} (n : New H p o H') : H' p = some o := by rw [n.eq]; exact upd_same
theorem New.ne {H H' : Hp} {p a : Addr} {o : HO} (n : New H p o H') (h : a ≠ p) : H' a = H a := by rw [n.eq]; exact upd_ne h
theorem New.same {H H' : Hp} {p : Addr} {o : HO} (n : New H p o H') : Same H H' := fun a u e => by rw [n.ne (ne_of_none e n.nn)]; exact e
theorem New.back {H H' : Hp} {p a : Addr} {o : HO} (n : New H p o H') (h : H' a = none) : H a = none := by
  cases e : H a with
  | none => rfl
  | some u => rw [n.same a u e] at h; cases h
structure Chg (H : Hp) (p : Addr) (o : HO) (H' : Hp) : Prop where
  eq : H' = upd H p o
theorem Chg.at {H H' : Hp} {p : Addr} {o : HO} (n : Chg H p o H') : H' p = some o := by rw [n.eq]; exact upd_same
theorem Chg.ne {H H' : Hp} {p a : Addr} {o : HO} (n : Chg H p o H') (h : a ≠ p) : H' a = H a := by rw [n.eq]; exact upd_ne h
theorem new_all {H : Hp} {o : HO} {F : Addr → Hp → Prop} : (∀ p, H p = none → F p (upd H p o)) = ∀ p H', New H p o H' → F p H' :=
  propext ⟨fun h p H' n => by rw [n.eq]; exact h p n.nn, fun h p hp => h p _ ⟨hp, rfl⟩⟩
theorem chg_all {H : Hp} {p : Addr} {o : HO} {F : Hp → Prop} : F (upd H p o) = ∀ H', Chg H p o H' → F H' :=
  propext ⟨fun h H' n => by rw [n.eq]; exact h, fun h => h _ ⟨rfl⟩⟩
section
variable {X : Cx} {pos : Pos} {es : List Expr} {t : TA}
noncomputable def tTupN (t : TA) : TE := fun σ H Q => t σ H fun xs H1 => xs.length ≤ sizeLine ∧ ∀ p H', New H1 p (.tup xs) H' → Q (.ref p) H'
noncomputable def tLstN (t : TA) : TE := fun σ H Q => t σ H fun xs H1 => xs.length ≤ sizeLine ∧ ∀ p H', New H1 p (.lst xs) H' → Q (.ref p) H'
theorem tupN {x1} (h : PA X es t) : PE X (.Tuple es x1 pos) (tTupN t) := by
  have e : tTupN t = tTup t := by
    funext σ H Q
    show t σ H _ = t σ H _
    congr 1; funext xs H1
    exact congrArg (_ ∧ ·) (new_all (F := fun p H' => Q (.ref p) H')).symm
  rw [e]; exact pe_tup h
theorem lstN (h : PA X es t) : PE X (.List es pos) (tLstN t) := by
  have e : tLstN t = tLst t := by
    funext σ H Q
    show t σ H _ = t σ H _
    congr 1; funext xs H1
    exact congrArg (_ ∧ ·) (new_all (F := fun p H' => Q (.ref p) H')).symm
  rw [e]; exact pe_lst h
noncomputable def tDispN (trs : List (TE × TE)) : TE := fun σ H Q => ∀ p H0, New H p (.dK []) H0 → tPairs trs σ H0 fun ps H2 => H2 p = some (.dK []) ∧ ∃ kvs : List (Key × V), ps = kvs.map (fun kv => (kV kv.1, kv.2)) ∧ kvs.length ≤ 15 ∧ ∀ H3, Chg H2 p (.dK (mergeK [] kvs)) H3 → Q (.ref p) H3
theorem dispN {keys : List (Option Expr)} {values : List Expr} {trs : List (TE × TE)} (h : PPs X pos keys values trs) (hall : keys.all (·.isSome) = true) (hl : keys.length = values.length) (h0 : keys ≠ [])
    (h15 : keys.length ≤ 15) : PE X (.Dict keys values pos) (tDispN trs) := by
  have e : tDispN trs = tDisp trs := by
    funext σ H Q
    unfold tDispN tDisp
    rw [new_all (F := fun p H0 => tPairs trs σ H0 fun ps H2 => H2 p = some (.dK []) ∧ ∃ kvs : List (Key × V), ps = kvs.map (fun kv => (kV kv.1, kv.2)) ∧ kvs.length ≤ 15 ∧ Q (.ref p) (upd H2 p (.dK (mergeK [] kvs))))]
    simp only [← chg_all (F := fun H3 => Q (.ref _) H3)]
  rw [e]; exact pe_disp h hall hl h0 h15
end
section
variable {X : Cx} (K : PySem.W.Frag)
/-- x[lo:hi] of a list or a text -/
noncomputable def rSlN (K : PySem.W.Frag) : V → Option Int → Option Int → Hp → VK → Prop := fun x lo hi H Q => (Ex2 fun a xs => x = .ref a ∧ SqL K H a xs ∧ ∀ p H', New H p (.lst (cutV xs lo hi)) H' → Q (.ref p) H') ∨ (∃ z, x = .str z ∧ z.length ≤ sizeLine ∧ Q (.str (Txt.slice z lo hi)) H)
theorem slN (hK : X.K = K := by rfl) : SlR X (rSlN K) := by
  subst hK
  intro pins s σ H x v vl vu lo hi sl Q I rx hs pl pu q
  refine g_sl s σ H x v vl vu lo hi sl Q I rx hs pl pu ?_
  rcases q with ⟨a, xs, e, h, q⟩ | q
  · exact .inl ⟨a, xs, e, h, fun p hp => q p _ ⟨hp, rfl⟩⟩
  · exact .inr q
theorem listN (hK : X.K = K := by rfl) : CallR X (.type "list") (fun xs H Q => ∃ p ys, xs = [.ref p] ∧ (SqL K H p ys ∨ SqT K H p ys) ∧ ∀ l H', New H l (.lst ys) H' → Q (.ref l) H') := by
  subst hK
  intro pins s σ H xs us Q I r h
  obtain ⟨p, ys, e, h, q⟩ := h
  exact call_list_of s σ H xs us Q I r ⟨p, ys, e, h, fun l hl => q l _ ⟨hl, rfl⟩⟩
theorem tupleN (hK : X.K = K := by rfl) : CallR X (.type "tuple") (fun xs H Q => ∃ p ys, xs = [.ref p] ∧ ((SqL K H p ys ∧ ∀ l H', New H l (.tup ys) H' → Q (.ref l) H') ∨ (SqT K H p ys ∧ Q (.ref p) H))) := by
  subst hK
  intro pins s σ H xs us Q I r h
  obtain ⟨p, ys, e, h⟩ := h
  refine call_tuple_of s σ H xs us Q I r ⟨p, ys, e, ?_⟩
  rcases h with ⟨h, q⟩ | h
  · exact .inl ⟨h, fun l hl => q l _ ⟨hl, rfl⟩⟩
  · exact .inr h
end
section
variable {X : Cx}
noncomputable def rAddN : R2 := fun x y H Q => (Ex2 fun i j => x = .int i ∧ y = .int j ∧ Q (.int (i + j)) H) ∨ (∃ i j, x = .str i ∧ y = .str j ∧ i.length + j.length ≤ sizeLine ∧ Q (.str (i ++ j)) H) ∨
  Ex4 fun l b xs zs => x = .ref l ∧ y = .ref b ∧ H l = some (.lst xs) ∧ H b = some (.lst zs) ∧ xs.length + zs.length ≤ sizeLine ∧ ∀ p H', New H p (.lst (xs ++ zs)) H' → Q (.ref p) H'
theorem addN : OpR X (binaryOp .Add) rAddN := by
  intro pins s σ H x y v u Q I rx ry h
  refine g_add s σ H x y v u Q I rx ry ?_
  rcases h with h | h | ⟨l, b, xs, zs, e1, e2, h1, h2, h3, q⟩
  · exact .inl h
  · exact .inr (.inl h)
  · exact .inr (.inr ⟨l, b, xs, zs, e1, e2, h1, h2, h3, fun p hp => q p _ ⟨hp, rfl⟩⟩)
noncomputable def rMulN : R2 := fun x y H Q => (Ex2 fun i j => x = .int i ∧ y = .int j ∧ CMul i j ∧ Q (.int (i * j)) H) ∨
  Ex3 fun l k xs => x = .ref l ∧ y = .int k ∧ H l = some (.lst xs) ∧ -(2 ^ 63) ≤ k ∧ k < 2 ^ 63 ∧ xs.length * k.toNat ≤ sizeLine ∧ ∀ p H', New H p (.lst (List.replicate k.toNat xs).flatten) H' → Q (.ref p) H'
theorem mulN : OpR X (binaryOp .Mult) rMulN := by
  intro pins s σ H x y v u Q I rx ry h
  refine g_mul s σ H x y v u Q I rx ry ?_
  rcases h with h | ⟨l, k, xs, e1, e2, h1, h2, h3, h4, q⟩
  · exact .inl h
  · exact .inr ⟨l, k, xs, e1, e2, h1, h2, h3, h4, fun p hp => q p _ ⟨hp, rfl⟩⟩
theorem appendN : MtM X "list.append" (fun x vs H Q => ∃ l xs y, x = .ref l ∧ vs = [y] ∧ H l = some (.lst xs) ∧ xs.length < sizeLine ∧ ∀ H', Chg H l (.lst (xs ++ [y])) H' → Q .non H') := by
  intro pins s σ H x xs v us Q I rx rv h
  obtain ⟨l, ys, y, e1, e2, h1, h2, q⟩ := h
  exact mt_append s σ H x xs v us Q I rx rv ⟨l, ys, y, e1, e2, h1, h2, q _ ⟨rfl⟩⟩
/-- pop(i), i in bounds from the left -/
theorem popAtN : MtM X "list.pop" (fun x vs H Q => ∃ l xs i y, x = .ref l ∧ vs = [.int i] ∧ H l = some (.lst xs) ∧ 0 ≤ i ∧ i < 2 ^ 63 ∧ xs[i.toNat]? = some y ∧ ∀ H', Chg H l (.lst (xs.eraseIdx i.toNat)) H' → Q y H') := by
  intro pins s σ H x xs v us Q I rx rv h
  obtain ⟨l, ys, i, y, e1, e2, h1, h2, h3, h4, q⟩ := h
  refine mt_popAt s σ H x xs v us Q I rx rv ⟨l, ys, i, i.toNat, y, e1, e2, h1, by (first | lia | omega), h3, ?_, h4, q _ ⟨rfl⟩⟩
  have hl := (List.getElem?_eq_some_iff.mp h4).1
  have q : atI ys ((i.toNat : Nat) : Int) = some y := atI_nat h4
  have ei : ((i.toNat : Nat) : Int) = i := by (first | lia | omega)
  rw [ei] at q
  obtain ⟨j, hj, hj2, _⟩ := atI_get q
  have : ixN ys.length i = some i.toNat := by unfold ixN; rw [if_pos h2, if_pos (by (first | lia | omega))]
  exact (ixN_seq this).1
end
/-- a comprehension of N turns, its list a letter -/
theorem comp_goN {J : It} {n : Nat} {js : List Nat} {g : TG} {tc : TT} {te : TE} {σ : St} {H1 : Hp} {Q : V → Hp → Prop} (N : Nat) (Pv : Nat → List V → Hp → Prop) (h0 : Pv 0 [] H1)
    (go : ∀ i ys H (Nx : List V → Hp → Prop), i < N → Pv i ys H → (∀ ys' H', Pv (i + 1) ys' H' → Nx ys' H') → J.go i H ∧ ys.length < sizeLine ∧
      ∀ x H', J.yld i H x H' → g x (List.replicate n none ++ cvals σ js) H' fun σ2 H2 => tc σ2 H2 fun b H3 => if b = true then te σ2 H3 fun y H4 => Nx (ys ++ [y]) H4 else Nx ys H3)
    (stop : ∀ ys H, Pv N ys H → J.stop N H ∧ ∀ p H', New H p (.lst ys) H' → Q (.ref p) H') : CompW J n js g tc te σ H1 fun ys H2 => ∀ p, H2 p = none → Q (.ref p) (upd H2 p (.lst ys)) :=
  comp_go N Pv h0 go fun ys H h => ⟨(stop ys H h).1, fun p hp => (stop ys H h).2 p _ ⟨hp, rfl⟩⟩
/-- the reading of an index at a place in bounds -/
theorem at_nat {α : Type} {xs : List α} {i : Int} {v : α} (h0 : 0 ≤ i) (h : xs[i.toNat]? = some v) : atI xs i = some v := by
  have q := atI_nat h
  have e : ((i.toNat : Nat) : Int) = i := by (first | lia | omega)
  rw [e] at q
  exact q
end L2

set_option Elab.async false
set_option linter.all false
set_option maxRecDepth 100000
set_option maxHeartbeats 4000000
/-! isinstance of data -/
namespace L2
open PySem PySem.Spec PyProof.Rows
/-- a data's type -/
noncomputable def tyD : PyData → String
  | .none => "NoneType"
  | .bool _ => "bool"
  | .int _ => "int"
  | .str _ => "str"
  | .list _ => "list"
  | .tuple _ => "tuple"
  | .dict _ => "dict"
section
variable {X : Cx}
theorem den_kit {pins : List (Addr × Obj)} {σ : St} {H : Hp} {s : Shared} {x : V} {u : Value} {d : PyData} (I : Inv X pins σ H s) (rx : RelV x u) (h : Den X.K H d x) : ∃ HH : Heap → Prop, PySem.W.KitX X.K u (.type (tyD d)) HH ∧ HH s.heap ∧ u ≠ .builtin "__main__.__loader__#opaque" := by
  cases d with
  | none => unfold Den at h; subst h; cases rx; exact ⟨_, PySem.W.kitx_none, True.intro, fun z => nomatch z⟩
  | bool b => unfold Den at h; subst h; cases rx; exact ⟨_, PySem.W.kitx_bool, True.intro, fun z => nomatch z⟩
  | int i => unfold Den at h; subst h; obtain ⟨t, rfl⟩ := rx; exact ⟨_, PySem.W.kitx_int, True.intro, fun z => nomatch z⟩
  | str y => unfold Den at h; subst h; obtain ⟨t, rfl⟩ := rx; exact ⟨_, PySem.W.kitx_str, True.intro, fun z => nomatch z⟩
  | list ds =>
    unfold Den at h
    obtain ⟨a, vs, rfl, h2, _⟩ := h
    cases rx
    obtain ⟨its, _, ⟨o, n, e1, e2, _⟩, _⟩ := I.list h2
    exact ⟨_, PySem.W.kitx_list, ⟨o, e1, e2⟩, fun z => nomatch z⟩
  | tuple ds =>
    unfold Den at h
    obtain ⟨a, vs, rfl, h2, _⟩ := h
    cases rx
    obtain ⟨its, _, ⟨o, e1, e2, _⟩, _⟩ := I.tuple h2
    exact ⟨_, PySem.W.kitx_tuple, ⟨o, e1, e2⟩, fun z => nomatch z⟩
  | dict _ => unfold Den at h; exact h.elim
theorem call_isiD : CallR X (.builtin "isinstance") (fun xs H Q => ∃ (x : V) (T : String) (d : PyData) (b : Bool), xs = [x, .ty T] ∧ Den X.K H d x ∧ PySem.W.kitOne X.K (.type (tyD d)) (.type T) = some b ∧ Q (.bl b) H) := by
  intro pins s σ H xs us Q I r h
  obtain ⟨x, T, d, b, rfl, hd, e, q⟩ := h
  obtain ⟨u, w', rfl, r1, r2⟩ := vals2 r
  cases r2
  obtain ⟨HH, Z, hh, hx⟩ := den_kit I r1 hd
  exact PySem.W.kia_one Z I.kIn hh e hx fun tk => ⟨.bl b, H, I.tok _, rfl, q⟩
theorem call_isiTD : CallR X (.builtin "isinstance") (fun xs H Q => ∃ (x : V) (p : Addr) (Ts : List String) (d : PyData) (b : Bool), xs = [x, .ref p] ∧ H p = some (.tup (Ts.map V.ty)) ∧ Den X.K H d x ∧ PySem.W.kitAny X.K (.type (tyD d)) (Ts.map Value.type) = some b ∧ Q (.bl b) H) := by
  intro pins s σ H xs us Q I r h
  obtain ⟨x, p, Ts, d, b, rfl, hp, hd, e, q⟩ := h
  obtain ⟨u, w', rfl, r1, r2⟩ := vals2 r
  cases r2
  obtain ⟨HH, Z, hh, hx⟩ := den_kit I r1 hd
  obtain ⟨_, its, rv, o, h1, h2, n, h3⟩ := (show ObjOk X.prog X.w H s.heap p (.tup (Ts.map V.ty)) from I.hok p _ hp)
  have ei : its = Ts.map Value.type := by
    clear e hp h3 h2 h1
    rename_i hz
    clear hz
    induction Ts generalizing its with
    | nil => cases rv; rfl
    | cons T Ts ih =>
      cases rv with
      | cons q1 q2 => cases q1; rw [ih _ q2]; rfl
  subst ei
  obtain ⟨cls, dd, data, sl⟩ := o
  simp only at h2 h3
  subst h2 h3
  exact PySem.W.kia_tup Z I.kIn hh h1 e hx fun tk => ⟨.bl b, H, I.tok _, rfl, q⟩
/-- by data, or by the type -/
noncomputable def rIsi (K : PySem.W.Frag) : List V → Hp → VK → Prop := fun xs H Q => (∃ (x : V) (T : String) (d : PyData) (b : Bool), xs = [x, .ty T] ∧ Den K H d x ∧ PySem.W.kitOne K (.type (tyD d)) (.type T) = some b ∧ Q (.bl b) H) ∨
  ∃ x T t b, xs = [x, .ty T] ∧ TyOf K H x t ∧ PySem.W.kitOne K t (.type T) = some b ∧ Q (.bl b) H
theorem isiK (K : PySem.W.Frag) (hK : X.K = K := by rfl) : CallR X (.builtin "isinstance") (rIsi K) := by subst hK; exact call_isiD.or call_isi
noncomputable def rIsiT (K : PySem.W.Frag) : List V → Hp → VK → Prop := fun xs H Q => ∃ (x : V) (p : Addr) (Ts : List String) (d : PyData) (b : Bool), xs = [x, .ref p] ∧ H p = some (.tup (Ts.map V.ty)) ∧ Den K H d x ∧ PySem.W.kitAny K (.type (tyD d)) (Ts.map Value.type) = some b ∧ Q (.bl b) H
theorem isiTK (K : PySem.W.Frag) (hK : X.K = K := by rfl) : CallR X (.builtin "isinstance") (rIsiT K) := by subst hK; exact call_isiTD
end
end L2

set_option Elab.async false
set_option linter.all false
set_option maxRecDepth 100000
set_option maxHeartbeats 4000000
/-! zip over lists and tuples (k: is it a tuple) -/
namespace L2
open PySem PySem.Spec PyProof.Rows
noncomputable def kSeq (k : Bool) : String := if k then "tuple" else "list"
noncomputable def kIter (k : Bool) : String := if k then "tuple_iterator" else "list_iterator"
/-- a list's or a tuple's items; its iterator ahead of item i -/
noncomputable def SeqOf (k : Bool) (h : Heap) (a : Addr) (its : Array Value) : Prop := ∃ o, h.get? a = some o ∧ o.cls = .type (kSeq k) ∧ ∃ n, o.data = .seq its n
noncomputable def SeqIt (k : Bool) (h : Heap) (it a : Addr) (i : Nat) : Prop := ∃ o, h.get? it = some o ∧ o.cls = .type (kIter k) ∧ o.data = .fields #[.ref a, .int i 0]
theorem SeqOf.at {k : Bool} {h h' : Heap} {a : Addr} {its : Array Value} (x : SeqOf k h a its) (e : ∀ o, h.get? a = some o → h'.get? a = some o) : SeqOf k h' a its := let ⟨o, ho, r⟩ := x; ⟨o, e _ ho, r⟩
theorem SeqIt.at {k : Bool} {h h' : Heap} {it a : Addr} {i : Nat} (x : SeqIt k h it a i) (e : ∀ o, h.get? it = some o → h'.get? it = some o) : SeqIt k h' it a i := let ⟨o, ho, r⟩ := x; ⟨o, e _ ho, r⟩
theorem SeqOf.lt {k : Bool} {h : Heap} {a : Addr} {its : Array Value} (x : SeqOf k h a its) : a < h.objs.size := let ⟨_, e, _⟩ := x; Heap.lt_size e
theorem SeqIt.lt {k : Bool} {h : Heap} {it a : Addr} {i : Nat} (x : SeqIt k h it a i) : it < h.objs.size := let ⟨_, e, _⟩ := x; Heap.lt_size e
section
variable {prog : Program} {w : World} {A : Around} {E : Value → Shared → Prop} {s : Shared} {k : Bool} {it a : Addr} {i : Nat} {its : Array Value}
theorem seq_next {x : Value} {Q : Value → Shared → Prop} (h1 : SeqIt k s.heap it a i) (h2 : SeqOf k s.heap a its) (hx : its[i]? = some x)
    (q : ∀ h', SeqIt k h' it a (i + 1) → Heap.SameBut it s.heap h' → Q x { s with heap := h' }) : wpAny (model prog w) A (Builtin.SmallTypes.nextOf (.ref it)) Q E s := by
  cases k with
  | false => exact wpAny_nextOf_list_item h1 h2 hx q
  | true =>
    obtain ⟨o, ho, hc, hd⟩ := h1
    obtain ⟨ol, hol, _, nl, hdl⟩ := h2
    have hT : s.TypeIs (.ref it) "tuple_iterator" := ⟨o, ho, hc⟩
    unfold Builtin.SmallTypes.nextOf
    refine wpAny_bind (wpAny_callSpecial?_slot (name := Str.ofString "__next__") hT F.slot_tuple_iterator_next (wpAny_call_entry F.slot_tuple_iterator_next hT F.entry_tuple_iterator_next ?_ (F.args_tuple_iterator_next_1 _)))
    change wpAny _ _ (Bind.bind (field (.ref it) 0) _) _ _ s
    refine wpAny_bind (wpAny_field ho hd (x := .ref a) rfl ?_)
    rw [if_neg (by intro z; cases z)]
    refine wpAny_bind (wpAny_field ho hd (x := .int i 0) rfl (wpAny_bind (wpAny_seqItems hol hdl ?_)))
    simp only [Int.toNat_natCast, hx]
    refine wpAny_bind (wpAny_setField ho hd (by simp) (wpAny_pure ⟨x, rfl, wpAny_pure (q _ ⟨_, Heap.get?_update_self _ ho (Obj.isFreed_of_fields (Obj.data_mapFields hd _)), (Obj.cls_mapFields ..).trans hc, ?_⟩ (Heap.SameBut.update ..))⟩))
    rw [Obj.data_mapFields hd]
    simp [rawInt]
theorem seq_stop {Q : Value → Shared → Prop} (hh : A.handled = none) (h1 : SeqIt k s.heap it a i) (h2 : SeqOf k s.heap a its) (hx : its[i]? = none)
    (q : ∀ h' e, Heap.ExtBut it s.heap h' → (∃ o, h'.get? e = some o ∧ o.cls = .type "StopIteration") → E (.ref e) { s with heap := h' }) : wpAny (model prog w) A (Builtin.SmallTypes.nextOf (.ref it)) Q E s := by
  cases k with
  | false => exact wpAny_nextOf_list_end hh h1 h2 hx q
  | true =>
    obtain ⟨o, ho, hc, hd⟩ := h1
    obtain ⟨ol, hol, _, nl, hdl⟩ := h2
    have hT : s.TypeIs (.ref it) "tuple_iterator" := ⟨o, ho, hc⟩
    unfold Builtin.SmallTypes.nextOf
    refine wpAny_bind (wpAny_callSpecial?_slot (name := Str.ofString "__next__") hT F.slot_tuple_iterator_next (wpAny_call_entry F.slot_tuple_iterator_next hT F.entry_tuple_iterator_next ?_ (F.args_tuple_iterator_next_1 _)))
    change wpAny _ _ (Bind.bind (field (.ref it) 0) _) _ _ s
    refine wpAny_bind (wpAny_field ho hd (x := .ref a) rfl ?_)
    rw [if_neg (by intro z; cases z)]
    refine wpAny_bind (wpAny_field ho hd (x := .int i 0) rfl (wpAny_bind (wpAny_seqItems hol hdl ?_)))
    simp only [Int.toNat_natCast, hx]
    refine wpAny_bind (wpAny_rule (wpAny_bind (wpAny_setField ho hd (by simp) (wpAny_bind ?_))))
    simp only [newExc, newTuple]
    refine wpAny_bind (wpAny_newObj_type ?_ (by size_fits))
    refine wpAny_bind (m := firstArgMember _ _) (wpAny_of_eq (a := Value.none) (by first | rfl | (simp only [firstArgMember]; rfl)) (wpAny_newObj_type ?_ (by size_fits)))
    simp only [raiseNew]
    refine wpAny_bind (wpAny_handled ?_)
    rw [show A.in1.handled = none from hh]
    exact wpAny_bind (wpAny_pure (wpAny_throw (q _ _ (((Heap.SameBut.update ..).extBut.push _).push _) ⟨_, Heap.get?_push_size _ rfl, rfl⟩)))
end
/-- a zip that holds no pair: its two iterators, its own pair -/
structure ZipSt (k1 k2 : Bool) (z TI TO i1 i2 l1 l2 : Addr) (i : Nat) (h : Heap) : Prop where
  zp : IsZip h z TI TO .none
  ti : IsPair h TI (.ref i1) (.ref i2)
  to : ∃ a b, IsPair h TO a b
  it1 : SeqIt k1 h i1 l1 i
  it2 : SeqIt k2 h i2 l2 i
section
variable {prog : Program} {w : World} {A : Around} {E : Value → Shared → Prop} {s : Shared} {k1 k2 : Bool} {z TI TO i1 i2 l1 l2 : Addr} {i : Nat} {xs ys : Array Value}
noncomputable abbrev zipW (z TO i1 i2 : Addr) (b : Addr) : Prop := b = z ∨ b = TO ∨ b = i1 ∨ b = i2
theorem zipk_item {x y : Value} {Q : Option Value → Shared → Prop} (D : ZipApart z TI TO i1 i2 l1 l2) (st : ZipSt k1 k2 z TI TO i1 i2 l1 l2 i s.heap) (hl1 : SeqOf k1 s.heap l1 xs) (hl2 : SeqOf k2 s.heap l2 ys) (hx : xs[i]? = some x) (hy : ys[i]? = some y)
    (q : ∀ h', IsZip h' z TI TO (rawInt s.heap.objs.size) → IsPair h' TO x y → SeqIt k1 h' i1 l1 (i + 1) → SeqIt k2 h' i2 l2 (i + 1) → IsPair h' s.heap.objs.size x y → Keeps s.heap h' (zipW z TO i1 i2) → Q (some (.ref s.heap.objs.size)) { s with heap := h' }) :
    wpAny (model prog w) A (pyNext (.ref z)) Q E s := by
  obtain ⟨hz, hTI, ⟨a, b, hTO⟩, h1, h2⟩ := st
  have hT : s.TypeIs (.ref z) "zip" := ⟨_, hz, rfl⟩
  unfold pyNext
  refine wpAny_bind (wpAny_attempt (wpAny_callSpecial?_slot (name := Str.ofString "__next__") hT F.slot_zip_next (wpAny_call_entry F.slot_zip_next hT F.entry_zip_next ?_ (F.args_zip_next_1 _))))
  change wpAny _ _ (Bind.bind (field (.ref z) 2) _) _ _ _
  refine wpAny_bind (wpAny_field hz rfl (x := .bool false) rfl ?_)
  change wpAny _ _ (Bind.bind (field (.ref z) 3) _) _ _ _
  refine wpAny_bind (wpAny_field hz rfl (x := .ref TI) rfl (wpAny_bind (wpAny_seqItems hTI rfl ?_)))
  change wpAny _ _ (Bind.bind (Builtin.SmallTypes.ownedTupleIsFree (.ref z)) _) _ _ _
  refine wpAny_bind ?_
  unfold Builtin.SmallTypes.ownedTupleIsFree
  refine wpAny_bind (wpAny_field hz rfl (x := .none) rfl (wpAny_pure ?_))
  simp only [if_true]
  refine wpAny_bind (wpAny_rule (wpAny_bind (wpAny_field hz rfl (x := .ref TO) rfl (wpAny_bind (wpAny_setField_rec hz (by simp) fun g1 z1 e1 => wpAny_bind ?_)))))
  simp only [List.zipIdx_cons, List.zipIdx_nil, List.forIn_cons, List.forIn_nil]
  refine wpAny_bind (wpAny_bind (wpAny_onRaise ?_))
  change wpAny _ _ (Bind.bind (Builtin.SmallTypes.nextOf (.ref i1)) _) _ _ _
  refine wpAny_bind (seq_next (h1.at fun o e => e1.extBut _ _ D.i1z e) (hl1.at fun o e => e1.extBut _ _ D.l1z e) hx fun g2 it1 e2 => wpAny_pure ?_)
  have to2 : IsPair g2 TO a b := e2.extBut _ _ D.TOi1 (e1.extBut _ _ D.TOz hTO)
  refine wpAny_bind (wpAny_seqItems to2 rfl (wpAny_bind (wpAny_updateSeq_pair to2 fun g3 to3 e3 => wpAny_bind (wpAny_letGo (wpAny_pure ?_)))))
  have to3 : IsPair g3 TO x b := to3
  have k13 : Keeps s.heap g3 (fun c => c = z ∨ c = i1 ∨ c = TO) := fun c o nc e => e3.extBut _ _ (fun q => nc (.inr (.inr q))) (e2.extBut _ _ (fun q => nc (.inr (.inl q))) (e1.extBut _ _ (fun q => nc (.inl q)) e))
  refine wpAny_bind (wpAny_bind (wpAny_onRaise ?_))
  change wpAny _ _ (Bind.bind (Builtin.SmallTypes.nextOf (.ref i2)) _) _ _ _
  refine wpAny_bind (seq_next (h2.at fun o e => k13 _ _ (fun q => q.elim D.i2z fun q => q.elim D.i12.symm D.TOi2.symm) e) (hl2.at fun o e => k13 _ _ (fun q => q.elim D.l2z fun q => q.elim D.l2i1 D.l2TO) e) hy fun g4 it2 e4 => wpAny_pure ?_)
  have to4 : IsPair g4 TO x b := e4.extBut _ _ D.TOi2 to3
  refine wpAny_bind (wpAny_seqItems to4 rfl (wpAny_bind (wpAny_updateSeq_pair to4 fun g5 to5 e5 => wpAny_bind (wpAny_letGo (wpAny_pure (wpAny_pure ?_))))))
  have to5 : IsPair g5 TO x y := to5
  refine wpAny_bind (wpAny_seqItems to5 rfl (wpAny_bind (wpAny_newTuple ?_)))
  have hsz : g5.objs.size = s.heap.objs.size := by rw [e5.1, e4.1, e3.1, e2.1, e1.1]
  have z5 : IsZip g5 z TI TO .ellipsis := e5.extBut _ _ D.TOz.symm (e4.extBut _ _ D.i2z.symm (e3.extBut _ _ D.TOz.symm (e2.extBut _ _ D.i1z.symm z1)))
  have k5 : Keeps s.heap g5 (zipW z TO i1 i2) := fun c o nc e => e5.extBut _ _ (fun q => nc (.inr (.inl q))) (e4.extBut _ _ (fun q => nc (.inr (.inr (.inr q)))) (k13 c o (fun q => q.elim (fun q => nc (.inl q)) fun q => q.elim (fun q => nc (.inr (.inr (.inl q)))) fun q => nc (.inr (.inl q))) e))
  have it1' : SeqIt k1 g5 i1 l1 (i + 1) := it1.at fun o e => e5.extBut _ _ D.TOi1.symm (e4.extBut _ _ D.i12 (e3.extBut _ _ D.TOi1.symm e))
  have it2' : SeqIt k2 g5 i2 l2 (i + 1) := it2.at fun o e => e5.extBut _ _ D.TOi2.symm e
  have zlt : z < g5.objs.size := Heap.lt_size z5
  change wpAny _ _ (Bind.bind (Builtin.SmallTypes.ownedTupleHandOut (.ref z) (.ref g5.objs.size)) _) _ _ _
  refine wpAny_bind ?_
  unfold Builtin.SmallTypes.ownedTupleHandOut
  have z6 : IsZip (g5.push { cls := .type "tuple", data := .seq #[x, y] }) z TI TO .ellipsis := Heap.get?_push_of_some _ z5
  refine wpAny_bind (wpAny_setField_rec z6 (by simp) fun g7 z7 e7 => ?_)
  have z7 : IsZip g7 z TI TO (rawInt g5.objs.size) := z7
  refine wpAny_setField_rec z7 (by simp) fun g8 z8 e8 => wpAny_pure ⟨_, rfl, wpAny_pure ?_⟩
  have up : ∀ c o, c ≠ z → g5.get? c = some o → g8.get? c = some o := fun c o c1 e => e8.extBut _ _ c1 (e7.extBut _ _ c1 (Heap.get?_push_of_some _ e))
  have tp : IsPair g8 g5.objs.size x y := e8.extBut _ _ (Nat.ne_of_gt zlt) (e7.extBut _ _ (Nat.ne_of_gt zlt) (Heap.get?_push_size _ rfl))
  have z8 : IsZip g8 z TI TO (rawInt g5.objs.size) := z8
  show Q (some (.ref g5.objs.size)) _
  rw [hsz] at z8 tp ⊢
  exact q g8 z8 (up _ _ D.TOz to5) (it1'.at fun o e => up _ o D.i1z e) (it2'.at fun o e => up _ o D.i2z e) tp fun c o nc e => up c o (fun q => nc (.inl q)) (k5 c o nc e)
theorem zipk_stop {Q : Option Value → Shared → Prop} (hh : A.handled = none) (D : ZipApart z TI TO i1 i2 l1 l2) (st : ZipSt k1 k2 z TI TO i1 i2 l1 l2 i s.heap) (hl1 : SeqOf k1 s.heap l1 xs) (hl2 : SeqOf k2 s.heap l2 ys) (hend : xs[i]? = none ∨ ys[i]? = none)
    (q : ∀ h', Keeps s.heap h' (zipW z TO i1 i2) → Q none { s with heap := h' }) : wpAny (model prog w) A (pyNext (.ref z)) Q E s := by
  obtain ⟨hz, hTI, ⟨a, b, hTO⟩, h1, h2⟩ := st
  have hT : s.TypeIs (.ref z) "zip" := ⟨_, hz, rfl⟩
  unfold pyNext
  refine wpAny_bind (wpAny_attempt (wpAny_callSpecial?_slot (name := Str.ofString "__next__") hT F.slot_zip_next (wpAny_call_entry F.slot_zip_next hT F.entry_zip_next ?_ (F.args_zip_next_1 _))))
  change wpAny _ _ (Bind.bind (field (.ref z) 2) _) _ _ _
  refine wpAny_bind (wpAny_field hz rfl (x := .bool false) rfl ?_)
  change wpAny _ _ (Bind.bind (field (.ref z) 3) _) _ _ _
  refine wpAny_bind (wpAny_field hz rfl (x := .ref TI) rfl (wpAny_bind (wpAny_seqItems hTI rfl ?_)))
  change wpAny _ _ (Bind.bind (Builtin.SmallTypes.ownedTupleIsFree (.ref z)) _) _ _ _
  refine wpAny_bind ?_
  unfold Builtin.SmallTypes.ownedTupleIsFree
  refine wpAny_bind (wpAny_field hz rfl (x := .none) rfl (wpAny_pure ?_))
  simp only [if_true]
  refine wpAny_bind (wpAny_rule (wpAny_bind (wpAny_field hz rfl (x := .ref TO) rfl (wpAny_bind (wpAny_setField_rec hz (by simp) fun g1 z1 e1 => wpAny_bind ?_)))))
  have z1 : IsZip g1 z TI TO .ellipsis := z1
  simp only [List.zipIdx_cons, List.zipIdx_nil, List.forIn_cons, List.forIn_nil]
  refine wpAny_bind (wpAny_bind (wpAny_onRaise ?_))
  change wpAny _ _ (Bind.bind (Builtin.SmallTypes.nextOf (.ref i1)) _) _ _ _
  cases hx : xs[i]? with
  | none =>
    refine wpAny_bind (seq_stop hh (h1.at fun o e => e1.extBut _ _ D.i1z e) (hl1.at fun o e => e1.extBut _ _ D.l1z e) hx fun g2 e e2 oe => ?_)
    obtain ⟨o, ho, hc⟩ := oe
    have z2 : IsZip g2 z TI TO .ellipsis := e2 _ _ D.i1z.symm z1
    have ez : e ≠ z := fun q => by subst q; rw [z2] at ho; cases ho; simp at hc
    refine wpAny_setField_rec z2 (by simp) fun g3 _ e3 => ?_
    refine wpAny_bind (wpAny_isInstance (T := "StopIteration") (b := true) ⟨o, e3.extBut _ _ ez ho, hc⟩ isSubtype_stop (wpAny_pure (q g3 fun c o nc h => ?_)))
    exact e3.extBut _ _ (fun q => nc (.inl q)) (e2 _ _ (fun q => nc (.inr (.inr (.inl q)))) (e1.extBut _ _ (fun q => nc (.inl q)) h))
  | some x =>
    have hy : ys[i]? = none := hend.resolve_left (by rw [hx]; exact fun z => nomatch z)
    refine wpAny_bind (seq_next (h1.at fun o e => e1.extBut _ _ D.i1z e) (hl1.at fun o e => e1.extBut _ _ D.l1z e) hx fun g2 it1 e2 => wpAny_pure ?_)
    have to2 : IsPair g2 TO a b := e2.extBut _ _ D.TOi1 (e1.extBut _ _ D.TOz hTO)
    refine wpAny_bind (wpAny_seqItems to2 rfl (wpAny_bind (wpAny_updateSeq_pair to2 fun g3 to3 e3 => wpAny_bind (wpAny_letGo (wpAny_pure ?_)))))
    have k13 : Keeps s.heap g3 (fun c => c = z ∨ c = i1 ∨ c = TO) := fun c o nc e => e3.extBut _ _ (fun q => nc (.inr (.inr q))) (e2.extBut _ _ (fun q => nc (.inr (.inl q))) (e1.extBut _ _ (fun q => nc (.inl q)) e))
    refine wpAny_bind (wpAny_bind (wpAny_onRaise ?_))
    change wpAny _ _ (Bind.bind (Builtin.SmallTypes.nextOf (.ref i2)) _) _ _ _
    refine wpAny_bind (seq_stop hh (h2.at fun o e => k13 _ _ (fun q => q.elim D.i2z fun q => q.elim D.i12.symm D.TOi2.symm) e) (hl2.at fun o e => k13 _ _ (fun q => q.elim D.l2z fun q => q.elim D.l2i1 D.l2TO) e) hy fun g4 e e4 oe => ?_)
    obtain ⟨o, ho, hc⟩ := oe
    have z4 : IsZip g4 z TI TO .ellipsis := e4 _ _ D.i2z.symm (e3.extBut _ _ D.TOz.symm (e2.extBut _ _ D.i1z.symm z1))
    have ez : e ≠ z := fun q => by subst q; rw [z4] at ho; cases ho; simp at hc
    refine wpAny_setField_rec z4 (by simp) fun g5 _ e5 => ?_
    refine wpAny_bind (wpAny_isInstance (T := "StopIteration") (b := true) ⟨o, e5.extBut _ _ ez ho, hc⟩ isSubtype_stop (wpAny_pure (q g5 fun c o nc h => ?_)))
    exact e5.extBut _ _ (fun q => nc (.inl q)) (e4 _ _ (fun q => nc (.inr (.inr (.inr q)))) (k13 c o (fun q => q.elim (fun q => nc (.inl q)) fun q => q.elim (fun q => nc (.inr (.inr (.inl q)))) fun q => nc (.inr (.inl q))) h))
theorem seq_iter {k : Bool} {a : Addr} {its : Array Value} {Q : Value → Shared → Prop} (h : SeqOf k s.heap a its) (q : Q (.ref s.heap.objs.size) { s with heap := s.heap.push { cls := .type (kIter k), data := .fields #[.ref a, .int 0 0] } }) : wpAny (model prog w) A (pyIter (.ref a)) Q E s := by
  cases k with
  | false => exact wpAny_pyIter_list h q
  | true => exact wpAny_pyIter_tuple h q
end
/-- the heap behind zip(a, b) -/
noncomputable abbrev zpO (k : Bool) (a : Addr) : Obj := { cls := .type (kIter k), data := .fields #[.ref a, .int 0 0] }
noncomputable abbrev zpH (k1 k2 : Bool) (h : Heap) (a b : Addr) : Heap := ((((h.push (zpO k1 a)).push (zpO k2 b)).push { cls := .type "tuple", data := .seq #[.ref h.objs.size, .ref (h.objs.size + 1)] }).push { cls := .type "tuple", data := .seq #[.none, .none] }).push
  { cls := .type "zip", data := .fields #[.none, .bool false, .bool false, .ref (h.objs.size + 2), .ref (h.objs.size + 3)] }
theorem zipk_new (k1 k2 : Bool) (a b : Addr) (xs ys : Array Value) :
    Meets (Builtin.«zip.__new__» ⟨[.type "zip", .ref a, .ref b], []⟩) (fun _ R s => SeqOf k1 s.heap a xs ∧ SeqOf k2 s.heap b ys ∧ R (.ok (.ret (.ref (s.heap.objs.size + 4)))) { s with heap := zpH k1 k2 s.heap a b }) :=
  .of_wp fun prog w A R s h => by
    obtain ⟨hp, g, d, tk, os⟩ := s; obtain ⟨hl1, hl2, h⟩ := h
    have hsub := sub_zip
    have hL1 : SeqOf k1 (Shared.heap ⟨hp, g, d, tk, os⟩) a xs := hl1
    have hL2 : SeqOf k2 (Shared.heap ⟨hp.push (zpO k1 a), g, d, tk, os⟩) b ys := hl2.at fun o e => Heap.get?_push_of_some _ e
    have s1 : (hp.push (zpO k1 a)).objs.size = hp.objs.size + 1 := Heap.size_push ..
    wp_walk using seq_iter hL1, seq_iter hL2
    refine ⟨_, rfl, ?_⟩
    simp only [Heap.size_push] at h ⊢
    exact h
end L2

set_option Elab.async false
set_option linter.all false
set_option maxRecDepth 100000
set_option maxHeartbeats 4000000
/-! zip in a loop's head, over lists and tuples -/
namespace L2
open PySem PySem.Spec PyProof.Rows
section
variable {prog : Program} {w : World} {A : Around} {E : Value → Shared → Prop} {s : Shared}
theorem call_zipk {k1 k2 : Bool} {a b : Addr} {xs ys : Array Value} {Q : Value → Shared → Prop} (h1 : SeqOf k1 s.heap a xs) (h2 : SeqOf k2 s.heap b ys)
    (q : ∀ h', ZipSt k1 k2 (s.heap.objs.size + 4) (s.heap.objs.size + 2) (s.heap.objs.size + 3) s.heap.objs.size (s.heap.objs.size + 1) a b 0 h' → (∀ c o, s.heap.get? c = some o → h'.get? c = some o) → Q (.ref (s.heap.objs.size + 4)) { s with heap := h' }) :
    wpAny (model prog w) A (call (.type "zip") [.ref a, .ref b]) Q E s := by
  refine callType_new F.called_zip (by decide) (F.typeCall_zip_2 _ _) (F.newCall_zip_2 _ _) (fun obj => F.args_object_init_3 obj _ _) F.entry_zip_new (zipk_new k1 k2 a b xs ys) ⟨h1, h2, ?_⟩
  have up : ∀ {h : Heap} {c : Addr} {o : Obj} (p : Obj), h.get? c = some o → (h.push p).get? c = some o := fun p e => Heap.get?_push_of_some p e
  have last : ∀ {h : Heap} {n : Nat} {p : Obj}, h.objs.size = n → p.isFreed = false → (h.push p).get? n = some p := fun e hf => by rw [← e]; exact Heap.get?_push_size _ hf
  have z1 : (s.heap.push (zpO k1 a)).objs.size = s.heap.objs.size + 1 := Heap.size_push ..
  have z2 : ((s.heap.push (zpO k1 a)).push (zpO k2 b)).objs.size = s.heap.objs.size + 2 := by rw [Heap.size_push, z1]
  have z3 : (((s.heap.push (zpO k1 a)).push (zpO k2 b)).push { cls := .type "tuple", data := .seq #[.ref s.heap.objs.size, .ref (s.heap.objs.size + 1)] }).objs.size = s.heap.objs.size + 3 := by rw [Heap.size_push, z2]
  have z4 : ((((s.heap.push (zpO k1 a)).push (zpO k2 b)).push { cls := .type "tuple", data := .seq #[.ref s.heap.objs.size, .ref (s.heap.objs.size + 1)] }).push { cls := .type "tuple", data := .seq #[.none, .none] }).objs.size = s.heap.objs.size + 4 := by rw [Heap.size_push, z3]
  have st : ZipSt k1 k2 (s.heap.objs.size + 4) (s.heap.objs.size + 2) (s.heap.objs.size + 3) s.heap.objs.size (s.heap.objs.size + 1) a b 0 (zpH k1 k2 s.heap a b) :=
    ⟨last z4 rfl, up _ (up _ (last z2 rfl)), ⟨.none, .none, up _ (last z3 rfl)⟩, ⟨_, up _ (up _ (up _ (up _ (last rfl rfl)))), rfl, rfl⟩, ⟨_, up _ (up _ (up _ (last z1 rfl))), rfl, rfl⟩⟩
  have kp : ∀ c o, s.heap.get? c = some o → (zpH k1 k2 s.heap a b).get? c = some o := fun c o e => up _ (up _ (up _ (up _ (up _ e))))
  have ob : (zpH k1 k2 s.heap a b).get? (s.heap.objs.size + 4) = some _ := st.zp
  exact ⟨⟨_, ob, rfl⟩, q _ st kp⟩
end
/-- a list or a tuple that is known -/
noncomputable def SqK (k : Bool) (K : PySem.W.Frag) (H : Hp) (a : Addr) (xs : List V) : Prop := if k = true then SqT K H a xs else SqL K H a xs
theorem Inv.seqk {X : Cx} {pins : List (Addr × Obj)} {σ : St} {H : Hp} {s : Shared} {k : Bool} {a : Addr} {xs : List V} (I : Inv X pins σ H s) (h : SqK k X.K H a xs) : ∃ its : List Value, Vals xs its ∧ SeqOf k s.heap a its.toArray ∧ xs.length ≤ sizeLine := by
  cases k with
  | false =>
    obtain ⟨its, r, ⟨o, n, e1, e2, _, e4⟩, z⟩ := I.list h
    exact ⟨its, r, ⟨o, e1, e2, n, e4⟩, z⟩
  | true =>
    obtain ⟨its, r, ⟨o, e1, e2, n, e4⟩, z⟩ := I.tuple h
    exact ⟨its, r, ⟨o, e1, e2, n, e4⟩, z⟩
theorem Inv.seqk_inj {X : Cx} {pins : List (Addr × Obj)} {σ : St} {H : Hp} {s : Shared} {k : Bool} {a : Addr} {xs ys : List V} (I : Inv X pins σ H s) (h : SqK k X.K H a xs) (h' : SqK k X.K H a ys) : xs = ys := by
  cases k with
  | false => exact I.list_inj h h'
  | true => exact I.tuple_inj h h'
noncomputable def ItzK (K : PySem.W.Frag) (k1 k2 : Bool) (a b : Addr) : It :=
  ⟨fun i H => Ex4 fun xs ys x y => SqK k1 K H a xs ∧ SqK k2 K H b ys ∧ xs[i]? = some x ∧ ys[i]? = some y,
   fun i H v H' => ∃ T, v = .ref T ∧ ∀ xs ys x y, SqK k1 K H a xs → SqK k2 K H b ys → xs[i]? = some x → ys[i]? = some y → New H T (.tup [x, y]) H',
   fun i H => Ex2 fun xs ys => SqK k1 K H a xs ∧ SqK k2 K H b ys ∧ (xs.length ≤ i ∨ ys.length ≤ i)⟩
theorem turn_zipk {P : Program} {w : World} {K : PySem.W.Frag} {elts : List Expr} {k : Nat} {tp : Pos} (k1 k2 : Bool) (z TI TO i1 i2 l1 l2 : Addr) (D : ZipApart z TI TO i1 i2 l1 l2) :
    Turn P w K (.Tuple elts k tp) (ItzK K k1 k2 l1 l2) [z, TI, TO, i1, i2] z (ZipSt k1 k2 z TI TO i1 i2 l1 l2) where
  mem := by simp
  obj := fun i h st b hb => by
    obtain ⟨h1, h2, ⟨_, _, h3⟩, ⟨o4, h4, _, d4⟩, ⟨o5, h5, _, d5⟩⟩ := st
    simp at hb
    rcases hb with rfl | rfl | rfl | rfl | rfl
    · exact ⟨_, h1, fun _ z => nomatch z⟩
    · exact ⟨_, h2, fun _ z => nomatch z⟩
    · exact ⟨_, h3, fun _ z => nomatch z⟩
    · exact ⟨_, h4, fun v q => by rw [d4] at q; cases q⟩
    · exact ⟨_, h5, fun v q => by rw [d5] at q; cases q⟩
  keep := fun i h h' st hk => by
    obtain ⟨h1, h2, ⟨a, b, h3⟩, h4, h5⟩ := st
    exact ⟨hk z (by simp) _ h1, hk TI (by simp) _ h2, ⟨a, b, hk TO (by simp) _ h3⟩, h4.at fun o e => hk i1 (by simp) o e, h5.at fun o e => hk i2 (by simp) o e⟩
  item := fun X hP hw hK hc i pins s σ H E I hf st go => by
    subst hP hw hK
    obtain ⟨xs, ys, x, y, q1, q2, e1, e2⟩ := go
    obtain ⟨its1, r1, p1, _⟩ := I.seqk q1
    obtain ⟨its2, r2, p2, _⟩ := I.seqk q2
    obtain ⟨u1, g1, ru1⟩ := vals_get r1 e1
    obtain ⟨u2, g2, ru2⟩ := vals_get r2 e2
    have hz := st.zp
    have hTI := st.ti
    refine zipk_item D st p1 p2 g1 g2 fun h' a1 a2 a3 a4 a5 a7 => ⟨_, rfl, ?_⟩
    refine wpAny_letOwnedTupleGo_zip a1 fun h'' b1 b2 => ?_
    have hTz : s.heap.objs.size ≠ z := addr_ne' (Heap.lt_size hz) (Nat.le_refl _)
    have hf' : ∀ c ∈ [z, TO, i1, i2], FpOk X pins H c := fun c hc => hf c (by simp at hc ⊢; rcases hc with q | q | q | q <;> simp [q])
    have kp : ∀ c o, c ∉ [z, TO, i1, i2] → s.heap.get? c = some o → h''.get? c = some o := fun c o hc e => by
      simp only [List.mem_cons, List.not_mem_nil, or_false] at hc
      exact b2.extBut c o (fun q => hc (.inl q)) (a7 c o hc e)
    have I1 : Inv X pins σ H { s with heap := h'', toks := s.toks } := I.iter hf' kp
    have fT : FpOk X pins H s.heap.objs.size := I.fpOk (Nat.le_refl _) (I.hok.fresh (Nat.le_refl _))
    have oT : h''.get? s.heap.objs.size = some { cls := .type "tuple", data := .seq #[u1, u2] } := b2.extBut _ _ hTz a5
    have I2 := I1.adopt (T := s.heap.objs.size) (o := .tup [x, y]) fT I.sz ⟨by show 2 ≤ sizeLine; decide, [u1, u2], .cons ru1 (.cons ru2 .nil), ⟨_, oT, rfl, _, rfl⟩⟩
    refine ⟨.ref s.heap.objs.size, _, I2, rfl, ⟨_, rfl, fun xs' ys' x' y' q1' q2' e1' e2' => ?_⟩, ⟨b1, b2.extBut _ _ D.TIz (a7 _ _ (fun q => q.elim D.TIz fun q => q.elim D.TITO fun q => q.elim D.TIi1 D.TIi2) hTI), ⟨_, _, b2.extBut _ _ D.TOz a2⟩, a3.at fun o e => b2.extBut _ _ D.i1z e, a4.at fun o e => b2.extBut _ _ D.i2z e⟩, fun c hc => ?_⟩
    · rw [I.seqk_inj q1' q1] at e1'
      rw [I.seqk_inj q2' q2] at e2'
      rw [e1] at e1'; rw [e2] at e2'; cases e1'; cases e2'
      exact ⟨fT.1, rfl⟩
    · obtain ⟨_, _, ⟨_, _, hTO⟩, h1, h2⟩ := st
      have hcs : c < s.heap.objs.size := by
        simp at hc
        rcases hc with rfl | rfl | rfl | rfl | rfl
        · exact Heap.lt_size hz
        · exact Heap.lt_size hTI
        · exact Heap.lt_size hTO
        · exact h1.lt
        · exact h2.lt
      rw [upd_ne (addr_ne hcs (Nat.le_refl _))]
      exact (hf c hc).1
  done := fun X hP hw hK hc i pins s σ H E I hf st stop => by
    subst hP hw hK
    obtain ⟨xs, ys, q1, q2, e⟩ := stop
    obtain ⟨its1, r1, p1, _⟩ := I.seqk q1
    obtain ⟨its2, r2, p2, _⟩ := I.seqk q2
    have l1' := r1.length
    have l2' := r2.length
    refine zipk_stop (I.ok.hd hc) D st p1 p2 ?_ fun h' kp => ⟨rfl, ?_⟩
    · rcases e with e | e
      · exact .inl (by simp; (first | lia | omega))
      · exact .inr (by simp; (first | lia | omega))
    · refine I.iter (ch := [z, TO, i1, i2]) (t' := s.toks) (fun c hc => hf c (by simp at hc ⊢; rcases hc with q | q | q | q <;> simp [q])) fun c o hc e => ?_
      simp only [List.mem_cons, List.not_mem_nil, or_false] at hc
      exact kp c o hc e
  self := fun A i s Q E st hQ => wpAny_pyIter_zip st.zp hQ
section
variable {X : Cx}
noncomputable def iZipK (K : PySem.W.Frag) (ta : TA) : TI := fun σ H R => ta σ H fun vs H1 => Ex4 fun k1 k2 a b => vs = [.ref a, .ref b] ∧ (∃ xs, SqK k1 K H1 a xs) ∧ (∃ ys, SqK k2 K H1 b ys) ∧ R (ItzK K k1 k2 a b) H1
theorem pi_zipK (K : PySem.W.Frag) {elts : List Expr} {k : Nat} {tp : Pos} {a b : Expr} {ta : TA} {p pos : Pos} (hg : Gl X "zip") (hm : X.mg "zip" = none) (ha : PA X [a, b] ta) (hb : bootBuiltins "zip" = some (.type "zip") := by first | rfl | decide)
    (hs : starEach [a, b] X.env = [(false, eval a X.env), (false, eval b X.env)] := by rfl) (hs2 : starEach [b] X.env = [(false, eval b X.env)] := by rfl) (hK : X.K = K := by rfl) :
    PI X (.Tuple elts k tp) (.Call (.Name "zip" p) [a, b] [] pos) (iZipK K ta) := by
  subst hK
  intro pins s σ H R I h
  refine Call_ (ld_blt I hg hm hb (PyProof.Rows.callWith_type1 (thn (ha s σ H _ I h) fun us s1 ⟨vs, H1, I1, r1, q1⟩ => ?_) (by rw [hs, hs2]) (by rw [hs2]; rfl)))
  obtain ⟨k1, k2, l1, l2, e, ⟨xs, q1⟩, ⟨ys, q2⟩, q⟩ := q1
  subst e
  obtain ⟨u, w', rfl, r1, r2⟩ := vals2 r1
  cases r1; cases r2
  obtain ⟨its1, rv1, p1, _⟩ := I1.seqk q1
  obtain ⟨its2, rv2, p2, _⟩ := I1.seqk q2
  refine call_zipk p1 p2 fun h' st hk => wpAny_pyIter_zip st.zp ?_
  have I2 : Inv X pins σ H1 { s1 with heap := h' } := I1.kept (t' := s1.toks) hk
  refine ⟨_, _, _, _, H1, rfl, I2, turn_zipk k1 k2 _ _ _ _ _ _ _ (zipApart_new p1.lt p2.lt), st, fun c hc => ?_, q⟩
  have hcs : s1.heap.objs.size ≤ c := by
    simp at hc
    rcases hc with rfl | rfl | rfl | rfl | rfl
    · exact Nat.le_add_right _ _
    · exact Nat.le_add_right _ _
    · exact Nat.le_add_right _ _
    · exact Nat.le_refl _
    · exact Nat.le_add_right _ _
  exact I1.fpOk hcs (I1.hok.fresh hcs)
end
end L2

set_option Elab.async false
set_option linter.all false
set_option maxRecDepth 100000
set_option maxHeartbeats 4000000
/-! insert; loops over a list, a tuple or a text; xs[::-1]; the least of a list -/
namespace L2
open PySem PySem.Spec PyProof.Rows
section
variable {X : Cx}
end
/-- a text's signs, one by one -/
noncomputable def Itx (z : Str) : It := ⟨fun i _ => i < z.cps.size, fun i H x H' => H' = H ∧ ∀ c, z.cps[i]? = some c → x = .str ⟨#[c]⟩, fun i _ => z.cps.size ≤ i⟩
theorem turn_text {P : Program} {w : World} {K : PySem.W.Frag} {tg : Expr} (it : Addr) (z : Str) (t : Tok) : Turn P w K tg (Itx z) [it] it (fun i h => h.IsStrIter it "str_ascii_iterator" z t i) where
  mem := by simp
  obj := fun i h st b hb => by
    have e : b = it := by simpa using hb
    subst e
    obtain ⟨o, h1, h2, h3⟩ := st
    exact ⟨o, h1, fun v q => by rw [h3] at q; cases q⟩
  keep := fun i h h' st k => by
    obtain ⟨o, h1, r⟩ := st
    exact ⟨o, k it (by simp) o h1, r⟩
  item := by
    intro X hP hw hK hc i pins s σ H E I hf st hg
    subst hP hw hK
    obtain ⟨f0, f1, f2, f3, f4, f5⟩ := hf it (by simp)
    have hg : i < z.cps.size := hg
    refine wpAny_pyNext_ascii_item st (c := z.cps[i]) (by simp [hg]) fun h' st' hs' => ?_
    have I1 : Inv X pins σ H { s with heap := h', toks := s.toks + 1 } := I.turned (fun b o hb e => hs'.extBut b o hb e) f0 f1 f3 f4 f5
    obtain ⟨o, h1, h2, h3⟩ := id st'
    refine ⟨_, rfl, go_of (s := { s with heap := h', toks := s.toks + 1 }) (n := "str_ascii_iterator") h1 h2 h3 (by decide) ⟨.str ⟨#[z.cps[i]]⟩, H, I1, ⟨_, rfl⟩, ⟨rfl, fun c e => ?_⟩, st', fun b hb => (hf b hb).1⟩⟩
    rw [Array.getElem?_eq_getElem hg] at e
    cases e; rfl
  done := by
    intro X hP hw hK hc i pins s σ H E I hf st hg
    subst hP hw hK
    obtain ⟨f0, f1, f2, f3, f4, f5⟩ := hf it (by simp)
    exact wpAny_pyNext_ascii_end (I.ok.hd hc) st (Array.getElem?_eq_none hg) fun h' eb => ⟨rfl, I.turned (t' := s.toks) (fun b o hb e => eb b o hb e) f0 f1 f3 f4 f5⟩
  self := fun _ _ _ _ _ st h => wpAny_pyIter_striter_ascii st h
/-- a loop over a tuple; over a text of plain signs -/
noncomputable def iTxt (tl : TE) : TI := fun σ H R => tl σ H fun x H1 => ∃ z, x = .str z ∧ z.cps.all (· < 128) = true ∧ R (Itx z) H1
section
variable {X : Cx} {tg : Expr}
theorem pi_text {l : Expr} {tl : TE} (hl : PE X l tl) : PI X tg l (iTxt tl) := by
  intro pins s σ H R I h
  refine thn (hl s σ H _ I h) fun v s1 ⟨x, H1, I1, r1, q1⟩ => ?_
  obtain ⟨z, e, hz, q⟩ := q1
  subst e
  obtain ⟨t, rfl⟩ := r1
  refine wpAny_pyIter_ascii hz ?_
  refine ⟨s1.heap.objs.size, [s1.heap.objs.size], _, _, H1, rfl, I1.kept (t' := s1.toks) fun b o e => Heap.get?_push_of_some _ e, turn_text _ z t, ⟨_, Heap.get?_push_size _ rfl, rfl, rfl⟩, fun b hb => ?_, q⟩
  have e : b = s1.heap.objs.size := by simpa using hb
  subst e
  exact I1.fpOk (Nat.le_refl _) (I1.hok.fresh (Nat.le_refl _))
theorem pi_tupK (K : PySem.W.Frag) {l : Expr} {tl : TE} (hl : PE X l tl) (hK : X.K = K := by rfl) : PI X tg l (iTup K tl) := by subst hK; exact pi_tup hl
end
/-! xs[::-1] -/
theorem fm_map {α β : Type} {f : α → Option β} {g : α → β} : ∀ {l : List α}, (∀ k ∈ l, f k = some (g k)) → l.filterMap f = l.map g
  | [], _ => rfl
  | a :: l, h => by
    rw [List.filterMap_cons_some (h a List.mem_cons_self), List.map_cons, fm_map fun k hk => h k (List.mem_cons_of_mem _ hk)]
section
variable {X : Cx} {e : Expr} {te : TE} {pos p2 p3 p4 : Pos} {j : Nat}
theorem Vals.rev : ∀ {xs : List V} {us : List Value}, Vals xs us → Vals xs.reverse us.reverse
  | _, _, .nil => .nil
  | _, _, .cons r t => by
    rw [List.reverse_cons, List.reverse_cons]
    exact (Vals.rev t).append (.cons r .nil)
end
end L2

set_option Elab.async false
set_option linter.all false
set_option maxRecDepth 100000
set_option maxHeartbeats 4000000
/-! the least of a list of things that are compared by what stands in the heap -/
namespace L2
open PySem PySem.Spec PyProof.Rows
section
variable {prog : Program} {w : World} {A : Around} {R : Result → Shared → Prop} {I S : Addr} {fp wr : List Addr} {n : Nat} {P : Nat → Value → Prop} {St : Nat → Heap → Prop}
end
/-! the least of a list of tuples of ints -/
section
variable {X : Cx} (K : PySem.W.Frag)
end
end L2
namespace L2
open PySem
section
variable {X : Cx} (K : PySem.W.Frag)
end
end L2

set_option Elab.async false
set_option linter.all false
set_option maxRecDepth 100000
set_option maxHeartbeats 4000000
/-! {k: v for t in xs if c}: the new dict stands in the heap's letters from the start -/
namespace L2
open PySem PySem.Spec PyProof.Rows
section
variable {prog : Program} {w : World} {A : Around} {R : Result → Shared → Prop} {s : Shared}
theorem dcomp_turns {kx vx target iter : Expr} {ifs : List Expr} {scope : Scope} {pos : Pos} {it : Value} {D : Addr} {env : Env} (I : Nat → Shared → Prop)
    (turn : ∀ n s, I n s → wpAny (model prog w) A (pyNext it) (fun r s1 => match r with
      | none => R (.ok .next) s1
      | some v => wpAny (model prog w) A (letOwnedTupleGo target it v) (fun _ s1' => wpAny (model prog w) A (assign target env v) (fun _ s2 =>
          wpAny (model prog w) A (testsOf ifs env) (fun ok s3 =>
            if ok = true then wpAny (model prog w) A (eval kx env) (fun kv s4 => wpAny (model prog w) A (eval vx env) (fun vv s5 =>
              wpAny (model prog w) A (dictSet D kv vv) (fun _ s6 => ∃ m, m < n ∧ I m s6) noE s5) noE s4) noE s3
            else ∃ m, m < n ∧ I m s3) noE s2) noE s1') noE s1) noE s)
    (n : Nat) (h : I n s) : codeAny (model prog w) A (.compLoop (.DictComp kx vx [⟨target, iter, ifs, 0⟩] scope pos) 0 it (.ref D) env) R s := by
  refine codeAny_loop rfl I (fun n s hI => (show wpAny _ A (Sem.onRaise (compTurn (.DictComp kx vx [⟨target, iter, ifs, 0⟩] scope pos) 0 it (.ref D) env) (fun x => do noteFrame x env; theTreesLotGoes x)) _ _ s from wpAny_noted ?_)) n h
  rw [compTurn_dict]
  refine wpAny_bind (wpAny_standAt (wpAny_bind (noE_to (thn (turn n s hI) fun r s1 h1 => ?_))))
  cases r with
  | none => exact wpAny_pure h1
  | some v =>
    refine wpAny_bind (noE_to (thn h1 fun _ s1' h1' => ?_))
    refine wpAny_bind (noE_to (thn h1' fun _ s2 h2 => wpAny_bind (noE_to (thn h2 fun ok s3 h3 => ?_))))
    cases ok with
    | false => exact wpAny_pure ⟨rfl, h3⟩
    | true =>
      exact wpAny_bind (wpAny_bind (noE_to (thn h3 fun kv s4 h4 => wpAny_bind (wpAny_holding (noE_to (thn h4 fun vv s5 h5 => wpAny_bind (wpAny_standAt (wpAny_holding (noE_to (thn h5 fun _ s6 h6 => wpAny_pure ⟨rfl, h6⟩))))))))))
end
section
variable {X : Cx} {pins : List (Addr × Obj)} {σ : St} {H : Hp} {s : Shared} {a : Addr} {y v : V} {u r : Value} {A : Around} {E : Value → Shared → Prop}
/-- d[k] = v by dictSet, the key an int or a text -/
theorem d_dictSet {kvs : List (Key × V)} {k : Key} {Q : Unit → Shared → Prop} (I : Inv X pins σ H s) (e : H a = some (.dK kvs)) (l : kvs.length < sizeLine) (ry : RelV (kV k) u) (rv : RelV v r)
    (h : ∀ s', Inv X pins σ (upd H a (.dK (putK kvs k v))) s' → Q () s') : wpAny (model X.prog X.w) A (dictSet a u r) Q E s := by
  obtain ⟨z, hd, vs, rel, dd⟩ := dk_of I.hok e
  have hz : vs.length ≤ sizeLine := by rw [← rel.length]; exact z
  have hl : (putK kvs k v).length ≤ sizeLine := by have := length_putK kvs k v; (first | lia | omega)
  refine wpAny_dictSet_pairs (hsz := hz) (kV_is ry) dd fun h' dd' hs => h _ ?_
  have he : ∃ q, h'.get? a = some q := let ⟨q, _, _, hq, _⟩ := dd'; ⟨q, hq⟩
  exact d_write I (by rw [e]; exact True.intro) hs he (dk_new hl hd (rel.put k rv) dd')
end

section
variable {X : Cx} {pins : List (Addr × Obj)} {σ : St} {H : Hp} {s : Shared} {scope : Scope} {Nc Fc : List Str} {js : List Nat} {cl : List (Str × Addr)} {C : Addr} {fp : List Addr}
/-- the state at the block's entry, nothing pinned -/
theorem cxC_inv0 (I : Inv X pins σ H s) (c : CompOk X scope Nc Fc js) (hsub : ∀ n c, cl.lookup n = some c → X.env.cells.lookup n = some c) (hhas : ∀ y ∈ scope.names, y.2 = .free → ∃ c, cl.lookup y.1 = some c)
    (hC : s.heap.objs.size ≤ C) (hf : ∀ b ∈ fp, FpOk X pins H b) (ho : ∀ b ∈ fp, ∃ o, s.heap.get? b = some o) {h1 : Heap} {t1 : Nat} {m : Str → Option Value}
    (hk : ∀ b o, s.heap.get? b = some o → h1.get? b = some o) (hm : h1.Ns C m) :
    Inv (cxC X Nc Fc scope cl C s H fp) [] (List.replicate Nc.length none ++ cvals σ js) H { s with heap := h1, toks := t1 } := by
  refine ⟨cxC_ok I c hsub hhas hC hf ho, rfl, I.bare, Un.kept hk, ⟨m, hm, fun i x v e1 e2 e3 => ?_⟩, fun x a e => ?_, I.hok.fresh hC, fun x a e => I.freeC x a (hsub x a e), fun p hp => ?_, I.hok.kept hk, ?_⟩
  · have e1 : (Nc ++ Fc)[i]? = some x := e1
    have e2 : (List.replicate Nc.length none ++ cvals σ js)[i]? = some (some v) := e2
    by_cases hi : i < Nc.length
    · rw [List.getElem?_append_left (by simpa using hi), List.getElem?_replicate] at e2
      split at e2 <;> cases e2
    · rw [List.getElem?_append_right (by (first | lia | omega))] at e1
      rw [List.getElem?_append_right (by rw [List.length_replicate]; (first | lia | omega)), List.length_replicate] at e2
      obtain ⟨hfr, j, hj, hN⟩ := c.frees _ _ e1
      have hv : σ[j]? = some (some v) := by
        unfold cvals at e2
        rw [List.getElem?_map, hj] at e2
        have e2 : some ((σ[j]?).join) = some (some v) := e2
        cases q : σ[j]? with
        | none => rw [q] at e2; cases e2
        | some z => rw [q] at e2; cases e2; rfl
      have kx := c.free _ (mem_of_lookup' hfr) rfl
      obtain ⟨m0, hn0, hl0⟩ := I.loc
      have vis : Vis X.env.scope x := by
        rcases kx with k | k
        · exact .inr (.inl k)
        · exact .inr (.inr k)
      obtain ⟨u, ru, lk⟩ := hl0 j x v hN hv vis
      refine ⟨u, ru, .inr ⟨?_, ?_⟩⟩
      · rw [cxC_kind]; exact relabel_of_free hfr
      · obtain ⟨a, ha⟩ := hhas _ (mem_of_lookup' hfr) rfl
        refine ⟨a, ha, ?_⟩
        rcases lk with ⟨k, _⟩ | ⟨_, a', ha', hcell⟩
        · rcases kx with q | q <;> (rw [k] at q; cases q)
        · have e := hsub _ _ ha
          dsimp only at e
          rw [ha'] at e; cases e
          exact hcell.keeps hk
  · obtain ⟨v, z⟩ := I.cell x a (hsub x a e)
    exact ⟨v, z.keeps hk⟩
  · have hp : p ∈ ([] : List (Addr × Obj)) := hp
    cases hp
  · show (List.replicate Nc.length none ++ cvals σ js).length = (Nc ++ Fc).length
    unfold cvals
    rw [List.length_append, List.length_append, List.length_replicate, List.length_map, c.lens]
end
/-- the reading of a dict's comprehension: W i m H is what holds ahead of turn i (D is the new dict), m falls -/
noncomputable def CompD (J : It) (n : Nat) (js : List Nat) (g : TG) (tc : TT) (tk tv : TE) (σ : St) (D : Addr) (H1 : Hp) (fin : Hp → Prop) : Prop :=
  ∃ W : Nat → Nat → Hp → Prop, (∃ m, W 0 m H1) ∧ ∀ i m H, W i m H →
    (J.stop i H ∧ fin H) ∨
    (J.go i H ∧ ∀ x H', J.yld i H x H' → g x (List.replicate n none ++ cvals σ js) H' fun σ2 H2 => tc σ2 H2 fun b H3 =>
      if b = true then tk σ2 H3 fun y H4 => tv σ2 H4 fun z H5 => Ex2 fun kvs k => H5 D = some (.dK kvs) ∧ y = kV k ∧ kvs.length < sizeLine ∧ ∃ m', m' < m ∧ W (i + 1) m' (upd H5 D (.dK (putK kvs k z))) else ∃ m', m' < m ∧ W (i + 1) m' H3)
noncomputable def tDComp (wi : TI) (n : Nat) (js : List Nat) (g : TG) (tc : TT) (tk tv : TE) : TE := fun σ H Q => wi σ H fun J H1 => ∀ D, H1 D = none → CompD J n js g tc tk tv σ D (upd H1 D (.dK [])) fun H2 => Q (.ref D) H2
theorem dcomp_core {X : Cx} {kx vx tg iter : Expr} {ifs : List Expr} {scope : Scope} {pos : Pos} {Nc Fc : List Str} {js : List Nat} {wi : TI} {g : TG} {tc : TT} {tk tv : TE} {use : Option (Value → Sem Unit)} {QV : Value → Shared → Prop}
    (hcalm : X.calm = true) (c : CompOk X scope Nc Fc js) (hi : PI X tg iter wi)
    (hg : ∀ cl C s H fp, PG (cxC X Nc Fc scope cl C s H fp) tg g) (htc : ∀ cl C s H fp, PTs (cxC X Nc Fc scope cl C s H fp) ifs tc) (htk : ∀ cl C s H fp, PE (cxC X Nc Fc scope cl C s H fp) kx tk) (htv : ∀ cl C s H fp, PE (cxC X Nc Fc scope cl C s H fp) vx tv) (gk : Gk Nc.length g)
    {pins : List (Addr × Obj)} {s : Shared} {σ : St} {H : Hp} {fin : Addr → Hp → Prop} (I : Inv X pins σ H s)
    (h : wi σ H fun J H1 => ∀ D, H1 D = none → CompD J Nc.length js g tc tk tv σ D (upd H1 D (.dK [])) (fin D))
    (behind : ∀ (C D : Addr) (m : Str → Option Value) (H2 : Hp) (s2 : Shared), Inv X pins σ H2 s2 → s2.heap.Ns C m → FpOk X pins H2 C → fin D H2 → compPost (model X.prog X.w) X.A X.xe use QV (.ref D) C (.ok .next) s2)
    (hs : ∀ x, foldedSetIterable iter X.env x = pure x) :
    wpAny (model X.prog X.w) X.A (comprehension (.DictComp kx vx [⟨tg, iter, ifs, 0⟩] scope pos) scope X.env (firstIterPos [⟨tg, iter, ifs, 0⟩] pos) newDict false (eval iter X.env) use) QV X.xe s := by
  obtain ⟨cl, hclos, hsub, hhas⟩ := closure_of (scope := scope) (env := X.env) fun y hy hf => I.ok.has y.1 (c.free y hy hf)
  refine wpAny_comprehension_free (use := use) rfl hs hclos c.kind c.names ?_
  refine thn (hi s σ H _ I h) fun v s1 h1 => thn h1 fun itv s2 h2 => ?_
  obtain ⟨it, fp, tn, J, H2, e, I2, T, st2, f2, all⟩ := h2
  subst e
  refine wpAny_newObj_type (wpAny_newFunctionEnv c.nocell (by intro y hy; simp at hy) (fun h1 hns1 hsb1 => ?_) c.kind)
  dsimp only at hns1 hsb1 ⊢
  have hDn : H2 s2.heap.objs.size = none := I2.hok.fresh (Nat.le_refl _)
  have I2' := I2.laid (a := s2.heap.objs.size) (o := .dK []) (h' := s2.heap.push { cls := .type "dict", data := .dict #[] }) (t' := s2.toks) (fun _ _ q => Heap.get?_push_of_some _ q) (Nat.le_refl _) (dk_empty s2.heap I2.big)
  obtain ⟨W, ⟨m0, w0⟩, turn⟩ := all _ hDn
  have fo2 : ∀ b ∈ fp, ∃ o, s2.heap.get? b = some o := fun b hb => let ⟨o, e, _⟩ := T.obj 0 _ st2 b hb; ⟨o, e⟩
  have hDfp : ∀ b ∈ fp, b < s2.heap.objs.size := fun b hb => let ⟨o, e⟩ := fo2 b hb; Heap.lt_size e
  generalize hG : s2.heap.push { cls := .type "dict", dict := none, data := .dict #[] } = G at hns1 hsb1 I2' ⊢
  have toG : ∀ b o, s2.heap.get? b = some o → G.get? b = some o := fun b o e => hG ▸ Heap.get?_push_of_some _ e
  have hC : G.objs.size = s2.heap.objs.size + 1 := by rw [← hG, Heap.size_push]
  have old : ∀ b o, G.get? b = some o → h1.get? b = some o := fun b o e =>
    hsb1.extBut b o (addr_ne (Heap.lt_size e) (Nat.le_refl _)) (Heap.get?_push_of_some _ e)
  let D : Addr := s2.heap.objs.size
  let s2' : Shared := { s2 with heap := G, toks := s2.toks }
  let H2' : Hp := upd H2 D (.dK [])
  have f2' : ∀ b ∈ fp, FpOk X pins H2' b := fun b hb => by
    obtain ⟨a1, a2⟩ := f2 b hb
    refine ⟨?_, a2⟩
    show upd H2 D (.dK []) b = none
    rw [upd_ne (Nat.ne_of_lt (hDfp b hb))]; exact a1
  have fo : ∀ b ∈ fp, ∃ o, s2'.heap.get? b = some o := fun b hb => let ⟨o, e⟩ := fo2 b hb; ⟨o, toG b o e⟩
  have hfG : ∀ b ∈ fp, b < G.objs.size := fun b hb => by have := hDfp b hb; rw [hC]; exact Nat.lt_succ_of_lt this
  let Xc : Cx := cxC X Nc Fc scope cl G.objs.size s2' H2' fp
  have stat : ∀ {H' : Hp}, (∀ b ∈ fp, H' b = none) → ∀ b ∈ fp, FpOk Xc [] H' b := fun {H'} hn b hb => by
    refine ⟨hn b hb, ?_, ?_, .inl hb, fun x a e => ?_, fun p hq => ?_⟩
    · exact addr_ne (hfG b hb) (Nat.le_refl _)
    · exact (cxC_ok I2' c hsub hhas (Nat.le_refl _) f2' fo).exfs b hb
    · exact (f2 b hb).2.2.2.2.1 x a (hsub _ _ e)
    · have q : p ∈ ([] : List (Addr × Obj)) ++ [] := hq
      simp at q
  have loop : ∀ t1, codeAny (model X.prog X.w) X.A (.compLoop (.DictComp kx vx [⟨tg, iter, ifs, 0⟩] scope pos) 0 (.ref it) (.ref s2.heap.objs.size) (compEnvC scope cl G.objs.size X.env))
      (compPost (model X.prog X.w) X.A X.xe use QV (.ref s2.heap.objs.size) G.objs.size) { s2 with heap := h1, toks := t1 } := by
    intro t1
    refine dcomp_turns (fun n s' => ∃ i H', Inv Xc [] (List.replicate Nc.length none ++ cvals σ js) H' s' ∧ tn i s'.heap ∧ (∀ b ∈ fp, H' b = none) ∧ W i n H') ?_ m0
      ⟨0, H2', cxC_inv0 I2' c hsub hhas (Nat.le_refl _) f2' fo old hns1, T.keep _ _ _ st2 (fun b hb o e => old b o (toG b o e)), fun b hb => (f2' b hb).1, w0⟩
    rintro n s3 ⟨i, H3, I3, st3, fr3, w3⟩
    rcases turn i n H3 w3 with ⟨stop, qn⟩ | ⟨go, step⟩
    · refine thn (T.done Xc rfl rfl rfl hcalm i _ s3 _ H3 noE I3 (stat fr3) st3 stop) fun r s4 ⟨hr, I4⟩ => ?_
      subst hr
      show compPost _ _ _ _ _ _ _ _ _
      obtain ⟨mC, hmC, _⟩ := I4.loc
      have hCn : H3 G.objs.size = none := I4.free
      have u : Un (frs X.stack) fp H2' H3 G s4.heap := I4.base
      have hch : ∀ b ∈ fp, (b ∈ X.ex ∨ X.s₀.heap.objs.size ≤ b) ∧ b ≠ X.env.locals ∧ (∀ x c, X.env.cells.lookup x = some c → c ≠ b) ∧ ∀ p ∈ X.pn ++ pins, p.1 ≠ b := fun b hb =>
        ⟨(f2 b hb).2.2.2.1, (f2 b hb).2.1, (f2 b hb).2.2.2.2.1, (f2 b hb).2.2.2.2.2⟩
      have os4 : s4.os = s2'.os := I4.os
      have J4 : Inv X pins σ H3 s4 := I2'.call' (H' := H3) os4 u I4.hok I4.bare hch
      exact behind G.objs.size D mC H3 s4 J4 hmC (I2'.fpOk (Nat.le_refl _) hCn) qn
    · refine thn (T.item Xc rfl rfl rfl hcalm i _ s3 _ H3 noE I3 (stat fr3) st3 go) fun r s4 ⟨u, hr, h4⟩ => ?_
      subst hr
      show wpAny _ _ (letOwnedTupleGo tg (.ref it) u) _ _ _
      refine thn h4 fun _ s5 ⟨x, H5, I5, r5, y5, st5, fr5⟩ => ?_
      have I5' := I5.pinned (stat fr5) (T.obj _ _ st5)
      refine thn (hg cl G.objs.size s2' H2' fp s5 _ H5 x u _ I5' r5 (gk _ _ _ _ (step x H5 y5))) fun _ s6 ⟨σ6, H6, I6, q6, kσ, kl⟩ => ?_
      refine thn (htc cl G.objs.size s2' H2' fp s6 σ6 H6 _ I6 q6) fun b s7 ⟨H7, I7, q7⟩ => ?_
      have later : ∀ {σ' : St} {H' : Hp} {s' : Shared}, Inv Xc ([] ++ pinsAt fp s5.heap) σ' H' s' → tn (i + 1) s'.heap ∧ ∀ b ∈ fp, H' b = none := fun {σ' H' s'} Iz => by
        refine ⟨T.keep _ _ _ st5 fun b hb o e => (Iz.pin (b, o) (List.mem_append_right _ (List.mem_append_right _ (mem_pinsAt hb e)))).1, fun b hb => ?_⟩
        obtain ⟨o, e, d⟩ := T.obj _ _ st5 b hb
        exact (Iz.pin (b, o) (List.mem_append_right _ (List.mem_append_right _ (mem_pinsAt hb e)))).2.1
      have back : ∀ {pl : List (Addr × Obj)} {H' : Hp} {s' : Shared}, Inv Xc pl σ6 H' s' → Inv Xc pl (List.replicate Nc.length none ++ cvals σ js) H' s' := fun {pl H' s'} Iz => by
        refine Iz.weak (by rw [← kl]) fun j v hj => ?_
        by_cases hn : j < Nc.length
        · rw [List.getElem?_append_left (by simpa using hn), List.getElem?_replicate] at hj
          split at hj <;> cases hj
        · rw [kσ j (by (first | lia | omega))]; exact hj
      cases b with
      | false =>
        rw [if_neg Bool.false_ne_true] at q7 ⊢
        obtain ⟨m', hm', w7⟩ := q7
        obtain ⟨l1, l2⟩ := later I7
        exact ⟨m', hm', i + 1, H7, back I7.unpinned, l1, l2, w7⟩
      | true =>
        rw [if_pos rfl] at q7 ⊢
        refine thn (htk cl G.objs.size s2' H2' fp s7 σ6 H7 _ I7 q7) fun yv s8 ⟨y, H8, I8, r8, q8⟩ => ?_
        refine thn (htv cl G.objs.size s2' H2' fp s8 σ6 H8 _ I8 q8) fun zv s9 ⟨z, H9, I9, r9, q9⟩ => ?_
        obtain ⟨kvs, k, eD, ey, hl, m', hm', w9⟩ := q9
        subst ey
        refine d_dictSet (X := Xc) I9 eD hl r8 r9 fun s10 I10 => ?_
        obtain ⟨l1, l2⟩ := later I10
        exact ⟨m', hm', i + 1, _, back I10.unpinned, l1, l2, w9⟩
  exact codeAny_compStart_dict (loop _) (T.self _ 0 _ _ _ (T.keep _ _ _ st2 fun b hb o e => old b o (toG b o e)) (loop _))
theorem pe_dcomp {X : Cx} {kx vx tg iter : Expr} {ifs : List Expr} {scope : Scope} {pos : Pos} {Nc Fc : List Str} {js : List Nat} {wi : TI} {g : TG} {tc : TT} {tk tv : TE}
    (hcalm : X.calm = true) (c : CompOk X scope Nc Fc js) (hi : PI X tg iter wi) (gk : Gk Nc.length g)
    (hg : ∀ cl C s H fp, PG (cxC X Nc Fc scope cl C s H fp) tg g) (htc : ∀ cl C s H fp, PTs (cxC X Nc Fc scope cl C s H fp) ifs tc) (htk : ∀ cl C s H fp, PE (cxC X Nc Fc scope cl C s H fp) kx tk) (htv : ∀ cl C s H fp, PE (cxC X Nc Fc scope cl C s H fp) vx tv)
    (hs : ∀ x, foldedSetIterable iter X.env x = pure x := by intro _; rfl) :
    PE X (.DictComp kx vx [⟨tg, iter, ifs, 0⟩] scope pos) (tDComp wi Nc.length js g tc tk tv) := by
  intro pins s σ H Q I h
  rw [arm_eval_DictComp]
  refine dcomp_core (use := none) (fin := fun D H2 => Q (.ref D) H2) hcalm c hi hg htc htk htv gk I h (fun C D m H2 s2 I2 hm hC q => ?_) hs
  refine ⟨m, hm, fun h' hs' => ?_⟩
  exact ⟨.ref D, _, I2.turned (it := C) (t' := s2.toks) (fun b o hb e => hs'.extBut b o hb e) hC.1 (hC.2.1) hC.2.2.2.1 hC.2.2.2.2.1 hC.2.2.2.2.2, rfl, q⟩
end L2

set_option Elab.async false
set_option linter.all false
set_option maxRecDepth 100000
set_option maxHeartbeats 4000000
/-! sorted(xs) of fewer than 64 ints -/
namespace L2
open PySem PySem.Spec PyProof.Rows
theorem vals_of_ints : ∀ {ns : List Int} {us : List Value}, IntsAre us ns → Vals (ns.map V.int) us
  | _, _, .nil => .nil
  | _, _, .cons _ _ h => .cons ⟨_, rfl⟩ (vals_of_ints h)
section
variable {X : Cx} (K : PySem.W.Frag)
end
end L2

set_option Elab.async false
set_option linter.all false
set_option maxRecDepth 100000
set_option maxHeartbeats 4000000
/-! an exception in flight, with its own dict -/
namespace L2
open PySem PySem.Spec PyProof.Rows PySem.W
/-- the exception's object: class, arguments, dict; the place of its last trace -/
noncomputable def TrD (h base : Heap) (e : Addr) (cls a0 : Value) (dx : Option Addr) (fl : Value) : Prop := ∃ oe vs T oT ts,
  h.get? e = some oe ∧ oe.cls = cls ∧ oe.dict = dx ∧ oe.data = .fields vs ∧ vs[0]? = some a0 ∧ vs[1]? = some (.ref T) ∧ base.get? T = none ∧ T ≠ e ∧ h.get? T = some oT ∧ oT.data = .fields ts ∧ ts[3]? = some fl
noncomputable def FlyD (base : Heap) (l : List Env) (e : Addr) (cls a0 : Value) (dx : Option Addr) (h : Heap) : Prop := base.StaysIn h ∧ base.get? e = none ∧ h.FunFrames base l ∧ TrD h base e cls a0 dx .none
noncomputable def HeldD (base : Heap) (l : List Env) (e : Addr) (cls a0 : Value) (dx : Option Addr) (L : Addr) (h : Heap) : Prop := base.StaysIn h ∧ base.get? e = none ∧ h.FunFrames base l ∧ TrD h base e cls a0 dx (rawInt L)
theorem FlyD.own {base h : Heap} {l : List Env} {e : Addr} {cls a0 : Value} {dx : Option Addr} (x : FlyD base l e cls a0 dx h) : ∃ o, h.get? e = some o ∧ o.cls = cls ∧ o.dict = dx ∧ ∃ vs, o.data = .fields vs := by
  obtain ⟨_, _, _, oe, vs, T, oT, ts, a1, a2, a3, a4, _⟩ := x
  exact ⟨oe, a1, a2, a3, vs, a4⟩
section
variable {M : Model} {A : Around} {E : Value → Shared → Prop} {s : Shared} {base : Heap} {env : Env} {outer : List Env} {L e : Addr} {cls a0 : Value} {dx : Option Addr} {Q : Unit → Shared → Prop}
/-- one more trace, laid at the exception -/
theorem trace_laid {oe : Obj} {vs : Array Value} {head : Value} {hn : Bool} (hfr : A.frames = some (env :: outer)) (fun_ : s.heap.FunFrames base (env :: outer)) (hf : env.frame = some L) (he : s.heap.get? e = some oe) (stay : base.StaysIn s.heap) (new : base.get? e = none)
    (hd : oe.data = .fields vs) (sz : 1 < vs.size) (h0 : vs[0]? = some a0)
    (q : ∀ h', base.StaysIn h' → h'.FunFrames base (env :: outer) → TrD h' base e oe.cls a0 oe.dict (rawInt L) → s.heap.UpToSlots h' → Q () { s with heap := h' }) :
    wpAny M A (do let a ← frameOf env; let pl ← entryPlaceOf L hn; let b ← EntryCells.newEntry head a .none (rawInt L) .none pl; setField (.ref e) 1 b) Q E s := by
  have apart : e ∉ (env :: outer).filterMap (·.frame) := fun m => by
    obtain ⟨_, o, ho, nf⟩ := fun_.mem m
    rw [he] at ho; cases ho
    exact nf vs hd
  refine wpAny_bind (wpAny_frameOf_fun hfr fun_ hf fun h1 so => wpAny_bind (wpAny_entryPlaceOf fun pl isp => ?_))
  unfold EntryCells.newEntry newFields
  refine wpAny_bind (wpAny_newObj_type ?_ (isp.sizeOk5 _ _ _ _ _))
  obtain ⟨tr, etr⟩ : ∃ tr : Obj, tr = { cls := .type "traceback", dict := none, data := .fields ([head, .ref L, .none, rawInt L, .none] ++ (if pl.isEmpty then List.replicate 6 Value.none else pl)).toArray } := ⟨_, rfl⟩
  rw [← etr]
  have e1 : h1.get? e = some oe := (so.2.1 e apart).trans he
  have st1 : base.StaysIn h1 := fun b o x => (so.2.1 b fun m => by rw [(fun_.mem m).1] at x; cases x).trans (stay b o x)
  have e2 : (h1.push tr).get? e = some oe := Heap.get?_push_of_some _ e1
  refine wpAny_setField e2 hd sz (q _ ?_ ?_ ?_ ?_)
  all_goals have nT : h1.objs.size ≠ e := Nat.ne_of_gt (Heap.lt_size e1)
  all_goals have kp : ∀ b o, b ≠ e → h1.get? b = some o → ((h1.push tr).update e (Obj.mapFields (·.setIfInBounds 1 (Value.ref h1.objs.size)))).get? b = some o := fun b o nb x => (Heap.get?_update_other _ _ (Ne.symm nb)).trans (Heap.get?_push_of_some _ x)
  all_goals have nr : ∀ b o, s.heap.get? b = some o → (∀ ws, o.data ≠ .fields ws) → b ≠ e := fun b o x nf z => (by rw [z, he] at x; cases x; exact nf vs hd)
  · exact fun b o x => kp b o (fun z => by rw [z, new] at x; cases x) (st1 b o x)
  · refine fun_.of_keeps fun b o x nf => ?_
    obtain ⟨sl, hs⟩ := so.2.2 b o x
    exact ⟨_, kp b _ (nr b o x nf) hs, rfl⟩
  · have d3 := Obj.data_mapFields hd (·.setIfInBounds 1 (Value.ref h1.objs.size))
    have e3 := Heap.get?_update_self (Obj.mapFields (·.setIfInBounds 1 (Value.ref h1.objs.size))) e2 (Obj.isFreed_of_fields d3)
    refine ⟨_, _, h1.objs.size, tr, _, e3, Obj.cls_mapFields _ _, ?_, d3, by rw [Array.getElem?_setIfInBounds_ne (by decide)]; exact h0, by simp [sz], st1.fresh, nT, (Heap.get?_update_other _ _ (Ne.symm nT)).trans (Heap.get?_push_size h1 (by rw [etr]; rfl)), by rw [etr], ?_⟩
    · obtain ⟨c1, c2, c3, c4⟩ := oe
      cases c3 <;> rfl
    · first
        | (simp; done)
        | (rcases isp with rfl | ⟨_, _, _, _, _, _, _, rfl⟩ <;> simp)
  · intro b o x nf
    obtain ⟨sl, hs⟩ := so.2.2 b o x
    exact ⟨sl, kp b _ (nr b o x nf) hs⟩
/-- the frame is noted at an exception that has no trace yet -/
theorem note_first {oe : Obj} {vs : Array Value} (hfr : A.frames = some (env :: outer)) (fun_ : s.heap.FunFrames base (env :: outer)) (hf : env.frame = some L) (he : s.heap.get? e = some oe) (stay : base.StaysIn s.heap) (new : base.get? e = none)
    (hd : oe.data = .fields vs) (h1 : vs[1]? = some .none) (h0 : vs[0]? = some a0) (q : ∀ h', HeldD base (env :: outer) e oe.cls a0 oe.dict L h' → s.heap.UpToSlots h' → Q () { s with heap := h' }) : wpAny M A (noteFrame (.ref e) env) Q E s := by
  unfold noteFrame
  simp only [hf]
  refine wpAny_bind (wpAny_field he hd h1 ?_)
  rw [if_neg (by decide)]
  exact trace_laid hfr fun_ hf he stay new hd (Array.getElem?_eq_some_iff.mp h1).1 h0 fun h' k1 k2 k3 k4 => q h' ⟨k1, new, k2, k3⟩ k4
/-- a place of the trace is written: all but records stays -/
theorem slot_set {T : Addr} {oT : Obj} {ts : Array Value} {x : Value} (hT : s.heap.get? T = some oT) (dT : oT.data = .fields ts) (nT : base.get? T = none) (stay : base.StaysIn s.heap) {l : List Env} (fun_ : s.heap.FunFrames base l) :
    (∀ b, b ≠ T → (s.heap.update T (Obj.mapFields (·.setIfInBounds 3 x))).get? b = s.heap.get? b) ∧ base.StaysIn (s.heap.update T (Obj.mapFields (·.setIfInBounds 3 x))) ∧ (s.heap.update T (Obj.mapFields (·.setIfInBounds 3 x))).FunFrames base l ∧
      ∀ b o, s.heap.get? b = some o → (∀ ws, o.data ≠ .fields ws) → (s.heap.update T (Obj.mapFields (·.setIfInBounds 3 x))).get? b = some o := by
  have off : ∀ b, b ≠ T → (s.heap.update T (Obj.mapFields (·.setIfInBounds 3 x))).get? b = s.heap.get? b := fun b nb => Heap.get?_update_other _ _ (Ne.symm nb)
  have kp : ∀ b o, s.heap.get? b = some o → (∀ ws, o.data ≠ .fields ws) → (s.heap.update T (Obj.mapFields (·.setIfInBounds 3 x))).get? b = some o := fun b o z nf =>
    (off b fun w => by rw [w, hT] at z; cases z; exact nf ts dT).trans z
  exact ⟨off, fun b o z => (off b fun w => by rw [w, nT] at z; cases z).trans (stay b o z), fun_.of_keeps fun b o z nf => ⟨o, kp b o z nf, rfl⟩, kp⟩
/-- one more frame is noted -/
theorem note_on (hfr : A.frames = some (env :: outer)) (hf : env.frame = some L) (fly : FlyD base (env :: outer) e cls a0 dx s.heap) (q : ∀ h', HeldD base (env :: outer) e cls a0 dx L h' → s.heap.UpToSlots h' → Q () { s with heap := h' }) : wpAny M A (noteFrame (.ref e) env) Q E s := by
  obtain ⟨stay, new, fun_, oe, vs, T, oT, ts, he, rfl, rfl, hd, h0, h1, nT, ne, hT, dT, h3⟩ := fly
  obtain ⟨off, st2, fu2, kp⟩ := slot_set (x := .none) hT dT nT stay fun_
  unfold noteFrame
  simp only [hf]
  refine wpAny_bind (wpAny_field he hd h1 ?_)
  rw [if_pos (show (Value.ref T != Value.none) = true by simp)]
  refine wpAny_bind (wpAny_field hT dT h3 ?_)
  rw [if_neg (show ¬ ((Value.none == rawInt L) = true) by simp [rawInt])]
  refine wpAny_bind (wpAny_setField hT dT (Array.getElem?_eq_some_iff.mp h3).1 ?_)
  refine trace_laid hfr fu2 hf ((off e (Ne.symm ne)).trans he) st2 new hd (Array.getElem?_eq_some_iff.mp h1).1 h0 fun h' k1 k2 k3 k4 => q h' ⟨k1, new, k2, k3⟩ fun b o z nf => k4 b o (kp b o z nf) nf
/-- the flight is over -/
theorem lands {l : List Env} {fl : Value} (stay : base.StaysIn s.heap) (new : base.get? e = none) (fun_ : s.heap.FunFrames base l) (tr : TrD s.heap base e cls a0 dx fl) (q : ∀ h', FlyD base l e cls a0 dx h' → s.heap.UpToSlots h' → Q () { s with heap := h' }) :
    wpAny M A (setFlight (.ref e) none) Q E s := by
  obtain ⟨oe, vs, T, oT, ts, he, rfl, rfl, hd, h0, h1, nT, ne, hT, dT, h3⟩ := tr
  have sz3 : 3 < ts.size := (Array.getElem?_eq_some_iff.mp h3).1
  obtain ⟨off, st2, fu2, kp⟩ := slot_set (x := (none : Option Addr).elim Value.none fun f => rawInt f) hT dT nT stay fun_
  unfold setFlight
  refine wpAny_bind (wpAny_field he hd h1 ?_)
  rw [if_pos (show (Value.ref T != Value.none) = true by simp)]
  have dT' := Obj.data_mapFields dT (·.setIfInBounds 3 ((none : Option Addr).elim Value.none fun f => rawInt f))
  exact wpAny_setField hT dT sz3 (q _ ⟨st2, new, fu2, oe, vs, T, _, _, (off e (Ne.symm ne)).trans he, rfl, rfl, hd, h0, h1, nT, ne, Heap.get?_update_self _ hT (Obj.isFreed_of_fields dT'), dT', by simp [sz3]⟩ fun b o z nf => ⟨o.slots, kp b o z nf⟩)
theorem FlyD.tail {h : Heap} (x : FlyD base (env :: outer) e cls a0 dx h) : FlyD base outer e cls a0 dx h := let ⟨a, b, ⟨_, _, c⟩, d⟩ := x; ⟨a, b, c, d⟩
/-- the exception leaves a frame -/
theorem leaves_on (hfr : A.frames = some (env :: outer)) (hf : env.frame = some L) (fly : FlyD base (env :: outer) e cls a0 dx s.heap) (q : ∀ h', FlyD base outer e cls a0 dx h' → s.heap.UpToSlots h' → Q () { s with heap := h' }) : wpAny M A (leaving env (.ref e)) Q E s := by
  unfold leaving
  exact wpAny_bind (note_on hfr hf fly fun h1 hd up => lands hd.1 hd.2.1 hd.2.2.1 hd.2.2.2 fun h2 fly2 up2 => q h2 fly2.tail (up.trans up2))
/-- a made one leaves its first frame -/
theorem leaves_first {oe : Obj} {vs : Array Value} (hfr : A.frames = some (env :: outer)) (fun_ : s.heap.FunFrames base (env :: outer)) (hf : env.frame = some L) (he : s.heap.get? e = some oe) (stay : base.StaysIn s.heap) (new : base.get? e = none)
    (hd : oe.data = .fields vs) (h1 : vs[1]? = some .none) (h0 : vs[0]? = some a0) (q : ∀ h', FlyD base outer e oe.cls a0 oe.dict h' → s.heap.UpToSlots h' → Q () { s with heap := h' }) : wpAny M A (leaving env (.ref e)) Q E s := by
  unfold leaving
  exact wpAny_bind (note_first hfr fun_ hf he stay new hd h1 h0 fun h1 hd up => lands hd.1 hd.2.1 hd.2.2.1 hd.2.2.2 fun h2 fly2 up2 => q h2 fly2.tail (up.trans up2))
end
end L2

set_option Elab.async false
set_option linter.all false
set_option maxRecDepth 100000
set_option maxHeartbeats 4000000
/-! an exception of an own class: raised, passing the frames -/
namespace L2
open PySem PySem.Spec PyProof.Rows PySem.W
theorem ObjOk.ex {P : Program} {w : World} {H : Hp} {h : Heap} {a : Addr} {o : HO} (x : ObjOk P w H h a o) : ∃ q, h.get? a = some q := by
  cases o with
  | lst xs => obtain ⟨_, _, _, _, e⟩ := x; exact ⟨_, e⟩
  | tup xs => obtain ⟨_, _, _, _, e, _⟩ := x; exact ⟨_, e⟩
  | dK kvs => obtain ⟨_, _, _, _, _, _, _, e, _⟩ := x; exact ⟨_, e⟩
  | dT kvs => obtain ⟨_, _, _, _, _, _, _, e, _⟩ := x; exact ⟨_, e⟩
  | set S n => obtain ⟨_, _, _, _, e, _⟩ := x; exact ⟨_, e⟩
  | ins C dx fs => exact ⟨_, x.2.2.2.1⟩
  | own y => exact x
  | xd fs => obtain ⟨_, ⟨_, _, _, e, _⟩, _⟩ := x; exact ⟨_, e⟩
  | rng lo hi => obtain ⟨_, _, _, e⟩ := x; exact ⟨_, e⟩
  | frz ob u => exact ⟨_, x.1⟩
  | tbl ps => exact ⟨_, x⟩
  | met f y => exact ⟨_, x⟩
  | ext φ => exact x.2.1
/-- tracked things stand in a part B of the heap that stays -/
theorem HOk.part {P : Program} {w : World} {H : Hp} {h h' B : Heap} (x : HOk P w H h) (hB : B.StaysIn h) (hB' : B.StaysIn h') (hin : ∀ b u, H b = some u → ∃ o, B.get? b = some o) : HOk P w H h' := fun a o e =>
  (x a o e).stay (fun b u hb q => by
    obtain ⟨o', eo⟩ : ∃ o', B.get? b = some o' := by
      rcases hb with hb | hb
      · subst hb; exact hin _ _ e
      · exact hin _ _ hb
    have := hB b o' eo
    rw [q] at this; cases this
    exact hB' b _ eo) (fun _ q => q) fun _ _ q => q
/-- a letter taken away -/
noncomputable def drp (H : Hp) (a : Addr) : Hp := fun b => if b = a then none else H b
theorem drp_same {H : Hp} {a : Addr} : drp H a a = none := if_pos rfl
theorem drp_ne {H : Hp} {a b : Addr} (h : b ≠ a) : drp H a b = H b := if_neg h
/-- how an exception lies behind a call: B is what is not a frame and stays; dx is its own dict -/
noncomputable def CXE (P : Program) (w : World) (base : Heap) : CXT := fun outer H s E e s' => Ex6 fun ea cls t B H' dx => e = .ref ea ∧ s'.os = s.os ∧ AllBare s'.gens ∧ Un (frs outer) [] H H' s.heap s'.heap ∧ HOk P w H' s'.heap ∧
  base.StaysIn B ∧ (∀ b o, s.heap.get? b = some o → b ∉ frs outer → ∃ o', B.get? b = some o') ∧ (∀ b u, H' b = some u → ∃ o', B.get? b = some o') ∧ FlyD B outer ea cls (.ref t) dx s'.heap ∧ E cls dx H'
theorem fun_data {base h : Heap} : ∀ {l : List Env} {b : Addr}, h.FunFrames base l → b ∈ frs l → ∃ o, h.get? b = some o ∧ ∀ vs, o.data ≠ .fields vs := fun {l b} hl hb => by
  obtain ⟨_, o, e, n⟩ := hl.mem hb
  exact ⟨o, e, n⟩
section
variable {P : Program} {w : World} {K : PySem.W.Frag} {mg : Str → Option Value} {base : Heap} {N : List Str} {qual : Str} {scope : Scope} {f : Addr} {cd : Value} {A : Around} {outer : List Env} {s0 : Shared} {H0 : Hp} {E : XK}
/-- an exception at e, new since the def's start, leaves the def's frame -/
theorem exc_leaves {pins : List (Addr × Obj)} {σ : St} {H : Hp} {s : Shared} {e t : Addr} {oe : Obj} {vs : Array Value}
    (I : Inv (cxOf (CXE P w base) P w K mg base N qual scope f cd A outer s0 H0 E) pins σ H s) (he : s.heap.get? e = some oe) (new : s0.heap.get? e = none) (hd : oe.data = .fields vs) (v1 : vs[1]? = some .none) (v0 : vs[0]? = some (.ref t))
    (let_ : H e = none ∨ ∃ φ, H e = some (.ext φ)) (hE : E oe.cls oe.dict (drp H e)) : (cxOf (CXE P w base) P w K mg base N qual scope f cd A outer s0 H0 E).xe (.ref e) s := by
  let env := envOfC qual scope s0.heap.objs.size f cd
  let B := hideAll s.heap (e :: frs (env :: outer))
  have hst : B.StaysIn s.heap := fun b o q => of_hideAll _ q
  have hfun : s.heap.FunFrames base (env :: outer) := I.stack
  have hfr : (A.deeper env).frames = some (env :: outer) := I.ok.frames
  have hLs : ∀ b o, s0.heap.get? b = some o → b ≠ s0.heap.objs.size := fun b o q => Nat.ne_of_lt (Heap.lt_size q)
  have hes : ∀ b o, s0.heap.get? b = some o → b ≠ e := fun b o q z => by rw [z, new] at q; cases q
  have hmem : ∀ b, b ∈ frs (env :: outer) → b = s0.heap.objs.size ∨ b ∈ frs outer := fun b hb => by
    have : b ∈ (env :: outer).filterMap (·.frame) := hb
    rw [List.filterMap_cons] at this
    exact List.mem_cons.mp this
  have hbs : ∀ b o, base.get? b = some o → b ≠ e := fun b o q z => by
    have q0 := I.ok.bs b o q
    exact hes b _ q0.1 z
  have hin : ∀ b u, drp H e b = some u → ∃ o, B.get? b = some o := fun b u q => by
    have nb : b ≠ e := fun z => by rw [z, drp_same] at q; cases q
    rw [drp_ne nb] at q
    obtain ⟨o, eo⟩ := (I.hok b u q).ex
    refine ⟨o, hideAll_get _ eo fun z => ?_⟩
    rcases List.mem_cons.mp z with z | z
    · exact nb z
    · have := I.stkFree b z
      rw [q] at this; cases this
  have hbB : base.StaysIn B := fun b o q => by
    refine hideAll_get _ (I.bs b o q).1 fun z => ?_
    rcases List.mem_cons.mp z with z | z
    · exact hbs b o q z
    · have := (hfun.mem z).1
      rw [q] at this; cases this
  have ub : Un (frs outer) [] H0 H s0.heap s.heap := I.base
  show wpAny _ _ (leaving env (.ref e)) _ _ _
  refine leaves_first (base := B) hfr (funFrames_hide hfun fun v hv a ha => List.mem_cons_of_mem _ (List.mem_filterMap.mpr ⟨v, hv, ha⟩)) rfl he hst (hideAll_none _ (List.mem_cons_self ..)) hd v1 v0 fun h' fly up => ?_
  have hk : ∀ b o, b ≠ e → b ∉ frs (env :: outer) → s.heap.get? b = some o → h'.get? b = some o := fun b o ne hb q => fly.1 b o (hideAll_get _ q fun z => (List.mem_cons.mp z).elim ne hb)
  have hslot : ∀ b o, b ∈ frs (env :: outer) → s.heap.get? b = some o → ∃ sl, h'.get? b = some { o with slots := sl } := fun b o hb q => by
    obtain ⟨o', e', nf⟩ := fun_data hfun hb
    rw [q] at e'; cases e'
    exact up b o q nf
  have old : ∀ b o, s0.heap.get? b = some o → b ∉ frs outer → b ∉ frs (env :: outer) := fun b o q hb z => (hmem b z).elim (hLs b o q) hb
  have hdrop : HOk P w (drp H e) s.heap := fun b u q => by
    have nb : b ≠ e := fun z => by rw [z, drp_same] at q; cases q
    rw [drp_ne nb] at q
    refine (I.hok b u q).stay (fun _ _ _ z => z) (fun c z => ?_) fun c xs z => ?_
    all_goals
      have nc : c ≠ e := fun y => by
        rw [y] at z
        rcases let_ with l | ⟨φ, l⟩ <;> (rw [l] at z; cases z)
      rw [drp_ne nc]; exact z
  have keepL : ∀ b o, H0 b = some o → (∀ φ, H b ≠ some (.ext φ)) → H b ≠ none → drp H e b = H b := fun b o q n1 n2 => by
    refine drp_ne fun z => ?_
    rw [z] at n1 n2
    rcases let_ with l | ⟨φ, l⟩
    · exact n2 l
    · exact n1 φ l
  refine ⟨e, oe.cls, t, B, drp H e, oe.dict, rfl, I.os, I.bare, ⟨?_, ?_, ?_, ?_, ?_, ?_, ?_⟩, hdrop.part hst fly.1 hin, hbB, ?_, hin, fly, hE⟩
  · exact fun b o q n hb hx' => hk b o (hes b o q) (old b o q hb) (ub.keep b o q n hb hx')
  · intro b o q n hb hx'
    obtain ⟨sl, e1⟩ := ub.slot b o q n hb hx'
    obtain ⟨sl', e2⟩ := hslot b _ (by show b ∈ (env :: outer).filterMap (·.frame); rw [List.filterMap_cons]; exact List.mem_cons_of_mem _ hb) e1
    exact ⟨sl', e2⟩
  · intro b o q n hx'
    rw [drp_ne (hes b o q)]
    exact ub.free b o q n hx'
  · intro b o q hx'
    obtain ⟨o1, e1⟩ := ub.there b o q hx'
    by_cases hb : b ∈ frs (env :: outer)
    · obtain ⟨sl, e2⟩ := hslot b o1 hb e1
      exact ⟨_, e2⟩
    · exact ⟨o1, hk b o1 (hes b o q) hb e1⟩
  · intro b xs q
    have z := ub.tups b xs q
    rw [keepL b _ q (fun φ y => by rw [z] at y; cases y) (fun y => by rw [z] at y; cases y)]
    exact z
  · intro b o u q
    have z := ub.frzs b o u q
    rw [keepL b _ q (fun φ y => by rw [z] at y; cases y) (fun y => by rw [z] at y; cases y)]
    exact z
  · intro b ps q
    obtain ⟨m, z⟩ := ub.tbls b ps q
    refine ⟨m, ?_⟩
    rw [keepL b _ q (fun φ y => by rw [z] at y; cases y) (fun y => by rw [z] at y; cases y)]
    exact z
  · intro b o q hb
    obtain ⟨o1, e1⟩ := ub.there b o q (by simp)
    exact ⟨o1, hideAll_get _ e1 fun z => (List.mem_cons.mp z).elim (hes b o q) (old b o q hb)⟩
/-- an exception that came out of a call leaves the def's frame too -/
theorem passes_on {E' : XK} (hE : ∀ c d H, E' c d H → E c d H) : Passes (CXE P w base) (cxOf (CXE P w base) P w K mg base N qual scope f cd A outer s0 H0 E) E' := by
  intro pins σ H s ev s' I h
  let env := envOfC qual scope s0.heap.objs.size f cd
  obtain ⟨e, cls, t, B, H', dx, rfl, os', bare', u1, hok', hbB, hold, hin, fly, q⟩ := h
  have hfr : (A.deeper env).frames = some (env :: outer) := I.ok.frames
  have ub : Un (frs outer) [] H0 H s0.heap s.heap := I.base
  have u1 : Un (frs (env :: outer)) [] H H' s.heap s'.heap := u1
  have fly : FlyD B (env :: outer) e cls (.ref t) dx s'.heap := fly
  have hold : ∀ b o, s.heap.get? b = some o → b ∉ frs (env :: outer) → ∃ o', B.get? b = some o' := hold
  have hLs : ∀ b o, s0.heap.get? b = some o → b ≠ s0.heap.objs.size := fun b o q => Nat.ne_of_lt (Heap.lt_size q)
  have hmem : ∀ b, b ∈ frs (env :: outer) → b = s0.heap.objs.size ∨ b ∈ frs outer := fun b hb => by
    have : b ∈ (env :: outer).filterMap (·.frame) := hb
    rw [List.filterMap_cons] at this
    exact List.mem_cons.mp this
  have hsub : ∀ b, b ∈ frs outer → b ∈ frs (env :: outer) := fun b hb => by
    show b ∈ (env :: outer).filterMap (·.frame)
    rw [List.filterMap_cons]; exact List.mem_cons_of_mem _ hb
  have old : ∀ b o, s0.heap.get? b = some o → b ∉ frs outer → b ∉ frs (env :: outer) := fun b o q hb z => (hmem b z).elim (hLs b o q) hb
  have hfun : s'.heap.FunFrames B (env :: outer) := fly.2.2.1
  have osE : s'.os = s0.os := os'.trans I.os
  show wpAny _ _ (leaving env (.ref e)) _ _ _
  refine leaves_on (base := B) hfr rfl fly fun h' fly' up => ?_
  -- what stood ahead of the def, as it is now
  have step : ∀ b o, s.heap.get? b = some o → b ∉ frs (env :: outer) → ∀ o1, s'.heap.get? b = some o1 → h'.get? b = some o1 := fun b o q hb o1 e1 => by
    obtain ⟨o', eo⟩ := hold b o q hb
    have e2 := fly.1 b o' eo
    rw [e1] at e2; cases e2
    exact fly'.1 b _ eo
  have hslot : ∀ b o, b ∈ frs (env :: outer) → s'.heap.get? b = some o → ∃ sl, h'.get? b = some { o with slots := sl } := fun b o hb q => by
    obtain ⟨o', e', nf⟩ := fun_data hfun hb
    rw [q] at e'; cases e'
    exact up b o q nf
  refine ⟨e, cls, t, B, H', dx, rfl, osE, bare', ⟨?_, ?_, ?_, ?_, ?_, ?_, ?_⟩, hok'.part fly.1 fly'.1 hin, hbB, ?_, hin, fly', hE _ _ _ q⟩
  · intro b o q n hb hx'
    have e1 := ub.keep b o q n hb hx'
    have n1 := ub.free b o q n hx'
    have hb' := old b o q hb
    exact step b o e1 hb' o (u1.keep b o e1 n1 hb' (by simp))
  · intro b o q n hb hx'
    obtain ⟨sl, e1⟩ := ub.slot b o q n hb hx'
    have n1 := ub.free b o q n hx'
    obtain ⟨sl1, e2⟩ := u1.slot b _ e1 n1 (hsub b hb) (by simp)
    obtain ⟨sl2, e3⟩ := hslot b _ (hsub b hb) e2
    exact ⟨sl2, e3⟩
  · intro b o q n hx'
    have n1 := ub.free b o q n hx'
    obtain ⟨o1, e1⟩ := ub.there b o q hx'
    exact u1.free b o1 e1 n1 (by simp)
  · intro b o q hx'
    obtain ⟨o1, e1⟩ := ub.there b o q hx'
    obtain ⟨o2, e2⟩ := u1.there b o1 e1 (by simp)
    by_cases hb : b ∈ frs (env :: outer)
    · obtain ⟨sl, e3⟩ := hslot b o2 hb e2
      exact ⟨_, e3⟩
    · exact ⟨o2, step b o1 e1 hb o2 e2⟩
  · exact fun b xs q => u1.tups b xs (ub.tups b xs q)
  · exact fun b o u q => u1.frzs b o u (ub.frzs b o u q)
  · intro b ps q
    obtain ⟨m1, e1⟩ := ub.tbls b ps q
    obtain ⟨m2, e2⟩ := u1.tbls b _ e1
    exact ⟨m1 ++ m2, by rw [e2, Array.append_assoc]⟩
  · intro b o q hb
    obtain ⟨o1, e1⟩ := ub.there b o q (by simp)
    exact hold b o1 e1 (old b o q hb)
end
end L2

set_option Elab.async false
set_option linter.all false
set_option maxRecDepth 100000
set_option maxHeartbeats 4000000
/-! try: body, except C: suite -/
namespace L2
open PySem PySem.Spec PyProof.Rows PySem.W
/-- an exception that came out of a call of the body, the names being σ0 -/
noncomputable def Et (X : Cx) (pins : List (Addr × Obj)) (σ0 : St) (E' : XK) : Value → Shared → Prop := fun e s' => Ex3 fun pins' H s => Inv X (pins ++ pins') σ0 H s ∧ CXE X.prog X.w X.base X.stack H s E' e s'
/-- the context of a try's body -/
noncomputable def xB (X : Cx) (pins : List (Addr × Obj)) (σ0 : St) (E' : XK) : Cx := { X with pn := X.pn ++ pins, xe := Et X pins σ0 E' }
/-- the context of a handler's suite -/
noncomputable def xH (X : Cx) (e : Addr) : Cx := { X with A := X.A.mark (some (.ref e)), calm := false, xe := fun _ _ => False }
section
variable {X : Cx} {pins pins' : List (Addr × Obj)} {σ σ0 : St} {E' : XK} {H : Hp} {s : Shared}
theorem Inv.toB (I : Inv X pins σ H s) : Inv (xB X pins σ0 E') [] σ H s :=
  ⟨⟨I.ok.mod, I.ok.kind, I.ok.glob, I.ok.blt, I.ok.above, I.ok.inj, I.ok.has, I.ok.cab, I.ok.hd, I.ok.frames, I.ok.stk, I.ok.exf, I.ok.bs, I.ok.bsz, I.ok.noex, I.ok.exfs, I.ok.funs, I.ok.frf⟩, I.os, I.bare, I.base, I.loc, I.cell, I.free, I.freeC,
    fun p hp => I.pin p (by have hp : p ∈ (X.pn ++ pins) ++ [] := hp; simpa using hp), I.hok, I.len⟩
theorem Inv.ofB (I : Inv (xB X pins σ0 E') pins' σ H s) : Inv X (pins ++ pins') σ H s :=
  ⟨⟨I.ok.mod, I.ok.kind, I.ok.glob, I.ok.blt, I.ok.above, I.ok.inj, I.ok.has, I.ok.cab, I.ok.hd, I.ok.frames, I.ok.stk, I.ok.exf, I.ok.bs, I.ok.bsz, I.ok.noex, I.ok.exfs, I.ok.funs, I.ok.frf⟩, I.os, I.bare, I.base, I.loc, I.cell, I.free, I.freeC,
    fun p hp => I.pin p (by show p ∈ (X.pn ++ pins) ++ pins'; simpa [List.append_assoc] using hp), I.hok, I.len⟩
theorem Inv.toH {e : Addr} (I : Inv X pins σ H s) : Inv (xH X e) pins σ H s :=
  ⟨⟨I.ok.mod, I.ok.kind, I.ok.glob, I.ok.blt, I.ok.above, I.ok.inj, I.ok.has, I.ok.cab, fun z => Bool.noConfusion z, I.ok.frames, I.ok.stk, I.ok.exf, I.ok.bs, I.ok.bsz, I.ok.noex, I.ok.exfs, I.ok.funs, I.ok.frf⟩, I.os, I.bare, I.base, I.loc, I.cell, I.free, I.freeC, I.pin, I.hok, I.len⟩
theorem Inv.ofH {e : Addr} (k : X.Ok) (I : Inv (xH X e) pins σ H s) : Inv X pins σ H s :=
  ⟨k, I.os, I.bare, I.base, I.loc, I.cell, I.free, I.freeC, I.pin, I.hok, I.len⟩
/-- f(e, ..) in a try's body, the names as at its start -/
noncomputable def tCallAt (σ0 : St) (sp : Sp) (E : XK) (t : TA) : TE := fun σ H Q => σ = σ0 ∧ t σ H fun vs H1 => sp vs H1 Q E
theorem pe_fnT {k : Nat} {f : Addr} {fd : FuncData} {ps : List Str} {sp : Sp} {x : Str} {e : Expr} {es : List Expr} {t : TA} {p pos : Pos} (F : FnOk X.prog X.w X.K X.mg X.base (CXE X.prog X.w X.base) k f fd ps sp) (hr : Room k X.A) (hg : Gl X x) (hm : X.mg x = some (.ref f))
    (hk : PySem.W.keepIn X.K (.ref f) = true) (hb : Binds X.K fd ps []) (ha : PA (xB X pins σ0 E') (e :: es) t) (hdb : (x == ("__debug__" : Str)) = false := by decide)
    (he : starEach (e :: es) X.env = (false, eval e X.env) :: starEach es X.env := by rfl) (hpl : (backTo pos (starEach es X.env)).any (·.1) = false := by rfl) :
    PE (xB X pins σ0 E') (.Call (.Name x p) (e :: es) [] pos) (tCallAt σ0 sp E' t) := by
  intro pl s σ H Q I h
  obtain ⟨hσ, h⟩ := h
  subst hσ
  refine wpAny_Call_Name_kw (ld_glob (X := xB X pins σ E') I hg hm ?_ hdb)
  refine PySem.W.callWith_K (h₀ := X.base) I.ok.mod.kin hk (thn (ha s σ H _ I h) fun us s1 ⟨vs, H1, I1, r, q⟩ => ⟨I1.kIn, ?_⟩) he hpl
  have J1 : Inv X (pins ++ pl) σ H1 s1 := I1.ofB
  have hl : us.length = ps.length := by rw [← r.length]; exact F.len _ _ _ _ q
  have hb1 := hb s1 us J1.kIn (by simpa using hl)
  refine wpAny_call (codeAny_mono (F.run X.A X.stack s1 H1 ⟨us, []⟩ us vs Q E' hr J1.env0 (by simpa using hb1) r q) fun r s' hq => ?_)
  cases r with
  | error e => exact ⟨pl, H1, s1, J1, hq⟩
  | ok fl =>
    cases fl with
    | ret u => exact I1.after hq
    | next => exact False.elim hq
    | brk => exact False.elim hq
    | cont => exact False.elim hq
end
theorem Un.land {st : List Env} {H H' : Hp} {h h1 h3 B : Heap} (u : Un (frs st) [] H H' h h1) (hold : ∀ b o, h.get? b = some o → b ∉ frs st → ∃ o', B.get? b = some o') (k1 : B.StaysIn h1) (k3 : B.StaysIn h3) (hf : h1.FunFrames B st) (up : h1.UpToSlots h3) :
    Un (frs st) [] H H' h h3 := by
  have step : ∀ b o, h.get? b = some o → b ∉ frs st → ∀ o1, h1.get? b = some o1 → h3.get? b = some o1 := fun b o q hb o1 e1 => by
    obtain ⟨o', eo⟩ := hold b o q hb
    have e2 := k1 b o' eo
    rw [e1] at e2; cases e2
    exact k3 b _ eo
  have sl : ∀ b o, b ∈ frs st → h1.get? b = some o → ∃ l, h3.get? b = some { o with slots := l } := fun b o hb q => by
    obtain ⟨o', e', nf⟩ := fun_data hf hb
    rw [q] at e'; cases e'
    exact up b o q nf
  refine ⟨fun b o q n hb hx => step b o q hb o (u.keep b o q n hb hx), fun b o q n hb hx => ?_, u.free, fun b o q hx => ?_, u.tups, u.frzs, u.tbls⟩
  · obtain ⟨l1, e1⟩ := u.slot b o q n hb hx
    obtain ⟨l2, e2⟩ := sl b _ hb e1
    exact ⟨l2, e2⟩
  · obtain ⟨o1, e1⟩ := u.there b o q hx
    by_cases hb : b ∈ frs st
    · obtain ⟨l, e2⟩ := sl b o1 hb e1
      exact ⟨_, e2⟩
    · exact ⟨o1, step b o q hb o1 e1⟩
theorem looks_cls {M : Model} {h : Heap} {e : Addr} {o : Obj} (he : h.get? e = some o) : Looks M h (typeOf (.ref e)) o.cls := by
  exact (Looks.ld he).andThen .now
section
variable {X : Cx} {L : Addr}
end
section
variable {X : Cx} {L : Addr} {pins : List (Addr × Obj)} {σ : St} {H : Hp} {s : Shared}
/-- a local name goes -/
theorem name_gone {M : Model} {A : Around} {E : Value → Shared → Prop} {i : Nat} {n : Str} {pos : Pos} {Q : Unit → Shared → Prop} (I : Inv X pins σ H s) (hN : X.N.Nodup) (hi : X.N[i]? = some n) (hlo : X.env.kindOf n = some .local)
    (h : ∀ s', Inv X pins (σ.set i none) H s' → Q () s') : wpAny M A (do bindName X.env n .none; unbindBehindTheSuite X.env n pos) Q E s := by
  obtain ⟨m, hn, hl⟩ := id I.loc
  have hp : (X.env.scope.kind == .class || (X.env.scope.kind == .module && X.env.locals != X.env.globals)) = false := by rw [I.ok.kind]; rfl
  obtain ⟨oL, _, _, hoL, _⟩ := id hn
  refine wpAny_nameGoes_keeps hlo hn hp fun h' v hn' hs => h _ ?_
  have off : ∀ b, b ≠ X.env.locals → h'.get? b = s.heap.get? b := fun b hb => hs.2 b hb
  have old : ∀ b o, X.s₀.heap.get? b = some o → b ≠ X.env.locals := fun b o e => Nat.ne_of_lt (Nat.lt_of_lt_of_le (Heap.lt_size e) I.ok.above)
  have trk : ∀ b u, H b = some u → b ≠ X.env.locals := fun b u e z => by have := I.free; rw [← z, e] at this; cases this
  refine ⟨I.ok, I.os, I.bare, ⟨fun b o e n hb hx => ?_, fun b o e n hb hx => ?_, I.base.free, fun b o e hx => ?_, I.base.tups, I.base.frzs, I.base.tbls⟩, ⟨_, hn', fun j y w e1 e2 e3 => ?_⟩, fun y c e => ?_, I.free, I.freeC, fun p hp => ?_, ?_, by simpa using I.len⟩
  · rw [off b (old b o e)]; exact I.base.keep b o e n hb hx
  · rw [off b (old b o e)]; exact I.base.slot b o e n hb hx
  · rw [off b (old b o e)]; exact I.base.there b o e hx
  · have hj : j ≠ i := fun z => by
      subst z
      have hlt : j < σ.length := by rw [I.len]; exact (List.getElem?_eq_some_iff.mp hi).1
      rw [List.getElem?_set_self hlt] at e2
      cases e2
    have hy : y ≠ n := fun z => hj (nodup_ix hN e1 (z ▸ hi))
    rw [List.getElem?_set_ne (Ne.symm hj)] at e2
    obtain ⟨u, ru, lk⟩ := hl j y w e1 e2 e3
    refine ⟨u, ru, ?_⟩
    rcases lk with ⟨k1, k2⟩ | ⟨k1, c, k2, k3⟩
    · exact .inl ⟨k1, by show (if y = n then v else m y) = some u; rw [if_neg hy]; exact k2⟩
    · refine .inr ⟨k1, c, k2, ?_⟩
      have hc : c ≠ X.env.locals := I.cne y c k2
      exact k3.sameBut hs hc
  · obtain ⟨w, z⟩ := I.cell y c e
    exact ⟨w, z.sameBut hs (I.cne y c e)⟩
  · obtain ⟨p1, p2, p3, p4, p5⟩ := I.pin p hp
    exact ⟨by rw [off _ p3]; exact p1, p2, p3, p4, p5⟩
  · intro b u e
    refine (I.hok b u e).stay (fun c w hc q => ?_) (fun _ q => q) fun _ _ q => q
    rw [off c (by
      rcases hc with hc | hc
      · subst hc; exact trk _ _ e
      · exact trk _ _ hc)]
    exact q
end
/-- an exception, of which the class is known; one whose dict is known too -/
noncomputable def excIs (e : Addr) (cls : Value) : HO := .ext fun h => ∃ o, h.get? e = some o ∧ o.cls = cls
noncomputable def excC (e : Addr) (cls : Value) (d : Addr) : HO := .ext fun h => ∃ o, h.get? e = some o ∧ o.cls = cls ∧ o.dict = some d ∧ notCls o = true
noncomputable def excAs (e : Addr) (cls : Value) : Option Addr → HO
  | none => excIs e cls
  | some d => excC e cls d
theorem excAs_ok {P : Program} {w : World} {H : Hp} {h : Heap} {e : Addr} {o : Obj} {cls : Value} {dx : Option Addr} {vs : Array Value} (h1 : h.get? e = some o) (h2 : o.cls = cls) (h3 : o.dict = dx) (h4 : o.data = .fields vs) : ObjOk P w H h e (excAs e cls dx) := by
  cases dx with
  | none => exact ⟨⟨o, h1, h2⟩, ⟨o, h1⟩, fun a b ⟨o, e1, r⟩ k => ⟨o, k _ e1, r⟩⟩
  | some d => exact ⟨⟨o, h1, h2, h3, by obtain ⟨_, _, dt, _⟩ := o; cases h4; rfl⟩, ⟨o, h1⟩, fun a b ⟨o, e1, r⟩ k => ⟨o, k _ e1, r⟩⟩
section
variable {X : Cx} {L : Addr} {pins : List (Addr × Obj)} {σ : St} {H : Hp} {s : Shared}
theorem Inv.adoptE {e : Addr} {o : HO} (I : Inv X pins σ H s) (h0 : H e = none) (h1 : e ≠ X.env.locals) (h2 : ∀ x c, X.env.cells.lookup x = some c → c ≠ e) (h3 : ∀ p ∈ X.pn ++ pins, p.1 ≠ e) (h4 : ∀ b u, X.s₀.heap.get? b = some u → b ≠ e)
    (new : ObjOk X.prog X.w (upd H e o) s.heap e o) : Inv X pins σ (upd H e o) s := by
  refine ⟨I.ok, I.os, I.bare, ⟨I.base.keep, I.base.slot, fun b u q n hx => ?_, I.base.there, fun b xs q => ?_, fun b u xs q => ?_, fun b ps q => ?_⟩, I.loc, I.cell, ?_, fun x c q => ?_, fun p hp => ?_, I.hok.adopt h0 new, I.len⟩
  · rw [upd_ne (h4 b u q)]; exact I.base.free b u q n hx
  · have z := I.base.tups b xs q
    rw [upd_ne (ne_of_none z h0)]; exact z
  · have z := I.base.frzs b u xs q
    rw [upd_ne (ne_of_none z h0)]; exact z
  · obtain ⟨m, z⟩ := I.base.tbls b ps q
    exact ⟨m, by rw [upd_ne (ne_of_none z h0)]; exact z⟩
  · rw [upd_ne (Ne.symm h1)]; exact I.free
  · rw [upd_ne (h2 x c q)]; exact I.freeC x c q
  · obtain ⟨p1, p2, p3⟩ := I.pin p hp
    exact ⟨p1, by rw [upd_ne (h3 p hp)]; exact p2, p3⟩
/-- the ends of a suite behind which the name in slot j goes -/
noncomputable def Ends.gone (D : Ends) (j : Nat) : Ends := { nx := fun σ H => D.nx (σ.set j none) H, rt := D.rt, bk := fun σ H => D.bk (σ.set j none) H, ct := fun σ H => D.ct (σ.set j none) H }
end
section
variable {P : Program} {w : World} {K : PySem.W.Frag} {mg : Str → Option Value} {base : Heap}
/-- a def that may be left by an exception -/
theorem Fun.okX {x qual : Str} {st : Stmt} {f : Addr} {fd : FuncData} {N ps : List Str} {k : Nat} {sp : Sp} (F : Fun K x qual st f fd) (S : FnScope N ps (defScope st)) (len : ∀ vs H Q E, sp vs H Q E → vs.length = ps.length)
    (hbody : ∀ (cdv : Value) (A : Around) (outer : List Env) (s : Shared) (H : Hp) (vs : List V) (Q : VK) (E : XK), Room k (A.deeper (envOfC qual (defScope st) s.heap.objs.size f cdv)) → sp vs H Q E →
      ∃ t, PSs (cxOf (CXE P w base) P w K mg base N qual (defScope st) f cdv A outer s H E) (defBody st) t ∧ t { nx := fun _ H' => Q .non H', rt := Q } (start N vs) H) : FnOk P w K mg base (CXE P w base) (k + 1) f fd ps sp := by
  obtain ⟨oc, od, kV, doc, pm, an, cdv, ct, osl, rfl, lk, hcd⟩ := F.ex
  exact fn_of lk hcd S len fun A outer s H vs Q E hr hsp => hbody cdv A outer s H vs Q E hr hsp
structure FnX (P : Program) (w : World) (K : PySem.W.Frag) (mg : Str → Option Value) (base : Heap) (k : Nat) (x : Str) (ps : List Str) (sp : Sp) : Prop where
  ex : ∃ f fd, FnOk P w K mg base (CXE P w base) k f fd ps sp ∧ Binds K fd ps [] ∧ PySem.W.keepIn K (.ref f) = true ∧ mg x = some (.ref f)
theorem FnX.mono {j k : Nat} {x : Str} {ps : List Str} {sp : Sp} (F : FnX P w K mg base j x ps sp) (h : j ≤ k) : FnX P w K mg base k x ps sp := by
  obtain ⟨f, fd, a, b, c, d⟩ := F.ex
  exact ⟨f, fd, a.mono h, b, c, d⟩
/-- its call where an exception passes on -/
theorem pe_fnP {N : List Str} {qual : Str} {scope : Scope} {fa : Addr} {cd : Value} {A : Around} {outer : List Env} {s0 : Shared} {H0 : Hp} {E E' : XK} {k : Nat} {x : Str} {ps : List Str} {sp : Sp} {p pos : Pos} {e : Expr} {es : List Expr} {t : TA}
    (F : FnX P w K mg base k x ps sp) (hr : Room k (A.deeper (envOfC qual scope s0.heap.objs.size fa cd))) (hg : Gl (cxOf (CXE P w base) P w K mg base N qual scope fa cd A outer s0 H0 E) x) (hE : ∀ c d H, E' c d H → E c d H)
    (ha : PA (cxOf (CXE P w base) P w K mg base N qual scope fa cd A outer s0 H0 E) (e :: es) t) (hdb : (x == ("__debug__" : Str)) = false := by decide)
    (he : starEach (e :: es) (envOfC qual scope s0.heap.objs.size fa cd) = (false, eval e (envOfC qual scope s0.heap.objs.size fa cd)) :: starEach es (envOfC qual scope s0.heap.objs.size fa cd) := by rfl)
    (hpl : (backTo pos (starEach es (envOfC qual scope s0.heap.objs.size fa cd))).any (·.1) = false := by rfl) :
    PE (cxOf (CXE P w base) P w K mg base N qual scope fa cd A outer s0 H0 E) (.Call (.Name x p) (e :: es) [] pos) (tCall sp [] E' t) := by
  obtain ⟨f, fd, a, b, c, d⟩ := F.ex
  exact pe_call (X := cxOf (CXE P w base) P w K mg base N qual scope fa cd A outer s0 H0 E) a hr hg d c b .nil (passes_on hE) ha hdb he hpl
/-- its call in a try's body -/
theorem pe_fnC {X : Cx} {pins : List (Addr × Obj)} {σ0 : St} {E' : XK} {k : Nat} {x : Str} {ps : List Str} {sp : Sp} {p pos : Pos} {e : Expr} {es : List Expr} {t : TA} (F : FnX X.prog X.w X.K X.mg X.base k x ps sp) (hr : Room k X.A) (hg : Gl X x)
    (ha : PA (xB X pins σ0 E') (e :: es) t) (hdb : (x == ("__debug__" : Str)) = false := by decide) (he : starEach (e :: es) X.env = (false, eval e X.env) :: starEach es X.env := by rfl) (hpl : (backTo pos (starEach es X.env)).any (·.1) = false := by rfl) :
    PE (xB X pins σ0 E') (.Call (.Name x p) (e :: es) [] pos) (tCallAt σ0 sp E' t) := by
  obtain ⟨f, fd, a, b, c, d⟩ := F.ex
  exact pe_fnT a hr hg d c b ha hdb he hpl
end
end L2

set_option Elab.async false
set_option linter.all false
set_option maxRecDepth 100000
set_option maxHeartbeats 4000000
/-! the sort of fewer than 64 things whose keys are all unlike -/
namespace L2
open PySem PySem.Spec PyProof.Rows PySem.W
section
variable {n : Nat} {key : Nat → Int} {cmp : Nat → Nat → (Bool → Shared → Prop) → Shared → Prop} {s : Shared}
end
end L2

set_option Elab.async false
set_option linter.all false
set_option maxRecDepth 100000
set_option maxHeartbeats 4000000
/-! sorted(xs) of int tuples, all unlike -/
namespace L2
open PySem PySem.Spec PyProof.Rows PySem.W
section
variable {prog : Program} {w : World} {A : Around} {E : Value → Shared → Prop} {s : Shared} {κ : SortKind} {key : Nat → Int}
end
section
variable {X : Cx} (K : PySem.W.Frag)
end
section
variable {prog : Program} {w : World} {A : Around} {E : Value → Shared → Prop} {s : Shared}
end
section
variable {X : Cx} (K : PySem.W.Frag)
end
end L2

set_option Elab.async false
set_option linter.all false
set_option maxRecDepth 100000
set_option maxHeartbeats 4000000
/-! a new dict, its heap a letter -/
namespace L2
open PySem PySem.Spec PyProof.Rows
section
variable {X : Cx} {pos : Pos}
end
end L2

set_option Elab.async false
set_option linter.all false
set_option maxRecDepth 100000
set_option maxHeartbeats 4000000
/-! a def that may raise, called where it is known that it doesn't -/
namespace L2
open PySem PySem.Spec PyProof.Rows PySem.W
end L2

set_option Elab.async false
set_option linter.all false
set_option maxRecDepth 100000
set_option maxHeartbeats 4000000
/-! an own class of exceptions, read off the written part of the heap -/
namespace L2
open PySem PySem.Spec PyProof.Rows PySem.W
end L2

set_option Elab.async false
set_option linter.all false
set_option maxRecDepth 100000
set_option maxHeartbeats 4000000
/-! isinstance of an exception of an own class -/
namespace L2
open PySem PySem.Spec PyProof.Rows PySem.W PySem.Calls Builtin Builtin.ObjectAttr Builtin.Getset_descriptor
/-- an object of this class stands there -/
noncomputable def ExcAt (e C : Addr) (h : Heap) : Prop := ∃ o, h.get? e = some o ∧ o.cls = .ref C
/-- what must be known of an own class of exceptions -/
structure ExcOk (K : Frag) (C : Addr) : Prop where
  cl : (clsIn K C).isSome = true
  ga : findIn K (.ref C) "__getattribute__" = some (some (.builtin "BaseException.__getattribute__"))
  gt : findIn K (.ref C) "__getattr__" = some none
  ca : findIn K (.ref C) "__class__" = some (some (.builtin "object.__class__"))
  cg : specialIn K (.builtin "object.__class__") "__get__" = some (some (.builtin "getset_descriptor.__get__"))
  ct : takesIn K (.builtin "object.__class__") = some true
  mo : mroIn K C (.type "object") = some true
  mb : mroIn K C (.type "BaseException") = some true
section
variable {K : Frag} {e C : Addr}
theorem exc_type {M : Model} {h : Heap} (p : ExcAt e C h) : Looks M h (typeOf (.ref e)) (.ref C) := by
  obtain ⟨o, h1, h2⟩ := p
  exact h2 ▸ (Looks.ld h1).andThen .now
variable {prog : Program} {w : World} {A : Around} {E : Value → Shared → Prop} {s : Shared}
theorem exc_check {nameV : Value} {Q : Unit → Shared → Prop} (X : K.In s.heap) (O : ExcOk K C) (p : ExcAt e C s.heap) (h : Q () s) : wpAny (model prog w) A (checkBuiltinCall "BaseException.__getattribute__" ⟨[.ref e, nameV], []⟩) Q E s := by
  obtain ⟨hh, g, dr, t, os⟩ := s
  have T0 := exc_type (M := model prog w) p
  have T1 := looks_mroIn (M := model prog w) X O.mb
  have k1 : builtinKind "BaseException.__getattribute__" = some .slot := by decide +kernel
  have k2 : splitId "BaseException.__getattribute__" = some ("BaseException", "__getattribute__") := by decide +kernel
  have k3 := F.args_bexc_ga (.ref e) nameV
  simp only [checkBuiltinCall, k1, k2]
  unfold isInstance
  repeat (first | lk | wp_step)
  exact h
theorem exm_sub {C D : Addr} {cd} (h1 : subIn K (.ref D) (.type "BaseException") = some true) (h2 : clsIn K D = some cd) (h3 : typeIn K (.ref D) = some (.type "type")) (h4 : subIn K (.ref C) (.ref D) = some true) : exmOne K (.ref C) (.ref D) = some true := by
  unfold exmOne kitCls
  rw [h1]
  simp [h2, h3, h4]
theorem cls_some {C : Addr} {cd} (h : clsIn K C = some cd) : (clsIn K C).isSome = true := by rw [h]; rfl
end
section
variable {X : Cx}
end
end L2

set_option Elab.async false
set_option linter.all false
set_option maxRecDepth 100000
set_option maxHeartbeats 4000000
/-! list(range(n)); a text n times -/
namespace L2
open PySem PySem.Spec PyProof.Rows
section
variable {X : Cx}
end
end L2

set_option Elab.async false
set_option linter.all false
set_option maxRecDepth 100000
set_option maxHeartbeats 4000000
/-! set(xs) of texts, and its len -/
namespace L2
open PySem PySem.Spec PyProof.Rows
/-- one more key, unless it is there -/
noncomputable def oneMore {K : Type} [DecidableEq K] (D : List K) (k : K) : List K := if k ∈ D then D else D ++ [k]
section
variable {prog : Program} {w : World} {K : Type} [DecidableEq K] {knd : PySem.KeyKind prog w K}
/-- the set at a has just these keys -/
noncomputable def HasKeys (knd : PySem.KeyKind prog w K) (h : Heap) (a : Addr) (D : List K) : Prop := h.SetOf knd a (fun k => decide (k ∈ D)) D.length
theorem HasKeys.at' {h h' : Heap} {a : Addr} {D : List K} (x : HasKeys knd h a D) (k : ∀ o, h.get? a = some o → h'.get? a = some o) : HasKeys knd h' a D := by
  obtain ⟨o, es, ep, t, e, r⟩ := x
  exact ⟨o, es, ep, t, k _ e, r⟩
variable {A : Around} {R : Result → Shared → Prop} {I : Addr} {fp wr : List Addr} {G : Array GenState → Array GenState → Prop} {n : Nat} {P : Nat → Value → Prop} {St : Nat → Shared → Prop}
end
/-- what stands at the new set's address -/
noncomputable abbrev setObj0 (led : Bool) : Obj := { cls := .type "set", dict := none, data := .set #[] 0 (.fresh 0 0 led) }
section
variable {prog : Program} {w : World} {K : Type} [DecidableEq K] {knd : PySem.KeyKind prog w K} {A : Around} {E : Value → Shared → Prop} {s : Shared}
end
section
variable {X : Cx}
end
end L2

set_option Elab.async false
set_option linter.all false
set_option maxRecDepth 100000
set_option maxHeartbeats 4000000
/-! tables of sets whose places rise: what one more key keeps -/
namespace L2
open PySem PySem.Spec PyProof.Rows
noncomputable def Up (xs : List Nat) : Prop := xs.Pairwise (· < ·)
theorem Up.lt {xs : Array Nat} (h : Up xs.toList) {i j : Nat} (hj : j < xs.size) (hij : i < j) : xs[i] < xs[j] := by
  have := List.pairwise_iff_getElem.mp h i j (by simpa using Nat.lt_trans hij hj) (by simpa using hj) hij
  simpa using this
/-- where a number stands, or would stand -/
structure Cut (xs : Array Nat) (j p : Nat) : Prop where
  le : p ≤ xs.size
  lo : ∀ i (h : i < xs.size), i < p → xs[i] < j
  hi : ∀ i (h : i < xs.size), p ≤ i → j ≤ xs[i]
theorem below_go {xs : Array Nat} (u : Up xs.toList) (j : Nat) : ∀ (fuel lo hi : Nat), hi - lo ≤ fuel → lo ≤ hi → hi ≤ xs.size → (∀ i (h : i < xs.size), i < lo → xs[i] < j) → (∀ i (h : i < xs.size), hi ≤ i → j ≤ xs[i]) → Cut xs j (SetTable.below.go xs j fuel lo hi)
  | 0, lo, hi, hf, hl, hs, h1, h2 => by
    have e : lo = hi := by (first | lia | omega)
    unfold SetTable.below.go
    subst e
    exact ⟨hs, h1, h2⟩
  | fuel + 1, lo, hi, hf, hl, hs, h1, h2 => by
    unfold SetTable.below.go
    by_cases hlt : lo < hi
    · rw [if_pos hlt]
      have hm : (lo + hi) / 2 < xs.size := by (first | lia | omega)
      have e : xs.getD ((lo + hi) / 2) j = xs[(lo + hi) / 2] := by simp [Array.getD, hm]
      dsimp only
      rw [e]
      by_cases hc : xs[(lo + hi) / 2] < j
      · rw [if_pos hc]
        refine below_go u j fuel _ _ (by (first | lia | omega)) (by (first | lia | omega)) hs (fun i h hi' => ?_) h2
        by_cases q : i = (lo + hi) / 2
        · subst q; exact hc
        · exact Nat.lt_trans (u.lt hm (by (first | lia | omega))) hc
      · rw [if_neg hc]
        refine below_go u j fuel _ _ (by (first | lia | omega)) (by (first | lia | omega)) (by (first | lia | omega)) h1 (fun i h hi' => ?_)
        by_cases q : i = (lo + hi) / 2
        · subst q; (first | lia | omega)
        · have := u.lt h (show (lo + hi) / 2 < i by (first | lia | omega))
          (first | lia | omega)
    · rw [if_neg hlt]
      have e : lo = hi := by (first | lia | omega)
      subst e
      exact ⟨hs, h1, h2⟩
theorem below_cut {xs : Array Nat} (u : Up xs.toList) (j : Nat) : Cut xs j (SetTable.below xs j) :=
  below_go u j _ _ _ (by (first | lia | omega)) (Nat.zero_le _) (Nat.le_refl _) (fun i h z => absurd z (Nat.not_lt_zero _)) fun i h z => absurd h (by (first | lia | omega))
theorem Cut.next {xs : Array Nat} {p i : Nat} (u : Up xs.toList) (h : i < xs.size) (c : Cut xs (xs[i] + 1) p) : p = i + 1 := by
  have h1 : ¬ p < i + 1 := fun z => by have := c.hi i h (by (first | lia | omega)); (first | lia | omega)
  have h2 : ¬ i + 1 < p := fun z => by
    have hs : i + 1 < xs.size := by have := c.le; (first | lia | omega)
    have a := c.lo (i + 1) hs z
    have b := u.lt hs (Nat.lt_succ_self i)
    (first | lia | omega)
  (first | lia | omega)
/-- a table without holes left behind, its places rising -/
noncomputable def GoodT (t : SetTable) : Prop := t.dummies = #[] ∧ Up t.place.toList
theorem good_fresh {a b : Nat} {led : Bool} : GoodT (SetTable.fresh a b led) := ⟨rfl, List.Pairwise.nil⟩
theorem good_stand (t : SetTable) (n : Nat) : GoodT (t.standIn n) := ⟨rfl, by
  show List.Pairwise _ (Array.range n).toList
  rw [Array.toList_range]
  exact List.pairwise_lt_range⟩
theorem has_none (j : Nat) : SetTable.has #[] j = false := by
  unfold SetTable.has
  simp
theorem slot_kind {t : SetTable} (g : GoodT t) (j : Nat) : t.slot j = .empty ∨ ∃ i, t.slot j = .live i := by
  unfold SetTable.slot
  dsimp only
  split
  · exact .inr ⟨_, rfl⟩
  · rw [g.1, has_none]
    exact .inl rfl
theorem slot_free {t : SetTable} (g : GoodT t) {j : Nat} (h : t.slot j = .empty) : j ∉ t.place.toList := fun hm => by
  obtain ⟨i, hi, e⟩ := List.mem_iff_getElem.mp hm
  have hi' : i < t.place.size := by simpa using hi
  have e' : t.place[i] = j := by simpa using e
  have c := below_cut g.2 j
  have hp : SetTable.below t.place j = i := by
    have h1 : ¬ i < SetTable.below t.place j := fun z => by have := c.lo i hi' z; (first | lia | omega)
    have h2 : ¬ SetTable.below t.place j < i := fun z => by
      have hs : SetTable.below t.place j < t.place.size := by (first | lia | omega)
      have a := c.hi _ hs (Nat.le_refl _)
      have b := g.2.lt hi' z
      (first | lia | omega)
    (first | lia | omega)
  unfold SetTable.slot at h
  dsimp only at h
  rw [hp, Array.getElem?_eq_getElem hi', e'] at h
  simp at h
theorem probe_free {t : SetTable} (g : GoodT t) {h : Int} {j : Nat} {d : Option Nat} : ∀ (fuel : Nat) (p : SetTable.Probe), p.dummy = none → SetTable.probe.go t (fun _ => h + 1) h fuel p = some (.empty j d) → t.slot j = .empty ∧ d = none
  | 0, p, hp, e => by unfold SetTable.probe.go at e; cases e
  | fuel + 1, p, hp, e => by
    unfold SetTable.probe.go at e
    rcases slot_kind g p.j with q | ⟨i, q⟩
    · rw [q] at e
      dsimp only at e
      cases e
      exact ⟨q, hp⟩
    · rw [q] at e
      dsimp only at e
      rw [if_neg (by rw [beq_iff_eq]; (first | lia | omega))] at e
      refine probe_free g fuel _ ?_ e
      unfold SetTable.advance
      split
      · exact hp
      · exact hp
theorem good_put {t : SetTable} (g : GoodT t) {j : Nat} (h : t.slot j = .empty) : GoodT (t.put j).1 := by
  have hn := slot_free g h
  have c := below_cut g.2 j
  unfold SetTable.put
  refine ⟨?_, ?_⟩
  · show (if SetTable.has t.dummies j = true then _ else t.dummies) = #[]
    rw [g.1, has_none, if_neg Bool.false_ne_true]
  · show Up (SetTable.insertAt t.place _ j).toList
    rw [SetTable.toList_insertAt]
    have u : Up t.place.toList := g.2
    refine List.pairwise_append.mpr ⟨List.Pairwise.sublist (List.take_sublist _ _) u, List.pairwise_cons.mpr ⟨fun x hx => ?_, List.Pairwise.sublist (List.drop_sublist _ _) u⟩, fun x hx y hy => ?_⟩
    · obtain ⟨i, hi, e⟩ := List.mem_iff_getElem.mp hx
      rw [List.getElem_drop] at e
      have hi' : SetTable.below t.place j + i < t.place.size := by rw [List.length_drop] at hi; simp at hi; (first | lia | omega)
      have := c.hi _ hi' (Nat.le_add_right _ _)
      have e' : t.place[SetTable.below t.place j + i] = x := by simpa using e
      have hne : j ≠ x := fun z => hn (by rw [z]; exact List.mem_of_mem_drop hx)
      (first | lia | omega)
    · have hxj : x < j := by
        obtain ⟨i, hi, e⟩ := List.mem_iff_getElem.mp hx
        rw [List.getElem_take] at e
        rw [List.length_take] at hi
        have hi' : i < t.place.size := by simp at hi; (first | lia | omega)
        have := c.lo i hi' (by (first | lia | omega))
        have e' : t.place[i] = x := by simpa using e
        (first | lia | omega)
      rcases List.mem_cons.mp hy with rfl | hy
      · exact hxj
      · obtain ⟨i, hi, e⟩ := List.mem_iff_getElem.mp hy
        rw [List.getElem_drop] at e
        have hi' : SetTable.below t.place j + i < t.place.size := by rw [List.length_drop] at hi; simp at hi; (first | lia | omega)
        have := c.hi _ hi' (Nat.le_add_right _ _)
        have e' : t.place[SetTable.below t.place j + i] = y := by simpa using e
        (first | lia | omega)
theorem good_or {t : SetTable} (g : GoodT t) (n : Nat) : GoodT (t.orStandIn n) := by
  unfold SetTable.orStandIn
  split
  · exact g
  · exact good_stand t n
theorem good_lay {t : SetTable} (g : GoodT t) (es : Array (Int × Value)) (h : Int) (x : Value) : GoodT (layNew t es h x).2.1 ∧ (layNew t es h x).2.1.led = t.led := by
  unfold layNew
  split
  · rename_i slot wasDummy hs
    dsimp only
    have hfree : t.slot slot = .empty := by
      unfold SetTable.freeSlot at hs
      split at hs
      · rename_i j d hp
        unfold SetTable.probe at hp
        obtain ⟨h1, h2⟩ := probe_free g _ _ rfl hp
        subst h2
        cases hs
        exact h1
      · cases hs
    refine ⟨good_or (good_put g hfree) _, ?_⟩
    unfold SetTable.orStandIn
    split <;> rfl
  · exact ⟨good_stand t _, rfl⟩
theorem some_sub {β : Type} (f : Nat → Option β) : ∀ l : List Nat, List.Sublist ((l.filterMap fun j => (f j).map (j, ·)).map (·.1)) l
  | [] => List.Sublist.refl _
  | j :: l => by
    rw [List.filterMap_cons]
    cases f j with
    | none => exact List.Sublist.cons _ (some_sub f l)
    | some b => exact List.Sublist.cons_cons _ (some_sub f l)
theorem good_laid {mask finger moves : Nat} {led plain : Bool} {hs : Array Int} {t : SetTable} {order : Array Nat} (e : SetTable.laid mask finger moves led plain hs = some (t, order)) : GoodT t ∧ t.led = led := by
  unfold SetTable.laid at e
  cases q : SetTable.layClean mask hs with
  | none => rw [q] at e; cases e
  | some owner =>
    rw [q] at e
    cases e
    refine ⟨⟨rfl, ?_⟩, rfl⟩
    exact List.Pairwise.sublist (some_sub _ _) List.pairwise_lt_range
theorem good_relay {t : SetTable} (es : Array (Int × Value)) (n : Nat) : GoodT (relayAll t es n).2.1 ∧ (relayAll t es n).2.1.led = t.led := by
  unfold relayAll
  split
  · rename_i t' order hr
    dsimp only
    split
    · unfold SetTable.relaid at hr
      exact good_laid hr
    · exact ⟨good_stand t _, rfl⟩
  · exact ⟨good_stand t _, rfl⟩

section
variable {prog : Program} {w : World} {K : Type} [DecidableEq K] {knd : PySem.KeyKind prog w K} {A : Around} {E : Value → Shared → Prop} {s : Shared} {a : Addr}
/-- the set at a: its table is good, and led unless sets go by the text -/
noncomputable def GoodSet (w : World) (h : Heap) (a : Addr) : Prop := ∃ o es ep t, h.get? a = some o ∧ o.data = .set es ep t ∧ GoodT t ∧ (w.params.followText "set-order" = false → t.led = true)
theorem GoodSet.at' {h h' : Heap} (x : GoodSet w h a) (k : ∀ o, h.get? a = some o → h'.get? a = some o) : GoodSet w h' a := by
  obtain ⟨o, es, ep, t, e, r⟩ := x
  exact ⟨o, es, ep, t, k _ e, r⟩
/-- a set that is good and has just these keys -/
noncomputable def SetKeys (knd : PySem.KeyKind prog w K) (h : Heap) (a : Addr) (D : List K) : Prop := HasKeys knd h a D ∧ GoodSet w h a
theorem put_good {o : Obj} {es : Array (Int × Value)} {ep : Nat} {t : SetTable} (ho : s.heap.get? a = some o) (hd : o.data = .set es ep t) {es' : Array (Int × Value)} {t' : SetTable} (g : GoodT t') (l : w.params.followText "set-order" = false → t'.led = true) :
    (s.heap.update a (Obj.putSet es' t')).get? a = some { o with data := .set es' (ep + 1) t' } ∧ GoodSet w (s.heap.update a (Obj.putSet es' t')) a := by
  have e := Heap.get?_update_self (Obj.putSet es' t') ho (by rw [putSet_of es' t' hd]; rfl)
  rw [putSet_of es' t' hd] at e
  exact ⟨e, _, _, _, _, e, rfl, g, l⟩
theorem add_hashed {D : List K} {k : K} {x : Value} {Q : Bool → Shared → Prop} (hk : knd.is k x = true) (hx : x.scannable = true) (S : SetKeys knd s.heap a D) (room : D.length + 1 < scanBound)
    (fin : ∀ b h', Heap.SameBut a s.heap h' → SetKeys knd h' a (oneMore D k) → Q b { s with heap := h' }) : wpAny (model prog w) A (setAddHashed a x (knd.hash k)) Q E s := by
  obtain ⟨HK, o', es', ep', t', ho', hd', gt', ld'⟩ := S
  obtain ⟨o, es, ep, t, ho, ex, hd, el, mem, bnd, fit, len⟩ := id HK
  obtain ⟨gt, ld⟩ : GoodT t ∧ (w.params.followText "set-order" = false → t.led = true) := by
    rw [ho] at ho'; cases ho'
    rw [hd] at hd'; cases hd'
    exact ⟨gt', ld'⟩
  have by1 := byScan_of hx bnd el
  unfold setAddHashed setAddHashedIn setAddByScan
  refine wpAny_holding (wpAny_bind (wpAny_setState_of ho hd fit ?_))
  dsimp only
  rw [by1, if_pos rfl]
  refine wpAny_bind (wpAny_bind (wpAny_rule (wpAny_bind (wpAny_setScan_of hk ho hd fit el ?_))))
  have gave : ∀ (b : Bool) {s1 : Shared} {Q' : Unit → Shared → Prop}, Q' () s1 → wpAny (model prog w) A (match b with | true => rule "set.scan.the-table-gave-way" | false => pure ()) Q' E s1 := fun b s1 Q' q => by
    cases b
    · exact wpAny_pure q
    · exact wpAny_rule q
  cases hr : es.toList.findIdx? (fun e => knd.is k e.2) with
  | some j =>
    obtain ⟨hj, hp, _⟩ := List.findIdx?_eq_some_iff_getElem.mp hr
    have hin : k ∈ D := of_decide_eq_true ((mem k).mpr ⟨_, List.getElem_mem hj, hp⟩)
    refine wpAny_pure (wpAny_pure ?_)
    have q := fin false s.heap (Heap.SameBut.refl a s.heap) (by
      unfold oneMore
      rw [if_pos hin]
      exact ⟨HK, _, _, _, _, ho, hd, gt, ld⟩)
    exact q
  | none =>
    have hout : k ∉ D := fun z => by
      obtain ⟨e, he, hp⟩ := (mem k).mp (decide_eq_true z)
      have := List.findIdx?_eq_none_iff.mp hr e he
      rw [hp] at this; cases this
    have more : ∀ k', decide (k' ∈ oneMore D k) = (decide (k' ∈ D) || decide (k' = k)) := fun k' => by
      unfold oneMore
      rw [if_neg hout]
      simp [Bool.decide_or]
    obtain ⟨g1, l1⟩ := good_lay gt es (knd.hash k) x
    have pm := layNew_perm t es (knd.hash k) x
    have ft := layNew_fits t es (knd.hash k) x
    dsimp only
    generalize layNew t es (knd.hash k) x = L at g1 l1 pm ft ⊢
    obtain ⟨es1, t1, dummy, gv⟩ := L
    dsimp only at g1 l1 pm ft ⊢
    rw [Array.toList_push] at pm
    have el1 : ElemsOf knd es1.toList := (el.push hk hx).perm pm
    have mem1 : ∀ k', decide (k' ∈ oneMore D k) = true ↔ ∃ e ∈ es1.toList, knd.is k' e.2 = true := fun k' => by
      rw [more]; exact mem_push_iff hk mem pm k'
    have sz1 : es1.size = (oneMore D k).length := by
      unfold oneMore
      rw [if_neg hout, ← Array.length_toList, pm.length_eq, List.length_append, List.length_append, Array.length_toList, len]; rfl
    have lenD : (oneMore D k).length = D.length + 1 := by
      unfold oneMore
      rw [if_neg hout, List.length_append]; rfl
    have bnd1 : es1.size < scanBound := by (first | lia | omega)
    have ld1 : w.params.followText "set-order" = false → t1.led = true := fun z => l1.trans (ld z)
    -- what is stored, and stored again where the table is too full
    have tail : ∀ t2 : SetTable, GoodT t2 → (w.params.followText "set-order" = false → t2.led = true) → t2.fits es1.size = true → ∀ c : Bool,
        wpAny (model prog w) A (do
          storeSet a es1 t2
          if c = true then do
              (match (relayAll t2 es1 (SetTable.grown es1.size)).2.2 with | true => rule "set.scan.the-table-gave-way" | false => pure ())
              storeSet a (relayAll t2 es1 (SetTable.grown es1.size)).1 (relayAll t2 es1 (SetTable.grown es1.size)).2.1
              pure (some true)
            else pure (some true)) (fun r s' => r = some true ∧ ∃ h', s' = { s with heap := h' } ∧ Heap.SameBut a s.heap h' ∧ SetKeys knd h' a (oneMore D k)) E s := by
      intro t2 g2 ld2 ft2 c
      refine wpAny_bind (wpAny_storeSet_of ho hd ?_ (fits_of_scanBound bnd1))
      obtain ⟨e1, gs1⟩ := put_good (es' := es1) ho hd g2 ld2
      have sb1 := Heap.SameBut.update s.heap a (Obj.putSet es1 t2)
      cases c with
      | false =>
        rw [if_neg Bool.false_ne_true]
        exact wpAny_pure ⟨rfl, _, rfl, sb1, ⟨_, _, _, _, e1, ex, rfl, el1, mem1, bnd1, ft2, sz1⟩, gs1⟩
      | true =>
        rw [if_pos rfl]
        have pm2 := relayAll_perm t2 es1 (SetTable.grown es1.size)
        have ft3 := relayAll_fits t2 es1 (SetTable.grown es1.size)
        obtain ⟨g3, l3⟩ := good_relay (t := t2) es1 (SetTable.grown es1.size)
        generalize relayAll t2 es1 (SetTable.grown es1.size) = L2 at pm2 ft3 g3 l3 ⊢
        obtain ⟨es2, t3, gv2⟩ := L2
        dsimp only at pm2 ft3 g3 l3 ⊢
        have sz2 : es2.size = es1.size := by rw [← Array.length_toList, pm2.length_eq, Array.length_toList]
        refine wpAny_bind (gave _ ?_)
        refine wpAny_bind (wpAny_storeSet_of e1 rfl ?_ (fits_of_scanBound (by (first | lia | omega))))
        obtain ⟨e2, gs2⟩ := put_good (s := { s with heap := s.heap.update a (Obj.putSet es1 t2) }) (es' := es2) e1 rfl g3 (fun z => l3.trans (ld2 z))
        refine wpAny_pure ⟨rfl, _, rfl, sb1.trans (Heap.SameBut.update _ a _), ⟨_, _, _, _, e2, ex, rfl, el1.perm pm2, fun k' => (mem1 k').trans ⟨fun ⟨e, he, q⟩ => ⟨e, pm2.mem_iff.mpr he, q⟩, fun ⟨e, he, q⟩ => ⟨e, pm2.mem_iff.mp he, q⟩⟩, by (first | lia | omega), ft3, sz2.trans sz1⟩, gs2⟩
    have out : ∀ (r : Option Bool) s', (r = some true ∧ ∃ h', s' = { s with heap := h' } ∧ Heap.SameBut a s.heap h' ∧ SetKeys knd h' a (oneMore D k)) → wpAny (model prog w) A (match r with | some added => pure added | none => setAddHashedIn a x (knd.hash k) 99999) Q E s' := by
      rintro r s' ⟨rfl, h', rfl, sb, sk⟩
      exact wpAny_pure (fin true h' sb sk)
    refine wpAny_bind (gave _ ?_)
    cases hpl : t1.plain with
    | false =>
      rw [if_neg Bool.false_ne_true]
      refine wpAny_bind (wpAny_pure ?_)
      rw [if_pos rfl]
      exact wpAny_mono (tail t1 g1 ld1 ft _) (fun r s' q => out r s' q) fun _ _ z => z
    | true =>
      rw [if_pos rfl]
      refine wpAny_bind ?_
      rw [hashByValue_scannable 8 hx]
      refine wpAny_pure ?_
      cases plainKind x with
      | true =>
        rw [if_pos rfl]
        exact wpAny_mono (tail t1 g1 ld1 ft _) (fun r s' q => out r s' q) fun _ _ z => z
      | false =>
        rw [if_neg Bool.false_ne_true]
        exact wpAny_mono (tail { t1 with plain := false } g1 ld1 (SetTable.fits_plain_off ft) _) (fun r s' q => out r s' q) fun _ _ z => z
theorem SetKeys.at' {D : List K} {h h' : Heap} (x : SetKeys knd h a D) (k : ∀ o, h.get? a = some o → h'.get? a = some o) : SetKeys knd h' a D := ⟨x.1.at' k, x.2.at' k⟩
theorem add_call {D : List K} {k : K} {x : Value} {Q : Value → Shared → Prop} (hk : knd.is k x = true) (hx : x.scannable = true) (S : SetKeys knd s.heap a D) (room : D.length + 1 < scanBound)
    (fin : ∀ h', Heap.SameBut a s.heap h' → SetKeys knd h' a (oneMore D k) → Q .none { s with heap := h', toks := s.toks + 1 }) : wpAny (model prog w) A (call (.builtin "set.add") [.ref a, x]) Q E s := by
  refine wpAny_call_entry F.slot_set_add (show s.heap.SetOf knd a _ _ from S.1).typeIs F.entry_set_add ?_ (F.args_set_add_2 _ _)
  unfold Builtin.«set.add» Builtin.Frozenset.oneOther Builtin.Frozenset.addrOf setAdd
  simp only [List.isEmpty_nil, bind_assoc]
  refine wpAny_bind (wpAny_pure (wpAny_bind (wpAny_pure (wpAny_bind (wpAny_holding (wpAny_bind (knd.pyHash hk ?_)))))))
  exact add_hashed (s := { s with toks := s.toks + 1 }) hk hx S room fun b h' sb sk => wpAny_pure ⟨_, rfl, fin h' sb sk⟩
end
end L2

set_option Elab.async false
set_option linter.all false
set_option maxRecDepth 100000
set_option maxHeartbeats 4000000
/-! str(x) of data, however nested -/
namespace L2
open PySem PySem.Spec PyProof.Rows
section
variable {X : Cx} {pins : List (Addr × Obj)} {σ : St} {H : Hp} {s : Shared}
end
end L2

set_option Elab.async false
set_option linter.all false
set_option maxRecDepth 100000
set_option maxHeartbeats 4000000
/-! {e for t in xs if c}: a set's comprehension, of texts or of ints -/
namespace L2
open PySem PySem.Spec PyProof.Rows
/-- keys of one kind: how they look in the heap's letters -/
structure KeyV (P : Program) (w : World) (K : Type) [DecidableEq K] where
  knd : PySem.KeyKind P w K
  v : K → V
  ok : ∀ k u, RelV (v k) u → knd.is k u = true ∧ u.scannable = true
noncomputable def intV (P : Program) (w : World) : KeyV P w Int := ⟨intKind P w, V.int, fun k u r => by obtain ⟨t, rfl⟩ := r; exact ⟨intKind_is _ _ _ _, rfl⟩⟩
/-- a set of such keys -/
noncomputable def setK {P : Program} {w : World} {K : Type} [DecidableEq K] (kv : KeyV P w K) (a : Addr) (D : List K) : HO := .ext fun h => SetKeys kv.knd h a D
theorem setK_ok {P : Program} {w : World} {K : Type} [DecidableEq K] {kv : KeyV P w K} {a : Addr} {D : List K} {H : Hp} {h : Heap} (x : SetKeys kv.knd h a D) : ObjOk P w H h a (setK kv a D) := by
  have x' := x.1
  obtain ⟨o, es, ep, t, e, rest⟩ := x'
  exact ⟨x, ⟨o, e⟩, fun h1 h2 y k => SetKeys.at' y k⟩
section
variable {prog : Program} {w : World} {A : Around} {R : Result → Shared → Prop} {s : Shared}
theorem scomp_turn (ex target iter : Expr) (ifs : List Expr) (scope : Scope) (pos : Pos) (it : Value) (D : Addr) (env : Env) :
    compTurn (.SetComp ex [⟨target, iter, ifs, 0⟩] scope pos) 0 it (.ref D) env = (do
      standAt iter.pos
      match ← pyNext it with
      | none => pure (.done .next)
      | some v =>
        letOwnedTupleGo target it v
        assign target env v
        let mut ok := true
        for c in ifs do
          if ok then ok ← isTrue c env (eval c env)
        if ok then
          (do
            let ev ← eval ex env
            standAt ex.pos
            let _ ← call (.builtin "set.add") [.ref D, ev])
        again (.compLoop (.SetComp ex [⟨target, iter, ifs, 0⟩] scope pos) 0 it (.ref D) env)) := by rfl
theorem scomp_turns {ex target iter : Expr} {ifs : List Expr} {scope : Scope} {pos : Pos} {it : Value} {D : Addr} {env : Env} (I : Nat → Shared → Prop)
    (turn : ∀ n s, I n s → wpAny (model prog w) A (pyNext it) (fun r s1 => match r with
      | none => R (.ok .next) s1
      | some v => wpAny (model prog w) A (letOwnedTupleGo target it v) (fun _ s1' => wpAny (model prog w) A (assign target env v) (fun _ s2 =>
          wpAny (model prog w) A (testsOf ifs env) (fun ok s3 =>
            if ok = true then wpAny (model prog w) A (eval ex env) (fun ev s4 => wpAny (model prog w) A (call (.builtin "set.add") [.ref D, ev]) (fun _ s6 => ∃ m, m < n ∧ I m s6) noE s4) noE s3
            else ∃ m, m < n ∧ I m s3) noE s2) noE s1') noE s1) noE s)
    (n : Nat) (h : I n s) : codeAny (model prog w) A (.compLoop (.SetComp ex [⟨target, iter, ifs, 0⟩] scope pos) 0 it (.ref D) env) R s := by
  refine codeAny_loop rfl I (fun n s hI => (show wpAny _ A (Sem.onRaise (compTurn (.SetComp ex [⟨target, iter, ifs, 0⟩] scope pos) 0 it (.ref D) env) (fun x => do noteFrame x env; theTreesLotGoes x)) _ _ s from wpAny_noted ?_)) n h
  rw [scomp_turn]
  refine wpAny_bind (wpAny_standAt (wpAny_bind (noE_to (thn (turn n s hI) fun r s1 h1 => ?_))))
  cases r with
  | none => exact wpAny_pure h1
  | some v =>
    refine wpAny_bind (noE_to (thn h1 fun _ s1' h1' => ?_))
    refine wpAny_bind (noE_to (thn h1' fun _ s2 h2 => wpAny_bind (noE_to (thn h2 fun ok s3 h3 => ?_))))
    cases ok with
    | false => exact wpAny_pure ⟨rfl, h3⟩
    | true =>
      exact wpAny_bind (wpAny_bind (noE_to (thn h3 fun ev s4 h4 => wpAny_bind (wpAny_standAt (wpAny_bind (noE_to (thn h4 fun _ s6 h6 => wpAny_pure (wpAny_pure ⟨rfl, h6⟩))))))))
theorem scomp_start {ex target iter ifs rest scope pos it acc env} (h0 : codeAny (model prog w) A (.compLoop (.SetComp ex (⟨target, iter, ifs, 0⟩ :: rest) scope pos) 0 it acc env) R s)
    (h : wpAny (model prog w) A (pyIter it) (fun it' s' => codeAny (model prog w) A (.compLoop (.SetComp ex (⟨target, iter, ifs, 0⟩ :: rest) scope pos) 0 it' acc env) R s') (notedBy (model prog w) A env fun x s' => R (.error x) s') s) :
    codeAny (model prog w) A (.compStart (.SetComp ex (⟨target, iter, ifs, 0⟩ :: rest) scope pos) 0 it acc env) R s := by
  refine codeAny_of_tree (show wpAny _ A ((compStart (.SetComp ex (⟨target, iter, ifs, 0⟩ :: rest) scope pos) 0 it acc env).onRaise (fun x => do noteFrame x env; standAt theWindowsPlace)) _ _ s from wpAny_notedAt ?_)
  unfold compStart
  refine wpAny_bind (m := ask) (wpAny_askSetting (wpAny_ite ?_))
  split
  · first
      | exact wpAny_bind (wpAny_pure (wpAny_pure ⟨rfl, h0⟩))
      | exact wpAny_pure ⟨rfl, h0⟩
  · refine wpAny_bind (wpAny_rule ?_)
    refine wpAny_bind (m := standAt iter.pos) (wpAny_standAt ?_)
    exact wpAny_bind (wpAny_mono h (fun it' s' h' => wpAny_pure ⟨rfl, h'⟩) fun _ _ x => x)
end
section
variable {X : Cx} {pins : List (Addr × Obj)} {σ : St} {H : Hp} {s : Shared} {a : Addr} {u : Value} {A : Around} {E : Value → Shared → Prop} {K : Type} [DecidableEq K] {kv : KeyV X.prog X.w K}
theorem s_add {D : List K} {k : K} {Q : Value → Shared → Prop} (I : Inv X pins σ H s) (e : H a = some (setK kv a D)) (l : D.length ≤ 4000) (ry : RelV (kv.v k) u)
    (h : ∀ v s', Inv X pins σ (upd H a (setK kv a (oneMore D k))) s' → Q v s') : wpAny (model X.prog X.w) A (call (.builtin "set.add") [.ref a, u]) Q E s := by
  have x := (show ObjOk X.prog X.w H s.heap a (setK kv a D) from I.hok a _ e).1
  obtain ⟨h1, h2⟩ := kv.ok k u ry
  refine add_call h1 h2 x (by unfold scanBound; (first | lia | omega)) fun h' sb y => ?_
  have y' := y.1
  obtain ⟨o, es, ep, t, eo, _⟩ := y'
  exact h _ _ (d_write I (by rw [e]; exact True.intro) sb ⟨o, eo⟩ (setK_ok y))
end
/-- the reading of a set's comprehension: W i m H is what holds ahead of turn i (D is the new set), m falls -/
noncomputable def CompS {P : Program} {w : World} {KT : Type} [DecidableEq KT] (kv : KeyV P w KT) (J : It) (n : Nat) (js : List Nat) (g : TG) (tc : TT) (te : TE) (σ : St) (D : Addr) (H1 : Hp) (fin : Hp → Prop) : Prop :=
  ∃ W : Nat → Nat → Hp → Prop, (∃ m, W 0 m H1) ∧ ∀ i m H, W i m H →
    (J.stop i H ∧ fin H) ∨
    (J.go i H ∧ ∀ x H', J.yld i H x H' → g x (List.replicate n none ++ cvals σ js) H' fun σ2 H2 => tc σ2 H2 fun b H3 =>
      if b = true then te σ2 H3 fun y H4 => ∃ ks k, H4 D = some (setK kv D ks) ∧ y = kv.v k ∧ ks.length ≤ 4000 ∧ ∃ m', m' < m ∧ W (i + 1) m' (upd H4 D (setK kv D (oneMore ks k))) else ∃ m', m' < m ∧ W (i + 1) m' H3)
noncomputable def tSComp {P : Program} {w : World} {KT : Type} [DecidableEq KT] (kv : KeyV P w KT) (wi : TI) (n : Nat) (js : List Nat) (g : TG) (tc : TT) (te : TE) : TE := fun σ H Q => wi σ H fun J H1 => ∀ D, H1 D = none → CompS kv J n js g tc te σ D (upd H1 D (setK kv D [])) fun H2 => Q (.ref D) H2
theorem new_set {prog : Program} {w : World} {A : Around} {s : Shared} {Q : Value → Shared → Prop} {E : Value → Shared → Prop} (h : ∀ led, (w.params.followText "set-order" = false → led = true) → Q (.ref s.heap.objs.size) { s with heap := s.heap.push (setObj0 led) }) : wpAny (model prog w) A (newSet (.type "set")) Q E s := by
  unfold newSet setsByText
  refine wpAny_bind (wpAny_bind (wpAny_askSetting (wpAny_pure ?_)))
  show wpAny _ _ (newObj _ _) _ _ _
  simp only [newObj]
  exact wpAny_bind (wpAny_alloc (wpAny_pure (h _ fun z => by show (!w.params.followText "set-order") = true; rw [z]; rfl)))
theorem fresh_keys {prog : Program} {w : World} {K : Type} [DecidableEq K] {knd : PySem.KeyKind prog w K} {h : Heap} {a : Addr} {led : Bool} (e : h.get? a = some (setObj0 led)) : HasKeys knd h a [] := by
  have z := (setObjOf_fresh (knd := knd) led).setOf e (by decide)
  have q : (fun k : K => decide (k ∈ ([] : List K))) = fun _ => false := by funext k; simp
  show Heap.SetOf knd _ _ (fun k => decide (k ∈ ([] : List K))) 0
  rw [q]
  exact z
theorem fresh_good {prog : Program} {w : World} {K : Type} [DecidableEq K] {knd : PySem.KeyKind prog w K} {h : Heap} {a : Addr} {led : Bool} (l : w.params.followText "set-order" = false → led = true) (e : h.get? a = some (setObj0 led)) : SetKeys knd h a [] := ⟨fresh_keys e, _, _, _, _, e, rfl, good_fresh, l⟩
theorem scomp_core {X : Cx} {KT : Type} [DecidableEq KT] (kv : KeyV X.prog X.w KT) {ex tg iter : Expr} {ifs : List Expr} {scope : Scope} {pos : Pos} {Nc Fc : List Str} {js : List Nat} {wi : TI} {g : TG} {tc : TT} {te : TE} {use : Option (Value → Sem Unit)} {QV : Value → Shared → Prop}
    (hcalm : X.calm = true) (c : CompOk X scope Nc Fc js) (hi : PI X tg iter wi)
    (hg : ∀ cl C s H fp, PG (cxC X Nc Fc scope cl C s H fp) tg g) (htc : ∀ cl C s H fp, PTs (cxC X Nc Fc scope cl C s H fp) ifs tc) (hte : ∀ cl C s H fp, PE (cxC X Nc Fc scope cl C s H fp) ex te) (gk : Gk Nc.length g)
    {pins : List (Addr × Obj)} {s : Shared} {σ : St} {H : Hp} {fin : Addr → Hp → Prop} (I : Inv X pins σ H s)
    (h : wi σ H fun J H1 => ∀ D, H1 D = none → CompS kv J Nc.length js g tc te σ D (upd H1 D (setK kv D [])) (fin D))
    (behind : ∀ (C D : Addr) (m : Str → Option Value) (H2 : Hp) (s2 : Shared), Inv X pins σ H2 s2 → s2.heap.Ns C m → FpOk X pins H2 C → fin D H2 → compPost (model X.prog X.w) X.A X.xe use QV (.ref D) C (.ok .next) s2)
    (hs : ∀ x, foldedSetIterable iter X.env x = pure x) :
    wpAny (model X.prog X.w) X.A (comprehension (.SetComp ex [⟨tg, iter, ifs, 0⟩] scope pos) scope X.env (firstIterPos [⟨tg, iter, ifs, 0⟩] pos) (newSet (.type "set")) false (eval iter X.env) use) QV X.xe s := by
  obtain ⟨cl, hclos, hsub, hhas⟩ := closure_of (scope := scope) (env := X.env) fun y hy hf => I.ok.has y.1 (c.free y hy hf)
  refine wpAny_comprehension_free (use := use) rfl hs hclos c.kind c.names ?_
  refine thn (hi s σ H _ I h) fun v s1 h1 => thn h1 fun itv s2 h2 => ?_
  obtain ⟨it, fp, tn, J, H2, e, I2, T, st2, f2, all⟩ := h2
  subst e
  refine new_set fun led hled => ?_
  refine (wpAny_newFunctionEnv c.nocell (by intro y hy; simp at hy) (fun h1 hns1 hsb1 => ?_) c.kind)
  dsimp only at hns1 hsb1 ⊢
  have hDn : H2 s2.heap.objs.size = none := I2.hok.fresh (Nat.le_refl _)
  have I2' := I2.laid (a := s2.heap.objs.size) (o := setK kv s2.heap.objs.size []) (h' := s2.heap.push (setObj0 led)) (t' := s2.toks) (fun _ _ q => Heap.get?_push_of_some _ q) (Nat.le_refl _) (setK_ok (fresh_good hled (Heap.get?_push_size _ rfl)))
  obtain ⟨W, ⟨m0, w0⟩, turn⟩ := all _ hDn
  have fo2 : ∀ b ∈ fp, ∃ o, s2.heap.get? b = some o := fun b hb => let ⟨o, e, _⟩ := T.obj 0 _ st2 b hb; ⟨o, e⟩
  have hDfp : ∀ b ∈ fp, b < s2.heap.objs.size := fun b hb => let ⟨o, e⟩ := fo2 b hb; Heap.lt_size e
  generalize hG : s2.heap.push (setObj0 led) = G at hns1 hsb1 I2' ⊢
  have toG : ∀ b o, s2.heap.get? b = some o → G.get? b = some o := fun b o e => hG ▸ Heap.get?_push_of_some _ e
  have hC : G.objs.size = s2.heap.objs.size + 1 := by rw [← hG, Heap.size_push]
  have old : ∀ b o, G.get? b = some o → h1.get? b = some o := fun b o e =>
    hsb1.extBut b o (addr_ne (Heap.lt_size e) (Nat.le_refl _)) (Heap.get?_push_of_some _ e)
  let D : Addr := s2.heap.objs.size
  let s2' : Shared := { s2 with heap := G, toks := s2.toks }
  let H2' : Hp := upd H2 D (setK kv D [])
  have f2' : ∀ b ∈ fp, FpOk X pins H2' b := fun b hb => by
    obtain ⟨a1, a2⟩ := f2 b hb
    refine ⟨?_, a2⟩
    show upd H2 D (setK kv D []) b = none
    rw [upd_ne (Nat.ne_of_lt (hDfp b hb))]; exact a1
  have fo : ∀ b ∈ fp, ∃ o, s2'.heap.get? b = some o := fun b hb => let ⟨o, e⟩ := fo2 b hb; ⟨o, toG b o e⟩
  have hfG : ∀ b ∈ fp, b < G.objs.size := fun b hb => by have := hDfp b hb; rw [hC]; exact Nat.lt_succ_of_lt this
  let Xc : Cx := cxC X Nc Fc scope cl G.objs.size s2' H2' fp
  have stat : ∀ {H' : Hp}, (∀ b ∈ fp, H' b = none) → ∀ b ∈ fp, FpOk Xc [] H' b := fun {H'} hn b hb => by
    refine ⟨hn b hb, ?_, ?_, .inl hb, fun x a e => ?_, fun p hq => ?_⟩
    · exact addr_ne (hfG b hb) (Nat.le_refl _)
    · exact (cxC_ok I2' c hsub hhas (Nat.le_refl _) f2' fo).exfs b hb
    · exact (f2 b hb).2.2.2.2.1 x a (hsub _ _ e)
    · have q : p ∈ ([] : List (Addr × Obj)) ++ [] := hq
      simp at q
  have loop : ∀ t1, codeAny (model X.prog X.w) X.A (.compLoop (.SetComp ex [⟨tg, iter, ifs, 0⟩] scope pos) 0 (.ref it) (.ref s2.heap.objs.size) (compEnvC scope cl G.objs.size X.env))
      (compPost (model X.prog X.w) X.A X.xe use QV (.ref s2.heap.objs.size) G.objs.size) { s2 with heap := h1, toks := t1 } := by
    intro t1
    refine scomp_turns (fun n s' => ∃ i H', Inv Xc [] (List.replicate Nc.length none ++ cvals σ js) H' s' ∧ tn i s'.heap ∧ (∀ b ∈ fp, H' b = none) ∧ W i n H') ?_ m0
      ⟨0, H2', cxC_inv0 I2' c hsub hhas (Nat.le_refl _) f2' fo old hns1, T.keep _ _ _ st2 (fun b hb o e => old b o (toG b o e)), fun b hb => (f2' b hb).1, w0⟩
    rintro n s3 ⟨i, H3, I3, st3, fr3, w3⟩
    rcases turn i n H3 w3 with ⟨stop, qn⟩ | ⟨go, step⟩
    · refine thn (T.done Xc rfl rfl rfl hcalm i _ s3 _ H3 noE I3 (stat fr3) st3 stop) fun r s4 ⟨hr, I4⟩ => ?_
      subst hr
      show compPost _ _ _ _ _ _ _ _ _
      obtain ⟨mC, hmC, _⟩ := I4.loc
      have hCn : H3 G.objs.size = none := I4.free
      have u : Un (frs X.stack) fp H2' H3 G s4.heap := I4.base
      have hch : ∀ b ∈ fp, (b ∈ X.ex ∨ X.s₀.heap.objs.size ≤ b) ∧ b ≠ X.env.locals ∧ (∀ x c, X.env.cells.lookup x = some c → c ≠ b) ∧ ∀ p ∈ X.pn ++ pins, p.1 ≠ b := fun b hb =>
        ⟨(f2 b hb).2.2.2.1, (f2 b hb).2.1, (f2 b hb).2.2.2.2.1, (f2 b hb).2.2.2.2.2⟩
      have os4 : s4.os = s2'.os := I4.os
      have J4 : Inv X pins σ H3 s4 := I2'.call' (H' := H3) os4 u I4.hok I4.bare hch
      exact behind G.objs.size D mC H3 s4 J4 hmC (I2'.fpOk (Nat.le_refl _) hCn) qn
    · refine thn (T.item Xc rfl rfl rfl hcalm i _ s3 _ H3 noE I3 (stat fr3) st3 go) fun r s4 ⟨u, hr, h4⟩ => ?_
      subst hr
      show wpAny _ _ (letOwnedTupleGo tg (.ref it) u) _ _ _
      refine thn h4 fun _ s5 ⟨x, H5, I5, r5, y5, st5, fr5⟩ => ?_
      have I5' := I5.pinned (stat fr5) (T.obj _ _ st5)
      refine thn (hg cl G.objs.size s2' H2' fp s5 _ H5 x u _ I5' r5 (gk _ _ _ _ (step x H5 y5))) fun _ s6 ⟨σ6, H6, I6, q6, kσ, kl⟩ => ?_
      refine thn (htc cl G.objs.size s2' H2' fp s6 σ6 H6 _ I6 q6) fun b s7 ⟨H7, I7, q7⟩ => ?_
      have later : ∀ {σ' : St} {H' : Hp} {s' : Shared}, Inv Xc ([] ++ pinsAt fp s5.heap) σ' H' s' → tn (i + 1) s'.heap ∧ ∀ b ∈ fp, H' b = none := fun {σ' H' s'} Iz => by
        refine ⟨T.keep _ _ _ st5 fun b hb o e => (Iz.pin (b, o) (List.mem_append_right _ (List.mem_append_right _ (mem_pinsAt hb e)))).1, fun b hb => ?_⟩
        obtain ⟨o, e, d⟩ := T.obj _ _ st5 b hb
        exact (Iz.pin (b, o) (List.mem_append_right _ (List.mem_append_right _ (mem_pinsAt hb e)))).2.1
      have back : ∀ {pl : List (Addr × Obj)} {H' : Hp} {s' : Shared}, Inv Xc pl σ6 H' s' → Inv Xc pl (List.replicate Nc.length none ++ cvals σ js) H' s' := fun {pl H' s'} Iz => by
        refine Iz.weak (by rw [← kl]) fun j v hj => ?_
        by_cases hn : j < Nc.length
        · rw [List.getElem?_append_left (by simpa using hn), List.getElem?_replicate] at hj
          split at hj <;> cases hj
        · rw [kσ j (by (first | lia | omega))]; exact hj
      cases b with
      | false =>
        rw [if_neg Bool.false_ne_true] at q7 ⊢
        obtain ⟨m', hm', w7⟩ := q7
        obtain ⟨l1, l2⟩ := later I7
        exact ⟨m', hm', i + 1, H7, back I7.unpinned, l1, l2, w7⟩
      | true =>
        rw [if_pos rfl] at q7 ⊢
        refine thn (hte cl G.objs.size s2' H2' fp s7 σ6 H7 _ I7 q7) fun yv s8 ⟨y, H8, I8, r8, q8⟩ => ?_
        obtain ⟨ks, k, eD, ey, hl, m', hm', w9⟩ := q8
        subst ey
        refine s_add (X := Xc) (kv := kv) I8 eD hl r8 fun _ s10 I10 => ?_
        obtain ⟨l1, l2⟩ := later I10
        exact ⟨m', hm', i + 1, _, back I10.unpinned, l1, l2, w9⟩
  exact scomp_start (loop _) (T.self _ 0 _ _ _ (T.keep _ _ _ st2 fun b hb o e => old b o (toG b o e)) (loop _))
theorem pe_scomp {X : Cx} {KT : Type} [DecidableEq KT] (kv : KeyV X.prog X.w KT) {ex tg iter : Expr} {ifs : List Expr} {scope : Scope} {pos : Pos} {Nc Fc : List Str} {js : List Nat} {wi : TI} {g : TG} {tc : TT} {te : TE}
    (hcalm : X.calm = true) (c : CompOk X scope Nc Fc js) (hi : PI X tg iter wi) (gk : Gk Nc.length g)
    (hg : ∀ cl C s H fp, PG (cxC X Nc Fc scope cl C s H fp) tg g) (htc : ∀ cl C s H fp, PTs (cxC X Nc Fc scope cl C s H fp) ifs tc) (hte : ∀ cl C s H fp, PE (cxC X Nc Fc scope cl C s H fp) ex te)
    (hs : ∀ x, foldedSetIterable iter X.env x = pure x := by intro _; rfl) :
    PE X (.SetComp ex [⟨tg, iter, ifs, 0⟩] scope pos) (tSComp kv wi Nc.length js g tc te) := by
  intro pins s σ H Q I h
  rw [arm_eval_SetComp]
  refine scomp_core kv (use := none) (fin := fun D H2 => Q (.ref D) H2) hcalm c hi hg htc hte gk I h (fun C D m H2 s2 I2 hm hC q => ?_) hs
  refine ⟨m, hm, fun h' hs' => ?_⟩
  exact ⟨.ref D, _, I2.turned (it := C) (t' := s2.toks) (fun b o hb e => hs'.extBut b o hb e) hC.1 (hC.2.1) hC.2.2.2.1 hC.2.2.2.2.1 hC.2.2.2.2.2, rfl, q⟩
/-- a set's comprehension of N turns, each with one more key -/
theorem scomp_go {P : Program} {w : World} {KT : Type} [DecidableEq KT] {kv : KeyV P w KT} {J : It} {n : Nat} {js : List Nat} {g : TG} {tc : TT} {te : TE} {σ : St} {D : Addr} {H1 : Hp} {fin : Hp → Prop} (N : Nat) (Pv : Nat → Hp → Prop) (h0 : Pv 0 H1)
    (go : ∀ i H (Nx : Hp → Prop), i < N → Pv i H → (∀ H', Pv (i + 1) H' → Nx H') → J.go i H ∧
      ∀ x H', J.yld i H x H' → g x (List.replicate n none ++ cvals σ js) H' fun σ2 H2 => tc σ2 H2 fun b H3 => if b = true then te σ2 H3 fun y H4 => ∃ ks k, H4 D = some (setK kv D ks) ∧ y = kv.v k ∧ ks.length ≤ 4000 ∧ Nx (upd H4 D (setK kv D (oneMore ks k))) else Nx H3)
    (stop : ∀ H, Pv N H → J.stop N H ∧ fin H) : CompS kv J n js g tc te σ D H1 fin := by
  refine ⟨fun i m H => m = N - i ∧ i ≤ N ∧ Pv i H, ⟨N, by simp, Nat.zero_le _, h0⟩, ?_⟩
  rintro i m H ⟨rfl, hi, p⟩
  by_cases hlt : i < N
  · obtain ⟨g1, g2⟩ := go i H (fun H' => ∃ m', m' < N - i ∧ (m' = N - (i + 1) ∧ i + 1 ≤ N ∧ Pv (i + 1) H')) hlt p fun H' q => ⟨_, by (first | lia | omega), rfl, hlt, q⟩
    exact .inr ⟨g1, fun x H' y => g2 x H' y⟩
  · have e : i = N := by (first | lia | omega)
    subst e
    exact .inl (stop H p)
end L2

set_option Elab.async false
set_option linter.all false
set_option maxRecDepth 100000
set_option maxHeartbeats 4000000
/-! reverse, clear, count of a list; texts and numbers of the module -/
namespace L2
open PySem PySem.Spec PyProof.Rows
section
variable {X : Cx}
theorem reverseN : MtM X "list.reverse" (fun x vs H Q => ∃ l xs, x = .ref l ∧ vs = [] ∧ H l = some (.lst xs) ∧ ∀ H', Chg H l (.lst xs.reverse) H' → Q .non H') := by
  intro pins s σ H x vs v us Q I rx rv h
  obtain ⟨l, xs, rfl, rfl, hH, q⟩ := h
  cases rx
  cases rv
  obtain ⟨z, its, n, r, hl, e⟩ := I.lstM hH
  refine call_meets F.slot_list_reverse ⟨_, e, rfl⟩ F.entry_list_reverse (F.args_list_reverse_1 _) (AutoListH.list_reverse_list_0 l its.toArray n (by rw [List.size_toArray]; (first | lia | omega))) ⟨e, ?_⟩
  exact ⟨.non, _, I.lset (its' := its.reverse) hH e (by simp) r.rev (by rw [List.length_reverse]; (first | lia | omega)), rfl, q _ ⟨rfl⟩⟩
theorem clear_meets (l : Addr) (items : Array Value) (n : Nat) (hsz : items.size ≤ sizeLine) :
    Meets (Builtin.«list.clear» ⟨[.ref l], []⟩) (fun _ R s => s.heap.get? l = some { cls := .type "list", dict := none, data := .seq items n, slots := #[] } ∧ R (.ok (.ret Value.none)) { s with heap := s.heap.update l (Obj.mapSeq fun _ => #[]), toks := s.toks }) :=
  .of_wp fun prog w A R s h => by
    obtain ⟨hp, g, d, tk, os⟩ := s
    obtain ⟨hl, h⟩ := h
    unfold Builtin.«list.clear»
    refine wpAny_bind (wpAny_pure ?_)
    unfold Builtin.List.listItems
    refine wpAny_bind (wpAny_bind (wpAny_seqItems hl rfl (wpAny_pure ?_)))
    unfold Builtin.List.listUpdate
    refine wpAny_bind (wpAny_updateSeq hl rfl (hz := hsz) (_hz' := Nat.zero_le _) ?_)
    refine wpAny_bind (wpAny_letGo ?_)
    exact wpAny_pure ⟨_, rfl, h⟩
theorem clearN : MtM X "list.clear" (fun x vs H Q => ∃ l xs, x = .ref l ∧ vs = [] ∧ H l = some (.lst xs) ∧ ∀ H', Chg H l (.lst []) H' → Q .non H') := by
  intro pins s σ H x vs v us Q I rx rv h
  obtain ⟨l, xs, rfl, rfl, hH, q⟩ := h
  cases rx
  cases rv
  obtain ⟨z, its, n, r, hl, e⟩ := I.lstM hH
  refine call_meets F.slot_list_clear ⟨_, e, rfl⟩ F.entry_list_clear (F.args_list_clear_1 _) (clear_meets l its.toArray n (by rw [List.size_toArray]; (first | lia | omega))) ⟨e, ?_⟩
  exact ⟨.non, _, I.lset (its' := []) hH e rfl .nil (Nat.zero_le _), rfl, q _ ⟨rfl⟩⟩
end
end L2

set_option Elab.async false
set_option linter.all false
set_option maxRecDepth 100000
set_option maxHeartbeats 4000000
/-! sorted(xs) of fewer than 64 texts -/
namespace L2
open PySem PySem.Spec PyProof.Rows
section
variable {X : Cx} (K : PySem.W.Frag)
end
section
variable {X : Cx}
end
end L2

set_option Elab.async false
set_option linter.all false
set_option maxRecDepth 100000
set_option maxHeartbeats 4000000
/-! range with a step -/
namespace L2
open PySem PySem.Spec PyProof.Rows
section
variable {X : Cx} {tg : Expr}
end
end L2

set_option Elab.async false
set_option linter.all false
set_option maxRecDepth 100000
set_option maxHeartbeats 4000000
/-! a truth value plus a number -/
namespace L2
open PySem PySem.Spec PyProof.Rows
section
variable {X : Cx}
end
end L2

set_option Elab.async false
set_option linter.all false
set_option maxRecDepth 100000
set_option maxHeartbeats 4000000
/-! reversed(list) in a loop's head; list.index of a number; xs[i] += e -/
namespace L2
open PySem PySem.Spec PyProof.Rows
section
variable {X : Cx} {K : PySem.W.Frag}
end
end L2

set_option Elab.async false
set_option linter.all false
set_option maxRecDepth 100000
set_option maxHeartbeats 4000000
/-! a statement that raises nothing, in a def that may raise; isinstance of None or of a caught exception -/
namespace L2
open PySem PySem.Spec PyProof.Rows PySem.W
section
variable {X : Cx} {pins : List (Addr × Obj)} {σ : St} {H : Hp} {s : Shared}
end
section
variable {X : Cx}
end
end L2

set_option Elab.async false
set_option linter.all false
set_option maxRecDepth 100000
set_option maxHeartbeats 4000000
/-! min of a list of numbers; list.remove of a number -/
namespace L2
open PySem PySem.Spec PyProof.Rows
section
variable {X : Cx}
end
end L2

set_option Elab.async false
set_option linter.all false
set_option maxRecDepth 100000
set_option maxHeartbeats 4000000
/-! a text turned about: x[::-1] -/
namespace L2
open PySem PySem.Spec PyProof.Rows
noncomputable def tRevT (te : TE) : TE := fun σ H Q => te σ H fun x H1 => ∃ z : Str, x = .str z ∧ z.length ≤ sizeLine ∧ ∀ y : Str, y.cps.toList = z.cps.toList.reverse → Q (.str y) H1
theorem rngD (l : List Nat) : (List.range l.length).map (fun k => l.getD k 0) = l := by
  refine List.ext_getElem? fun i => ?_
  rw [List.getElem?_map]
  by_cases h : i < l.length
  · rw [List.getElem?_range h, List.getElem?_eq_getElem h]
    simp [List.getD, h]
  · rw [List.getElem?_eq_none (by rw [List.length_range]; (first | lia | omega)), List.getElem?_eq_none (by (first | lia | omega))]
    rfl
theorem sp_rev (x : Str) (t : Tok) : slicePicked x none none (some (-1, t)) = (List.range x.length).map fun k => x.length - 1 - k := by
  have e := PyProof.Rows.picked_rev x.length
  rw [← e]
  rfl
theorem pick_txt (x : Str) (t : Tok) : (slicePicked x none none (some (-1, t))).filterMap (x.cps[·]?) = x.cps.toList.reverse := by
  rw [sp_rev, List.filterMap_map]
  have hl : x.length = x.cps.toList.length := by simp [Str.length]
  have hm : ∀ k ∈ List.range x.length, ((fun i => x.cps[i]?) ∘ fun k => x.length - 1 - k) k = some (x.cps.toList.reverse.getD k 0) := fun k hk => by
    have hk := List.mem_range.mp hk
    simp only [Function.comp]
    rw [List.getD_eq_getElem?_getD, List.getElem?_reverse (by (first | lia | omega)), ← hl]
    rw [← Array.getElem?_toList, List.getElem?_eq_getElem (by (first | lia | omega))]
    rfl
  rw [fm_map hm]
  have hr : x.length = x.cps.toList.reverse.length := by rw [List.length_reverse]; exact hl
  rw [hr]
  exact rngD _
section
variable {X : Cx} {e : Expr} {te : TE} {j p2 p3 p4 pos}
theorem pe_revT (he : PE X e te) : PE X (.Subscript e (.Slice none none (some (.UnaryOp .USub (.Constant (.int 1) j p4) p3)) p2) pos) (tRevT te) := by
  intro pins s σ H Q I h
  refine Subscript_ (thn (he s σ H _ I h) fun v s1 ⟨x, H1, I1, r1, q1⟩ => ?_)
  obtain ⟨z, rfl, hz, q⟩ := q1
  obtain ⟨t, rfl⟩ := r1
  refine wpAny_Slice ?_
  rw [evalPart_none]
  refine wpAny_pure ?_
  refine wpAny_pure ?_
  have hs : PE X (.UnaryOp .USub (.Constant (.int 1) j p4) p3) (tUn (rU fun i => .int (-i)) (tC (.int 1))) := pe_un un_neg pe_int
  have hp := po_some hs s1 σ H1 (fun o H2 => o = some (-1) ∧ H2 = H1) I1 ⟨1, rfl, -1, rfl, rfl, rfl⟩
  refine thn hp fun vs s3 ⟨o, H3, I3, ps, eo, eh⟩ => ?_
  subst eo eh
  have I4 : Inv X pins σ H3 { s3 with heap := s3.heap.push { cls := .type "slice", data := .fields #[.none, .none, vs] } } := I3.kept (t' := s3.toks) fun b ob q => Heap.get?_push_of_some _ q
  cases ps with
  | int i t' =>
    refine tail_any (ops := [.str z t, .ref s3.heap.objs.size]) (typeIs_str _ _ _) F.slot_str_getitem.lookup ?_ (by with_unfolding_all rfl)
    refine wpAny_getItem_str_slice (l := none) (u := none) (st := some (-1, t')) ⟨_, Heap.get?_push_size _ rfl, rfl, rfl⟩ rfl ?_
    unfold sliceMade
    rw [if_neg (by simp)]
    have ey := pick_txt z t'
    refine ⟨?_, ?_⟩
    · show (Str.mk _).length ≤ sizeLine
      rw [ey]
      simp only [Str.length, List.size_toArray, List.length_reverse]
      exact Nat.le_trans (Nat.le_of_eq (by simp [Str.length])) hz
    · exact ⟨.str _, H3, I4.tok _, ⟨_, rfl⟩, q _ (by rw [ey])⟩
end
end L2

set_option Elab.async false
set_option linter.all false
set_option maxRecDepth 100000
set_option maxHeartbeats 4000000
/-! data written out in the text; a dict of the module; x in a sequence of data; upper -/
namespace L2
open PySem PySem.Spec PyProof.Rows
/-- what is new in H' -/
noncomputable def newOf (H H' : Hp) : Hp := fun a => match H a with
  | none => H' a
  | some _ => none
theorem newOf_none {H H' : Hp} {a : Addr} (h : H a = none) : newOf H H' a = H' a := by unfold newOf; rw [h]
theorem of_newOf {H H' : Hp} {a : Addr} {o : HO} (h : newOf H H' a = some o) : H a = none ∧ H' a = some o := by
  unfold newOf at h
  cases e : H a with
  | none => rw [e] at h; exact ⟨rfl, h⟩
  | some u => rw [e] at h; cases h
theorem newOf_more {H H1 H2 : Hp} (s : Same H1 H2) : Same (newOf H H1) (newOf H H2) := fun a o h => by
  rw [newOf_none (of_newOf h).1]; exact s a o (of_newOf h).2
theorem newOf_less {H H1 H2 : Hp} (s : Same H H1) : Same (newOf H1 H2) (newOf H H2) := fun a o h => by
  rw [newOf_none (s.free (of_newOf h).1)]; exact (of_newOf h).2
section
variable {X : Cx} {K : PySem.W.Frag}
end
/-! a dict of the module, its keys texts -/
section
variable {X : Cx} {o i : Expr} {td ty : TE} {pos : Pos}
end
/-! x in a sequence of data -/
section
variable {X : Cx} {pins : List (Addr × Obj)} {σ : St} {H : Hp} {s : Shared}
open Classical in
end
section
variable {X : Cx}
end
section
variable {X : Cx}
end
end L2

set_option Elab.async false
set_option linter.all false
set_option maxRecDepth 100000
set_option maxHeartbeats 4000000
/-! exceptions of own classes that are made by an own __init__, their fields -/
namespace L2
open PySem PySem.Spec PyProof.Rows PySem.W PySem.Calls Builtin Builtin.ObjectAttr
noncomputable abbrev tailVE : List Value := [.type "ValueError", .type "Exception", .type "BaseException", .type "object"]
/-- what must be known of such a class for the store and the load of a field -/
structure ExcSt (K : Frag) (C : Addr) (f : Str) : Prop where
  sa : findIn K (.ref C) "__setattr__" = some (some (.builtin "object.__setattr__"))
  na : findIn K (.ref C) f = some none
  mo : mroIn K C (.type "object") = some true
  cl : ∃ cd D, clsIn K C = some cd ∧ cd.mro = .ref C :: .ref D :: tailVE ∧ cd.hasDict = true
/-- an exception without fields; one whose fields stand in the dict at dx -/
noncomputable def Raw (o : Obj) : Prop := ∃ t, o.data = .fields #[.ref t, .none, .none, .none, .bool false, .none]
theorem Raw.nc {o : Obj} (h : Raw o) : notCls o = true := by
  obtain ⟨_, _, dt, _⟩ := o
  obtain ⟨t, h⟩ := h
  cases h; rfl
noncomputable def excN (e C : Addr) : HO := .ext fun h => ∃ o, h.get? e = some o ∧ o.cls = .ref C ∧ o.dict = none ∧ Raw o
noncomputable def excF (e C dx : Addr) : HO := .ext fun h => ∃ o, h.get? e = some o ∧ o.cls = .ref C ∧ o.dict = some dx ∧ Raw o
section
variable {prog : Program} {w : World} {A : Around} {K : Frag} {C e : Addr} {s : Shared} {E : Value → Shared → Prop} {f : Str} {v : Value}
theorem exc_store {o : Obj} {Q : Unit → Shared → Prop} (X : K.In s.heap) (O : ExcSt K C f) (hx : s.heap.get? e = some o) (hc : o.cls = .ref C) (hd : o.dict = none) (hn : notCls o = true)
    (k : ∀ h' tk, h'.get? e = some { o with dict := some s.heap.objs.size } → h'.Ns1 s.heap.objs.size (fun y => if y = f then some v else none) → (∀ b ob, b ≠ e → s.heap.get? b = some ob → h'.get? b = some ob) → Q () { s with heap := h', toks := tk }) :
    wpAny (model prog w) A (setAttr (.ref e) f v) Q E s := by
  have J : InstAt s.heap e o C none := ⟨hx, hc, hn, by rw [hd]; trivial⟩
  obtain ⟨cd, D, c1, c2, c3⟩ := O.cl
  have SF := PySem.F.store_object
  have top : Looks (model prog w) s.heap (isInstance (.ref e) (.type "object")) true := J.type.andThen (looks_mroIn X O.mo)
  have mros : Looks (model prog w) s.heap (mroOf (.ref C)) cd.mro := (looks_clsIn X c1).andThen .now
  refine set_plain X J O.sa ?_
  refine codeAny_call_builtin SF.slot.plain SF.entry ?_
  refine @check_slot (model prog w) _ _ { s with toks := s.toks + 1 } "object.__setattr__" "object" "__setattr__" (.ref e) [.str f s.toks, v] [] _ SF.kind SF.split top (SF.args (.ref e) (.str f s.toks) v) ?_
  rw [osa_eq, refuse_eq]
  refine wpAny_bind (wpAny_bind (J.type.here (s := { s with toks := s.toks + 1 }) (wpAny_bind (mros.here (s := { s with toks := s.toks + 1 }) ?_))))
  rw [c2, refuseLoop_ref, refuseLoop_ref, PySem.F.store_ValueError.passes]
  refine wpAny_pure (wpAny_bind (J.type.here (s := { s with toks := s.toks + 1 }) ?_))
  refine wpAny_bind ((looks_findIn X O.na).here (s := { s with toks := s.toks + 1 }) ?_)
  refine wpAny_bind (wpAny_pure ?_)
  show wpAny _ _ (storeInOwnDict (.ref e) (.ref C) (.str f s.toks) f v false) _ _ _
  obtain ⟨oc, od, odt, osl⟩ := o
  dsimp only at hc hd
  subst hc hd
  have hfr := (Heap.get?_some_iff.mp hx).2
  have hes : e ≠ s.heap.objs.size := Nat.ne_of_lt (Heap.lt_size hx)
  refine wpAny_bind (wpAny_pure (wpAny_bind ?_))
  show wpAny _ _ (instanceDict e true) _ _ _
  unfold instanceDict
  refine wpAny_bind (wpAny_loadPart hx ?_)
  refine wpAny_bind ((looks_clsIn X c1).here (s := { s with toks := s.toks + 1 }) ?_)
  rw [c3]
  dsimp only
  rw [if_neg (by decide), if_neg (by simp [typeHasDict])]
  split
  · rename_i c
    exact absurd hn (by simp [notCls])
  have hx1 : (s.heap.push { cls := .type "dict", data := .dict #[] }).get? e = some ⟨.ref C, none, odt, osl⟩ := Heap.get?_push_of_some _ hx
  refine wpAny_bind (wpAny_alloc' ?_)
  refine wpAny_bind (wpAny_update' hx1 ?_)
  refine wpAny_pure ?_
  obtain ⟨G, hG⟩ : ∃ G, G = (s.heap.push { cls := .type "dict", data := .dict #[] }).update e fun o => { cls := o.cls, dict := some s.heap.objs.size, data := o.data, slots := o.slots } := ⟨_, rfl⟩
  have gd : G.get? s.heap.objs.size = some { cls := .type "dict", data := .dict #[] } := by
    rw [hG]
    exact (Heap.get?_update_ne _ _ _ _ hes.symm).trans (Heap.get?_push_at rfl rfl)
  have ge : G.get? e = some ⟨.ref C, some s.heap.objs.size, odt, osl⟩ := by
    rw [hG]
    refine Heap.get?_update_self _ hx1 ?_
    cases odt <;> first | rfl | exact hfr
  have go : ∀ b ob, b ≠ e → s.heap.get? b = some ob → G.get? b = some ob := fun b ob nb q => by
    rw [hG]
    exact (Heap.get?_update_ne _ _ _ _ nb).trans (Heap.get?_push_of_some _ q)
  have ns0 : G.Ns s.heap.objs.size (fun _ => none) := ⟨_, #[], _, gd, rfl, (fun a ha => absurd ha (by simp)), fun _ => rfl⟩
  rw [← hG]
  show wpAny _ _ (storeInDict s.heap.objs.size (.str f s.toks) f v) _ _ _
  unfold storeInDict newKeyGuard
  refine wpAny_bind (wpAny_pure (wpAny_bind (wpAny_nsSet1 (Heap.Ns1.of_empty ns0) fun h2 ns2 sb => ?_)))
  obtain ⟨oD, eD, pD, hoD, dD, cD⟩ := ns2.count (Within.cons f v Within.nil)
  refine wpAny_bind (wpAny_lookBehind hoD ?_ ?_)
  · rw [dD]
    refine pastItsLine_dict (Nat.le_trans cD ?_)
    rw [List.length_cons, List.length_nil, sizeLine_eq]
    (first | lia | omega)
  exact wpAny_pure (k h2 _ ((sb.2 e hes).trans ge) ns2 fun b ob nb q => (sb.2 b (Nat.ne_of_lt (Heap.lt_size q))).trans (go b ob nb q))
/-- e.f -/
theorem exc_load {o od : Obj} {dx : Addr} {Q : Value → Shared → Prop} (X : K.In s.heap) (O : ExcOk K C) (S : ExcSt K C f) (hx : s.heap.get? e = some o) (hc : o.cls = .ref C) (hd : o.dict = some dx) (hn : notCls o = true) (ho : s.heap.get? dx = some od)
    (hl : lookIn f od = some (some v)) (hv : handedIn v = true) (k : Q v { s with toks := s.toks + 1 }) : wpAny (model prog w) A (getAttr (.ref e) f true) Q E s := by
  have J : InstAt s.heap e o C (some od) := ⟨hx, hc, hn, by rw [hd]; exact ho⟩
  have p : ExcAt e C s.heap := ⟨o, hx, hc⟩
  obtain ⟨cd, D, c1, c2, c3⟩ := S.cl
  have fo : findObj K C (some od) f = some (.value v) := by
    unfold findObj PySem.W.ownOf
    simp only [c1, S.na, Option.bind_some, c3, if_true, hl]
  obtain ⟨hh, g, dr, t, os⟩ := s
  have T0 := exc_type (M := model prog w) p
  have T1 := looks_findIn (M := model prog w) X O.ga
  have T2 := looks_findIn (M := model prog w) X O.gt
  have T3 := looks_find (M := model prog w) X J fo
  have f3 := F.attr_ValueError.ga.bind (.ref e)
  unfold getAttr getAttrBy
  refine wpAny_bind (wpAny_mkText (wpAny_holding ?_))
  refine wpAny_bind (T0.at (wpAny_bind (T1.at ?_)))
  show wpAny _ _ (getAttrByItsOwn _ _ _ _ _ _) _ _ _
  unfold getAttrByItsOwn
  refine wpAny_bind ?_
  show wpAny _ _ (typeLookup (.ref C) "__getattr__") _ _ _
  refine T2.at (wpAny_bind (wpAny_attempt (wpAny_holding ?_)))
  show wpAny _ _ (boundAndCalled _ _ _) _ _ _
  unfold boundAndCalled
  rw [f3]
  refine wpAny_bind (wpAny_pure (wpAny_call (codeAny_call_builtin F.attr_ValueError.ga.plain F.entry_bexc_ga (exc_check (s := ⟨hh, g, dr, t + 1, os⟩) X O p ?_))))
  unfold Builtin.«object.__getattribute__»
  refine wpAny_bind (wpAny_pure (wpAny_bind (wpAny_pure (wpAny_bind (T0.at (wpAny_bind (T3.at ?_)))))))
  exact wpAny_pure (handed_on hv k)
end
section
variable {prog : Program} {w : World} {A : Around} {E : Value → Shared → Prop} {h0 : Heap} {g0 : Array GenState} {d0 : Drawn} {t0 : Nat} {os0 : OsState} {nm qn : Str} {C N fi : Addr} {bs up tail : List Value} {hdct : Bool} {sn : List Str} {sub : List Value} {ab : Bool}
  {col : Option Bool} {dd : Option Addr} {k0 k1 k2 k3 k5 : Option Value} {B newId initId : String}
/-- the class is called: its object, then its own __init__ -/
theorem xcls_call (FB : ExcBaseFacts B newId initId tail) (TL : OwnTail h0 tail up) {vs : List Value} {oi : Obj} {Q : Fin → Shared → Prop}
    (hcl : h0.get? C = some (excClassObj nm qn C N bs up hdct sn sub ab col dd k0 k1 k2 k3 k5 newId)) (hin : ∀ h1 : Heap, (∀ b o, h0.get? b = some o → h1.get? b = some o) → Looks (model prog w) h1 (typeLookup (.ref C) "__init__") (some (.ref fi))) (hfi : h0.get? fi = some oi) (hfk : oi.cls = .type "function") (fit : vs.length ≤ sizeLine)
    (run : ∀ h' e, Heap.MadeExcOf h0 h' e (.ref C) vs → wpAny (model prog w) A (call (.ref fi) (.ref e :: vs)) (fun r s' => r = .none ∧ Q (.done (.ret (.ref e))) s') E ⟨h', g0, d0, t0, os0⟩) :
    wpAny (model prog w) A (Builtin.«type.__call__» ⟨.ref C :: vs, []⟩) Q E ⟨h0, g0, d0, t0, os0⟩ := by
  repeat (first
    | with_reducible refine wpAny_loadPart_at hcl ?_
    | with_reducible refine wpAny_madeBy_exc hcl ?_
    | wp_step)
  refine codeAny_call_builtin_code (Code.quiet_builtin _ FB.quiet) ?_
  refine wpAny_check_new_subT FB TL hcl ?_
  refine codeAny_exc_new_subT FB TL hcl ?_ fit
  show wpAny _ _ _ _ _ _
  obtain ⟨H1, e1⟩ : ∃ H1, H1 = (h0.push { cls := .type "tuple", data := .seq vs.toArray }).push { cls := .ref C, data := .fields #[.ref h0.objs.size, .none, .none, .none, .bool false, .none] } := ⟨_, rfl⟩
  have kp : ∀ b o, h0.get? b = some o → H1.get? b = some o := fun b o z => by
    rw [e1]
    exact Heap.get?_push_of_some _ (Heap.get?_push_of_some _ z)
  have me : H1.get? (h0.objs.size + 1) = some { cls := .ref C, data := .fields #[.ref h0.objs.size, .none, .none, .none, .bool false, .none] } := by
    rw [e1]
    heap_get
  have mt : H1.get? h0.objs.size = some { cls := .type "tuple", data := .seq vs.toArray } := by
    rw [e1]
    exact Heap.get?_push_of_some _ (Heap.get?_push_at rfl rfl)
  rw [← e1]
  have hcl1 := kp _ _ hcl
  have self : (Value.ref C :: up).contains (.ref C) = true := by simp
  unfold isInstance
  repeat (first
    | with_reducible refine wpAny_loadPart_at me ?_
    | (with_reducible refine wpAny_isSubtype_exc hcl1 ?_; rw [self])
    | wp_step)
  show wpAny _ _ (typeLookup (.ref C) _) _ _ _
  refine (hin H1 kp).at ?_
  refine wpAny_holding (wpAny_bind ?_)
  unfold bindSpecial
  refine wpAny_bind (wpAny_typeOf (T := "function") ⟨_, kp _ _ hfi, hfk⟩ ?_)
  rw [if_pos (by decide)]
  have made : Heap.MadeExcOf h0 H1 (h0.objs.size + 1) (.ref C) vs := ⟨kp, Heap.get?_none_of_le (Nat.le_succ _), h0.objs.size, me, Heap.get?_none_of_le (Nat.le_refl _), mt⟩
  refine wpAny_pure (wpAny_bind (wpAny_mono (run H1 _ made) (fun r s' hr => ?_) fun _ _ x => x))
  obtain ⟨rfl, q⟩ := hr
  wp_walk
  exact q
theorem xcall (FB : ExcBaseFacts B newId initId tail) (TL : OwnTail h0 tail up) {vs : List Value} {oi : Obj} {Q : Value → Shared → Prop}
    (hcl : h0.get? C = some (excClassObj nm qn C N bs up hdct sn sub ab col dd k0 k1 k2 k3 k5 newId)) (hin : ∀ h1 : Heap, (∀ b o, h0.get? b = some o → h1.get? b = some o) → Looks (model prog w) h1 (typeLookup (.ref C) "__init__") (some (.ref fi))) (hfi : h0.get? fi = some oi) (hfk : oi.cls = .type "function") (fit : vs.length ≤ sizeLine)
    (run : ∀ h' e, Heap.MadeExcOf h0 h' e (.ref C) vs → wpAny (model prog w) (A.under (.builtin "type.__call__" ⟨.ref C :: vs, []⟩)) (call (.ref fi) (.ref e :: vs)) (fun r s' => r = .none ∧ Q (.ref e) s') E ⟨h', g0, d0, t0, os0⟩) :
    wpAny (model prog w) A (call (.ref C) vs) Q E ⟨h0, g0, d0, t0, os0⟩ := by
  have b1 := tc_lookup
  have b2 := tc_bind (.ref C)
  have ty : (⟨h0, g0, d0, t0, os0⟩ : Shared).TypeIs (.ref C) "type" := ⟨_, hcl, rfl⟩
  refine wpAny_call (codeAny_of_tree ?_)
  show wpAny _ _ (callAny (.ref C) _) _ _ _
  repeat (any_goals (first
    | assumption
    | with_reducible refine wpAny_loadPart_at hcl ?_
    | wp_step))
  refine ⟨rfl, codeAny_call_builtin_at (Code.quiet_builtin _ (by decide +kernel)) entry_typeCall ?_⟩
  exact wpAny_check_type_call_sub hcl (xcls_call FB TL hcl hin hfi hfk fit fun h' e m => run h' e m)
end
/-! the rules -/
section
variable {X : Cx} {pins : List (Addr × Obj)} {σ : St} {H : Hp} {s : Shared} {e C : Addr}
theorem excN_ok {P : Program} {w : World} {H : Hp} {h : Heap} {o : Obj} (h1 : h.get? e = some o) (h2 : o.cls = .ref C) (h3 : o.dict = none) (h4 : Raw o) : ObjOk P w H h e (excN e C) :=
  ⟨⟨o, h1, h2, h3, h4⟩, ⟨o, h1⟩, fun a b ⟨o, e1, r⟩ k => ⟨o, k _ e1, r⟩⟩
theorem excF_ok {P : Program} {w : World} {H : Hp} {h : Heap} {o : Obj} {dx : Addr} (h1 : h.get? e = some o) (h2 : o.cls = .ref C) (h3 : o.dict = some dx) (h4 : Raw o) : ObjOk P w H h e (excF e C dx) :=
  ⟨⟨o, h1, h2, h3, h4⟩, ⟨o, h1⟩, fun a b ⟨o, e1, r⟩ k => ⟨o, k _ e1, r⟩⟩
theorem Inv.noObj (I : Inv X pins σ H s) (h : s.heap.get? e = none) : H e = none := by
  cases z : H e with
  | none => rfl
  | some o => obtain ⟨q, hq⟩ := (I.hok e o z).ex; rw [hq] at h; cases h
/-- a made exception, tracked -/
theorem Inv.madeE {h' : Heap} {us : List Value} {tk : Nat} (I : Inv X pins σ H s) (m : Heap.MadeExcOf s.heap h' e (.ref C) us) (hex : X.ex = []) : Inv X pins σ (upd H e (excN e C)) { s with heap := h', toks := tk } := by
  obtain ⟨k, ne, t0, me, nt, mt⟩ := m
  have I2 : Inv X pins σ H { s with heap := h', toks := tk } := I.kept k
  have hs : ∀ b o, s.heap.get? b = some o → b ≠ e := fun b o q z => by rw [z, ne] at q; cases q
  refine I2.adoptE (I.noObj ne) (fun z => ?_) (fun x c q => ?_) (fun p hp => ?_) (fun b u q => ?_) (excN_ok me rfl rfl ⟨_, rfl⟩)
  · obtain ⟨m, ⟨oL, _, _, q, _⟩, _⟩ := I.loc
    exact hs _ _ q z.symm
  · obtain ⟨v, o, e1, _⟩ := I.cell x c q
    exact hs _ _ e1
  · exact hs _ _ (I.pin p hp).1
  · obtain ⟨o', q'⟩ := I.base.there b u q (by rw [hex]; exact fun z => nomatch z)
    exact hs _ _ q'
/-- what must be known of a class that is made by its own __init__ -/
structure XMk (K : Frag) (C fi : Addr) : Prop where
  cl : ∃ nm qn N bs D hdct sn sub ab col dd k0 k1 k2 k3 k5, K.lookup C = some (excClassObj nm qn C N bs (.ref D :: tailVE) hdct sn sub ab col dd k0 k1 k2 k3 k5 "ValueError.__new__") ∧ ∀ h : Heap, K.In h → OwnTail h tailVE (.ref D :: tailVE)
  ini : findIn K (.ref C) "__init__" = some (some (.ref fi))
  fn : ∃ oi : Obj, K.lookup fi = some oi ∧ oi.cls = .type "function"
  kp : keepIn K (.ref C) = true
noncomputable def tXMake (C : Addr) (sp : Sp) (t : TA) : TE := fun σ H Q => t σ H fun vs H1 => vs.length ≤ 1000 ∧ ∀ e, H1 e = none → sp (.ref e :: vs) (upd H1 e (excN e C)) (fun v H2 => v = .non ∧ Q (.ref e) H2) E0
theorem run_xmake {k : Nat} {fi : Addr} {fd : FuncData} {ps : List Str} {sp : Sp} {Q : VK} {us : List Value} {vs : List V} (M : XMk X.K C fi) (F : FnOk X.prog X.w X.K X.mg X.base CX0 k fi fd ps sp) (hr : Room (k + 1) X.A) (hb : Binds X.K fd ps []) (hex : X.ex = [])
    (I : Inv X pins σ H s) (r : Vals vs us) (hl : vs.length ≤ 1000) (h : ∀ e, H e = none → sp (.ref e :: vs) (upd H e (excN e C)) (fun v H2 => v = .non ∧ Q (.ref e) H2) E0) : wpAny (model X.prog X.w) X.A (call (.ref C) us) (EP X pins σ Q) X.xe s := by
  obtain ⟨nm, qn, N, bs, D, hdct, sn, sub, ab, col, dd, k0, k1, k2, k3, k5, lk, TL⟩ := M.cl
  obtain ⟨oi, l2, ft⟩ := M.fn
  have kin := I.kIn
  refine xcall (h0 := s.heap) (g0 := s.gens) (d0 := s.drawn) (t0 := s.toks) (os0 := s.os) PySem.F.excBase_ValueError (TL _ kin) (kin _ _ lk) (fun h1 kp => looks_findIn (fun a o z => kp a o (kin a o z)) M.ini) (kin _ _ l2) ft (by rw [← r.length]; exact Nat.le_trans hl (by decide)) fun h' e m => ?_
  have I2 : Inv X pins σ (upd H e (excN e C)) { s with heap := h', toks := s.toks } := I.madeE m hex
  have hq := h e (I.noObj m.2)
  have r2 : Vals (V.ref e :: vs) (Value.ref e :: us) := .cons rfl r
  have hlen : (Value.ref e :: us).length = ps.length := by rw [← r2.length]; exact F.len _ _ _ _ hq
  have hb2 := hb { s with heap := h', toks := s.toks } (Value.ref e :: us) I2.kIn (by rw [List.append_nil]; exact hlen)
  rw [List.append_nil] at hb2
  refine wpAny_call (codeAny_mono (F.run _ X.stack { s with heap := h', toks := s.toks } _ ⟨Value.ref e :: us, []⟩ (Value.ref e :: us) _ _ E0 (hr.make C us []) (I2.env0.make C us []) hb2 r2 hq) fun rr s' hq' => ?_)
  cases rr with
  | error x => exact hq'.elim
  | ok fl =>
    cases fl with
    | ret u =>
      obtain ⟨v, H', I3, rv, ev, q3⟩ := I2.after hq'
      subst ev
      exact ⟨rv, ⟨V.ref e, H', I3, rfl, q3⟩⟩
    | next => exact hq'.elim
    | brk => exact hq'.elim
    | cont => exact hq'.elim
theorem pe_xmake {k : Nat} {fi : Addr} {fd : FuncData} {ps : List Str} {sp : Sp} {x : Str} {p pos : Pos} {a : Expr} {as : List Expr} {t : TA} (M : XMk X.K C fi) (F : FnOk X.prog X.w X.K X.mg X.base CX0 k fi fd ps sp) (hr : Room (k + 1) X.A) (hg : Gl X x) (hm : X.mg x = some (.ref C))
    (hb : Binds X.K fd ps []) (ha : PA X (a :: as) t) (hex : X.ex = [] := by rfl) (hdb : (x == ("__debug__" : Str)) = false := by decide) (he : starEach (a :: as) X.env = (false, eval a X.env) :: starEach as X.env := by rfl) (hpl : (backTo pos (starEach as X.env)).any (·.1) = false := by rfl) :
    PE X (.Call (.Name x p) (a :: as) [] pos) (tXMake C sp t) := by
  intro pins s σ H Q I h
  refine wpAny_Call_Name_kw (ld_glob I hg hm ?_ hdb)
  refine PySem.W.callWith_K (h₀ := X.base) I.ok.mod.kin M.kp (thn (ha s σ H _ I h) fun us s1 ⟨vs, H1, I1, r, q⟩ => ⟨I1.kIn, ?_⟩) he hpl
  exact run_xmake M F hr hb hex I1 r q.1 q.2
/-- e.f = v, the first field -/
noncomputable def sXFld (K : Frag) (to tv : TE) (f : Str) : TS := fun D σ H => tv σ H fun v H1 => to σ H1 fun x H2 => ∃ e C, x = .ref e ∧ H2 e = some (excN e C) ∧ ExcSt K C f ∧ ∀ dx, H2 dx = none → dx ≠ e → D.nx σ (upd (upd H2 e (excF e C dx)) dx (.xd [(f, v)]))
theorem ps_xfld {o value : Expr} {f : Str} {to tv : TE} {pos pos' : Pos} (ho : PE X o to) (hv : PE X value tv) (hs : swapsWith value (some (.Attribute o f pos')) pos.line X.env = pure false) : PS X (.Assign [.Attribute o f pos'] value pos) (sXFld X.K to tv f) := by
  intro pins s σ H D I h
  refine plainObj_wpAny_Assign_Attribute (thn (hv s σ H _ I h) fun u s1 ⟨v, H1, I1, ru, q⟩ => thn (ho s1 σ H1 _ I1 q) fun ov s2 ⟨x, H2, I2, rx, e, C, ex, ee, S, q2⟩ => ?_) hs
  subst ex
  obtain rfl : ov = Value.ref e := rx
  obtain ⟨ob, b1, b2, b3, b4⟩ := (show ObjOk X.prog X.w H2 s2.heap e (excN e C) from I2.hok e _ ee).1
  have hes : e ≠ s2.heap.objs.size := Nat.ne_of_lt (Heap.lt_size b1)
  refine exc_store I2.kIn S b1 b2 b3 b4.nc fun h' tk a1 a2 a3 => ?_
  have I3 : Inv X pins σ (upd H2 e (excF e C s2.heap.objs.size)) { s2 with heap := h', toks := tk } := I2.write (x := e) (e := e) (by rw [ee]; exact True.intro) (.inl rfl) a3 ⟨_, a1⟩ (excF_ok a1 b2 rfl b4)
  have hd : H2 s2.heap.objs.size = none := I2.hok.fresh (Nat.le_refl _)
  have fp := I2.fpOk (H' := H2) (Nat.le_refl _) hd
  refine ⟨σ, _, ?_, q2 _ hd hes.symm⟩
  refine I3.adoptE (by rw [upd_ne hes.symm]; exact hd) fp.2.1 fp.2.2.2.2.1 fp.2.2.2.2.2 (fun b u q z => ?_) ⟨_, a2, fun g => ?_⟩
  · have := Heap.lt_size q
    rw [z] at this
    exact absurd (Nat.lt_of_lt_of_le this I2.sz) (Nat.lt_irrefl _)
  · show RelO (List.lookup g [(f, v)]) (if g = f then some u else none)
    by_cases z : g = f
    · rw [if_pos z, z, List.lookup_cons_self]; exact ru
    · rw [if_neg z]
      have : List.lookup g [(f, v)] = none := by
        rw [List.lookup_cons]
        have : (g == f) = false := by simpa using z
        rw [this]; rfl
      rw [this]; trivial
end
section
variable {K : Frag} {C D N : Addr} {nm qn : Str} {bs up : List Value} {hdct : Bool} {sn : List Str} {sub : List Value} {ab : Bool} {col : Option Bool} {dd : Option Addr} {k0 k1 k2 k3 k5 : Option Value}
theorem exc_parts (lk : K.lookup C = some (excClassObj nm qn C N bs up hdct sn sub ab col dd k0 k1 k2 k3 k5 "ValueError.__new__")) (made : excIn K C tailVE "ValueError.__new__" = true) : nsOkIn K N = true ∧ nsIn K N "__init__" = some none := by
  have h : (C == C && "ValueError.__new__" == "ValueError.__new__" && !false && tailIn K tailVE up && nsOkIn K N && nsIn K N "__init__" == some none) = true := by
    unfold excIn at made
    rw [lk] at made
    exact made
  have h1 := Bool.and_eq_true_iff.mp h
  exact ⟨(Bool.and_eq_true_iff.mp h1.1).2, beq_iff_eq.mp h1.2⟩
theorem own_tail (lk : K.lookup C = some (excClassObj nm qn C N bs tailVE hdct sn sub ab col dd k0 k1 k2 k3 k5 "ValueError.__new__")) (made : excIn K C tailVE "ValueError.__new__" = true) (h : Heap) (kin : K.In h) : OwnTail h tailVE (.ref C :: tailVE) := by
  obtain ⟨a, b⟩ := exc_parts lk made
  exact .own (kin _ _ lk) (.of_isNs (isNs_of_in kin a)) (nsMap_none_of_in kin a b) .base
theorem excSt_mk {f : Str} (lk : K.lookup C = some (excClassObj nm qn C N bs (.ref D :: tailVE) true sn sub ab col dd k0 k1 k2 k3 k5 "ValueError.__new__")) (sa : findIn K (.ref C) "__setattr__" = some (some (.builtin "object.__setattr__"))) (na : findIn K (.ref C) f = some none)
    (mo : mroIn K C (.type "object") = some true) : ExcSt K C f := by
  refine ⟨sa, na, mo, ⟨{ name := nm, bases := bs, mro := .ref C :: .ref D :: tailVE, ns := N, qualname := qn, hasDict := true, slotNames := sn, subclasses := sub, abstract := ab, collection := col, hasDel := false }, D, ?_, rfl, rfl⟩⟩
  unfold clsIn
  rw [lk]
end
/-! a, b, .. = a list -/
section
variable {prog : Program} {w : World} {A : Around} {E : Value → Shared → Prop}
end
end L2

set_option Elab.async false
set_option linter.all false
set_option maxRecDepth 100000
set_option maxHeartbeats 4000000
/-! text.index(text), found -/
namespace L2
open PySem PySem.Spec PyProof.Rows PySem.Builtin PySem.Builtin.Str
end L2

set_option Elab.async false
set_option linter.all false
set_option maxRecDepth 100000
set_option maxHeartbeats 4000000
/-! a walk over the keys of a module's dict; int.bit_length -/
namespace L2
open PySem PySem.Spec PyProof.Rows
end L2

set_option Elab.async false
set_option linter.all false
set_option maxRecDepth 100000
set_option maxHeartbeats 4000000
namespace L2
open PySem PySem.Spec PyProof.Rows
section
variable {prog : Program} {w : World} {K : Type} [DecidableEq K] {knd : KeyKind prog w K} {A : Around} {E : Value → Shared → Prop} {s : Shared}
end
/-- hands out n items, while a list grows at S -/
structure FeedL (prog : Program) (w : World) (A : Around) (it S : Addr) (fp : Addr → Prop) (n : Nat) (P : Nat → Value → Heap → Prop) (R : Value → Value → Prop) (St : Nat → Heap → Prop) : Prop where
  sfp : ¬ fp S
  item : ∀ i (s : Shared) (Q : Option Value → Shared → Prop) (E : Value → Shared → Prop), i < n → St i s.heap → S < s.heap.objs.size →
    (∀ v h' tk, Keeps s.heap h' fp → St (i + 1) h' → P i v h' → (∀ j u, P j u s.heap → R u v) → Q (some v) { s with heap := h', toks := tk }) → wpAny (model prog w) A (pyNext (.ref it)) Q E s
  stop : ∀ (s : Shared) (Q : Option Value → Shared → Prop) (E : Value → Shared → Prop), St n s.heap → S < s.heap.objs.size → (∀ h' tk, Keeps s.heap h' fp → Q none { s with heap := h', toks := tk }) → wpAny (model prog w) A (pyNext (.ref it)) Q E s
  keepS : ∀ i h h', St i h → Keeps h h' (· = S) → St i h'
  keepP : ∀ j v h h', P j v h → Keeps h h' (fun b => fp b ∨ b = S) → P j v h'
section
variable {prog : Program} {w : World} {A : Around} {it S : Addr} {fp : Addr → Prop} {n : Nat} {P : Nat → Value → Heap → Prop} {R : Value → Value → Prop} {St : Nat → Heap → Prop}
theorem feed_loopL (Fd : FeedL prog w A.in1 it S fp n P R St) (hn : n ≤ sizeLine) {s : Shared} {Z : Result → Shared → Prop} {res : Value} {g : Heap} (fin : FeedEnd g S fp n P R s (Z (.ok (.ret res)))) :
    ∀ (k i : Nat) (h : Heap) (tk : Nat) (acc : Array Value) (c : Nat), i + k = n → St i h → Grown h S i P R acc c → Keeps g h (fun b => fp b ∨ b = S) →
      codeAny (model prog w) A (.builtin "list.extend.loop" ⟨[.ref S, .ref it, res], []⟩) Z { s with heap := h, toks := tk }
  | 0, i, h, tk, acc, c, hk, hst, G, kp => by
    have e : i = n := by (first | lia | omega)
    subst e
    refine codeAny_builtin PySem.F.entry_extend_loop ?_
    rw [Around.under_plainId PySem.F.plain_extend_loop _]
    refine wpAny_bind (Fd.stop { s with heap := h, toks := tk } _ _ hst (Heap.lt_size G.ob) fun h' tk' k' => wpAny_pure ?_)
    exact fin h' tk' acc c (fun b o nb q => k' b o (fun z => nb (.inl z)) (kp b o nb q)) ⟨k' _ _ Fd.sfp G.ob, G.sz, G.pw, fun j v e => Fd.keepP _ _ _ _ (G.all j v e) fun b o nb q => k' b o (fun z => nb (.inl z)) q⟩
  | k + 1, i, h, tk, acc, c, hk, hst, G, kp => by
    refine codeAny_builtin PySem.F.entry_extend_loop ?_
    rw [Around.under_plainId PySem.F.plain_extend_loop _]
    refine wpAny_bind (Fd.item i { s with heap := h, toks := tk } _ _ (by (first | lia | omega)) hst (Heap.lt_size G.ob) fun v h' tk' k' st' pv rv => ?_)
    have ob' := k' _ _ Fd.sfp G.ob
    have other : Keeps h' (h'.update S (Obj.mapSeq (·.push v))) (· = S) := fun b o nb q => (Heap.get?_update_other _ _ (Ne.symm nb)).trans q
    have k2 : Keeps h (h'.update S (Obj.mapSeq (·.push v))) (fun b => fp b ∨ b = S) := fun b o nb q => other b o (fun z => nb (.inr z)) (k' b o (fun z => nb (.inl z)) q)
    have sz := G.sz
    refine wpAny_bind (wpAny_updateSeq ob' rfl (wpAny_pure ⟨plainId_quiet PySem.F.plain_extend_loop _, ?_⟩) (by rw [sz]; (first | lia | omega)) (by show (acc.push v).size ≤ sizeLine + 1; rw [Array.size_push, sz]; (first | lia | omega)))
    refine feed_loopL Fd hn fin k (i + 1) _ tk' (acc.push v) _ (by (first | lia | omega)) (Fd.keepS _ _ _ st' other) ⟨Heap.get?_update_self _ ob' rfl, by rw [Array.size_push, sz], ?_, fun j u e => ?_⟩ (fun b o nb q => k2 b o nb (kp b o nb q))
    · rw [Array.toList_push]
      refine List.pairwise_append.mpr ⟨G.pw, List.pairwise_singleton _ _, fun a ha b hb => ?_⟩
      obtain ⟨j, hj⟩ := List.mem_iff_getElem?.mp ha
      rw [List.mem_singleton.mp hb]
      exact rv j a (G.all j a (by simpa using hj))
    · by_cases hj : j < i
      · rw [Array.getElem?_push_lt (by (first | lia | omega))] at e
        exact Fd.keepP _ _ _ _ (G.all j u (by rw [Array.getElem?_eq_getElem (by (first | lia | omega))]; exact e)) k2
      · have hj' : j = i := by
          have := (Array.getElem?_eq_some_iff.mp e).1
          rw [Array.size_push] at this
          (first | lia | omega)
        subst hj'
        have e' : (acc.push v)[acc.size]? = some u := by rw [sz]; exact e
        rw [Array.getElem?_push_size] at e'
        cases e'
        exact Fd.keepP _ _ _ _ pv fun b o nb q => other b o (fun z => nb (.inr z)) q

end
section
variable {prog : Program} {w : World} {K : Type} [DecidableEq K] {knd : KeyKind prog w K}
end
section
variable {X : Cx}
end
end L2

set_option Elab.async false
set_option linter.all false
set_option maxRecDepth 100000
set_option maxHeartbeats 4000000
/-! enumerate of a tuple -/
namespace L2
open PySem PySem.Spec PyProof.Rows
open AutoSeq1 (wpAny_loadPart')
section
variable {prog : Program} {w : World} {A : Around} {E : Value → Shared → Prop} {s : Shared}
end
end L2

set_option Elab.async false
set_option linter.all false
set_option maxRecDepth 100000
set_option maxHeartbeats 4000000
/-! the walk of a set, and sorted of one -/
namespace L2
open PySem PySem.Spec PyProof.Rows
theorem set_it_slot : Slot "set_iterator" "__next__" "set_iterator.__next__" := by
  refine .of (owner := "set_iterator") (n := "__next__") ?_ ?_ ?_ ?_ ?_ ?_
  · rw [typeLookup_type, builtinLookup_eq_fast]; kernel_rfl
  · decide +kernel
  · decide +kernel
  · decide +kernel
  · first
      | exact .inl (by decide +kernel)
      | exact .inr (by decide +kernel)
  · rw [isSubtype_type]; kernel_rfl
theorem set_it_entry : entryFor table "set_iterator.__next__" = some Builtin.«set_iterator.__next__» := entryFor_of_fast (by kernel_rfl)
theorem set_it_args (a : Value) : argsOk "set_iterator.__next__" ⟨[a], []⟩ := by
  unfold argsOk
  rw [signature?_of (id := "set_iterator.__next__") (n := "__txen__".toList) (o := "rotareti_tes".toList) (rows := Manifest.sig_set_iterator) (by kernel_rfl) (by kernel_rfl)]
  kernel_rfl
theorem set_iter_entry : entryFor table "set.__iter__" = some Builtin.«frozenset.__iter__» := entryFor_alias (id' := "frozenset.__iter__") (by kernel_rfl) rfl (by decide +kernel) (by kernel_rfl)
theorem erase_perm {α : Type} : ∀ {l : List α} {i : Nat} (h : i < l.length), List.Perm (l[i] :: l.eraseIdx i) l
  | x :: l, 0, h => List.Perm.refl _
  | x :: l, i + 1, h => by
    rw [List.eraseIdx_cons_succ, List.getElem_cons_succ]
    exact (List.Perm.swap _ _ _).trans ((erase_perm (Nat.lt_of_succ_lt_succ h)).cons x)
/-- what a text's order makes of a list: the same things -/
theorem pick_go {α : Type} (next : Nat → Nat) : ∀ (n k : Nat) (left : List α) (out : Array α), left.length = n → List.Perm (pickOrder.go next n k left out).toList (out.toList ++ left)
  | 0, k, left, out, h => by
    unfold pickOrder.go
    rw [List.eq_nil_of_length_eq_zero h, List.append_nil]
  | n + 1, k, left, out, h => by
    unfold pickOrder.go
    have hp : next k % left.length < left.length := Nat.mod_lt _ (by (first | lia | omega))
    rw [List.getElem?_eq_getElem hp]
    dsimp only
    refine (pick_go next n (k + 1) _ _ (by rw [List.length_eraseIdx, if_pos hp]; (first | lia | omega))).trans ?_
    rw [Array.toList_push, List.append_assoc]
    refine List.Perm.append_left _ ?_
    rw [List.singleton_append]
    exact erase_perm hp
theorem pick_perm {α : Type} (next : Nat → Nat) (xs : Array α) : List.Perm (pickOrder next xs).toList xs.toList := pick_go next _ 0 _ #[] rfl
/-- draws of an order: each thing once -/
theorem draw_order {M : Model} {A : Around} {E : Value → Shared → Prop} {α : Type} : ∀ (n : Nat) (xs : List α) (s : Shared) (Q : List α → Shared → Prop), xs.length = n →
    (∀ ys d, List.Perm ys xs → Q ys { s with drawn := d }) → wpAny M A (drawOrder n xs) Q E s := by
  intro n
  induction n with
  | zero =>
    intro xs s Q h q
    unfold drawOrder
    exact wpAny_pure (q [] s.drawn (by rw [List.eq_nil_of_length_eq_zero h]))
  | succ n ih =>
    intro xs s Q h q
    cases xs with
    | nil => cases h
    | cons x xs =>
      unfold drawOrder
      refine wpAny_bind (fun Γ p hΓ => ?_)
      unfold choose
      rw [Sem.wp_choose]
      refine ⟨by simp, ?_⟩
      have hp : M.w.draws .order (s.drawn.get .order) % (x :: xs).length < (x :: xs).length := Nat.mod_lt _ (by simp)
      generalize M.w.draws .order (s.drawn.get .order) % (x :: xs).length = i at hp ⊢
      rw [Sem.wp_pure]
      dsimp only
      rw [List.getElem?_eq_getElem hp]
      refine wpAny_bind (ih _ _ _ (by rw [List.length_eraseIdx, if_pos hp]; (first | lia | omega)) fun ys d hy => wpAny_pure (q _ d ?_))
      exact (hy.cons _).trans (erase_perm hp)
end L2
namespace L2
open PySem PySem.Spec PyProof.Rows
noncomputable def byT (w : World) : Bool := w.params.followText "set-order"
/-- the order of the walk: i of it done -/
inductive SOrd (w : World) (a : Addr) (es : Array (Int × Value)) (ep : Nat) (t : SetTable) (lo i : Nat) (h : Heap) (it : Addr) : Value → List Value → Prop
  | text (b : byT w = true) : SOrd w a es ep t lo i h it (.int 0 0) ((pickOrder (w.params.setOrder a ep) es).toList.map (·.2))
  | places (b : byT w = false) (d : (!t.plain && decide (es.size > 1)) = false) (l : t.led = true) (z : Nat) (c : Cut t.place z i) : SOrd w a es ep t lo i h it (.int (z : Int) 0) (es.toList.map (·.2))
  | drawn (ys : List Nat) (p : List.Perm ys (List.range es.size)) (tp : Addr) (low : lo ≤ tp) (ne : tp ≠ it) (o : Obj) (n : Nat) (e : h.get? tp = some o) (d : o.data = .seq (ys.map fun (k : Nat) => rawInt k).toArray n) : SOrd w a es ep t lo i h it (.ref tp) (ys.map fun k => (es.toList.map (·.2)).getD k .none)
structure SSt (w : World) (a : Addr) (es : Array (Int × Value)) (ep : Nat) (t : SetTable) (lo : Nat) (vals : List Value) (it : Addr) (i : Nat) (h : Heap) : Prop where
  set : ∃ o, h.get? a = some o ∧ o.data = .set es ep t
  fit : t.fits es.size = true
  good : GoodT t
  ne : a ≠ it
  low : lo ≤ it
  ex : ∃ first, SOrd w a es ep t lo i h it first vals ∧ h.get? it = some { cls := .type "set_iterator", data := .fields #[first, .int i 0, .ref a, .int es.size 0, .int ep 0] }
theorem SSt.keep {w : World} {a : Addr} {es : Array (Int × Value)} {ep : Nat} {t : SetTable} {lo : Nat} {vals : List Value} {it : Addr} {i : Nat} {h h' : Heap} (x : SSt w a es ep t lo vals it i h) (k : ∀ b o, h.get? b = some o → (b = a ∨ lo ≤ b) → h'.get? b = some o) : SSt w a es ep t lo vals it i h' := by
  obtain ⟨⟨o, e1, e2⟩, ft, g, ne, low, first, so, e3⟩ := x
  refine ⟨⟨o, k _ _ e1 (.inl rfl), e2⟩, ft, g, ne, low, first, ?_, k _ _ e3 (.inr low)⟩
  cases so with
  | text b => exact .text b
  | places b d l z c => exact .places b d l z c
  | drawn ys p tp tl ne o n e d => exact .drawn ys p tp tl ne o n (k _ _ e (.inr tl)) d
section
variable {prog : Program} {w : World} {A : Around} {E : Value → Shared → Prop} {s : Shared} {a : Addr} {es : Array (Int × Value)} {ep : Nat} {t : SetTable} {o : Obj} {lo : Nat}
theorem set_iter {Q : Value → Shared → Prop} (ho : s.heap.get? a = some o) (hx : o.ExactSet) (hd : o.data = .set es ep t) (hf : t.fits es.size = true) (g : GoodT t) (l : byT w = false → t.led = true) (hz : es.size ≤ sizeLine)
    (fin : ∀ it h' d vals, vals.length = es.size → List.Perm vals (es.toList.map (·.2)) → s.heap.objs.size ≤ it → (∀ b o, s.heap.get? b = some o → h'.get? b = some o) → SSt w a es ep t s.heap.objs.size vals it 0 h' → Q (.ref it) { s with heap := h', drawn := d }) :
    wpAny (model prog w) A (pyIter (.ref a)) Q E s := by
  have hT : s.TypeIs (.ref a) "set" := ⟨o, ho, hx.1⟩
  have low : a < s.heap.objs.size := Heap.lt_size ho
  refine wpAny_pyIter_slot hT F.slot_set_iter (wpAny_call_entry F.slot_set_iter hT set_iter_entry ?_ (F.args_set_iter_1 _))
  unfold Builtin.«frozenset.__iter__» Builtin.Frozenset.slot0 slotArgs Builtin.Frozenset.addrOf Builtin.Frozenset.sizeOf setEntries setDrawn setEpoch setsByText
  simp only [List.isEmpty_nil, Bool.not_true, Bool.false_eq_true, ↓reduceIte, bind_assoc, List.length_nil, bne_self_eq_false]
  refine wpAny_bind (wpAny_pure (wpAny_bind (wpAny_pure (wpAny_bind (wpAny_setState_of ho hd hf (wpAny_bind (wpAny_pure (wpAny_bind (wpAny_pure (wpAny_bind (wpAny_setState_of ho hd hf ?_)))))))))))
  refine wpAny_bind (wpAny_askSetting (wpAny_bind (wpAny_pure (wpAny_bind (wpAny_pure ?_)))))
  have last : ∀ (s1 : Shared) (d : Drawn) (first : Value) (vals : List Value), s1.drawn = d → s1.gens = s.gens → s1.toks = s.toks → s1.os = s.os → (∀ b o, s.heap.get? b = some o → s1.heap.get? b = some o) → s.heap.objs.size ≤ s1.heap.objs.size → vals.length = es.size → List.Perm vals (es.toList.map (·.2)) →
      (∀ h' it, s1.heap.objs.size ≤ it → (∀ b o, s1.heap.get? b = some o → h'.get? b = some o) → SOrd w a es ep t s.heap.objs.size 0 h' it first vals) →
      wpAny (model prog w) A.in1 (do
        let x ← setState a
        let y ← pure x.2.1
        let z ← newFields "set_iterator" [first, rawInt 0, .ref a, rawInt es.size, rawInt y]
        ret z) (fun fin s' => ∃ v, fin = .done (.ret v) ∧ ∃ T' r, s'.TypeIs v T' ∧ typeLookup (.type T') (Str.ofString "__next__") = pure (some r) ∧ Q v s') E s1 := by
    intro s1 d first vals e1 e2 e3 e4 k1 z1 hl hp so
    refine wpAny_bind (wpAny_setState_of (k1 _ _ ho) hd hf (wpAny_bind (wpAny_pure ?_)))
    unfold newFields
    refine wpAny_bind (wpAny_newObj_type (wpAny_pure ?_))
    refine ⟨_, rfl, "set_iterator", _, ⟨_, Heap.get?_push_size _ rfl, rfl⟩, set_it_slot.lookup, ?_⟩
    have k2 : ∀ b o, s1.heap.get? b = some o → (s1.heap.push { cls := .type "set_iterator", data := .fields [first, rawInt 0, .ref a, rawInt es.size, rawInt ep].toArray }).get? b = some o := fun b o x => Heap.get?_push_of_some _ x
    have q := fin s1.heap.objs.size (s1.heap.push { cls := .type "set_iterator", data := .fields [first, rawInt 0, .ref a, rawInt es.size, rawInt ep].toArray }) d vals hl hp z1 (fun b o x => k2 b o (k1 b o x)) ⟨⟨o, k2 _ _ (k1 _ _ ho), hd⟩, hf, g, Nat.ne_of_lt (Nat.lt_of_lt_of_le low z1), z1, first, so _ _ (Nat.le_refl _) k2, Heap.get?_push_size _ rfl⟩
    subst e1
    rw [← e2, ← e3, ← e4] at q
    exact q
  have lv : (es.toList.map (·.2)).length = es.size := by rw [List.length_map, Array.length_toList]
  cases hb : byT w with
  | true =>
    have hb' : w.params.followText "set-order" = true := hb
    refine wpAny_ite ?_
    rw [if_neg (by show ¬ ((!w.params.followText "set-order" && _) = true); rw [hb']; exact Bool.false_ne_true)]
    refine wpAny_bind (wpAny_pure ?_)
    have pm := pick_perm (w.params.setOrder a ep) es
    exact last s s.drawn _ _ rfl rfl rfl rfl (fun _ _ x => x) (Nat.le_refl _) (by rw [List.length_map, pm.length_eq, Array.length_toList]) (pm.map _) fun h' it _ _ => .text hb
  | false =>
    have hb' : w.params.followText "set-order" = false := hb
    refine wpAny_ite ?_
    cases hc : (!t.plain && decide (es.size > 1)) with
    | false =>
      rw [if_neg (by show ¬ ((!w.params.followText "set-order" && (!t.plain && decide (es.size > 1))) = true); rw [hb', hc]; exact Bool.false_ne_true)]
      refine wpAny_bind (wpAny_pure ?_)
      exact last s s.drawn _ _ rfl rfl rfl rfl (fun _ _ x => x) (Nat.le_refl _) lv (List.Perm.refl _) fun h' it _ _ => .places hb hc (l hb) 0 ⟨Nat.zero_le _, fun i _ z => absurd z (Nat.not_lt_zero _), fun i _ _ => Nat.zero_le _⟩
    | true =>
      rw [if_pos (by show (!w.params.followText "set-order" && (!t.plain && decide (es.size > 1))) = true; rw [hb', hc]; rfl)]
      refine wpAny_bind (draw_order _ _ _ _ List.length_range fun ys d hy => ?_)
      have hyl : ys.length = es.size := by rw [hy.length_eq, List.length_range]
      refine wpAny_bind (wpAny_newTuple ?_ (by rw [List.length_map, hyl]; exact hz))
      have rm : List.Perm (ys.map fun k => (es.toList.map (·.2)).getD k .none) (es.toList.map (·.2)) := by
        refine (hy.map _).trans ?_
        have : (List.range es.size).map (fun k => (es.toList.map (·.2)).getD k .none) = es.toList.map (·.2) := by
          refine List.ext_getElem (by rw [List.length_map, List.length_range, lv]) fun i h1 h2 => ?_
          rw [List.getElem_map, List.getElem_range, List.getD_eq_getElem?_getD, List.getElem?_eq_getElem h2]; rfl
        rw [this]
      refine last { s with heap := s.heap.push { cls := .type "tuple", data := .seq (ys.map fun (i : Nat) => rawInt i).toArray }, drawn := d } d _ _ rfl rfl rfl rfl (fun b o x => Heap.get?_push_of_some _ x) (by show _ ≤ (s.heap.push _).objs.size; rw [Heap.size_push]; exact Nat.le_succ _) (by rw [List.length_map, hyl]) rm fun h' it hit k' => ?_
      refine .drawn ys hy _ (Nat.le_refl _) ?_ _ 0 (k' _ _ (Heap.get?_push_size _ rfl)) rfl
      have hit : (s.heap.push { cls := .type "tuple", data := .seq (ys.map fun (i : Nat) => rawInt i).toArray }).objs.size ≤ it := hit
      rw [Heap.size_push] at hit
      exact Nat.ne_of_lt hit
theorem walk_text {Q : Array (Int × Value) → Shared → Prop} (b : byT w = true) (ho : s.heap.get? a = some o) (hd : o.data = .set es ep t) (hf : t.fits es.size = true) (q : Q (pickOrder (w.params.setOrder a ep) es) s) : wpAny (model prog w) A (setWalk a) Q E s := by
  unfold setWalk setsByText
  have b' : w.params.followText "set-order" = true := b
  refine wpAny_bind (wpAny_setState_of ho hd hf (wpAny_bind (wpAny_bind (wpAny_askSetting (wpAny_pure ?_)))))
  refine wpAny_ite ?_
  rw [if_pos (show ({ program := (model prog w).prog, params := (model prog w).w.params } : Setting).params.followText "set-order" = true from b')]
  exact wpAny_bind (wpAny_askSetting (wpAny_pure q))
theorem set_next {vals : List Value} {it : Addr} {i : Nat} {v : Value} {Q : Option Value → Shared → Prop} (st : SSt w a es ep t lo vals it i s.heap) (hv : vals[i]? = some v)
    (fin : ∀ h', (∀ b o, b ≠ it → s.heap.get? b = some o → h'.get? b = some o) → h'.objs.size = s.heap.objs.size → SSt w a es ep t lo vals it (i + 1) h' → Q (some v) { s with heap := h' }) :
    wpAny (model prog w) A (pyNext (.ref it)) Q E s := by
  obtain ⟨⟨o, ho, hd⟩, hf, g, ne, low, first, so, e⟩ := st
  have hT : s.TypeIs (.ref it) "set_iterator" := ⟨_, e, rfl⟩
  refine wpAny_bind (wpAny_attempt (wpAny_callSpecial?_slot (name := Str.ofString "__next__") hT set_it_slot (wpAny_call_entry set_it_slot hT set_it_entry ?_ (set_it_args _))))
  unfold Builtin.«set_iterator.__next__» slotArgs setEntries setNext setsByText
  simp only [List.isEmpty_nil, Bool.not_true, Bool.false_eq_true, ↓reduceIte, bind_assoc, List.length_nil, bne_self_eq_false]
  refine wpAny_bind (wpAny_pure (wpAny_bind (wpAny_fieldsOf e rfl ?_)))
  dsimp only
  refine wpAny_bind (wpAny_setState_of ho hd hf (wpAny_bind (wpAny_pure ?_)))
  refine wpAny_ite ?_
  rw [if_neg (by simp)]
  cases so with
  | text b =>
    have b' : w.params.followText "set-order" = true := b
    refine wpAny_bind (wpAny_setState_of ho hd hf (wpAny_bind (wpAny_askSetting (wpAny_bind (wpAny_pure ?_)))))
    refine wpAny_bind (wpAny_ite ?_)
    rw [if_pos (show ({ program := (model prog w).prog, params := (model prog w).w.params } : Setting).params.followText "set-order" = true from b')]
    refine wpAny_ite ?_
    rw [if_neg (by simp)]
    refine wpAny_bind (walk_text b ho hd hf (wpAny_pure ?_))
    have hx : ((pickOrder (w.params.setOrder a ep) es)[(i : Int).toNat]?).map (fun e => (e.2, (0 : Int).toNat)) = some (v, 0) := by
      rw [Int.toNat_natCast, ← Array.getElem?_toList]
      rw [List.getElem?_map] at hv
      cases q : (pickOrder (w.params.setOrder a ep) es).toList[i]? with
      | none => rw [q] at hv; cases hv
      | some y => rw [q] at hv; cases hv; rfl
    rw [hx]
    refine wpAny_bind (wpAny_setField_rec e (by simp) fun h1 e1 s1 => wpAny_bind (wpAny_setField_rec (s := { s with heap := h1 }) e1 (by simp) fun h2 e2 s2 => ?_))
    refine wpAny_pure ⟨_, rfl, wpAny_pure (fin h2 (fun b o nb x => s2.extBut b o nb (s1.extBut b o nb x)) (s2.1.trans s1.1) ⟨⟨o, s2.extBut _ _ ne (s1.extBut _ _ ne ho), hd⟩, hf, g, ne, low, _, .text b, ?_⟩)⟩
    simpa [rawInt] using e2
  | places b d l z c =>
    have b' : w.params.followText "set-order" = false := b
    have hps : t.place.size = es.size := by
      have := hf
      simp only [SetTable.fits, Bool.and_eq_true, beq_iff_eq] at this
      exact this.1
    have hi : i < es.size := by
      have := (List.getElem?_eq_some_iff.mp hv).1
      rwa [List.length_map, Array.length_toList] at this
    refine wpAny_bind (wpAny_setState_of ho hd hf (wpAny_bind (wpAny_askSetting (wpAny_bind (wpAny_pure ?_)))))
    refine wpAny_bind (wpAny_ite ?_)
    rw [if_neg (by show ¬ (w.params.followText "set-order" = true); rw [b']; exact Bool.false_ne_true)]
    refine wpAny_ite ?_
    rw [if_neg (by show ¬ ((!t.plain && decide (es.size > 1)) = true); rw [d]; exact Bool.false_ne_true)]
    refine wpAny_bind ?_
    show wpAny _ _ (if (!t.led && !es.isEmpty) = true then unsupported "set:maker-not-led" else pure ()) _ _ _
    rw [l]
    refine wpAny_pure ?_
    have hbl : SetTable.below t.place ((z : Int)).toNat = i := by
      rw [Int.toNat_natCast]
      have c2 := below_cut g.2 z
      have h1 : ¬ SetTable.below t.place z < i := fun q => by
        have hs : SetTable.below t.place z < t.place.size := by (first | lia | omega)
        have := c2.hi _ hs (Nat.le_refl _)
        have := c.lo _ hs q
        (first | lia | omega)
      have h2 : ¬ i < SetTable.below t.place z := fun q => by
        have hs : i < t.place.size := by (first | lia | omega)
        have := c2.lo _ hs q
        have := c.hi _ hs (Nat.le_refl _)
        (first | lia | omega)
      (first | lia | omega)
    refine wpAny_pure ?_
    dsimp only
    rw [hbl, Array.getElem?_eq_getElem hi, Array.getElem?_eq_getElem (show i < t.place.size by (first | lia | omega))]
    have hv' : es[i].2 = v := by
      rw [List.getElem?_map, Array.getElem?_toList, Array.getElem?_eq_getElem hi] at hv
      injection hv
    dsimp only
    rw [hv']
    refine wpAny_bind (wpAny_setField_rec e (by simp) fun h1 e1 s1 => wpAny_bind (wpAny_setField_rec (s := { s with heap := h1 }) e1 (by simp) fun h2 e2 s2 => ?_))
    refine wpAny_pure ⟨_, rfl, wpAny_pure (fin h2 (fun b o nb x => s2.extBut b o nb (s1.extBut b o nb x)) (s2.1.trans s1.1) ⟨⟨o, s2.extBut _ _ ne (s1.extBut _ _ ne ho), hd⟩, hf, g, ne, low, _, .places b d l (t.place[i] + 1) ?_, ?_⟩)⟩
    · have c3 := below_cut g.2 (t.place[i] + 1)
      rw [Cut.next g.2 (by (first | lia | omega)) c3] at c3
      exact c3
    · simpa [rawInt] using e2
  | drawn ys p tp tl nt ot n et dt =>
    dsimp only
    unfold seqItems?
    refine wpAny_bind (wpAny_bind (wpAny_load et ?_))
    rw [dt]
    refine wpAny_pure ?_
    dsimp only
    rw [List.getElem?_map] at hv
    cases hy : ys[i]? with
    | none => rw [hy] at hv; cases hv
    | some y =>
      rw [hy] at hv
      injection hv with hv
      have hyr : y < es.size := List.mem_range.mp (p.mem_iff.mp (List.mem_of_getElem? hy))
      have hpl : (ys.map fun (k : Nat) => rawInt k).toArray[(i : Int).toNat]? = some (rawInt y) := by
        rw [Int.toNat_natCast, List.getElem?_toArray, List.getElem?_map, hy]; rfl
      rw [hpl]
      have hes : es[y].2 = v := by
        rw [← hv]
        dsimp only
        rw [List.getD_eq_getElem?_getD, List.getElem?_map, Array.getElem?_toList, Array.getElem?_eq_getElem hyr]; rfl
      show wpAny _ _ (setNextDrawn a ((y : Int)).toNat ((ep : Int)).toNat >>= _) _ _ _
      rw [Int.toNat_natCast, Int.toNat_natCast]
      unfold setNextDrawn
      refine wpAny_bind (wpAny_bind (wpAny_setState_of ho hd hf ?_))
      dsimp only
      refine wpAny_ite ?_
      rw [if_neg (by simp), Array.getElem?_eq_getElem hyr]
      refine wpAny_pure ?_
      show wpAny _ _ (setField (.ref it) 1 (rawInt ((i : Int) + 1)) >>= fun _ => ret es[y].2) _ _ _
      rw [hes]
      refine wpAny_bind (wpAny_setField_rec e (by simp) fun h1 e1 s1 => ?_)
      refine wpAny_pure ⟨_, rfl, wpAny_pure (fin h1 (fun b o nb x => s1.extBut b o nb x) s1.1 ⟨⟨o, s1.extBut _ _ ne ho, hd⟩, hf, g, ne, low, _, .drawn ys p tp tl nt ot n (s1.extBut _ _ nt et) dt, ?_⟩)⟩
      simpa [rawInt] using e1
theorem set_stop {vals : List Value} {it : Addr} {Q : Option Value → Shared → Prop} (hh : A.handled = none) (st : SSt w a es ep t lo vals it es.size s.heap) (hl : vals.length = es.size)
    (fin : ∀ h', (∀ b o, b ≠ it → s.heap.get? b = some o → h'.get? b = some o) → Q none { s with heap := h' }) :
    wpAny (model prog w) A (pyNext (.ref it)) Q E s := by
  obtain ⟨⟨o, ho, hd⟩, hf, g, ne, low, first, so, e⟩ := st
  have hT : s.TypeIs (.ref it) "set_iterator" := ⟨_, e, rfl⟩
  refine wpAny_bind (wpAny_attempt (wpAny_callSpecial?_slot (name := Str.ofString "__next__") hT set_it_slot (wpAny_call_entry set_it_slot hT set_it_entry ?_ (set_it_args _))))
  unfold Builtin.«set_iterator.__next__» slotArgs setEntries setNext setsByText
  simp only [List.isEmpty_nil, Bool.not_true, Bool.false_eq_true, ↓reduceIte, bind_assoc, List.length_nil, bne_self_eq_false]
  refine wpAny_bind (wpAny_pure (wpAny_bind (wpAny_fieldsOf e rfl ?_)))
  dsimp only
  refine wpAny_bind (wpAny_setState_of ho hd hf (wpAny_bind (wpAny_pure ?_)))
  refine wpAny_ite ?_
  rw [if_neg (by simp)]
  cases so with
  | text b =>
    have b' : w.params.followText "set-order" = true := b
    refine wpAny_bind (wpAny_setState_of ho hd hf (wpAny_bind (wpAny_askSetting (wpAny_bind (wpAny_pure ?_)))))
    refine wpAny_bind (wpAny_ite ?_)
    rw [if_pos (show ({ program := (model prog w).prog, params := (model prog w).w.params } : Setting).params.followText "set-order" = true from b')]
    refine wpAny_ite ?_
    rw [if_neg (by simp)]
    refine wpAny_bind (walk_text b ho hd hf (wpAny_pure ?_))
    have hx : ((pickOrder (w.params.setOrder a ep) es)[(es.size : Int).toNat]?).map (fun e => (e.2, (0 : Int).toNat)) = none := by
      have : (pickOrder (w.params.setOrder a ep) es).size = es.size := by rw [← hl, List.length_map, Array.length_toList]
      rw [Int.toNat_natCast, Array.getElem?_eq_none (by (first | lia | omega))]; rfl
    rw [hx]
    refine wpAny_bind (wpAny_setField_rec e (by simp) fun h1 e1 s1 => ?_)
    wp_walk
    refine wpAny_raiseNew_none hh (wpAny_bind (wpAny_isInstance (T := "StopIteration") (b := true) ⟨_, Heap.get?_push_size _ rfl, rfl⟩ isSubtype_stop (wpAny_pure (fin _ fun b o nb x => ?_))))
    exact Heap.get?_push_of_some _ (Heap.get?_push_of_some _ (s1.extBut b o nb x))
  | places b d l z c =>
    have b' : w.params.followText "set-order" = false := b
    have hps : t.place.size = es.size := by
      have := hf
      simp only [SetTable.fits, Bool.and_eq_true, beq_iff_eq] at this
      exact this.1
    refine wpAny_bind (wpAny_setState_of ho hd hf (wpAny_bind (wpAny_askSetting (wpAny_bind (wpAny_pure ?_)))))
    refine wpAny_bind (wpAny_ite ?_)
    rw [if_neg (by show ¬ (w.params.followText "set-order" = true); rw [b']; exact Bool.false_ne_true)]
    refine wpAny_ite ?_
    rw [if_neg (by show ¬ ((!t.plain && decide (es.size > 1)) = true); rw [d]; exact Bool.false_ne_true)]
    refine wpAny_bind ?_
    show wpAny _ _ (if (!t.led && !es.isEmpty) = true then unsupported "set:maker-not-led" else pure ()) _ _ _
    rw [l]
    refine wpAny_pure ?_
    have hbl : es.size ≤ SetTable.below t.place ((z : Int)).toNat := by
      rw [Int.toNat_natCast]
      have c2 := below_cut g.2 z
      refine Nat.not_lt.mp fun q => ?_
      have hs : SetTable.below t.place z < t.place.size := by (first | lia | omega)
      have := c2.hi _ hs (Nat.le_refl _)
      have := c.lo _ hs q
      (first | lia | omega)
    refine wpAny_pure ?_
    dsimp only
    rw [Array.getElem?_eq_none hbl]
    dsimp only
    refine wpAny_bind (wpAny_setField_rec e (by simp) fun h1 e1 s1 => ?_)
    wp_walk
    refine wpAny_raiseNew_none hh (wpAny_bind (wpAny_isInstance (T := "StopIteration") (b := true) ⟨_, Heap.get?_push_size _ rfl, rfl⟩ isSubtype_stop (wpAny_pure (fin _ fun b o nb x => ?_))))
    exact Heap.get?_push_of_some _ (Heap.get?_push_of_some _ (s1.extBut b o nb x))
  | drawn ys p tp tl nt ot n et dt =>
    dsimp only
    unfold seqItems?
    refine wpAny_bind (wpAny_bind (wpAny_load et ?_))
    rw [dt]
    refine wpAny_pure ?_
    dsimp only
    have hyl : ys.length = es.size := by rw [p.length_eq, List.length_range]
    have hpl : (ys.map fun (k : Nat) => rawInt k).toArray[(es.size : Int).toNat]? = none := by
      rw [Int.toNat_natCast, Array.getElem?_eq_none (by rw [List.size_toArray, List.length_map, hyl]; exact Nat.le_refl _)]
    rw [hpl]
    refine wpAny_bind (wpAny_setField_rec e (by simp) fun h0 e0 s0 => wpAny_bind (wpAny_setField_rec (s := { s with heap := h0 }) e0 (by simp) fun h1 e1 s1 => ?_))
    wp_walk
    refine wpAny_raiseNew_none hh (wpAny_bind (wpAny_isInstance (T := "StopIteration") (b := true) ⟨_, Heap.get?_push_size _ rfl, rfl⟩ isSubtype_stop (wpAny_pure (fin _ fun b o nb x => ?_))))
    exact Heap.get?_push_of_some _ (Heap.get?_push_of_some _ (s1.extBut b o nb (s0.extBut b o nb x)))
end
end L2
namespace L2
open PySem PySem.Spec PyProof.Rows
section
variable {prog : Program} {w : World} {a : Addr} {es : Array (Int × Value)} {ep : Nat} {t : SetTable} {lo : Nat}
theorem set_feed {A : Around} {it S : Addr} {vals : List Value} (hh : A.handled = none) (hl : vals.length = es.size) (n1 : it ≠ S) (n2 : a ≠ S) (hS : S < lo) :
    FeedL prog w A it S (· = it) es.size (fun i v _ => vals[i]? = some v) (fun _ _ => True) (fun i h => SSt w a es ep t lo vals it i h) where
  sfp := fun z => n1 z.symm
  item := fun i s Q E hi st _ q => set_next st (v := vals[i]) (List.getElem?_eq_getElem (by (first | lia | omega))) fun h' k' z' st' => q _ h' s.toks (fun b o nb x => k' b o nb x) st' (List.getElem?_eq_getElem (by (first | lia | omega))) fun _ _ _ => trivial
  stop := fun s Q E st _ q => set_stop hh st hl fun h' k' => q h' s.toks fun b o nb x => k' b o nb x
  keepS := fun i h h' st k => st.keep fun b o e hb => k b o (fun z => by
    rcases hb with rfl | hb
    · exact n2 z
    · subst z; exact absurd hS (Nat.not_lt.mpr hb)) e
  keepP := fun j v h h' p k => p
theorem sub_set : isSubtype (.type "set") (.type "set") = pure true := by
  first | rfl | decide | (unfold isSubtype; rfl)
theorem set_extend {A : Around} {S : Addr} {o : Obj} (hh : A.in1.handled = none) {s : Shared} {Z : Result → Shared → Prop} {res : Value} {c0 : Nat} (ho : s.heap.get? a = some o) (hx : o.ExactSet) (hd : o.data = .set es ep t) (hf : t.fits es.size = true) (g : GoodT t) (l : byT w = false → t.led = true) (hz : es.size ≤ sizeLine)
    (haS : a ≠ S) (hS : s.heap.get? S = some { cls := .type "list", data := .seq #[] c0 })
    (fin : ∀ h' tk d acc c vals, Keeps s.heap h' (· = S) → vals.length = es.size → List.Perm vals (es.toList.map (·.2)) → Grown h' S es.size (fun i v _ => vals[i]? = some v) (fun _ _ => True) acc c → Z (.ok (.ret res)) { s with heap := h', toks := tk, drawn := d }) :
    wpAny (model prog w) A.in1 (Builtin.List.listExtendWith (.ref S) (.ref a) res) (RunsTo prog w A Z) (fun e s' => Z (.error e) s') s := by
  have hT : s.TypeIs (.ref a) "set" := ⟨o, ho, hx.1⟩
  have nsame : Builtin.List.listSameRef (.ref S) (.ref a) = false := by simp [Builtin.List.listSameRef, Ne.symm haS]
  have low := Heap.lt_size hS
  unfold Builtin.List.listExtendWith
  refine wpAny_bind (wpAny_typeOf hT ?_)
  simp only [nsame, show (Value.type "set" == Value.type "list") = false by decide, show (Value.type "set" == Value.type "tuple") = false by decide, Bool.or_false, Bool.false_eq_true, if_false]
  refine wpAny_bind (set_iter ho hx hd hf g l hz fun it h1 d vals hl hp hit k1 st1 => ?_)
  have hT1 : Shared.TypeIs { s with heap := h1, drawn := d } (.ref a) "set" := ⟨o, k1 _ _ ho, hx.1⟩
  have hint : ∀ (Q : Bool → Shared → Prop), Q false { s with heap := h1, drawn := d } → wpAny (model prog w) A.in1 (Builtin.List.listLengthHint (.ref a)) Q (fun e s' => Z (.error e) s') { s with heap := h1, drawn := d } := fun Q q => by
    unfold Builtin.List.listLengthHint
    refine wpAny_bind (wpAny_specialOf hT1 F.slot_set_len.lookup ?_)
    refine wpAny_bind (wpAny_isInstance (T := "set") (b := true) hT1 sub_set ?_)
    refine wpAny_ite_split (fun z => absurd z (by decide)) fun _ => wpAny_ite_split (fun _ => ?_) fun z => absurd (show _ = true by decide +kernel) z
    exact wpAny_bind (wpAny_typeOf hT1 (wpAny_pure q))
  refine wpAny_bind (wpAny_holding (hint _ ?_))
  have hS1 := k1 _ _ hS
  have nS : it ≠ S := fun z => by subst z; exact absurd low (Nat.not_lt.mpr hit)
  have go : ∀ (h : Heap) (c tk : Nat), Keeps h1 h (· = S) → h.get? S = some { cls := .type "list", data := .seq #[] c } → codeAny (model prog w) A (.builtin "list.extend.loop" ⟨[.ref S, .ref it, res], []⟩) Z { s with heap := h, toks := tk, drawn := d } := fun h c tk k ob => by
    have Fd := set_feed (prog := prog) (w := w) (ep := ep) (t := t) (vals := vals) (A := A.in1) hh hl nS haS low
    refine feed_loopL Fd hz (s := { s with drawn := d }) (g := h1) (fun h' tk acc c k' G => fin h' tk d acc c vals (fun b o nb q => k' b o (fun z => z.elim (fun z => by subst z; exact absurd (Heap.lt_size q) (Nat.not_lt.mpr hit)) nb) (k1 b o q)) hl hp G) es.size 0 h tk #[] c (by (first | lia | omega)) (Fd.keepS _ _ _ st1 k) ⟨ob, rfl, .nil, fun j v e => by simp at e⟩ fun b o nb q => k b o (fun z => nb (.inr z)) q
  refine wpAny_ite_split (fun _ => ?_) fun z => absurd (show _ = true by decide +kernel) z
  refine wpAny_bind (wpAny_rule (wpAny_bind ?_))
  have o1 := Heap.get?_update_self (Obj.mapSeq (·.push Value.none)) hS1 rfl
  have o2 := Heap.get?_update_self (Obj.mapSeq (·.pop)) o1 rfl
  refine wpAny_bind (wpAny_updateSeq (s := { s with heap := h1, drawn := d }) hS1 rfl (wpAny_updateSeq (hz := by seq_fits) o1 rfl (wpAny_pure ⟨plainId_quiet PySem.F.plain_extend_loop _, go _ _ _ (fun b o nb q => ?_) o2⟩)))
  exact (Heap.get?_update_other _ _ (Ne.symm nb)).trans ((Heap.get?_update_other _ _ (Ne.symm nb)).trans q)
theorem set_collect {A : Around} {E : Value → Shared → Prop} {o : Obj} (hh : A.handled = none) {s : Shared} {Q : List Value → Shared → Prop} (ho : s.heap.get? a = some o) (hx : o.ExactSet) (hd : o.data = .set es ep t) (hf : t.fits es.size = true) (g : GoodT t) (l : byT w = false → t.led = true) (hz : es.size ≤ sizeLine)
    (fin : ∀ h' tk d vals, s.heap.objs.size ≤ h'.objs.size → (∀ b o, s.heap.get? b = some o → h'.get? b = some o) → List.Perm vals (es.toList.map (·.2)) → Q vals { s with heap := h', toks := tk, drawn := d }) : wpAny (model prog w) A (collect (.ref a)) Q E s := by
  unfold collect
  refine wpAny_bind (wpAny_runValue (codeAny_builtin PySem.F.entry_proto_collect ?_))
  rw [Around.under_plainId PySem.F.plain_proto_collect _]
  show wpAny _ A.in1 (newList [] >>= fun l => again (.builtin "list.__iadd__" ⟨[l, .ref a], []⟩)) _ _ s
  refine wpAny_bind (wpAny_newObj_type (wpAny_pure ⟨plainId_quiet PySem.F.plain_list_iadd _, codeAny_builtin PySem.F.entry_list_iadd ?_⟩))
  rw [Around.under_plainId PySem.F.plain_list_iadd _]
  have k0 : ∀ b o, s.heap.get? b = some o → (s.heap.push { cls := .type "list", data := .seq ([] : List Value).toArray }).get? b = some o := fun b o x => Heap.get?_push_of_some _ x
  refine set_extend (s := { s with heap := s.heap.push { cls := .type "list", data := .seq ([] : List Value).toArray } }) (A := A) (res := .ref s.heap.objs.size)
    (Z := fun (r : Result) s' => match r with
      | .ok (.ret v) => wpAny (model prog w) A (match v with
        | .ref a => (load a >>= fun o => match o.data with
          | .seq xs _ => pure xs.toList
          | _ => unsupported "internal:collect")
        | _ => unsupported "internal:collect") Q E s'
      | .ok _ => False
      | .error e => E e s') hh (k0 _ _ ho) hx hd hf g l hz (Nat.ne_of_lt (Heap.lt_size ho)) (Heap.get?_push_size _ rfl) fun h' tk d acc c vals k hl hp G => ?_
  refine wpAny_bind (wpAny_load G.ob (wpAny_pure ?_))
  have e : acc.toList = vals := by
    refine List.ext_getElem? fun j => ?_
    by_cases hj : j < acc.size
    · rw [Array.getElem?_toList, Array.getElem?_eq_getElem hj]
      exact (G.all j _ (Array.getElem?_eq_getElem hj)).symm
    · rw [Array.getElem?_toList, Array.getElem?_eq_none (by (first | lia | omega)), List.getElem?_eq_none (by have := G.sz; (first | lia | omega))]
  rw [e]
  exact fin h' tk d vals (Nat.le_of_lt (Heap.lt_size G.ob)) (fun b o x => k b o (Nat.ne_of_lt (Heap.lt_size x)) (k0 b o x)) hp
end
theorem perm_of_sub {α : Type} [DecidableEq α] : ∀ {D ns : List α}, D.Nodup → (∀ k ∈ D, k ∈ ns) → ns.length ≤ D.length → List.Perm ns D
  | [], ns, _, _, hl => by rw [List.eq_nil_of_length_eq_zero (Nat.le_zero.mp hl)]
  | k :: D, ns, nd, sub, hl => by
    obtain ⟨nk, nd'⟩ := List.nodup_cons.mp nd
    have hk := sub k List.mem_cons_self
    refine (List.perm_cons_erase hk).trans (List.Perm.cons k (perm_of_sub nd' (fun x hx => ?_) ?_))
    · exact (List.mem_erase_of_ne (fun z => nk (by rw [← z]; exact hx))).mpr (sub x (List.mem_cons_of_mem _ hx))
    · rw [List.length_erase_of_mem hk]
      rw [List.length_cons] at hl
      (first | lia | omega)
theorem ints_all : ∀ {vs : List Value}, (∀ v ∈ vs, ∃ k t, v = .int k t) → ∃ ns, IntsAre vs ns ∧ ∀ k, k ∈ ns ↔ ∃ t, Value.int k t ∈ vs
  | [], _ => ⟨[], .nil, fun k => ⟨(fun h => nomatch h), (fun ⟨_, h⟩ => nomatch h)⟩⟩
  | v :: vs, h => by
    obtain ⟨ns, h1, h2⟩ := ints_all (vs := vs) fun u hu => h u (List.mem_cons_of_mem _ hu)
    obtain ⟨k, t, rfl⟩ := h v List.mem_cons_self
    refine ⟨k :: ns, .cons k t h1, fun j => ⟨fun hj => ?_, fun ⟨u, hu⟩ => ?_⟩⟩
    · rcases List.mem_cons.mp hj with rfl | hj
      · exact ⟨t, List.mem_cons_self⟩
      · obtain ⟨u, hu⟩ := (h2 j).mp hj
        exact ⟨u, List.mem_cons_of_mem _ hu⟩
    · rcases List.mem_cons.mp hu with e | hu
      · cases e; exact List.mem_cons_self
      · exact List.mem_cons_of_mem _ ((h2 j).mpr ⟨u, hu⟩)
theorem ints_len : ∀ {vs : List Value} {ns : List Int}, IntsAre vs ns → vs.length = ns.length
  | _, _, .nil => rfl
  | _, _, .cons _ _ h => by rw [List.length_cons, List.length_cons, ints_len h]
theorem Inv.drawn {X : Cx} {pins : List (Addr × Obj)} {σ : St} {H : Hp} {s : Shared} (d : Drawn) (I : Inv X pins σ H s) : Inv X pins σ H { s with drawn := d } := ⟨I.ok, I.os, I.bare, I.base, I.loc, I.cell, I.free, I.freeC, I.pin, I.hok, I.len⟩
/-- sorted of a set of ints -/
theorem sortedSet {X : Cx} (hc : X.calm = true) : CallR X (.builtin "sorted") (fun xs H Q => ∃ (a : Addr) (D : List Int), xs = [.ref a] ∧ H a = some (setK (intV X.prog X.w) a D) ∧ D.Nodup ∧ D.length < 64 ∧
    ∀ (ms : List Int) (q : Addr) (H' : Hp), ms.Perm D → ms.Pairwise (· ≤ ·) → New H q (.lst (ms.map V.int)) H' → Q (.ref q) H') := by
  intro pins s σ H xs us Q I r h
  obtain ⟨a, D, rfl, ha, nd, hl, q⟩ := h
  obtain ⟨u, rfl, ru⟩ := vals1 r
  cases ru
  obtain ⟨HK, o', es', ep', t', ho', hd', g', l'⟩ := (show ObjOk X.prog X.w H s.heap a (setK (intV X.prog X.w) a D) from I.hok a _ ha).1
  obtain ⟨o, es, ep, t, ho, ex, hd, el, mem, bnd, fit, len⟩ := id HK
  obtain ⟨g, l⟩ : GoodT t ∧ (X.w.params.followText "set-order" = false → t.led = true) := by
    rw [ho] at ho'; cases ho'
    rw [hd] at hd'; cases hd'
    exact ⟨g', l'⟩
  refine Calls.call_function_entry kind_sorted plain_sorted entry_sorted (args_sorted1 _) ?_
  unfold Builtin.«sorted»
  refine wpAny_bind (m := checkCount "sorted" 1 1 _) (wpAny_pure ?_)
  refine wpAny_bind (set_collect (A := X.A.in1) (show X.A.in1.handled = none from I.ok.hd hc) ho ex hd fit g l (fits_of_scanBound bnd) fun h1 tk d vals hle k1 pm => ?_)
  have hv : ∀ v ∈ vals, ∃ k t, v = .int k t := fun v hv => by
    obtain ⟨e, he, rfl⟩ := List.mem_map.mp (pm.mem_iff.mp hv)
    obtain ⟨⟨k, hk, _⟩, _⟩ := el e he
    obtain ⟨t, ht⟩ := Value.isInt_shape hk
    exact ⟨k, t, ht⟩
  obtain ⟨ns, hI, hns⟩ := ints_all hv
  have hlen : vals.length = D.length := by rw [pm.length_eq, List.length_map, Array.length_toList, len]
  have hnl := ints_len hI
  have pD : List.Perm ns D := perm_of_sub nd (fun k hk => by
    obtain ⟨e, he, h2⟩ := (mem k).mp (decide_eq_true hk)
    obtain ⟨t, ht⟩ := Value.isInt_shape h2
    exact (hns k).mpr ⟨t, by rw [← ht]; exact pm.mem_iff.mpr (List.mem_map.mpr ⟨e, he, rfl⟩)⟩) (by (first | lia | omega))
  refine wpAny_bind (wpAny_newList ?_ (Nat.le_trans (show vals.length ≤ 64 by (first | lia | omega)) (by decide)))
  have ob : (h1.push (seqObj "list" vals.toArray 0)).get? h1.objs.size = some (seqObj "list" vals.toArray 0) := Heap.get?_push_size _ rfl
  refine wpAny_bind (wpAny_holding (wpAny_call_entry slot_list_sort ⟨_, ob, rfl⟩ entry_list_sort (list_sort_tree ob hI (by (first | lia | omega)) fun out ms a1 a2 a3 => ⟨_, rfl, wpAny_pure ⟨_, rfl, ?_⟩⟩) (args_list_sort _)))
  obtain ⟨e, he⟩ := sortedHeap_at (out := out) ob
  have hm : ms.length = D.length := (a2.trans pD).length_eq
  have hr := vals_of_ints a1
  have kk : ∀ b o, s.heap.get? b = some o → (sortedHeap (h1.push (seqObj "list" vals.toArray 0)) h1.objs.size vals out).get? b = some o := fun b ob' x => by
    have x1 := k1 b ob' x
    rw [sortedHeap_old (Nat.ne_of_lt (Heap.lt_size x1)) (by rw [size_push']; exact Nat.lt_succ_of_lt (Heap.lt_size x1)), Heap.get?_push_ne _ _ _ (Nat.ne_of_lt (Heap.lt_size x1))]
    exact x1
  refine ⟨.ref h1.objs.size, _, (I.laid (a := h1.objs.size) (o := .lst (ms.map V.int)) (t' := tk) kk hle ⟨?_, out.toList, e, hr, ?_⟩).drawn d, rfl, q ms _ _ (a2.trans pD) a3 ⟨I.hok.fresh hle, rfl⟩⟩
  · rw [List.length_map]; exact Nat.le_trans (show ms.length ≤ 64 by (first | lia | omega)) (by decide)
  · simpa [seqObj] using he
end L2

set_option Elab.async false
set_option linter.all false
set_option maxRecDepth 100000
set_option maxHeartbeats 4000000
/-! dict(xs) of a list of pairs -/
namespace L2
open PySem PySem.Spec PyProof.Rows
section
variable {prog : Program} {w : World} {A : Around} {E : Value → Shared → Prop} {h : Heap} {g : Array GenState} {d : Drawn} {t : Nat} {os : OsState} {a : Addr} {o : Obj}
end
end L2
namespace L2
open PySem PySem.Spec PyProof.Rows
section
variable {prog : Program} {w : World} {K : Type} [DecidableEq K] {knd : KeyKind prog w K} {A : Around} {E : Value → Shared → Prop}
end
section
variable {X : Cx} {pins : List (Addr × Obj)} {σ : St} {H : Hp} {s : Shared}
end
end L2

set_option Elab.async false
set_option linter.all false
set_option maxRecDepth 100000
set_option maxHeartbeats 4000000
/-! exceptions with fields: raised, caught, asked -/
namespace L2
open PySem PySem.Spec PyProof.Rows PySem.W PySem.Calls
section
variable {M : Model} {A : Around} {E : Value → Shared → Prop} {s : Shared} {env : Env}
variable {nm q : Str} {C N : Addr} {bs bm : List Value} {hdct : Bool} {sn : List Str} {sub : List Value} {ab : Bool} {col : Option Bool} {dd : Option Addr} {k0 k1 k2 k3 k5 : Option Value} {newId : String}
/-- raise x, x being an exception that was never raised -/
theorem raise_obj {x : Expr} {pos : Pos} {Q : Flow → Shared → Prop} (hh : A.handled = none) (hb : bm.contains (.type "BaseException") = true)
    (h : wpAny M A (eval x env) (fun v s1 => ∃ e o, v = .ref e ∧ s1.heap.get? C = some (excClassObj nm q C N bs bm hdct sn sub ab col dd k0 k1 k2 k3 k5 newId) ∧ s1.heap.get? e = some o ∧ o.cls = .ref C ∧ Raw o ∧ E (.ref e) s1) E s) :
    wpAny M A (exec (.Raise (some x) none pos) env) Q E s := by
  have hcB : (Value.ref C :: bm).contains (.type "BaseException") = true := by rw [List.contains_cons, hb, Bool.or_true]
  rw [arm_exec_Raise]
  show wpAny M A (do standAt pos; raiseStmt env (some (do let v ← eval x env; standAt pos; pure v)) none) Q E s
  refine wpAny_bind (wpAny_standAt ?_)
  unfold raiseStmt
  refine wpAny_bind (wpAny_bind (wpAny_mono h (fun v s1 h1 => wpAny_bind (wpAny_standAt (wpAny_pure ?_))) fun _ _ z => z))
  obtain ⟨e, o, rfl, hC, he, hc, ⟨t, hd⟩, hE⟩ := h1
  obtain ⟨oc, od, odt, osl⟩ := o
  dsimp only at hc hd
  subst hc hd
  obtain ⟨hp, g, d, tk, os⟩ := s1
  repeat (first | with_reducible refine wpAny_loadPart_at he ?_ | with_reducible refine wpAny_loadPart_at hC ?_ | (with_reducible refine wpAny_isSubtype_exc hC ?_; rw [hcB]) | wp_step)
  exact wpAny_raiseNew_none hh hE
end
section
variable {P : Program} {w : World} {K : PySem.W.Frag} {mg : Str → Option Value} {base : Heap} {N : List Str} {qual : Str} {scope : Scope} {f : Addr} {cd : Value} {A : Around} {outer : List Env} {s0 : Shared} {H0 : Hp} {E : XK}
/-- raise C(e, ..), C with an own __init__ that lays a field -/
noncomputable def sRaiseM (C : Addr) (H0 : Hp) (E : XK) (sp : Sp) (t : TA) : TS := fun _ σ H => tXMake C sp t σ H fun v H2 => ∃ e dx, v = .ref e ∧ H2 e = some (excF e C dx) ∧ H0 e = none ∧ E (.ref C) (some dx) (drp H2 e)
theorem ps_raiseM {k : Nat} {fi C : Addr} {fd : FuncData} {ps : List Str} {sp : Sp} {x : Str} {p cpos pos : Pos} {a : Expr} {as : List Expr} {t : TA} (M : XMk K C fi) (F : FnOk P w K mg base CX0 k fi fd ps sp) (hr : Room (k + 1) (A.deeper (envOfC qual scope s0.heap.objs.size f cd)))
    (hg : Gl (cxOf (CXE P w base) P w K mg base N qual scope f cd A outer s0 H0 E) x) (hm : mg x = some (.ref C)) (hb : Binds K fd ps []) (ha : PA (cxOf (CXE P w base) P w K mg base N qual scope f cd A outer s0 H0 E) (a :: as) t) (hdb : (x == ("__debug__" : Str)) = false := by decide)
    (he : starEach (a :: as) (envOfC qual scope s0.heap.objs.size f cd) = (false, eval a (envOfC qual scope s0.heap.objs.size f cd)) :: starEach as (envOfC qual scope s0.heap.objs.size f cd) := by rfl) (hpl : (backTo cpos (starEach as (envOfC qual scope s0.heap.objs.size f cd))).any (·.1) = false := by rfl) :
    PS (cxOf (CXE P w base) P w K mg base N qual scope f cd A outer s0 H0 E) (.Raise (some (.Call (.Name x p) (a :: as) [] cpos)) none pos) (sRaiseM C H0 E sp t) := by
  intro pins s σ H D I h
  obtain ⟨nm, qn, Nn, bs, Db, hdct, sn, sub, ab, col, dd, k0, k1, k2, k3, k5, lk, TL⟩ := id M.cl
  have ev := pe_xmake (X := cxOf (CXE P w base) P w K mg base N qual scope f cd A outer s0 H0 E) (pos := cpos) (p := p) M F hr hg hm hb ha rfl hdb he hpl s σ H _ I h
  refine raise_obj (C := C) (nm := nm) (q := qn) (N := Nn) (bs := bs) (bm := .ref Db :: tailVE) (hdct := hdct) (sn := sn) (sub := sub) (ab := ab) (col := col) (dd := dd) (k0 := k0) (k1 := k1) (k2 := k2) (k3 := k3) (k5 := k5) (newId := "ValueError.__new__")
    (I.ok.hd rfl) (by simp [tailVE]) (thn ev fun v s1 ⟨y, H1, I1, ry, e, dx, ey, ee, h0, hE⟩ => ?_)
  subst ey
  obtain rfl : v = Value.ref e := ry
  obtain ⟨ob, b1, b2, b3, b4⟩ := (show ObjOk P w H1 s1.heap e (excF e C dx) from I1.hok e _ ee).1
  obtain ⟨t0, b5⟩ := id b4
  have ub : Un (frs outer) [] H0 H1 s0.heap s1.heap := I1.base
  refine ⟨e, ob, rfl, I1.kIn _ _ lk, b1, b2, b4, exc_leaves (t := t0) I1 b1 ?_ b5 rfl rfl (.inr ⟨_, ee⟩) (by rw [b2, b3]; exact hE)⟩
  cases z : s0.heap.get? e with
  | none => rfl
  | some o =>
    have := ub.free e o z h0 (by simp)
    rw [ee] at this; cases this
end
section
variable {X : Cx}
/-- e.f of a caught exception -/
noncomputable def tXGetC (K : Frag) (to : TE) (f : Str) : TE := fun σ H Q => to σ H fun x H1 => ∃ e C dx fs v, x = .ref e ∧ H1 e = some (excAs e (.ref C) (some dx)) ∧ H1 dx = some (.xd fs) ∧ fs.lookup f = some v ∧ ExcOk K C ∧ ExcSt K C f ∧ ((∃ i, v = .int i) ∨ ∃ z, v = .str z) ∧ Q v H1
theorem pe_xgetC {o : Expr} {f : Str} {to : TE} {pos : Pos} (K : Frag) (ho : PE X o to) (hb : attributeBase o f X.env (eval o X.env) = eval o X.env := by rfl) (hK : X.K = K := by rfl) : PE X (.Attribute o f pos) (tXGetC K to f) := by
  subst hK
  intro pins s σ H Q I h
  refine attr_of hb (thn (ho s σ H _ I h) fun ov s1 ⟨x, H1, I1, rx, e, C, dx, fs, v, ex, ee, ed, el, O, S, hv, q⟩ => ?_)
  subst ex
  obtain rfl : ov = Value.ref e := rx
  obtain ⟨ob, b1, b2, b3, b4⟩ := (show ObjOk X.prog X.w H1 s1.heap e (excC e (.ref C) dx) from I1.hok e _ ee).1
  obtain ⟨mA, n1, n2⟩ := I1.hok dx _ ed
  obtain ⟨od, c1, c2⟩ := lookIn_ns n1
  have hf := n2 f
  rw [el] at hf
  cases hm : mA f with
  | none => rw [hm] at hf; exact hf.elim
  | some u =>
    rw [hm] at hf
    have ru : RelV v u := hf
    refine exc_load I1.kIn O S b1 b2 b3 b4 c1 (by rw [c2, hm]) ?_ ⟨v, H1, I1.tok _, ru, q⟩
    rcases hv with ⟨i, rfl⟩ | ⟨z, rfl⟩
    · obtain ⟨t, rfl⟩ := ru; rfl
    · obtain ⟨t, rfl⟩ := ru; rfl
end
end L2

set_option Elab.async false
set_option linter.all false
set_option maxRecDepth 100000
set_option maxHeartbeats 4000000
/-! int(text) -/
namespace L2
open PySem PySem.Spec PyProof.Rows PySem.W
theorem intS {X : Cx} : CallR X (.type "int") (fun xs H Q => ∃ x n, xs = [.str x] ∧ PySem.intText? x = some n ∧ x.length ≤ 640 ∧ Q (.int n) H) := by
  intro pins s σ H xs us Q I r h
  obtain ⟨x, n, rfl, e, hl, q⟩ := h
  obtain ⟨u, rfl, t, rfl⟩ := vals1 r
  exact KIN.call_text e hl ⟨.int n, H, I.tok _, ⟨_, rfl⟩, q⟩
end L2

set_option Elab.async false
set_option linter.all false
set_option maxRecDepth 100000
set_option maxHeartbeats 4000000
/-! try: body, except C1 as n: suite, except C2 as n: suite -/
namespace L2
open PySem PySem.Spec PyProof.Rows PySem.W
section
variable {X : Cx} {L : Addr} {pins : List (Addr × Obj)} {σ : St} {H : Hp} {s : Shared}
noncomputable def tTry2 (K : PySem.W.Frag) (C1 C2 : Addr) (j : Nat) (tb : St → XK → TS) (th1 th2 : TS) : TS := fun D σ H => ∃ E' : XK, tb σ E' D σ H ∧
  ∀ cls dx H', E' cls dx H' → (exmOne K cls (.ref C1) = some true ∧ ∀ e, H' e = none → th1 (D.gone j) (σ.set j (some (.ref e))) (upd H' e (excAs e cls dx))) ∨
    (exmOne K cls (.ref C1) = some false ∧ exmOne K cls (.ref C2) = some true ∧ ∀ e, H' e = none → th2 (D.gone j) (σ.set j (some (.ref e))) (upd H' e (excAs e cls dx)))
theorem ps_try2 {c1 c2 n : Str} {j : Nat} {C1 C2 : Addr} {body suite1 suite2 : List Stmt} {b1 b2 : Stmt} {tb : St → XK → TS} {th1 th2 : TS} {np1 np2 hp1 hp2 pos : Pos} (hst : X.stack = X.env :: X.outer) (hfm : X.env.frame = some L) (hN : X.N.Nodup) (hj : X.N[j]? = some n) (hlo : X.env.kindOf n = some .local)
    (hg1 : Gl X c1) (hg2 : Gl X c2) (hm1 : X.mg c1 = some (.ref C1)) (hm2 : X.mg c2 = some (.ref C2)) (hb : ∀ pins σ0 E', PSs (xB X pins σ0 E') body (tb σ0 E')) (hh1 : ∀ e, PSs (xH X e) (b1 :: suite1) th1) (hh2 : ∀ e, PSs (xH X e) (b2 :: suite2) th2)
    (hd1 : (c1 == ("__debug__" : Str)) = false := by decide) (hd2 : (c2 == ("__debug__" : Str)) = false := by decide) (hex : X.ex = [] := by rfl) :
    PS X (.Try body [.ExceptHandler (some (.Name c1 np1)) (some n) (b1 :: suite1) hp1, .ExceptHandler (some (.Name c2 np2)) (some n) (b2 :: suite2) hp2] [] [] pos) (tTry2 X.K C1 C2 j tb th1 th2) := by
  intro pins s σ H D I h
  obtain ⟨E', hb', hc⟩ := h
  refine wpAny_Try_except (wpAny_mono (hb pins σ E' s σ H D I.toB hb') (fun f s1 q => ?_) fun ev s1 q => ?_)
  · cases f with
    | next =>
      obtain ⟨σ', H', J, q⟩ := q
      have J := J.ofB
      rw [List.append_nil] at J
      exact wpAny_execs_nil ⟨σ', H', J, q⟩
    | brk =>
      obtain ⟨σ', H', J, q⟩ := q
      have J := J.ofB
      rw [List.append_nil] at J
      exact ⟨σ', H', J, q⟩
    | cont =>
      obtain ⟨σ', H', J, q⟩ := q
      have J := J.ofB
      rw [List.append_nil] at J
      exact ⟨σ', H', J, q⟩
    | ret u =>
      obtain ⟨v, σ', H', J, r, q⟩ := q
      have J := J.ofB
      rw [List.append_nil] at J
      exact ⟨v, σ', H', J, r, q⟩
  · obtain ⟨pins', H1, s0, J, ea, cls, t, B, H', dx, rfl, os', bare', u1, hok', hbB, hold, hin, fly, q⟩ := q
    have hq := hc _ _ _ q
    have hfr : X.A.frames = some (X.env :: X.outer) := by rw [← hst]; exact J.ok.frames
    -- the exception is new
    have hnB : B.get? ea = none := fly.2.1
    have hdat : ∃ oe vs, s1.heap.get? ea = some oe ∧ oe.data = .fields vs := by
      obtain ⟨oe, e1, _, _, vs, e3⟩ := fly.own
      exact ⟨oe, vs, e1, e3⟩
    have hnf : ea ∉ frs X.stack := fun z => by
      obtain ⟨o, e1, e2⟩ := fun_data fly.2.2.1 z
      obtain ⟨oe, vs, e3, e4⟩ := hdat
      rw [e1] at e3; cases e3
      exact e2 vs e4
    have hns : ∀ b o, s0.heap.get? b = some o → b ≠ ea := fun b o e z => by
      subst z
      obtain ⟨o', e'⟩ := hold b o e hnf
      rw [hnB] at e'; cases e'
    have hnH : H' ea = none := by
      cases e : H' ea with
      | none => rfl
      | some u => obtain ⟨o', e'⟩ := hin _ _ e; rw [hnB] at e'; cases e'
    have fly' := fly
    rw [hst] at fly'
    refine note_on hfr hfm fly' fun h4 held4 up4 => ?_
    refine lands held4.1 held4.2.1 held4.2.2.1 held4.2.2.2 fun h5 fly5 up5 => ?_
    have at_ : ∀ {h9 : Heap}, B.StaysIn h9 → s1.heap.UpToSlots h9 → Inv X pins σ H' { s1 with heap := h9 } := fun {h9} k9 up9 =>
      (J.call' (s' := { s1 with heap := h9 }) (ch := []) os' (u1.land hold fly.1 k9 fly.2.2.1 up9) (hok'.part fly.1 k9 hin) bare' (fun b z => absurd z (by simp))).unpinned
    have J5 := at_ fly5.1 (up4.trans up5)
    obtain ⟨ob, hob, hcl, _⟩ := fly5.own
    have run : ∀ {b0 : Stmt} {suite : List Stmt} {th : TS} {hp : Pos}, (∀ e, PSs (xH X e) (b0 :: suite) th) → (∀ e, H' e = none → th (D.gone j) (σ.set j (some (.ref e))) (upd H' e (excAs e cls dx))) →
        codeAny (model X.prog X.w) (X.A.mark (some (.ref ea))) (.handlers (.ref ea) [.ExceptHandler none (some n) (b0 :: suite) hp] X.env) (fun r s₂ => match r with
          | .ok f => wpAny (model X.prog X.w) X.A (do bindName X.env n .none; unbindBehindTheSuite X.env n hp) (fun _ s₃ => SP X pins D f s₃) X.xe s₂
          | .error x => cameBackBy (model X.prog X.w) X.A X.env X.xe x s₂) { s1 with heap := h5 } := by
      intro b0 suite th hp hh ht
      refine codeAny_handlers_suite_as (lands fly5.1 fly5.2.1 fly5.2.2.1 fly5.2.2.2 fun h6 fly6 up6 => ?_)
      have J6 := at_ fly6.1 ((up4.trans up5).trans up6)
      obtain ⟨o6, ho6, hc6, hd6, w6, hw6⟩ := fly6.own
      have K6 : Inv X pins σ (upd H' ea (excAs ea cls dx)) { s1 with heap := h6 } := by
        refine J6.adoptE hnH (fun z => ?_) (fun x k e => ?_) (fun p hp => ?_) (fun b u e => ?_) (excAs_ok ho6 hc6 hd6 hw6)
        · obtain ⟨m, ⟨oL, _, _, e, _⟩, _⟩ := J.loc
          exact hns _ _ e z.symm
        · obtain ⟨v, o, e1, _⟩ := J.cell x k e
          exact hns _ _ e1
        · exact hns _ _ (J.pin p (by
            have hp : p ∈ X.pn ++ pins := hp
            rcases List.mem_append.mp hp with z | z
            · exact List.mem_append_left _ z
            · exact List.mem_append_right _ (List.mem_append_left _ z))).1
        · obtain ⟨o', e'⟩ := J.base.there b u e (by rw [hex]; simp)
          exact hns _ _ e'
      refine store_ok (X := xH X ea) (K6.toH) hN hj (.inl hlo) (v := .ref ea) rfl (fun s7 K7 => ?_) (.inr hlo)
      refine wpAny_mono (hh ea _ _ _ (D.gone j) K7 (ht ea hnH)) (fun f s8 q8 => ?_) fun _ _ z => False.elim z
      cases f with
      | next => obtain ⟨σ', H8, J8, q8⟩ := q8; exact name_gone (J8.ofH J.ok) hN hj hlo fun s9 J9 => ⟨_, _, J9, q8⟩
      | brk => obtain ⟨σ', H8, J8, q8⟩ := q8; exact name_gone (J8.ofH J.ok) hN hj hlo fun s9 J9 => ⟨_, _, J9, q8⟩
      | cont => obtain ⟨σ', H8, J8, q8⟩ := q8; exact name_gone (J8.ofH J.ok) hN hj hlo fun s9 J9 => ⟨_, _, J9, q8⟩
      | ret u => obtain ⟨v, σ', H8, J8, r, q8⟩ := q8; exact name_gone (J8.ofH J.ok) hN hj hlo fun s9 J9 => ⟨v, _, _, J9, r, q8⟩
    refine wpAny_handleBy_cons (codeAny_handlers_test (ld_glob (X := xH X ea) J5.toH hg1 hm1 ?_ hd1)) (by intro z; cases z)
    rcases hq with ⟨hx, ht⟩ | ⟨hx1, hx, ht⟩
    · refine exm_one (K := X.K) J5.kIn (by rw [← hcl]; exact looks_cls hob) hx _ _ _ _ (fun b o z => z) ?_
      exact run hh1 ht
    · refine exm_one (K := X.K) J5.kIn (by rw [← hcl]; exact looks_cls hob) hx1 _ _ _ _ (fun b o z => z) ?_
      show wpAny _ _ (handleBy _ _ _) _ _ _
      refine wpAny_handleBy_cons (codeAny_handlers_test (ld_glob (X := xH X ea) J5.toH hg2 hm2 ?_ hd2)) (by intro z; cases z)
      refine exm_one (K := X.K) J5.kIn (by rw [← hcl]; exact looks_cls hob) hx _ _ _ _ (fun b o z => z) ?_
      exact run hh2 ht
/-- a walk by one way or the other -/
theorem pi_or {X : Cx} {tg l : Expr} {w1 w2 : TI} (h1 : PI X tg l w1) (h2 : PI X tg l w2) : PI X tg l (fun σ H R => w1 σ H R ∨ w2 σ H R) := fun pins s σ H R I h => h.elim (h1 s σ H R I) (h2 s σ H R I)
theorem exm_not {K : Frag} {C D : Addr} {cd} (h1 : subIn K (.ref D) (.type "BaseException") = some true) (h2 : clsIn K D = some cd) (h3 : typeIn K (.ref D) = some (.type "type")) (h4 : subIn K (.ref C) (.ref D) = some false) : exmOne K (.ref C) (.ref D) = some false := by
  unfold exmOne kitCls
  rw [h1]
  simp [h2, h3, h4]
end
end L2

set_option Elab.async false
set_option linter.all false
set_option maxRecDepth 100000
set_option maxHeartbeats 4000000
/-! d.setdefault(k, x) where k is a tuple of ints and texts -/
namespace L2
open PySem PySem.Spec PyProof.Rows PySem.W
section
variable {prog : Program} {w : World} {A : Around} {E : Value → Shared → Prop} {s : Shared} {K : Type} [DecidableEq K] {knd : HeapKind prog w K}
theorem sdef_heap {d a : Addr} {xs : List (K × Addr × Value)} {k : K} {v : Value} {Q : Value → Shared → Prop} (hu : knd.room A) (hkey : knd.is s.heap k a) (hm : s.heap.DictOfH knd d xs) (hsz : xs.length ≤ sizeLine)
    (old : ∀ p, atKey xs k = some p → Q p.2 { s with toks := s.toks + knd.draws k })
    (new : atKey xs k = none → ∀ h', h'.DictOfH knd d (storedH xs k a v) → Heap.SameBut d s.heap h' → Q v { s with heap := h', toks := s.toks + knd.draws k }) :
    wpAny (model prog w) A (dictSetDefault d (.ref a) v) Q E s := by
  obtain ⟨o, es, ep, ho, hc, hd, he, his, hn⟩ := hm
  unfold dictSetDefault
  refine wpAny_holding (wpAny_bind (knd.pyHash hu hkey (wpAny_bind (wpAny_dictFind_heap (s := { s with toks := s.toks + knd.draws k }) hu hkey ho hd he his hn (fun hno => ?_) fun j p hj => ?_))))
  · have hk := atKey_none_of_get hno
    have nk : k ∉ xs.map (·.1) := not_mem_keys_of_get hno
    refine wpAny_bind (wpAny_rule (wpAny_bind (wpAny_updateDictKeys (hz := by rw [size_of_entries he]; exact hsz) (s := { s with toks := s.toks + knd.draws k }) ho hd (wpAny_pure (new hk _ ⟨_, _, ep + 1, Heap.get?_update_self _ ho (Obj.isFreed_of_dict (Obj.data_mapDictKeys hd _)), hc.mapDictKeys _, Obj.data_mapDictKeys hd _, ?_, fun x hx => ?_, ?_⟩ (Heap.SameBut.update ..))))))
    · rw [storedH_new hk]
      simp [he, entryOfKey]
    · rw [storedH_new hk] at hx
      rcases List.mem_append.mp hx with hx | hx
      · exact knd.keeps (his x hx) ho hd (Heap.SameBut.update ..)
      · rw [List.mem_singleton.mp hx]
        exact knd.keeps hkey ho hd (Heap.SameBut.update ..)
    · rw [storedH_new hk, List.map_append]
      refine List.nodup_append.mpr ⟨hn, by simp, fun x hx y hy e => nk ?_⟩
      have hy : y = k := by simpa using hy
      rw [← hy, ← e]; exact hx
  · refine wpAny_bind (wpAny_dictEntries (s := { s with toks := s.toks + knd.draws k }) ho hd ?_)
    rw [entry_at he j, hj]
    exact wpAny_bind (wpAny_rule (wpAny_pure (old p (atKey_of_get hn hj))))
theorem sdef_meets {d a : Addr} (hd : (d == sysModules) = false) (v : Value) :
    MeetsIn prog w (Builtin.«dict.setdefault» ⟨[.ref d, .ref a, v], []⟩) (fun A R s => knd.room A.in1 ∧ ∃ k xs, knd.is s.heap k a ∧ s.heap.DictOfH knd d xs ∧ xs.length ≤ sizeLine ∧
      (∀ p, atKey xs k = some p → R (.ok (.ret p.2)) { s with toks := s.toks + knd.draws k }) ∧
      (atKey xs k = none → ∀ h', h'.DictOfH knd d (storedH xs k a v) → Heap.SameBut d s.heap h' → R (.ok (.ret v)) { s with heap := h', toks := s.toks + knd.draws k })) :=
  .of_wp fun A R s ⟨hu, k, xs, hkey, hm, hsz, h1, h2⟩ => by
    unfold Builtin.«dict.setdefault» Builtin.Dict.keyAndDefault
    refine wpAny_bind (wpAny_bind (wpAny_notOrdered_dict hm.typeIs ?_))
    show wpAny _ _ (pure (d, Value.ref a, some v)) _ _ s
    refine wpAny_pure ?_
    show wpAny _ _ (if (d == sysModules) = true then _ else (dictSetDefault d (.ref a) v >>= _)) _ _ s
    rw [if_neg (by rw [hd]; exact Bool.false_ne_true)]
    exact wpAny_bind (sdef_heap hu hkey hm hsz (fun p hp => wpAny_pure ⟨_, rfl, h1 p hp⟩) fun hn h' a b => wpAny_pure ⟨_, rfl, h2 hn h' a b⟩)
end
/-- d.setdefault(y, x), y a tuple -/
noncomputable def tSDef (td ty tx : TE) : TE := fun σ H Q => td σ H fun x H1 => ∃ a, x = .ref a ∧ IsD H1 a ∧ ty σ H1 fun y H2 => tx σ H2 fun z H3 => Ex3 fun kvs k b => H3 a = some (.dT kvs) ∧ y = .ref b ∧ H3 b = some (.tup (k.map kV)) ∧ kvs.length < sizeLine ∧
  (∀ v, valV kvs k = some v → Q v H3) ∧ (valV kvs k = none → Q z (upd H3 a (.dT (putK kvs k z))))
section
variable {X : Cx} {o e f : Expr} {apos cpos : Pos} {td ty tx : TE}
theorem pe_sdef (hu : X.A.units + 1 < cLine) (ho : PE X o td) (he : PE X e ty) (hf : PE X f tx) (hbase : attributeBase o "setdefault" X.env (eval o X.env) = eval o X.env := by rfl)
    (hfew : ((backTo cpos (starEach [e, f] X.env)).all (fun x => !x.1) && (backToKw cpos (keywordEach [] X.env)).all (fun x => x.1.isSome)
    && decide (([e, f] : List Expr).length + ([] : List Keyword).length + (if ([] : List Keyword).isEmpty then 0 else 1) < 30)) = true := by rfl) (hline : (apos.endLine == cpos.line) = true := by rfl)
    (htr : backTo cpos (starEach [e, f] X.env) = [(false, eval e X.env), (false, eval f X.env)] := by rfl) : PE X (.Call (.Attribute o "setdefault" apos) [e, f] [] cpos) (tSDef td ty tx) := by
  intro pins s σ H Q I h
  refine wpAny_Call_method hbase hfew hline PySem.F.plainAttrs_dict PySem.F.slot_dict_setdefault PySem.F.type_dict_setdefault (thn (ho s σ H _ I h) fun u s1 ⟨x, H1, I1, rx, a, ex, d, q1⟩ => ?_)
  subst ex
  obtain rfl : u = Value.ref a := rx
  obtain ⟨t1, t2, _⟩ := isD_at I1 d
  refine ⟨t1, t2, ?_⟩
  rw [htr]
  refine Calls.callWith_builtin rfl (Calls.evalArgs_plain (Calls.spliced_cons (thn (he s1 σ H1 _ I1 q1) fun iv s2 ⟨y, H2, I2, ry, q2⟩ =>
    Calls.spliced_cons (thn (hf s2 σ H2 _ I2 q2) fun fv s3 ⟨z, H3, I3, rz, kvs, k, b, ea, ey, eb, hl, q3, q4⟩ => Calls.spliced_nil ?_))))
  subst ey
  obtain rfl : iv = Value.ref b := ry
  obtain ⟨zl, hd, xs, rel, dd⟩ := dt_of I3.hok ea
  have hz : xs.length ≤ sizeLine := by rw [← Paired.length rel]; exact zl
  have hl' : (putK kvs k z).length ≤ sizeLine := by have := length_putK kvs k z; (first | lia | omega)
  refine call_meetsIn PySem.F.slot_dict_setdefault dd.typeIs PySem.F.entry_dict_setdefault (PySem.F.args_dict_setdefault_3 _ _ _) (sdef_meets (knd := tupleKind (mixKind X.prog X.w)) hd fv) ⟨tupleKind_room_in1 hu, k, xs, key_of I3.hok eb, dd, hz, fun p hp => ?_, fun hn h' dd' hs => ?_⟩
  · have rv := rel.val k
    rw [hp] at rv
    cases hv : valV kvs k with
    | none => rw [hv] at rv; exact rv.elim
    | some v =>
      rw [hv] at rv
      exact ⟨v, H3, I3.tok _, rv, q3 v hv⟩
  · have rv := rel.val k
    rw [hn] at rv
    have hv : valV kvs k = none := by
      cases hv : valV kvs k with
      | none => rfl
      | some v => rw [hv] at rv; exact rv.elim
    obtain ⟨q, es, ep, hq, h2, h3, h4, _, h5⟩ := dd'
    refine ⟨z, upd H3 a (.dT (putK kvs k z)), d_write I3 (by rw [ea]; exact True.intro) hs ⟨q, hq⟩ ⟨hl', hd, _, (rel.put k eb rz).keeps fun c ys ec => ?_, q, es, ep, hq, h2, h3, h4, h5⟩, rz, q4 hv⟩
    rw [upd_ne (ne_of ec ea (fun z => nomatch z))]
    exact ec
end
end L2

set_option Elab.async false
set_option linter.all false
namespace Z
open PySem L2
noncomputable def top (i : Nat) : Stmt := PySem.Challenge.pw_oddlong_k12_texts_again_and_shared.main.body.getD i (.Pass ⟨0, 0, 0, 0⟩)
noncomputable abbrev i_OddError : Nat := 1
noncomputable abbrev i_NoName : Nat := 2
noncomputable abbrev i_BadText : Nat := 3
noncomputable abbrev i_written : Nat := 5
noncomputable abbrev i_read_all : Nat := 6
noncomputable abbrev i_bounds_of : Nat := 7
noncomputable abbrev i_read_from : Nat := 8
noncomputable abbrev i_whole_reading : Nat := 9
noncomputable abbrev i_reading_from : Nat := 10
noncomputable abbrev i_lookup_of : Nat := 11
noncomputable abbrev i_code_at : Nat := 12
noncomputable abbrev i_law_begin : Nat := 14
noncomputable abbrev i_law_take : Nat := 15
noncomputable abbrev i_law_same : Nat := 16
noncomputable abbrev i_law_signs : Nat := 17
noncomputable abbrev i_law_free_codes : Nat := 18
noncomputable abbrev i_law_names : Nat := 19
noncomputable abbrev i_law_free_book : Nat := 20
noncomputable abbrev i_law_list : Nat := 21
noncomputable abbrev i_law_joined : Nat := 22
noncomputable abbrev i_law_text_spoilt : Nat := 23
noncomputable abbrev i_law_asked : Nat := 24
noncomputable abbrev i_law_changed : Nat := 25
noncomputable abbrev i_law_kept : Nat := 26
noncomputable abbrev i_law : Nat := 27
end Z

set_option Elab.async false
set_option linter.all false
set_option maxRecDepth 100000
set_option maxHeartbeats 4000000
namespace Z
open PySem L2
theorem sizeOk {n : Nat} (h : n ≤ 10000000) : n ≤ sizeLine := Nat.le_trans h (by decide)
end Z

set_option Elab.async false
set_option linter.all false
set_option maxRecDepth 100000
set_option maxHeartbeats 4000000
namespace Z
open PySem L2
/-! the draws -/
structure Box (H : Hp) (b c : Addr) (t : Int) (ns : List Int) : Prop where
  d : H b = some (.dK [(.inr "cells", .ref c), (.inr "turn", .int t)])
  l : H c = some (.lst (ns.map V.int))
  ne : 0 < ns.length
  le : ns.length ≤ 64
noncomputable def hid (H : Hp) (b c : Addr) : Hp := fun a => if a = b ∨ a = c then none else H a
theorem hid_of {H : Hp} {b c a : Addr} (h1 : a ≠ b) (h2 : a ≠ c) : hid H b c a = H a := if_neg (fun z => z.elim h1 h2)
theorem of_hid {H : Hp} {b c a : Addr} {o : HO} (h : hid H b c a = some o) : H a = some o ∧ a ≠ b ∧ a ≠ c := by
  unfold hid at h
  split at h
  · cases h
  · rename_i n
    exact ⟨h, fun z => n (.inl z), fun z => n (.inr z)⟩
theorem Box.bc {H : Hp} {b c : Addr} {t : Int} {ns : List Int} (x : Box H b c t ns) : b ≠ c := ne_of x.d x.l (by intro z; cases z)
theorem Box.get_turn {H : Hp} {b c : Addr} {t : Int} {ns : List Int} (x : Box H b c t ns) : DGet H b (.str "turn") (some (.int t)) := DGet.k (k := Sum.inr "turn") x.d
theorem Box.get_cells {H : Hp} {b c : Addr} {t : Int} {ns : List Int} (x : Box H b c t ns) : DGet H b (.str "cells") (some (.ref c)) := DGet.k (k := Sum.inr "cells") x.d
theorem Box.put_turn {H : Hp} {b c : Addr} {t : Int} {ns : List Int} (x : Box H b c t ns) (t' : Int) : DPut H b (.str "turn") (.int t') (upd H b (.dK [(.inr "cells", .ref c), (.inr "turn", .int t')])) :=
  DPut.k (k := Sum.inr "turn") x.d (by show 2 < sizeLine; decide)
theorem Box.turned {H : Hp} {b c : Addr} {t : Int} {ns : List Int} (x : Box H b c t ns) (t' : Int) : Box (upd H b (.dK [(.inr "cells", .ref c), (.inr "turn", .int t')])) b c t' ns :=
  ⟨upd_same, by rw [upd_ne (Ne.symm x.bc)]; exact x.l, x.ne, x.le⟩
theorem hid_upd_b {H : Hp} {b c : Addr} {o : HO} : hid (upd H b o) b c = hid H b c := by
  funext a; unfold hid; split
  · rfl
  · rename_i n; exact upd_ne (fun z => n (.inl z))
noncomputable def spTake : Sp := fun vs H Q _ => Ex5 fun (b c : Addr) (t : Int) (ns : List Int) (many : Int) => vs = [.ref b, .int many] ∧ Box H b c t ns ∧ 0 ≤ t ∧ t < 100000000 ∧ 0 < many ∧ many < 1073741824 ∧
  ∀ (r : Int) (H' : Hp) (ns' : List Int), 0 ≤ r → r < many → Box H' b c (t + 1) ns' → Same (hid H b c) (hid H' b c) → Q (.int r) H'
theorem at_of {ns : List Int} {p : Int} (h0 : 0 ≤ p) (h1 : p < ns.length) : ∃ v, atI (ns.map V.int) p = some (.int v) ∧ ns[p.toNat]? = some v := by
  have hk : p.toNat < ns.length := by (first | lia | omega)
  have ek : p = ((p.toNat : Nat) : Int) := by (first | lia | omega)
  have q : atI (ns.map V.int) ((p.toNat : Nat) : Int) = some (.int ns[p.toNat]) := atI_nat (by rw [List.getElem?_map, List.getElem?_eq_getElem hk] <;> rfl)
  rw [← ek] at q
  exact ⟨_, q, List.getElem?_eq_getElem hk⟩
theorem cm_mod {a j m : Int} (h0 : 0 < m) (h : m < 2 ^ 64) : CMul (a % m) j := by
  have h1 := Int.emod_nonneg a (b := m) (by (first | lia | omega))
  have h2 := Int.emod_lt_of_pos a h0
  exact .inl ⟨by (first | lia | omega), by (first | lia | omega)⟩
theorem ixN_of {n : Nat} {p : Int} (h0 : 0 ≤ p) (h1 : p < n) : ixN n p = some p.toNat := by unfold ixN; rw [if_pos h0, if_pos h1]
theorem hid_more {H H' : Hp} {b c : Addr} (h : ∀ a o, a ≠ b → a ≠ c → H a = some o → H' a = some o) : Same (hid H b c) (hid H' b c) := fun a o e => by
  refine Elim.el (of_hid e) _ ?_
  rintro e h1 h2
  rw [hid_of h1 h2]
  exact h a o h1 h2 e
end Z

set_option Elab.async false
set_option linter.all false
set_option maxRecDepth 100000
set_option maxHeartbeats 4000000
namespace Z
open PySem L2
section
variable {P : Program} {w : World} {K : PySem.W.Frag} {mg : Str → Option Value} {base : Heap} {f : Addr} {fd : FuncData}
theorem sc_take : FnScope ["_law_box", "_law_many", "_law_turn", "_law_place", "_law_cell", "_law_digit", "_law_mixed"] ["_law_box", "_law_many"] (defScope (top i_law_take)) := ⟨rfl, rfl, rfl, by decide +kernel, rfl, by decide +kernel, by decide +kernel⟩
theorem ok_take (F : Fun K "_law_take" "_law_take" (top i_law_take) f fd) (T : Nm mg) : FnOk P w K mg base CX0 1 f fd ["_law_box", "_law_many"] spTake := by
  refine F.ok sc_take (fun vs H Q E h => ?_) (fun cdv A outer s H vs Q E hr h => ?_)
  · obtain ⟨b, c, t, ns, many, rfl, _⟩ := h
    rfl
  obtain ⟨b, c, t, ns, many, rfl, bx, t0, t1, m0, m1, q⟩ := h
  have hu := hu_of hr
  refine ⟨_, (pss_cons (ps_set (i := 2) sc_take.nd rfl (Or.inl rfl) (pe_op g_add (pe_dget hu (pv 0) pe_str (fun _ _ => rfl)) pe_int))
    (pss_cons (ps_dput hu (pv 0) pe_str (pv 2) rfl)
    (pss_cons (ps_set (i := 3) sc_take.nd rfl (Or.inl rfl) (pe_op op_mod (pv 2) (pe_callB call_len rfl T.n_len PySem.boot_len (pa_cons (pe_dget hu (pv 0) pe_str (fun _ _ => rfl)) pa_nil))))
    (pss_cons (ps_set (i := 4) sc_take.nd rfl (Or.inl rfl) (pe_ix ix_seq (pe_dget hu (pv 0) pe_str (fun _ _ => rfl)) (pv 3) (fun _ _ => rfl)))
    (pss_cons (ps_if (pt_cmpR op_ge (pv 4) (pe_op op_pow pe_int pe_int) (nomark _)) (pss_cons (ps_asg (pe_callB call_divmod rfl T.n_divmod (by rfl) (pa_cons (pv 4) (pa_cons (pv 1) pa_nil))) (pg_tup rfl (pgs_cons (pg_sub (pe_dget hu (pv 0) pe_str (fun _ _ => rfl)) (pv 3) set_list) (pgs_cons (pg_name (i := 5) sc_take.nd rfl (Or.inl rfl)) pgs_nil))))
    (pss_one (ps_ret (pv 5)))) pss_nil)
    (pss_cons (ps_set (i := 6) sc_take.nd rfl (Or.inl rfl) (pe_op op_mod (pe_op g_mul (pe_op g_add (pe_op g_add (pe_op g_add (pe_op op_mod (pv 4) pe_int) (pe_op g_mul (pe_op g_mul pe_int (pv 2)) (pv 2))) (pe_op g_mul pe_int (pv 2))) pe_int) pe_int) pe_int))
    (pss_cons (ps_set (i := 6) sc_take.nd rfl (Or.inl rfl) (pe_op op_mod (pe_op g_mul (pv 6) (pe_op g_add (pe_op op_mod (pv 6) pe_int) (pe_op g_mul pe_int (pv 2)))) pe_int))
    (pss_one (ps_ret (pe_op op_mod (pe_op op_fdiv (pe_op op_mod (pe_op g_mul (pv 6) (pe_op g_add (pe_op op_mod (pv 6) pe_int) (pv 2))) pe_int) pe_int) (pv 1))))))))))), ?_⟩
  refine ⟨_, rfl, b, _, rfl, bx.get_turn, .inl ⟨_, _, rfl, rfl, ?_⟩⟩
  refine ⟨_, rfl, _, rfl, b, _, rfl, bx.put_turn (t + 1), ?_⟩
  have bx1 := bx.turned (t + 1)
  refine ⟨_, rfl, _, rfl, b, _, rfl, bx1.get_cells, _, _, rfl, .inl ⟨_, SqL.of bx1.l, rfl⟩, _, _, rfl, rfl, ?_, ?_⟩
  · rw [List.length_map]; have := bx1.ne; (first | lia | omega)
  have hlen : (ns.map V.int).length = ns.length := List.length_map _
  have hp0 : 0 ≤ (t + 1) % ((ns.map V.int).length : Int) := Int.emod_nonneg _ (by have := bx1.ne; (first | lia | omega))
  have hp1 : (t + 1) % ((ns.map V.int).length : Int) < ns.length := by rw [hlen]; exact Int.emod_lt_of_pos _ (by have := bx1.ne; (first | lia | omega))
  refine Elim.el (at_of hp0 hp1) _ ?_
  rintro v hv hv'
  refine ⟨_, rfl, b, _, rfl, bx1.get_cells, _, rfl, .inl ⟨c, _, _, _, rfl, rfl, SqL.of bx1.l, hv, ?_⟩⟩
  refine ⟨_, rfl, _, _, rfl, rfl, ⟨by decide, by decide, by decide⟩, _, _, rfl, rfl, _, rfl, ?_⟩
  refine ite2 (fun _ => ?_) (fun _ => ?_)
  · refine ⟨_, rfl, _, rfl, v, many, rfl, ⟨m0, by (first | lia | omega)⟩, fun pt hpt => ?_⟩
    have hpb : pt ≠ b := fun z => by rw [z, bx1.d] at hpt; cases hpt
    have hpc : pt ≠ c := fun z => by rw [z, bx1.l] at hpt; cases hpt
    have bx2 : Box (upd (upd H b (.dK [(.inr "cells", .ref c), (.inr "turn", .int (t + 1))])) pt (.tup [.int (v / many), .int (v % many)])) b c (t + 1) ns :=
      ⟨by rw [upd_ne (Ne.symm hpb)]; exact bx1.d, by rw [upd_ne (Ne.symm hpc)]; exact bx1.l, bx1.ne, bx1.le⟩
    refine ⟨pt, _, rfl, SqT.of upd_same, rfl, _, _, rfl, ?_⟩
    refine ⟨_, rfl, b, _, rfl, bx2.get_cells, _, rfl, c, _, _, _, rfl, rfl, bx2.l, ixN_of hp0 (by simpa only [hlen] using hp1), ?_⟩
    refine ⟨_, _, rfl, rfl, _, rfl, ?_⟩
    refine q (v % many) _ (ns.set ((t + 1) % ((ns.map V.int).length : Int)).toNat (v / many)) (Int.emod_nonneg _ (by (first | lia | omega))) (Int.emod_lt_of_pos _ m0) ⟨?_, ?_, ?_, ?_⟩ ?_
    · rw [upd_ne bx2.bc]; exact bx2.d
    · rw [upd_same, List.map_set]
    · rw [List.length_set]; exact bx1.ne
    · rw [List.length_set]; exact bx1.le
    · refine hid_more fun a o h1 h2 e => ?_
      rw [upd_ne h2, upd_ne (fun z => ?_), upd_ne h1]
      · exact e
      · rw [z] at e
        rw [upd_ne hpb] at hpt
        rw [hpt] at e; cases e
  · refine ⟨_, rfl, _, _, rfl, rfl, (by dsimp only; decide), _, rfl, .inl ⟨_, _, rfl, rfl, .inl ⟨by decide, by decide⟩, _, rfl, .inl ⟨_, _, rfl, rfl, .inr ⟨by (first | lia | omega), by (first | lia | omega)⟩, .inl ⟨_, _, rfl, rfl, ?_⟩⟩⟩⟩
    refine ⟨_, rfl, .inl ⟨_, _, rfl, rfl, .inl ⟨by decide, by decide⟩, .inl ⟨_, _, rfl, rfl, .inl ⟨_, _, rfl, rfl, .inl ⟨_, _, rfl, rfl, .inr ⟨by decide, by decide⟩, _, _, rfl, rfl, (by dsimp only; decide), ?_⟩⟩⟩⟩⟩
    refine ⟨_, rfl, _, rfl, _, _, rfl, rfl, (by dsimp only; decide), _, rfl, .inl ⟨_, _, rfl, rfl, .inl ⟨by decide, by decide⟩, .inl ⟨_, _, rfl, rfl, .inl ⟨_, _, rfl, rfl, cm_mod (by decide) (by decide), _, _, rfl, rfl, (by dsimp only; decide), ?_⟩⟩⟩⟩
    refine ⟨_, rfl, _, rfl, _, _, rfl, rfl, (by dsimp only; decide), _, rfl, .inl ⟨_, _, rfl, rfl, .inl ⟨_, _, rfl, rfl, cm_mod (by decide) (by decide), _, _, rfl, rfl, (by dsimp only; decide), _, _, rfl, rfl, ⟨by decide, by decide⟩, _, rfl, _, _, rfl, rfl, m0, ?_⟩⟩⟩
    exact q _ _ ns (Int.emod_nonneg _ (by (first | lia | omega))) (Int.emod_lt_of_pos _ m0) bx1 (by rw [hid_upd_b]; exact Same.refl _)
end
end Z

set_option Elab.async false
set_option linter.all false
set_option maxRecDepth 100000
set_option maxHeartbeats 4000000
namespace L2
open PySem
noncomputable def Gm (t : TG) : Prop := ∀ x σ H (Q Q' : St → Hp → Prop), (∀ a b, Q a b → Q' a b) → t x σ H Q → t x σ H Q'
noncomputable def Gms (t : TGs) : Prop := ∀ x σ H (Q Q' : St → Hp → Prop), (∀ a b, Q a b → Q' a b) → t x σ H Q → t x σ H Q'
theorem gm_name {i : Nat} : Gm (gName i) := fun _ _ _ _ _ h q => h _ _ q
theorem gms_nil : Gms gNil := fun _ _ _ _ _ h q => ⟨q.1, h _ _ q.2⟩
theorem gms_cons {t : TG} {u : TGs} (a : Gm t) (b : Gms u) : Gms (gCons t u) := fun _ _ _ _ _ h ⟨v, r, e, q⟩ => ⟨v, r, e, a _ _ _ _ _ (fun _ _ z => b _ _ _ _ _ h z) q⟩
theorem Dens.get {K : PySem.W.Frag} {H : Hp} : ∀ {ds : List PyData} {vs : List V} {i : Nat} {d : PyData}, Dens K H ds vs → ds[i]? = some d → ∃ v, vs[i]? = some v ∧ Den K H d v
  | [], _, _, _, _, e => by simp at e
  | d :: ds, vs, i, d', h, e => by
    unfold Dens at h
    obtain ⟨v, r, rfl, h1, h2⟩ := h
    cases i with
    | zero => cases e; exact ⟨v, rfl, h1⟩
    | succ i => exact Dens.get (i := i) h2 e
theorem Dens.len {K : PySem.W.Frag} {H : Hp} : ∀ {ds : List PyData} {vs : List V}, Dens K H ds vs → vs.length = ds.length
  | [], _, h => by unfold Dens at h; subst h; rfl
  | d :: ds, vs, h => by
    unfold Dens at h
    obtain ⟨v, r, rfl, h1, h2⟩ := h
    rw [List.length_cons, List.length_cons, Dens.len h2]
theorem Den.pair {K : PySem.W.Frag} {H : Hp} {a b : Str} {v : V} (h : Den K H (.tuple [.str a, .str b]) v) : ∃ p, v = .ref p ∧ SqT K H p [.str a, .str b] := by
  unfold Den at h
  obtain ⟨p, vs, e, h1, h2⟩ := h
  unfold Dens at h2
  obtain ⟨v1, r1, rfl, d1, h2⟩ := h2
  unfold Dens at h2
  obtain ⟨v2, r2, rfl, d2, h2⟩ := h2
  unfold Dens at h2
  subst h2
  unfold Den at d1 d2
  subst d1 d2
  exact ⟨p, e, h1⟩
end L2
namespace Z
open PySem L2
/-- a book as data -/
noncomputable def bookD (bk : List (Str × Str)) : PyData := .list (bk.map fun q => .tuple [.str q.1, .str q.2])
theorem same_new {H : Hp} {p : Addr} (h : H p = none) (o : HO) : Same H (upd H p o) := fun b u q => by rw [upd_ne (ne_of_none q h)]; exact q
end Z

set_option Elab.async false
set_option linter.all false
set_option maxRecDepth 100000
set_option maxHeartbeats 4000000
namespace L2
open PySem
/-- a for over any iterator, N turns -/
theorem for_go {J : It} {g : TG} {tb : TS} {D : Ends} {σ : St} {H : Hp} (N : Nat) (Pv : Nat → St → Hp → Prop) (h0 : Pv 0 σ H)
    (go : ∀ i σ H, i < N → Pv i σ H → J.go i H ∧ ∀ x H', J.yld i H x H' → g x σ H' fun σ2 H2 => tb { D with nx := Pv (i + 1), ct := Pv (i + 1), bk := D.nx } σ2 H2)
    (stop : ∀ σ H, Pv N σ H → J.stop N H ∧ D.nx σ H) :
    ∃ W : Nat → Nat → St → Hp → Prop, (∃ m, W 0 m σ H) ∧ ∀ i m σ H, W i m σ H →
      (J.stop i H ∧ D.nx σ H) ∨ (J.go i H ∧ ∃ N : St → Hp → Prop, (∀ σ' H', N σ' H' → ∃ m', m' < m ∧ W (i + 1) m' σ' H') ∧ ∀ x H', J.yld i H x H' → g x σ H' fun σ2 H2 => tb { D with nx := N, ct := N, bk := D.nx } σ2 H2) := by
  refine ⟨fun i m σ H => m = N - i ∧ i ≤ N ∧ Pv i σ H, ⟨N, by simp, Nat.zero_le _, h0⟩, ?_⟩
  rintro i m σ H ⟨rfl, hi, p⟩
  by_cases hlt : i < N
  · obtain ⟨g1, g2⟩ := go i σ H hlt p
    exact .inr ⟨g1, Pv (i + 1), fun σ' H' p' => ⟨N - (i + 1), by (first | lia | omega), rfl, hlt, p'⟩, g2⟩
  · have e : i = N := by (first | lia | omega)
    subst e
    exact .inl (stop σ H p)
end L2
namespace L2
open PySem
/-- what holds behind a statement, said once -/
theorem seqCut {t u : TS} {D : Ends} {σ : St} {H : Hp} (Ex : St → Hp → Prop) (h : ∀ Nx : St → Hp → Prop, (∀ σ H, Ex σ H → Nx σ H) → t { D with nx := Nx } σ H) (fin : ∀ σ H, Ex σ H → u D σ H) : tSeq t u D σ H := h (u D) fin
/-- what holds behind an expression, said once -/
theorem cutE {t : TE} {σ : St} {H : Hp} {Q : VK} (Ex : V → Hp → Prop) (h : ∀ Qn : VK, (∀ v H, Ex v H → Qn v H) → t σ H Qn) (fin : ∀ v H, Ex v H → Q v H) : t σ H Q := h Q fin
/-- a while, by a falling number -/
theorem whileGo {c : TT} {tb : TS} {D : Ends} {σ : St} {H : Hp} (Pv : Nat → St → Hp → Prop) (h0 : ∃ m, Pv m σ H)
    (hs : ∀ m σ H, Pv m σ H → c σ H fun b H1 => if b = true then ∃ N : St → Hp → Prop, (∀ σ' H', N σ' H' → ∃ m', m' < m ∧ Pv m' σ' H') ∧ tb { D with nx := N, ct := N, bk := D.nx } σ H1 else D.nx σ H1) : tWhile c tb D σ H := ⟨Pv, h0, hs⟩
end L2
namespace L2
open PySem
/-- x = e, then the rest; what e comes to, said once -/
theorem asgCut {te : TE} {g : TG} {u : TS} {D : Ends} {σ : St} {H : Hp} (Ex : V → Hp → Prop) (h : ∀ Qn : VK, (∀ v H, Ex v H → Qn v H) → te σ H Qn) (fin : ∀ v H, Ex v H → g v σ H (u D)) : tSeq (tAsg te g) u D σ H := h _ fin
theorem asgEnd {te : TE} {g : TG} {D : Ends} {σ : St} {H : Hp} (Ex : V → Hp → Prop) (h : ∀ Qn : VK, (∀ v H, Ex v H → Qn v H) → te σ H Qn) (fin : ∀ v H, Ex v H → g v σ H D.nx) : tAsg te g D σ H := h _ fin
end L2
namespace L2
open PySem
/-- a name has been given -/
theorem gn {i : Nat} {v : V} {σ : St} {H : Hp} {Q : St → Hp → Prop} (h : Q (σ.set i (some v)) H) : gName i v σ H Q := h
end L2

set_option Elab.async false
set_option linter.all false
set_option maxRecDepth 100000
set_option maxHeartbeats 4000000
namespace Z
open PySem L2
/-- the box at b, its list at c, t draws done -/
noncomputable def Bx (H : Hp) (b c : Addr) (t : Int) : Prop := ∃ ns, Box H b c t ns
/-- from H to H': at most N draws more; all else stands -/
structure Step (b c : Addr) (H H' : Hp) (t t' N : Int) : Prop where
  le : t ≤ t'
  ub : t' ≤ t + N
  bx : Bx H' b c t'
  sm : Same (hid H b c) (hid H' b c)
theorem Step.refl {b c : Addr} {H : Hp} {t : Int} (h : Bx H b c t) : Step b c H H t t 0 := ⟨Int.le_refl _, by (first | lia | omega), h, Same.refl _⟩
theorem Step.trans {b c : Addr} {H H' H2 : Hp} {t t' t2 N M : Int} (x : Step b c H H' t t' N) (y : Step b c H' H2 t' t2 M) : Step b c H H2 t t2 (N + M) :=
  ⟨by have := x.le; have := y.le; (first | lia | omega), by have := x.ub; have := y.ub; (first | lia | omega), y.bx, x.sm.trans y.sm⟩
theorem Step.more {b c : Addr} {H H' : Hp} {t t' N M : Int} (x : Step b c H H' t t' N) (h : N ≤ M) : Step b c H H' t t' M := ⟨x.le, by have := x.ub; (first | lia | omega), x.bx, x.sm⟩
theorem Bx.ne_new {H : Hp} {b c p : Addr} {t : Int} (x : Bx H b c t) (h : H p = none) : p ≠ b ∧ p ≠ c := by
  obtain ⟨ns, x⟩ := x
  exact ⟨fun z => (by rw [z, x.d] at h; cases h), fun z => (by rw [z, x.l] at h; cases h)⟩
theorem Bx.upd {H : Hp} {b c p : Addr} {t : Int} {o : HO} (x : Bx H b c t) (h1 : p ≠ b) (h2 : p ≠ c) : Bx (upd H p o) b c t := by
  obtain ⟨ns, x⟩ := x
  exact ⟨ns, by rw [upd_ne (Ne.symm h1)]; exact x.d, by rw [upd_ne (Ne.symm h2)]; exact x.l, x.ne, x.le⟩
/-- a new object -/
theorem Step.new {b c p : Addr} {H H' : Hp} {t t' N : Int} (x : Step b c H H' t t' N) (h : H' p = none) (o : HO) : Step b c H (upd H' p o) t t' N :=
  ⟨x.le, x.ub, x.bx.upd (x.bx.ne_new h).1 (x.bx.ne_new h).2, x.sm.trans (hid_more fun a u _ _ e => by rw [upd_ne (ne_of_none e h)]; exact e)⟩
/-- an object changed that was not there at the start -/
theorem Step.chg {b c p : Addr} {H H' : Hp} {t t' N : Int} (x : Step b c H H' t t' N) (h : H p = none) (h1 : p ≠ b) (h2 : p ≠ c) (o : HO) : Step b c H (upd H' p o) t t' N :=
  ⟨x.le, x.ub, x.bx.upd h1 h2, fun a u e => by
    have q := x.sm a u e
    obtain ⟨q, n1, n2⟩ := of_hid q
    rw [hid_of n1 n2, upd_ne (fun z => ?_)]
    · exact q
    · rw [z] at e
      rw [(of_hid e).1] at h; cases h⟩
theorem Step.old {b c a : Addr} {H H' : Hp} {t t' N : Int} {o : HO} (x : Step b c H H' t t' N) (h : H a = some o) (h1 : a ≠ b) (h2 : a ≠ c) : H' a = some o :=
  (of_hid (x.sm a o (by rw [hid_of h1 h2]; exact h))).1
theorem Step.fresh {b c a : Addr} {H H' : Hp} {t t' N : Int} (x : Step b c H H' t t' N) (hb : Bx H b c t) (h : H' a = none) : H a = none := by
  obtain ⟨h1, h2⟩ := x.bx.ne_new h
  cases e : H a with
  | none => rfl
  | some o => rw [x.old e h1 h2] at h; cases h
theorem Same.hid {H H' : Hp} {b c : Addr} (s : Same H H') : Same (hid H b c) (hid H' b c) := hid_more fun a o _ _ e => s a o e
theorem Bx.same {H H' : Hp} {b c : Addr} {t : Int} (x : Bx H b c t) (s : Same H H') : Bx H' b c t := by
  obtain ⟨ns, x⟩ := x
  exact ⟨ns, s _ _ x.d, s _ _ x.l, x.ne, x.le⟩
theorem Step.same {b c : Addr} {H H' : Hp} {t : Int} (x : Bx H b c t) (s : Same H H') : Step b c H H' t t 0 := ⟨Int.le_refl _, by (first | lia | omega), x.same s, Same.hid s⟩
/-- the draw, said so -/
noncomputable def spTk : Sp := fun vs H Q _ => Ex4 fun (b c : Addr) (t many : Int) => vs = [.ref b, .int many] ∧ Bx H b c t ∧ 0 ≤ t ∧ t < 100000000 ∧ 0 < many ∧ many < 1073741824 ∧
  ∀ (r : Int) (H' : Hp), 0 ≤ r → r < many → Step b c H H' t (t + 1) 1 → Q (.int r) H'
theorem spTk_of {vs : List V} {H : Hp} {Q : VK} {E : XK} (h : spTk vs H Q E) : spTake vs H Q E := by
  obtain ⟨b, c, t, many, e, ⟨ns, bx⟩, h1, h2, h3, h4, q⟩ := h
  exact ⟨b, c, t, ns, many, e, bx, h1, h2, h3, h4, fun r H' ns' r0 r1 bx' sm => q r H' r0 r1 ⟨by (first | lia | omega), by (first | lia | omega), ⟨ns', bx'⟩, sm⟩⟩
theorem cut_to (vs : List V) (j : Nat) : cutV vs none (some (j : Int)) = vs.take j := by
  unfold cutV
  rw [HT.sIx_none, HT.sIx_nat, List.drop_zero, Nat.sub_zero]
  rcases Nat.le_total j vs.length with h | h
  · rw [Nat.min_eq_left h]
  · rw [Nat.min_eq_right h, List.take_of_length_le (Nat.le_refl _), List.take_of_length_le h]
theorem cut_from (vs : List V) (j : Nat) : cutV vs (some (j : Int)) none = vs.drop j := by
  unfold cutV
  rw [HT.sIx_none, HT.sIx_nat]
  rcases Nat.le_total j vs.length with h | h
  · rw [Nat.min_eq_left h, List.take_of_length_le (by rw [List.length_drop]; exact Nat.le_refl _)]
  · rw [Nat.min_eq_right h, List.drop_of_length_le (Nat.le_refl _), List.drop_of_length_le h]; simp
theorem Fn.imp {P : Program} {w : World} {K : PySem.W.Frag} {mg : Str → Option Value} {base : Heap} {k : Nat} {x : Str} {ps : List Str} {sp sp' : Sp} (F : Fn P w K mg base k x ps sp) (h : ∀ vs H Q E, sp' vs H Q E → sp vs H Q E) : Fn P w K mg base k x ps sp' := by
  obtain ⟨f, fd, a, b, c, d⟩ := F.ex
  exact ⟨f, fd, a.imp h, b, c, d⟩
end Z
namespace Z
open PySem L2
theorem Step.newN {b c p : Addr} {H H' H2 : Hp} {t t' N : Int} {o : HO} (x : Step b c H H' t t' N) (n : New H' p o H2) : Step b c H H2 t t' N := by rw [n.eq]; exact x.new n.nn _
theorem Step.chgN {b c p : Addr} {H H' H2 : Hp} {t t' N : Int} {o : HO} (x : Step b c H H' t t' N) (n : Chg H' p o H2) (h : H p = none) (h1 : p ≠ b) (h2 : p ≠ c) : Step b c H H2 t t' N := by rw [n.eq]; exact x.chg h h1 h2 _
end Z

set_option Elab.async false
set_option linter.all false
set_option maxRecDepth 100000
set_option maxHeartbeats 4000000
namespace Z
open PySem L2
/-- a text of the signs 0 and 1 -/
noncomputable def Bin (x : Str) : Prop := ∀ c ∈ x.cps.toList, c = 48 ∨ c = 49
theorem glued_list (g : Str) : ∀ (parts : List Str) (acc : Array Nat), (parts.foldl (fun acc p => acc ++ g.cps ++ p.cps) acc).toList = acc.toList ++ parts.flatMap (fun p => g.cps.toList ++ p.cps.toList)
  | [], acc => by simp
  | p :: r, acc => by rw [List.foldl_cons, glued_list g r]; simp
theorem join_list0 (xs : List Str) : (Txt.join "" xs).cps.toList = xs.flatMap (fun p => p.cps.toList) := by
  cases xs with
  | nil => rfl
  | cons x r =>
    show ((r.foldl (fun acc p => acc ++ (Str.ofString "").cps ++ p.cps) x.cps)).toList = _
    rw [glued_list]
    have e : (Str.ofString "").cps.toList = [] := rfl
    simp [e]
theorem ones_flat : ∀ {xs : List Str}, (∀ x ∈ xs, ∃ ch : Nat, x = ⟨#[ch]⟩ ∧ (ch = 48 ∨ ch = 49)) → (xs.flatMap (fun p => p.cps.toList)).length = xs.length ∧ (∀ c ∈ xs.flatMap (fun p => p.cps.toList), c = 48 ∨ c = 49) ∧ (xs.map (·.length)).sum = xs.length
  | [], _ => ⟨rfl, fun _ h => by simp at h, rfl⟩
  | x :: r, h => by
    obtain ⟨ch, rfl, hc⟩ := h x List.mem_cons_self
    obtain ⟨h1, h2, h3⟩ := ones_flat fun y hy => h y (List.mem_cons_of_mem _ hy)
    refine ⟨by simp at h1 ⊢; (first | lia | omega), fun c hm => ?_, ?_⟩
    · rw [List.flatMap_cons] at hm
      rcases List.mem_append.mp hm with q | q
      · have : c = ch := by simpa using q
        rw [this]; exact hc
      · exact h2 c q
    · rw [List.map_cons, List.sum_cons, h3]
      show 1 + _ = _
      simp; (first | lia | omega)
end Z

set_option Elab.async false
set_option linter.all false
set_option maxRecDepth 100000
set_option maxHeartbeats 4000000
namespace Z
open PySem L2
noncomputable abbrev abc : Str := "abcdefghijklmnopqrstuvwxyz"
theorem abc_list : abc.cps.toList = (List.range 26).map (97 + ·) := by decide +kernel
theorem abc_at {r : Int} (h0 : 0 ≤ r) (h1 : r < 26) : atI abc.cps.toList r = some (97 + r.toNat) := by
  refine at_nat h0 ?_
  rw [abc_list, List.getElem?_map, List.getElem?_range (by (first | lia | omega))]
  rfl
/-- small letters alone -/
noncomputable def Low (x : Str) : Prop := ∀ ch ∈ x.cps.toList, 97 ≤ ch ∧ ch ≤ 122
/-- the name at place i where the first letter's number is g -/
structure NameAt (g : Int) (i : Nat) (x : Str) : Prop where
  low : Low x
  pos : 1 ≤ x.length
  le : x.length ≤ 8
  last : x.cps.toList.getLast? = some (97 + ((g + 3 * i) % 26).toNat)
theorem str_append_list (x y : Str) : (x ++ y).cps.toList = x.cps.toList ++ y.cps.toList := by
  show (x.cps ++ y.cps).toList = _
  simp
theorem str_len (x : Str) : x.length = x.cps.toList.length := by simp [Str.length]
theorem len_append (x y : Str) : (x ++ y).length = x.length + y.length := by rw [str_len, str_append_list, List.length_append, ← str_len, ← str_len]
theorem len_one (ch : Nat) : (⟨#[ch]⟩ : Str).length = 1 := rfl
theorem Low.app {x : Str} {ch : Nat} (h : Low x) (h1 : 97 ≤ ch) (h2 : ch ≤ 122) : Low (x ++ ⟨#[ch]⟩) := fun d hd => by
  rw [str_append_list] at hd
  rcases List.mem_append.mp hd with q | q
  · exact h d q
  · have e : d = ch := by simpa using q
    rw [e]; exact ⟨h1, h2⟩
end Z

set_option Elab.async false
set_option linter.all false
set_option maxRecDepth 100000
set_option maxHeartbeats 4000000
namespace Z
open PySem L2
noncomputable def spSigns : Sp := fun vs H Q _ => ∃ (b c : Addr) (t : Int) (ns : List Int) (many : Int), vs = [.ref b, .int many] ∧ Box H b c t ns ∧ 0 ≤ t ∧ t < 10000000 ∧ -1000 ≤ many ∧ many ≤ 1000 ∧
  ∀ (x : Str) (H' : Hp) (ns' : List Int), (x.length : Int) = max many 0 → Bin x → Box H' b c (t + max many 0) ns' → Same (hid H b c) (hid H' b c) → Q (.str x) H'
section
variable {P : Program} {w : World} {K : PySem.W.Frag} {mg : Str → Option Value} {base : Heap} {f : Addr} {fd : FuncData}
theorem sc_signs : FnScope ["_law_box", "_law_many"] ["_law_box", "_law_many"] (defScope (top i_law_signs)) := ⟨rfl, rfl, rfl, by decide +kernel, rfl, by decide +kernel, by decide +kernel⟩
theorem sign_at {r : Int} (h0 : 0 ≤ r) (h1 : r < 2) : ∃ ch, atI (Str.ofString "01").cps.toList r = some ch ∧ (ch = 48 ∨ ch = 49) := by
  have : r = 0 ∨ r = 1 := by (first | lia | omega)
  rcases this with rfl | rfl
  · exact ⟨48, by decide +kernel, .inl rfl⟩
  · exact ⟨49, by decide +kernel, .inr rfl⟩
theorem ok_signs (F : Fun K "_law_signs" "_law_signs" (top i_law_signs) f fd) (T : Nm mg) (f_law_take : Fn P w K mg base 1 "_law_take" ["_law_box", "_law_many"] spTake) : FnOk P w K mg base CX0 2 f fd ["_law_box", "_law_many"] spSigns := by
  refine F.ok sc_signs (fun vs H Q E h => ?_) (fun cdv A outer s H vs Q E hr h => ?_)
  · obtain ⟨b, c, t, ns, many, rfl, _⟩ := h
    rfl
  obtain ⟨b, c, t, ns, many, rfl, bx, t0, t1, m0, m1, q⟩ := h
  refine ⟨_, (pss_one (ps_ret (bmK K PySem.F.plainAttrs_str PySem.F.slot_str_join PySem.F.type_str_join (joinK K) pe_str (pa_cons (pe_lcomp rfl (comp_ok (Nc := ["_law_turn"]) (Fc := ["_law_box"]) (js := [0])) (pi_range1 rfl T.n_range (pa_cons (pv 1) pa_nil)) (gk_name (i := 0) (n := 1) (by decide)) (fun _ _ _ _ _ => (pg_name (i := 0) (show (["_law_turn", "_law_box"] : List Str).Nodup by decide +kernel) rfl (Or.inl rfl))) (fun _ _ _ _ _ => pts_nil) (fun _ _ _ _ _ => (pe_ix (ixK K) pe_str (pe_fn f_law_take hr rfl (pa_cons (pv 1) (pa_cons pe_int pa_nil))) (fun _ _ => rfl)))) pa_nil)))), ?_⟩
  refine ⟨rfl, _, rfl, many, rfl, by (first | lia | omega), by (first | lia | omega), ?_⟩
  have hN : ((many.toNat : Nat) : Int) = max many 0 := by (first | lia | omega)
  refine comp_go (N := many.toNat) (fun i ys H' => ∃ (xs : List Str) (ns' : List Int), ys = xs.map V.str ∧ xs.length = i ∧ (∀ x ∈ xs, ∃ ch, x = ⟨#[ch]⟩ ∧ (ch = 48 ∨ ch = 49)) ∧ Box H' b c (t + i) ns' ∧ Same (hid H b c) (hid H' b c))
    ⟨[], ns, rfl, rfl, (fun _ h => nomatch h), by simpa using bx, Same.refl _⟩ ?_ ?_
  · rintro i ys H' Nx hi ⟨xs, ns', rfl, hl, hx, bx', sm⟩ nx
    refine ⟨hi, by rw [List.length_map, hl]; exact Nat.lt_of_lt_of_le (show i < 1000 by (first | lia | omega)) (by decide), ?_⟩
    rintro x H2 ⟨rfl, rfl⟩
    refine ⟨_, rfl, b, c, t + i, ns', 2, rfl, bx', by (first | lia | omega), by (first | lia | omega), by decide, by decide, fun r H4 ns4 r0 r1 bx4 sm4 => ?_⟩
    obtain ⟨ch, hch, hb⟩ := sign_at r0 r1
    refine .inr (.inr ⟨_, r, ch, rfl, rfl, by decide +kernel, hch, nx _ _ ⟨xs ++ [⟨#[ch]⟩], ns4, by simp, by simp [hl], ?_, ?_, sm.trans sm4⟩⟩)
    · intro x hxm
      rcases List.mem_append.mp hxm with h | h
      · exact hx x h
      · exact ⟨ch, List.mem_singleton.mp h, hb⟩
    · have e : t + ((i + 1 : Nat) : Int) = t + i + 1 := by (first | lia | omega)
      rw [e]; exact bx4
  · rintro ys H' ⟨xs, ns', rfl, hl, hx, bx', sm⟩
    refine ⟨Nat.le_refl _, fun p hp => ⟨_, p, xs, rfl, rfl, SqL.of upd_same, ?_, ?_⟩⟩
    · obtain ⟨_, _, h3⟩ := ones_flat hx
      rw [h3]
      show xs.length + xs.length * 0 ≤ 16777216
      (first | lia | omega)
    · obtain ⟨h1, h2, _⟩ := ones_flat hx
      have hc := join_list0 xs
      refine q _ _ ns' ?_ ?_ ?_ ?_
      · have e : (Txt.join "" xs).length = (Txt.join "" xs).cps.toList.length := by simp [Str.length]
        rw [← hN, ← hl, e, hc, h1]
      · show ∀ c ∈ (Txt.join "" xs).cps.toList, _
        rw [hc]; exact h2
      · have hpb : p ≠ b := fun z => by rw [z, bx'.d] at hp; cases hp
        have hpc : p ≠ c := fun z => by rw [z, bx'.l] at hp; cases hp
        rw [← hN]
        exact ⟨by rw [upd_ne (Ne.symm hpb)]; exact bx'.d, by rw [upd_ne (Ne.symm hpc)]; exact bx'.l, bx'.ne, bx'.le⟩
      · refine sm.trans (hid_more fun a o h1 h2 e => ?_)
        rw [upd_ne (ne_of_none e hp)]; exact e
end
end Z

set_option Elab.async false
set_option linter.all false
set_option maxRecDepth 100000
set_option maxHeartbeats 4000000
namespace Z
open PySem L2
noncomputable def spSg : Sp := fun vs H Q _ => ∃ (b c : Addr) (t many : Int), vs = [.ref b, .int many] ∧ Bx H b c t ∧ 0 ≤ t ∧ t < 10000000 ∧ -1000 ≤ many ∧ many ≤ 1000 ∧
  ∀ (x : Str) (H' : Hp) (t' : Int), (x.length : Int) = max many 0 → Bin x → Step b c H H' t t' (max many 0) → Q (.str x) H'
theorem spSg_of {vs : List V} {H : Hp} {Q : VK} {E : XK} (h : spSg vs H Q E) : spSigns vs H Q E := by
  obtain ⟨b, c, t, many, e, ⟨ns, bx⟩, h1, h2, h3, h4, q⟩ := h
  exact ⟨b, c, t, ns, many, e, bx, h1, h2, h3, h4, fun x H' ns' hx hb bx' sm => q x H' _ hx hb ⟨by (first | lia | omega), by (first | lia | omega), ⟨ns', bx'⟩, sm⟩⟩
end Z

set_option Elab.async false
set_option linter.all false
set_option maxRecDepth 100000
set_option maxHeartbeats 4000000
namespace Z
open PySem L2
noncomputable def spNames : Sp := fun vs H Q _ => Ex4 fun (b c : Addr) (t many : Int) => vs = [.ref b, .int many] ∧ Bx H b c t ∧ 0 ≤ t ∧ t < 1000000 ∧ 0 ≤ many ∧ many ≤ 60 ∧
  ∀ (xs : List Str) (l : Addr) (H' : Hp) (t' g : Int), (xs.length : Int) = many → 0 ≤ g → g < 26 → (∀ (i : Nat) x, xs[i]? = some x → NameAt g i x) → Step b c H H' t t' 1000 → H l = none → H' l = some (.lst (xs.map V.str)) → Q (.ref l) H'
section
variable {P : Program} {w : World} {K : PySem.W.Frag} {mg : Str → Option Value} {base : Heap} {f : Addr} {fd : FuncData}
theorem sc_law_names : FnScope ["_law_box", "_law_many", "_law_letters", "_law_begin_here", "_law_found", "_law_place", "_law_way", "_law_word", "_law_turn"] ["_law_box", "_law_many"] (defScope (top i_law_names)) := ⟨rfl, rfl, rfl, by decide +kernel, rfl, by decide +kernel, by decide +kernel⟩
theorem ok_names (F : Fun K "_law_names" "_law_names" (top i_law_names) f fd) (T : Nm mg) (f_law_take : Fn P w K mg base 1 "_law_take" ["_law_box", "_law_many"] spTk) : FnOk P w K mg base CX0 2 f fd ["_law_box", "_law_many"] spNames := by
  refine F.ok sc_law_names (fun vs H Q E h => ?_) (fun cdv A outer s H vs Q E hr h => ?_)
  · obtain ⟨b, c, t, many, rfl, _⟩ := h
    rfl
  obtain ⟨b, c, t, many, rfl, bx, t0, t1, m0, m1, q⟩ := h
  refine ⟨_, (pss_cons (ps_set (i := 2) sc_law_names.nd rfl (Or.inl rfl) pe_str)
    (pss_cons (ps_par (i := 3) (j := 4) rfl sc_law_names.nd rfl rfl (by decide) rfl rfl (pa_cons (pe_fn (f_law_take.mono (by first | decide | exact Nat.le_refl _ | (first | lia | omega))) hr rfl (pa_cons (pv 0) (pa_cons pe_int pa_nil))) (pa_cons (lstN pa_nil) pa_nil)) rfl)
    (pss_cons (ps_for PassesOwn.never rfl (pi_range1 rfl T.n_range (pa_cons (pv 1) pa_nil)) (pg_name (i := 5) sc_law_names.nd rfl (Or.inl rfl)) (pss_cons (ps_set (i := 6) sc_law_names.nd rfl (Or.inl rfl) (pe_fn (f_law_take.mono (by first | decide | exact Nat.le_refl _ | (first | lia | omega))) hr rfl (pa_cons (pv 0) (pa_cons pe_int pa_nil))))
    (pss_cons (ps_set (i := 7) sc_law_names.nd rfl (Or.inl rfl) pe_str)
    (pss_cons (ps_for PassesOwn.never rfl (pi_range1 rfl T.n_range (pa_cons (pe_ifExp (pt_cmpR op_lt (pv 6) pe_int (nomark _)) (pe_ix (ixK K) (lstN (pa_cons pe_int (pa_cons pe_int (pa_cons pe_int (pa_cons pe_int pa_nil))))) (pv 6) (fun _ _ => rfl)) (pe_fn (f_law_take.mono (by first | decide | exact Nat.le_refl _ | (first | lia | omega))) hr rfl (pa_cons (pv 0) (pa_cons pe_int pa_nil)))) pa_nil)) (pg_name (i := 8) sc_law_names.nd rfl (Or.inl rfl)) (pss_one (ps_set (i := 7) sc_law_names.nd rfl (Or.inl rfl) (pe_op addN (pv 7) (pe_ix (ixK K) (pv 2) (pe_fn (f_law_take.mono (by first | decide | exact Nat.le_refl _ | (first | lia | omega))) hr rfl (pa_cons (pv 0) (pa_cons pe_int pa_nil))) (fun _ _ => rfl))))))
    (pss_one (ps_expr (bmK K PySem.F.plainAttrs_list PySem.F.slot_list_append PySem.F.type_list_append appendN (pv 4) (pa_cons (pe_op addN (pv 7) (pe_ix (ixK K) (pv 2) (pe_op op_mod (pe_op addN (pv 3) (pe_op mulN pe_int (pv 5))) pe_int) (fun _ _ => rfl))) pa_nil))))))))
    (pss_one (ps_ret (pv 4)))))), ?_⟩
  refine ⟨_, rfl, b, c, t, 26, rfl, bx, t0, by (first | lia | omega), by decide, by decide, fun g H1 g0 g1 st1 => ?_⟩
  refine ⟨by show 0 ≤ sizeLine; decide, fun l H2 n2 => ⟨_, _, rfl, ?_⟩⟩
  have hl : H l = none := st1.fresh bx n2.nn
  obtain ⟨lb, lc⟩ := st1.bx.ne_new n2.nn
  have st2 : Step b c H H2 t (t + 1) 1 := by rw [n2.eq]; exact st1.new n2.nn _
  refine ⟨_, rfl, many, rfl, by (first | lia | omega), by (first | lia | omega), ?_⟩
  refine for_range (lo := 0) (n := many.toNat) (fun i σ H' => ∃ xs t' x5 x6 x7 x8, σ = [some (.ref b), some (.int many), some (.str abc), some (.int g), some (.ref l), x5, x6, x7, x8] ∧ xs.length = i ∧
    (∀ (j : Nat) x, xs[j]? = some x → NameAt g j x) ∧ Step b c H H' t t' (1 + 10 * i) ∧ H' l = some (.lst (xs.map V.str))) ⟨[], t + 1, _, _, _, _, rfl, rfl, by simp, by simpa using st2, n2.at⟩ ?_ ?_
  · intro i σ H3 hi hz_
    refine Elim.el hz_ _ ?_
    clear hz_
    rintro xs t3 x5 x6 x7 x8 rfl hxl hx st3 hl3
    have hub := st3.ub
    have hlo := st3.le
    refine ⟨_, rfl, b, c, t3, 5, rfl, st3.bx, by (first | lia | omega), by (first | lia | omega), by decide, by decide, fun r H4 r0 r1 st4 => ?_⟩
    have hl4 : H4 l = some (.lst (xs.map V.str)) := st4.old hl3 lb lc
    have st4 := st3.trans st4
    refine ⟨_, rfl, _, _, rfl, rfl, _, rfl, ?_⟩
    have four : r < 4 → ∃ v : Int, atI ([.int 0, .int 0, .int 1, .int 7] : List V) r = some (.int v) ∧ 0 ≤ v ∧ v ≤ 7 := fun h => by
      have : r = 0 ∨ r = 1 ∨ r = 2 ∨ r = 3 := by (first | lia | omega)
      rcases this with rfl | rfl | rfl | rfl
      · exact ⟨0, rfl, by decide, by decide⟩
      · exact ⟨0, rfl, by decide, by decide⟩
      · exact ⟨1, rfl, by decide, by decide⟩
      · exact ⟨7, rfl, by decide, by decide⟩
    refine ite2 (fun c4 => ?_) (fun c4 => ?_)
    · refine Elim.el (four (of_decide_eq_true c4)) _ ?_
      rintro m hm hm0 hm1
      refine ⟨by show 4 ≤ sizeLine; decide, fun p H5 n5 => ?_⟩
      have st5 : Step b c H H5 t (t3 + 1) (1 + 10 * i + 2) := by rw [n5.eq]; exact (st4.new n5.nn _).more (by (first | lia | omega))
      have hl5 : H5 l = some (.lst (xs.map V.str)) := n5.same _ _ hl4
      obtain ⟨t5, st5⟩ : ∃ t5, Step b c H H5 t t5 (1 + 10 * i + 2) := ⟨_, st5⟩
      refine ⟨_, rfl, .inl ⟨p, _, _, _, rfl, rfl, SqL.of n5.at, hm, m, rfl, by (first | lia | omega), by (first | lia | omega), ?_⟩⟩
      clear n5 c4 hm st4 hl4 four
      refine for_range (lo := 0) (n := m.toNat) (fun k σ H' => ∃ x t' x8, σ = [some (.ref b), some (.int many), some (.str abc), some (.int g), some (.ref l), some (.int (0 + i)), some (.int r), some (.str x), x8] ∧ x.length = k ∧
        Low x ∧ Step b c H H' t t' (1 + 10 * i + 2 + k) ∧ H' l = some (.lst (xs.map V.str))) ⟨Str.empty, t5, _, rfl, rfl, (fun _ h => by cases h), by simpa using st5, hl5⟩ ?_ ?_
      · intro k σ H6 hk hz_
        refine Elim.el hz_ _ ?_
        clear hz_
        rintro x t6 y8 rfl hk1 hlow st6 hl6
        have hub6 := st6.ub
        have hlo6 := st6.le
        refine ⟨_, rfl, _, rfl, _, rfl, b, c, t6, 26, rfl, st6.bx, by (first | lia | omega), by (first | lia | omega), by decide, by decide, fun d H7 d0 d1 st7 => ?_⟩
        refine .inr (.inr ⟨_, d, _, rfl, rfl, by decide +kernel, abc_at d0 d1, .inr (.inl ⟨_, _, rfl, rfl, ?_, ?_⟩)⟩)
        · rw [len_one, hk1]; exact sizeOk (by (first | lia | omega))
        · exact ⟨x ++ ⟨#[97 + d.toNat]⟩, t6 + 1, _, rfl, by rw [len_append, len_one, hk1], hlow.app (by (first | lia | omega)) (by (first | lia | omega)), (st6.trans st7).more (by (first | lia | omega)), st7.old hl6 lb lc⟩
      · intro σ H6 hz_
        refine Elim.el hz_ _ ?_
        clear hz_
        rintro x t6 y8 rfl hk1 hlow st6 hl6
        have h0 : 0 ≤ (g + 3 * ((0 : Int) + i)) % 26 := Int.emod_nonneg _ (by decide)
        have h1 : (g + 3 * ((0 : Int) + i)) % 26 < 26 := Int.emod_lt_of_pos _ (by decide)
        refine ⟨_, rfl, .inl ⟨rfl, _, SqL.of hl6⟩, _, rfl, _, rfl, _, rfl, _, rfl, .inl ⟨_, _, rfl, rfl, .inl ⟨by decide, by decide⟩, .inl ⟨_, _, rfl, rfl, _, _, rfl, rfl, (by dsimp only; decide), ?_⟩⟩⟩
        refine .inr (.inr ⟨_, _, _, rfl, rfl, by decide +kernel, abc_at h0 h1, .inr (.inl ⟨_, _, rfl, rfl, by rw [len_one, hk1]; exact sizeOk (by (first | lia | omega)), l, _, _, rfl, rfl, hl6, ?_, fun H7 c7 => ?_⟩)⟩)
        · rw [List.length_map, hxl]; exact Nat.lt_of_lt_of_le (show i < 1000 by (first | lia | omega)) (by decide)
        · refine ⟨xs ++ [x ++ ⟨#[97 + ((g + 3 * ((0 : Int) + i)) % 26).toNat]⟩], t6, _, _, _, _, rfl, by rw [List.length_append, hxl]; rfl, fun j y hy => ?_, ?_, ?_⟩
          · by_cases hj : j < xs.length
            · rw [List.getElem?_append_left hj] at hy
              exact hx j y hy
            · rw [List.getElem?_append_right (by (first | lia | omega))] at hy
              have e : j - xs.length = 0 := by
                have := (List.getElem?_eq_some_iff.mp hy).1
                simp at this
                (first | lia | omega)
              rw [e] at hy
              cases hy
              have ej : j = i := by (first | lia | omega)
              subst ej
              refine ⟨hlow.app (by (first | lia | omega)) (by (first | lia | omega)), by rw [len_append, len_one]; (first | lia | omega), by rw [len_append, len_one]; (first | lia | omega), ?_⟩
              rw [str_append_list, List.getLast?_append]
              have : ((0 : Int) + j) = j := by (first | lia | omega)
              rw [this]
              rfl
          · rw [c7.eq]
            exact (st6.chg hl lb lc _).more (by (first | lia | omega))
          · rw [c7.at, List.map_append]
            rfl
    · have hub4 := st4.ub
      have hlo4 := st4.le
      refine ⟨_, rfl, b, c, t3 + 1, 8, rfl, st4.bx, by (first | lia | omega), by (first | lia | omega), by decide, by decide, fun m H5 hm0 hm1 st5 => ?_⟩
      have hl5 : H5 l = some (.lst (xs.map V.str)) := st5.old hl4 lb lc
      obtain ⟨t5, st5⟩ : ∃ t5, Step b c H H5 t t5 (1 + 10 * i + 2) := ⟨_, (st4.trans st5).more (by (first | lia | omega))⟩
      refine ⟨m, rfl, by (first | lia | omega), by (first | lia | omega), ?_⟩
      have hm1 : m ≤ 7 := by (first | lia | omega)
      clear c4 st4 hl4 four
      refine for_range (lo := 0) (n := m.toNat) (fun k σ H' => ∃ x t' x8, σ = [some (.ref b), some (.int many), some (.str abc), some (.int g), some (.ref l), some (.int (0 + i)), some (.int r), some (.str x), x8] ∧ x.length = k ∧
        Low x ∧ Step b c H H' t t' (1 + 10 * i + 2 + k) ∧ H' l = some (.lst (xs.map V.str))) ⟨Str.empty, t5, _, rfl, rfl, (fun _ h => by cases h), by simpa using st5, hl5⟩ ?_ ?_
      · intro k σ H6 hk hz_
        refine Elim.el hz_ _ ?_
        clear hz_
        rintro x t6 y8 rfl hk1 hlow st6 hl6
        have hub6 := st6.ub
        have hlo6 := st6.le
        refine ⟨_, rfl, _, rfl, _, rfl, b, c, t6, 26, rfl, st6.bx, by (first | lia | omega), by (first | lia | omega), by decide, by decide, fun d H7 d0 d1 st7 => ?_⟩
        refine .inr (.inr ⟨_, d, _, rfl, rfl, by decide +kernel, abc_at d0 d1, .inr (.inl ⟨_, _, rfl, rfl, ?_, ?_⟩)⟩)
        · rw [len_one, hk1]; exact sizeOk (by (first | lia | omega))
        · exact ⟨x ++ ⟨#[97 + d.toNat]⟩, t6 + 1, _, rfl, by rw [len_append, len_one, hk1], hlow.app (by (first | lia | omega)) (by (first | lia | omega)), (st6.trans st7).more (by (first | lia | omega)), st7.old hl6 lb lc⟩
      · intro σ H6 hz_
        refine Elim.el hz_ _ ?_
        clear hz_
        rintro x t6 y8 rfl hk1 hlow st6 hl6
        have h0 : 0 ≤ (g + 3 * ((0 : Int) + i)) % 26 := Int.emod_nonneg _ (by decide)
        have h1 : (g + 3 * ((0 : Int) + i)) % 26 < 26 := Int.emod_lt_of_pos _ (by decide)
        refine ⟨_, rfl, .inl ⟨rfl, _, SqL.of hl6⟩, _, rfl, _, rfl, _, rfl, _, rfl, .inl ⟨_, _, rfl, rfl, .inl ⟨by decide, by decide⟩, .inl ⟨_, _, rfl, rfl, _, _, rfl, rfl, (by dsimp only; decide), ?_⟩⟩⟩
        refine .inr (.inr ⟨_, _, _, rfl, rfl, by decide +kernel, abc_at h0 h1, .inr (.inl ⟨_, _, rfl, rfl, by rw [len_one, hk1]; exact sizeOk (by (first | lia | omega)), l, _, _, rfl, rfl, hl6, ?_, fun H7 c7 => ?_⟩)⟩)
        · rw [List.length_map, hxl]; exact Nat.lt_of_lt_of_le (show i < 1000 by (first | lia | omega)) (by decide)
        · refine ⟨xs ++ [x ++ ⟨#[97 + ((g + 3 * ((0 : Int) + i)) % 26).toNat]⟩], t6, _, _, _, _, rfl, by rw [List.length_append, hxl]; rfl, fun j y hy => ?_, ?_, ?_⟩
          · by_cases hj : j < xs.length
            · rw [List.getElem?_append_left hj] at hy
              exact hx j y hy
            · rw [List.getElem?_append_right (by (first | lia | omega))] at hy
              have e : j - xs.length = 0 := by
                have := (List.getElem?_eq_some_iff.mp hy).1
                simp at this
                (first | lia | omega)
              rw [e] at hy
              cases hy
              have ej : j = i := by (first | lia | omega)
              subst ej
              refine ⟨hlow.app (by (first | lia | omega)) (by (first | lia | omega)), by rw [len_append, len_one]; (first | lia | omega), by rw [len_append, len_one]; (first | lia | omega), ?_⟩
              rw [str_append_list, List.getLast?_append]
              have : ((0 : Int) + j) = j := by (first | lia | omega)
              rw [this]
              rfl
          · rw [c7.eq]
            exact (st6.chg hl lb lc _).more (by (first | lia | omega))
          · rw [c7.at, List.map_append]
            rfl
  · intro σ H3 hz_
    refine Elim.el hz_ _ ?_
    clear hz_
    rintro xs t3 x5 x6 x7 x8 rfl hxl hx st3 hl3
    exact ⟨_, rfl, q xs l H3 t3 g (by (first | lia | omega)) g0 g1 hx (st3.more (by (first | lia | omega))) hl hl3⟩
end
end Z

set_option Elab.async false
set_option linter.all false
set_option maxRecDepth 100000
set_option maxHeartbeats 4000000
namespace Z
open PySem L2
mutual
theorem eqv_refl : ∀ (d : PyData), d.canLay0 = true → PyData.eqv d d = true
  | .none, _ => by simp [PyData.eqv]
  | .bool _, _ => by simp [PyData.eqv]
  | .int _, _ => by simp [PyData.eqv]
  | .str _, _ => by simp [PyData.eqv]
  | .list ds, h => by
    simp only [PyData.eqv]
    exact eqvAll_refl ds (by simpa [PyData.canLay0] using h)
  | .tuple ds, h => by
    simp only [PyData.eqv]
    exact eqvAll_refl ds (by simpa [PyData.canLay0] using h)
  | .dict _, h => by simp [PyData.canLay0] at h
theorem eqvAll_refl : ∀ (ds : List PyData), PyData.canLayAll0 ds = true → PyData.eqvAll ds ds = true
  | [], _ => by simp [PyData.eqvAll]
  | d :: ds, h => by
    simp only [PyData.canLayAll0, Bool.and_eq_true] at h
    simp only [PyData.eqvAll, Bool.and_eq_true]
    exact ⟨eqv_refl d h.1, eqvAll_refl ds h.2⟩
end
/-- may be compared, and is no deeper than n -/
noncomputable def Sh (n : Nat) (d : PyData) : Prop := d.canLay0 = true ∧ d.depth ≤ n
theorem Sh.all {n : Nat} : ∀ {ds : List PyData}, (∀ d ∈ ds, Sh n d) → PyData.canLayAll0 ds = true ∧ PyData.depthAll ds ≤ n
  | [], _ => ⟨by simp [PyData.canLayAll0], by simp [PyData.depthAll]⟩
  | d :: ds, h => by
    obtain ⟨h1, h2⟩ := h d List.mem_cons_self
    obtain ⟨h3, h4⟩ := Sh.all fun e he => h e (List.mem_cons_of_mem _ he)
    exact ⟨by simp [PyData.canLayAll0, h1, h3], by simp only [PyData.depthAll]; (first | lia | omega)⟩
theorem Sh.list {n : Nat} {ds : List PyData} (h : ∀ d ∈ ds, Sh n d) : Sh (n + 1) (.list ds) := by
  obtain ⟨h1, h2⟩ := Sh.all h
  exact ⟨by simpa [PyData.canLay0] using h1, by simp only [PyData.depth]; (first | lia | omega)⟩
theorem Sh.tuple {n : Nat} {ds : List PyData} (h : ∀ d ∈ ds, Sh n d) : Sh (n + 1) (.tuple ds) := by
  obtain ⟨h1, h2⟩ := Sh.all h
  exact ⟨by simpa [PyData.canLay0] using h1, by simp only [PyData.depth]; (first | lia | omega)⟩
theorem Sh.shaped {n : Nat} {d : PyData} (h : Sh n d) (hn : n ≤ 64) : SeqAt.shaped d = true := by
  unfold SeqAt.shaped
  rw [h.1, decide_eq_true (Nat.le_trans h.2 hn)]
  rfl
theorem Sh.str {n : Nat} {x : Str} (h : PyData.canLay0 (.str x) = true) : Sh n (.str x) := ⟨h, by simp [PyData.depth]⟩
theorem canLay_small {x : Str} (h : ∀ ch ∈ x.cps.toList, ch < 128) : PyData.canLay0 (.str x) = true := by
  simp only [PyData.canLay0, PyData.strOk]
  rw [← Array.all_toList, List.all_eq_true]
  intro ch hc
  have := h ch hc
  exact decide_eq_true (by (first | lia | omega))
theorem Den.list {K : PySem.W.Frag} {H : Hp} {l : Addr} {ds : List PyData} {vs : List V} (h : SqL K H l vs) (hd : Dens K H ds vs) : Den K H (.list ds) (.ref l) := by
  unfold Den
  exact ⟨l, vs, rfl, h, hd⟩
theorem depth_at {n : Nat} : ∀ {ds : List PyData} {d : PyData}, PyData.depthAll ds ≤ n → d ∈ ds → d.depth ≤ n
  | [], _, _, h => nomatch h
  | e :: ds, d, hn, h => by
    simp only [PyData.depthAll] at hn
    rcases List.mem_cons.mp h with rfl | h
    · (first | lia | omega)
    · exact depth_at (by (first | lia | omega)) h
theorem weight_at {n : Nat} : ∀ {ds : List PyData} {d : PyData}, PyData.weightAll ds ≤ n → d ∈ ds → d.weight ≤ n
  | [], _, _, h => nomatch h
  | e :: ds, d, hn, h => by
    simp only [PyData.weightAll] at hn
    rcases List.mem_cons.mp h with rfl | h
    · (first | lia | omega)
    · exact weight_at (by (first | lia | omega)) h
theorem len_weight : ∀ (ds : List PyData), ds.length ≤ PyData.weightAll ds
  | [] => by simp
  | e :: ds => by
    simp only [PyData.weightAll, List.length_cons]
    have := len_weight ds
    (first | lia | omega)
theorem all_true (n : Nat) : (List.replicate n true).all id = true := by
  induction n with
  | zero => rfl
  | succ n ih => rw [List.replicate_succ, List.all_cons, ih]; rfl
end Z

set_option Elab.async false
set_option linter.all false
set_option maxRecDepth 100000
set_option maxHeartbeats 4000000
namespace Z
open PySem L2
theorem Dens.of_get {K : PySem.W.Frag} {H : Hp} : ∀ {ds : List PyData} {vs : List V}, ds.length = vs.length → (∀ (j : Nat) d v, ds[j]? = some d → vs[j]? = some v → Den K H d v) → Dens K H ds vs
  | [], [], _, _ => by unfold Dens; rfl
  | [], _ :: _, h, _ => by simp at h
  | _ :: _, [], h, _ => by simp at h
  | d :: ds, v :: vs, h, g => by
    unfold Dens
    exact ⟨v, vs, rfl, g 0 d v rfl rfl, Dens.of_get (by simpa using h) fun j d' v' h1 h2 => g (j + 1) d' v' h1 h2⟩
theorem Den.pairOf {K : PySem.W.Frag} {H : Hp} {a : Addr} {x y : Str} (h : H a = some (.tup [.str x, .str y])) : Den K H (.tuple [.str x, .str y]) (.ref a) := by
  unfold Den
  refine ⟨a, _, rfl, SqT.of h, ?_⟩
  unfold Dens
  refine ⟨_, _, rfl, by unfold Den; rfl, ?_⟩
  unfold Dens
  refine ⟨_, _, rfl, by unfold Den; rfl, ?_⟩
  unfold Dens
  rfl
/-- a book that is a list of its own -/
noncomputable def BookAt (K : PySem.W.Frag) (H : Hp) (bk : List (Str × Str)) (v : V) : Prop := Ex2 fun (l : Addr) (vs : List V) => v = .ref l ∧ H l = some (.lst vs) ∧ Dens K H (bk.map fun q => .tuple [.str q.1, .str q.2]) vs
/-- the list that list(zip(names, codes)) tells is a book -/
theorem book_zip {K : PySem.W.Frag} {H1 H' : Hp} {b c p : Addr} {t : Int} {as : List Addr} {ns cs : List Str} (bx : Bx H1 b c t) (hp : H1 p = none) (hl : H' p = some (.lst (as.map V.ref))) (hle : ns.length = cs.length)
    (hal : as.length = min (ns.map V.str).length (cs.map V.str).length) (h : ∀ (j : Nat) a x y, as[j]? = some a → (ns.map V.str)[j]? = some x → (cs.map V.str)[j]? = some y → H1 a = none ∧ H' a = some (.tup [x, y])) :
    BookAt K (hid H' b c) (ns.zip cs) (.ref p) := by
  have hal' : as.length = ns.length := by rw [hal, List.length_map, List.length_map, ← hle, Nat.min_self]
  obtain ⟨pb, pc⟩ := bx.ne_new hp
  refine ⟨p, _, rfl, by rw [hid_of pb pc]; exact hl, Dens.of_get ?_ fun j d v hd hv => ?_⟩
  · rw [List.length_map, List.length_map, List.length_zip]; (first | lia | omega)
  · rw [List.getElem?_map] at hd hv
    have hj : j < as.length := by
      cases e : as[j]? with
      | none => rw [e] at hv; cases hv
      | some a => exact (List.getElem?_eq_some_iff.mp e).1
    have e1 : as[j]? = some as[j] := List.getElem?_eq_getElem hj
    have e2 : ns[j]? = some (ns[j]'(by (first | lia | omega))) := List.getElem?_eq_getElem (by (first | lia | omega))
    have e3 : cs[j]? = some (cs[j]'(by (first | lia | omega))) := List.getElem?_eq_getElem (by (first | lia | omega))
    rw [e1] at hv; cases hv
    rw [(List.getElem?_zip_eq_some (z := (ns[j]'(by (first | lia | omega)), cs[j]'(by (first | lia | omega))))).mpr ⟨e2, e3⟩] at hd
    cases hd
    obtain ⟨h1, h2⟩ := h j as[j] _ _ e1 (by rw [List.getElem?_map, e2]; rfl) (by rw [List.getElem?_map, e3]; rfl)
    obtain ⟨ab, ac⟩ := bx.ne_new h1
    exact Den.pairOf (by rw [hid_of ab ac]; exact h2)
/-- a code of 1 to n signs -/
structure CodeOk (n : Nat) (x : Str) : Prop where
  bin : Bin x
  pos : 1 ≤ x.length
  le : x.length ≤ n
theorem CodeOk.mono {n m : Nat} {x : Str} (h : CodeOk n x) (le : n ≤ m) : CodeOk m x := ⟨h.bin, h.pos, Nat.le_trans h.le le⟩
theorem Bin.app {x y : Str} (h : Bin x) (h' : Bin y) : Bin (x ++ y) := fun ch hc => by
  rw [str_append_list] at hc
  rcases List.mem_append.mp hc with q | q
  · exact h ch q
  · exact h' ch q
/-- what a book of any kind is: names of the draw, codes of 1 to n signs -/
structure BookOk (n : Nat) (bk : List (Str × Str)) : Prop where
  ne : bk ≠ []
  le : bk.length ≤ 60
  nm : ∀ q ∈ bk, Low q.1
  cd : ∀ q ∈ bk, CodeOk n q.2
/-- names that were drawn in one go -/
noncomputable def Drawn (bk : List (Str × Str)) : Prop := ∃ g : Int, 0 ≤ g ∧ g < 26 ∧ ∀ (i : Nat) q, bk[i]? = some q → NameAt g i q.1
end Z

set_option Elab.async false
set_option linter.all false
set_option maxRecDepth 100000
set_option maxHeartbeats 4000000
namespace Z
open PySem L2
/-- the signs of a text -/
noncomputable abbrev sg (x : Str) : List Nat := x.cps.toList
/-- neither begins the other -/
noncomputable def RF (a b : Str) : Prop := ¬ (sg a <+: sg b) ∧ ¬ (sg b <+: sg a)
theorem RF.symm {a b : Str} (h : RF a b) : RF b a := ⟨h.2, h.1⟩
theorem sg_app (x y : Str) : sg (x ++ y) = sg x ++ sg y := str_append_list x y
theorem RF.ext {a b u v : Str} (h : RF a b) : RF (a ++ u) (b ++ v) := by
  refine ⟨fun z => ?_, fun z => ?_⟩
  · rw [sg_app, sg_app] at z
    rcases List.prefix_or_prefix_of_prefix ((List.prefix_append _ _).trans z) (List.prefix_append (sg b) (sg v)) with q | q
    · exact h.1 q
    · exact h.2 q
  · rw [sg_app, sg_app] at z
    rcases List.prefix_or_prefix_of_prefix ((List.prefix_append _ _).trans z) (List.prefix_append (sg a) (sg u)) with q | q
    · exact h.2 q
    · exact h.1 q
/-- free of one another -/
noncomputable abbrev Free (cs : List Str) : Prop := cs.Pairwise RF
theorem Free.perm {cs ds : List Str} (h : Free cs) (p : cs.Perm ds) : Free ds := (p.pairwise_iff fun h => RF.symm h).mp h
theorem Free.sub {cs ds : List Str} (h : Free cs) (s : ds.Sublist cs) : Free ds := List.Pairwise.sublist s h
noncomputable abbrev s0 : Str := "0"
noncomputable abbrev s1 : Str := "1"
theorem RF.two (x : Str) : RF (x ++ s0) (x ++ s1) := by
  have e0 : sg (x ++ s0) = sg x ++ [48] := str_append_list x s0
  have e1 : sg (x ++ s1) = sg x ++ [49] := str_append_list x s1
  refine ⟨fun z => ?_, fun z => ?_⟩
  · rw [e0, e1] at z
    have := z.eq_of_length (by simp)
    simp at this
  · rw [e0, e1] at z
    have := z.eq_of_length (by simp)
    simp at this
theorem RF.one {x y u : Str} (h : RF y x) : RF y (x ++ u) := by
  have z := h.ext (u := Str.empty) (v := u)
  have e : y ++ Str.empty = y := by
    show (⟨y.cps ++ #[]⟩ : Str) = y
    simp
  rw [e] at z
  exact z
/-- one code split into two -/
theorem Free.split {A B : List Str} {x : Str} (h : Free (A ++ x :: B)) : Free (A ++ [x ++ s0, x ++ s1] ++ B) := by
  rw [List.append_assoc]
  obtain ⟨hA, hxB, hAB⟩ := List.pairwise_append.mp h
  obtain ⟨hx, hB⟩ := List.pairwise_cons.mp hxB
  refine List.pairwise_append.mpr ⟨hA, ?_, fun a ha y hy => ?_⟩
  · refine List.pairwise_append.mpr ⟨List.pairwise_cons.mpr ⟨fun y hy => by rw [List.mem_singleton.mp hy]; exact RF.two x, List.pairwise_singleton _ _⟩, hB, fun y hy z hz => ?_⟩
    have q := (hx z hz).symm
    simp at hy
    rcases hy with rfl | rfl
    · exact q.one.symm
    · exact q.one.symm
  · rcases List.mem_append.mp hy with hy | hy
    · have q := hAB a ha x List.mem_cons_self
      simp at hy
      rcases hy with rfl | rfl
      · exact q.one
      · exact q.one
    · exact hAB a ha y (List.mem_cons_of_mem _ hy)
theorem split_at {cs : List Str} {k : Nat} {x : Str} (h : cs[k]? = some x) : cs = cs.take k ++ x :: cs.drop (k + 1) := by
  obtain ⟨hk, e⟩ := List.getElem?_eq_some_iff.mp h
  rw [← e, ← List.drop_eq_getElem_cons hk, List.take_append_drop]
theorem pop_perm {cs : List Str} {k : Nat} {x : Str} (h : cs[k]? = some x) : cs.Perm (x :: cs.eraseIdx k) := by
  have e := split_at h
  have e2 : cs.eraseIdx k = cs.take k ++ cs.drop (k + 1) := List.eraseIdx_eq_take_drop_succ _ _
  rw [e2]
  conv => lhs; rw [e]
  exact List.perm_middle
theorem free0 : Free [s0, s1] := by
  refine List.pairwise_cons.mpr ⟨fun y hy => ?_, List.pairwise_singleton _ _⟩
  rw [List.mem_singleton.mp hy]
  have := RF.two Str.empty
  exact this
end Z

set_option Elab.async false
set_option linter.all false
set_option maxRecDepth 100000
set_option maxHeartbeats 4000000
namespace Z
open PySem L2
theorem str_eq {x y : Str} (h : sg x = sg y) : x = y := by
  cases x; cases y
  simp only [sg] at h
  rw [Array.toList_inj.mp h]
theorem sl_to {x : Str} {j : Int} (h0 : 0 ≤ j) (h1 : j ≤ x.length) : sg (Txt.slice x none (some j)) = (sg x).take j.toNat := by
  have e := PyProof.Rows.slice_closes_to (x := x) (j := j) ⟨h0, by rw [← str_len]; exact h1⟩
  rw [eq_of_beq e]
  simp
theorem same_chg {H H' H2 : Hp} {l : Addr} {o : HO} (s : Same H H') (h : H l = none) (c : Chg H' l o H2) : Same H H2 := fun a u e => by
  rw [c.ne (ne_of_none e h)]
  exact s a u e
end Z

set_option Elab.async false
set_option linter.all false
set_option maxRecDepth 100000
set_option maxHeartbeats 4000000
namespace Z
open PySem L2
noncomputable def spFC : Sp := fun vs H Q _ => ∃ (b c : Addr) (t many most : Int), vs = [.ref b, .int many, .int most] ∧ Bx H b c t ∧ 0 ≤ t ∧ t < 900000 ∧ 1 ≤ many ∧ many ≤ 50 ∧ 1 ≤ most ∧ most ≤ 24 ∧
  ∀ (cs : List Str) (l : Addr) (H' : Hp) (t' : Int), cs ≠ [] → (cs.length : Int) ≤ many → Free cs → (∀ x ∈ cs, CodeOk most.toNat x) → Step b c H H' t t' 2000 → H l = none → H' l = some (.lst (cs.map V.str)) → Q (.ref l) H'
theorem code0 {n : Nat} (h : 1 ≤ n) : CodeOk n s0 := ⟨fun ch hc => .inl (by have : ch ∈ [48] := hc; simpa using this), by decide +kernel, h⟩
theorem code1 {n : Nat} (h : 1 ≤ n) : CodeOk n s1 := ⟨fun ch hc => .inr (by have : ch ∈ [49] := hc; simpa using this), by decide +kernel, h⟩
theorem CodeOk.app0 {n : Nat} {x : Str} (h : CodeOk n x) (hl : x.length < n) : CodeOk n (x ++ s0) := by
  have e : s0.length = 1 := by decide +kernel
  exact ⟨h.bin.app (code0 (n := 1) (by decide)).bin, by rw [len_append]; (first | lia | omega), by rw [len_append]; (first | lia | omega)⟩
theorem CodeOk.app1 {n : Nat} {x : Str} (h : CodeOk n x) (hl : x.length < n) : CodeOk n (x ++ s1) := by
  have e : s1.length = 1 := by decide +kernel
  exact ⟨h.bin.app (code1 (n := 1) (by decide)).bin, by rw [len_append]; (first | lia | omega), by rw [len_append]; (first | lia | omega)⟩
theorem erase_map (xs : List Str) (k : Nat) : (xs.map V.str).eraseIdx k = (xs.eraseIdx k).map V.str := by
  rw [List.eraseIdx_eq_take_drop_succ, List.eraseIdx_eq_take_drop_succ, List.map_append, List.map_take, List.map_drop]
theorem Free.longer {fs gs : List Str} (h : Free fs) (hl : gs.length = fs.length) (he : ∀ (j : Nat) y, gs[j]? = some y → ∃ x u, fs[j]? = some x ∧ y = x ++ u) : Free gs := by
  have h := List.pairwise_iff_getElem.mp h
  refine List.pairwise_iff_getElem.mpr fun i j hi hj hij => ?_
  obtain ⟨x, u, hx, ex⟩ := he i gs[i] (List.getElem?_eq_getElem hi)
  obtain ⟨y, v, hy, ey⟩ := he j gs[j] (List.getElem?_eq_getElem hj)
  obtain ⟨hi', rfl⟩ := List.getElem?_eq_some_iff.mp hx
  obtain ⟨hj', rfl⟩ := List.getElem?_eq_some_iff.mp hy
  rw [ex, ey]
  exact (h i j hi' hj' hij).ext
section
variable {P : Program} {w : World} {K : PySem.W.Frag} {mg : Str → Option Value} {base : Heap} {f : Addr} {fd : FuncData}
theorem sc_law_free_codes : FnScope ["_law_box", "_law_many", "_law_most", "_law_codes", "_law_turn", "_law_at", "_law_found"] ["_law_box", "_law_many", "_law_most"] (defScope (top i_law_free_codes)) := ⟨rfl, rfl, rfl, by decide +kernel, rfl, by decide +kernel, by decide +kernel⟩
theorem ok_fcodes (F : Fun K "_law_free_codes" "_law_free_codes" (top i_law_free_codes) f fd) (T : Nm mg) (f_law_take : Fn P w K mg base 1 "_law_take" ["_law_box", "_law_many"] spTk) (f_law_signs : Fn P w K mg base 2 "_law_signs" ["_law_box", "_law_many"] spSg) : FnOk P w K mg base CX0 3 f fd ["_law_box", "_law_many", "_law_most"] spFC := by
  refine F.ok sc_law_free_codes (fun vs H Q E h => ?_) (fun cdv A outer s H vs Q E hr h => ?_)
  · obtain ⟨b, c, t, many, most, rfl, _⟩ := h
    rfl
  obtain ⟨b, c, t, many, most, rfl, bx, t0, t1, m0, m1, o0, o1, q⟩ := h
  have hu6 := hr.units
  refine ⟨_, (pss_cons (ps_set (i := 3) sc_law_free_codes.nd rfl (Or.inr rfl) (lstN (pa_cons pe_str (pa_cons pe_str pa_nil))))
    (pss_cons (ps_for PassesOwn.never rfl (pi_range1 rfl T.n_range (pa_cons (pe_op addN (pe_op mulN pe_int (pv 1)) pe_int) pa_nil)) (pg_name (i := 4) sc_law_free_codes.nd rfl (Or.inl rfl)) (pss_cons (ps_set (i := 5) sc_law_free_codes.nd rfl (Or.inl rfl) (pe_fn (f_law_take.mono (by first | decide | exact Nat.le_refl _ | (first | lia | omega))) hr rfl (pa_cons (pv 0) (pa_cons (pe_callB (lenK K) rfl T.n_len (by rfl) (pa_cons (pv 3) pa_nil)) pa_nil))))
    (pss_one (ps_if (PW.pt (pw_and (pt_cmpR op_lt (pe_callB (lenK K) rfl T.n_len (by rfl) (pa_cons (pv 3) pa_nil)) (pe_op addN (pv 1) pe_int) (nomark _)) (pw_and1 (pt_cmpR op_lt (pe_callB (lenK K) rfl T.n_len (by rfl) (pa_cons (pe_ix (ixK K) (pv 3) (pv 5) (fun _ _ => rfl)) pa_nil)) (pv 2) (nomark _))))) (pss_one (ps_set (i := 3) sc_law_free_codes.nd rfl (Or.inr rfl) (pe_op addN (pe_op addN (pe_slice (slN K) (pv 3) po_none (po_some (pv 5))) (lstN (pa_cons (pe_op addN (pe_ix (ixK K) (pv 3) (pv 5) (fun _ _ => rfl)) pe_str) (pa_cons (pe_op addN (pe_ix (ixK K) (pv 3) (pv 5) (fun _ _ => rfl)) pe_str) pa_nil)))) (pe_slice (slN K) (pv 3) (po_some (pe_op addN (pv 5) pe_int)) po_none)))) pss_nil))))
    (pss_cons (ps_while PassesOwn.never (PW.pt (pw_and (pt_cmpR op_gt (pe_callB (lenK K) rfl T.n_len (by rfl) (pa_cons (pv 3) pa_nil)) (pv 1) (nomark _)) (pw_and1 (pt_cmpR op_gt (pe_fn (f_law_take.mono (by first | decide | exact Nat.le_refl _ | (first | lia | omega))) hr rfl (pa_cons (pv 0) (pa_cons pe_int pa_nil))) pe_int (nomark _))))) (pss_one (ps_expr (bmK K PySem.F.plainAttrs_list PySem.F.slot_list_pop PySem.F.type_list_pop popAtN (pv 3) (pa_cons (pe_fn (f_law_take.mono (by first | decide | exact Nat.le_refl _ | (first | lia | omega))) hr rfl (pa_cons (pv 0) (pa_cons (pe_callB (lenK K) rfl T.n_len (by rfl) (pa_cons (pv 3) pa_nil)) pa_nil))) pa_nil)))))
    (pss_cons (ps_setcomp (i := 6) sc_law_free_codes.nd rfl (Or.inl rfl) rfl (comp_ok (Nc := ["_law_turn"]) (Fc := ["_law_codes", "_law_box"]) (js := [3, 0])) (pi_range1 rfl T.n_range (pa_cons (pe_callB (call_min2 rfl) rfl T.n_min (by rfl) (pa_cons (pv 1) (pa_cons (pe_callB (lenK K) rfl T.n_len (by rfl) (pa_cons (pv 3) pa_nil)) pa_nil))) pa_nil)) (gk_name (i := 0) (n := 1) (by decide)) (fun _ _ _ _ _ => (pg_name (i := 0) (show (["_law_turn", "_law_codes", "_law_box"] : List Str).Nodup by decide +kernel) rfl (Or.inl rfl))) (fun _ _ _ _ _ => pts_nil) (fun _ _ _ _ _ => (bmK K PySem.F.plainAttrs_list PySem.F.slot_list_pop PySem.F.type_list_pop popAtN (pv 1) (pa_cons (pe_fn (f_law_take.mono (by first | decide | exact Nat.le_refl _ | (first | lia | omega))) hr rfl (pa_cons (pv 2) (pa_cons (pe_callB (lenK K) rfl T.n_len (by rfl) (pa_cons (pv 1) pa_nil)) pa_nil))) pa_nil))))
    (pss_cons (ps_if (pt_cmpR (eqK K hu6) (pe_fn (f_law_take.mono (by first | decide | exact Nat.le_refl _ | (first | lia | omega))) hr rfl (pa_cons (pv 0) (pa_cons pe_int pa_nil))) pe_int (nomark _)) (pss_one (ps_setcomp (i := 6) sc_law_free_codes.nd rfl (Or.inl rfl) rfl (comp_ok (Nc := ["_law_code"]) (Fc := ["_law_box", "_law_most"]) (js := [0, 2])) (piK K (pv 6)) (gk_name (i := 0) (n := 1) (by decide)) (fun _ _ _ _ _ => (pg_name (i := 0) (show (["_law_code", "_law_box", "_law_most"] : List Str).Nodup by decide +kernel) rfl (Or.inl rfl))) (fun _ _ _ _ _ => pts_nil) (fun _ _ _ _ _ => (pe_op addN (pv 0) (pe_fn (f_law_signs.mono (by first | decide | exact Nat.le_refl _ | (first | lia | omega))) hr rfl (pa_cons (pv 1) (pa_cons (pe_callB (call_min2 rfl) rfl T.n_min (by rfl) (pa_cons (pe_op op_sub (pv 2) (pe_callB (lenK K) rfl T.n_len (by rfl) (pa_cons (pv 0) pa_nil))) (pa_cons (pe_fn (f_law_take.mono (by first | decide | exact Nat.le_refl _ | (first | lia | omega))) hr rfl (pa_cons (pv 1) (pa_cons pe_int pa_nil))) pa_nil))) pa_nil))))))) pss_nil)
    (pss_one (ps_ret (pv 6)))))))), ?_⟩
  refine ⟨by show 2 ≤ sizeLine; decide, fun l1 H1 n1 => ?_⟩
  have z1 : sizeLine ≥ 10000000 := by decide
  refine ⟨_, rfl, .inl ⟨_, _, rfl, rfl, .inl ⟨by decide, by decide⟩, .inl ⟨_, _, rfl, rfl, _, rfl, by (first | lia | omega), by (first | lia | omega), ?_⟩⟩⟩
  refine for_range (lo := 0) (n := (2 * many + 4).toNat) (fun i σ H' => ∃ cs l t' x4 x5, σ = [some (.ref b), some (.int many), some (.int most), some (.ref l), x4, x5, none] ∧ 2 ≤ cs.length ∧ (cs.length : Int) ≤ many + 2 ∧ Free cs ∧ (∀ x ∈ cs, CodeOk most.toNat x) ∧
    Step b c H H' t t' i ∧ H l = none ∧ l ≠ b ∧ l ≠ c ∧ H' l = some (.lst (cs.map V.str))) ⟨[s0, s1], l1, t, _, _, rfl, by decide, by show (2 : Int) ≤ many + 2; (first | lia | omega), free0, ?_, by simpa using (Step.refl bx).newN n1, n1.nn, (bx.ne_new n1.nn).1, (bx.ne_new n1.nn).2, n1.at⟩ ?_ ?_
  · intro x hx
    simp at hx
    rcases hx with rfl | rfl
    · exact code0 (by (first | lia | omega))
    · exact code1 (by (first | lia | omega))
  · rintro i σ H2 hi ⟨cs, l, t2, x4, x5, rfl, hc2, hcm, fr, ok, st2, hl, lb, lc, hl2⟩
    have hub := st2.ub
    have hlo := st2.le
    have hlen : (cs.map V.str).length = cs.length := List.length_map _
    refine ⟨_, rfl, _, rfl, _, _, rfl, .inl ⟨_, SqL.of hl2, rfl⟩, b, c, t2, _, rfl, st2.bx, by (first | lia | omega), by (first | lia | omega), by (first | lia | omega), by (first | lia | omega), fun a H3 a0 a1 st3 => ?_⟩
    have hl3 := st3.old hl2 lb lc
    have st3 := st2.trans st3
    refine ⟨_, rfl, _, _, rfl, .inl ⟨_, SqL.of hl3, rfl⟩, _, rfl, .inl ⟨_, _, rfl, rfl, _, _, rfl, rfl, _, rfl, ?_⟩⟩
    have ub3 := st3.ub
    refine ite2 (fun c1 => ?_) (fun c1 => iteF ⟨cs, l, t2 + 1, _, _, rfl, hc2, hcm, fr, ok, st3.more (by (first | lia | omega)), hl, lb, lc, hl3⟩)
    have c1' : (cs.length : Int) < many + 2 := by have := of_decide_eq_true c1; (first | lia | omega)
    obtain ⟨x, hx⟩ : ∃ x, cs[a.toNat]? = some x := ⟨_, List.getElem?_eq_getElem (by (first | lia | omega))⟩
    have okx := ok x (List.mem_of_getElem? hx)
    have xle := okx.le
    have hat : atI (cs.map V.str) a = some (.str x) := at_nat a0 (by rw [List.getElem?_map, hx]; rfl)
    refine ⟨_, rfl, _, rfl, .inl ⟨l, _, a, _, rfl, rfl, SqL.of hl3, hat, _, _, rfl, ⟨sizeOk (by (first | lia | omega)), rfl⟩, _, rfl, _, _, rfl, rfl, _, rfl, ?_⟩⟩
    refine ite2 (fun c2 => ?_) (fun c2 => ⟨cs, l, t2 + 1, _, _, rfl, hc2, hcm, fr, ok, st3.more (by (first | lia | omega)), hl, lb, lc, hl3⟩)
    have c2' : x.length < most.toNat := by have := of_decide_eq_true c2; (first | lia | omega)
    have ea : ((a.toNat : Nat) : Int) = a := by (first | lia | omega)
    have ea1 : ((a.toNat + 1 : Nat) : Int) = a + 1 := by (first | lia | omega)
    have cut1 : cutV (cs.map V.str) none (some a) = (cs.take a.toNat).map V.str := by rw [← ea, cut_to, ea, List.map_take]
    have cut2 : cutV (cs.map V.str) (some (a + 1)) none = (cs.drop (a.toNat + 1)).map V.str := by rw [← ea1, cut_from, List.map_drop]
    have e0 : s0.length = 1 := by decide +kernel
    have e1 : s1.length = 1 := by decide +kernel
    refine ⟨_, rfl, _, rfl, a, rfl, .inl ⟨l, _, rfl, SqL.of hl3, fun p1 H4 n4 => ?_⟩⟩
    rw [cut1] at n4
    refine ⟨_, rfl, _, rfl, .inl ⟨l, _, a, _, rfl, rfl, SqL.of (n4.same _ _ hl3), hat, .inr (.inl ⟨_, _, rfl, rfl, sizeOk (by rw [e0]; (first | lia | omega)), ?_⟩)⟩⟩
    refine ⟨_, rfl, _, rfl, .inl ⟨l, _, a, _, rfl, rfl, SqL.of (n4.same _ _ hl3), hat, .inr (.inl ⟨_, _, rfl, rfl, sizeOk (by rw [e1]; (first | lia | omega)), ?_⟩)⟩⟩
    refine ⟨by show 2 ≤ sizeLine; decide, fun p2 H5 n5 => ?_⟩
    have lt : (cs.take a.toNat).length = a.toNat := by rw [List.length_take]; (first | lia | omega)
    have ld : (cs.drop (a.toNat + 1)).length = cs.length - (a.toNat + 1) := List.length_drop
    refine .inr (.inr ⟨p1, p2, _, _, rfl, rfl, n5.same _ _ n4.at, n5.at, by rw [List.length_map, lt]; exact sizeOk (by show a.toNat + 2 ≤ _; (first | lia | omega)), fun p3 H6 n6 => ?_⟩)
    have hl6 := n6.same _ _ (n5.same _ _ (n4.same _ _ hl3))
    refine ⟨_, rfl, _, rfl, .inl ⟨_, _, rfl, rfl, _, rfl, .inl ⟨l, _, rfl, SqL.of hl6, fun p4 H7 n7 => ?_⟩⟩⟩
    rw [cut2] at n7
    refine .inr (.inr ⟨p3, p4, _, _, rfl, rfl, n7.same _ _ n6.at, n7.at, ?_, fun p5 H8 n8 => ?_⟩)
    · rw [List.length_append, List.length_map, List.length_map, lt, ld]; exact sizeOk (by show a.toNat + 2 + _ ≤ _; (first | lia | omega))
    have st8 := ((((st3.newN n4).newN n5).newN n6).newN n7)
    have h5 := st8.bx.ne_new n8.nn
    refine ⟨cs.take a.toNat ++ [x ++ s0, x ++ s1] ++ cs.drop (a.toNat + 1), p5, t2 + 1, _, _, rfl, ?_, ?_, ?_, ?_, (st8.newN n8).more (by (first | lia | omega)), st8.fresh bx n8.nn, h5.1, h5.2, ?_⟩
    · rw [List.length_append, List.length_append, lt, ld]; simp only [List.length_cons, List.length_nil]; (first | lia | omega)
    · rw [List.length_append, List.length_append, lt, ld]; simp only [List.length_cons, List.length_nil]; (first | lia | omega)
    · refine Free.split ?_
      rw [← split_at hx]; exact fr
    · intro y hy
      rcases List.mem_append.mp hy with hy | hy
      · rcases List.mem_append.mp hy with hy | hy
        · exact ok y (List.mem_of_mem_take hy)
        · simp at hy
          rcases hy with rfl | rfl
          · exact okx.app0 c2'
          · exact okx.app1 c2'
      · exact ok y (List.mem_of_mem_drop hy)
    · rw [n8.at, List.map_append, List.map_append]; rfl
  · rintro σ H2 ⟨cs, l, t2, x4, x5, rfl, hc2, hcm, fr, ok, st2, hl, lb, lc, hl2⟩
    have st2 : Step b c H H2 t t2 (2 * many + 4) := st2.more (by (first | lia | omega))
    refine seqCut (t := tWhile _ _) (fun σ H' => ∃ cs t', σ = [some (.ref b), some (.int many), some (.int most), some (.ref l), x4, x5, none] ∧ 1 ≤ cs.length ∧ (cs.length : Int) ≤ many + 2 ∧ Free cs ∧ (∀ x ∈ cs, CodeOk most.toNat x) ∧
      Step b c H H' t t' (6 * many + 20) ∧ H' l = some (.lst (cs.map V.str))) (fun Nx nx => ?_) ?_
    · refine whileGo (fun m σ H' => ∃ cs t', m = cs.length ∧ σ = [some (.ref b), some (.int many), some (.int most), some (.ref l), x4, x5, none] ∧ 1 ≤ cs.length ∧ (cs.length : Int) ≤ many + 2 ∧ Free cs ∧ (∀ x ∈ cs, CodeOk most.toNat x) ∧
        Step b c H H' t t' (2 * many + 4 + 2 * (many + 2 - cs.length)) ∧ H' l = some (.lst (cs.map V.str))) ⟨_, cs, t2, rfl, rfl, by (first | lia | omega), hcm, fr, ok, st2.more (by (first | lia | omega)), hl2⟩ ?_
      clear fr ok st2 hl2 hcm hc2
      rintro m σ H3 ⟨cs, t3, rfl, rfl, hc1, hcm, fr, ok, st3, hl3⟩
      have hlen : (cs.map V.str).length = cs.length := List.length_map _
      have ub3 := st3.ub
      have lo3 := st3.le
      refine ⟨_, rfl, _, _, rfl, .inl ⟨_, SqL.of hl3, rfl⟩, _, rfl, _, _, rfl, rfl, _, rfl, ?_⟩
      refine ite2 (fun c1 => ?_) (fun c1 => iteF (nx _ _ ⟨cs, t3, rfl, hc1, hcm, fr, ok, st3.more (by (first | lia | omega)), hl3⟩))
      have c1' : many < (cs.length : Int) := by have := of_decide_eq_true c1; (first | lia | omega)
      refine ⟨_, rfl, b, c, t3, 6, rfl, st3.bx, by (first | lia | omega), by (first | lia | omega), by decide, by decide, fun k H4 k0 k1 st4 => ?_⟩
      have hl4 := st4.old hl3 lb lc
      have st4 := st3.trans st4
      refine ⟨_, _, rfl, rfl, _, rfl, ?_⟩
      refine ite2 (fun c2 => ?_) (fun c2 => nx _ _ ⟨cs, t3 + 1, rfl, hc1, hcm, fr, ok, st4.more (by (first | lia | omega)), hl4⟩)
      refine ⟨fun σ' H' => ∃ m', m' < cs.length ∧ _, fun _ _ h => h, ?_⟩
      refine ⟨_, rfl, .inl ⟨rfl, _, SqL.of hl4⟩, _, rfl, _, rfl, _, _, rfl, .inl ⟨_, SqL.of hl4, rfl⟩, b, c, t3 + 1, _, rfl, st4.bx, by (first | lia | omega), by (first | lia | omega), by (first | lia | omega), by (first | lia | omega), fun a H5 a0 a1 st5 => ?_⟩
      have hl5 := st5.old hl4 lb lc
      have st5 := st4.trans st5
      obtain ⟨x, hx⟩ : ∃ x, cs[a.toNat]? = some x := ⟨_, List.getElem?_eq_getElem (by (first | lia | omega))⟩
      refine ⟨l, _, a, _, rfl, rfl, hl5, a0, by (first | lia | omega), by rw [List.getElem?_map, hx]; rfl, fun H6 c6 => ?_⟩
      have le : (cs.eraseIdx a.toNat).length = cs.length - 1 := List.length_eraseIdx_of_lt (by (first | lia | omega))
      refine ⟨(cs.eraseIdx a.toNat).length, by (first | lia | omega), cs.eraseIdx a.toNat, t3 + 1 + 1, rfl, rfl, by (first | lia | omega), by (first | lia | omega), fr.sub (List.eraseIdx_sublist _ _), fun y hy => ok y ((List.eraseIdx_sublist _ _).subset hy), (st5.chgN c6 hl lb lc).more (by (first | lia | omega)), ?_⟩
      rw [c6.at]
      congr 2
      exact erase_map _ _
    · clear fr ok st2 hl2 hcm hc2
      rintro σ H3 ⟨cs, t3, rfl, hc1, hcm, fr, ok, st3, hl3⟩
      have hlen : (cs.map V.str).length = cs.length := List.length_map _
      have ub3 := st3.ub
      have lo3 := st3.le
      have mn : (if ((cs.map V.str).length : Int) < many then ((cs.map V.str).length : Int) else many) = min many cs.length := by rw [hlen]; split <;> (first | lia | omega)
      refine asgCut (te := tComp _ _ _ _ _ _) (fun v H' => ∃ (fs ds : List Str) (p : Addr) (t' : Int), v = .ref p ∧ fs.length = (min many (cs.length : Int)).toNat ∧ (fs ++ ds).Perm cs ∧ Step b c H H' t t' (6 * many + 20 + 50) ∧ H p = none ∧ p ≠ b ∧ p ≠ c ∧ H' p = some (.lst (fs.map V.str))) (fun Qn qn => ?_) ?_
      · refine ⟨_, rfl, _, rfl, _, _, rfl, .inl ⟨_, SqL.of hl3, rfl⟩, _, _, rfl, _, rfl, by rw [mn]; (first | lia | omega), by rw [mn]; (first | lia | omega), ?_⟩
        rw [mn]
        refine comp_goN (N := (min many (cs.length : Int)).toNat) (fun i ys H' => ∃ fs ds t', ys = fs.map V.str ∧ fs.length = i ∧ ds.length + i = cs.length ∧ (fs ++ ds).Perm cs ∧ Step b c H H' t t' (6 * many + 20 + i) ∧ H' l = some (.lst (ds.map V.str)))
          ⟨[], cs, t3, rfl, rfl, rfl, List.Perm.refl _, by simpa using st3, hl3⟩ ?_ ?_
        · rintro i ys H4 Nx hi ⟨fs, ds, t4, rfl, hfl, hdl, pm, st4, hl4⟩ nx
          have ub4 := st4.ub
          have lo4 := st4.le
          have dlen : (ds.map V.str).length = ds.length := List.length_map _
          refine ⟨hi, by rw [List.length_map, hfl]; (first | lia | omega), ?_⟩
          rintro x H5 ⟨rfl, rfl⟩
          refine ⟨_, rfl, .inl ⟨rfl, _, SqL.of hl4⟩, _, rfl, _, rfl, _, _, rfl, .inl ⟨_, SqL.of hl4, rfl⟩, b, c, t4, _, rfl, st4.bx, by (first | lia | omega), by (first | lia | omega), by (first | lia | omega), by (first | lia | omega), fun a H6 a0 a1 st6 => ?_⟩
          have hl6 := st6.old hl4 lb lc
          have st6 := st4.trans st6
          obtain ⟨x, hx⟩ : ∃ x, ds[a.toNat]? = some x := ⟨_, List.getElem?_eq_getElem (by (first | lia | omega))⟩
          refine ⟨l, _, a, _, rfl, rfl, hl6, a0, by (first | lia | omega), by rw [List.getElem?_map, hx]; rfl, fun H7 c7 => nx _ _ ⟨fs ++ [x], ds.eraseIdx a.toNat, t4 + 1, by rw [List.map_append]; rfl, by rw [List.length_append, hfl]; rfl, ?_, ?_, (st6.chgN c7 hl lb lc).more (by (first | lia | omega)), by rw [c7.at, erase_map]⟩⟩
          · rw [List.length_eraseIdx_of_lt (by (first | lia | omega))]; (first | lia | omega)
          · refine List.Perm.trans ?_ pm
            rw [List.append_assoc]
            exact List.Perm.append_left fs (pop_perm hx).symm
        · rintro ys H4 ⟨fs, ds, t4, rfl, hfl, hdl, pm, st4, hl4⟩
          exact ⟨Nat.le_refl _, fun p H5 n5 => qn _ _ ⟨fs, ds, p, t4, rfl, hfl, pm, (st4.newN n5).more (by (first | lia | omega)), st4.fresh bx n5.nn, (st4.bx.ne_new n5.nn).1, (st4.bx.ne_new n5.nn).2, n5.at⟩⟩
      · rintro v H5 ⟨fs, ds, p, t4, rfl, hfl, pm, st5, hp, pb, pc, hp5⟩
        have ub4 := st5.ub
        have lo4 := st5.le
        have frf : Free fs := (fr.perm pm.symm).sub (List.sublist_append_left _ _)
        have okf : ∀ x ∈ fs, CodeOk most.toNat x := fun x hx => ok x (pm.subset (List.mem_append_left _ hx))
        refine seqCut (t := tIfS _ _ _) (fun σ H' => ∃ gs p' t', σ = [some (.ref b), some (.int many), some (.int most), some (.ref l), x4, x5, some (.ref p')] ∧ gs.length = fs.length ∧ Free gs ∧ (∀ x ∈ gs, CodeOk most.toNat x) ∧
          Step b c H H' t t' 2000 ∧ H p' = none ∧ H' p' = some (.lst (gs.map V.str))) (fun Nx nx => ?_) ?_
        · refine ⟨_, rfl, b, c, t4, 2, rfl, st5.bx, by (first | lia | omega), by (first | lia | omega), by decide, by decide, fun k H6 k0 k1 st6 => .inl ⟨rfl, _, rfl, ?_⟩⟩
          have hp6 := st6.old hp5 pb pc
          have st6 := st5.trans st6
          refine ite2 (fun _ => ?_) (fun _ => nx _ _ ⟨fs, p, t4 + 1, rfl, rfl, frf, okf, st6.more (by (first | lia | omega)), hp, hp6⟩)
          refine asgEnd (te := tComp _ _ _ _ _ _) (fun v H' => ∃ (gs : List Str) (p2 : Addr) (t' : Int), v = .ref p2 ∧ gs.length = fs.length ∧ Free gs ∧ (∀ x ∈ gs, CodeOk most.toNat x) ∧ Step b c H H' t t' 2000 ∧ H p2 = none ∧ H' p2 = some (.lst (gs.map V.str))) (fun Qn qn => ?_) (by rintro v H7 ⟨gs, p2, t', rfl, h⟩; exact nx _ _ ⟨gs, p2, t', rfl, h⟩)
          refine ⟨_, rfl, p, rfl, ⟨_, SqL.of hp6⟩, ?_⟩
          refine comp_goN (N := fs.length) (fun i ys H' => ∃ gs t', ys = gs.map V.str ∧ gs.length = i ∧ (∀ (j : Nat) y, gs[j]? = some y → CodeOk most.toNat y ∧ ∃ x u, fs[j]? = some x ∧ y = x ++ u) ∧ Step b c H H' t t' (6 * many + 20 + 50 + 1 + 4 * i) ∧ H' p = some (.lst (fs.map V.str)))
            ⟨[], t4 + 1, rfl, rfl, by simp, st6.more (by (first | lia | omega)), hp6⟩ ?_ ?_
          · rintro i ys H7 Nx2 hi ⟨gs, t7, rfl, hgl, hg, st7, hp7⟩ nx2
            have ub7 := st7.ub
            have lo7 := st7.le
            obtain ⟨x, hx⟩ : ∃ x, fs[i]? = some x := ⟨_, List.getElem?_eq_getElem hi⟩
            have okx := okf x (List.mem_of_getElem? hx)
            have xle := okx.le
            have xpos := okx.pos
            refine ⟨⟨_, _, SqL.of hp7, by rw [List.getElem?_map, hx]; rfl⟩, by rw [List.length_map, hgl]; (first | lia | omega), ?_⟩
            rintro x' H8 ⟨rfl, hy⟩
            have e := hy _ (SqL.of hp7)
            rw [List.getElem?_map, hx] at e
            cases e
            refine ⟨_, rfl, _, rfl, _, rfl, _, rfl, _, _, rfl, ⟨sizeOk (by (first | lia | omega)), rfl⟩, _, _, rfl, rfl, _, rfl, b, c, t7, 3, rfl, st7.bx, by (first | lia | omega), by (first | lia | omega), by decide, by decide, fun d H9 d0 d1 st9 => ?_⟩
            refine ⟨_, _, rfl, b, c, t7 + 1, _, rfl, st9.bx, by (first | lia | omega), by (first | lia | omega), by split <;> (first | lia | omega), by split <;> (first | lia | omega), fun u H10 t10 hul hub st10 => ?_⟩
            have st910 := st9.trans st10
            have hmx : (u.length : Int) ≤ 2 ∧ (u.length : Int) ≤ most - x.length := by
              constructor
              · rw [hul]; split <;> (first | lia | omega)
              · rw [hul]; split <;> (first | lia | omega)
            have st11 := st7.trans st910
            refine .inr (.inl ⟨_, _, rfl, rfl, sizeOk (by (first | lia | omega)), nx2 _ _ ⟨gs ++ [x ++ u], t10, by rw [List.map_append]; rfl, by rw [List.length_append, hgl]; rfl, fun j y hy2 => ?_, st11.more ?_, st910.old hp7 pb pc⟩⟩)
            · by_cases hj : j < gs.length
              · rw [List.getElem?_append_left hj] at hy2
                exact hg j y hy2
              · rw [List.getElem?_append_right (by (first | lia | omega))] at hy2
                have e : j - gs.length = 0 := by
                  have := (List.getElem?_eq_some_iff.mp hy2).1
                  simp at this
                  (first | lia | omega)
                rw [e] at hy2
                cases hy2
                have ej : j = i := by (first | lia | omega)
                subst ej
                exact ⟨⟨okx.bin.app hub, by rw [len_append]; (first | lia | omega), by rw [len_append]; (first | lia | omega)⟩, x, u, hx, rfl⟩
            · rw [← hul]; (first | lia | omega)
          · rintro ys H7 ⟨gs, t7, rfl, hgl, hg, st7, hp7⟩
            refine ⟨⟨_, SqL.of hp7, by rw [List.length_map]; exact Nat.le_refl _⟩, fun p2 H8 n8 => qn _ _ ⟨gs, p2, t7, rfl, hgl, frf.longer hgl fun j y hy => (hg j y hy).2, fun y hy => ?_, (st7.newN n8).more (by (first | lia | omega)), st7.fresh bx n8.nn, n8.at⟩⟩
            obtain ⟨j, hj⟩ := List.mem_iff_getElem?.mp hy
            exact (hg j y hj).1
        · rintro σ H6 ⟨gs, p2, t6, rfl, hgl, frg, okg, st6, hp2, hp6⟩
          refine ⟨_, rfl, q gs p2 H6 t6 ?_ (by (first | lia | omega)) frg okg st6 hp2 hp6⟩
          intro z
          rw [z, List.length_nil] at hgl
          (first | lia | omega)
end
end Z

set_option Elab.async false
set_option linter.all false
set_option maxRecDepth 100000
set_option maxHeartbeats 4000000
namespace Z
open PySem L2
noncomputable def spFB (K : PySem.W.Frag) : Sp := fun vs H Q _ => ∃ (b c : Addr) (t : Int), vs = [.ref b] ∧ Bx H b c t ∧ 0 ≤ t ∧ t < 800000 ∧
  ∀ (bk : List (Str × Str)) (v : V) (H' : Hp) (t' : Int), BookOk 10 bk → bk.length ≤ 16 → Drawn bk → Free (bk.map (·.2)) → BookAt K (hid H' b c) bk v → Step b c H H' t t' 4000 → Q v H'
theorem zip_snd {ns cs : List Str} (h : ns.length = cs.length) : (ns.zip cs).map (·.2) = cs := List.map_snd_zip (by (first | lia | omega))
/-- the facts of a book of drawn names and codes -/
theorem bookOk_zip {n : Nat} {xs cs : List Str} {g : Int} (hl : xs.length = cs.length) (h0 : cs ≠ []) (h60 : cs.length ≤ 60) (hx : ∀ (i : Nat) x, xs[i]? = some x → NameAt g i x) (hc : ∀ x ∈ cs, CodeOk n x) (g0 : 0 ≤ g) (g1 : g < 26) : BookOk n (xs.zip cs) ∧ Drawn (xs.zip cs) := by
  have gz : ∀ (i : Nat) z, (xs.zip cs)[i]? = some z → xs[i]? = some z.1 ∧ cs[i]? = some z.2 := fun i z h => List.getElem?_zip_eq_some.mp h
  have lz : (xs.zip cs).length = cs.length := by rw [List.length_zip]; (first | lia | omega)
  refine ⟨⟨fun z => h0 ?_, by (first | lia | omega), fun z hz => ?_, fun z hz => ?_⟩, g, g0, g1, fun i z h => hx i z.1 (gz i z h).1⟩
  · rw [z, List.length_nil] at lz
    exact List.length_eq_zero_iff.mp lz.symm
  · obtain ⟨j, hj⟩ := List.mem_iff_getElem?.mp hz
    exact (hx j z.1 (gz j z hj).1).low
  · obtain ⟨j, hj⟩ := List.mem_iff_getElem?.mp hz
    exact hc z.2 (List.mem_of_getElem? (gz j z hj).2)
section
variable {P : Program} {w : World} {K : PySem.W.Frag} {mg : Str → Option Value} {base : Heap} {f : Addr} {fd : FuncData}
theorem sc_law_free_book : FnScope ["_law_box", "_law_great", "_law_codes"] ["_law_box"] (defScope (top i_law_free_book)) := ⟨rfl, rfl, rfl, by decide +kernel, rfl, by decide +kernel, by decide +kernel⟩
theorem ok_fbook (F : Fun K "_law_free_book" "_law_free_book" (top i_law_free_book) f fd) (T : Nm mg) (f_law_take : Fn P w K mg base 1 "_law_take" ["_law_box", "_law_many"] spTk) (f_law_names : Fn P w K mg base 2 "_law_names" ["_law_box", "_law_many"] spNames) (f_law_free_codes : Fn P w K mg base 3 "_law_free_codes" ["_law_box", "_law_many", "_law_most"] spFC) : FnOk P w K mg base CX0 4 f fd ["_law_box"] (spFB K) := by
  refine F.ok sc_law_free_book (fun vs H Q E h => ?_) (fun cdv A outer s H vs Q E hr h => ?_)
  · obtain ⟨b, c, t, rfl, _⟩ := h
    rfl
  obtain ⟨b, c, t, rfl, bx, t0, t1, q⟩ := h
  have hu6 := hr.units
  refine ⟨_, (pss_cons (ps_set (i := 1) sc_law_free_book.nd rfl (Or.inl rfl) (pe_cmpR (eqK K hu6) (pe_fn (f_law_take.mono (by first | decide | exact Nat.le_refl _ | (first | lia | omega))) hr rfl (pa_cons (pv 0) (pa_cons pe_int pa_nil))) pe_int (nomark _)))
    (pss_cons (ps_set (i := 2) sc_law_free_book.nd rfl (Or.inl rfl) (pe_fn (f_law_free_codes.mono (by first | decide | exact Nat.le_refl _ | (first | lia | omega))) hr rfl (pa_cons (pv 0) (pa_cons (pe_op addN pe_int (pe_fn (f_law_take.mono (by first | decide | exact Nat.le_refl _ | (first | lia | omega))) hr rfl (pa_cons (pv 0) (pa_cons (pe_ix (ixK K) (lstN (pa_cons pe_int (pa_cons pe_int pa_nil))) (pe_callTy call_int1 rfl T.n_int (by rfl) (pa_cons (pv 1) pa_nil)) (fun _ _ => rfl)) pa_nil)))) (pa_cons (pe_ix (ixK K) (lstN (pa_cons pe_int (pa_cons pe_int pa_nil))) (pe_callTy call_int1 rfl T.n_int (by rfl) (pa_cons (pv 1) pa_nil)) (fun _ _ => rfl)) pa_nil)))))
    (pss_one (ps_ret (pe_listzip rfl rfl T.n_list rfl T.n_zip (pa_cons (pe_fn (f_law_names.mono (by first | decide | exact Nat.le_refl _ | (first | lia | omega))) hr rfl (pa_cons (pv 0) (pa_cons (pe_callB (lenK K) rfl T.n_len (by rfl) (pa_cons (pv 2) pa_nil)) pa_nil))) (pa_cons (pv 2) pa_nil))))))), ?_⟩
  refine ⟨_, rfl, b, c, t, 8, rfl, bx, t0, by (first | lia | omega), by decide, by decide, fun k H1 k0 k1 st1 => .inl ⟨rfl, ?_⟩⟩
  generalize decide (V.int k = V.int 0) = d
  obtain ⟨m, mo, hm, hmo, m0, m1, o0, o1⟩ : ∃ m mo : Int, atI ([.int 10, .int 16] : List V) (if d = true then 1 else 0) = some (.int m) ∧ atI ([.int 7, .int 10] : List V) (if d = true then 1 else 0) = some (.int mo) ∧ 1 ≤ m ∧ m ≤ 16 ∧ 1 ≤ mo ∧ mo ≤ 10 := by
    cases d
    · exact ⟨10, 7, rfl, rfl, by decide, by decide, by decide, by decide⟩
    · exact ⟨16, 10, rfl, rfl, by decide, by decide, by decide, by decide⟩
  refine ⟨_, rfl, _, rfl, by show 2 ≤ sizeLine; decide, fun p1 H2 n2 => ⟨_, rfl, .inr ⟨_, rfl, .inl ⟨p1, _, _, _, rfl, rfl, SqL.of n2.at, hm, ?_⟩⟩⟩⟩
  have st2 := st1.newN n2
  refine ⟨b, c, _, m, rfl, st2.bx, by (first | lia | omega), by (first | lia | omega), by (first | lia | omega), by (first | lia | omega), fun r H3 r0 r1 st3 => ?_⟩
  have st3 := st2.trans st3
  refine .inl ⟨_, _, rfl, rfl, by show 2 ≤ sizeLine; decide, fun p2 H4 n4 => ⟨_, rfl, .inr ⟨_, rfl, .inl ⟨p2, _, _, _, rfl, rfl, SqL.of n4.at, hmo, ?_⟩⟩⟩⟩
  have st4 := st3.newN n4
  refine ⟨b, c, _, 1 + r, mo, rfl, st4.bx, by (first | lia | omega), by (first | lia | omega), by (first | lia | omega), by (first | lia | omega), by (first | lia | omega), by (first | lia | omega), fun cs l H5 t5 cne clen fr ok st5 hl4 hl5 => ?_⟩
  obtain ⟨lb, lc⟩ := st4.bx.ne_new hl4
  have st5 := st4.trans st5
  have ub5 := st5.ub
  have lo5 := st5.le
  have hlen : (cs.map V.str).length = cs.length := List.length_map _
  refine ⟨_, rfl, _, rfl, _, _, rfl, .inl ⟨_, SqL.of hl5, rfl⟩, b, c, _, _, rfl, st5.bx, by (first | lia | omega), by (first | lia | omega), by (first | lia | omega), by (first | lia | omega), fun xs l2 H6 t6 g hxl g0 g1 hx st6 hl6 hl62 => ?_⟩
  have hc6 := st6.old hl5 lb lc
  have st6 := st5.trans st6
  refine ⟨_, rfl, l2, l, _, _, rfl, SqL.of hl62, SqL.of hc6, fun H7 p as sm hp hp7 hal hpairs => ?_⟩
  have hnc : xs.length = cs.length := by (first | lia | omega)
  obtain ⟨ok1, ok2⟩ := bookOk_zip (n := 10) hnc cne (by (first | lia | omega)) hx (fun x hx => (ok x hx).mono (by (first | lia | omega))) g0 g1
  refine q (xs.zip cs) (.ref p) H7 t6 ok1 (by rw [List.length_zip]; (first | lia | omega)) ok2 (by rw [zip_snd hnc]; exact fr) (book_zip st6.bx hp hp7 hnc hal hpairs) ((st6.trans (Step.same st6.bx sm)).more (by (first | lia | omega)))
end
end Z

set_option Elab.async false
set_option linter.all false
set_option maxRecDepth 100000
set_option maxHeartbeats 4000000
namespace Z
open PySem L2
/-- two things that tell one data are the same; n calls deep -/
noncomputable def spSame (K : PySem.W.Frag) (n : Nat) : Sp := fun vs H Q _ => Ex3 fun (v1 v2 : V) (d : PyData) => vs = [v1, v2] ∧ Den K H d v1 ∧ Den K H d v2 ∧ d.depth < n ∧ d.weight ≤ 1000000 ∧ ∀ H', Same H H' → Q (.bl true) H'
section
variable {P : Program} {w : World} {K : PySem.W.Frag} {mg : Str → Option Value} {base : Heap} {f : Addr} {fd : FuncData}
theorem sc_law_same : FnScope ["_law_found", "_law_due"] ["_law_found", "_law_due"] (defScope (top i_law_same)) := ⟨rfl, rfl, rfl, by decide +kernel, rfl, by decide +kernel, by decide +kernel⟩
theorem ok_same {n : Nat} (F : Fun K "_law_same" "_law_same" (top i_law_same) f fd) (T : Nm mg) (f_law_same : Fn P w K mg base n "_law_same" ["_law_found", "_law_due"] (spSame K n)) : FnOk P w K mg base CX0 (n + 1) f fd ["_law_found", "_law_due"] (spSame K (n + 1)) := by
  refine F.ok sc_law_same (fun vs H Q E h => ?_) (fun cdv A outer s H vs Q E hr h => ?_)
  · obtain ⟨v1, v2, d, rfl, _⟩ := h
    rfl
  obtain ⟨v1, v2, d, rfl, d1, d2, hn, hw, q⟩ := h
  have hu6 := hr.units
  refine ⟨_, (pss_cons (ps_if (pt_cmpR g_is (pv 1) pe_non (nomark _)) (pss_one (ps_ret (pe_cmpR g_is (pv 0) pe_non (nomark _)))) pss_nil)
    (pss_cons (ps_if (pt_val (pe_callB (isiK K) rfl T.n_isinstance (by rfl) (pa_cons (pv 1) (pa_cons (pe_bltn rfl T.n_bool (by rfl) (v := .ty "bool") rfl) pa_nil)))) (pss_one (ps_ret (pe_and (pe_callB (isiK K) rfl T.n_isinstance (by rfl) (pa_cons (pv 0) (pa_cons (pe_bltn rfl T.n_bool (by rfl) (v := .ty "bool") rfl) pa_nil))) (pe_one (pe_cmpR (eqK K hu6) (pv 0) (pv 1) (nomark _)))))) pss_nil)
    (pss_cons (ps_if (pt_val (pe_callB (isiTK K) rfl T.n_isinstance (by rfl) (pa_cons (pv 1) (pa_cons (tupN (pa_cons (pe_bltn rfl T.n_list (by rfl) (v := .ty "list") rfl) (pa_cons (pe_bltn rfl T.n_tuple (by rfl) (v := .ty "tuple") rfl) pa_nil))) pa_nil)))) (pss_cons (ps_if (PW.pt (pw_or (pt_cmpR (neK K hu6) (pe_callB (isiK K) rfl T.n_isinstance (by rfl) (pa_cons (pv 0) (pa_cons (pe_bltn rfl T.n_list (by rfl) (v := .ty "list") rfl) pa_nil))) (pe_callB (isiK K) rfl T.n_isinstance (by rfl) (pa_cons (pv 1) (pa_cons (pe_bltn rfl T.n_list (by rfl) (v := .ty "list") rfl) pa_nil))) (nomark _)) (pw_or1 (pt_cmpR (neK K hu6) (pe_callB (isiK K) rfl T.n_isinstance (by rfl) (pa_cons (pv 0) (pa_cons (pe_bltn rfl T.n_tuple (by rfl) (v := .ty "tuple") rfl) pa_nil))) (pe_callB (isiK K) rfl T.n_isinstance (by rfl) (pa_cons (pv 1) (pa_cons (pe_bltn rfl T.n_tuple (by rfl) (v := .ty "tuple") rfl) pa_nil))) (nomark _))))) (pss_one (ps_ret pe_bl)) pss_nil)
    (pss_one (ps_ret (pe_and (pe_cmpR (eqK K hu6) (pe_callB (lenK K) rfl T.n_len (by rfl) (pa_cons (pv 0) pa_nil)) (pe_callB (lenK K) rfl T.n_len (by rfl) (pa_cons (pv 1) pa_nil)) (nomark _)) (pe_one (pe_callB (allK K rfl) rfl T.n_all (by rfl) (pa_cons (pe_lcomp rfl (comp_ok (Nc := ["_law_one", "_law_other"]) (Fc := []) (js := [])) (pi_zipK K rfl T.n_zip (pa_cons (pv 0) (pa_cons (pv 1) pa_nil))) (gk_tup (gks_cons (gk_name (i := 0) (n := 2) (by decide)) (gks_cons (gk_name (i := 1) (n := 2) (by decide)) gks_nil gm_name gms_nil) gm_name (gms_cons gm_name gms_nil))) (fun _ _ _ _ _ => (tupK K 2 rfl (pgs_cons (pg_name (i := 0) (show (["_law_one", "_law_other"] : List Str).Nodup by decide +kernel) rfl (Or.inl rfl)) (pgs_cons (pg_name (i := 1) (show (["_law_one", "_law_other"] : List Str).Nodup by decide +kernel) rfl (Or.inl rfl)) pgs_nil)))) (fun _ _ _ _ _ => pts_nil) (fun _ _ _ _ _ => (pe_fn (f_law_same.mono (by first | decide | exact Nat.le_refl _ | (first | lia | omega))) hr rfl (pa_cons (pv 0) (pa_cons (pv 1) pa_nil))))) pa_nil))))))) pss_nil)
    (pss_cons (ps_if (pt_val (pe_callB (isiK K) rfl T.n_isinstance (by rfl) (pa_cons (pv 1) (pa_cons (pe_bltn rfl T.n_str (by rfl) (v := .ty "str") rfl) pa_nil)))) (pss_one (ps_ret (pe_and (pe_callB (isiK K) rfl T.n_isinstance (by rfl) (pa_cons (pv 0) (pa_cons (pe_bltn rfl T.n_str (by rfl) (v := .ty "str") rfl) pa_nil))) (pe_one (pe_cmpR (eqK K hu6) (pv 0) (pv 1) (nomark _)))))) pss_nil)
    (pss_one (ps_ret (pe_and (pe_callB (isiK K) rfl T.n_isinstance (by rfl) (pa_cons (pv 0) (pa_cons (pe_bltn rfl T.n_int (by rfl) (v := .ty "int") rfl) pa_nil))) (pe_and (pe_not (pe_callB (isiK K) rfl T.n_isinstance (by rfl) (pa_cons (pv 0) (pa_cons (pe_bltn rfl T.n_bool (by rfl) (v := .ty "bool") rfl) pa_nil)))) (pe_one (pe_cmpR (eqK K hu6) (pv 0) (pv 1) (nomark _))))))))))), ?_⟩
  refine ⟨_, rfl, .inl ⟨rfl, _, rfl, ?_⟩⟩
  cases d with
  | none =>
    unfold Den at d1 d2
    subst d1 d2
    exact iteT ⟨_, rfl, .inl ⟨rfl, q H (Same.refl _)⟩⟩
  | bool b =>
    have d1' := d1
    have d2' := d2
    unfold Den at d1' d2'
    subst d1' d2'
    refine iteF ⟨_, rfl, .inl ⟨_, "bool", .bool b, true, rfl, d2, rfl, _, rfl, iteT ?_⟩⟩
    refine ⟨_, rfl, .inl ⟨_, "bool", .bool b, true, rfl, d1, rfl, _, rfl, iteT ⟨_, rfl, _, rfl, .inl ⟨rfl, ?_⟩⟩⟩⟩
    rw [decide_eq_true rfl]
    exact q H (Same.refl _)
  | int i =>
    have d1' := d1
    have d2' := d2
    unfold Den at d1' d2'
    subst d1' d2'
    refine iteF ⟨_, rfl, .inl ⟨_, "bool", .int i, false, rfl, d2, rfl, _, rfl, iteF ?_⟩⟩
    refine ⟨_, rfl, by show 2 ≤ sizeLine; decide, fun p H1 n1 => ⟨_, p, ["list", "tuple"], .int i, false, rfl, n1.at, d2, rfl, _, rfl, iteF ?_⟩⟩
    refine ⟨_, rfl, .inl ⟨_, "str", .int i, false, rfl, d2, rfl, _, rfl, iteF ?_⟩⟩
    refine ⟨_, rfl, .inl ⟨_, "int", .int i, true, rfl, d1, rfl, _, rfl, iteT ⟨_, rfl, .inl ⟨_, "bool", .int i, false, rfl, d1, rfl, _, rfl, _, rfl, iteT ⟨_, rfl, _, rfl, .inl ⟨rfl, ?_⟩⟩⟩⟩⟩⟩
    rw [decide_eq_true rfl]
    exact q H1 n1.same
  | str x =>
    have d1' := d1
    have d2' := d2
    unfold Den at d1' d2'
    subst d1' d2'
    refine iteF ⟨_, rfl, .inl ⟨_, "bool", .str x, false, rfl, d2, rfl, _, rfl, iteF ?_⟩⟩
    refine ⟨_, rfl, by show 2 ≤ sizeLine; decide, fun p H1 n1 => ⟨_, p, ["list", "tuple"], .str x, false, rfl, n1.at, d2, rfl, _, rfl, iteF ?_⟩⟩
    refine ⟨_, rfl, .inl ⟨_, "str", .str x, true, rfl, d2, rfl, _, rfl, iteT ?_⟩⟩
    refine ⟨_, rfl, .inl ⟨_, "str", .str x, true, rfl, d1, rfl, _, rfl, iteT ⟨_, rfl, _, rfl, .inl ⟨rfl, ?_⟩⟩⟩⟩
    rw [decide_eq_true rfl]
    exact q H1 n1.same
  | list ds =>
    have e1 := d1
    have e2 := d2
    unfold Den at e1 e2
    obtain ⟨a1, vs1, rfl, s1, ds1⟩ := e1
    obtain ⟨a2, vs2, rfl, s2, ds2⟩ := e2
    simp only [PyData.depth] at hn
    simp only [PyData.weight] at hw
    have hlw := len_weight ds
    refine iteF ⟨_, rfl, .inl ⟨_, "bool", .list ds, false, rfl, d2, rfl, _, rfl, iteF ?_⟩⟩
    refine ⟨_, rfl, by show 2 ≤ sizeLine; decide, fun p H1 n1 => ⟨_, p, ["list", "tuple"], .list ds, true, rfl, n1.at, d2.same n1.same, rfl, _, rfl, iteT ?_⟩⟩
    have b1 := d1.same n1.same
    have b2 := d2.same n1.same
    refine ⟨_, rfl, .inl ⟨_, "list", .list ds, true, rfl, b1, rfl, _, rfl, .inl ⟨_, "list", .list ds, true, rfl, b2, rfl, .inl ⟨rfl, _, rfl, iteF ?_⟩⟩⟩⟩
    refine ⟨_, rfl, .inl ⟨_, "tuple", .list ds, false, rfl, b1, rfl, _, rfl, .inl ⟨_, "tuple", .list ds, false, rfl, b2, rfl, .inl ⟨rfl, _, rfl, iteF ?_⟩⟩⟩⟩
    refine ⟨_, rfl, _, _, rfl, .inl ⟨vs1, n1.same.seq s1, rfl⟩, _, rfl, _, _, rfl, .inl ⟨vs2, n1.same.seq s2, rfl⟩, .inl ⟨rfl, _, rfl, ?_⟩⟩
    rw [decide_eq_true (show V.int (vs1.length : Nat) = V.int (vs2.length : Nat) by rw [ds1.len, ds2.len])]
    refine iteT ⟨_, rfl, _, rfl, false, false, a1, a2, rfl, ⟨_, n1.same.seq s1⟩, ⟨_, n1.same.seq s2⟩, ?_⟩
    refine comp_go (N := ds.length) (fun i ys H' => Same H1 H' ∧ ys = (List.replicate i true).map V.bl) ⟨Same.refl _, rfl⟩ ?_ ?_
    · rintro i ys H2 Nx hi ⟨sm, rfl⟩ nx
      have sm2 := n1.same.trans sm
      obtain ⟨x, hx, dx⟩ := ds1.get (i := i) (d := ds[i]) (List.getElem?_eq_getElem hi)
      obtain ⟨y, hy, dy⟩ := ds2.get (i := i) (d := ds[i]) (List.getElem?_eq_getElem hi)
      have q1 : SqK false K H2 a1 vs1 := sm2.seq s1
      have q2 : SqK false K H2 a2 vs2 := sm2.seq s2
      refine ⟨⟨_, _, _, _, q1, q2, hx, hy⟩, by rw [List.length_map, List.length_replicate]; exact Nat.lt_of_lt_of_le (show i < 10000000 by (first | lia | omega)) (by decide), ?_⟩
      rintro x' H3 ⟨T', rfl, hN⟩
      have n3 := hN _ _ _ _ q1 q2 hx hy
      refine ⟨T', _, rfl, SqT.of n3.at, rfl, _, _, rfl, _, _, rfl, rfl, ?_⟩
      have sm3 := sm2.trans n3.same
      refine ⟨_, rfl, _, rfl, x, y, ds[i], rfl, dx.same sm3, dy.same sm3, ?_, ?_, fun H4 sm4 => nx _ _ ⟨sm.trans (n3.same.trans sm4), ?_⟩⟩
      · have := depth_at (n := n - 1) (by (first | lia | omega)) (List.getElem_mem hi)
        (first | lia | omega)
      · exact weight_at hw (List.getElem_mem hi)
      · rw [List.replicate_succ', List.map_append]; rfl
    · rintro ys H2 ⟨sm, rfl⟩
      have sm2 := n1.same.trans sm
      have q1 : SqK false K H2 a1 vs1 := sm2.seq s1
      have q2 : SqK false K H2 a2 vs2 := sm2.seq s2
      refine ⟨⟨_, _, q1, q2, .inl (by rw [ds1.len]; exact Nat.le_refl _)⟩, fun p2 hp2 => ?_⟩
      refine ⟨p2, List.replicate ds.length true, rfl, SqL.of upd_same, ?_⟩
      rw [all_true]
      exact q _ (sm2.trans (same_new hp2 _))
  | tuple ds =>
    have e1 := d1
    have e2 := d2
    unfold Den at e1 e2
    obtain ⟨a1, vs1, rfl, s1, ds1⟩ := e1
    obtain ⟨a2, vs2, rfl, s2, ds2⟩ := e2
    simp only [PyData.depth] at hn
    simp only [PyData.weight] at hw
    have hlw := len_weight ds
    refine iteF ⟨_, rfl, .inl ⟨_, "bool", .tuple ds, false, rfl, d2, rfl, _, rfl, iteF ?_⟩⟩
    refine ⟨_, rfl, by show 2 ≤ sizeLine; decide, fun p H1 n1 => ⟨_, p, ["list", "tuple"], .tuple ds, true, rfl, n1.at, d2.same n1.same, rfl, _, rfl, iteT ?_⟩⟩
    have b1 := d1.same n1.same
    have b2 := d2.same n1.same
    refine ⟨_, rfl, .inl ⟨_, "list", .tuple ds, false, rfl, b1, rfl, _, rfl, .inl ⟨_, "list", .tuple ds, false, rfl, b2, rfl, .inl ⟨rfl, _, rfl, iteF ?_⟩⟩⟩⟩
    refine ⟨_, rfl, .inl ⟨_, "tuple", .tuple ds, true, rfl, b1, rfl, _, rfl, .inl ⟨_, "tuple", .tuple ds, true, rfl, b2, rfl, .inl ⟨rfl, _, rfl, iteF ?_⟩⟩⟩⟩
    refine ⟨_, rfl, _, _, rfl, .inr ⟨vs1, n1.same.seqT s1, rfl⟩, _, rfl, _, _, rfl, .inr ⟨vs2, n1.same.seqT s2, rfl⟩, .inl ⟨rfl, _, rfl, ?_⟩⟩
    rw [decide_eq_true (show V.int (vs1.length : Nat) = V.int (vs2.length : Nat) by rw [ds1.len, ds2.len])]
    refine iteT ⟨_, rfl, _, rfl, true, true, a1, a2, rfl, ⟨_, n1.same.seqT s1⟩, ⟨_, n1.same.seqT s2⟩, ?_⟩
    refine comp_go (N := ds.length) (fun i ys H' => Same H1 H' ∧ ys = (List.replicate i true).map V.bl) ⟨Same.refl _, rfl⟩ ?_ ?_
    · rintro i ys H2 Nx hi ⟨sm, rfl⟩ nx
      have sm2 := n1.same.trans sm
      obtain ⟨x, hx, dx⟩ := ds1.get (i := i) (d := ds[i]) (List.getElem?_eq_getElem hi)
      obtain ⟨y, hy, dy⟩ := ds2.get (i := i) (d := ds[i]) (List.getElem?_eq_getElem hi)
      have q1 : SqK true K H2 a1 vs1 := sm2.seqT s1
      have q2 : SqK true K H2 a2 vs2 := sm2.seqT s2
      refine ⟨⟨_, _, _, _, q1, q2, hx, hy⟩, by rw [List.length_map, List.length_replicate]; exact Nat.lt_of_lt_of_le (show i < 10000000 by (first | lia | omega)) (by decide), ?_⟩
      rintro x' H3 ⟨T', rfl, hN⟩
      have n3 := hN _ _ _ _ q1 q2 hx hy
      refine ⟨T', _, rfl, SqT.of n3.at, rfl, _, _, rfl, _, _, rfl, rfl, ?_⟩
      have sm3 := sm2.trans n3.same
      refine ⟨_, rfl, _, rfl, x, y, ds[i], rfl, dx.same sm3, dy.same sm3, ?_, ?_, fun H4 sm4 => nx _ _ ⟨sm.trans (n3.same.trans sm4), ?_⟩⟩
      · have := depth_at (n := n - 1) (by (first | lia | omega)) (List.getElem_mem hi)
        (first | lia | omega)
      · exact weight_at hw (List.getElem_mem hi)
      · rw [List.replicate_succ', List.map_append]; rfl
    · rintro ys H2 ⟨sm, rfl⟩
      have sm2 := n1.same.trans sm
      have q1 : SqK true K H2 a1 vs1 := sm2.seqT s1
      have q2 : SqK true K H2 a2 vs2 := sm2.seqT s2
      refine ⟨⟨_, _, q1, q2, .inl (by rw [ds1.len]; exact Nat.le_refl _)⟩, fun p2 hp2 => ?_⟩
      refine ⟨p2, List.replicate ds.length true, rfl, SqL.of upd_same, ?_⟩
      rw [all_true]
      exact q _ (sm2.trans (same_new hp2 _))
  | dict _ => unfold Den at d1; exact d1.elim
end
end Z

set_option Elab.async false
set_option linter.all false
set_option maxRecDepth 100000
set_option maxHeartbeats 4000000
namespace Z
open PySem L2
noncomputable def spBegin (K : PySem.W.Frag) : Sp := fun vs H Q _ => Ex2 fun (a : Addr) (ns : List Int) => vs = [.ref a] ∧ SqL K H a (ns.map V.int) ∧ ns.length ≤ 63 ∧
  ∀ (b c : Addr) (H' : Hp), Bx H' b c 0 → H b = none → H c = none → Same H (hid H' b c) → Q (.ref b) H'
section
variable {P : Program} {w : World} {K : PySem.W.Frag} {mg : Str → Option Value} {base : Heap} {f : Addr} {fd : FuncData}
theorem sc_law_begin : FnScope ["_law_script"] ["_law_script"] (defScope (top i_law_begin)) := ⟨rfl, rfl, rfl, by decide +kernel, rfl, by decide +kernel, by decide +kernel⟩
theorem ok_begin (F : Fun K "_law_begin" "_law_begin" (top i_law_begin) f fd) (T : Nm mg) : FnOk P w K mg base CX0 1 f fd ["_law_script"] (spBegin K) := by
  refine F.ok sc_law_begin (fun vs H Q E h => ?_) (fun cdv A outer s H vs Q E hr h => ?_)
  · obtain ⟨a, ns, rfl, _⟩ := h
    rfl
  obtain ⟨a, ns, rfl, hS, hlen, q⟩ := h
  have hu6 := hr.units
  refine ⟨_, (pss_one (ps_ret (dispN (pps_cons pe_str (pe_op addN (pe_callTy (listN K) rfl T.n_list (by rfl) (pa_cons (pe_slice (slN K) (pv 0) po_none (po_some pe_int)) pa_nil)) (pe_op mulN (lstN (pa_cons pe_int pa_nil)) (pe_callTy call_int1 rfl T.n_int (by rfl) (pa_cons (pe_cmpR (eqK K hu6) (pe_callB (lenK K) rfl T.n_len (by rfl) (pa_cons (pv 0) pa_nil)) pe_int (nomark _)) pa_nil)))) (pps_cons pe_str pe_int pps_nil)) rfl rfl (by decide) (by decide)))), ?_⟩
  intro p H0 n0
  refine ⟨_, rfl, _, rfl, .inl ⟨a, _, rfl, n0.same.seq hS, fun r1 H1 n1 => ?_⟩⟩
  refine ⟨r1, _, rfl, .inl (SqL.of n1.at), fun r2 H2 n2 => ?_⟩
  refine ⟨by show 1 ≤ sizeLine; decide, fun r3 H3 n3 => ?_⟩
  refine ⟨_, rfl, _, _, rfl, .inl ⟨_, (n0.same.trans (n1.same.trans (n2.same.trans n3.same))).seq hS, rfl⟩, .inl ⟨rfl, ?_⟩⟩
  refine .inr ⟨_, rfl, .inr ⟨r3, _, _, rfl, rfl, n3.at, ?_⟩⟩
  have hk : ∀ (k : Bool), ((if k = true then 1 else 0 : Int)).toNat ≤ 1 ∧ -(2 ^ 63 : Int) ≤ (if k = true then 1 else 0 : Int) ∧ (if k = true then 1 else 0 : Int) < 2 ^ 63 := fun k => by cases k <;> decide
  refine ⟨(hk _).2.1, (hk _).2.2, ?_, fun r4 H4 n4 => ?_⟩
  · have := (hk (decide (V.int ↑(List.map V.int ns).length = V.int 0))).1
    exact sizeOk (by simp only [List.length_singleton]; (first | lia | omega))
  have hc : cutV (ns.map V.int) none (some 63) = ns.map V.int := by
    have e := cut_to (ns.map V.int) 63
    rw [List.take_of_length_le (by rw [List.length_map]; exact hlen)] at e
    exact e
  have hn2 : H2 r2 = some (.lst (ns.map V.int)) := by rw [← hc]; exact n2.at
  refine .inr (.inr ⟨r2, r4, _, _, rfl, rfl, n4.same _ _ (n3.same _ _ n2.at), n4.at, ?_, fun r5 H5 n5 => ?_⟩)
  · rw [hc, List.length_map, len_rep]
    have := (hk (decide (V.int ↑(List.map V.int ns).length = V.int 0))).1
    exact sizeOk (by simp only [List.length_singleton]; (first | lia | omega))
  have s0 : Same H0 H5 := n1.same.trans (n2.same.trans (n3.same.trans (n4.same.trans n5.same)))
  refine ⟨s0 _ _ n0.at, [(.inr "cells", .ref r5), (.inr "turn", .int 0)], rfl, by show 2 ≤ 15; decide, fun H6 n6 => ?_⟩
  have hp5 : r5 ≠ p := Ne.symm (ne_of_none ((n1.same.trans (n2.same.trans (n3.same.trans n4.same))) _ _ n0.at) n5.nn)
  have h05 : H0 r5 = none := (n1.same.trans (n2.same.trans (n3.same.trans n4.same))).free n5.nn
  have hr5 : H r5 = none := by rw [← n0.ne hp5]; exact h05
  refine q p r5 H6 ⟨ns ++ (if ns.length = 0 then [5] else []), ?_, ?_, ?_, ?_⟩ n0.nn hr5 (fun b o e => ?_)
  · rw [n6.at]; rfl
  · rw [n6.ne hp5, n5.at, hc, List.map_append]
    congr 3
    by_cases h0 : ns.length = 0
    · have e : decide (V.int ((ns.map V.int).length : Nat) = V.int 0) = true := by rw [List.length_map, h0]; rfl
      rw [e, if_pos h0]; rfl
    · have e : decide (V.int ((ns.map V.int).length : Nat) = V.int 0) = false := decide_eq_false (fun z => by rw [List.length_map] at z; injection z with z; (first | lia | omega))
      rw [e, if_neg h0]; rfl
  · by_cases h0 : ns.length = 0
    · rw [if_pos h0]; simp
    · rw [List.length_append]; (first | lia | omega)
  · rw [List.length_append]; split <;> simp <;> (first | lia | omega)
  · have hb1 : b ≠ p := ne_of_none e n0.nn
    have hb2 : b ≠ r5 := ne_of_none e hr5
    rw [hid_of hb1 hb2, n6.ne hb1]
    exact s0 _ _ (n0.same _ _ e)
end
end Z

set_option Elab.async false
set_option linter.all false
set_option maxRecDepth 100000
set_option maxHeartbeats 4000000
namespace Z
open PySem L2
theorem hid_same {H : Hp} {b c : Addr} : Same (hid H b c) H := fun a o e => (of_hid e).1
theorem densAt {K : PySem.W.Frag} {H : Hp} {ds : List PyData} {vs : List V} {j : Nat} {d : PyData} {v : V} (h : Dens K H ds vs) (hd : ds[j]? = some d) (hv : vs[j]? = some v) : Den K H d v := by
  obtain ⟨u, hu, q⟩ := h.get hd
  rw [hv] at hu; cases hu
  exact q
theorem densApp {K : PySem.W.Frag} {H : Hp} {ds : List PyData} {vs : List V} {d : PyData} {v : V} (h : Dens K H ds vs) (q : Den K H d v) : Dens K H (ds ++ [d]) (vs ++ [v]) := by
  have hl := h.len
  refine Dens.of_get (by simp [hl]) fun j d' v' h1 h2 => ?_
  by_cases e : j < ds.length
  · rw [List.getElem?_append_left e] at h1
    rw [List.getElem?_append_left (by (first | lia | omega))] at h2
    exact densAt h h1 h2
  · rw [List.getElem?_append_right (by (first | lia | omega))] at h1
    rw [List.getElem?_append_right (by (first | lia | omega)), hl] at h2
    have : j - ds.length = 0 := by
      have := (List.getElem?_eq_some_iff.mp h1).1
      simp at this; (first | lia | omega)
    rw [this] at h1 h2
    cases h1; cases h2; exact q
theorem weight_int {i : Int} (h : i.natAbs < 2 ^ 200) : PyData.weight (.int i) ≤ 201 := by
  simp only [PyData.weight]
  split
  · (first | lia | omega)
  · rename_i h0
    have hne : i.natAbs ≠ 0 := by
      intro z
      exact h0 (by simp; (first | lia | omega))
    have := (Nat.log2_lt hne).mpr h
    (first | lia | omega)
end Z

set_option Elab.async false
set_option linter.all false
set_option maxRecDepth 100000
set_option maxHeartbeats 4000000
namespace Z
open PySem L2
/-! books as dicts, texts of codes (k08) -/
theorem take_next {α : Type} {l : List α} {i : Nat} (h : i < l.length) : l.take (i + 1) = l.take i ++ [l[i]] := by
  rw [List.take_succ, List.getElem?_eq_getElem h]; rfl
theorem sl_over (i j : Int) (n : Nat) (h : n ≤ j) : PySem.Builtin.Str.strSliceIndices (some i) (some j) 1 n = PySem.Builtin.Str.strSliceIndices (some i) (some (n : Int)) 1 n := by
  unfold PySem.Builtin.Str.strSliceIndices
  dsimp only
  congr 1
  have a : ¬ j < 0 := by (first | lia | omega)
  have b : ¬ ((n : Nat) : Int) < 0 := by (first | lia | omega)
  rw [if_neg a, if_neg b]
  (first | lia | omega)
theorem sl_mid {x : Str} {p q : Nat} (h1 : p ≤ q) (h2 : p ≤ x.length) : sg (Txt.slice x (some (p : Int)) (some (q : Int))) = ((sg x).drop p).take (q - p) := by
  by_cases hq : q ≤ x.length
  · have e := PyProof.Rows.slice_closes (x := x) (i := p) (j := q) ⟨by (first | lia | omega), by (first | lia | omega), by rw [← str_len]; (first | lia | omega)⟩
    rw [eq_of_beq e]
    show (((sg x).drop (p : Int).toNat).take ((q : Int) - p).toNat).toArray.toList = _
    rw [List.toList_toArray]
    congr 1
    (first | lia | omega)
  · have e := PyProof.Rows.slice_closes (x := x) (i := p) (j := (x.length : Int)) ⟨by (first | lia | omega), by (first | lia | omega), by rw [← str_len]; (first | lia | omega)⟩
    have e2 : Txt.slice x (some (p : Int)) (some (q : Int)) = Txt.slice x (some (p : Int)) (some ((x.length : Nat) : Int)) := by
      unfold Txt.slice
      rw [sl_over _ _ _ (show ((x.length : Nat) : Int) ≤ q by (first | lia | omega))]
    rw [e2, eq_of_beq e]
    show (((sg x).drop (p : Int).toNat).take ((x.length : Int) - p).toNat).toArray.toList = _
    rw [List.toList_toArray, List.take_of_length_le, List.take_of_length_le]
    · rfl
    · rw [List.length_drop, ← str_len]; (first | lia | omega)
    · rw [List.length_drop, ← str_len]; (first | lia | omega)
theorem names_nodup {bk : List (Str × Str)} (dr : Drawn bk) (l : bk.length ≤ 16) : (bk.map (·.1)).Nodup := by
  refine List.nodup_iff_pairwise_ne.mpr (List.pairwise_iff_getElem.mpr fun i j hi hj hij e => ?_)
  obtain ⟨g, g0, g1, hg⟩ := dr
  rw [List.length_map] at hi hj
  have h1 := (hg i _ (List.getElem?_eq_getElem hi)).last
  have h2 := (hg j _ (List.getElem?_eq_getElem hj)).last
  rw [List.getElem_map, List.getElem_map] at e
  rw [e, h2] at h1
  have h1 := Option.some.inj h1
  (first | lia | omega)
theorem codes_nodup {cs : List Str} (h : Free cs) : cs.Nodup := List.nodup_iff_pairwise_ne.mpr (h.imp fun {a b} r e => by subst e; exact r.1 (List.prefix_refl _))
/-- dicts of a book -/
noncomputable def byName (bk : List (Str × Str)) : List (Key × V) := bk.map fun q => (.inr q.1, .str q.2)
noncomputable def byCode (bk : List (Str × Str)) : List (Key × V) := bk.map fun q => (.inr q.2, .str q.1)
theorem val_map {α : Type} {f : α → Key × V} {k : Key} : ∀ {l : List α} {x : α}, x ∈ l → (f x).1 = k → (∀ y ∈ l, (f y).1 = k → (f y).2 = (f x).2) → valV (l.map f) k = some (f x).2
  | y :: l, x, hx, hk, hu => by
    rw [List.map_cons]
    by_cases e : (f y).1 = k
    · rw [valV_pos e, hu y List.mem_cons_self e]
    · rw [valV_neg e]
      refine val_map ((List.mem_cons.mp hx).resolve_left fun z => e (by rw [← z]; exact hk)) hk fun z hz => hu z (List.mem_cons_of_mem _ hz)
theorem val_none {α : Type} {f : α → Key × V} {k : Key} : ∀ {l : List α}, (∀ y ∈ l, (f y).1 ≠ k) → valV (l.map f) k = none
  | [], _ => rfl
  | y :: l, h => by
    rw [List.map_cons, valV_neg (h y List.mem_cons_self)]
    exact val_none fun z hz => h z (List.mem_cons_of_mem _ hz)
/-- one of a list with unlike keys -/
theorem one_of {α β : Type} {g : α → β} {l : List α} (nd : (l.map g).Nodup) {x y : α} (hx : x ∈ l) (hy : y ∈ l) (e : g x = g y) : x = y := by
  obtain ⟨i, hi, rfl⟩ := List.mem_iff_getElem.mp hx
  obtain ⟨j, hj, rfl⟩ := List.mem_iff_getElem.mp hy
  have := (List.nodup_iff_pairwise_ne.mp nd)
  have key : i = j := by
    rcases Nat.lt_trichotomy i j with h | h | h
    · exact absurd (by rw [List.getElem_map, List.getElem_map]; exact e) (List.pairwise_iff_getElem.mp this i j (by rw [List.length_map]; exact hi) (by rw [List.length_map]; exact hj) h)
    · exact h
    · exact absurd (by rw [List.getElem_map, List.getElem_map]; exact e.symm) (List.pairwise_iff_getElem.mp this j i (by rw [List.length_map]; exact hj) (by rw [List.length_map]; exact hi) h)
  subst key; rfl
structure GoodB (bk : List (Str × Str)) : Prop where
  le : bk.length ≤ 16
  nm : (bk.map (·.1)).Nodup
  fr : Free (bk.map (·.2))
  cd : ∀ q ∈ bk, CodeOk 10 q.2
  nl : ∀ q ∈ bk, q.1.length ≤ 8
/-- the pairs of a text's names -/
noncomputable def Of (bk : List (Str × Str)) (ps : List (Str × Str)) : Prop := ∀ q ∈ ps, q ∈ bk
noncomputable def tx (ps : List (Str × Str)) : List Nat := ps.flatMap fun q => sg q.2
noncomputable def txS (ps : List (Str × Str)) : Str := ⟨(tx ps).toArray⟩
theorem sg_tx (ps : List (Str × Str)) : sg (txS ps) = tx ps := by simp [txS]
noncomputable def endsN : Nat → List (Str × Str) → List Nat
  | p, [] => [p]
  | p, q :: ps => p :: endsN (p + q.2.length) ps
theorem GoodB.name {bk : List (Str × Str)} (g : GoodB bk) {q : Str × Str} (h : q ∈ bk) : valV (byName bk) (.inr q.1) = some (.str q.2) :=
  val_map (f := fun q : Str × Str => ((.inr q.1 : Key), V.str q.2)) h rfl fun y hy e => by
    rw [one_of g.nm hy h (by injection e)]
theorem GoodB.code {bk : List (Str × Str)} (g : GoodB bk) {q : Str × Str} (h : q ∈ bk) : valV (byCode bk) (.inr q.2) = some (.str q.1) :=
  val_map (f := fun q : Str × Str => ((.inr q.2 : Key), V.str q.1)) h rfl fun y hy e => by
    rw [one_of (codes_nodup g.fr) hy h (by injection e)]
/-- of two codes that begin one text, each is the other -/
theorem GoodB.uni {bk : List (Str × Str)} (g : GoodB bk) {q r : Str × Str} (hq : q ∈ bk) (hr : r ∈ bk) {t : List Nat} (h1 : sg q.2 <+: t) (h2 : sg r.2 <+: t) : q = r := by
  obtain ⟨i, hi, rfl⟩ := List.mem_iff_getElem.mp hq
  obtain ⟨j, hj, rfl⟩ := List.mem_iff_getElem.mp hr
  have pw : ∀ a b (ha : a < bk.length) (hb : b < bk.length), a < b → RF bk[a].2 bk[b].2 := fun a b ha hb hab => by
    have := List.pairwise_iff_getElem.mp g.fr a b (by rw [List.length_map]; exact ha) (by rw [List.length_map]; exact hb) hab
    rwa [List.getElem_map, List.getElem_map] at this
  have key : i = j := by
    rcases List.prefix_or_prefix_of_prefix h1 h2 with z | z
    · rcases Nat.lt_trichotomy i j with h | h | h
      · exact absurd z (pw i j hi hj h).1
      · exact h
      · exact absurd z (pw j i hj hi h).2
    · rcases Nat.lt_trichotomy i j with h | h | h
      · exact absurd z (pw i j hi hj h).2
      · exact h
      · exact absurd z (pw j i hj hi h).1
  subst key; rfl
theorem tx_len {bk ps : List (Str × Str)} (g : GoodB bk) (o : Of bk ps) : (tx ps).length ≤ 10 * ps.length := by
  induction ps with
  | nil => exact Nat.le_refl _
  | cons q ps ih =>
    have h1 := ih fun r hr => o r (List.mem_cons_of_mem _ hr)
    have h2 := (g.cd q (o q List.mem_cons_self)).le
    rw [str_len] at h2
    show (sg q.2 ++ tx ps).length ≤ _
    rw [List.length_append, List.length_cons]
    have h2 : (sg q.2).length ≤ 10 := h2
    (first | lia | omega)
end Z

set_option Elab.async false
set_option linter.all false
set_option maxRecDepth 100000
set_option maxHeartbeats 4000000
namespace Z
open PySem L2
/-! a book in the heap, as a dict; texts of its codes (split off k08's blocks) -/
/-- a book lies there -/
noncomputable def BkL (K : PySem.W.Frag) (H : Hp) (bk : List (Str × Str)) (l : Addr) : Prop := ∃ vs, SqL K H l vs ∧ Dens K H (bk.map fun q => .tuple [.str q.1, .str q.2]) vs
theorem BkL.same {K : PySem.W.Frag} {H H' : Hp} {bk : List (Str × Str)} {l : Addr} (h : BkL K H bk l) (s : Same H H') : BkL K H' bk l := by
  obtain ⟨vs, h1, h2⟩ := h
  exact ⟨vs, s.seq h1, h2.same s⟩
theorem bk_at {K : PySem.W.Frag} {H : Hp} {bk : List (Str × Str)} {vs : List V} (h : Dens K H (bk.map fun q => .tuple [.str q.1, .str q.2]) vs) {i : Nat} (hi : i < bk.length) : ∃ tp, vs[i]? = some (.ref tp) ∧ SqT K H tp [.str bk[i].1, .str bk[i].2] := by
  obtain ⟨v, h1, h2⟩ := h.get (i := i) (d := .tuple [.str bk[i].1, .str bk[i].2]) (by rw [List.getElem?_map, List.getElem?_eq_getElem hi]; rfl)
  obtain ⟨tp, rfl, h3⟩ := h2.pair
  exact ⟨tp, h1, h3⟩
theorem bk_len {K : PySem.W.Frag} {H : Hp} {bk : List (Str × Str)} {vs : List V} (h : Dens K H (bk.map fun q => .tuple [.str q.1, .str q.2]) vs) : vs.length = bk.length := by rw [h.len, List.length_map]
/-- {k: v for name, code in book} -/
theorem dbook {K : PySem.W.Frag} {bk : List (Str × Str)} {l : Addr} {tk tv : TE} {f : Str × Str → Key × V} (nd : (bk.map fun q => (f q).1).Nodup) (hle : bk.length ≤ 100) (hk : ∀ (q : Str × Str) (H : Hp) (Q : VK), Q (kV (f q).1) H → tk [some (.str q.1), some (.str q.2)] H Q)
    (hv : ∀ (q : Str × Str) (H : Hp) (Q : VK), Q (f q).2 H → tv [some (.str q.1), some (.str q.2)] H Q) {σ : St} {D : Addr} {H : Hp} (hB : BkL K H bk l) (hD : H D = none) {fin : Hp → Prop} (q : fin (upd H D (.dK (bk.map f)))) :
    CompD (Itl K l) 2 [] (gTup K 2 (gCons (gName 0) (gCons (gName 1) gNil))) tYes tk tv σ D (upd H D (.dK [])) fin := by
  obtain ⟨vs, hl, hd⟩ := hB
  have hlen := bk_len hd
  refine ⟨fun i m H' => m = bk.length - i ∧ i ≤ bk.length ∧ H' = upd H D (.dK ((bk.take i).map f)), ⟨_, rfl, Nat.zero_le _, rfl⟩, ?_⟩
  rintro i m H' ⟨rfl, hi, rfl⟩
  have sm : Same H (upd H D (.dK ((bk.take i).map f))) := same_new hD _
  by_cases hlt : i < bk.length
  · obtain ⟨tp, h1, h2⟩ := bk_at hd hlt
    refine .inr ⟨⟨_, _, sm.seq hl, h1⟩, ?_⟩
    rintro x H2 ⟨rfl, hy⟩
    have e := hy _ (sm.seq hl)
    rw [h1] at e; cases e
    refine ⟨tp, _, rfl, sm.seqT h2, rfl, _, _, rfl, _, _, rfl, rfl, ?_⟩
    dsimp only [tYes]
    rw [if_pos rfl]
    refine hk bk[i] _ _ (hv bk[i] _ _ ⟨(bk.take i).map f, (f bk[i]).1, upd_same, rfl, ?_, bk.length - (i + 1), by (first | lia | omega), rfl, hlt, ?_⟩)
    · rw [List.length_map, List.length_take]
      exact Nat.lt_of_le_of_lt (show min i bk.length ≤ 1000 by (first | lia | omega)) (by decide)
    · rw [putK_new _ (val_none fun y hy e => ?_), upd_upd, take_next hlt, List.map_append]
      · rfl
      · have h3 := List.nodup_iff_pairwise_ne.mp nd
        obtain ⟨j, hj, rfl⟩ := List.mem_iff_getElem.mp hy
        rw [List.length_take] at hj
        rw [List.getElem_take] at e
        exact absurd (by rw [List.getElem_map, List.getElem_map]; exact e) (List.pairwise_iff_getElem.mp h3 j i (by rw [List.length_map]; (first | lia | omega)) (by rw [List.length_map]; (first | lia | omega)) (by (first | lia | omega)))
  · have e : i = bk.length := by (first | lia | omega)
    subst e
    refine .inl ⟨⟨_, sm.seq hl, by (first | lia | omega)⟩, ?_⟩
    rw [List.take_length]; exact q
theorem inr_nodup {bk : List (Str × Str)} {g : Str × Str → Str} (h : (bk.map g).Nodup) : (bk.map fun q => (Sum.inr (g q) : Key)).Nodup := by
  have e : (bk.map fun q => (Sum.inr (g q) : Key)) = (bk.map g).map Sum.inr := by rw [List.map_map]; rfl
  rw [e]
  refine List.nodup_iff_pairwise_ne.mpr (List.pairwise_map.mpr ((List.nodup_iff_pairwise_ne.mp h).imp fun hab z => hab (by injection z)))
theorem tx_app (a b : List (Str × Str)) : tx (a ++ b) = tx a ++ tx b := List.flatMap_append
theorem nm_at {ps : List (Str × Str)} {i : Nat} (hi : i < ps.length) : ((ps.map (·.1)).map V.str)[i]? = some (.str ps[i].1) := by rw [List.getElem?_map, List.getElem?_map, List.getElem?_eq_getElem hi]; rfl
theorem nm_len {ps : List (Str × Str)} : ((ps.map (·.1)).map V.str).length = ps.length := by rw [List.length_map, List.length_map]
theorem sum_tx : ∀ (ps : List (Str × Str)), ((ps.map (·.2)).map (·.length)).sum = (tx ps).length
  | [] => rfl
  | q :: ps => by
    rw [List.map_cons, List.map_cons, List.sum_cons, sum_tx ps, str_len]
    show (sg q.2).length + _ = (sg q.2 ++ tx ps).length
    rw [List.length_append]
theorem join_tx (ps : List (Str × Str)) : Txt.join "" (ps.map (·.2)) = txS ps := by
  refine str_eq ?_
  rw [sg_tx]
  show (Txt.join "" (ps.map (·.2))).cps.toList = _
  rw [join_list0, List.flatMap_map]
  rfl
theorem txS_snoc (ps : List (Str × Str)) (q : Str × Str) : txS ps ++ q.2 = txS (ps ++ [q]) := by
  refine str_eq ?_
  rw [sg_app, sg_tx, sg_tx, tx_app]
  simp [tx]
end Z

set_option Elab.async false
set_option linter.all false
set_option maxRecDepth 100000
set_option maxHeartbeats 4000000
namespace Z
open PySem L2
/-! reading of any text of a free book (k10) -/
theorem more_nodup {α : Type} [DecidableEq α] {D : List α} {k : α} (h : D.Nodup) : (oneMore D k).Nodup := by
  unfold oneMore
  split
  · exact h
  · rename_i hk
    refine List.nodup_append.mpr ⟨h, List.nodup_cons.mpr ⟨by simp, List.nodup_nil⟩, fun a ha b hb e => hk ?_⟩
    rw [← List.mem_singleton.mp hb, ← e]; exact ha
theorem more_mem {α : Type} [DecidableEq α] {D : List α} {k x : α} : x ∈ oneMore D k ↔ x ∈ D ∨ x = k := by
  unfold oneMore
  split
  · rename_i hk
    exact ⟨.inl, fun h => h.elim id fun z => by rw [z]; exact hk⟩
  · rw [List.mem_append, List.mem_singleton]
theorem more_len {α : Type} [DecidableEq α] {D : List α} {k : α} : (oneMore D k).length ≤ D.length + 1 := by
  unfold oneMore
  split
  · (first | lia | omega)
  · rw [List.length_append]; exact Nat.le_refl _
noncomputable def spLook (K : PySem.W.Frag) : Sp := fun vs H Q _ => ∃ (l : Addr) (bk : List (Str × Str)), vs = [.ref l] ∧ BkL K H bk l ∧ GoodB bk ∧
  ∀ (tp d lp : Addr) (ls : List Int) H', Same H H' → H' tp = some (.tup [.ref d, .ref lp]) → H' d = some (.dK (byCode bk)) → H' lp = some (.lst (ls.map V.int)) → (∀ n, n ∈ ls ↔ ∃ q ∈ bk, ((q.2.length : Nat) : Int) = n) → Q (.ref tp) H'
noncomputable abbrev hdC : List (Str × Str) → Str
  | [] => ""
  | q :: _ => q.2
/-- the text from p on: the codes of ps, then what no code begins -/
noncomputable def Rest (bk : List (Str × Str)) (t : Str) (p : Nat) (ps : List (Str × Str)) : Prop := ∃ rs, (sg t).drop p = tx ps ++ rs ∧ ∀ q ∈ bk, ¬ sg q.2 <+: rs
noncomputable def spCodeAt (K : PySem.W.Frag) : Sp := fun vs H Q _ => ∃ (d lp : Addr) (ls : List Int) (bk : List (Str × Str)) (t : Str) (p : Nat) (ps : List (Str × Str)), vs = [.ref d, .ref lp, .str t, .int p] ∧ H d = some (.dK (byCode bk)) ∧ H lp = some (.lst (ls.map V.int)) ∧ (∀ n, n ∈ ls ↔ ∃ q ∈ bk, ((q.2.length : Nat) : Int) = n) ∧
  GoodB bk ∧ Of bk ps ∧ p ≤ t.length ∧ t.length ≤ 1000 ∧ Rest bk t p ps ∧ Q (.str (hdC ps)) H
section
variable {P : Program} {w : World} {K : PySem.W.Frag} {mg : Str → Option Value} {base : Heap} {f : Addr} {fd : FuncData}
theorem sc_lookup_of : FnScope ["book"] ["book"] (defScope (top i_lookup_of)) := ⟨rfl, rfl, rfl, by decide +kernel, rfl, by decide +kernel, by decide +kernel⟩
theorem ok_look (F : Fun K "lookup_of" "lookup_of" (top i_lookup_of) f fd) (T : Nm mg) (n_sorted : mg "sorted" = none) : FnOk P w K mg base CX0 1 f fd ["book"] (spLook K) := by
  refine F.ok sc_lookup_of (fun vs H Q E h => ?_) (fun cdv A outer s H vs Q E hr h => ?_)
  · obtain ⟨l, bk, rfl, _⟩ := h
    rfl
  obtain ⟨l, bk, rfl, hB, g, q⟩ := h
  have hu6 := hr.units
  refine ⟨_, (pss_one (ps_ret (tupN (pa_cons (pe_dcomp rfl (comp_ok (Nc := ["name", "code"]) (Fc := []) (js := [])) (piK K (pv 0)) (gk_tup (gks_cons (gk_name (i := 0) (n := 2) (by decide)) (gks_cons (gk_name (i := 1) (n := 2) (by decide)) gks_nil gm_name gms_nil) gm_name (gms_cons gm_name gms_nil))) (fun _ _ _ _ _ => (tupK K 2 rfl (pgs_cons (pg_name (i := 0) (show (["name", "code"] : List Str).Nodup by decide +kernel) rfl (Or.inl rfl)) (pgs_cons (pg_name (i := 1) (show (["name", "code"] : List Str).Nodup by decide +kernel) rfl (Or.inl rfl)) pgs_nil)))) (fun _ _ _ _ _ => pts_nil) (fun _ _ _ _ _ => (pv 1)) (fun _ _ _ _ _ => (pv 0))) (pa_cons (pe_callB (sortedSet rfl) rfl n_sorted (by rfl) (pa_cons (pe_scomp (intV P w) rfl (comp_ok (Nc := ["name", "code"]) (Fc := []) (js := [])) (piK K (pv 0)) (gk_tup (gks_cons (gk_name (i := 0) (n := 2) (by decide)) (gks_cons (gk_name (i := 1) (n := 2) (by decide)) gks_nil gm_name gms_nil) gm_name (gms_cons gm_name gms_nil))) (fun _ _ _ _ _ => (tupK K 2 rfl (pgs_cons (pg_name (i := 0) (show (["name", "code"] : List Str).Nodup by decide +kernel) rfl (Or.inl rfl)) (pgs_cons (pg_name (i := 1) (show (["name", "code"] : List Str).Nodup by decide +kernel) rfl (Or.inl rfl)) pgs_nil)))) (fun _ _ _ _ _ => pts_nil) (fun _ _ _ _ _ => (pe_callB (lenK K) rfl T.n_len (by rfl) (pa_cons (pv 1) pa_nil)))) pa_nil)) pa_nil))))), ?_⟩
  obtain ⟨vs, hl, hd⟩ := id hB
  have hgl := g.le
  refine ⟨_, rfl, l, rfl, ⟨_, hl⟩, fun D hD => ?_⟩
  refine dbook (f := fun q => (.inr q.2, .str q.1)) (inr_nodup (codes_nodup g.fr)) (by (first | lia | omega)) (fun q H Q h => ⟨_, rfl, h⟩) (fun q H Q h => ⟨_, rfl, h⟩) hB hD ?_
  have s1 : Same H (upd H D (.dK (byCode bk))) := same_new hD _
  refine ⟨_, rfl, l, rfl, ⟨_, s1.seq hl⟩, fun S hS => ?_⟩
  refine scomp_go (N := bk.length) (fun i H' => ∃ D' : List Int, H' = upd (upd H D (.dK (byCode bk))) S (setK (intV P w) S D') ∧ D'.Nodup ∧ D'.length ≤ i ∧ ∀ n, n ∈ D' ↔ ∃ q ∈ bk.take i, ((q.2.length : Nat) : Int) = n) ⟨[], rfl, List.nodup_nil, Nat.le_refl _, fun n => ⟨(fun h => nomatch h), (fun ⟨_, h, _⟩ => nomatch h)⟩⟩ ?_ ?_
  · rintro i H2 Nx hi ⟨D', rfl, nd, hle, hm⟩ nx
    have sm : Same H (upd (upd H D (.dK (byCode bk))) S (setK (intV P w) S D')) := s1.trans (same_new hS _)
    obtain ⟨tp, h1, h2⟩ := bk_at hd hi
    refine ⟨⟨_, _, sm.seq hl, h1⟩, ?_⟩
    rintro x H3 ⟨rfl, hy⟩
    have e := hy _ (sm.seq hl)
    rw [h1] at e; cases e
    refine ⟨tp, _, rfl, sm.seqT h2, rfl, _, _, rfl, _, _, rfl, rfl, ?_⟩
    refine ⟨_, rfl, _, _, rfl, ⟨Nat.le_trans (g.cd _ (List.getElem_mem hi)).le (by decide), rfl⟩, D', ((bk[i].2.length : Nat) : Int), upd_same, rfl, by (first | lia | omega), nx _ ⟨oneMore D' ((bk[i].2.length : Nat) : Int), upd_upd, more_nodup nd, Nat.le_trans more_len (by (first | lia | omega)), fun n => ?_⟩⟩
    rw [more_mem, hm, take_next hi]
    constructor
    · rintro (⟨q, hq, e⟩ | rfl)
      · exact ⟨q, List.mem_append_left _ hq, e⟩
      · exact ⟨bk[i], List.mem_append_right _ (List.mem_singleton.mpr rfl), rfl⟩
    · rintro ⟨q, hq, e⟩
      rcases List.mem_append.mp hq with hq | hq
      · exact .inl ⟨q, hq, e⟩
      · rw [List.mem_singleton.mp hq] at e
        exact .inr e.symm
  · rintro H2 ⟨D', rfl, nd, hle, hm⟩
    have sm : Same H (upd (upd H D (.dK (byCode bk))) S (setK (intV P w) S D')) := s1.trans (same_new hS _)
    refine ⟨⟨_, sm.seq hl, by rw [bk_len hd]; exact Nat.le_refl _⟩, S, D', rfl, upd_same, nd, by (first | lia | omega), fun ms lp H3 pm _ n3 => ⟨by show 2 ≤ sizeLine; decide, fun tp H4 n4 => ?_⟩⟩
    rw [List.take_length] at hm
    have hSD : D ≠ S := fun z => by
      have hS : upd H D (.dK (byCode bk)) S = none := hS
      rw [← z, upd_same] at hS; cases hS
    refine q tp D lp ms H4 (sm.trans (n3.same.trans n4.same)) n4.at (n4.same _ _ (n3.same _ _ (by rw [upd_ne hSD]; exact upd_same))) (n4.same _ _ n3.at) fun n => ?_
    rw [pm.mem_iff]; exact hm n
theorem sc_code_at : FnScope ["names_by_code", "lengths", "text", "place", "length", "code"] ["names_by_code", "lengths", "text", "place"] (defScope (top i_code_at)) := ⟨rfl, rfl, rfl, by decide +kernel, rfl, by decide +kernel, by decide +kernel⟩
theorem ok_codeat (F : Fun K "code_at" "code_at" (top i_code_at) f fd) (T : Nm mg) : FnOk P w K mg base CX0 1 f fd ["names_by_code", "lengths", "text", "place"] (spCodeAt K) := by
  refine F.ok sc_code_at (fun vs H Q E h => ?_) (fun cdv A outer s H vs Q E hr h => ?_)
  · obtain ⟨d, lp, ls, bk, t, p, ps, rfl, _⟩ := h
    rfl
  obtain ⟨d, lp, ls, bk, t, p, ps, rfl, hd, hl, hm, g, o, hp, ht, ⟨rs, hx, hnb⟩, q⟩ := h
  have hu := hu_of hr
  refine ⟨_, (pss_cons (ps_for PassesOwn.never rfl (piK K (pv 1)) (pg_name (i := 4) sc_code_at.nd rfl (Or.inl rfl)) (pss_cons (ps_set (i := 5) sc_code_at.nd rfl (Or.inl rfl) (pe_slice (slN K) (pv 2) (po_some (pv 3)) (po_some (pe_op addN (pv 3) (pv 4)))))
    (pss_one (ps_if (pt_cmp (pc_din hu (pv 5) (pv 0))) (pss_one (ps_ret (pv 5))) pss_nil))))
    (pss_one (ps_ret pe_str))), ?_⟩
  have hz : t.length ≤ sizeLine := Nat.le_trans ht (by decide)
  refine seqCut (t := tFor _ _ _) (fun σ H' => ps = [] ∧ H' = H) (fun Nx nx => ?_) ?_
  · refine ⟨_, rfl, lp, rfl, ⟨_, SqL.of hl⟩, ?_⟩
    refine for_go (N := ls.length) (fun i σ H' => ∃ x4 x5 : Option V, σ = [some (.ref d), some (.ref lp), some (.str t), some (.int p), x4, x5] ∧ H' = H ∧ ∀ q r, ps = q :: r → ((q.2.length : Nat) : Int) ∉ ls.take i) ⟨_, _, rfl, rfl, fun _ _ _ h => nomatch h⟩ ?_ ?_
    · rintro i σ H2 hi ⟨x4, x5, rfl, rfl, hno⟩
      have hv : (ls.map V.int)[i]? = some (.int ls[i]) := by rw [List.getElem?_map, List.getElem?_eq_getElem hi]; rfl
      refine ⟨⟨_, _, SqL.of hl, hv⟩, ?_⟩
      rintro x H3 ⟨rfl, hy⟩
      have e := hy _ (SqL.of hl)
      rw [hv] at e; cases e
      obtain ⟨r0, hr0, er⟩ := (hm ls[i]).mp (List.getElem_mem hi)
      generalize hL : ls[i] = L at er ⊢
      obtain ⟨m, rfl⟩ : ∃ m : Nat, L = m := ⟨r0.2.length, er.symm⟩
      refine gn ?_
      refine ⟨_, rfl, _, rfl, _, rfl, _, rfl, _, rfl, .inl ⟨_, _, rfl, rfl, _, rfl, .inr ⟨t, rfl, hz, gn ?_⟩⟩⟩
      have esl : sg (Txt.slice t (some (p : Int)) (some ((p : Int) + (m : Int)))) = (tx ps ++ rs).take m := by
        rw [show ((p : Int) + (m : Int)) = ((p + m : Nat) : Int) by (first | lia | omega), sl_mid (Nat.le_add_right _ _) hp, hx]
        congr 1
        (first | lia | omega)
      generalize Txt.slice t (some (p : Int)) (some ((p : Int) + (m : Int))) = c at esl ⊢
      -- is it a code?
      by_cases hc : ∃ r ∈ bk, r.2 = c
      · obtain ⟨r, hr, rfl⟩ := hc
        refine ⟨_, rfl, _, rfl, d, _, rfl, .inl ⟨_, .inr r.2, .inl hd, rfl, rfl⟩, ?_⟩
        rw [g.code hr]
        refine ⟨_, rfl, iteT ⟨_, rfl, ?_⟩⟩
        cases ps with
        | nil =>
          refine absurd ?_ (hnb r hr)
          rw [esl]
          exact List.take_prefix _ _
        | cons a ps' =>
          have h1 : sg r.2 <+: tx (a :: ps') ++ rs := by rw [esl]; exact List.take_prefix _ _
          have h2 : sg a.2 <+: tx (a :: ps') ++ rs := (List.prefix_append _ _ : sg a.2 <+: sg a.2 ++ tx ps').trans (List.prefix_append _ _)
          rw [g.uni hr (o a List.mem_cons_self) h1 h2]
          exact q
      · refine ⟨_, rfl, _, rfl, d, _, rfl, .inl ⟨_, .inr c, .inl hd, rfl, rfl⟩, ?_⟩
        have hn : valV (byCode bk) (.inr c) = none := val_none (f := fun q : Str × Str => ((.inr q.2 : Key), V.str q.1)) fun y hy e => hc ⟨y, hy, by injection e⟩
        rw [hn]
        refine ⟨_, rfl, iteF ⟨_, _, rfl, rfl, fun a r e => ?_⟩⟩
        subst e
        rw [take_next hi, hL]
        intro hin
        rcases List.mem_append.mp hin with h | h
        · exact hno a r rfl h
        · have hlen : a.2.length = m := by have := List.mem_singleton.mp h; (first | lia | omega)
          refine hc ⟨a, o a List.mem_cons_self, str_eq ?_⟩
          rw [esl, ← hlen, str_len]
          show sg a.2 = ((sg a.2 ++ tx r) ++ rs).take (sg a.2).length
          rw [List.append_assoc, List.take_left']
          rfl
    · rintro σ H2 ⟨x4, x5, rfl, rfl, hno⟩
      refine ⟨⟨_, SqL.of hl, by rw [List.length_map]; exact Nat.le_refl _⟩, nx _ _ ⟨?_, rfl⟩⟩
      rw [List.take_length] at hno
      cases ps with
      | nil => rfl
      | cons a r => exact absurd ((hm _).mpr ⟨a, o a List.mem_cons_self, rfl⟩) (hno a r rfl)
  rintro σ H2 ⟨rfl, rfl⟩
  exact q
end
end Z

set_option Elab.async false
set_option linter.all false
set_option maxRecDepth 100000
set_option maxHeartbeats 4000000
namespace Z
open PySem L2
noncomputable def stand (p : Nat) (ps : List (Str × Str)) (i : Nat) : Nat := p + (tx (ps.take i)).length
noncomputable def endN (p : Nat) (ps : List (Str × Str)) : Nat := stand p ps ps.length
theorem stand_next {p : Nat} {ps : List (Str × Str)} {i : Nat} (h : i < ps.length) : stand p ps (i + 1) = stand p ps i + ps[i].2.length := by
  unfold stand
  rw [take_next h, tx_app, List.length_append, str_len]
  have : (tx [ps[i]]).length = (sg ps[i].2).length := by simp [tx]
  rw [this]
  show p + (_ + (sg ps[i].2).length) = p + _ + (sg ps[i].2).length
  (first | lia | omega)
theorem ends_of : ∀ (p : Nat) (ps : List (Str × Str)), endsN p ps = (List.range (ps.length + 1)).map (stand p ps)
  | p, [] => by
    show [p] = [stand p [] 0]
    rfl
  | p, q :: ps => by
    rw [List.length_cons, List.range_succ_eq_map, List.map_cons, List.map_map]
    show p :: endsN (p + q.2.length) ps = _
    rw [ends_of (p + q.2.length) ps]
    congr 1
    refine List.map_congr_left fun j _ => ?_
    show _ = stand p (q :: ps) (j + 1)
    unfold stand
    rw [List.take_succ_cons]
    show p + q.2.length + (tx (ps.take j)).length = p + (sg q.2 ++ tx (ps.take j)).length
    rw [List.length_append, str_len]
    have : (sg q.2).length = q.2.cps.toList.length := rfl
    (first | lia | omega)
theorem rest_next {bk : List (Str × Str)} {t : Str} {p : Nat} {ps : List (Str × Str)} (h : Rest bk t p ps) (i : Nat) : Rest bk t (stand p ps i) (ps.drop i) := by
  obtain ⟨rs, h, hn⟩ := h
  refine ⟨rs, ?_, hn⟩
  unfold stand
  rw [← List.drop_drop, h]
  have e : tx ps = tx (ps.take i) ++ tx (ps.drop i) := by rw [← tx_app, List.take_append_drop]
  rw [e, List.append_assoc, List.drop_left']
  rfl
theorem stand_le {bk : List (Str × Str)} {t : Str} {p : Nat} {ps : List (Str × Str)} (h : Rest bk t p ps) (hp : p ≤ t.length) (i : Nat) : stand p ps i ≤ t.length := by
  obtain ⟨rs, h, hn⟩ := h
  have e : (sg t).length - p = (tx ps).length + rs.length := by rw [← List.length_append, ← h, List.length_drop]
  have e2 : (tx ps).length = (tx (ps.take i)).length + (tx (ps.drop i)).length := by rw [← List.length_append, ← tx_app, List.take_append_drop]
  rw [str_len] at hp ⊢
  have hp : p ≤ (sg t).length := hp
  show stand p ps i ≤ (sg t).length
  unfold stand
  (first | lia | omega)
noncomputable abbrev nI (es : List Nat) : List V := es.map fun (n : Nat) => V.int (n : Int)
noncomputable def TwoAt (H H' : Hp) (tp np pp : Addr) (ns : List Str) (es : List Nat) : Prop := newOf H H' tp = some (.tup [.ref np, .ref pp]) ∧ newOf H H' np = some (.lst (ns.map V.str)) ∧ newOf H H' pp = some (.lst (nI es))
noncomputable def RdIn (K : PySem.W.Frag) (H : Hp) (l : Addr) (bk : List (Str × Str)) (t : Str) (p : Nat) (ps : List (Str × Str)) : Prop := BkL K H bk l ∧ GoodB bk ∧ Of bk ps ∧ ps.length ≤ 1000 ∧ p ≤ t.length ∧ t.length ≤ 1000 ∧ Rest bk t p ps
noncomputable def spRead (K : PySem.W.Frag) : Sp := fun vs H Q _ => ∃ (l : Addr) (bk : List (Str × Str)) (t : Str) (p : Nat) (ps : List (Str × Str)), vs = [.ref l, .str t, .int p] ∧ RdIn K H l bk t p ps ∧
  ∀ (tp np pp : Addr) H', Same H H' → TwoAt H H' tp np pp (ps.map (·.1)) (endsN p ps) → Q (.ref tp) H'
noncomputable def spWhole (K : PySem.W.Frag) (C : Addr) : Sp := fun vs H Q E => ∃ (l : Addr) (bk : List (Str × Str)) (t : Str) (ps : List (Str × Str)), vs = [.ref l, .str t] ∧ RdIn K H l bk t 0 ps ∧ (endN 0 ps ≠ t.length → ∀ dx H', Same H H' → H' dx = some (.xd [("place", .int (endN 0 ps : Nat))]) → E (.ref C) (some dx) H') ∧
  (endN 0 ps = t.length → ∀ (tp np pp : Addr) H', Same H H' → TwoAt H H' tp np pp (ps.map (·.1)) (endsN 0 ps) → Q (.ref tp) H')
noncomputable def spAll (K : PySem.W.Frag) (C : Addr) : Sp := fun vs H Q E => ∃ (l : Addr) (bk : List (Str × Str)) (t : Str) (ps : List (Str × Str)), vs = [.ref l, .str t] ∧ RdIn K H l bk t 0 ps ∧ (endN 0 ps ≠ t.length → ∀ dx H', Same H H' → H' dx = some (.xd [("place", .int (endN 0 ps : Nat))]) → E (.ref C) (some dx) H') ∧
  (endN 0 ps = t.length → ∀ (np : Addr) H', Same H H' → newOf H H' np = some (.lst ((ps.map (·.1)).map V.str)) → Q (.ref np) H')
noncomputable def spBounds (K : PySem.W.Frag) (C : Addr) : Sp := fun vs H Q E => ∃ (l : Addr) (bk : List (Str × Str)) (t : Str) (ps : List (Str × Str)), vs = [.ref l, .str t] ∧ RdIn K H l bk t 0 ps ∧ (endN 0 ps ≠ t.length → ∀ dx H', Same H H' → H' dx = some (.xd [("place", .int (endN 0 ps : Nat))]) → E (.ref C) (some dx) H') ∧
  (endN 0 ps = t.length → ∀ (pp : Addr) H', Same H H' → newOf H H' pp = some (.lst (nI (endsN 0 ps))) → Q (.ref pp) H')
noncomputable def spFrom (K : PySem.W.Frag) : Sp := fun vs H Q _ => ∃ (l : Addr) (bk : List (Str × Str)) (t : Str) (p : Nat) (ps : List (Str × Str)), vs = [.ref l, .str t, .int p] ∧ RdIn K H l bk t p ps ∧
  ∀ (tp np : Addr) H', Same H H' → newOf H H' tp = some (.tup [.ref np, .int (endN p ps : Nat)]) → newOf H H' np = some (.lst ((ps.map (·.1)).map V.str)) → Q (.ref tp) H'
theorem ends_last (p : Nat) (ps : List (Str × Str)) : atI (nI (endsN p ps)) (-1) = some (.int (endN p ps : Nat)) := by
  unfold nI
  rw [ends_of, List.range_succ, List.map_append, List.map_append]
  show atI (_ ++ [V.int ((stand p ps ps.length : Nat) : Int)]) (-1) = _
  rw [atI_last]
  rfl
noncomputable def spIni (C : Addr) (f : Str) : Sp := fun vs H Q _ => ∃ (e : Addr) (v : V), vs = [.ref e, v] ∧ H e = some (excN e C) ∧ ∀ dx, H dx = none → dx ≠ e → Q .non (upd (upd H e (excF e C dx)) dx (.xd [(f, v)]))
section
variable {P : Program} {w : World} {K : PySem.W.Frag} {mg : Str → Option Value} {base : Heap} {f fi C : Addr} {fd fdi : FuncData}
theorem sc_reading_from : FnScope ["book", "text", "place", "names_by_code", "lengths", "names", "places", "code"] ["book", "text", "place"] (defScope (top i_reading_from)) := ⟨rfl, rfl, rfl, by decide +kernel, rfl, by decide +kernel, by decide +kernel⟩
theorem ok_read (F : Fun K "reading_from" "reading_from" (top i_reading_from) f fd) (T : Nm mg) (f_lookup_of : Fn P w K mg base 1 "lookup_of" ["book"] (spLook K)) (f_code_at : Fn P w K mg base 1 "code_at" ["names_by_code", "lengths", "text", "place"] (spCodeAt K)) : FnOk P w K mg base CX0 2 f fd ["book", "text", "place"] (spRead K) := by
  refine F.ok sc_reading_from (fun vs H Q E h => ?_) (fun cdv A outer s H vs Q E hr h => ?_)
  · obtain ⟨l, bk, t, p, ps, rfl, _⟩ := h
    rfl
  obtain ⟨l, bk, t, p, ps, rfl, ⟨hB, g, o, hps, hp, ht, hx⟩, q⟩ := h
  have hu := hu_of hr
  have hu6 := hr.units
  refine ⟨_, (pss_cons (ps_asg (pe_fn (f_lookup_of.mono (by first | decide | exact Nat.le_refl _ | (first | lia | omega))) hr rfl (pa_cons (pv 0) pa_nil)) (tupK K 2 rfl (pgs_cons (pg_name (i := 3) sc_reading_from.nd rfl (Or.inl rfl)) (pgs_cons (pg_name (i := 4) sc_reading_from.nd rfl (Or.inl rfl)) pgs_nil))))
    (pss_cons (ps_set (i := 5) sc_reading_from.nd rfl (Or.inl rfl) (lstN pa_nil))
    (pss_cons (ps_set (i := 6) sc_reading_from.nd rfl (Or.inl rfl) (lstN (pa_cons (pv 2) pa_nil)))
    (pss_cons (ps_set (i := 7) sc_reading_from.nd rfl (Or.inl rfl) (pe_fn (f_code_at.mono (by first | decide | exact Nat.le_refl _ | (first | lia | omega))) hr rfl (pa_cons (pv 3) (pa_cons (pv 4) (pa_cons (pv 1) (pa_cons (pv 2) pa_nil))))))
    (pss_cons (ps_while PassesOwn.never (pt_cmpR (neK K hu6) (pv 7) pe_str (nomark _)) (pss_cons (ps_expr (bmK K PySem.F.plainAttrs_list PySem.F.slot_list_append PySem.F.type_list_append appendN (pv 5) (pa_cons (pe_dget hu (pv 3) (pv 7) (fun _ _ => rfl)) pa_nil)))
    (pss_cons (ps_aug (i := 2) sc_reading_from.nd rfl (Or.inl rfl) (pe_callB (lenK K) rfl T.n_len (by rfl) (pa_cons (pv 7) pa_nil)) ip_add)
    (pss_cons (ps_expr (bmK K PySem.F.plainAttrs_list PySem.F.slot_list_append PySem.F.type_list_append appendN (pv 6) (pa_cons (pv 2) pa_nil)))
    (pss_one (ps_set (i := 7) sc_reading_from.nd rfl (Or.inl rfl) (pe_fn (f_code_at.mono (by first | decide | exact Nat.le_refl _ | (first | lia | omega))) hr rfl (pa_cons (pv 3) (pa_cons (pv 4) (pa_cons (pv 1) (pa_cons (pv 2) pa_nil)))))))))))
    (pss_one (ps_ret (tupN (pa_cons (pv 5) (pa_cons (pv 6) pa_nil)))))))))), ?_⟩
  refine ⟨_, rfl, l, bk, rfl, hB, g, fun tl d lp ls H1 s1 h1 hd hl hm => ?_⟩
  refine ⟨tl, _, rfl, SqT.of h1, rfl, _, _, rfl, _, _, rfl, rfl, ?_⟩
  refine ⟨by show 0 ≤ sizeLine; decide, fun np H2 n2 => gn ?_⟩
  refine ⟨_, rfl, by show 1 ≤ sizeLine; decide, fun pp H3 n3 => gn ?_⟩
  have s13 := n2.same.trans n3.same
  have nnp : H1 np = none := n2.nn
  have npp : H1 pp = none := n2.back n3.nn
  have nepp : np ≠ pp := fun z => by have := n3.nn; rw [← z, n2.at] at this; cases this
  refine ⟨_, rfl, _, rfl, _, rfl, _, rfl, d, lp, ls, bk, t, p, ps, rfl, s13 _ _ hd, s13 _ _ hl, hm, g, o, hp, ht, hx, gn ?_⟩
  refine seqCut (t := tWhile _ _) (fun σ H' => ∃ x2 x7, σ = [some (.ref l), some (.str t), x2, some (.ref d), some (.ref lp), some (.ref np), some (.ref pp), x7] ∧ Same H1 H' ∧ H' np = some (.lst ((ps.map (·.1)).map V.str)) ∧ H' pp = some (.lst (nI (endsN p ps)))) (fun Nx nx => ?_) ?_
  · refine whileGo (fun m σ H' => ∃ i, i ≤ ps.length ∧ m = ps.length - i ∧ σ = [some (.ref l), some (.str t), some (.int (stand p ps i : Nat)), some (.ref d), some (.ref lp), some (.ref np), some (.ref pp), some (.str (hdC (ps.drop i)))] ∧ Same H1 H' ∧ H' np = some (.lst (((ps.take i).map (·.1)).map V.str)) ∧ H' pp = some (.lst (nI ((List.range (i + 1)).map (stand p ps))))) ⟨_, 0, Nat.zero_le _, rfl, rfl, s13, n3.same _ _ n2.at, n3.at⟩ ?_
    rintro m σ H4 ⟨i, hi, rfl, rfl, s4, h4, e4⟩
    refine ⟨_, rfl, .inl ⟨rfl, _, rfl, ?_⟩⟩
    by_cases hlt : i < ps.length
    · have hdr : ps.drop i = ps[i] :: ps.drop (i + 1) := List.drop_eq_getElem_cons hlt
      have hin := o _ (List.getElem_mem hlt)
      have hpos := (g.cd _ hin).pos
      have hcne : V.str (hdC (ps.drop i)) ≠ V.str "" := fun z => by
        rw [hdr] at z
        injection z with z
        have z : ps[i].2 = ("" : Str) := z
        rw [z] at hpos
        exact absurd hpos (by decide)
      rw [decide_eq_false hcne]
      refine iteT ⟨fun σ' H' => ∃ (_ : i + 1 ≤ ps.length), σ' = [some (.ref l), some (.str t), some (.int (stand p ps (i + 1) : Nat)), some (.ref d), some (.ref lp), some (.ref np), some (.ref pp), some (.str (hdC (ps.drop (i + 1))))] ∧ Same H1 H' ∧ H' np = some (.lst (((ps.take (i + 1)).map (·.1)).map V.str)) ∧ H' pp = some (.lst (nI ((List.range (i + 1 + 1)).map (stand p ps)))), fun σ' H' ⟨a1, a2, a3, a4, a5⟩ => ⟨_, by (first | lia | omega), i + 1, a1, rfl, a2, a3, a4, a5⟩, ?_⟩
      have hc : hdC (ps.drop i) = ps[i].2 := by rw [hdr]
      rw [hc]
      refine ⟨_, rfl, .inl ⟨rfl, _, SqL.of h4⟩, _, rfl, _, rfl, d, .str ps[i].1, rfl, .inl ⟨_, .inr ps[i].2, .inl (s4 _ _ hd), rfl, (g.code hin).symm⟩, ?_⟩
      refine ⟨np, _, _, rfl, rfl, h4, Nat.lt_of_le_of_lt (show _ ≤ 1000 by rw [List.length_map, List.length_map, List.length_take]; (first | lia | omega)) (by decide), fun H5 c5 => ?_⟩
      have s5 : Same H1 H5 := same_chg s4 nnp c5
      have e5 : H5 pp = _ := (c5.ne (Ne.symm nepp)).trans e4
      refine ⟨_, rfl, _, rfl, _, _, rfl, ⟨Nat.le_trans (g.cd _ hin).le (by decide), rfl⟩, _, _, rfl, rfl, ?_⟩
      dsimp only
      rw [show (((stand p ps i : Nat) : Int) + (ps[i].2.length : Nat)) = ((stand p ps (i + 1) : Nat) : Int) by rw [stand_next hlt]; (first | lia | omega)]
      refine ⟨_, rfl, .inl ⟨rfl, _, SqL.of e5⟩, _, rfl, pp, _, _, rfl, rfl, e5, Nat.lt_of_le_of_lt (show _ ≤ 1000 by rw [List.length_map, List.length_map, List.length_range]; (first | lia | omega)) (by decide), fun H6 c6 => ?_⟩
      have s6 : Same H1 H6 := same_chg s5 npp c6
      refine ⟨_, rfl, _, rfl, _, rfl, _, rfl, d, lp, ls, bk, t, stand p ps (i + 1), ps.drop (i + 1), rfl, s6 _ _ hd, s6 _ _ hl, hm, g, fun r hr => o r (List.mem_of_mem_drop hr), stand_le hx hp _, ht, rest_next hx _, gn ⟨hlt, rfl, s6, ?_, ?_⟩⟩
      · rw [c6.ne nepp, c5.at, take_next hlt, List.map_append, List.map_append]; rfl
      · rw [c6.at, List.range_succ (n := i + 1), List.map_append]
        unfold nI
        rw [List.map_append]; rfl
    · have e : i = ps.length := by (first | lia | omega)
      subst e
      have hc : hdC (ps.drop ps.length) = "" := by rw [List.drop_length]
      rw [hc, decide_eq_true rfl]
      rw [List.take_length] at h4
      rw [← ends_of] at e4
      exact iteF (nx _ _ ⟨_, _, rfl, s4, h4, e4⟩)
  rintro σ H4 ⟨x2, x7, rfl, s4, h4, e4⟩
  refine ⟨_, rfl, _, rfl, by show 2 ≤ sizeLine; decide, fun tp H5 n5 => ?_⟩
  have s5 := s1.trans s4
  refine q tp np pp H5 (s5.trans n5.same) ⟨?_, ?_, ?_⟩
  · rw [newOf_none (s5.free n5.nn)]; exact n5.at
  · rw [newOf_none (s1.free nnp)]; exact n5.same _ _ h4
  · rw [newOf_none (s1.free npp)]; exact n5.same _ _ e4
theorem sc_ini_BadText : FnScope ["self", "place"] ["self", "place"] (defScope (inClass (top i_BadText) 0)) := ⟨rfl, rfl, rfl, by decide +kernel, rfl, by decide +kernel, by decide +kernel⟩
theorem ok_ini_BadText (F : Fun K "__init__" "BadText.__init__" (inClass (top i_BadText) 0) f fd) (S : ExcSt K C "place") : FnOk P w K mg base CX0 1 f fd ["self", "place"] (spIni C "place") := by
  refine F.ok sc_ini_BadText (fun vs H Q E h => ?_) (fun cdv A outer s H vs Q E hr h => ?_)
  · obtain ⟨e, v, rfl, _⟩ := h
    rfl
  obtain ⟨e, v, rfl, he, q⟩ := h
  refine ⟨_, (pss_one (ps_xfld (pv 0) (pv 1) rfl)), ?_⟩
  exact ⟨_, rfl, _, rfl, e, C, rfl, he, S, fun dx h1 h2 => q dx h1 h2⟩
theorem sc_whole_reading : FnScope ["book", "text", "names", "places"] ["book", "text"] (defScope (top i_whole_reading)) := ⟨rfl, rfl, rfl, by decide +kernel, rfl, by decide +kernel, by decide +kernel⟩
theorem ok_whole (F : Fun K "whole_reading" "whole_reading" (top i_whole_reading) f fd) (T : Nm mg) (g_BadText : mg "BadText" = some (.ref C)) (M_BadText : XMk K C fi) (F_BadText : FnOk P w K mg base CX0 1 fi fdi ["self", "place"] (spIni C "place")) (b_BadText : Binds K fdi ["self", "place"] []) (f_reading_from : Fn P w K mg base 2 "reading_from" ["book", "text", "place"] (spRead K)) : FnOk P w K mg base (CXE P w base) 3 f fd ["book", "text"] (spWhole K C) := by
  refine F.okX sc_whole_reading (fun vs H Q E h => ?_) (fun cdv A outer s H vs Q E hr h => ?_)
  · obtain ⟨l, bk, t, ps, rfl, _⟩ := h
    rfl
  obtain ⟨l, bk, t, ps, rfl, hR, qN, q⟩ := h
  have hu6 := hr.units
  refine ⟨_, (pss_cons (ps_asg (pe_fn (f_reading_from.mono (by first | decide | exact Nat.le_refl _ | (first | lia | omega))) hr rfl (pa_cons (pv 0) (pa_cons (pv 1) (pa_cons pe_int pa_nil)))) (tupK K 2 rfl (pgs_cons (pg_name (i := 2) sc_whole_reading.nd rfl (Or.inl rfl)) (pgs_cons (pg_name (i := 3) sc_whole_reading.nd rfl (Or.inl rfl)) pgs_nil))))
    (pss_cons (ps_if (pt_cmpR (neK K hu6) (pe_ix (ixK K) (pv 3) (pe_un un_neg pe_int) (fun _ _ => rfl)) (pe_callB (lenK K) rfl T.n_len (by rfl) (pa_cons (pv 1) pa_nil)) (nomark _)) (pss_one (ps_raiseM (k := 1) M_BadText F_BadText (hr.mono (by decide)) rfl g_BadText b_BadText (pa_cons (pe_ix (ixK K) (pv 3) (pe_un un_neg pe_int) (fun _ _ => rfl)) pa_nil))) pss_nil)
    (pss_one (ps_ret (tupN (pa_cons (pv 2) (pa_cons (pv 3) pa_nil))))))), ?_⟩
  obtain ⟨hB, g, o, hps, hp, ht, hx⟩ := id hR
  refine ⟨_, rfl, _, rfl, l, bk, t, 0, ps, rfl, hR, fun tl np pp H1 s1 ⟨w0, w1, w2⟩ => ?_⟩
  have h1 := (of_newOf w0).2
  refine ⟨tl, _, rfl, SqT.of h1, rfl, _, _, rfl, _, _, rfl, rfl, ?_⟩
  refine ⟨_, rfl, _, rfl, .inl ⟨pp, _, _, _, rfl, rfl, SqL.of (of_newOf w2).2, ends_last 0 ps, ?_⟩⟩
  refine ⟨_, rfl, _, _, rfl, ⟨Nat.le_trans ht (by decide), rfl⟩, .inl ⟨rfl, _, rfl, ?_⟩⟩
  by_cases he : endN 0 ps = t.length
  · rw [decide_eq_true (by rw [he])]
    refine iteF ?_
    refine ⟨_, rfl, _, rfl, by show 2 ≤ sizeLine; decide, fun tp H2 n2 => q he tp np pp H2 (s1.trans n2.same) ⟨?_, newOf_more n2.same _ _ w1, newOf_more n2.same _ _ w2⟩⟩
    rw [newOf_none (s1.free n2.nn)]; exact n2.at
  · rw [decide_eq_false (fun z => he (by injection z with z; (first | lia | omega)))]
    refine iteT ?_
    refine ⟨_, rfl, _, rfl, .inl ⟨pp, _, _, _, rfl, rfl, SqL.of (of_newOf w2).2, ends_last 0 ps, ?_⟩⟩
    refine ⟨by show 1 ≤ 1000; decide, fun e hz => ⟨e, .int (endN 0 ps : Nat), rfl, upd_same, fun dx d1 d2 => ⟨rfl, e, dx, rfl, ?_, s1.free hz, qN he dx _ (fun a o z => ?_) ?_⟩⟩⟩
    · rw [upd_ne (Ne.symm d2), upd_same]
    · have z1 := s1 _ _ z
      have na : a ≠ e := ne_of_none z1 hz
      have nd : a ≠ dx := fun y => by
        rw [upd_ne d2, ← y, z1] at d1
        cases d1
      rw [drp_ne na, upd_ne nd, upd_ne na, upd_ne na]
      exact z1
    · rw [drp_ne d2, upd_same]
theorem sc_read_all : FnScope ["book", "text", "names", "places"] ["book", "text"] (defScope (top i_read_all)) := ⟨rfl, rfl, rfl, by decide +kernel, rfl, by decide +kernel, by decide +kernel⟩
theorem ok_all (F : Fun K "read_all" "read_all" (top i_read_all) f fd) (T : Nm mg) (f_whole_reading : FnX P w K mg base 3 "whole_reading" ["book", "text"] (spWhole K C)) : FnOk P w K mg base (CXE P w base) 4 f fd ["book", "text"] (spAll K C) := by
  refine F.okX sc_read_all (fun vs H Q E h => ?_) (fun cdv A outer s H vs Q E hr h => ?_)
  · obtain ⟨l, bk, t, ps, rfl, _⟩ := h
    rfl
  obtain ⟨l, bk, t, ps, rfl, hR, qN, q⟩ := h
  refine ⟨_, (pss_cons (ps_asg (pe_fnP (E' := E) (f_whole_reading.mono (by first | decide | exact Nat.le_refl _ | (first | lia | omega))) hr rfl (fun _ _ _ z => z) (pa_cons (pv 0) (pa_cons (pv 1) pa_nil))) (tupK K 2 rfl (pgs_cons (pg_name (i := 2) sc_read_all.nd rfl (Or.inl rfl)) (pgs_cons (pg_name (i := 3) sc_read_all.nd rfl (Or.inl rfl)) pgs_nil))))
    (pss_one (ps_ret (pv 2)))), ?_⟩
  refine ⟨_, rfl, _, rfl, l, bk, t, ps, rfl, hR, qN, fun he tl np pp H1 s1 ⟨w0, w1, w2⟩ => ?_⟩
  exact ⟨tl, _, rfl, SqT.of (of_newOf w0).2, rfl, _, _, rfl, _, _, rfl, rfl, _, rfl, q he np H1 s1 w1⟩
theorem sc_bounds_of : FnScope ["book", "text", "names", "places"] ["book", "text"] (defScope (top i_bounds_of)) := ⟨rfl, rfl, rfl, by decide +kernel, rfl, by decide +kernel, by decide +kernel⟩
theorem ok_bounds (F : Fun K "bounds_of" "bounds_of" (top i_bounds_of) f fd) (T : Nm mg) (f_whole_reading : FnX P w K mg base 3 "whole_reading" ["book", "text"] (spWhole K C)) : FnOk P w K mg base (CXE P w base) 4 f fd ["book", "text"] (spBounds K C) := by
  refine F.okX sc_bounds_of (fun vs H Q E h => ?_) (fun cdv A outer s H vs Q E hr h => ?_)
  · obtain ⟨l, bk, t, ps, rfl, _⟩ := h
    rfl
  obtain ⟨l, bk, t, ps, rfl, hR, qN, q⟩ := h
  refine ⟨_, (pss_cons (ps_asg (pe_fnP (E' := E) (f_whole_reading.mono (by first | decide | exact Nat.le_refl _ | (first | lia | omega))) hr rfl (fun _ _ _ z => z) (pa_cons (pv 0) (pa_cons (pv 1) pa_nil))) (tupK K 2 rfl (pgs_cons (pg_name (i := 2) sc_bounds_of.nd rfl (Or.inl rfl)) (pgs_cons (pg_name (i := 3) sc_bounds_of.nd rfl (Or.inl rfl)) pgs_nil))))
    (pss_one (ps_ret (pv 3)))), ?_⟩
  refine ⟨_, rfl, _, rfl, l, bk, t, ps, rfl, hR, qN, fun he tl np pp H1 s1 ⟨w0, w1, w2⟩ => ?_⟩
  exact ⟨tl, _, rfl, SqT.of (of_newOf w0).2, rfl, _, _, rfl, _, _, rfl, rfl, _, rfl, q he pp H1 s1 w2⟩
end
end Z

set_option Elab.async false
set_option linter.all false
set_option maxRecDepth 100000
set_option maxHeartbeats 4000000
namespace Z
open PySem L2
section
variable {P : Program} {w : World} {K : PySem.W.Frag} {mg : Str → Option Value} {base : Heap} {f : Addr} {fd : FuncData}
theorem sc_read_from : FnScope ["book", "text", "place", "names", "places"] ["book", "text", "place"] (defScope (top i_read_from)) := ⟨rfl, rfl, rfl, by decide +kernel, rfl, by decide +kernel, by decide +kernel⟩
theorem ok_from (F : Fun K "read_from" "read_from" (top i_read_from) f fd) (T : Nm mg) (f_reading_from : Fn P w K mg base 2 "reading_from" ["book", "text", "place"] (spRead K)) : FnOk P w K mg base CX0 3 f fd ["book", "text", "place"] (spFrom K) := by
  refine F.ok sc_read_from (fun vs H Q E h => ?_) (fun cdv A outer s H vs Q E hr h => ?_)
  · obtain ⟨l, bk, t, p, ps, rfl, _⟩ := h
    rfl
  obtain ⟨l, bk, t, p, ps, rfl, hR, q⟩ := h
  refine ⟨_, (pss_cons (ps_asg (pe_fn (f_reading_from.mono (by first | decide | exact Nat.le_refl _ | (first | lia | omega))) hr rfl (pa_cons (pv 0) (pa_cons (pv 1) (pa_cons (pv 2) pa_nil)))) (tupK K 2 rfl (pgs_cons (pg_name (i := 3) sc_read_from.nd rfl (Or.inl rfl)) (pgs_cons (pg_name (i := 4) sc_read_from.nd rfl (Or.inl rfl)) pgs_nil))))
    (pss_one (ps_ret (tupN (pa_cons (pv 3) (pa_cons (pe_ix (ixK K) (pv 4) (pe_un un_neg pe_int) (fun _ _ => rfl)) pa_nil)))))), ?_⟩
  obtain ⟨hB, g, o, hps, hp, ht, hx⟩ := id hR
  refine ⟨_, rfl, _, rfl, _, rfl, l, bk, t, p, ps, rfl, hR, fun tl np pp H1 s1 ⟨w0, w1, w2⟩ => ?_⟩
  refine ⟨tl, _, rfl, SqT.of (of_newOf w0).2, rfl, _, _, rfl, _, _, rfl, rfl, ?_⟩
  refine ⟨_, rfl, _, rfl, _, rfl, .inl ⟨pp, _, _, _, rfl, rfl, SqL.of (of_newOf w2).2, ends_last p ps, by show 2 ≤ sizeLine; decide, fun tp H2 n2 => q tp np H2 (s1.trans n2.same) ?_ (newOf_more n2.same _ _ w1)⟩⟩
  rw [newOf_none (s1.free n2.nn)]; exact n2.at
end
end Z

set_option Elab.async false
set_option linter.all false
set_option maxRecDepth 100000
set_option maxHeartbeats 4000000
namespace Z
open PySem L2
/-! a text, spoilt (k10) -/
theorem sl_fromN {x : Str} (p : Nat) : sg (Txt.slice x (some (p : Int)) none) = (sg x).drop p := by
  have key : ∀ p : Nat, p ≤ x.length → sg (Txt.slice x (some (p : Int)) none) = (sg x).drop p := fun p h => by
    rw [PyProof.Rows.slice_from_eq (b := (x.length : Int)) (by (first | lia | omega)) (by (first | lia | omega)) rfl]
    show (((sg x).drop (p : Int).toNat).take ((x.length : Int) - p).toNat).toArray.toList = _
    rw [List.toList_toArray, List.take_of_length_le]
    · rfl
    · rw [List.length_drop, ← str_len]; (first | lia | omega)
  by_cases h : p ≤ x.length
  · exact key p h
  · have e : Txt.slice x (some (p : Int)) none = Txt.slice x (some ((x.length : Nat) : Int)) none := by
      unfold Txt.slice
      have : PySem.Builtin.Str.strSliceIndices (some (p : Int)) none 1 x.length = PySem.Builtin.Str.strSliceIndices (some ((x.length : Nat) : Int)) none 1 x.length := by
        unfold PySem.Builtin.Str.strSliceIndices
        dsimp only
        congr 1
        have a : ¬ (p : Int) < 0 := by (first | lia | omega)
        have b : ¬ ((x.length : Nat) : Int) < 0 := by (first | lia | omega)
        rw [if_neg a, if_neg b]
        (first | lia | omega)
      rw [this]
    rw [e, key _ (Nat.le_refl _), List.drop_eq_nil_of_le, List.drop_eq_nil_of_le]
    · rw [← str_len]; (first | lia | omega)
    · rw [← str_len]; exact Nat.le_refl _
theorem bin_of {x y : Str} (h : Bin x) (s : ∀ ch ∈ sg y, ch ∈ sg x) : Bin y := fun ch hc => h ch (s ch hc)
theorem bin_app {x y : Str} (h : Bin x) (h' : Bin y) : Bin (x ++ y) := fun ch hc => by
  have hc : ch ∈ sg (x ++ y) := hc
  rw [sg_app] at hc
  exact (List.mem_append.mp hc).elim (h ch) (h' ch)
theorem len_app (x y : Str) : (x ++ y).length = x.length + y.length := by
  rw [str_len, str_len, str_len]
  show (sg (x ++ y)).length = _
  rw [sg_app, List.length_append]
/-- a part of a text of signs -/
structure Part (x y : Str) (n : Nat) : Prop where
  bin : Bin y
  len : y.length = n
theorem part_to {x : Str} {j : Int} (hb : Bin x) (h0 : 0 ≤ j) (h1 : j ≤ x.length) : Part x (Txt.slice x none (some j)) j.toNat := by
  refine ⟨bin_of hb fun ch hc => ?_, ?_⟩
  · rw [sl_to h0 h1] at hc; exact List.mem_of_mem_take hc
  · rw [str_len]
    show (sg _).length = _
    rw [sl_to h0 h1, List.length_take]
    have : x.length = (sg x).length := str_len x
    (first | lia | omega)
theorem part_from {x : Str} (hb : Bin x) (p : Nat) : Part x (Txt.slice x (some (p : Int)) none) (x.length - p) := by
  refine ⟨bin_of hb fun ch hc => ?_, ?_⟩
  · rw [sl_fromN] at hc; exact List.mem_of_mem_drop hc
  · rw [str_len]
    show (sg _).length = _
    rw [sl_fromN, List.length_drop, ← str_len]
theorem part_mid {x : Str} (hb : Bin x) {p q : Nat} (h1 : p ≤ q) (h2 : p ≤ x.length) : Part x (Txt.slice x (some (p : Int)) (some (q : Int))) (min (q - p) (x.length - p)) := by
  refine ⟨bin_of hb fun ch hc => ?_, ?_⟩
  · rw [sl_mid h1 h2] at hc; exact List.mem_of_mem_drop (List.mem_of_mem_take hc)
  · rw [str_len]
    show (sg _).length = _
    rw [sl_mid h1 h2, List.length_take, List.length_drop, ← str_len]
theorem bit01 {r : Int} (h0 : 0 ≤ r) (h1 : r < 2) : ∃ c, atI (Str.ofString "01").cps.toList r = some c ∧ (c = 48 ∨ c = 49) := by
  have : r = 0 ∨ r = 1 := by (first | lia | omega)
  rcases this with rfl | rfl
  · exact ⟨48, by decide +kernel, .inl rfl⟩
  · exact ⟨49, by decide +kernel, .inr rfl⟩
theorem bit10 {r : Int} (h0 : 0 ≤ r) (h1 : r < 2) : ∃ c, atI (Str.ofString "10").cps.toList r = some c ∧ (c = 48 ∨ c = 49) := by
  have : r = 0 ∨ r = 1 := by (first | lia | omega)
  rcases this with rfl | rfl
  · exact ⟨49, by decide +kernel, .inr rfl⟩
  · exact ⟨48, by decide +kernel, .inl rfl⟩
theorem bin1 {c : Nat} (h : c = 48 ∨ c = 49) : Bin (⟨#[c]⟩ : Str) := fun ch hc => by
  have : ch = c := by simpa using hc
  rw [this]; exact h
theorem int1 {c : Nat} (h : c = 48 ∨ c = 49) : PySem.intText? (⟨#[c]⟩ : Str) = some (((c - 48 : Nat) : Int)) := by
  rcases h with rfl | rfl <;> decide +kernel
theorem cps_at {x : Str} {i : Nat} (h : i < x.length) : ∃ ch, x.cps[i]? = some ch ∧ ch ∈ sg x := by
  have hs : i < x.cps.size := h
  exact ⟨x.cps[i], Array.getElem?_eq_getElem hs, by show _ ∈ x.cps.toList; exact Array.getElem_mem_toList _⟩
noncomputable def spSpoil : Sp := fun vs H Q _ => ∃ (b c : Addr) (t : Int) (z : Str), vs = [.ref b, .str z] ∧ Bx H b c t ∧ 0 ≤ t ∧ t < 900000 ∧ Bin z ∧ z.length ≤ 500 ∧
  ∀ (y : Str) (H' : Hp) (t' : Int), Bin y → y.length ≤ z.length + 4 → Step b c H H' t t' 10 → Q (.str y) H'
section
variable {P : Program} {w : World} {K : PySem.W.Frag} {mg : Str → Option Value} {base : Heap} {f : Addr} {fd : FuncData}
theorem sc_law_text_spoilt : FnScope ["_law_box", "_law_text", "_law_way", "_law_at"] ["_law_box", "_law_text"] (defScope (top i_law_text_spoilt)) := ⟨rfl, rfl, rfl, by decide +kernel, rfl, by decide +kernel, by decide +kernel⟩
theorem ok_spoil (F : Fun K "_law_text_spoilt" "_law_text_spoilt" (top i_law_text_spoilt) f fd) (T : Nm mg) (f_law_take : Fn P w K mg base 1 "_law_take" ["_law_box", "_law_many"] spTk) (f_law_signs : Fn P w K mg base 2 "_law_signs" ["_law_box", "_law_many"] spSg) : FnOk P w K mg base CX0 3 f fd ["_law_box", "_law_text"] spSpoil := by
  refine F.ok sc_law_text_spoilt (fun vs H Q E h => ?_) (fun cdv A outer s H vs Q E hr h => ?_)
  · obtain ⟨b, c, t, z, rfl, _⟩ := h
    rfl
  obtain ⟨b, c, t, z, rfl, bx, t0, t1, hb, hl, q⟩ := h
  have hu6 := hr.units
  have hz : z.length ≤ sizeLine := Nat.le_trans hl (by decide)
  refine ⟨_, (pss_cons (ps_par (i := 2) (j := 3) rfl sc_law_text_spoilt.nd rfl rfl (by decide) rfl rfl (pa_cons (pe_fn (f_law_take.mono (by first | decide | exact Nat.le_refl _ | (first | lia | omega))) hr rfl (pa_cons (pv 0) (pa_cons pe_int pa_nil))) (pa_cons (pe_fn (f_law_take.mono (by first | decide | exact Nat.le_refl _ | (first | lia | omega))) hr rfl (pa_cons (pv 0) (pa_cons (pe_op addN (pe_callB (lenK K) rfl T.n_len (by rfl) (pa_cons (pv 1) pa_nil)) pe_int) pa_nil))) pa_nil)) rfl)
    (pss_cons (ps_if (pt_cmpR (eqK K hu6) (pv 2) pe_int (nomark _)) (pss_one (ps_ret (pe_op addN (pe_op addN (pe_slice (slN K) (pv 1) po_none (po_some (pv 3))) (pe_ix (ixK K) pe_str (pe_fn (f_law_take.mono (by first | decide | exact Nat.le_refl _ | (first | lia | omega))) hr rfl (pa_cons (pv 0) (pa_cons pe_int pa_nil))) (fun _ _ => rfl))) (pe_slice (slN K) (pv 1) (po_some (pv 3)) po_none)))) pss_nil)
    (pss_cons (ps_if (pt_cmpR (eqK K hu6) (pv 2) pe_int (nomark _)) (pss_one (ps_ret (pe_op addN (pe_slice (slN K) (pv 1) po_none (po_some (pv 3))) (pe_slice (slN K) (pv 1) (po_some (pe_op addN (pv 3) pe_int)) po_none)))) pss_nil)
    (pss_cons (ps_if (pt_cmpR (eqK K hu6) (pv 2) pe_int (nomark _)) (pss_one (ps_ret (pe_op addN (pe_op addN (pe_slice (slN K) (pv 1) po_none (po_some (pv 3))) (bmK K PySem.F.plainAttrs_str PySem.F.slot_str_join PySem.F.type_str_join (joinK K) pe_str (pa_cons (pe_lcomp rfl (comp_ok (Nc := ["_law_sign"]) (Fc := []) (js := [])) (pi_text (pe_slice (slN K) (pv 1) (po_some (pv 3)) (po_some (pe_op addN (pv 3) pe_int)))) (gk_name (i := 0) (n := 1) (by decide)) (fun _ _ _ _ _ => (pg_name (i := 0) (show (["_law_sign"] : List Str).Nodup by decide +kernel) rfl (Or.inl rfl))) (fun _ _ _ _ _ => pts_nil) (fun _ _ _ _ _ => (pe_ix (ixK K) pe_str (pe_callTy intS rfl T.n_int (by rfl) (pa_cons (pv 0) pa_nil)) (fun _ _ => rfl)))) pa_nil))) (pe_slice (slN K) (pv 1) (po_some (pe_op addN (pv 3) pe_int)) po_none)))) pss_nil)
    (pss_cons (ps_if (pt_cmpR (eqK K hu6) (pv 2) pe_int (nomark _)) (pss_one (ps_ret (pe_op addN (pe_op addN (pe_slice (slN K) (pv 1) po_none (po_some (pv 3))) (pe_revT (pe_slice (slN K) (pv 1) (po_some (pv 3)) (po_some (pe_op addN (pv 3) pe_int))))) (pe_slice (slN K) (pv 1) (po_some (pe_op addN (pv 3) pe_int)) po_none)))) pss_nil)
    (pss_cons (ps_if (pt_cmpR (eqK K hu6) (pv 2) pe_int (nomark _)) (pss_one (ps_ret (pe_slice (slN K) (pv 1) po_none (po_some (pv 3))))) pss_nil)
    (pss_one (ps_ret (pe_ifExp (pt_cmpR (eqK K hu6) (pv 2) pe_int (nomark _)) (pe_op addN (pv 1) (pe_fn (f_law_signs.mono (by first | decide | exact Nat.le_refl _ | (first | lia | omega))) hr rfl (pa_cons (pv 0) (pa_cons (pe_op addN pe_int (pe_fn (f_law_take.mono (by first | decide | exact Nat.le_refl _ | (first | lia | omega))) hr rfl (pa_cons (pv 0) (pa_cons pe_int pa_nil)))) pa_nil)))) (pe_slice (slN K) (pv 1) (po_some (pv 3)) po_none)))))))))), ?_⟩
  refine ⟨_, rfl, b, c, t, 7, rfl, bx, t0, by (first | lia | omega), by decide, by decide, fun way H1 w0 w1 st1 => ?_⟩
  refine ⟨_, rfl, _, rfl, _, _, rfl, ⟨hz, rfl⟩, .inl ⟨_, _, rfl, rfl, b, c, _, _, rfl, st1.bx, by (first | lia | omega), by (first | lia | omega), by (first | lia | omega), by (first | lia | omega), fun at_ H2 a0 a1 st2 => ⟨_, _, rfl, ?_⟩⟩⟩
  have st2 := st1.trans st2
  obtain ⟨p, rfl⟩ : ∃ p : Nat, at_ = p := ⟨at_.toNat, by (first | lia | omega)⟩
  have hp : p ≤ z.length := by (first | lia | omega)
  have pA := part_to (j := (p : Int)) hb (by (first | lia | omega)) (by (first | lia | omega))
  have hA : (Txt.slice z none (some (p : Int))).length = p := by have := pA.len; (first | lia | omega)
  have pR := fun m : Nat => part_from hb m
  dsimp only
  have small : ∀ {n : Nat}, n ≤ 2000 → n ≤ sizeLine := fun h => Nat.le_trans h (by decide)
  refine ⟨_, rfl, .inl ⟨rfl, _, rfl, ite2 (fun _ => ?_) (fun _ => ?_)⟩⟩
  · refine ⟨_, rfl, _, rfl, _, rfl, .inr ⟨z, rfl, hz, ?_⟩⟩
    refine ⟨_, rfl, b, c, _, 2, rfl, st2.bx, by (first | lia | omega), by (first | lia | omega), by decide, by decide, fun r H3 r0 r1 st3 => ?_⟩
    obtain ⟨ch, hch, hbit⟩ := bit01 r0 r1
    refine .inr (.inr ⟨_, _, ch, rfl, rfl, by decide +kernel, hch, .inr (.inl ⟨_, _, rfl, rfl, small (by rw [hA]; show p + 1 ≤ 2000; (first | lia | omega)), ?_⟩)⟩)
    refine ⟨_, rfl, _, rfl, _, rfl, .inr ⟨z, rfl, hz, .inr (.inl ⟨_, _, rfl, rfl, ?_, q _ _ _ (bin_app (bin_app pA.bin (bin1 hbit)) (pR p).bin) ?_ ((st2.trans st3).more (by (first | lia | omega)))⟩)⟩⟩
    · rw [len_app, hA, (pR p).len]; exact small (by show p + 1 + _ ≤ 2000; (first | lia | omega))
    · rw [len_app, len_app, hA, (pR p).len]; show p + 1 + _ ≤ _; (first | lia | omega)
  refine ⟨_, rfl, .inl ⟨rfl, _, rfl, ite2 (fun _ => ?_) (fun _ => ?_)⟩⟩
  · refine ⟨_, rfl, _, rfl, _, rfl, .inr ⟨z, rfl, hz, ?_⟩⟩
    refine ⟨_, rfl, _, rfl, .inl ⟨_, _, rfl, rfl, _, rfl, .inr ⟨z, rfl, hz, .inr (.inl ⟨_, _, rfl, rfl, ?_, q _ _ _ (bin_app pA.bin (pR (p + 1)).bin) ?_ (st2.more (by (first | lia | omega)))⟩)⟩⟩⟩
    · rw [hA]; have := (pR (p + 1)).len; exact small (by show p + (Txt.slice z (some ((p + 1 : Nat) : Int)) none).length ≤ 2000; (first | lia | omega))
    · rw [len_app, hA]; have := (pR (p + 1)).len; show p + (Txt.slice z (some ((p + 1 : Nat) : Int)) none).length ≤ _; (first | lia | omega)
  refine ⟨_, rfl, .inl ⟨rfl, _, rfl, ite2 (fun _ => ?_) (fun _ => ?_)⟩⟩
  · refine ⟨_, rfl, _, rfl, _, rfl, .inr ⟨z, rfl, hz, ?_⟩⟩
    refine ⟨rfl, _, rfl, _, rfl, _, rfl, _, rfl, .inl ⟨_, _, rfl, rfl, _, rfl, .inr ⟨z, rfl, hz, ?_⟩⟩⟩
    have pM : Part z (Txt.slice z (some (p : Int)) (some ((p : Int) + 1))) (min (p + 1 - p) (z.length - p)) := part_mid (q := p + 1) hb (by (first | lia | omega)) hp
    generalize Txt.slice z (some (p : Int)) (some ((p : Int) + 1)) = y at pM ⊢
    have hyl := pM.len
    refine ⟨y, rfl, ?_, ?_⟩
    · rw [← Array.all_toList, List.all_eq_true]
      intro ch hc
      rcases pM.bin ch hc with e | e <;> rw [e] <;> decide
    refine comp_go (N := y.length) (fun j ys H' => H' = H2 ∧ ∃ fs : List Str, ys = fs.map V.str ∧ fs.length = j ∧ ∀ x ∈ fs, Bin x ∧ x.length = 1) ⟨rfl, [], rfl, rfl, fun _ h => nomatch h⟩ ?_ ?_
    · rintro j ys H' Nx hj ⟨rfl, fs, rfl, hfl, hfs⟩ nx
      refine ⟨hj, Nat.lt_of_le_of_lt (show _ ≤ 1000 by rw [List.length_map]; (first | lia | omega)) (by decide), ?_⟩
      rintro x' H3 ⟨rfl, hx⟩
      obtain ⟨ch, e1, e2⟩ := cps_at hj
      rw [hx _ e1]
      have hbit := pM.bin ch e2
      refine ⟨_, rfl, _, _, rfl, int1 hbit, by show 1 ≤ 640; decide, ?_⟩
      obtain ⟨d, hd1, hd2⟩ := bit10 (r := ((ch - 48 : Nat) : Int)) (by (first | lia | omega)) (by (first | lia | omega))
      refine .inr (.inr ⟨_, _, d, rfl, rfl, by decide +kernel, hd1, nx _ _ ⟨rfl, fs ++ [⟨#[d]⟩], by rw [List.map_append]; rfl, by rw [List.length_append, hfl]; rfl, fun x hx => ?_⟩⟩)
      rcases List.mem_append.mp hx with hx | hx
      · exact hfs x hx
      · rw [List.mem_singleton.mp hx]; exact ⟨bin1 hd2, rfl⟩
    rintro ys H' ⟨rfl, fs, rfl, hfl, hfs⟩
    refine ⟨show y.cps.size ≤ _ from Nat.le_refl _, fun jp hjp => ?_⟩
    have hsum : (fs.map (·.length)).sum ≤ fs.length := by
      clear hjp hfl
      induction fs with
      | nil => exact Nat.le_refl _
      | cons a l ih =>
        rw [List.map_cons, List.sum_cons, List.length_cons, (hfs a List.mem_cons_self).2]
        have := ih fun x hx => hfs x (List.mem_cons_of_mem _ hx)
        (first | lia | omega)
    have hj : Bin (Txt.join "" fs) ∧ (Txt.join "" fs).length = fs.length := by
      have e : sg (Txt.join "" fs) = fs.flatMap (fun p => p.cps.toList) := join_list0 fs
      refine ⟨fun ch hc => ?_, ?_⟩
      · have hc : ch ∈ sg (Txt.join "" fs) := hc
        rw [e] at hc
        obtain ⟨x, hx, hc⟩ := List.mem_flatMap.mp hc
        exact (hfs x hx).1 ch hc
      · rw [str_len]
        show (sg _).length = _
        rw [e]
        clear e hsum hjp hfl
        induction fs with
        | nil => rfl
        | cons a l ih =>
          rw [List.flatMap_cons, List.length_append, List.length_cons, ih fun x hx => hfs x (List.mem_cons_of_mem _ hx), ← str_len, (hfs a List.mem_cons_self).2]
          (first | lia | omega)
    refine ⟨"", jp, fs, rfl, rfl, SqL.of upd_same, ?_, ?_⟩
    · have e0 : Str.length "" = 0 := rfl
      rw [e0]
      (first | lia | omega)
    refine .inr (.inl ⟨_, _, rfl, rfl, small (by rw [hA, hj.2]; (first | lia | omega)), ?_⟩)
    have pB := pR (p + 1)
    have hBl := pB.len
    have stN := st2.new hjp (.lst (fs.map V.str))
    refine ⟨_, rfl, _, rfl, .inl ⟨_, _, rfl, rfl, _, rfl, .inr ⟨z, rfl, hz, .inr (.inl ⟨_, _, rfl, rfl, ?_, q _ _ _ (bin_app (bin_app pA.bin hj.1) pB.bin) ?_ (stN.more (by (first | lia | omega)))⟩)⟩⟩⟩
    · rw [len_app, hA, hj.2]; exact small (by show p + fs.length + (Txt.slice z (some ((p + 1 : Nat) : Int)) none).length ≤ 2000; (first | lia | omega))
    · rw [len_app, len_app, hA, hj.2]; show p + fs.length + (Txt.slice z (some ((p + 1 : Nat) : Int)) none).length ≤ _; (first | lia | omega)
  refine ⟨_, rfl, .inl ⟨rfl, _, rfl, ite2 (fun _ => ?_) (fun _ => ?_)⟩⟩
  · refine ⟨_, rfl, _, rfl, _, rfl, .inr ⟨z, rfl, hz, ?_⟩⟩
    refine ⟨_, rfl, _, rfl, _, rfl, _, rfl, .inl ⟨_, _, rfl, rfl, _, rfl, .inr ⟨z, rfl, hz, ?_⟩⟩⟩
    have pM : Part z (Txt.slice z (some (p : Int)) (some ((p : Int) + 2))) (min (p + 2 - p) (z.length - p)) := part_mid (q := p + 2) hb (by (first | lia | omega)) hp
    generalize Txt.slice z (some (p : Int)) (some ((p : Int) + 2)) = y at pM ⊢
    have hyl := pM.len
    refine ⟨y, rfl, small (by (first | lia | omega)), fun yr hyr => ?_⟩
    have hrl : yr.length = y.length := by rw [str_len, hyr, List.length_reverse, ← str_len]
    have hrb : Bin yr := fun ch hc => pM.bin ch (by rw [hyr] at hc; exact List.mem_reverse.mp hc)
    refine .inr (.inl ⟨_, _, rfl, rfl, small (by rw [hA]; (first | lia | omega)), ?_⟩)
    have pB := pR (p + 2)
    have hBl := pB.len
    refine ⟨_, rfl, _, rfl, .inl ⟨_, _, rfl, rfl, _, rfl, .inr ⟨z, rfl, hz, .inr (.inl ⟨_, _, rfl, rfl, ?_, q _ _ _ (bin_app (bin_app pA.bin hrb) pB.bin) ?_ (st2.more (by (first | lia | omega)))⟩)⟩⟩⟩
    · rw [len_app, hA]; exact small (by show p + yr.length + (Txt.slice z (some ((p + 2 : Nat) : Int)) none).length ≤ 2000; (first | lia | omega))
    · rw [len_app, len_app, hA]; show p + yr.length + (Txt.slice z (some ((p + 2 : Nat) : Int)) none).length ≤ _; (first | lia | omega)
  refine ⟨_, rfl, .inl ⟨rfl, _, rfl, ite2 (fun _ => ?_) (fun _ => ?_)⟩⟩
  · exact ⟨_, rfl, _, rfl, _, rfl, .inr ⟨z, rfl, hz, q _ _ _ pA.bin (by (first | lia | omega)) (st2.more (by (first | lia | omega)))⟩⟩
  refine ⟨_, rfl, .inl ⟨rfl, _, rfl, ite2 (fun _ => ?_) (fun _ => ?_)⟩⟩
  · refine ⟨_, rfl, _, rfl, _, rfl, b, c, _, 4, rfl, st2.bx, by (first | lia | omega), by (first | lia | omega), by decide, by decide, fun r H3 r0 r1 st3 => ?_⟩
    refine .inl ⟨_, _, rfl, rfl, b, c, _, _, rfl, st3.bx, by (first | lia | omega), by (first | lia | omega), by (first | lia | omega), by (first | lia | omega), fun x H4 t4 hxl hxb st4 => ?_⟩
    refine .inr (.inl ⟨_, _, rfl, rfl, small (by (first | lia | omega)), q _ _ _ (bin_app hb hxb) (by rw [len_app]; (first | lia | omega)) (((st2.trans st3).trans st4).more (by (first | lia | omega)))⟩)
  · exact ⟨_, rfl, _, rfl, _, rfl, .inr ⟨z, rfl, hz, q _ _ _ (pR p).bin (by have := (pR p).len; (first | lia | omega)) (st2.more (by (first | lia | omega)))⟩⟩
end
end Z

set_option Elab.async false
set_option linter.all false
set_option maxRecDepth 100000
set_option maxHeartbeats 4000000
namespace Z
open PySem L2
noncomputable def spJoined (K : PySem.W.Frag) : Sp := fun vs H Q _ => ∃ (l np : Addr) (bk ps : List (Str × Str)), vs = [.ref l, .ref np] ∧ BkL K H bk l ∧ GoodB bk ∧ Of bk ps ∧ ps.length ≤ 100 ∧ SqL K H np ((ps.map (·.1)).map V.str) ∧ Q (.str (txS ps)) H
theorem bin_tx {bk ps : List (Str × Str)} (g : GoodB bk) (o : Of bk ps) : Bin (txS ps) := fun ch hc => by
  have hc : ch ∈ sg (txS ps) := hc
  rw [sg_tx] at hc
  obtain ⟨q, hq, hc⟩ := List.mem_flatMap.mp hc
  exact (g.cd q (o q hq)).bin ch hc
section
variable {P : Program} {w : World} {K : PySem.W.Frag} {mg : Str → Option Value} {base : Heap} {f : Addr} {fd : FuncData}
theorem sc_law_joined : FnScope ["_law_book", "_law_names_here", "_law_text", "_law_name", "_law_other", "_law_code"] ["_law_book", "_law_names_here"] (defScope (top i_law_joined)) := ⟨rfl, rfl, rfl, by decide +kernel, rfl, by decide +kernel, by decide +kernel⟩
theorem ok_joined (F : Fun K "_law_joined" "_law_joined" (top i_law_joined) f fd) (T : Nm mg) : FnOk P w K mg base CX0 1 f fd ["_law_book", "_law_names_here"] (spJoined K) := by
  refine F.ok sc_law_joined (fun vs H Q E h => ?_) (fun cdv A outer s H vs Q E hr h => ?_)
  · obtain ⟨l, np, bk, ps, rfl, _⟩ := h
    rfl
  obtain ⟨l, np, bk, ps, rfl, hB, g, o, hps, hN, q⟩ := h
  have hu6 := hr.units
  refine ⟨_, (pss_cons (ps_set (i := 2) sc_law_joined.nd rfl (Or.inl rfl) pe_str)
    (pss_cons (ps_for PassesOwn.never rfl (piK K (pv 1)) (pg_name (i := 3) sc_law_joined.nd rfl (Or.inl rfl)) (pss_one (ps_for PassesOwn.never rfl (piK K (pv 0)) (tupK K 2 rfl (pgs_cons (pg_name (i := 4) sc_law_joined.nd rfl (Or.inl rfl)) (pgs_cons (pg_name (i := 5) sc_law_joined.nd rfl (Or.inl rfl)) pgs_nil))) (pss_one (ps_if (pt_cmpR (eqK K hu6) (pv 4) (pv 3) (nomark _)) (pss_one (ps_set (i := 2) sc_law_joined.nd rfl (Or.inl rfl) (pe_op addN (pv 2) (pv 5)))) pss_nil)))))
    (pss_one (ps_ret (pv 2))))), ?_⟩
  obtain ⟨vs, hl, hd⟩ := id hB
  have hN : SqL K H np ((ps.map (·.1)).map V.str) := hN
  refine gn ?_
  dsimp only
  refine seqCut (t := tFor _ _ _) (fun σ H' => ∃ x3 x4 x5, σ = [some (.ref l), some (.ref np), some (.str (txS ps)), x3, x4, x5] ∧ H' = H) (fun Nx nx => ?_) ?_
  · refine ⟨_, rfl, np, rfl, ⟨_, hN⟩, ?_⟩
    refine for_go (N := ps.length) (fun i σ H' => ∃ x3 x4 x5, σ = [some (.ref l), some (.ref np), some (.str (txS (ps.take i))), x3, x4, x5] ∧ H' = H) ⟨_, _, _, rfl, rfl⟩ ?_ ?_
    · rintro i σ H2 hi ⟨x3, x4, x5, rfl, rfl⟩
      refine ⟨⟨_, _, hN, nm_at hi⟩, ?_⟩
      rintro x H3 ⟨rfl, hy⟩
      have e := hy _ hN
      rw [nm_at hi] at e; cases e
      have hin := o _ (List.getElem_mem hi)
      have htx := tx_len g (fun r hr => o r (List.mem_of_mem_take hr) : Of bk (ps.take i))
      refine gn ?_
      refine ⟨_, rfl, l, rfl, ⟨_, hl⟩, ?_⟩
      refine for_go (N := bk.length) (fun j σ H' => ∃ x4 x5, σ = [some (.ref l), some (.ref np), some (.str (if ps[i] ∈ bk.take j then txS (ps.take (i + 1)) else txS (ps.take i))), some (.str ps[i].1), x4, x5] ∧ H' = H3) ⟨_, _, rfl, rfl⟩ ?_ ?_
      · rintro j σ H4 hj ⟨y4, y5, rfl, rfl⟩
        obtain ⟨tp, h1, h2⟩ := bk_at hd hj
        refine ⟨⟨_, _, hl, h1⟩, ?_⟩
        rintro x H5 ⟨rfl, hy⟩
        have e := hy _ hl
        rw [h1] at e; cases e
        refine ⟨tp, _, rfl, h2, rfl, _, _, rfl, _, _, rfl, rfl, ?_⟩
        refine ⟨_, rfl, _, rfl, .inl ⟨rfl, _, rfl, ite2 (fun e1 => ?_) (fun e1 => ?_)⟩⟩
        · have e1 : bk[j].1 = ps[i].1 := by have := of_decide_eq_true e1; injection this
          have e2 : bk[j] = ps[i] := one_of g.nm (List.getElem_mem hj) hin e1
          have hnot : ps[i] ∉ bk.take j := fun hm => by
            obtain ⟨k, hk, ek⟩ := List.mem_iff_getElem.mp hm
            rw [List.length_take] at hk
            rw [List.getElem_take] at ek
            have nd := List.pairwise_iff_getElem.mp (List.nodup_iff_pairwise_ne.mp g.nm) k j (by rw [List.length_map]; (first | lia | omega)) (by rw [List.length_map]; (first | lia | omega)) (by (first | lia | omega))
            rw [List.getElem_map, List.getElem_map, ek, e2] at nd
            exact nd rfl
          rw [if_neg hnot]
          refine ⟨_, rfl, _, rfl, .inr (.inl ⟨_, _, rfl, rfl, ?_, gn ⟨some (.str bk[j].1), some (.str bk[j].2), ?_, rfl⟩⟩)⟩
          · have h5 : (txS (ps.take i)).length = (tx (ps.take i)).length := by rw [str_len]; show (sg (txS (ps.take i))).length = _; rw [sg_tx]
            have h6 := (g.cd _ (List.getElem_mem hj)).le
            rw [h5]
            rw [List.length_take] at htx
            exact Nat.le_trans (show _ ≤ 10000 by (first | lia | omega)) (by decide)
          · rw [if_pos (by rw [take_next hj, e2]; exact List.mem_append_right _ (List.mem_singleton.mpr rfl)), take_next hi, ← txS_snoc, e2]; rfl
        · refine ⟨some (.str bk[j].1), some (.str bk[j].2), ?_, rfl⟩
          have hno : bk[j] ≠ ps[i] := fun z => e1 (decide_eq_true (by rw [z]))
          have : (ps[i] ∈ bk.take (j + 1)) ↔ ps[i] ∈ bk.take j := by
            rw [take_next hj, List.mem_append, List.mem_singleton]
            exact ⟨fun h => h.elim id fun z => absurd z.symm hno, .inl⟩
          simp only [this]
          rfl
      · rintro σ H4 ⟨y4, y5, rfl, rfl⟩
        rw [List.take_length, if_pos hin]
        exact ⟨⟨_, hl, by rw [bk_len hd]; exact Nat.le_refl _⟩, _, _, _, rfl, rfl⟩
    · rintro σ H2 ⟨x3, x4, x5, rfl, rfl⟩
      rw [List.take_length]
      exact ⟨⟨_, hN, by rw [nm_len]; exact Nat.le_refl _⟩, nx _ _ ⟨_, _, _, rfl, rfl⟩⟩
  rintro σ H2 ⟨x3, x4, x5, rfl, rfl⟩
  exact ⟨_, rfl, q⟩
end
end Z

set_option Elab.async false
set_option linter.all false
set_option maxRecDepth 100000
set_option maxHeartbeats 4000000
namespace Z
open PySem L2
theorem reads {bk : List (Str × Str)} (g : GoodB bk) : ∀ (n : Nat) (x : List Nat), x.length ≤ n → ∃ ps rs, Of bk ps ∧ x = tx ps ++ rs ∧ (∀ q ∈ bk, ¬ sg q.2 <+: rs) ∧ ps.length ≤ x.length
  | n, x, h => by
    by_cases hq : ∃ q ∈ bk, sg q.2 <+: x
    · obtain ⟨q, hq, y, e⟩ := hq
      have hpos := (g.cd q hq).pos
      rw [str_len] at hpos
      have hpos : 1 ≤ (sg q.2).length := hpos
      have hlen : x.length = (sg q.2).length + y.length := by rw [← e, List.length_append]
      cases n with
      | zero => (first | lia | omega)
      | succ n =>
        obtain ⟨ps, rs, o, e2, hn, hl⟩ := reads g n y (by (first | lia | omega))
        refine ⟨q :: ps, rs, fun z hz => ?_, ?_, hn, by rw [List.length_cons]; (first | lia | omega)⟩
        · rcases List.mem_cons.mp hz with rfl | hz
          · exact hq
          · exact o z hz
        · rw [← e, e2]
          show _ = (sg q.2 ++ tx ps) ++ rs
          rw [List.append_assoc]
    · exact ⟨[], x, (fun _ h => nomatch h), rfl, fun q hqb hp => hq ⟨q, hqb, hp⟩, Nat.zero_le _⟩
end Z

set_option Elab.async false
set_option linter.all false
set_option maxRecDepth 100000
set_option maxHeartbeats 4000000
namespace Z
open PySem L2
theorem wStr : ∀ {ds : List Str}, (∀ x ∈ ds, x.length ≤ 8) → PyData.weightAll (ds.map .str) ≤ 9 * ds.length ∧ PyData.depthAll (ds.map .str) = 0
  | [], _ => ⟨by simp [PyData.weightAll], by simp [PyData.depthAll]⟩
  | d :: ds, h => by
    have h1 := h d List.mem_cons_self
    have h2 := wStr (ds := ds) fun v hv => h v (List.mem_cons_of_mem _ hv)
    rw [List.map_cons]
    refine ⟨?_, ?_⟩
    · have hs : d.cps.size = d.length := rfl
      simp only [PyData.weightAll, PyData.weight, List.length_cons]; (first | lia | omega)
    · simp only [PyData.depthAll, PyData.depth]; (first | lia | omega)
theorem wNat : ∀ {ds : List Nat}, (∀ x ∈ ds, x ≤ 1000) → PyData.weightAll (ds.map fun (n : Nat) => .int n) ≤ 202 * ds.length ∧ PyData.depthAll (ds.map fun (n : Nat) => .int n) = 0
  | [], _ => ⟨by simp [PyData.weightAll], by simp [PyData.depthAll]⟩
  | d :: ds, h => by
    have h1 := h d List.mem_cons_self
    have h2 := wNat (ds := ds) fun v hv => h v (List.mem_cons_of_mem _ hv)
    have h3 := weight_int (i := (d : Int)) (Nat.lt_of_le_of_lt (show (d : Int).natAbs ≤ 1000 by (first | lia | omega)) (by decide))
    rw [List.map_cons]
    refine ⟨?_, ?_⟩
    · simp only [PyData.weightAll, List.length_cons]; (first | lia | omega)
    · simp only [PyData.depthAll, PyData.depth]; (first | lia | omega)
theorem dens_strs {K : PySem.W.Frag} {H : Hp} : ∀ (xs : List Str), Dens K H (xs.map .str) (xs.map V.str)
  | [] => by unfold Dens; rfl
  | x :: xs => by
    rw [List.map_cons, List.map_cons]
    unfold Dens
    exact ⟨_, _, rfl, by unfold Den; rfl, dens_strs xs⟩
theorem den2 {K : PySem.W.Frag} {H : Hp} {a b : V} {d e : PyData} (h1 : Den K H d a) (h2 : Den K H e b) : Dens K H [d, e] [a, b] := by
  unfold Dens
  refine ⟨_, _, rfl, h1, ?_⟩
  unfold Dens
  refine ⟨_, _, rfl, h2, ?_⟩
  unfold Dens
  rfl
theorem den_nm {K : PySem.W.Frag} {H : Hp} {p : Addr} {xs : List Str} (h : SqL K H p (xs.map V.str)) : Den K H (.list (xs.map .str)) (.ref p) := Den.list h (dens_strs xs)
end Z

set_option Elab.async false
set_option linter.all false
set_option maxRecDepth 100000
set_option maxHeartbeats 4000000
namespace Z
open PySem L2 PyProof.Rows
/-! texts written, or refused by a name (k07, k12) -/
theorem name_none {bk : List (Str × Str)} {n : Str} (h : n ∉ bk.map (·.1)) : valV (byName bk) (.inr n) = none :=
  val_none fun y hy e => h (by injection e with e; rw [← e]; exact List.mem_map_of_mem hy)
/-- the names that are none of the book's -/
noncomputable def bad (bk : List (Str × Str)) (ns : List Str) : List Str := ns.filter fun n => !decide (n ∈ bk.map (·.1))
theorem bad_nil {bk : List (Str × Str)} {ns : List Str} : bad bk ns = [] ↔ ∀ n ∈ ns, n ∈ bk.map (·.1) := by
  unfold bad
  rw [List.filter_eq_nil_iff]
  refine ⟨fun h n hn => ?_, fun h n hn => ?_⟩
  · have := h n hn
    simpa using this
  · simp only [h n hn, decide_true, Bool.not_true]; decide
theorem pairs_of {bk : List (Str × Str)} : ∀ {ns : List Str}, (∀ n ∈ ns, n ∈ bk.map (·.1)) → ∃ ps, Of bk ps ∧ ns = ps.map (·.1)
  | [], _ => ⟨[], (fun _ h => nomatch h), rfl⟩
  | n :: ns, h => by
    obtain ⟨q, hq, e⟩ := List.mem_map.mp (h n List.mem_cons_self)
    obtain ⟨ps, o, rfl⟩ := pairs_of fun m hm => h m (List.mem_cons_of_mem _ hm)
    refine ⟨q :: ps, fun z hz => ?_, by rw [List.map_cons, e]⟩
    rcases List.mem_cons.mp hz with rfl | hz
    · exact hq
    · exact o z hz
theorem bad_at {bk : List (Str × Str)} {ns : List Str} {i : Nat} (hi : i < ns.length) (h : ∀ n ∈ ns.take i, n ∈ bk.map (·.1)) (hn : ns[i] ∉ bk.map (·.1)) : ∃ xs, bad bk ns = ns[i] :: xs := by
  refine ⟨bad bk (ns.drop (i + 1)), ?_⟩
  have e : ns = ns.take i ++ ns[i] :: ns.drop (i + 1) := by rw [List.getElem_cons_drop, List.take_append_drop]
  have e2 : bad bk ns = bad bk (ns.take i) ++ bad bk (ns[i] :: ns.drop (i + 1)) := by
    unfold bad
    rw [← List.filter_append, ← e]
  rw [e2, bad_nil.mpr h, List.nil_append]
  unfold bad
  rw [List.filter_cons_of_pos (by simp only [hn, decide_false, Bool.not_false])]
noncomputable def spWrX (K : PySem.W.Frag) (C : Addr) : Sp := fun vs H Q E => ∃ (l np : Addr) (bk : List (Str × Str)) (ns : List Str), vs = [.ref l, .ref np] ∧ BkL K H bk l ∧ GoodB bk ∧ ns.length ≤ 100 ∧ SqL K H np (ns.map V.str) ∧
  (∀ ps, Of bk ps → ns = ps.map (·.1) → ∀ H', Same H H' → Q (.str (txS ps)) H') ∧
  (∀ x xs, bad bk ns = x :: xs → ∀ dx H', Same H H' → H' dx = some (.xd [("name", .str x)]) → E (.ref C) (some dx) H')
section
variable {P : Program} {w : World} {K : PySem.W.Frag} {mg : Str → Option Value} {base : Heap} {f fi : Addr} {fd fdi : FuncData} {C cO c1 c2 c3 c4 c5 c6 c7 : Addr}
theorem sc_ini_NoName : FnScope ["self", "name"] ["self", "name"] (defScope (inClass (top i_NoName) 0)) := ⟨rfl, rfl, rfl, by decide +kernel, rfl, by decide +kernel, by decide +kernel⟩
theorem ok_ini_NoName (F : Fun K "__init__" "NoName.__init__" (inClass (top i_NoName) 0) f fd) (S : ExcSt K C "name") : FnOk P w K mg base CX0 1 f fd ["self", "name"] (spIni C "name") := by
  refine F.ok sc_ini_NoName (fun vs H Q E h => ?_) (fun cdv A outer s H vs Q E hr h => ?_)
  · obtain ⟨e, v, rfl, _⟩ := h
    rfl
  obtain ⟨e, v, rfl, he, q⟩ := h
  refine ⟨_, (pss_one (ps_xfld (pv 0) (pv 1) rfl)), ?_⟩
  exact ⟨_, rfl, _, rfl, e, C, rfl, he, S, fun dx h1 h2 => q dx h1 h2⟩
theorem sc_written : FnScope ["book", "names", "codes", "name"] ["book", "names"] (defScope (top i_written)) := ⟨rfl, rfl, rfl, by decide +kernel, rfl, by decide +kernel, by decide +kernel⟩
theorem ok_wrx (F : Fun K "written" "written" (top i_written) f fd) (T : Nm mg) (g_NoName : mg "NoName" = some (.ref C)) (M_NoName : XMk K C fi) (F_NoName : FnOk P w K mg base CX0 1 fi fdi ["self", "name"] (spIni C "name")) (b_NoName : Binds K fdi ["self", "name"] []) :
    FnOk P w K mg base (CXE P w base) 3 f fd ["book", "names"] (spWrX K C) := by
  refine F.okX sc_written (fun vs H Q E h => ?_) (fun cdv A outer s H vs Q E hr h => ?_)
  · obtain ⟨l, np, bk, ns, rfl, _⟩ := h
    rfl
  obtain ⟨l, np, bk, ns, rfl, hB, g, hns, hN, qY, qN⟩ := h
  have hu := hu_of hr
  have hgl := g.le
  refine ⟨_, (pss_cons (ps_set (i := 2) sc_written.nd rfl (Or.inr rfl) (pe_dcomp rfl (comp_ok (Nc := ["name", "code"]) (Fc := []) (js := [])) (piK K (pv 0)) (gk_tup (gks_cons (gk_name (i := 0) (n := 2) (by decide)) (gks_cons (gk_name (i := 1) (n := 2) (by decide)) gks_nil gm_name gms_nil) gm_name (gms_cons gm_name gms_nil))) (fun _ _ _ _ _ => (tupK K 2 rfl (pgs_cons (pg_name (i := 0) (show (["name", "code"] : List Str).Nodup by decide +kernel) rfl (Or.inl rfl)) (pgs_cons (pg_name (i := 1) (show (["name", "code"] : List Str).Nodup by decide +kernel) rfl (Or.inl rfl)) pgs_nil)))) (fun _ _ _ _ _ => pts_nil) (fun _ _ _ _ _ => (pv 0)) (fun _ _ _ _ _ => (pv 1))))
    (pss_cons (ps_for PassesOwn.leaving rfl (piK K (pv 1)) (pg_name (i := 3) sc_written.nd rfl (Or.inl rfl)) (pss_one (ps_if (pt_cmp (pc_dnotin hu (pv 3) (pv 2))) (pss_one (ps_raiseM (k := 1) M_NoName F_NoName (hr.mono (by decide)) rfl g_NoName b_NoName (pa_cons (pv 3) pa_nil))) pss_nil)))
    (pss_one (ps_ret (bmK K PySem.F.plainAttrs_str PySem.F.slot_str_join PySem.F.type_str_join (joinK K) pe_str (pa_cons (pe_lcomp rfl (comp_ok (Nc := ["name"]) (Fc := ["codes"]) (js := [2])) (piK K (pv 1)) (gk_name (i := 0) (n := 1) (by decide)) (fun _ _ _ _ _ => (pg_name (i := 0) (show (["name", "codes"] : List Str).Nodup by decide +kernel) rfl (Or.inl rfl))) (fun _ _ _ _ _ => pts_nil) (fun _ _ _ _ _ => (pe_dget hu (pv 1) (pv 0) (fun _ _ => rfl)))) pa_nil)))))), ?_⟩
  refine asgCut (te := tDComp _ _ _ _ _ _ _) (fun v H' => ∃ D, v = .ref D ∧ New H D (.dK (byName bk)) H') (fun Qn qn => ?_) ?_
  · obtain ⟨vs, hl, hd⟩ := id hB
    exact ⟨_, rfl, l, rfl, ⟨_, hl⟩, fun D hD => dbook (f := fun q => (.inr q.1, .str q.2)) (inr_nodup g.nm) (by (first | lia | omega)) (fun q H Q h => ⟨_, rfl, h⟩) (fun q H Q h => ⟨_, rfl, h⟩) hB hD (qn _ _ ⟨D, rfl, hD, rfl⟩)⟩
  rintro v H1 ⟨D, rfl, n1⟩
  refine gn ?_
  have hN1 := n1.same.seq hN
  have ats : ∀ {i : Nat} (hi : i < ns.length), (ns.map V.str)[i]? = some (.str ns[i]) := fun hi => by rw [List.getElem?_map, List.getElem?_eq_getElem hi]; rfl
  refine seqCut (t := tFor _ _ _) (fun σ H' => ∃ x3, σ = [some (.ref l), some (.ref np), some (.ref D), x3] ∧ H' = H1 ∧ ∀ n ∈ ns, n ∈ bk.map (·.1)) (fun Nx nx => ?_) ?_
  · refine ⟨_, rfl, np, rfl, ⟨_, hN1⟩, ?_⟩
    refine for_go (N := ns.length) (fun i σ H' => ∃ x3, σ = [some (.ref l), some (.ref np), some (.ref D), x3] ∧ H' = H1 ∧ ∀ n ∈ ns.take i, n ∈ bk.map (·.1)) ⟨_, rfl, rfl, fun n hn => by simp at hn⟩ ?_ ?_
    · rintro i σ H2 hi ⟨x3, rfl, rfl, hk⟩
      refine ⟨⟨_, _, hN1, ats hi⟩, ?_⟩
      rintro x H3 ⟨rfl, hy⟩
      have e := hy _ hN1
      rw [ats hi] at e; cases e
      by_cases hin : ns[i] ∈ bk.map (·.1)
      · obtain ⟨z, hz, ez⟩ := List.mem_map.mp hin
        refine gn ⟨_, rfl, _, rfl, D, some (.str z.2), rfl, .inl ⟨_, .inr ns[i], .inl n1.at, rfl, (by rw [← ez]; exact (g.name hz).symm)⟩, _, rfl, iteF ⟨_, rfl, rfl, fun n hn => ?_⟩⟩
        rw [take_next hi] at hn
        rcases List.mem_append.mp hn with hn | hn
        · exact hk n hn
        · rw [List.mem_singleton.mp hn]; exact hin
      · refine gn ⟨_, rfl, _, rfl, D, none, rfl, .inl ⟨_, .inr ns[i], .inl n1.at, rfl, (name_none hin).symm⟩, _, rfl, iteT ?_⟩
        obtain ⟨xs, hbad⟩ := bad_at hi hk hin
        refine ⟨_, rfl, by show 1 ≤ 1000; decide, fun e he => ⟨e, .str ns[i], rfl, upd_same, fun dx d1 d2 => ⟨rfl, e, dx, rfl, ?_, n1.back he, qN _ _ hbad dx _ (fun a o z => ?_) ?_⟩⟩⟩
        · rw [upd_ne (Ne.symm d2), upd_same]
        · have z1 := n1.same _ _ z
          have na : a ≠ e := ne_of_none z1 he
          have nd : a ≠ dx := fun y => by
            rw [upd_ne d2, ← y, z1] at d1
            cases d1
          rw [drp_ne na, upd_ne nd, upd_ne na, upd_ne na]
          exact z1
        · rw [drp_ne d2, upd_same]
    · rintro σ H2 ⟨x3, rfl, rfl, hk⟩
      rw [List.take_length] at hk
      exact ⟨⟨_, hN1, by rw [List.length_map]; exact Nat.le_refl _⟩, nx _ _ ⟨_, rfl, rfl, hk⟩⟩
  rintro σ H2 ⟨x3, rfl, rfl, hk⟩
  obtain ⟨ps, o, rfl⟩ := pairs_of hk
  rw [List.length_map] at hns
  refine ⟨rfl, _, rfl, np, rfl, ⟨_, hN1⟩, ?_⟩
  refine comp_go (N := ps.length) (fun i ys H' => H' = H2 ∧ ys = ((ps.take i).map (·.2)).map V.str) ⟨rfl, rfl⟩ ?_ ?_
  · rintro i ys H3 Ny hi ⟨rfl, rfl⟩ ny
    refine ⟨⟨_, _, hN1, nm_at hi⟩, by rw [List.length_map, List.length_map, List.length_take]; exact Nat.lt_of_le_of_lt (show min i ps.length ≤ 1000 by (first | lia | omega)) (by decide), ?_⟩
    rintro x H4 ⟨rfl, hy⟩
    have e := hy _ hN1
    rw [nm_at hi] at e; cases e
    refine gn ⟨_, rfl, _, rfl, D, .str ps[i].2, rfl, .inl ⟨_, .inr ps[i].1, .inl n1.at, rfl, (g.name (o _ (List.getElem_mem hi))).symm⟩, ny _ _ ⟨rfl, ?_⟩⟩
    rw [take_next hi, List.map_append, List.map_append]; rfl
  · rintro ys H3 ⟨rfl, rfl⟩
    refine ⟨⟨_, hN1, by rw [nm_len]; exact Nat.le_refl _⟩, fun p3 hp3 => ?_⟩
    rw [List.take_length]
    refine ⟨"", p3, ps.map (·.2), rfl, rfl, SqL.of upd_same, ?_, ?_⟩
    · have h1 := sum_tx ps
      have h2 := tx_len g o
      have e0 : Str.length "" = 0 := rfl
      rw [h1, e0]
      (first | lia | omega)
    · rw [join_tx]
      exact qY _ o rfl _ (n1.same.trans (same_new hp3 _))
end
end Z

set_option Elab.async false
set_option linter.all false
set_option maxRecDepth 100000
set_option maxHeartbeats 4000000
namespace Z
open PySem L2
/-! things changed all the way down, things copied all the way down (k12) -/
mutual
/-- the data at v; its lists, all of them -/
noncomputable def Ft (K : PySem.W.Frag) (H : Hp) : PyData → V → List Addr → Prop
  | .list ds, v, fp => ∃ l vs g, v = .ref l ∧ H l = some (.lst vs) ∧ Fts K H ds vs g ∧ fp = l :: g
  | .tuple ds, v, fp => ∃ p vs, v = .ref p ∧ H p = some (.tup vs) ∧ Fts K H ds vs fp
  | .dict _, _, _ => False
  | d, v, fp => Den K H d v ∧ fp = []
noncomputable def Fts (K : PySem.W.Frag) (H : Hp) : List PyData → List V → List Addr → Prop
  | [], vs, fp => vs = [] ∧ fp = []
  | d :: ds, vs, fp => ∃ v us f g, vs = v :: us ∧ Ft K H d v f ∧ Fts K H ds us g ∧ fp = f ++ g
end
mutual
theorem Ft.den {K : PySem.W.Frag} {H : Hp} : ∀ {d : PyData} {v : V} {fp : List Addr}, Ft K H d v fp → Den K H d v
  | .list ds, v, fp, h => by
    unfold Ft at h
    obtain ⟨l, vs, g, rfl, h1, h2, _⟩ := h
    exact Den.list (SqL.of h1) (Fts.dens h2)
  | .tuple ds, v, fp, h => by
    unfold Ft at h
    obtain ⟨p, vs, rfl, h1, h2⟩ := h
    unfold Den
    exact ⟨p, vs, rfl, SqT.of h1, Fts.dens h2⟩
  | .dict _, v, fp, h => by unfold Ft at h; exact h.elim
  | .none, v, fp, h => by unfold Ft at h; exact h.1
  | .bool _, v, fp, h => by unfold Ft at h; exact h.1
  | .int _, v, fp, h => by unfold Ft at h; exact h.1
  | .str _, v, fp, h => by unfold Ft at h; exact h.1
theorem Fts.dens {K : PySem.W.Frag} {H : Hp} : ∀ {ds : List PyData} {vs : List V} {fp : List Addr}, Fts K H ds vs fp → Dens K H ds vs
  | [], vs, fp, h => by unfold Fts at h; unfold Dens; exact h.1
  | d :: ds, vs, fp, h => by
    unfold Fts at h
    obtain ⟨v, us, f, g, rfl, h1, h2, _⟩ := h
    unfold Dens
    exact ⟨v, us, rfl, Ft.den h1, Fts.dens h2⟩
end
mutual
theorem Ft.lists {K : PySem.W.Frag} {H : Hp} : ∀ {d : PyData} {v : V} {fp : List Addr}, Ft K H d v fp → ∀ a ∈ fp, ∃ vs, H a = some (.lst vs)
  | .list ds, v, fp, h => by
    unfold Ft at h
    obtain ⟨l, vs, g, rfl, h1, h2, rfl⟩ := h
    intro a ha
    rcases List.mem_cons.mp ha with rfl | ha
    · exact ⟨vs, h1⟩
    · exact Fts.lists h2 a ha
  | .tuple ds, v, fp, h => by
    unfold Ft at h
    obtain ⟨p, vs, rfl, h1, h2⟩ := h
    exact Fts.lists h2
  | .dict _, v, fp, h => by unfold Ft at h; exact h.elim
  | .none, v, fp, h => by unfold Ft at h; rw [h.2]; exact fun a ha => nomatch ha
  | .bool _, v, fp, h => by unfold Ft at h; rw [h.2]; exact fun a ha => nomatch ha
  | .int _, v, fp, h => by unfold Ft at h; rw [h.2]; exact fun a ha => nomatch ha
  | .str _, v, fp, h => by unfold Ft at h; rw [h.2]; exact fun a ha => nomatch ha
theorem Fts.lists {K : PySem.W.Frag} {H : Hp} : ∀ {ds : List PyData} {vs : List V} {fp : List Addr}, Fts K H ds vs fp → ∀ a ∈ fp, ∃ vs, H a = some (.lst vs)
  | [], vs, fp, h => by unfold Fts at h; rw [h.2]; exact fun a ha => nomatch ha
  | d :: ds, vs, fp, h => by
    unfold Fts at h
    obtain ⟨v, us, f, g, rfl, h1, h2, rfl⟩ := h
    intro a ha
    rcases List.mem_append.mp ha with ha | ha
    · exact Ft.lists h1 a ha
    · exact Fts.lists h2 a ha
end
/-- all but the lists X stands -/
noncomputable def But (X : List Addr) (H H' : Hp) : Prop := ∀ a o, a ∉ X → H a = some o → H' a = some o
theorem But.same {X : List Addr} {H H' : Hp} (s : Same H H') : But X H H' := fun a o _ e => s a o e
theorem But.trans {X : List Addr} {H H1 H2 : Hp} (a : But X H H1) (b : But X H1 H2) : But X H H2 := fun x o n e => b x o n (a x o n e)
theorem But.more {X Y : List Addr} {H H' : Hp} (a : But X H H') (h : ∀ x ∈ X, x ∈ Y) : But Y H H' := fun x o n e => a x o (fun z => n (h x z)) e
theorem But.under {X : List Addr} {G H H' : Hp} (b : But X H H') (s : Same G H) (h : ∀ a ∈ X, G a = none) : Same G H' := fun a o e => b a o (fun z => by rw [h a z] at e; cases e) (s a o e)
mutual
theorem Ft.move {K : PySem.W.Frag} {H H' : Hp} {X : List Addr} (b : But X H H') (hX : ∀ a ∈ X, ∀ vs, H a ≠ some (.tup vs)) : ∀ {d : PyData} {v : V} {fp : List Addr}, Ft K H d v fp → (∀ a ∈ fp, a ∉ X) → Ft K H' d v fp
  | .list ds, v, fp, h, n => by
    unfold Ft at h
    obtain ⟨l, vs, g, rfl, h1, h2, rfl⟩ := h
    unfold Ft
    exact ⟨l, vs, g, rfl, b l _ (n l List.mem_cons_self) h1, Fts.move b hX h2 fun a ha => n a (List.mem_cons_of_mem _ ha), rfl⟩
  | .tuple ds, v, fp, h, n => by
    unfold Ft at h
    obtain ⟨p, vs, rfl, h1, h2⟩ := h
    unfold Ft
    refine ⟨p, vs, rfl, b p _ (fun z => ?_) h1, Fts.move b hX h2 n⟩
    exact hX p z _ h1
  | .dict _, v, fp, h, _ => by unfold Ft at h; exact h.elim
  | .none, v, fp, h, _ => by unfold Ft at h ⊢; refine ⟨?_, h.2⟩; have := h.1; unfold Den at this ⊢; exact this
  | .bool _, v, fp, h, _ => by unfold Ft at h ⊢; refine ⟨?_, h.2⟩; have := h.1; unfold Den at this ⊢; exact this
  | .int _, v, fp, h, _ => by unfold Ft at h ⊢; refine ⟨?_, h.2⟩; have := h.1; unfold Den at this ⊢; exact this
  | .str _, v, fp, h, _ => by unfold Ft at h ⊢; refine ⟨?_, h.2⟩; have := h.1; unfold Den at this ⊢; exact this
theorem Fts.move {K : PySem.W.Frag} {H H' : Hp} {X : List Addr} (b : But X H H') (hX : ∀ a ∈ X, ∀ vs, H a ≠ some (.tup vs)) : ∀ {ds : List PyData} {vs : List V} {fp : List Addr}, Fts K H ds vs fp → (∀ a ∈ fp, a ∉ X) → Fts K H' ds vs fp
  | [], vs, fp, h, _ => by unfold Fts at h ⊢; exact h
  | d :: ds, vs, fp, h, n => by
    unfold Fts at h
    obtain ⟨v, us, f, g, rfl, h1, h2, rfl⟩ := h
    unfold Fts
    exact ⟨v, us, f, g, rfl, Ft.move b hX h1 fun a ha => n a (List.mem_append_left _ ha), Fts.move b hX h2 fun a ha => n a (List.mem_append_right _ ha), rfl⟩
end
/-- the lists of each thing by itself -/
theorem Fts.parts {K : PySem.W.Frag} {H : Hp} : ∀ {ds : List PyData} {us : List V} {g : List Addr}, Fts K H ds us g → ∃ fs : List (List Addr), fs.length = us.length ∧ ds.length = us.length ∧ g = fs.flatten ∧ ∀ (i : Nat) d v f, ds[i]? = some d → us[i]? = some v → fs[i]? = some f → Ft K H d v f
  | [], us, g, h => by
    unfold Fts at h
    obtain ⟨rfl, rfl⟩ := h
    exact ⟨[], rfl, rfl, rfl, fun i d v f e => by simp at e⟩
  | d :: ds, us, g, h => by
    unfold Fts at h
    obtain ⟨v, us, f, g, rfl, h1, h2, rfl⟩ := h
    obtain ⟨fs, e1, e2, rfl, h3⟩ := Fts.parts h2
    refine ⟨f :: fs, by simp [e1], by simp [e2], rfl, fun i d' v' f' a b c => ?_⟩
    cases i with
    | zero => cases a; cases b; cases c; exact h1
    | succ i => exact h3 i d' v' f' a b c
noncomputable def spCh (K : PySem.W.Frag) (n : Nat) : Sp := fun vs H Q _ => ∃ (v : V) (d : PyData) (fp : List Addr), vs = [v] ∧ Ft K H d v fp ∧ fp.Nodup ∧ d.depth < n ∧ d.weight ≤ 1000000 ∧ ∀ H', But fp H H' → Q .non H'
noncomputable def spKp (K : PySem.W.Frag) (n : Nat) : Sp := fun vs H Q _ => ∃ (v : V) (d : PyData) (_ : Unit), vs = [v] ∧ Den K H d v ∧ True ∧ d.depth < n ∧ d.weight ≤ 1000000 ∧ ∀ v' H', Same H H' → Den K (newOf H H') d v' → Q v' H'
theorem depth_mem {d : PyData} : ∀ {ds : List PyData}, d ∈ ds → d.depth ≤ PyData.depthAll ds
  | [], h => nomatch h
  | e :: ds, h => by
    simp only [PyData.depthAll]
    rcases List.mem_cons.mp h with rfl | h
    · (first | lia | omega)
    · have := depth_mem h; (first | lia | omega)
section
variable {P : Program} {w : World} {K : PySem.W.Frag} {mg : Str → Option Value} {base : Heap} {f : Addr} {fd : FuncData}
theorem sc_law_changed : FnScope ["_law_thing", "_law_one"] ["_law_thing"] (defScope (top i_law_changed)) := ⟨rfl, rfl, rfl, by decide +kernel, rfl, by decide +kernel, by decide +kernel⟩
theorem ok_ch {n : Nat} (F : Fun K "_law_changed" "_law_changed" (top i_law_changed) f fd) (T : Nm mg) (f_law_changed : Fn P w K mg base n "_law_changed" ["_law_thing"] (spCh K n)) : FnOk P w K mg base CX0 (n + 1) f fd ["_law_thing"] (spCh K (n + 1)) := by
  refine F.ok sc_law_changed (fun vs H Q E h => ?_) (fun cdv A outer s H vs Q E hr h => ?_)
  · obtain ⟨v, d, fp, rfl, _⟩ := h
    rfl
  obtain ⟨v, d, fp, rfl, hF, nd, hn, hw, q⟩ := h
  refine ⟨_, (pss_cons (ps_if (pt_val (pe_callB (isiTK K) rfl T.n_isinstance (by rfl) (pa_cons (pv 0) (pa_cons (tupN (pa_cons (pe_bltn rfl T.n_list (by rfl) (v := .ty "list") rfl) (pa_cons (pe_bltn rfl T.n_tuple (by rfl) (v := .ty "tuple") rfl) pa_nil))) pa_nil)))) (pss_one (ps_for PassesOwn.never rfl (pi_or (piK K (pv 0)) (pi_tupK K (pv 0))) (pg_name (i := 1) sc_law_changed.nd rfl (Or.inl rfl)) (pss_one (ps_expr (pe_fn (f_law_changed.mono (by first | decide | exact Nat.le_refl _ | (first | lia | omega))) hr rfl (pa_cons (pv 1) pa_nil)))))) pss_nil)
    (pss_one (ps_if (pt_val (pe_callB (isiK K) rfl T.n_isinstance (by rfl) (pa_cons (pv 0) (pa_cons (pe_bltn rfl T.n_list (by rfl) (v := .ty "list") rfl) pa_nil)))) (pss_cons (ps_expr (bm0K K PySem.F.plainAttrs_list PySem.F.slot_list_reverse PySem.F.type_list_reverse reverseN (pv 0)))
    (pss_one (ps_expr (bmK K PySem.F.plainAttrs_list PySem.F.slot_list_append PySem.F.type_list_append appendN (pv 0) (pa_cons pe_str pa_nil))))) pss_nil))), ?_⟩
  have hD := hF.den
  have walk : ∀ {ds : List PyData} {us : List V} {g X : List Addr} {H1 : Hp} {J : It} {Nx : St → Hp → Prop} {R : VK} {x1 : Option V}, Same H H1 → Fts K H ds us g → g.Nodup → (∀ e ∈ ds, e.depth < n ∧ e.weight ≤ 1000000) →
      (∀ i H', But g H H' → i < us.length → J.go i H' ∧ ∀ x H2, J.yld i H' x H2 → H2 = H' ∧ us[i]? = some x) → (∀ H', But g H H' → J.stop us.length H') → (∀ x1 H', But g H H' → Nx [some v, x1] H') →
      ∃ W : Nat → Nat → St → Hp → Prop, (∃ m, W 0 m [some v, x1] H1) ∧ ∀ i m σ H, W i m σ H →
      (J.stop i H ∧ Nx σ H) ∨ (J.go i H ∧ ∃ N : St → Hp → Prop, (∀ σ' H', N σ' H' → ∃ m', m' < m ∧ W (i + 1) m' σ' H') ∧ ∀ x H', J.yld i H x H' → gName 1 x σ H' fun σ2 H2 => tDrop (tCall (spCh K n) [] E0 (tCons (tVar 1) tNil)) { nx := N, rt := R, ct := N, bk := Nx } σ2 H2) := by
    intro ds us g X H1 J Nx R x1 s1 hFs ndg hsm go stop nx
    obtain ⟨fs, e1, e2, rfl, h3⟩ := hFs.parts
    refine for_go (D := { nx := Nx, rt := R }) (N := us.length) (fun i σ H' => ∃ x1, σ = [some v, x1] ∧ But (fs.take i).flatten H H') ⟨x1, rfl, But.same s1⟩ ?_ ?_
    · rintro i σ H2 hi ⟨x1, rfl, b0⟩
      have hfi : i < fs.length := by (first | lia | omega)
      have split : fs.flatten = (fs.take i).flatten ++ (fs[i] ++ (fs.drop (i + 1)).flatten) := by
        rw [← List.flatten_cons, ← List.flatten_append, List.getElem_cons_drop, List.take_append_drop]
      have sub0 : ∀ x ∈ (fs.take i).flatten, x ∈ fs.flatten := fun x hx => by rw [split]; exact List.mem_append_left _ hx
      obtain ⟨go1, go2⟩ := go i H2 (b0.more sub0) hi
      refine ⟨go1, fun x H3 hy => ?_⟩
      obtain ⟨rfl, ex⟩ := go2 x H3 hy
      refine gn ⟨_, rfl, ?_⟩
      have hdi : i < ds.length := by (first | lia | omega)
      have hF0 := h3 i ds[i] x fs[i] (List.getElem?_eq_getElem hdi) ex (List.getElem?_eq_getElem hfi)
      have nd2 := ndg
      rw [split] at nd2
      obtain ⟨_, nd3, dis⟩ := List.nodup_append.mp nd2
      obtain ⟨nd4, _, _⟩ := List.nodup_append.mp nd3
      have lists0 : ∀ a ∈ (fs.take i).flatten, ∀ vs, H a ≠ some (.tup vs) := fun a ha vs e => by
        obtain ⟨us', e'⟩ := hFs.lists a (sub0 a ha)
        rw [e'] at e; cases e
      have hF1 := hF0.move b0 lists0 fun a ha hb => dis a hb a (List.mem_append_left _ ha) rfl
      obtain ⟨hd1, hw1⟩ := hsm _ (List.getElem_mem hdi)
      refine ⟨x, ds[i], fs[i], rfl, hF1, nd4, hd1, hw1, fun H4 b4 => ⟨_, rfl, ?_⟩⟩
      rw [List.take_succ_eq_append_getElem hfi, List.flatten_append]
      have b5 : But (fs.take i).flatten H H3 := b0
      exact (b5.more fun y hy => List.mem_append_left _ hy).trans (b4.more fun y hy => List.mem_append_right _ (by simpa using hy))
    · rintro σ H2 ⟨x1, rfl, b0⟩
      rw [← e1, List.take_length] at b0
      exact ⟨stop H2 b0, nx _ _ b0⟩
  cases d with
  | none =>
    refine ⟨_, rfl, by show 2 ≤ sizeLine; decide, fun p H1 n1 => ⟨_, p, ["list", "tuple"], .none, false, rfl, n1.at, hD.same n1.same, rfl, _, rfl, iteF ?_⟩⟩
    refine ⟨_, rfl, .inl ⟨_, "list", .none, false, rfl, hD.same n1.same, rfl, _, rfl, iteF ?_⟩⟩
    exact q H1 (But.same n1.same)
  | bool b =>
    refine ⟨_, rfl, by show 2 ≤ sizeLine; decide, fun p H1 n1 => ⟨_, p, ["list", "tuple"], (.bool b), false, rfl, n1.at, hD.same n1.same, rfl, _, rfl, iteF ?_⟩⟩
    refine ⟨_, rfl, .inl ⟨_, "list", (.bool b), false, rfl, hD.same n1.same, rfl, _, rfl, iteF ?_⟩⟩
    exact q H1 (But.same n1.same)
  | int b =>
    refine ⟨_, rfl, by show 2 ≤ sizeLine; decide, fun p H1 n1 => ⟨_, p, ["list", "tuple"], (.int b), false, rfl, n1.at, hD.same n1.same, rfl, _, rfl, iteF ?_⟩⟩
    refine ⟨_, rfl, .inl ⟨_, "list", (.int b), false, rfl, hD.same n1.same, rfl, _, rfl, iteF ?_⟩⟩
    exact q H1 (But.same n1.same)
  | str b =>
    refine ⟨_, rfl, by show 2 ≤ sizeLine; decide, fun p H1 n1 => ⟨_, p, ["list", "tuple"], (.str b), false, rfl, n1.at, hD.same n1.same, rfl, _, rfl, iteF ?_⟩⟩
    refine ⟨_, rfl, .inl ⟨_, "list", (.str b), false, rfl, hD.same n1.same, rfl, _, rfl, iteF ?_⟩⟩
    exact q H1 (But.same n1.same)
  | dict b => unfold Ft at hF; exact hF.elim
  | list ds =>
    have hF' := hF
    unfold Ft at hF'
    obtain ⟨l, us, g, rfl, hl, hFs, rfl⟩ := hF'
    obtain ⟨nl, ndg⟩ := List.nodup_cons.mp nd
    have hsm : ∀ e ∈ ds, e.depth < n ∧ e.weight ≤ 1000000 := fun e he => by
      simp only [PyData.depth] at hn
      rw [PyData.weight] at hw
      have := depth_mem he
      exact ⟨by (first | lia | omega), weight_at (by (first | lia | omega)) he⟩
    have hul : us.length ≤ 1000000 := by
      obtain ⟨fs, e1, e2, _, _⟩ := hFs.parts
      rw [PyData.weight] at hw
      have := len_weight ds
      (first | lia | omega)
    refine ⟨_, rfl, by show 2 ≤ sizeLine; decide, fun p H1 n1 => ⟨_, p, ["list", "tuple"], .list ds, true, rfl, n1.at, hD.same n1.same, rfl, _, rfl, iteT ?_⟩⟩
    refine .inl ⟨_, rfl, l, rfl, ⟨_, SqL.of (n1.same _ _ hl)⟩, ?_⟩
    refine walk (X := []) n1.same hFs ndg hsm (fun i H' b hi => ?_) (fun H' b => ⟨_, SqL.of (b l _ nl hl), Nat.le_refl _⟩) fun x1 H' b => ?_
    · have h' := b l _ nl hl
      refine ⟨⟨_, _, SqL.of h', List.getElem?_eq_getElem hi⟩, ?_⟩
      rintro x H2 ⟨rfl, hy⟩
      exact ⟨rfl, hy _ (SqL.of h')⟩
    · have h' := b l _ nl hl
      refine ⟨_, rfl, .inr ⟨_, "list", _, true, rfl, .lst h', rfl, _, rfl, iteT ?_⟩⟩
      refine ⟨_, rfl, .inl ⟨rfl, _, SqL.of h'⟩, l, _, rfl, rfl, h', fun H2 c2 => ?_⟩
      refine ⟨_, rfl, .inl ⟨rfl, _, SqL.of c2.at⟩, l, _, _, rfl, rfl, c2.at, Nat.lt_of_le_of_lt (show _ ≤ 1000000 by rw [List.length_reverse]; exact hul) (by decide), fun H3 c3 => ?_⟩
      refine q H3 fun a o na e => ?_
      have n0 : a ≠ l := fun z => na (by rw [z]; exact List.mem_cons_self)
      rw [c3.ne n0, c2.ne n0]
      exact b a o (fun z => na (List.mem_cons_of_mem _ z)) e
  | tuple ds =>
    have hF' := hF
    unfold Ft at hF'
    obtain ⟨l, us, rfl, hl, hFs⟩ := hF'
    have nl : l ∉ fp := fun z => by
      obtain ⟨vs, e⟩ := hFs.lists l z
      rw [hl] at e; cases e
    have hsm : ∀ e ∈ ds, e.depth < n ∧ e.weight ≤ 1000000 := fun e he => by
      simp only [PyData.depth] at hn
      rw [PyData.weight] at hw
      have := depth_mem he
      exact ⟨by (first | lia | omega), weight_at (by (first | lia | omega)) he⟩
    refine ⟨_, rfl, by show 2 ≤ sizeLine; decide, fun p H1 n1 => ⟨_, p, ["list", "tuple"], .tuple ds, true, rfl, n1.at, hD.same n1.same, rfl, _, rfl, iteT ?_⟩⟩
    refine .inr ⟨_, rfl, l, rfl, ⟨_, SqT.of (n1.same _ _ hl)⟩, ?_⟩
    refine walk (X := []) n1.same hFs nd hsm (fun i H' b hi => ?_) (fun H' b => ⟨_, SqT.of (b l _ nl hl), Nat.le_refl _⟩) fun x1 H' b => ?_
    · have h' := b l _ nl hl
      refine ⟨⟨_, _, SqT.of h', List.getElem?_eq_getElem hi⟩, ?_⟩
      rintro x H2 ⟨rfl, hy⟩
      exact ⟨rfl, hy _ (SqT.of h')⟩
    · have h' := b l _ nl hl
      refine ⟨_, rfl, .inr ⟨_, "list", _, false, rfl, .tup h', rfl, _, rfl, iteF ?_⟩⟩
      exact q H' b
end
end Z

set_option Elab.async false
set_option linter.all false
set_option maxRecDepth 100000
set_option maxHeartbeats 4000000
namespace Z
open PySem L2
section
variable {P : Program} {w : World} {K : PySem.W.Frag} {mg : Str → Option Value} {base : Heap} {f : Addr} {fd : FuncData}
theorem kp_comp {n : Nat} {H : Hp} {σ : St} {ds : List PyData} {us : List V} {J : It} {fin : List V → Hp → Prop} (hd : Dens K H ds us) (hsm : ∀ e ∈ ds, e.depth < n ∧ e.weight ≤ 1000000) (hle : us.length ≤ 1000000)
    (go : ∀ i H', Same H H' → i < us.length → J.go i H' ∧ ∀ x H2, J.yld i H' x H2 → H2 = H' ∧ us[i]? = some x) (stop : ∀ H', Same H H' → J.stop us.length H') (q : ∀ vs H', Same H H' → Dens K (newOf H H') ds vs → vs.length = us.length → fin vs H') :
    CompW J 1 [] (gName 0) tYes (tCall (spKp K n) [] E0 (tCons (tVar 0) tNil)) σ H fin := by
  have hl : ds.length = us.length := hd.len.symm
  refine comp_go (N := us.length) (fun i ys H' => Same H H' ∧ Dens K (newOf H H') (ds.take i) ys ∧ ys.length = i) ⟨Same.refl _, by rw [List.take_zero]; unfold Dens; rfl, rfl⟩ ?_ ?_
  · rintro i ys H1 Nx hi ⟨s1, d1, hyl⟩ nx
    obtain ⟨g1, g2⟩ := go i H1 s1 hi
    refine ⟨g1, by rw [hyl]; exact Nat.lt_of_lt_of_le hi (Nat.le_trans hle (by decide)), fun x H2 hy => ?_⟩
    obtain ⟨rfl, ex⟩ := g2 x H2 hy
    have hdi : i < ds.length := by (first | lia | omega)
    have hx := densAt (hd.same s1) (List.getElem?_eq_getElem hdi) ex
    obtain ⟨c2, c3⟩ := hsm _ (List.getElem_mem hdi)
    refine gn ?_
    dsimp only [tYes]
    rw [if_pos rfl]
    refine ⟨_, rfl, x, ds[i], (), rfl, hx, trivial, c2, c3, fun v' H3 s3 d3 => nx _ _ ⟨s1.trans s3, ?_, by rw [List.length_append, hyl]; rfl⟩⟩
    rw [List.take_succ_eq_append_getElem hdi]
    exact densApp (d1.same (newOf_more s3)) (d3.same (newOf_less s1))
  · rintro ys H1 ⟨s1, d1, hyl⟩
    rw [← hl, List.take_length] at d1
    exact ⟨stop H1 s1, q ys H1 s1 d1 hyl⟩
theorem sc_law_kept : FnScope ["_law_thing"] ["_law_thing"] (defScope (top i_law_kept)) := ⟨rfl, rfl, rfl, by decide +kernel, rfl, by decide +kernel, by decide +kernel⟩
theorem ok_kp {n : Nat} (F : Fun K "_law_kept" "_law_kept" (top i_law_kept) f fd) (T : Nm mg) (f_law_kept : Fn P w K mg base n "_law_kept" ["_law_thing"] (spKp K n)) : FnOk P w K mg base CX0 (n + 1) f fd ["_law_thing"] (spKp K (n + 1)) := by
  refine F.ok sc_law_kept (fun vs H Q E h => ?_) (fun cdv A outer s H vs Q E hr h => ?_)
  · obtain ⟨v, d, _, rfl, _⟩ := h
    rfl
  obtain ⟨v, d, _, rfl, hD, _, hn, hw, q⟩ := h
  refine ⟨_, (pss_cons (ps_if (pt_val (pe_callB (isiK K) rfl T.n_isinstance (by rfl) (pa_cons (pv 0) (pa_cons (pe_bltn rfl T.n_tuple (by rfl) (v := .ty "tuple") rfl) pa_nil)))) (pss_one (ps_ret (pe_callTy (tupleN K) rfl T.n_tuple (by rfl) (pa_cons (pe_lcomp rfl (comp_ok (Nc := ["_law_one"]) (Fc := []) (js := [])) (pi_or (piK K (pv 0)) (pi_tupK K (pv 0))) (gk_name (i := 0) (n := 1) (by decide)) (fun _ _ _ _ _ => (pg_name (i := 0) (show (["_law_one"] : List Str).Nodup by decide +kernel) rfl (Or.inl rfl))) (fun _ _ _ _ _ => pts_nil) (fun _ _ _ _ _ => (pe_fn (f_law_kept.mono (by first | decide | exact Nat.le_refl _ | (first | lia | omega))) hr rfl (pa_cons (pv 0) pa_nil)))) pa_nil)))) pss_nil)
    (pss_one (ps_ret (pe_ifExp (pt_val (pe_callB (isiK K) rfl T.n_isinstance (by rfl) (pa_cons (pv 0) (pa_cons (pe_bltn rfl T.n_list (by rfl) (v := .ty "list") rfl) pa_nil)))) (pe_lcomp rfl (comp_ok (Nc := ["_law_one"]) (Fc := []) (js := [])) (pi_or (piK K (pv 0)) (pi_tupK K (pv 0))) (gk_name (i := 0) (n := 1) (by decide)) (fun _ _ _ _ _ => (pg_name (i := 0) (show (["_law_one"] : List Str).Nodup by decide +kernel) rfl (Or.inl rfl))) (fun _ _ _ _ _ => pts_nil) (fun _ _ _ _ _ => (pe_fn (f_law_kept.mono (by first | decide | exact Nat.le_refl _ | (first | lia | omega))) hr rfl (pa_cons (pv 0) pa_nil)))) (pv 0))))), ?_⟩
  have self : Den K (newOf H H) d v → Q v H := fun h => q v H (Same.refl _) h
  cases d with
  | none =>
    refine ⟨_, rfl, .inl ⟨_, "tuple", .none, false, rfl, hD, rfl, _, rfl, iteF ?_⟩⟩
    refine ⟨_, rfl, .inl ⟨_, "list", .none, false, rfl, hD, rfl, _, rfl, iteF ⟨_, rfl, self ?_⟩⟩⟩
    unfold Den at hD ⊢; exact hD
  | bool b =>
    refine ⟨_, rfl, .inl ⟨_, "tuple", .bool b, false, rfl, hD, rfl, _, rfl, iteF ?_⟩⟩
    refine ⟨_, rfl, .inl ⟨_, "list", .bool b, false, rfl, hD, rfl, _, rfl, iteF ⟨_, rfl, self ?_⟩⟩⟩
    unfold Den at hD ⊢; exact hD
  | int b =>
    refine ⟨_, rfl, .inl ⟨_, "tuple", .int b, false, rfl, hD, rfl, _, rfl, iteF ?_⟩⟩
    refine ⟨_, rfl, .inl ⟨_, "list", .int b, false, rfl, hD, rfl, _, rfl, iteF ⟨_, rfl, self ?_⟩⟩⟩
    unfold Den at hD ⊢; exact hD
  | str b =>
    refine ⟨_, rfl, .inl ⟨_, "tuple", .str b, false, rfl, hD, rfl, _, rfl, iteF ?_⟩⟩
    refine ⟨_, rfl, .inl ⟨_, "list", .str b, false, rfl, hD, rfl, _, rfl, iteF ⟨_, rfl, self ?_⟩⟩⟩
    unfold Den at hD ⊢; exact hD
  | dict b => unfold Den at hD; exact hD.elim
  | list ds =>
    have hD' := hD
    unfold Den at hD'
    obtain ⟨l, us, rfl, hl, hds⟩ := hD'
    simp only [PyData.depth] at hn
    rw [PyData.weight] at hw
    have hsm : ∀ e ∈ ds, e.depth < n ∧ e.weight ≤ 1000000 := fun e he => by
      have := depth_mem he
      exact ⟨by (first | lia | omega), weight_at (by (first | lia | omega)) he⟩
    have hul : us.length ≤ 1000000 := by have := len_weight ds; have := hds.len; (first | lia | omega)
    refine ⟨_, rfl, .inl ⟨_, "tuple", .list ds, false, rfl, hD, rfl, _, rfl, iteF ?_⟩⟩
    refine ⟨_, rfl, .inl ⟨_, "list", .list ds, true, rfl, hD, rfl, _, rfl, iteT ?_⟩⟩
    refine .inl ⟨_, rfl, l, rfl, ⟨_, hl⟩, ?_⟩
    refine kp_comp hds hsm hul (fun i H' s' hi => ⟨⟨_, _, s'.seq hl, List.getElem?_eq_getElem hi⟩, ?_⟩) (fun H' s' => ⟨_, s'.seq hl, Nat.le_refl _⟩) fun vs H1 s1 d1 _ p hp => ?_
    · rintro x H2 ⟨rfl, hy⟩
      exact ⟨rfl, hy _ (s'.seq hl)⟩
    · have n2 : New H1 p (.lst vs) (upd H1 p (.lst vs)) := ⟨hp, rfl⟩
      refine q (.ref p) _ (s1.trans n2.same) ?_
      unfold Den
      exact ⟨p, vs, rfl, SqL.of (by rw [newOf_none (s1.free hp)]; exact n2.at), d1.same (newOf_more n2.same)⟩
  | tuple ds =>
    have hD' := hD
    unfold Den at hD'
    obtain ⟨l, us, rfl, hl, hds⟩ := hD'
    simp only [PyData.depth] at hn
    rw [PyData.weight] at hw
    have hsm : ∀ e ∈ ds, e.depth < n ∧ e.weight ≤ 1000000 := fun e he => by
      have := depth_mem he
      exact ⟨by (first | lia | omega), weight_at (by (first | lia | omega)) he⟩
    have hul : us.length ≤ 1000000 := by have := len_weight ds; have := hds.len; (first | lia | omega)
    refine ⟨_, rfl, .inl ⟨_, "tuple", .tuple ds, true, rfl, hD, rfl, _, rfl, iteT ?_⟩⟩
    refine .inr ⟨_, rfl, l, rfl, ⟨_, hl⟩, ?_⟩
    refine kp_comp hds hsm hul (fun i H' s' hi => ⟨⟨_, _, s'.seqT hl, List.getElem?_eq_getElem hi⟩, ?_⟩) (fun H' s' => ⟨_, s'.seqT hl, Nat.le_refl _⟩) fun vs H1 s1 d1 _ p hp => ?_
    · rintro x H2 ⟨rfl, hy⟩
      exact ⟨rfl, hy _ (s'.seqT hl)⟩
    · have n2 : New H1 p (.lst vs) (upd H1 p (.lst vs)) := ⟨hp, rfl⟩
      refine ⟨p, vs, rfl, .inl ⟨SqL.of n2.at, fun r H3 n3 => q (.ref r) H3 (s1.trans (n2.same.trans n3.same)) ?_⟩⟩
      unfold Den
      exact ⟨r, vs, rfl, SqT.of (by rw [newOf_none ((s1.trans n2.same).free n3.nn)]; exact n3.at), d1.same (newOf_more (n2.same.trans n3.same))⟩
end
end Z

set_option Elab.async false
set_option linter.all false
set_option maxRecDepth 100000
set_option maxHeartbeats 4000000
namespace Z
open PySem L2 PyProof.Rows
/-! asked by a door: written, read, bounds, read from a place (k12) -/
theorem cstCut {v : V} {i : Nat} {u : TS} {D : Ends} {σ : L2.St} {H : Hp} (h : u D (σ.set i (some v)) H) : tSeq (tAsg (tC v) (gName i)) u D σ H := h
open Classical in
noncomputable def rdg (bk : List (Str × Str)) (t : Str) (p : Nat) : List (Str × Str) := if h : ∃ ps, Of bk ps ∧ ps.length ≤ 500 ∧ Rest bk t p ps then h.choose else []
open Classical in
noncomputable def prs (bk : List (Str × Str)) (ns : List Str) : List (Str × Str) := if h : ∃ ps, Of bk ps ∧ ns = ps.map (·.1) then h.choose else []
theorem rdg_in {K : PySem.W.Frag} {H : Hp} {l : Addr} {bk : List (Str × Str)} {t : Str} {p : Nat} (hB : BkL K H bk l) (g : GoodB bk) (ht : t.length ≤ 500) (hp : p ≤ t.length) : RdIn K H l bk t p (rdg bk t p) ∧ (rdg bk t p).length ≤ 500 := by
  obtain ⟨ps, rs, o, e, hn, hl⟩ := reads g _ ((sg t).drop p) (Nat.le_refl _)
  have h2 : t.length = (sg t).length := str_len t
  rw [List.length_drop] at hl
  have ex : ∃ ps, Of bk ps ∧ ps.length ≤ 500 ∧ Rest bk t p ps := ⟨ps, o, by (first | lia | omega), rs, e, hn⟩
  obtain ⟨o', l', r'⟩ := ex.choose_spec
  have er : rdg bk t p = ex.choose := dif_pos ex
  rw [er]
  exact ⟨⟨hB, g, o', by (first | lia | omega), hp, by (first | lia | omega), r'⟩, l'⟩
theorem prs_ok {bk : List (Str × Str)} {ns : List Str} (h : bad bk ns = []) : Of bk (prs bk ns) ∧ ns = (prs bk ns).map (·.1) := by
  have ex : ∃ ps, Of bk ps ∧ ns = ps.map (·.1) := pairs_of (bad_nil.mp h)
  have er : prs bk ns = ex.choose := dif_pos ex
  rw [er]
  exact ex.choose_spec
noncomputable def ansD (bk : List (Str × Str)) (ns : List Str) (t : Str) (w : Nat) : PyData :=
  if w = 0 then (match bad bk ns with | [] => .list [.str (txS (prs bk ns))] | x :: _ => .tuple [.str "name", .str x])
  else if w = 1 then (if endN 0 (rdg bk t 0) = t.length then .list [.list (((rdg bk t 0).map (·.1)).map .str)] else .tuple [.str "text", .int (endN 0 (rdg bk t 0) : Nat)])
  else if w = 2 then (if endN 0 (rdg bk t 0) = t.length then .list [.list ((endsN 0 (rdg bk t 0)).map fun (n : Nat) => .int n)] else .tuple [.str "text", .int (endN 0 (rdg bk t 0) : Nat)])
  else .list [.tuple [.list (((rdg bk t (7 * w % (t.length + 1))).map (·.1)).map .str), .int (endN (7 * w % (t.length + 1)) (rdg bk t (7 * w % (t.length + 1))) : Nat)]]
noncomputable def spAsk (K : PySem.W.Frag) : Sp := fun vs H Q _ => ∃ (l np : Addr) (bk : List (Str × Str)) (ns : List Str) (t : Str) (w : Nat), vs = [.ref l, .int w, .ref np, .str t] ∧ BkL K H bk l ∧ GoodB bk ∧ ns.length ≤ 100 ∧ SqL K H np (ns.map V.str) ∧ t.length ≤ 500 ∧ w < 6 ∧
  ∀ v H' fp, Same H H' → Ft K H' (ansD bk ns t w) v fp → fp.Nodup → (∀ a ∈ fp, H a = none) → Q v H'
section
variable {K : PySem.W.Frag} {H : Hp}
theorem ft_str {x : Str} : Ft K H (.str x) (.str x) [] := by unfold Ft; exact ⟨by unfold Den; rfl, rfl⟩
theorem ft_int {x : Int} : Ft K H (.int x) (.int x) [] := by unfold Ft; exact ⟨by unfold Den; rfl, rfl⟩
theorem fts_nil : Fts K H [] [] [] := by unfold Fts; exact ⟨rfl, rfl⟩
theorem fts_cons {d : PyData} {v : V} {ds : List PyData} {vs : List V} {f g : List Addr} (a : Ft K H d v f) (b : Fts K H ds vs g) : Fts K H (d :: ds) (v :: vs) (f ++ g) := by unfold Fts; exact ⟨v, vs, f, g, rfl, a, b, rfl⟩
theorem fts_strs : ∀ (xs : List Str), Fts K H (xs.map .str) (xs.map V.str) []
  | [] => fts_nil
  | x :: xs => fts_cons (f := []) ft_str (fts_strs xs)
theorem fts_nats : ∀ (xs : List Nat), Fts K H (xs.map fun (n : Nat) => .int n) (nI xs) []
  | [] => fts_nil
  | x :: xs => fts_cons (f := []) ft_int (fts_nats xs)
theorem ft_list {p : Addr} {vs : List V} {ds : List PyData} {g : List Addr} (h : H p = some (.lst vs)) (b : Fts K H ds vs g) : Ft K H (.list ds) (.ref p) (p :: g) := by unfold Ft; exact ⟨p, vs, g, rfl, h, b, rfl⟩
theorem ft_tup {p : Addr} {vs : List V} {ds : List PyData} {g : List Addr} (h : H p = some (.tup vs)) (b : Fts K H ds vs g) : Ft K H (.tuple ds) (.ref p) g := by unfold Ft; exact ⟨p, vs, rfl, h, b⟩
end
section
variable {P : Program} {w : World} {K : PySem.W.Frag} {mg : Str → Option Value} {base : Heap} {f : Addr} {fd : FuncData} {C1 C2 : Addr}
theorem sc_law_asked : FnScope ["_law_book", "_law_which", "_law_names_here", "_law_text", "_law_found", "error"] ["_law_book", "_law_which", "_law_names_here", "_law_text"] (defScope (top i_law_asked)) := ⟨rfl, rfl, rfl, by decide +kernel, rfl, by decide +kernel, by decide +kernel⟩
theorem ok_ask (F : Fun K "_law_asked" "_law_asked" (top i_law_asked) f fd) (T : Nm mg) (g_BadText : mg "BadText" = some (.ref C1)) (g_NoName : mg "NoName" = some (.ref C2)) (x11 : PySem.W.exmOne K (.ref C1) (.ref C1) = some true) (x21 : PySem.W.exmOne K (.ref C2) (.ref C1) = some false) (x22 : PySem.W.exmOne K (.ref C2) (.ref C2) = some true)
    (O1 : ExcOk K C1) (S1 : ExcSt K C1 "place") (O2 : ExcOk K C2) (S2 : ExcSt K C2 "name") (f_written : FnX P w K mg base 3 "written" ["book", "names"] (spWrX K C2)) (f_read_all : FnX P w K mg base 4 "read_all" ["book", "text"] (spAll K C1)) (f_bounds_of : FnX P w K mg base 4 "bounds_of" ["book", "text"] (spBounds K C1)) (f_read_from : Fn P w K mg base 3 "read_from" ["book", "text", "place"] (spFrom K)) :
    FnOk P w K mg base CX0 5 f fd ["_law_book", "_law_which", "_law_names_here", "_law_text"] (spAsk K) := by
  refine F.ok sc_law_asked (fun vs H Q E h => ?_) (fun cdv A outer s H vs Q E hr h => ?_)
  · obtain ⟨l, np, bk, ns, t, w, rfl, _⟩ := h
    rfl
  obtain ⟨l, np, bk, ns, t, wh, rfl, hB, g, hns, hN, ht, hw, q⟩ := h
  have hu6 := hr.units
  have hz : t.length ≤ sizeLine := Nat.le_trans ht (by decide)
  obtain ⟨hR, _⟩ := rdg_in (p := 0) hB g ht (Nat.zero_le _)
  refine ⟨_, (pss_cons (ps_set (i := 4) sc_law_asked.nd rfl (Or.inl rfl) pe_non)
    (pss_cons (ps_try2 (j := 5) rfl rfl sc_law_asked.nd rfl rfl rfl rfl g_BadText g_NoName (fun _ _ _ => (pss_one (ps_if (pt_cmpR (eqK K hu6) (pv 1) pe_int (nomark _)) (pss_one (ps_set (i := 4) sc_law_asked.nd rfl (Or.inl rfl) (lstN (pa_cons (pe_fnC (f_written.mono (by first | decide | exact Nat.le_refl _ | (first | lia | omega))) hr rfl (pa_cons (pv 0) (pa_cons (pv 2) pa_nil))) pa_nil)))) (pss_one (ps_if (pt_cmpR (eqK K hu6) (pv 1) pe_int (nomark _)) (pss_one (ps_set (i := 4) sc_law_asked.nd rfl (Or.inl rfl) (lstN (pa_cons (pe_fnC (f_read_all.mono (by first | decide | exact Nat.le_refl _ | (first | lia | omega))) hr rfl (pa_cons (pv 0) (pa_cons (pv 3) pa_nil))) pa_nil)))) (pss_one (ps_if (pt_cmpR (eqK K hu6) (pv 1) pe_int (nomark _)) (pss_one (ps_set (i := 4) sc_law_asked.nd rfl (Or.inl rfl) (lstN (pa_cons (pe_fnC (f_bounds_of.mono (by first | decide | exact Nat.le_refl _ | (first | lia | omega))) hr rfl (pa_cons (pv 0) (pa_cons (pv 3) pa_nil))) pa_nil)))) (pss_one (ps_set (i := 4) sc_law_asked.nd rfl (Or.inl rfl) (lstN (pa_cons (pe_fn (f_read_from.mono (by first | decide | exact Nat.le_refl _ | (first | lia | omega))) hr rfl (pa_cons (pv 0) (pa_cons (pv 3) (pa_cons (pe_op op_mod (pe_op mulN pe_int (pv 1)) (pe_op addN (pe_callB (lenK K) rfl T.n_len (by rfl) (pa_cons (pv 3) pa_nil)) pe_int)) pa_nil)))) pa_nil))))))))))) (fun _ => (pss_one (ps_set (i := 4) sc_law_asked.nd rfl (Or.inl rfl) (tupN (pa_cons pe_str (pa_cons (pe_xgetC K (pv 5)) pa_nil)))))) (fun _ => (pss_one (ps_set (i := 4) sc_law_asked.nd rfl (Or.inl rfl) (tupN (pa_cons pe_str (pa_cons (pe_xgetC K (pv 5)) pa_nil)))))))
    (pss_one (ps_ret (pv 4))))), ?_⟩
  refine cstCut ?_
  dsimp only
  refine seqCut (t := tTry2 _ _ _ _ _ _ _) (fun σ H' => ∃ v fp, σ = [some (.ref l), some (.int wh), some (.ref np), some (.str t), some v, none] ∧ Same H H' ∧ Ft K H' (ansD bk ns t wh) v fp ∧ fp.Nodup ∧ ∀ a ∈ fp, H a = none) (fun Nx nx => ?_) ?_
  · refine ⟨fun cls d H' => (∃ dx, cls = .ref C1 ∧ d = some dx ∧ ansD bk ns t wh = .tuple [.str "text", .int (endN 0 (rdg bk t 0) : Nat)] ∧ Same H H' ∧ H' dx = some (.xd [("place", .int (endN 0 (rdg bk t 0) : Nat))])) ∨
      (∃ dx x, cls = .ref C2 ∧ d = some dx ∧ ansD bk ns t wh = .tuple [.str "name", .str x] ∧ Same H H' ∧ H' dx = some (.xd [("name", .str x)])), ?_, ?_⟩
    · refine ⟨_, rfl, .inl ⟨rfl, _, rfl, ite2 (fun e0 => ?_) (fun e0 => ?_)⟩⟩
      · have e0 : wh = 0 := by have := of_decide_eq_true e0; injection this; (first | lia | omega)
        refine ⟨rfl, _, rfl, _, rfl, l, np, bk, ns, rfl, hB, g, hns, hN, fun ps o e H' s' => ⟨by show 1 ≤ sizeLine; decide, fun p H2 n2 => gn (nx _ _ ⟨.ref p, [p], rfl, s'.trans n2.same, ?_, List.nodup_cons.mpr ⟨by simp, List.nodup_nil⟩, fun a ha => by rw [List.mem_singleton.mp ha]; exact s'.free n2.nn⟩)⟩, fun x xs hb dx H' s' e => .inr ⟨dx, x, rfl, rfl, ?_, s', e⟩⟩
        · have hb : bad bk ns = [] := bad_nil.mpr fun n hn => by
            rw [e] at hn
            obtain ⟨z, hz, rfl⟩ := List.mem_map.mp hn
            exact List.mem_map_of_mem (o z hz)
          have ea : ansD bk ns t wh = .list [.str (txS ps)] := by
            unfold ansD
            rw [if_pos e0, hb]
            obtain ⟨o', e'⟩ := prs_ok hb
            have : prs bk ns = ps := by
              refine List.ext_getElem ?_ fun i h1 h2 => ?_
              · have := congrArg List.length (e'.symm.trans e); simpa using this
              · refine one_of g.nm (o' _ (List.getElem_mem h1)) (o _ (List.getElem_mem h2)) ?_
                have h3 : ((prs bk ns).map (·.1))[i]? = (ps.map (·.1))[i]? := by rw [← e', ← e]
                rw [List.getElem?_map, List.getElem?_map, List.getElem?_eq_getElem h1, List.getElem?_eq_getElem h2] at h3
                injection h3
            rw [this]
          rw [ea]
          exact ft_list n2.at (fts_cons (f := []) ft_str fts_nil)
        · unfold ansD
          rw [if_pos e0, hb]
      · have e0 : wh ≠ 0 := fun z => e0 (decide_eq_true (by rw [z]; rfl))
        refine ⟨_, rfl, .inl ⟨rfl, _, rfl, ite2 (fun e1 => ?_) (fun e1 => ?_)⟩⟩
        · have e1 : wh = 1 := by have := of_decide_eq_true e1; injection this; (first | lia | omega)
          refine ⟨rfl, _, rfl, _, rfl, l, bk, t, rdg bk t 0, rfl, hR, fun he dx H' s' e => .inl ⟨dx, rfl, rfl, ?_, s', e⟩, fun he n2 H' s' w2 => ⟨by show 1 ≤ sizeLine; decide, fun p H2 n3 => gn (nx _ _ ⟨.ref p, [p, n2], rfl, s'.trans n3.same, ?_, ?_, fun a ha => ?_⟩)⟩⟩
          · unfold ansD
            rw [if_neg e0, if_pos e1, if_neg he]
          · unfold ansD
            rw [if_neg e0, if_pos e1, if_pos he]
            exact ft_list n3.at (fts_cons (ft_list (n3.same _ _ (of_newOf w2).2) (fts_strs _)) fts_nil)
          · refine List.nodup_cons.mpr ⟨fun z => ?_, List.nodup_cons.mpr ⟨by simp, List.nodup_nil⟩⟩
            have := n3.nn
            rw [List.mem_singleton.mp z, (of_newOf w2).2] at this
            cases this
          · rcases List.mem_cons.mp ha with rfl | ha
            · exact s'.free n3.nn
            · rw [List.mem_singleton.mp ha]; exact (of_newOf w2).1
        · have e1 : wh ≠ 1 := fun z => e1 (decide_eq_true (by rw [z]; rfl))
          refine ⟨_, rfl, .inl ⟨rfl, _, rfl, ite2 (fun e2 => ?_) (fun e2 => ?_)⟩⟩
          · have e2 : wh = 2 := by have := of_decide_eq_true e2; injection this; (first | lia | omega)
            refine ⟨rfl, _, rfl, _, rfl, l, bk, t, rdg bk t 0, rfl, hR, fun he dx H' s' e => .inl ⟨dx, rfl, rfl, ?_, s', e⟩, fun he n2 H' s' w2 => ⟨by show 1 ≤ sizeLine; decide, fun p H2 n3 => gn (nx _ _ ⟨.ref p, [p, n2], rfl, s'.trans n3.same, ?_, ?_, fun a ha => ?_⟩)⟩⟩
            · unfold ansD
              rw [if_neg e0, if_neg e1, if_pos e2, if_neg he]
            · unfold ansD
              rw [if_neg e0, if_neg e1, if_pos e2, if_pos he]
              exact ft_list n3.at (fts_cons (ft_list (n3.same _ _ (of_newOf w2).2) (fts_nats _)) fts_nil)
            · refine List.nodup_cons.mpr ⟨fun z => ?_, List.nodup_cons.mpr ⟨by simp, List.nodup_nil⟩⟩
              have := n3.nn
              rw [List.mem_singleton.mp z, (of_newOf w2).2] at this
              cases this
            · rcases List.mem_cons.mp ha with rfl | ha
              · exact s'.free n3.nn
              · rw [List.mem_singleton.mp ha]; exact (of_newOf w2).1
          · have e2 : wh ≠ 2 := fun z => e2 (decide_eq_true (by rw [z]; rfl))
            have hp : 7 * wh % (t.length + 1) ≤ t.length := by have := Nat.mod_lt (7 * wh) (show 0 < t.length + 1 by (first | lia | omega)); (first | lia | omega)
            obtain ⟨hRp, _⟩ := rdg_in (p := 7 * wh % (t.length + 1)) hB g ht hp
            have ep : (7 * (wh : Int)) % ((t.length : Int) + 1) = ((7 * wh % (t.length + 1) : Nat) : Int) := by rw [Int.natCast_emod]; rfl
            refine ⟨_, rfl, _, rfl, _, rfl, .inl ⟨_, _, rfl, rfl, .inl ⟨by decide, by decide⟩, _, rfl, _, _, rfl, ⟨hz, rfl⟩, .inl ⟨_, _, rfl, rfl, _, _, rfl, rfl, by (first | lia | omega), ?_⟩⟩⟩
            dsimp only
            rw [ep]
            refine ⟨l, bk, t, _, rdg bk t (7 * wh % (t.length + 1)), rfl, hRp, fun tp n2 H' s' w1 w2 => ⟨by show 1 ≤ sizeLine; decide, fun p H2 n3 => gn (nx _ _ ⟨.ref p, [p, n2], rfl, s'.trans n3.same, ?_, ?_, fun a ha => ?_⟩)⟩⟩
            · unfold ansD
              rw [if_neg e0, if_neg e1, if_neg e2]
              exact ft_list n3.at (fts_cons (g := []) (ft_tup (n3.same _ _ (of_newOf w1).2) (fts_cons (ft_list (n3.same _ _ (of_newOf w2).2) (fts_strs _)) (fts_cons (f := []) ft_int fts_nil))) fts_nil)
            · refine List.nodup_cons.mpr ⟨fun z => ?_, List.nodup_cons.mpr ⟨by simp, List.nodup_nil⟩⟩
              have := n3.nn
              rw [List.mem_singleton.mp z, (of_newOf w2).2] at this
              cases this
            · rcases List.mem_cons.mp ha with rfl | ha
              · exact s'.free n3.nn
              · rw [List.mem_singleton.mp ha]; exact (of_newOf w2).1
    · rintro cls d H' (⟨dx, rfl, rfl, ea, sm, hx⟩ | ⟨dx, x, rfl, rfl, ea, sm, hx⟩)
      · refine .inl ⟨x11, fun e he => ?_⟩
        have hx0 : upd H' e (excAs e (.ref C1) (some dx)) dx = some (.xd [("place", .int (endN 0 (rdg bk t 0) : Nat))]) := by rw [upd_ne (ne_of_none hx he)]; exact hx
        refine ⟨_, rfl, e, C1, dx, _, .int (endN 0 (rdg bk t 0) : Nat), rfl, upd_same, hx0, rfl, O1, S1, .inl ⟨_, rfl⟩, by show 2 ≤ sizeLine; decide, fun tp H3 n3 => gn (nx _ _ ⟨.ref tp, [], rfl, sm.trans ((same_new he _).trans n3.same), ?_, List.nodup_nil, fun a ha => nomatch ha⟩)⟩
        rw [ea]
        exact ft_tup n3.at (fts_cons (f := []) ft_str (fts_cons (f := []) ft_int fts_nil))
      · refine .inr ⟨x21, x22, fun e he => ?_⟩
        have hx0 : upd H' e (excAs e (.ref C2) (some dx)) dx = some (.xd [("name", .str x)]) := by rw [upd_ne (ne_of_none hx he)]; exact hx
        refine ⟨_, rfl, e, C2, dx, _, .str x, rfl, upd_same, hx0, rfl, O2, S2, .inr ⟨_, rfl⟩, by show 2 ≤ sizeLine; decide, fun tp H3 n3 => gn (nx _ _ ⟨.ref tp, [], rfl, sm.trans ((same_new he _).trans n3.same), ?_, List.nodup_nil, fun a ha => nomatch ha⟩)⟩
        rw [ea]
        exact ft_tup n3.at (fts_cons (f := []) ft_str (fts_cons (f := []) ft_str fts_nil))
  · rintro σ H1 ⟨v, fp, rfl, s1, hF, nd, hn⟩
    exact ⟨_, rfl, q v H1 fp s1 hF nd hn⟩
end
end Z

set_option Elab.async false
set_option linter.all false
set_option maxRecDepth 100000
set_option maxHeartbeats 4000000
namespace Z
open PySem L2
noncomputable def spList (K : PySem.W.Frag) : Sp := fun vs H Q _ => ∃ (b c l : Addr) (t : Int) (bk : List (Str × Str)), vs = [.ref b, .ref l, .int 12] ∧ Bx H b c t ∧ 0 ≤ t ∧ t < 900000 ∧ BkL K (hid H b c) bk l ∧ 0 < bk.length ∧ bk.length ≤ 16 ∧
  ∀ (ps : List (Str × Str)) (np : Addr) H' t', ps.length ≤ 12 → Of bk ps → H' np = some (.lst ((ps.map (·.1)).map V.str)) → H np = none → np ≠ b → np ≠ c → Step b c H H' t t' 70 → Q (.ref np) H'
section
variable {P : Program} {w : World} {K : PySem.W.Frag} {mg : Str → Option Value} {base : Heap} {f : Addr} {fd : FuncData}
theorem sc_law_list : FnScope ["_law_box", "_law_book", "_law_most", "_law_way", "_law_many"] ["_law_box", "_law_book", "_law_most"] (defScope (top i_law_list)) := ⟨rfl, rfl, rfl, by decide +kernel, rfl, by decide +kernel, by decide +kernel⟩
theorem ok_list (F : Fun K "_law_list" "_law_list" (top i_law_list) f fd) (T : Nm mg) (f_law_take : Fn P w K mg base 1 "_law_take" ["_law_box", "_law_many"] spTk) : FnOk P w K mg base CX0 2 f fd ["_law_box", "_law_book", "_law_most"] (spList K) := by
  refine F.ok sc_law_list (fun vs H Q E h => ?_) (fun cdv A outer s H vs Q E hr h => ?_)
  · obtain ⟨b, c, l, t, bk, rfl, _⟩ := h
    rfl
  obtain ⟨b, c, l, t, bk, rfl, bx, t0, t1, hB, hpos, hle, q⟩ := h
  have hu6 := hr.units
  refine ⟨_, (pss_cons (ps_set (i := 3) sc_law_list.nd rfl (Or.inl rfl) (pe_fn (f_law_take.mono (by first | decide | exact Nat.le_refl _ | (first | lia | omega))) hr rfl (pa_cons (pv 0) (pa_cons pe_int pa_nil))))
    (pss_cons (ps_set (i := 4) sc_law_list.nd rfl (Or.inl rfl) (pe_ifExp (pt_cmpR op_lt (pv 3) pe_int (nomark _)) (pv 3) (pe_fn (f_law_take.mono (by first | decide | exact Nat.le_refl _ | (first | lia | omega))) hr rfl (pa_cons (pv 0) (pa_cons (pe_ix (ixK K) (lstN (pa_cons pe_int (pa_cons (pe_op addN (pv 2) pe_int) pa_nil))) (pe_op op_sub (pv 3) pe_int) (fun _ _ => rfl)) pa_nil)))))
    (pss_one (ps_ret (pe_lcomp rfl (comp_ok (Nc := ["_law_turn"]) (Fc := ["_law_book", "_law_box"]) (js := [1, 0])) (pi_range1 rfl T.n_range (pa_cons (pv 4) pa_nil)) (gk_name (i := 0) (n := 1) (by decide)) (fun _ _ _ _ _ => (pg_name (i := 0) (show (["_law_turn", "_law_book", "_law_box"] : List Str).Nodup by decide +kernel) rfl (Or.inl rfl))) (fun _ _ _ _ _ => pts_nil) (fun _ _ _ _ _ => (pe_ix (ixK K) (pe_ix (ixK K) (pv 1) (pe_fn (f_law_take.mono (by first | decide | exact Nat.le_refl _ | (first | lia | omega))) hr rfl (pa_cons (pv 2) (pa_cons (pe_callB (lenK K) rfl T.n_len (by rfl) (pa_cons (pv 1) pa_nil)) pa_nil))) (fun _ _ => rfl)) pe_int (fun _ _ => rfl)))))))), ?_⟩
  obtain ⟨vs, hl, hd⟩ := hB
  refine ⟨_, rfl, b, c, t, 4, rfl, bx, by (first | lia | omega), by (first | lia | omega), by decide, by decide, fun way H1 w0 w1 st1 => gn ?_⟩
  dsimp only
  refine asgCut (te := tIf _ _ _) (fun v H' => ∃ (m : Nat) (t' : Int), v = .int m ∧ m ≤ 12 ∧ Step b c H H' t t' 2) (fun Qn qn => ?_) ?_
  · refine ⟨_, rfl, _, _, rfl, rfl, _, rfl, ite2 (fun e => ?_) (fun e => ?_)⟩
    · have e : way < 2 := of_decide_eq_true e
      exact ⟨_, rfl, qn _ _ ⟨way.toNat, _, by rw [Int.toNat_of_nonneg w0], by (first | lia | omega), st1.more (by decide)⟩⟩
    · have e : ¬ way < 2 := fun h => e (decide_eq_true h)
      refine ⟨_, rfl, _, rfl, .inl ⟨_, _, rfl, rfl, by show 2 ≤ sizeLine; decide, fun p2 H2 n2 => ?_⟩⟩
      have st2 := st1.newN n2
      refine ⟨_, rfl, _, _, rfl, rfl, ?_⟩
      have hw : way - 2 = 0 ∨ way - 2 = 1 := by (first | lia | omega)
      have key : ∀ k : Int, k = 6 ∨ k = 12 + 1 → 0 < k ∧ k < 1073741824 ∧ k ≤ 13 := fun k hk => by rcases hk with rfl | rfl <;> decide
      obtain ⟨k, hk1, hk2⟩ : ∃ k : Int, atI [V.int 6, V.int (12 + 1)] (way - 2) = some (.int k) ∧ (k = 6 ∨ k = 12 + 1) := by
        rcases hw with h | h <;> rw [h]
        · exact ⟨6, at_nat (by decide) rfl, .inl rfl⟩
        · exact ⟨12 + 1, at_nat (by decide) rfl, .inr rfl⟩
      obtain ⟨k0, k1, k2⟩ := key k hk2
      refine .inl ⟨p2, _, _, _, rfl, rfl, SqL.of n2.at, hk1, b, c, _, k, rfl, st2.bx, by (first | lia | omega), by (first | lia | omega), k0, k1, fun r H3 r0 r1 st3 => qn _ _ ⟨r.toNat, _, by rw [Int.toNat_of_nonneg r0], by (first | lia | omega), st2.trans st3⟩⟩
  rintro v H2 ⟨m, t2, rfl, hm, st2⟩
  refine gn ?_
  have ub2 := st2.ub
  have lo2 := st2.le
  refine ⟨_, rfl, _, rfl, by (first | lia | omega), by (first | lia | omega), ?_⟩
  refine comp_goN (N := m) (fun i ys H' => ∃ (ps : List (Str × Str)) (t' : Int), ps.length = i ∧ Of bk ps ∧ ys = (ps.map (·.1)).map V.str ∧ Step b c H H' t t' (2 + i)) ⟨[], t2, rfl, (fun _ h => nomatch h), rfl, st2.more (by (first | lia | omega))⟩ ?_ ?_
  · rintro i ys H3 Nx hi ⟨ps, t3, hps, hO, rfl, st3⟩ nx
    have ub3 := st3.ub
    have lo3 := st3.le
    refine ⟨by show i < ((m : Nat) : Int).toNat; (first | lia | omega), by rw [List.length_map, List.length_map]; exact Nat.lt_of_le_of_lt (show ps.length ≤ 1000 by (first | lia | omega)) (by decide), ?_⟩
    rintro x H4 ⟨rfl, rfl⟩
    have hl3 : SqL K H4 l vs := (st3.sm.trans hid_same).seq hl
    refine gn ⟨_, rfl, _, rfl, _, rfl, _, _, rfl, .inl ⟨_, hl3, rfl⟩, b, c, t3, _, rfl, st3.bx, by (first | lia | omega), by (first | lia | omega), by rw [bk_len hd]; (first | lia | omega), by rw [bk_len hd]; (first | lia | omega), fun r H5 r0 r1 st5 => ?_⟩
    rw [bk_len hd] at r1
    have hr' : r.toNat < bk.length := by (first | lia | omega)
    obtain ⟨tp, h1, h2⟩ := bk_at hd hr'
    have s5 := (st3.trans st5).sm.trans hid_same
    refine .inl ⟨l, _, _, _, rfl, rfl, s5.seq hl, at_nat r0 h1, .inr (.inl ⟨tp, _, _, _, rfl, rfl, s5.seqT h2, at_nat (by decide) rfl, nx _ _ ⟨ps ++ [bk[r.toNat]], _, by rw [List.length_append, hps]; rfl, fun z hz => ?_, ?_, (st3.trans st5).more (by (first | lia | omega))⟩⟩)⟩
    · rcases List.mem_append.mp hz with hz | hz
      · exact hO z hz
      · rw [List.mem_singleton.mp hz]; exact List.getElem_mem hr'
    · rw [List.map_append, List.map_append]; rfl
  · rintro ys H3 ⟨ps, t3, hps, hO, rfl, st3⟩
    refine ⟨by show ((m : Nat) : Int).toNat ≤ m; (first | lia | omega), fun np H4 n4 => ?_⟩
    obtain ⟨nb, nc⟩ := st3.bx.ne_new n4.nn
    exact q ps np H4 t3 (by (first | lia | omega)) hO n4.at (st3.fresh bx n4.nn) nb nc ((st3.newN n4).more (by (first | lia | omega)))
end
end Z

set_option Elab.async false
set_option linter.all false
set_option maxRecDepth 100000
set_option maxHeartbeats 4000000
namespace Z
open PySem L2
/-! a book with its signs turned over; what the answers weigh (k12) -/
noncomputable def flp (x : Str) : Str := ⟨((sg x).map (97 - ·)).toArray⟩
theorem sg_flp (x : Str) : sg (flp x) = (sg x).map (97 - ·) := by simp [flp]
theorem flp_len (x : Str) : (flp x).length = x.length := by
  rw [str_len, str_len]
  show (sg (flp x)).length = (sg x).length
  rw [sg_flp, List.length_map]
theorem flp_bin {x : Str} (h : Bin x) : Bin (flp x) := fun ch hc => by
  have hc : ch ∈ sg (flp x) := hc
  rw [sg_flp] at hc
  obtain ⟨e, he, rfl⟩ := List.mem_map.mp hc
  rcases h e he with rfl | rfl
  · exact .inr rfl
  · exact .inl rfl
theorem flp_flp {x : Str} (h : Bin x) : flp (flp x) = x := by
  refine str_eq ?_
  rw [sg_flp, sg_flp, List.map_map]
  have : ∀ e ∈ sg x, ((fun n : Nat => 97 - n) ∘ fun n => 97 - n) e = e := fun e he => by
    rcases h e he with rfl | rfl <;> rfl
  exact (List.map_congr_left this).trans (List.map_id _)
theorem flp_rf {x y : Str} (hx : Bin x) (hy : Bin y) (h : RF x y) : RF (flp x) (flp y) := by
  have key : ∀ {a b : Str}, Bin a → Bin b → sg (flp a) <+: sg (flp b) → sg a <+: sg b := fun {a b} ha hb p => by
    have q := p.map (97 - ·)
    rw [← sg_flp, ← sg_flp, flp_flp ha, flp_flp hb] at q
    exact q
  exact ⟨fun p => h.1 (key hx hy p), fun p => h.2 (key hy hx p)⟩
noncomputable def flpB (bk : List (Str × Str)) : List (Str × Str) := bk.map fun q => (q.1, flp q.2)
theorem flpB_names (bk : List (Str × Str)) : (flpB bk).map (·.1) = bk.map (·.1) := by
  unfold flpB
  rw [List.map_map]; rfl
theorem flpB_good {bk : List (Str × Str)} (g : GoodB bk) : GoodB (flpB bk) := by
  have cd : ∀ q ∈ flpB bk, CodeOk 10 q.2 := fun q hq => by
    unfold flpB at hq
    obtain ⟨z, hz, rfl⟩ := List.mem_map.mp hq
    have h := g.cd z hz
    exact ⟨flp_bin h.bin, by show 1 ≤ (flp z.2).length; rw [flp_len]; exact h.pos, by show (flp z.2).length ≤ 10; rw [flp_len]; exact h.le⟩
  refine ⟨by unfold flpB; rw [List.length_map]; exact g.le, by rw [flpB_names]; exact g.nm, ?_, cd, fun q hq => ?_⟩
  · have h := List.pairwise_iff_getElem.mp g.fr
    refine List.pairwise_iff_getElem.mpr fun i j hi hj hij => ?_
    unfold flpB at hi hj ⊢
    rw [List.length_map, List.length_map] at hi hj
    have hh := h i j (by rw [List.length_map]; exact hi) (by rw [List.length_map]; exact hj) hij
    rw [List.getElem_map, List.getElem_map] at hh
    rw [List.getElem_map, List.getElem_map, List.getElem_map, List.getElem_map]
    exact flp_rf (g.cd _ (List.getElem_mem hi)).bin (g.cd _ (List.getElem_mem hj)).bin hh
  · unfold flpB at hq
    obtain ⟨z, hz, rfl⟩ := List.mem_map.mp hq
    exact g.nl z hz
theorem flip_at {ch : Nat} (h : ch = 48 ∨ ch = 49) : atI (Str.ofString "10").cps.toList ((ch - 48 : Nat) : Int) = some (97 - ch) := by
  rcases h with rfl | rfl <;> decide +kernel
/-- the names of the lists -/
structure Ns (ns : List Str) : Prop where
  le : ns.length ≤ 100
  nl : ∀ x ∈ ns, x.length ≤ 8
  lo : ∀ x ∈ ns, ∀ ch ∈ x.cps.toList, ch < 128
theorem ansD_small {bk : List (Str × Str)} {ns : List Str} {t : Str} {w : Nat} (g : GoodB bk) (hn : Ns ns) (ht : t.length ≤ 500) : (ansD bk ns t w).depth < 4 ∧ (ansD bk ns t w).weight ≤ 1000000 := by
  have rd : ∀ p, p ≤ t.length → (Of bk (rdg bk t p) ∧ Rest bk t p (rdg bk t p)) ∧ (rdg bk t p).length ≤ 500 := fun p hp => by
    obtain ⟨ps, rs, o, e, hb, hl⟩ := reads g _ ((sg t).drop p) (Nat.le_refl _)
    have h2 : t.length = (sg t).length := str_len t
    rw [List.length_drop] at hl
    have ex : ∃ ps, Of bk ps ∧ ps.length ≤ 500 ∧ Rest bk t p ps := ⟨ps, o, by (first | lia | omega), rs, e, hb⟩
    obtain ⟨o', l', r'⟩ := ex.choose_spec
    have er : rdg bk t p = ex.choose := dif_pos ex
    rw [er]
    exact ⟨⟨o', r'⟩, l'⟩
  have nms : ∀ {ps : List (Str × Str)}, Of bk ps → ∀ x ∈ ps.map (·.1), x.length ≤ 8 := fun {ps} o x hx => by
    obtain ⟨z, hz, rfl⟩ := List.mem_map.mp hx
    exact g.nl z (o z hz)
  have end_le : ∀ p, p ≤ t.length → endN p (rdg bk t p) ≤ t.length := fun p hp => stand_le (rd p hp).1.2 hp _
  have wi : ∀ n : Nat, n ≤ 1000 → PyData.weight (.int (n : Nat)) ≤ 202 := fun n h => Nat.le_trans (weight_int (Nat.lt_of_le_of_lt (show ((n : Nat) : Int).natAbs ≤ 1000 by (first | lia | omega)) (by decide))) (by decide)
  have c4 : (Str.ofString "name").cps.size = 4 := by decide +kernel
  have c4' : (Str.ofString "text").cps.size = 4 := by decide +kernel
  have txt : ∀ n : Nat, n ≤ 1000 → PyData.depth (.tuple [.str "text", .int (n : Nat)]) < 4 ∧ PyData.weight (.tuple [.str "text", .int (n : Nat)]) ≤ 1000000 := fun n h => by
    have := wi n h
    refine ⟨by simp [PyData.depth, PyData.depthAll], ?_⟩
    rw [PyData.weight]
    simp only [PyData.weightAll]
    rw [PyData.weight, c4']
    (first | lia | omega)
  have e0 := end_le 0 (Nat.zero_le _)
  obtain ⟨⟨o0, r0⟩, l0⟩ := rd 0 (Nat.zero_le _)
  have sts : ∀ {ps : List (Str × Str)}, Of bk ps → ps.length ≤ 500 → PyData.depthAll ((ps.map (·.1)).map .str) = 0 ∧ PyData.weightAll ((ps.map (·.1)).map .str) ≤ 4500 := fun {ps} o l => by
    have h := wStr (nms o)
    rw [List.length_map] at h
    exact ⟨h.2, by (first | lia | omega)⟩
  unfold ansD
  split
  · split
    · rename_i hb
      obtain ⟨o, e⟩ := prs_ok hb
      have hl : (prs bk ns).length ≤ 100 := by
        have := hn.le
        rw [e, List.length_map] at this
        exact this
      have h1 := tx_len g o
      have h2 : (txS (prs bk ns)).cps.size = (tx (prs bk ns)).length := by simp [txS]
      refine ⟨by simp [PyData.depth, PyData.depthAll], ?_⟩
      rw [PyData.weight]
      simp only [PyData.weightAll]
      rw [PyData.weight, h2]
      (first | lia | omega)
    · rename_i x xs hb
      have hx : x ∈ ns := by
        have : x ∈ bad bk ns := by rw [hb]; exact List.mem_cons_self
        exact (List.mem_filter.mp this).1
      have h8 := hn.nl x hx
      have h9 : x.cps.size = x.length := rfl
      refine ⟨by simp [PyData.depth, PyData.depthAll], ?_⟩
      rw [PyData.weight]
      simp only [PyData.weightAll]
      rw [PyData.weight, PyData.weight, c4]
      (first | lia | omega)
  · split
    · split
      · obtain ⟨d1, w1⟩ := sts o0 l0
        refine ⟨by simp only [PyData.depth, PyData.depthAll, d1]; (first | lia | omega), ?_⟩
        rw [PyData.weight]
        simp only [PyData.weightAll]
        rw [PyData.weight]
        (first | lia | omega)
      · exact txt _ (by (first | lia | omega))
    · split
      · split
        · have hb : ∀ x ∈ endsN 0 (rdg bk t 0), x ≤ 1000 := fun x hx' => by
            rw [ends_of] at hx'
            obtain ⟨k, _, rfl⟩ := List.mem_map.mp hx'
            have := stand_le r0 (Nat.zero_le _) k
            (first | lia | omega)
          obtain ⟨w1, d1⟩ := wNat hb
          have hl : (endsN 0 (rdg bk t 0)).length ≤ 501 := by rw [ends_of, List.length_map, List.length_range]; (first | lia | omega)
          refine ⟨by simp only [PyData.depth, PyData.depthAll, d1]; (first | lia | omega), ?_⟩
          rw [PyData.weight]
          simp only [PyData.weightAll]
          rw [PyData.weight]
          (first | lia | omega)
        · exact txt _ (by (first | lia | omega))
      · have hp : 7 * w % (t.length + 1) ≤ t.length := by have := Nat.mod_lt (7 * w) (show 0 < t.length + 1 by (first | lia | omega)); (first | lia | omega)
        obtain ⟨⟨o, r⟩, l⟩ := rd _ hp
        obtain ⟨d1, w1⟩ := sts o l
        have w2 := wi _ (show endN (7 * w % (t.length + 1)) (rdg bk t (7 * w % (t.length + 1))) ≤ 1000 by have := end_le _ hp; (first | lia | omega))
        refine ⟨by simp only [PyData.depth, PyData.depthAll, d1]; (first | lia | omega), ?_⟩
        rw [PyData.weight]
        simp only [PyData.weightAll]
        rw [PyData.weight]
        simp only [PyData.weightAll]
        have w3 : ∀ ds : List PyData, PyData.weight (.list ds) = PyData.weightAll ds := fun ds => by rw [PyData.weight]
        rw [w3]
        (first | lia | omega)
/-- the book as data -/
theorem book_small {bk : List (Str × Str)} (g : GoodB bk) (lo : ∀ q ∈ bk, Low q.1) : Sh 2 (bookD bk) ∧ (bookD bk).weight ≤ 1000 := by
  refine ⟨Sh.list fun d hd => ?_, ?_⟩
  · obtain ⟨z, hz, rfl⟩ := List.mem_map.mp hd
    refine Sh.tuple fun e he => ?_
    simp at he
    rcases he with rfl | rfl
    · exact Sh.str (canLay_small fun ch hc => by have := lo z hz ch hc; (first | lia | omega))
    · exact Sh.str (canLay_small fun ch hc => by rcases (g.cd z hz).bin ch hc with e | e <;> (first | lia | omega))
  · have key : ∀ {l : List (Str × Str)}, (∀ q ∈ l, q ∈ bk) → PyData.weightAll (l.map fun q => PyData.tuple [.str q.1, .str q.2]) ≤ 30 * l.length := by
      intro l
      induction l with
      | nil => intro _; simp [PyData.weightAll]
      | cons q l ih =>
        intro h
        have h1 := ih fun z hz => h z (List.mem_cons_of_mem _ hz)
        have h2 := g.nl q (h q List.mem_cons_self)
        have h3 := (g.cd q (h q List.mem_cons_self)).le
        have h4 : q.1.cps.size = q.1.length := rfl
        have h5 : q.2.cps.size = q.2.length := rfl
        rw [List.map_cons, List.length_cons]
        simp only [PyData.weightAll, PyData.weight]
        (first | lia | omega)
    have := key (l := bk) fun _ h => h
    have := g.le
    unfold bookD
    rw [PyData.weight]
    (first | lia | omega)
theorem names_small {ns : List Str} (h : Ns ns) : Sh 1 (.list (ns.map .str)) ∧ (PyData.list (ns.map .str)).weight ≤ 1000 := by
  refine ⟨Sh.list fun d hd => ?_, ?_⟩
  · obtain ⟨x, hx, rfl⟩ := List.mem_map.mp hd
    exact Sh.str (canLay_small (h.lo x hx))
  · have := (wStr h.nl).1
    have := h.le
    rw [PyData.weight]
    (first | lia | omega)
end Z

set_option Elab.async false
set_option linter.all false
set_option maxRecDepth 100000
set_option maxHeartbeats 4000000
namespace Z
open PySem L2
/-! what stands through the turns (k12) -/
noncomputable abbrev nsL (ns : List Str) : PyData := .list (ns.map .str)
structure Sit (K : PySem.W.Frag) (G : Hp) (B2 L2 T2 KH : Addr) (bkA : Nat → List (Str × Str)) (nsA : Nat → List Str) (tA : Nat → Str) : Prop where
  bl : ∃ l0 l1, G B2 = some (.lst [.ref l0, .ref l1]) ∧ BkL K G (bkA 0) l0 ∧ BkL K G (bkA 1) l1
  ls : ∃ n0 n1, G L2 = some (.lst [.ref n0, .ref n1]) ∧ G n0 = some (.lst ((nsA 0).map V.str)) ∧ G n1 = some (.lst ((nsA 1).map V.str))
  tx : G T2 = some (.lst [.str (tA 0), .str (tA 1)])
  kp : Den K G (.list [.list [bookD (bkA 0), bookD (bkA 1)], .list [nsL (nsA 0), nsL (nsA 1)]]) (.ref KH)
variable {K : PySem.W.Frag} {G G' H H' : Hp} {b c D B2 L2 T2 KH : Addr} {bkA : Nat → List (Str × Str)} {nsA : Nat → List Str} {tA : Nat → Str}
theorem Sit.same (s : Sit K G B2 L2 T2 KH bkA nsA tA) (h : Same G G') : Sit K G' B2 L2 T2 KH bkA nsA tA := by
  obtain ⟨l0, l1, a1, a2, a3⟩ := s.bl
  obtain ⟨n0, n1, b1, b2, b3⟩ := s.ls
  exact ⟨⟨l0, l1, h _ _ a1, a2.same h, a3.same h⟩, ⟨n0, n1, h _ _ b1, h _ _ b2, h _ _ b3⟩, h _ _ s.tx, s.kp.same h⟩
theorem two_at {α : Type} {x y : α} {i : Nat} (h : i < 2) : atI [x, y] (i : Int) = some (if i = 0 then x else y) := by
  have : i = 0 ∨ i = 1 := by (first | lia | omega)
  rcases this with rfl | rfl
  · exact at_nat (by decide) rfl
  · exact at_nat (by decide) rfl
theorem Sit.at' (s : Sit K G B2 L2 T2 KH bkA nsA tA) {i : Nat} (hi : i < 2) : ∃ l n bs ns ts, G B2 = some (.lst bs) ∧ atI bs (i : Int) = some (.ref l) ∧ BkL K G (bkA i) l ∧ G L2 = some (.lst ns) ∧ atI ns (i : Int) = some (.ref n) ∧ G n = some (.lst ((nsA i).map V.str)) ∧ G T2 = some (.lst ts) ∧ atI ts (i : Int) = some (.str (tA i)) := by
  obtain ⟨l0, l1, a1, a2, a3⟩ := s.bl
  obtain ⟨n0, n1, b1, b2, b3⟩ := s.ls
  have : i = 0 ∨ i = 1 := by (first | lia | omega)
  rcases this with rfl | rfl
  · exact ⟨l0, n0, _, _, _, a1, two_at hi, a2, b1, two_at hi, b2, s.tx, two_at hi⟩
  · exact ⟨l1, n1, _, _, _, a1, two_at hi, a3, b1, two_at hi, b3, s.tx, two_at hi⟩
theorem Sit.dBooks (s : Sit K G B2 L2 T2 KH bkA nsA tA) : Den K G (.list [bookD (bkA 0), bookD (bkA 1)]) (.ref B2) := by
  obtain ⟨l0, l1, a1, ⟨u0, e0, f0⟩, ⟨u1, e1, f1⟩⟩ := s.bl
  exact Den.list (SqL.of a1) (den2 (Den.list e0 f0) (Den.list e1 f1))
theorem Sit.dLists (s : Sit K G B2 L2 T2 KH bkA nsA tA) : Den K G (.list [nsL (nsA 0), nsL (nsA 1)]) (.ref L2) := by
  obtain ⟨n0, n1, b1, b2, b3⟩ := s.ls
  exact Den.list (SqL.of b1) (den2 (den_nm (SqL.of b2)) (den_nm (SqL.of b3)))
/-- what was told, by its key -/
noncomputable def Tb (K : PySem.W.Frag) (G : Hp) (ans : Nat → Nat → PyData) (kvs : List (List Key × V)) : Prop := ∀ k v, valV kvs k = some v → ∃ a w : Nat, k = [.inl (a : Int), .inl (w : Int)] ∧ Den K G (ans a w) v
theorem Tb.same {ans : Nat → Nat → PyData} {kvs : List (List Key × V)} (t : Tb K G ans kvs) (h : Same G G') : Tb K G' ans kvs := fun k v e => by
  obtain ⟨a, w, h1, h2⟩ := t k v e
  exact ⟨a, w, h1, h2.same h⟩
theorem Tb.get {ans : Nat → Nat → PyData} {kvs : List (List Key × V)} (t : Tb K G ans kvs) {a w : Nat} {v : V} (e : valV kvs [.inl (a : Int), .inl (w : Int)] = some v) : Den K G (ans a w) v := by
  obtain ⟨a', w', h1, h2⟩ := t _ v e
  injection h1 with h1 h3
  injection h3 with h3 _
  injection h1 with h1
  injection h3 with h3
  have e1 : a' = a := by (first | lia | omega)
  have e2 : w' = w := by (first | lia | omega)
  rw [e1, e2] at h2
  exact h2
theorem Tb.put {ans : Nat → Nat → PyData} {kvs : List (List Key × V)} (t : Tb K G ans kvs) {a w : Nat} {v : V} (h : Den K G (ans a w) v) : Tb K G ans (putK kvs [.inl (a : Int), .inl (w : Int)] v) := fun k u e => by
  rw [valV_put] at e
  by_cases hk : k = [.inl (a : Int), .inl (w : Int)]
  · rw [if_pos hk] at e
    cases e
    exact ⟨a, w, hk, h⟩
  · rw [if_neg hk] at e
    exact t k u e
/-- the state between two turns -/
structure Sta (K : PySem.W.Frag) (b c D B2 L2 T2 KH : Addr) (bkA : Nat → List (Str × Str)) (nsA : Nat → List Str) (tA : Nat → Str) (ans : Nat → Nat → PyData) (G H : Hp) (kvs : List (List Key × V)) (t : Int) : Prop where
  sm : Same G H
  gb : G b = none
  gc : G c = none
  gd : G D = none
  sit : Sit K G B2 L2 T2 KH bkA nsA tA
  dd : H D = some (.dT kvs)
  tb : Tb K G ans kvs
  bx : Bx H b c t
variable {ans : Nat → Nat → PyData} {kvs : List (List Key × V)} {t t' N : Int}
theorem Sta.db (s : Sta K b c D B2 L2 T2 KH bkA nsA tA ans G H kvs t) : D ≠ b ∧ D ≠ c := by
  obtain ⟨ns, x⟩ := s.bx
  exact ⟨(fun z => by have := s.dd; rw [z, x.d] at this; cases this), (fun z => by have := s.dd; rw [z, x.l] at this; cases this)⟩
theorem Sta.step (s : Sta K b c D B2 L2 T2 KH bkA nsA tA ans G H kvs t) (st : Step b c H H' t t' N) : Sta K b c D B2 L2 T2 KH bkA nsA tA ans G H' kvs t' := by
  refine ⟨fun a o e => ?_, s.gb, s.gc, s.gd, s.sit, st.old s.dd s.db.1 s.db.2, s.tb, st.bx⟩
  exact st.old (s.sm _ _ e) (fun z => by rw [z, s.gb] at e; cases e) (fun z => by rw [z, s.gc] at e; cases e)
theorem Sta.same (s : Sta K b c D B2 L2 T2 KH bkA nsA tA ans G H kvs t) (h : Same H H') : Sta K b c D B2 L2 T2 KH bkA nsA tA ans G H' kvs t := ⟨s.sm.trans h, s.gb, s.gc, s.gd, s.sit, h _ _ s.dd, s.tb, s.bx.same h⟩
/-- lists are changed that are none of what stands -/
theorem Sta.but {X : List Addr} (s : Sta K b c D B2 L2 T2 KH bkA nsA tA ans G H kvs t) (h : But X H H') (hG : ∀ a ∈ X, G a = none) (hb : b ∉ X) (hc : c ∉ X) (hd : D ∉ X) : Sta K b c D B2 L2 T2 KH bkA nsA tA ans G H' kvs t := by
  refine ⟨h.under s.sm hG, s.gb, s.gc, s.gd, s.sit, h _ _ hd s.dd, s.tb, ?_⟩
  obtain ⟨ns, x⟩ := s.bx
  exact ⟨ns, h _ _ hb x.d, h _ _ hc x.l, x.ne, x.le⟩
/-- what is new beside it stands too -/
noncomputable def join2 (G N : Hp) : Hp := fun a => match G a with | some o => some o | none => N a
theorem join2_l {G N : Hp} : Same G (join2 G N) := fun a o e => by unfold join2; rw [e]
theorem join2_r {G N H0 : Hp} (h : ∀ a o, N a = some o → G a = none) : Same N (join2 G N) := fun a o e => by unfold join2; rw [h a o e]; exact e
theorem join2_cases {G N : Hp} {a : Addr} {o : HO} (e : join2 G N a = some o) : G a = some o ∨ (G a = none ∧ N a = some o) := by
  unfold join2 at e
  cases g : G a with
  | some o' => rw [g] at e; exact .inl e
  | none => rw [g] at e; exact .inr ⟨rfl, e⟩
theorem join2_none {G N : Hp} {a : Addr} (h1 : G a = none) (h2 : N a = none) : join2 G N a = none := by unfold join2; rw [h1]; exact h2
end Z

set_option Elab.async false
set_option linter.all false
set_option maxRecDepth 100000
set_option maxHeartbeats 4000000
namespace Z
open PySem L2
noncomputable def spLaw (K : PySem.W.Frag) : Sp := fun vs H Q _ => ∃ (a : Addr) (ns : List Int), vs = [.ref a] ∧ SqL K H a (ns.map V.int) ∧ ns.length ≤ 63 ∧ ∀ H', Q (.bl true) H'
theorem small {n : Nat} (h : n ≤ 100000) : n < sizeLine := Nat.lt_of_le_of_lt h (by decide)
theorem updGen {P : Hp → Prop} {H : Hp} {l : Addr} {o : HO} (h : ∀ H', Chg H l o H' → P H') : P (upd H l o) := h _ ⟨rfl⟩
section
variable {P : Program} {w : World} {K : PySem.W.Frag} {mg : Str → Option Value} {base : Heap} {f : Addr} {fd : FuncData}
theorem sc_law : FnScope ["_law_script", "_law_box", "_law_one", "_law_other", "_law_books", "_law_lists", "_law_texts", "_law_kept_here", "_law_told", "_law_turn", "_law_at", "_law_which", "_law_again", "_law_found", "_law_handed"] ["_law_script"] (defScope (top i_law)) := ⟨rfl, rfl, rfl, by decide +kernel, rfl, by decide +kernel, by decide +kernel⟩
theorem ok_law (F : Fun K "law" "law" (top i_law) f fd) (T : Nm mg) (f_law_begin : Fn P w K mg base 1 "_law_begin" ["_law_script"] (spBegin K)) (f_law_take : Fn P w K mg base 1 "_law_take" ["_law_box", "_law_many"] spTk) (f_law_free_book : Fn P w K mg base 4 "_law_free_book" ["_law_box"] (spFB K)) (f_law_list : Fn P w K mg base 2 "_law_list" ["_law_box", "_law_book", "_law_most"] (spList K)) (f_law_joined : Fn P w K mg base 1 "_law_joined" ["_law_book", "_law_names_here"] (spJoined K)) (f_law_text_spoilt : Fn P w K mg base 3 "_law_text_spoilt" ["_law_box", "_law_text"] spSpoil) (f_law_kept : Fn P w K mg base 4 "_law_kept" ["_law_thing"] (spKp K 4)) (f_law_asked : Fn P w K mg base 5 "_law_asked" ["_law_book", "_law_which", "_law_names_here", "_law_text"] (spAsk K)) (f_law_same : Fn P w K mg base 4 "_law_same" ["_law_found", "_law_due"] (spSame K 4)) (f_law_changed : Fn P w K mg base 4 "_law_changed" ["_law_thing"] (spCh K 4)) : FnOk P w K mg base CX0 6 f fd ["_law_script"] (spLaw K) := by
  refine F.ok sc_law (fun vs H Q E h => ?_) (fun cdv A outer s H vs Q E hr h => ?_)
  · obtain ⟨a, ns, rfl, _⟩ := h
    rfl
  obtain ⟨a, ns, rfl, hS, hlen, q⟩ := h
  have hu6 := hr.units
  have hu := hu_of hr
  refine ⟨_, (pss_cons (ps_set (i := 1) sc_law.nd rfl (Or.inr rfl) (pe_fn (f_law_begin.mono (by first | decide | exact Nat.le_refl _ | (first | lia | omega))) hr rfl (pa_cons (pv 0) pa_nil)))
    (pss_cons (ps_set (i := 2) sc_law.nd rfl (Or.inl rfl) (pe_fn (f_law_free_book.mono (by first | decide | exact Nat.le_refl _ | (first | lia | omega))) hr rfl (pa_cons (pv 1) pa_nil)))
    (pss_cons (ps_setcomp (i := 3) sc_law.nd rfl (Or.inl rfl) rfl (comp_ok (Nc := ["_law_name", "_law_code"]) (Fc := []) (js := [])) (piK K (pv 2)) (gk_tup (gks_cons (gk_name (i := 0) (n := 2) (by decide)) (gks_cons (gk_name (i := 1) (n := 2) (by decide)) gks_nil gm_name gms_nil) gm_name (gms_cons gm_name gms_nil))) (fun _ _ _ _ _ => (tupK K 2 rfl (pgs_cons (pg_name (i := 0) (show (["_law_name", "_law_code"] : List Str).Nodup by decide +kernel) rfl (Or.inl rfl)) (pgs_cons (pg_name (i := 1) (show (["_law_name", "_law_code"] : List Str).Nodup by decide +kernel) rfl (Or.inl rfl)) pgs_nil)))) (fun _ _ _ _ _ => pts_nil) (fun _ _ _ _ _ => (tupN (pa_cons (pv 0) (pa_cons (bmK K PySem.F.plainAttrs_str PySem.F.slot_str_join PySem.F.type_str_join (joinK K) pe_str (pa_cons (pe_lcomp rfl (comp_ok (Nc := ["_law_sign"]) (Fc := []) (js := [])) (pi_text (pv 1)) (gk_name (i := 0) (n := 1) (by decide)) (fun _ _ _ _ _ => (pg_name (i := 0) (show (["_law_sign"] : List Str).Nodup by decide +kernel) rfl (Or.inl rfl))) (fun _ _ _ _ _ => pts_nil) (fun _ _ _ _ _ => (pe_ix (ixK K) pe_str (pe_callTy intS rfl T.n_int (by rfl) (pa_cons (pv 0) pa_nil)) (fun _ _ => rfl)))) pa_nil)) pa_nil)))))
    (pss_cons (ps_set (i := 4) sc_law.nd rfl (Or.inr rfl) (lstN (pa_cons (pv 2) (pa_cons (pv 3) pa_nil))))
    (pss_cons (ps_setcomp (i := 5) sc_law.nd rfl (Or.inl rfl) rfl (comp_ok (Nc := ["_law_book"]) (Fc := ["_law_box"]) (js := [1])) (piK K (pv 4)) (gk_name (i := 0) (n := 1) (by decide)) (fun _ _ _ _ _ => (pg_name (i := 0) (show (["_law_book", "_law_box"] : List Str).Nodup by decide +kernel) rfl (Or.inl rfl))) (fun _ _ _ _ _ => pts_nil) (fun _ _ _ _ _ => (pe_fn (f_law_list.mono (by first | decide | exact Nat.le_refl _ | (first | lia | omega))) hr rfl (pa_cons (pv 1) (pa_cons (pv 0) (pa_cons pe_int pa_nil))))))
    (pss_cons (ps_asg (pe_op addN (pe_ix (ixK K) (pv 5) pe_int (fun _ _ => rfl)) (pe_op mulN (lstN (pa_cons pe_str pa_nil)) (pe_callTy call_int1 rfl T.n_int (by rfl) (pa_cons (pe_cmpR (eqK K hu6) (pe_fn (f_law_take.mono (by first | decide | exact Nat.le_refl _ | (first | lia | omega))) hr rfl (pa_cons (pv 1) (pa_cons pe_int pa_nil))) pe_int (nomark _)) pa_nil)))) (pg_sub (pv 5) pe_int set_list))
    (pss_cons (ps_setcomp (i := 6) sc_law.nd rfl (Or.inl rfl) rfl (comp_ok (Nc := ["_law_k"]) (Fc := ["_law_books", "_law_box"]) (js := [4, 1])) (pi_range1 rfl T.n_range (pa_cons pe_int pa_nil)) (gk_name (i := 0) (n := 1) (by decide)) (fun _ _ _ _ _ => (pg_name (i := 0) (show (["_law_k", "_law_books", "_law_box"] : List Str).Nodup by decide +kernel) rfl (Or.inl rfl))) (fun _ _ _ _ _ => pts_nil) (fun _ _ _ _ _ => (pe_fn (f_law_joined.mono (by first | decide | exact Nat.le_refl _ | (first | lia | omega))) hr rfl (pa_cons (pe_ix (ixK K) (pv 1) (pv 0) (fun _ _ => rfl)) (pa_cons (pe_fn (f_law_list.mono (by first | decide | exact Nat.le_refl _ | (first | lia | omega))) hr rfl (pa_cons (pv 2) (pa_cons (pe_ix (ixK K) (pv 1) (pe_op op_sub pe_int (pv 0)) (fun _ _ => rfl)) (pa_cons pe_int pa_nil)))) pa_nil)))))
    (pss_cons (ps_asg (pe_fn (f_law_text_spoilt.mono (by first | decide | exact Nat.le_refl _ | (first | lia | omega))) hr rfl (pa_cons (pv 1) (pa_cons (pe_ix (ixK K) (pv 6) pe_int (fun _ _ => rfl)) pa_nil))) (pg_sub (pv 6) pe_int set_list))
    (pss_cons (ps_set (i := 7) sc_law.nd rfl (Or.inl rfl) (lstN (pa_cons (pe_fn (f_law_kept.mono (by first | decide | exact Nat.le_refl _ | (first | lia | omega))) hr rfl (pa_cons (pv 4) pa_nil)) (pa_cons (pe_fn (f_law_kept.mono (by first | decide | exact Nat.le_refl _ | (first | lia | omega))) hr rfl (pa_cons (pv 5) pa_nil)) pa_nil))))
    (pss_cons (ps_set (i := 8) sc_law.nd rfl (Or.inl rfl) pe_dnewT)
    (pss_cons (ps_for PassesOwn.never rfl (pi_range1 rfl T.n_range (pa_cons pe_int pa_nil)) (pg_name (i := 9) sc_law.nd rfl (Or.inl rfl)) (pss_cons (ps_par (i := 10) (j := 11) rfl sc_law.nd rfl rfl (by decide) rfl rfl (pa_cons (pe_fn (f_law_take.mono (by first | decide | exact Nat.le_refl _ | (first | lia | omega))) hr rfl (pa_cons (pv 1) (pa_cons pe_int pa_nil))) (pa_cons (pe_fn (f_law_take.mono (by first | decide | exact Nat.le_refl _ | (first | lia | omega))) hr rfl (pa_cons (pv 1) (pa_cons pe_int pa_nil))) pa_nil)) rfl)
    (pss_cons (ps_for PassesOwn.never rfl (pi_range1 rfl T.n_range (pa_cons pe_int pa_nil)) (pg_name (i := 12) sc_law.nd rfl (Or.inl rfl)) (pss_cons (ps_set (i := 13) sc_law.nd rfl (Or.inl rfl) (pe_fn (f_law_asked.mono (by first | decide | exact Nat.le_refl _ | (first | lia | omega))) hr rfl (pa_cons (pe_ix (ixK K) (pv 4) (pv 10) (fun _ _ => rfl)) (pa_cons (pv 11) (pa_cons (pe_ix (ixK K) (pv 5) (pv 10) (fun _ _ => rfl)) (pa_cons (pe_ix (ixK K) (pv 6) (pv 10) (fun _ _ => rfl)) pa_nil))))))
    (pss_cons (ps_if (PW.pt (pw_or (pt_not (pt_val (pe_fn (f_law_same.mono (by first | decide | exact Nat.le_refl _ | (first | lia | omega))) hr rfl (pa_cons (pv 13) (pa_cons (pe_sdef hu (pv 8) (tupN (pa_cons (pv 10) (pa_cons (pv 11) pa_nil))) (pe_fn (f_law_kept.mono (by first | decide | exact Nat.le_refl _ | (first | lia | omega))) hr rfl (pa_cons (pv 13) pa_nil))) pa_nil))))) (pw_or1 (pt_cmpR (neK K hu6) (lstN (pa_cons (pv 4) (pa_cons (pv 5) pa_nil))) (pv 7) (nomark _))))) (pss_one (ps_ret pe_bl)) pss_nil)
    (pss_one (ps_expr (pe_fn (f_law_changed.mono (by first | decide | exact Nat.le_refl _ | (first | lia | omega))) hr rfl (pa_cons (pv 13) pa_nil)))))))
    (pss_one (ps_if (pt_cmpR (eqK K hu6) (pe_fn (f_law_take.mono (by first | decide | exact Nat.le_refl _ | (first | lia | omega))) hr rfl (pa_cons (pv 1) (pa_cons pe_int pa_nil))) pe_int (nomark _)) (pss_cons (ps_set (i := 14) sc_law.nd rfl (Or.inl rfl) (lstN (pa_cons (pe_callTy (listN K) rfl T.n_list (by rfl) (pa_cons (pe_ix (ixK K) (pv 4) (pv 10) (fun _ _ => rfl)) pa_nil)) (pa_cons (pe_callTy (listN K) rfl T.n_list (by rfl) (pa_cons (pe_ix (ixK K) (pv 5) (pv 10) (fun _ _ => rfl)) pa_nil)) pa_nil))))
    (pss_cons (ps_expr (pe_fn (f_law_asked.mono (by first | decide | exact Nat.le_refl _ | (first | lia | omega))) hr rfl (pa_cons (pe_ix (ixK K) (pv 14) pe_int (fun _ _ => rfl)) (pa_cons (pv 11) (pa_cons (pe_ix (ixK K) (pv 14) pe_int (fun _ _ => rfl)) (pa_cons (pe_ix (ixK K) (pv 6) (pv 10) (fun _ _ => rfl)) pa_nil))))))
    (pss_cons (ps_expr (bm0K K PySem.F.plainAttrs_list PySem.F.slot_list_clear PySem.F.type_list_clear clearN (pe_ix (ixK K) (pv 14) pe_int (fun _ _ => rfl))))
    (pss_one (ps_expr (bm0K K PySem.F.plainAttrs_list PySem.F.slot_list_reverse PySem.F.type_list_reverse reverseN (pe_ix (ixK K) (pv 14) pe_int (fun _ _ => rfl)))))))) pss_nil)))))
    (pss_one (ps_ret pe_bl))))))))))))), ?_⟩
  refine ⟨_, rfl, a, ns, rfl, hS, hlen, fun b c H1 bx hb hc sm1 => gn ?_⟩
  dsimp only
  clear sm1 hS hlen
  -- one book
  refine ⟨_, rfl, b, c, 0, rfl, bx, by decide, by decide, fun bk v H2 t2 ok l16 dr fr hA st2 => gn ?_⟩
  dsimp only
  obtain ⟨l0, vs0, rfl, hl0, hd0⟩ := hA
  have g : GoodB bk := ⟨l16, names_nodup dr l16, fr, ok.cd, fun z hz => by
    obtain ⟨gg, _, _, hg⟩ := dr
    obtain ⟨j, hj⟩ := List.mem_iff_getElem?.mp hz
    exact (hg j z hj).le⟩
  have g' := flpB_good g
  have ub2 := st2.ub
  have lo2 := st2.le
  have hB2 : BkL K (hid H2 b c) bk l0 := ⟨vs0, SqL.of hl0, hd0⟩
  have hbne : 0 < bk.length := List.length_pos_iff.mpr ok.ne
  -- the other book
  refine asgCut (te := tComp _ _ _ _ _ _) (fun v H' => ∃ (l1 : Addr) (as : List Addr), v = .ref l1 ∧ Same H2 H' ∧ newOf H2 H' l1 = some (.lst (as.map V.ref)) ∧ as.length = bk.length ∧ ∀ (j : Nat) p z, as[j]? = some p → (flpB bk)[j]? = some z → newOf H2 H' p = some (.tup [.str z.1, .str z.2])) (fun Qn qn => ?_) ?_
  · have hl2 : SqL K H2 l0 vs0 := (hid_same (H := H2) (b := b) (c := c)).seq (SqL.of hl0)
    have hd2 := hd0.same (hid_same (H := H2) (b := b) (c := c))
    refine ⟨_, rfl, l0, rfl, ⟨_, hl2⟩, ?_⟩
    refine comp_goN (N := bk.length) (fun i ys H' => ∃ as : List Addr, ys = as.map V.ref ∧ as.length = i ∧ Same H2 H' ∧ ∀ (j : Nat) p z, as[j]? = some p → (flpB bk)[j]? = some z → newOf H2 H' p = some (.tup [.str z.1, .str z.2])) ⟨[], rfl, rfl, Same.refl _, by simp⟩ ?_ ?_
    · rintro i ys H3 Nx hi ⟨as, rfl, hal, s3, hat⟩ nx
      obtain ⟨tp, e1, e2⟩ := bk_at hd2 hi
      refine ⟨⟨_, _, s3.seq hl2, e1⟩, small (by rw [List.length_map]; (first | lia | omega)), ?_⟩
      rintro x H4 ⟨rfl, hy⟩
      have e := hy _ (s3.seq hl2)
      rw [e1] at e; cases e
      refine ⟨tp, _, rfl, s3.seqT e2, rfl, _, _, rfl, _, _, rfl, rfl, _, rfl, ?_⟩
      have hcd := g.cd _ (List.getElem_mem hi)
      have hcl := hcd.le
      generalize hq : bk[i] = qi at hcd hcl
      refine ⟨rfl, _, rfl, qi.2, rfl, ?_, ?_⟩
      · rw [← Array.all_toList, List.all_eq_true]
        intro ch hc'
        rcases hcd.bin ch hc' with e | e <;> rw [e] <;> decide
      refine comp_go (N := qi.2.length) (fun j zs H' => H' = H4 ∧ ∃ fs : List Str, zs = fs.map V.str ∧ fs = ((sg qi.2).take j).map fun ch => (⟨#[97 - ch]⟩ : Str)) ⟨rfl, [], rfl, by simp⟩ ?_ ?_
      · rintro j zs H5 Ny hj ⟨rfl, fs, rfl, hfs⟩ ny
        have hfl : fs.length = j := by
          have : qi.2.length = (sg qi.2).length := str_len _
          rw [hfs, List.length_map, List.length_take]; (first | lia | omega)
        refine ⟨hj, small (by rw [List.length_map]; (first | lia | omega)), ?_⟩
        rintro x' H6 ⟨rfl, hx⟩
        obtain ⟨ch, c1, c2⟩ := cps_at hj
        rw [hx _ c1]
        have hbit := hcd.bin ch c2
        refine ⟨_, rfl, _, _, rfl, int1 hbit, by show 1 ≤ 640; decide, ?_⟩
        refine .inr (.inr ⟨_, _, 97 - ch, rfl, rfl, by decide +kernel, flip_at hbit, ny _ _ ⟨rfl, fs ++ [⟨#[97 - ch]⟩], by rw [List.map_append]; rfl, ?_⟩⟩)
        have hj' : j < (sg qi.2).length := by have : qi.2.length = (sg qi.2).length := str_len _; (first | lia | omega)
        have hcj : (sg qi.2)[j] = ch := by
          have : (sg qi.2)[j]? = some ch := by
            show qi.2.cps.toList[j]? = some ch
            rw [Array.getElem?_toList]; exact c1
          rw [List.getElem?_eq_getElem hj'] at this
          injection this
        rw [take_next hj', List.map_append, ← hfs, hcj]
        rfl
      rintro zs H5 ⟨rfl, fs, rfl, hfs⟩
      have htk : (sg qi.2).take qi.2.length = sg qi.2 := List.take_of_length_le (by rw [← str_len]; exact Nat.le_refl _)
      rw [htk] at hfs
      refine ⟨show qi.2.cps.size ≤ _ from Nat.le_refl _, fun jp hjp => ?_⟩
      have hj : Txt.join "" fs = flp qi.2 := by
        refine str_eq ?_
        show (Txt.join "" fs).cps.toList = _
        rw [join_list0, sg_flp, hfs, List.flatMap_map]
        show (sg qi.2).flatMap (fun ch => [97 - ch]) = _
        induction sg qi.2 with
        | nil => rfl
        | cons x l ih => rw [List.flatMap_cons, List.map_cons, ih]; rfl
      have hsum : (fs.map (·.length)).sum ≤ 1000 := by
        have : (fs.map (·.length)) = List.replicate fs.length 1 := by
          refine List.eq_replicate_iff.mpr ⟨by rw [List.length_map], fun x hx => ?_⟩
          obtain ⟨y, hy, rfl⟩ := List.mem_map.mp hx
          rw [hfs] at hy
          obtain ⟨ch, _, rfl⟩ := List.mem_map.mp hy
          rfl
        rw [this, List.sum_replicate_nat, hfs, List.length_map]
        have : qi.2.length = (sg qi.2).length := str_len _
        (first | lia | omega)
      refine ⟨"", jp, fs, rfl, rfl, SqL.of upd_same, ?_, ?_⟩
      · have e0 : Str.length "" = 0 := rfl
        rw [e0]; (first | lia | omega)
      rw [hj]
      have nj : New H5 jp (.lst (fs.map V.str)) (upd H5 jp (.lst (fs.map V.str))) := ⟨hjp, rfl⟩
      refine ⟨by show 2 ≤ sizeLine; decide, fun tq H6 n6 => nx _ _ ⟨as ++ [tq], by rw [List.map_append]; rfl, by rw [List.length_append, hal]; rfl, s3.trans (nj.same.trans n6.same), fun j p z h1 h2 => ?_⟩⟩
      have s36 := nj.same.trans n6.same
      by_cases hjl : j < as.length
      · rw [List.getElem?_append_left hjl] at h1
        exact newOf_more s36 _ _ (hat j p z h1 h2)
      · rw [List.getElem?_append_right (by (first | lia | omega))] at h1
        have e : j - as.length = 0 := by
          have := (List.getElem?_eq_some_iff.mp h1).1
          simp at this
          (first | lia | omega)
        rw [e] at h1
        cases h1
        have ej : j = i := by (first | lia | omega)
        subst ej
        unfold flpB at h2
        rw [List.getElem?_map, List.getElem?_eq_getElem hi, hq] at h2
        cases h2
        rw [newOf_none ((s3.trans nj.same).free n6.nn)]
        exact n6.at
    · rintro ys H3 ⟨as, rfl, hal, s3, hat⟩
      exact ⟨⟨_, s3.seq hl2, by rw [bk_len hd2]; exact Nat.le_refl _⟩, fun p H4 n4 => qn _ _ ⟨p, as, rfl, s3.trans n4.same, by rw [newOf_none (s3.free n4.nn)]; exact n4.at, hal, fun j p z h1 h2 => newOf_more n4.same _ _ (hat j p z h1 h2)⟩⟩
  rintro v H3 ⟨l1, as, rfl, s3, hl1, hal, hat⟩
  refine gn ?_
  have st3 := st2.trans (Step.same st2.bx s3)
  have nhid : ∀ {p : Addr} {o : HO}, newOf H2 H3 p = some o → hid H3 b c p = some o := fun {p o} e => by
    obtain ⟨e1, e2⟩ := of_newOf e
    obtain ⟨pb, pc⟩ := st2.bx.ne_new e1
    rw [hid_of pb pc]; exact e2
  have hB3' : BkL K (hid H3 b c) (flpB bk) l1 := by
    refine ⟨as.map V.ref, SqL.of (nhid hl1), Dens.of_get (by rw [List.length_map, List.length_map]; unfold flpB; rw [List.length_map]; (first | lia | omega)) fun j d u h1 h2 => ?_⟩
    rw [List.getElem?_map] at h1 h2
    cases e1 : (flpB bk)[j]? with
    | none => rw [e1] at h1; cases h1
    | some z =>
      cases e2 : as[j]? with
      | none => rw [e2] at h2; cases h2
      | some p =>
        rw [e1] at h1; rw [e2] at h2
        cases h1; cases h2
        exact Den.pairOf (nhid (hat j p z e2 e1))
  have hB3 : BkL K (hid H3 b c) bk l0 := hB2.same (Same.hid s3)
  -- the books
  refine ⟨_, rfl, _, rfl, by show 2 ≤ sizeLine; decide, fun B2 H4 n4 => gn ?_⟩
  have st4 := st3.newN n4
  obtain ⟨Bb, Bc⟩ := st3.bx.ne_new n4.nn
  have hB4 := hB3.same (Same.hid (b := b) (c := c) n4.same)
  have hB4' := hB3'.same (Same.hid (b := b) (c := c) n4.same)
  have ub4 := st4.ub
  have lo4 := st4.le
  have pos' : 0 < (flpB bk).length := by unfold flpB; rw [List.length_map]; exact hbne
  -- the lists of names
  dsimp only
  refine asgCut (te := tComp _ _ _ _ _ _) (fun v H' => ∃ (L2 n0 n1 : Addr) (ps0 ps1 : List (Str × Str)) (t' : Int), v = .ref L2 ∧ Step b c H4 H' t2 t' 140 ∧ H4 L2 = none ∧ L2 ≠ b ∧ L2 ≠ c ∧ H' L2 = some (.lst [.ref n0, .ref n1]) ∧ (ps0.length ≤ 12 ∧ Of bk ps0 ∧ H4 n0 = none ∧ n0 ≠ b ∧ n0 ≠ c ∧ H' n0 = some (.lst ((ps0.map (·.1)).map V.str))) ∧ (ps1.length ≤ 12 ∧ Of (flpB bk) ps1 ∧ H4 n1 = none ∧ n1 ≠ b ∧ n1 ≠ c ∧ H' n1 = some (.lst ((ps1.map (·.1)).map V.str)))) (fun Qn qn => ?_) ?_
  · refine ⟨_, rfl, B2, rfl, ⟨_, SqL.of n4.at⟩, ?_⟩
    refine comp_goN (N := 2) (fun i ys H' => ∃ t', Step b c H4 H' t2 t' (70 * i) ∧ ((i = 0 ∧ ys = []) ∨ (∃ n0 ps0, i = 1 ∧ ys = [.ref n0] ∧ ps0.length ≤ 12 ∧ Of bk ps0 ∧ H4 n0 = none ∧ n0 ≠ b ∧ n0 ≠ c ∧ H' n0 = some (.lst ((ps0.map (·.1)).map V.str))) ∨
      (∃ n0 ps0 n1 ps1, i = 2 ∧ ys = [.ref n0, .ref n1] ∧ (ps0.length ≤ 12 ∧ Of bk ps0 ∧ H4 n0 = none ∧ n0 ≠ b ∧ n0 ≠ c ∧ H' n0 = some (.lst ((ps0.map (·.1)).map V.str))) ∧ (ps1.length ≤ 12 ∧ Of (flpB bk) ps1 ∧ H4 n1 = none ∧ n1 ≠ b ∧ n1 ≠ c ∧ H' n1 = some (.lst ((ps1.map (·.1)).map V.str)))))) ⟨t2, (Step.refl st4.bx).more (by decide), .inl ⟨rfl, rfl⟩⟩ ?_ ?_
    · rintro i ys H5 Nx hi ⟨t5, st5, hcase⟩ nx
      have ub5 := st5.ub
      have lo5 := st5.le
      have hb5 := st5.old n4.at Bb Bc
      refine ⟨⟨_, _, SqL.of hb5, List.getElem?_eq_getElem (show i < 2 from hi)⟩, small (by rcases hcase with ⟨_, rfl⟩ | ⟨_, _, _, rfl, _⟩ | ⟨_, _, _, _, _, rfl, _⟩ <;> simp), ?_⟩
      rintro x H6 ⟨rfl, hy⟩
      have e := hy _ (SqL.of hb5)
      have s5 := st5.sm
      rcases hcase with ⟨rfl, rfl⟩ | ⟨n0, ps0, rfl, rfl, a1, a2, a3, a4, a5, a6⟩ | ⟨_, _, _, _, rfl, _⟩
      · cases e
        refine gn ⟨_, rfl, _, rfl, b, c, l0, t5, bk, rfl, st5.bx, by (first | lia | omega), by (first | lia | omega), hB4.same s5, hbne, g.le, fun ps np H7 t7 p1 p2 p3 p4 p5 p6 st7 => nx _ _ ⟨t7, (st5.trans st7).more (by (first | lia | omega)), .inr (.inl ⟨np, ps, rfl, rfl, p1, p2, st5.fresh st4.bx p4, p5, p6, p3⟩)⟩⟩
      · cases e
        refine gn ⟨_, rfl, _, rfl, b, c, l1, t5, flpB bk, rfl, st5.bx, by (first | lia | omega), by (first | lia | omega), hB4'.same s5, pos', g'.le, fun ps np H7 t7 p1 p2 p3 p4 p5 p6 st7 => nx _ _ ⟨t7, (st5.trans st7).more (by (first | lia | omega)), .inr (.inr ⟨n0, ps0, np, ps, rfl, rfl, ⟨a1, a2, a3, a4, a5, st7.old a6 a4 a5⟩, p1, p2, st5.fresh st4.bx p4, p5, p6, p3⟩)⟩⟩
      · exact absurd hi (by decide)
    · rintro ys H5 ⟨t5, st5, hcase⟩
      have hb5 := st5.old n4.at Bb Bc
      refine ⟨⟨_, SqL.of hb5, by show 2 ≤ 2; decide⟩, fun L2 H6 n6 => ?_⟩
      obtain ⟨Lb, Lc⟩ := st5.bx.ne_new n6.nn
      rcases hcase with ⟨h, _⟩ | ⟨_, _, h, _⟩ | ⟨n0, ps0, n1, ps1, _, rfl, ⟨a1, a2, a3, a4, a5, a6⟩, b1, b2, b3, b4, b5, b6⟩
      · cases h
      · cases h
      · exact qn _ _ ⟨L2, n0, n1, ps0, ps1, t5, rfl, (st5.newN n6).more (by (first | lia | omega)), st5.fresh st4.bx n6.nn, Lb, Lc, n6.at, ⟨a1, a2, a3, a4, a5, n6.same _ _ a6⟩, b1, b2, b3, b4, b5, n6.same _ _ b6⟩
  rintro v H5 ⟨L2, n0, n1, ps0, ps1, t5, rfl, st5, L0, Lb, Lc, hL5, ⟨a1, a2, a3, a4, a5, a6⟩, b1, b2, b3, b4, b5, b6⟩
  refine gn ?_
  have ub5 := st5.ub
  have lo5 := st5.le
  have hB5 := hB4.same st5.sm
  have hB5' := hB4'.same st5.sm
  have hBB5 := st5.old n4.at Bb Bc
  -- one more name, or none
  refine ⟨_, rfl, .inl ⟨L2, _, _, _, rfl, rfl, SqL.of hL5, at_nat (by decide) rfl, ?_⟩⟩
  refine ⟨by show 1 ≤ sizeLine; decide, fun p6 H6 n6 => ?_⟩
  have st6 := (Step.refl st5.bx).newN n6
  obtain ⟨pb6, pc6⟩ := st5.bx.ne_new n6.nn
  refine ⟨_, rfl, b, c, t5, 2, rfl, st6.bx, by (first | lia | omega), by (first | lia | omega), by decide, by decide, fun r H7 r0 r1 st7 => .inl ⟨rfl, .inr ⟨_, rfl, ?_⟩⟩⟩
  have hp7 := st7.old n6.at pb6 pc6
  have hn7 := st7.old (n6.same _ _ b6) b4 b5
  have hL7 := st7.old (n6.same _ _ hL5) Lb Lc
  have st7 := st6.trans st7
  obtain ⟨mk, hmk, hmk2⟩ : ∃ mk : Nat, (if decide (V.int r = V.int 0) = true then (1 : Int) else 0) = (mk : Int) ∧ mk ≤ 1 := by
    by_cases e : decide (V.int r = V.int 0) = true
    · exact ⟨1, by rw [if_pos e]; rfl, Nat.le_refl _⟩
    · exact ⟨0, by rw [if_neg e]; rfl, Nat.zero_le _⟩
  rw [hmk]
  refine .inr ⟨p6, _, _, rfl, rfl, hp7, by (first | lia | omega), by (first | lia | omega), Nat.le_of_lt (small (by show 1 * _ ≤ _; (first | lia | omega))), fun p8 H8 n8 => ?_⟩
  obtain ⟨ns1, hns1, hns2⟩ : ∃ ns1 : List Str, (ps1.map (·.1)).map V.str ++ (List.replicate (((mk : Nat) : Int).toNat) [V.str "zzzzzzzy"]).flatten = ns1.map V.str ∧ (ns1 = ps1.map (·.1) ∨ ns1 = ps1.map (·.1) ++ [Str.ofString "zzzzzzzy"]) := by
    have : mk = 0 ∨ mk = 1 := by (first | lia | omega)
    rcases this with rfl | rfl
    · exact ⟨_, List.append_nil _, .inl rfl⟩
    · refine ⟨_, ?_, .inr rfl⟩
      rw [List.map_append]; rfl
  have hpl1 : ((ps1.map (·.1)).map V.str).length = ps1.length := by rw [List.length_map, List.length_map]
  refine .inr (.inr ⟨n1, p8, _, _, rfl, rfl, n8.same _ _ hn7, n8.at, ?_, fun p9 H9 n9 => ?_⟩)
  · rw [hpl1]
    have : mk = 0 ∨ mk = 1 := by (first | lia | omega)
    rcases this with rfl | rfl <;> exact Nat.le_of_lt (small (by simp; (first | lia | omega)))
  have h9 := n9.at
  rw [hns1] at h9
  have st9 := (st7.newN n8).newN n9
  have hL9 := n9.same _ _ (n8.same _ _ hL7)
  obtain ⟨pb9, pc9⟩ := (st7.newN n8).bx.ne_new n9.nn
  refine ⟨_, rfl, L2, _, _, _, rfl, rfl, hL9, ixN_of (by decide) (by show (1 : Int) < 2; decide), ?_⟩
  refine updGen (o := .lst [.ref n0, .ref p9]) (fun HA cA => ?_)
  have stA := (st5.trans st9).chgN cA L0 Lb Lc
  have n0L : n0 ≠ L2 := fun z => by
    rw [z, hL5] at a6
    injection a6 with e
    injection e with e
    cases ps0 with
    | nil => cases e
    | cons q r => injection e with e1 _; cases e1
  have p9L : p9 ≠ L2 := fun z => by have := n9.nn; rw [z, n8.same _ _ hL7] at this; cases this
  have hn0A : HA n0 = some (.lst ((ps0.map (·.1)).map V.str)) := by
    rw [cA.ne n0L]
    exact st9.old a6 a4 a5
  have hn1A : HA p9 = some (.lst (ns1.map V.str)) := by rw [cA.ne p9L]; exact h9
  have hBA := hB4.same stA.sm
  have hBA' := hB4'.same stA.sm
  have hBBA := stA.old n4.at Bb Bc
  have ubA := stA.ub
  have loA := stA.le
  dsimp only
  -- the texts
  have nm0 : ∀ n, n ∈ bk.map (·.1) ↔ n ∈ (flpB bk).map (·.1) := fun n => by rw [flpB_names]
  refine asgCut (te := tComp _ _ _ _ _ _) (fun v H' => ∃ (T2 : Addr) (z0 z1 : Str) (t' : Int), v = .ref T2 ∧ Step b c HA H' (t5 + 1) t' 140 ∧ HA T2 = none ∧ T2 ≠ b ∧ T2 ≠ c ∧ H' T2 = some (.lst [.str z0, .str z1]) ∧ Bin z0 ∧ z0.length ≤ 120 ∧ z1.length ≤ 120) (fun Qn qn => ?_) ?_
  · refine ⟨_, rfl, by decide, by decide, ?_⟩
    refine comp_goN (N := 2) (fun i ys H' => ∃ t', Step b c HA H' (t5 + 1) t' (70 * i) ∧ ((i = 0 ∧ ys = []) ∨ (∃ z0 : Str, i = 1 ∧ ys = [.str z0] ∧ Bin z0 ∧ z0.length ≤ 120) ∨ (∃ z0 z1 : Str, i = 2 ∧ ys = [.str z0, .str z1] ∧ Bin z0 ∧ z0.length ≤ 120 ∧ z1.length ≤ 120))) ⟨_, (Step.refl stA.bx).more (by decide), .inl ⟨rfl, rfl⟩⟩ ?_ ?_
    · rintro i ys H5' Nx hi ⟨t6, st6, hcase⟩ nx
      have ub6 := st6.ub
      have lo6 := st6.le
      have hb6 := st6.old hBBA Bb Bc
      refine ⟨hi, small (by rcases hcase with ⟨_, rfl⟩ | ⟨_, _, rfl, _⟩ | ⟨_, _, _, rfl, _⟩ <;> simp), ?_⟩
      rintro x H6' ⟨rfl, rfl⟩
      have txl : ∀ {bb ps : List (Str × Str)}, GoodB bb → Of bb ps → ps.length ≤ 12 → (txS ps).length ≤ 120 := fun {bb ps} gg oo hl => by
        have h1 := tx_len gg oo
        rw [str_len]
        show (sg (txS ps)).length ≤ 120
        rw [sg_tx]; (first | lia | omega)
      rcases hcase with ⟨rfl, rfl⟩ | ⟨z0, rfl, rfl, hz0, hl0'⟩ | ⟨_, _, rfl, _⟩
      · refine gn ⟨_, rfl, _, rfl, .inl ⟨B2, _, _, _, rfl, rfl, SqL.of hb6, at_nat (by decide) rfl, ?_⟩⟩
        refine ⟨_, rfl, _, rfl, _, rfl, _, _, rfl, rfl, .inl ⟨B2, _, _, _, rfl, rfl, SqL.of hb6, at_nat (by decide) rfl, ?_⟩⟩
        refine ⟨b, c, l1, t6, flpB bk, rfl, st6.bx, by (first | lia | omega), by (first | lia | omega), hBA'.same st6.sm, pos', g'.le, fun ps np H7' t7 p1 p2 p3 p4 p5 p6 st7' => ?_⟩
        obtain ⟨qs, oq, eq⟩ := pairs_of (bk := bk) (ns := ps.map (·.1)) fun n hn => (nm0 n).mpr (by
          obtain ⟨z, hz, rfl⟩ := List.mem_map.mp hn
          exact List.mem_map_of_mem (p2 z hz))
        have hql : qs.length ≤ 12 := by have := congrArg List.length eq; simp at this; (first | lia | omega)
        rw [eq] at p3
        have st67 := st6.trans st7'
        exact ⟨l0, np, bk, qs, rfl, (hBA.same st67.sm).same hid_same, g, oq, by (first | lia | omega), SqL.of p3, nx _ _ ⟨t7, st67.more (by (first | lia | omega)), .inr (.inl ⟨_, rfl, rfl, bin_tx g oq, txl g oq hql⟩)⟩⟩
      · refine gn ⟨_, rfl, _, rfl, .inl ⟨B2, _, _, _, rfl, rfl, SqL.of hb6, at_nat (by decide) rfl, ?_⟩⟩
        refine ⟨_, rfl, _, rfl, _, rfl, _, _, rfl, rfl, .inl ⟨B2, _, _, _, rfl, rfl, SqL.of hb6, at_nat (by decide) rfl, ?_⟩⟩
        refine ⟨b, c, l0, t6, bk, rfl, st6.bx, by (first | lia | omega), by (first | lia | omega), hBA.same st6.sm, hbne, g.le, fun ps np H7' t7 p1 p2 p3 p4 p5 p6 st7' => ?_⟩
        obtain ⟨qs, oq, eq⟩ := pairs_of (bk := flpB bk) (ns := ps.map (·.1)) fun n hn => (nm0 n).mp (by
          obtain ⟨z, hz, rfl⟩ := List.mem_map.mp hn
          exact List.mem_map_of_mem (p2 z hz))
        have hql : qs.length ≤ 12 := by have := congrArg List.length eq; simp at this; (first | lia | omega)
        rw [eq] at p3
        have st67 := st6.trans st7'
        exact ⟨l1, np, flpB bk, qs, rfl, (hBA'.same st67.sm).same hid_same, g', oq, by (first | lia | omega), SqL.of p3, nx _ _ ⟨t7, st67.more (by (first | lia | omega)), .inr (.inr ⟨_, _, rfl, rfl, hz0, hl0', txl g' oq hql⟩)⟩⟩
      · exact absurd hi (by decide)
    · rintro ys H5' ⟨t6, st6, hcase⟩
      refine ⟨by show (2 : Int).toNat ≤ 2; decide, fun T2 H6' n6' => ?_⟩
      obtain ⟨Tb', Tc'⟩ := st6.bx.ne_new n6'.nn
      rcases hcase with ⟨h, _⟩ | ⟨_, h, _⟩ | ⟨z0, z1, _, rfl, h0, h1, h2⟩
      · cases h
      · cases h
      · exact qn _ _ ⟨T2, z0, z1, t6, rfl, (st6.newN n6').more (by (first | lia | omega)), st6.fresh stA.bx n6'.nn, Tb', Tc', n6'.at, h0, h1, h2⟩
  rintro v HB ⟨T2, z0, z1, tB, rfl, stB, T0, Tb', Tc', hTB, hz0, hzl0, hzl1⟩
  refine gn ?_
  have ubB := stB.ub
  have loB := stB.le
  -- one text spoilt
  refine ⟨_, rfl, _, rfl, .inl ⟨T2, _, _, _, rfl, rfl, SqL.of hTB, at_nat (by decide) rfl, ?_⟩⟩
  refine ⟨b, c, tB, z0, rfl, stB.bx, by (first | lia | omega), by (first | lia | omega), hz0, by (first | lia | omega), fun y0 HC tC hy0 hyl stC => ?_⟩
  have hTC := stC.old hTB Tb' Tc'
  refine ⟨_, rfl, T2, _, _, _, rfl, rfl, hTC, ixN_of (by decide) (by show (0 : Int) < 2; decide), ?_⟩
  refine updGen (o := .lst [.str y0, .str z1]) (fun HD cD => ?_)
  dsimp only
  have stD := (stB.trans stC).chgN cD T0 Tb' Tc'
  have ubD := stD.ub
  have loD := stD.le
  have nT : ∀ {a : Addr} {o : HO}, HA a = some o → a ≠ b → a ≠ c → HD a = some o := fun {a o} e h1 h2 => stD.old e h1 h2
  have stAD : Step b c H4 HD t2 tC 500 := (stA.trans stD).more (by (first | lia | omega))
  have hL_D := nT cA.at Lb Lc
  have hn0D := nT hn0A a4 a5
  have hn1D := nT hn1A pb9 pc9
  have hBBD := nT hBBA Bb Bc
  have hBD := (hBA.same stD.sm)
  have hBD' := (hBA'.same stD.sm)
  -- what stands
  let bkA : Nat → List (Str × Str) := fun i => if i = 0 then bk else flpB bk
  let nsA : Nat → List Str := fun i => if i = 0 then ps0.map (·.1) else ns1
  let tA : Nat → Str := fun i => if i = 0 then y0 else z1
  have gA : ∀ i, GoodB (bkA i) := fun i => by
    show GoodB (if i = 0 then bk else flpB bk)
    split
    · exact g
    · exact g'
  have lowN : ∀ {bb ps : List (Str × Str)}, (∀ q ∈ bb, Low q.1) → GoodB bb → Of bb ps → ps.length ≤ 12 → Ns (ps.map (·.1)) := fun {bb ps} lo gg oo hl => by
    refine ⟨by rw [List.length_map]; (first | lia | omega), fun x hx => ?_, fun x hx ch hc' => ?_⟩
    · obtain ⟨z, hz, rfl⟩ := List.mem_map.mp hx
      exact gg.nl z (oo z hz)
    · obtain ⟨z, hz, rfl⟩ := List.mem_map.mp hx
      have := lo z (oo z hz) ch hc'
      (first | lia | omega)
  have low' : ∀ q ∈ flpB bk, Low q.1 := fun q hq => by
    unfold flpB at hq
    obtain ⟨z, hz, rfl⟩ := List.mem_map.mp hq
    exact ok.nm z hz
  have hN0 := lowN ok.nm g a2 a1
  have hN1 : Ns ns1 := by
    have h1 := lowN low' g' b2 b1
    rcases hns2 with rfl | rfl
    · exact h1
    · refine ⟨by rw [List.length_append, List.length_map]; show _ + 1 ≤ _; (first | lia | omega), fun x hx => ?_, fun x hx ch hc' => ?_⟩
      · rcases List.mem_append.mp hx with hx | hx
        · exact h1.nl x hx
        · rw [List.mem_singleton.mp hx]; decide +kernel
      · rcases List.mem_append.mp hx with hx | hx
        · exact h1.lo x hx ch hc'
        · rw [List.mem_singleton.mp hx] at hc'
          have : ch ∈ [122, 122, 122, 122, 122, 122, 122, 121] := hc'
          simp at this
          rcases this with rfl | rfl <;> decide
  have nA : ∀ i, Ns (nsA i) := fun i => by
    show Ns (if i = 0 then ps0.map (·.1) else ns1)
    split
    · exact hN0
    · exact hN1
  have tAl : ∀ i, (tA i).length ≤ 500 := fun i => by
    show (if i = 0 then y0 else z1).length ≤ 500
    split <;> (first | lia | omega)
  have b0e : bkA 0 = bk := rfl
  have b1e : bkA 1 = flpB bk := rfl
  obtain ⟨sb0, wb0⟩ := book_small g ok.nm
  obtain ⟨sb1, wb1⟩ := book_small g' low'
  obtain ⟨sn0, wn0⟩ := names_small hN0
  obtain ⟨sn1, wn1⟩ := names_small hN1
  have dBk : ∀ {H' : Hp}, Same (hid HD b c) H' → Den K H' (.list [bookD (bkA 0), bookD (bkA 1)]) (.ref B2) := fun {H'} sm => by
    obtain ⟨u0, e0, f0⟩ := hBD.same sm
    obtain ⟨u1, e1, f1⟩ := hBD'.same sm
    exact Den.list (SqL.of (sm _ _ (by rw [hid_of Bb Bc]; exact hBBD))) (den2 (Den.list e0 f0) (Den.list e1 f1))
  have dLs : ∀ {H' : Hp}, Same (hid HD b c) H' → Den K H' (.list [nsL (nsA 0), nsL (nsA 1)]) (.ref L2) := fun {H'} sm =>
    Den.list (SqL.of (sm _ _ (by rw [hid_of Lb Lc]; exact hL_D))) (den2 (den_nm (SqL.of (sm _ _ (by rw [hid_of a4 a5]; exact hn0D)))) (den_nm (SqL.of (sm _ _ (by rw [hid_of pb9 pc9]; exact hn1D)))))
  have shB : Sh 3 (.list [bookD (bkA 0), bookD (bkA 1)]) := Sh.list fun e he => by
    simp at he
    rcases he with rfl | rfl
    · exact sb0
    · exact sb1
  have shL : Sh 3 (.list [nsL (nsA 0), nsL (nsA 1)]) := by
    have : Sh 2 (.list [nsL (nsA 0), nsL (nsA 1)]) := Sh.list fun e he => by
      simp at he
      rcases he with rfl | rfl
      · exact sn0
      · exact sn1
    exact ⟨this.1, by have := this.2; (first | lia | omega)⟩
  have wB : PyData.weight (.list [bookD (bkA 0), bookD (bkA 1)]) ≤ 1000000 := by
    rw [PyData.weight]
    simp only [PyData.weightAll]
    rw [b0e, b1e]
    (first | lia | omega)
  have wL : PyData.weight (.list [nsL (nsA 0), nsL (nsA 1)]) ≤ 1000000 := by
    rw [PyData.weight]
    simp only [PyData.weightAll]
    show (PyData.list ((ps0.map (·.1)).map .str)).weight + 1 + ((PyData.list (ns1.map .str)).weight + 1 + 0) ≤ _
    (first | lia | omega)
  -- what is kept
  refine ⟨_, rfl, .ref B2, _, (), rfl, dBk hid_same, trivial, by have := shB.2; (first | lia | omega), wB, fun k1 HE sE dE => ?_⟩
  refine ⟨_, rfl, .ref L2, _, (), rfl, dLs (hid_same.trans sE), trivial, by have := shL.2; (first | lia | omega), wL, fun k2 HF sF dF => ?_⟩
  refine ⟨by show 2 ≤ sizeLine; decide, fun KH HG nG => gn ?_⟩
  have sDG := sE.trans (sF.trans nG.same)
  intro D hD
  obtain ⟨HI, nI'⟩ : ∃ HI, New HG D (.dT []) HI := ⟨_, hD, rfl⟩
  rw [← nI'.eq]
  refine gn ?_
  dsimp only
  have sDI := sDG.trans nI'.same
  have stI : Step b c H4 HI t2 tC 500 := (stAD.trans (Step.same stAD.bx sDI)).more (by (first | lia | omega))
  let ans : Nat → Nat → PyData := fun i w => ansD (bkA i) (nsA i) (tA i) w
  obtain ⟨Db, Dc⟩ : D ≠ b ∧ D ≠ c := by
    have := (Step.same stAD.bx sDG).bx.ne_new nI'.nn
    exact this
  let G0 : Hp := fun x => if x = D then none else hid HI b c x
  have g0 : ∀ {x : Addr} {o : HO}, HG x = some o → x ≠ b → x ≠ c → G0 x = some o := fun {x o} e h1 h2 => by
    show (if x = D then none else hid HI b c x) = some o
    rw [if_neg (ne_of_none e nI'.nn), hid_of h1 h2]
    exact nI'.same _ _ e
  have sG0 : Same G0 HI := fun x o e => by
    have e : (if x = D then none else hid HI b c x) = some o := e
    split at e
    · cases e
    · exact (of_hid e).1
  have sHG : Same (hid HG b c) G0 := fun x o e => by
    obtain ⟨e1, e2, e3⟩ := of_hid e
    exact g0 e1 e2 e3
  have sDG0 : Same (hid HD b c) G0 := (Same.hid sDG).trans sHG
  have newG : ∀ {d : PyData} {v : V} {Hx Hy : Hp}, Same Hx Hy → Same HD Hx → Same Hy HG → Den K (newOf Hx Hy) d v → Den K G0 d v := fun {d v Hx Hy} s1 s2 s3 h => by
    refine h.same fun x o e => ?_
    obtain ⟨e1, e2⟩ := of_newOf e
    have n1 : HD x = none := s2.free e1
    obtain ⟨nb, nc⟩ := stAD.bx.ne_new n1
    exact g0 (s3 _ _ e2) nb nc
  have sta : Sta K b c D B2 L2 T2 KH bkA nsA tA ans G0 HI [] tC := by
    have Kn : HD KH = none := (sE.trans sF).free nG.nn
    obtain ⟨Kb, Kc⟩ := stAD.bx.ne_new Kn
    refine ⟨sG0, ?_, ?_, ?_, ⟨⟨l0, l1, sDG0 _ _ (by rw [hid_of Bb Bc]; exact hBBD), hBD.same sDG0, hBD'.same sDG0⟩, ⟨n0, p9, sDG0 _ _ (by rw [hid_of Lb Lc]; exact hL_D), sDG0 _ _ (by rw [hid_of a4 a5]; exact hn0D), sDG0 _ _ (by rw [hid_of pb9 pc9]; exact hn1D)⟩, sDG0 _ _ (by rw [hid_of Tb' Tc']; exact cD.at), ?_⟩, nI'.at, (fun k v e => by cases e), stI.bx⟩
    · show (if b = D then none else hid HI b c b) = none
      rw [if_neg (Ne.symm Db)]; unfold hid; rw [if_pos (.inl rfl)]
    · show (if c = D then none else hid HI b c c) = none
      rw [if_neg (Ne.symm Dc)]; unfold hid; rw [if_pos (.inr rfl)]
    · show (if D = D then none else hid HI b c D) = none
      rw [if_pos rfl]
    · exact Den.list (SqL.of (g0 nG.at Kb Kc)) (den2 (newG sE (Same.refl _) (sF.trans nG.same) dE) (newG sF sE nG.same dF))
  have ubI := stI.ub
  have loI := stI.le
  have ansS : ∀ i w, (ans i w).depth < 4 ∧ (ans i w).weight ≤ 1000000 := fun i w => ansD_small (gA i) (nA i) (tAl i)
  have shK : Sh 4 (.list [.list [bookD (bkA 0), bookD (bkA 1)], .list [nsL (nsA 0), nsL (nsA 1)]]) := Sh.list fun e he => by
    simp at he
    rcases he with rfl | rfl
    · exact shB
    · exact shL
  clear dBk dLs newG sHG sDG0 g0
  generalize hG0 : G0 = G1 at sta
  clear_value bkA nsA tA
  clear hG0 sG0
  refine seqCut (t := tFor _ _ _) (fun σ H' => True) (fun Nx nx => ?_) ?_
  · refine ⟨_, rfl, by decide, by decide, ?_⟩
    refine for_go (N := 16) (fun i σ H' => ∃ (G : Hp) (kvs : List (List Key × V)) (t' : Int) (x9 x10 x11 x12 x13 x14 : Option V), σ = [some (.ref a), some (.ref b), some (.ref l0), some (.ref l1), some (.ref B2), some (.ref L2), some (.ref T2), some (.ref KH), some (.ref D), x9, x10, x11, x12, x13, x14] ∧ Sta K b c D B2 L2 T2 KH bkA nsA tA ans G H' kvs t' ∧ kvs.length ≤ 2 * i ∧ 0 ≤ t' ∧ t' ≤ 5000 + 3 * i) ⟨G1, [], tC, _, _, _, _, _, _, rfl, sta, Nat.zero_le _, by (first | lia | omega), by (first | lia | omega)⟩ ?_ ?_
    · rintro i σ J1 hi ⟨G, kvs, u1, x9, x10, x11, x12, x13, x14, rfl, sta1, hkl, hu0, hu1⟩
      refine ⟨hi, ?_⟩
      rintro x J1' ⟨rfl, rfl⟩
      refine gn ?_
      dsimp only
      refine ⟨_, rfl, b, c, u1, 2, rfl, sta1.bx, by (first | lia | omega), by (first | lia | omega), by decide, by decide, fun r J2 r0' r1' sj2 => ?_⟩
      have sta2 := sta1.step sj2
      refine ⟨_, rfl, b, c, _, 6, rfl, sta2.bx, by (first | lia | omega), by (first | lia | omega), by decide, by decide, fun r2 J3 r20 r21 sj3 => ⟨_, _, rfl, ?_⟩⟩
      have sta3 := sta2.step sj3
      obtain ⟨at', rfl⟩ : ∃ n : Nat, r = n := ⟨r.toNat, by (first | lia | omega)⟩
      obtain ⟨wh, rfl⟩ : ∃ n : Nat, r2 = n := ⟨r2.toNat, by (first | lia | omega)⟩
      have hat2 : at' < 2 := by (first | lia | omega)
      dsimp only
      refine seqCut (t := tFor _ _ _) (fun σ H' => ∃ (G : Hp) (kvs : List (List Key × V)) (x12 x13 : Option V), σ = [some (.ref a), some (.ref b), some (.ref l0), some (.ref l1), some (.ref B2), some (.ref L2), some (.ref T2), some (.ref KH), some (.ref D), some (.int (0 + (i : Int))), some (.int at'), some (.int wh), x12, x13, x14] ∧ Sta K b c D B2 L2 T2 KH bkA nsA tA ans G H' kvs (u1 + 1 + 1) ∧ kvs.length ≤ 2 * (i + 1)) (fun Ny ny => ?_) ?_
      · refine ⟨_, rfl, by decide, by decide, ?_⟩
        refine for_go (N := 2) (fun j σ H' => ∃ (G : Hp) (kvs : List (List Key × V)) (x12 x13 : Option V), σ = [some (.ref a), some (.ref b), some (.ref l0), some (.ref l1), some (.ref B2), some (.ref L2), some (.ref T2), some (.ref KH), some (.ref D), some (.int (0 + (i : Int))), some (.int at'), some (.int wh), x12, x13, x14] ∧ Sta K b c D B2 L2 T2 KH bkA nsA tA ans G H' kvs (u1 + 1 + 1) ∧ kvs.length ≤ 2 * i + j) ⟨G, kvs, _, _, rfl, sta3, by (first | lia | omega)⟩ ?_ ?_
        · clear sta3 sta2 sta1 hkl
          rintro j σ J4 hj ⟨G, kvs, y12, y13, rfl, sta4, hkl⟩
          refine ⟨hj, ?_⟩
          rintro x J4' ⟨rfl, rfl⟩
          refine gn ?_
          dsimp only
          obtain ⟨l, n, bs, nss, ts, e1, e2, e3, e4, e5, e6, e7, e8⟩ := sta4.sit.at' hat2
          have sm4 := sta4.sm
          refine ⟨_, rfl, _, rfl, .inl ⟨B2, _, _, _, rfl, rfl, SqL.of (sm4 _ _ e1), e2, _, rfl, _, rfl, _, rfl, .inl ⟨L2, _, _, _, rfl, rfl, SqL.of (sm4 _ _ e4), e5, _, rfl, _, rfl, .inl ⟨T2, _, _, _, rfl, rfl, SqL.of (sm4 _ _ e7), e8, ?_⟩⟩⟩⟩
          refine ⟨l, n, bkA at', nsA at', tA at', wh, rfl, e3.same sm4, gA at', (nA at').le, SqL.of (sm4 _ _ e6), tAl at', by (first | lia | omega), fun v J5 fp s5 hF nd hfp => gn ?_⟩
          have hFd := hF.den
          obtain ⟨dA, wA⟩ := ansS at' wh
          have sta5 := sta4.same s5
          -- told before, or now
          refine ⟨_, rfl, ?_⟩
          refine cutE (t := tSDef _ _ _) (fun u H' => ∃ (G' : Hp) (kvs' : List (List Key × V)), Den K H' (ans at' wh) u ∧ Ft K H' (ans at' wh) v fp ∧ Sta K b c D B2 L2 T2 KH bkA nsA tA ans G' H' kvs' (u1 + 1 + 1) ∧ kvs'.length ≤ 2 * i + (j + 1) ∧ ∀ x ∈ fp, G' x = none) (fun Qn qn => ?_) ?_
          · refine ⟨_, rfl, D, rfl, .inr ⟨_, .inl sta5.dd⟩, _, rfl, _, rfl, by show 2 ≤ sizeLine; decide, fun tp J6 n6 => ?_⟩
            refine ⟨_, rfl, v, ans at' wh, (), rfl, hFd.same n6.same, trivial, dA, wA, fun u J7 s7 d7 => ?_⟩
            have s57 := n6.same.trans s7
            have sta7 := sta5.same s57
            have hF7 : Ft K J7 (ans at' wh) v fp := hF.move (X := []) (But.same s57) (fun _ h => nomatch h) fun _ _ h => nomatch h
            have fpG : ∀ x ∈ fp, G x = none := fun x hx => by
              cases e : G x with
              | none => rfl
              | some o => have := sm4 _ _ e; rw [hfp x hx] at this; cases this
            refine ⟨kvs, [.inl (at' : Int), .inl (wh : Int)], tp, sta7.dd, rfl, s7 _ _ n6.at, small (by (first | lia | omega)), fun u' hu' => qn _ _ ⟨G, kvs, (sta7.tb.get hu').same sta7.sm, hF7, sta7, by (first | lia | omega), fpG⟩, fun hnone => ?_⟩
            -- one more key
            have cN : Chg J7 D (.dT (putK kvs [.inl (at' : Int), .inl (wh : Int)] u)) (upd J7 D (.dT (putK kvs [.inl (at' : Int), .inl (wh : Int)] u))) := ⟨rfl⟩
            generalize upd J7 D (.dT (putK kvs [.inl (at' : Int), .inl (wh : Int)] u)) = J8 at cN ⊢
            have newNo : ∀ x o, newOf J6 J7 x = some o → G x = none := fun x o e => by
              cases e' : G x with
              | none => rfl
              | some o' =>
                have h1 := (s5.trans n6.same) _ _ (sm4 _ _ e')
                rw [(of_newOf e).1] at h1; cases h1
            have sG : Same (join2 G (newOf J6 J7)) J7 := fun x o e => by
              rcases join2_cases e with e | ⟨_, e⟩
              · exact sta7.sm _ _ e
              · exact (of_newOf e).2
            have DJ6 : J6 D = some (.dT kvs) := n6.same _ _ sta5.dd
            have newD : newOf J6 J7 D = none := by unfold newOf; rw [DJ6]
            have newB : newOf J6 J7 b = none ∧ newOf J6 J7 c = none := by
              obtain ⟨ns', bx'⟩ := (sta5.same n6.same).bx
              constructor
              · unfold newOf; rw [bx'.d]
              · unfold newOf; rw [bx'.l]
            have sG8 : Same (join2 G (newOf J6 J7)) J8 := fun x o e => by
              rw [cN.ne (fun z => by rw [z, join2_none sta7.gd newD] at e; cases e)]
              exact sG _ _ e
            have d8 : Den K (join2 G (newOf J6 J7)) (ans at' wh) u := d7.same (join2_r (H0 := G) newNo)
            refine qn _ _ ⟨join2 G (newOf J6 J7), _, d8.same sG8, ?_, ⟨sG8, join2_none sta7.gb newB.1, join2_none sta7.gc newB.2, join2_none sta7.gd newD, sta7.sit.same join2_l, cN.at, (sta7.tb.same join2_l).put d8, ?_⟩, ?_, fun x hx => ?_⟩
            · refine hF7.move (X := [D]) (fun x o nx' e => ?_) (fun x hx vs e => ?_) fun x hx hxD => ?_
              · rw [cN.ne (fun z => nx' (by rw [z]; exact List.mem_cons_self))]; exact e
              · rw [List.mem_singleton.mp hx, sta7.dd] at e; cases e
              · obtain ⟨vs, e⟩ := hF7.lists x hx
                rw [List.mem_singleton.mp hxD, sta7.dd] at e; cases e
            · obtain ⟨ns', bx'⟩ := sta7.bx
              refine ⟨ns', ?_, ?_, bx'.ne, bx'.le⟩
              · rw [cN.ne (Ne.symm Db)]; exact bx'.d
              · rw [cN.ne (Ne.symm Dc)]; exact bx'.l
            · have := length_putK kvs [.inl (at' : Int), .inl (wh : Int)] u
              (first | lia | omega)
            · refine join2_none (fpG x hx) ?_
              obtain ⟨vs, e⟩ := hF.lists x hx
              unfold newOf
              rw [n6.same _ _ e]
          rintro u J8 ⟨G', kvs', hu', hF8, sta8, hkl8, fpG8⟩
          refine ⟨v, u, ans at' wh, rfl, hF8.den, hu', dA, wA, fun J9 s9 => ⟨_, rfl, iteF ?_⟩⟩
          have sta9 := sta8.same s9
          refine ⟨_, rfl, _, rfl, by show 2 ≤ sizeLine; decide, fun p10 J10 n10 => ⟨_, rfl, ?_⟩⟩
          have sta10 := sta9.same n10.same
          refine .inr ⟨_, _, Den.list (SqL.of n10.at) (den2 (sta10.sit.dBooks.same sta10.sm) (sta10.sit.dLists.same sta10.sm)), sta10.sit.kp.same sta10.sm, shK.shaped (by decide), shK.shaped (by decide), _, rfl, ?_⟩
          rw [eqv_refl _ shK.1]
          refine iteF ?_
          dsimp only [tNext]
          have hF10 : Ft K J10 (ans at' wh) v fp := hF8.move (X := []) (But.same (s9.trans n10.same)) (fun _ h => nomatch h) fun _ _ h => nomatch h
          refine ⟨_, rfl, v, ans at' wh, fp, rfl, hF10, nd, dA, wA, fun J11 b11 => ?_⟩
          have inJ4 : ∀ {x : Addr} {o : HO}, J4' x = some o → x ∉ fp := fun {x o} e hx => by rw [hfp x hx] at e; cases e
          obtain ⟨ns4, bx4⟩ := sta4.bx
          exact ⟨G', kvs', _, _, rfl, sta10.but b11 fpG8 (inJ4 bx4.d) (inJ4 bx4.l) (inJ4 sta4.dd), hkl8⟩
        · rintro σ J4 ⟨G, kvs, y12, y13, rfl, sta4, hkl⟩
          exact ⟨Nat.le_refl _, ny _ _ ⟨G, kvs, _, _, rfl, sta4, by (first | lia | omega)⟩⟩
      · clear sta3 sta2 sta1 hkl
        rintro σ J4 ⟨G, kvs, y12, y13, rfl, sta4, hkl⟩
        refine ⟨_, rfl, b, c, _, 4, rfl, sta4.bx, by (first | lia | omega), by (first | lia | omega), by decide, by decide, fun r4 J5 r40 r41 sj5 => .inl ⟨rfl, _, rfl, ?_⟩⟩
        have sta5 := sta4.step sj5
        refine ite2 (fun _ => ?_) (fun _ => ⟨G, kvs, _, _, _, _, _, _, _, rfl, sta5, hkl, by (first | lia | omega), by (first | lia | omega)⟩)
        obtain ⟨l, n, bs, nss, ts, e1, e2, ⟨us, e3, e3'⟩, e4, e5, e6, e7, e8⟩ := sta5.sit.at' hat2
        have sm5 := sta5.sm
        refine ⟨_, rfl, _, rfl, .inl ⟨B2, _, _, _, rfl, rfl, SqL.of (sm5 _ _ e1), e2, l, _, rfl, .inl (sm5.seq e3), fun h1 J6 n6 => ?_⟩⟩
        have sm6 := sm5.trans n6.same
        refine ⟨_, rfl, _, rfl, .inl ⟨L2, _, _, _, rfl, rfl, SqL.of (sm6 _ _ e4), e5, n, _, rfl, .inl (SqL.of (sm6 _ _ e6)), fun h2 J7 n7 => ?_⟩⟩
        have sm7 := sm6.trans n7.same
        refine ⟨by show 2 ≤ sizeLine; decide, fun h3 J8 n8 => gn ?_⟩
        have sm8 := sm7.trans n8.same
        have s58 := n6.same.trans (n7.same.trans n8.same)
        refine ⟨_, rfl, .inl ⟨h3, _, _, _, rfl, rfl, SqL.of n8.at, at_nat (by decide) rfl, _, rfl, _, rfl, .inl ⟨h3, _, _, _, rfl, rfl, SqL.of n8.at, at_nat (by decide) rfl, _, rfl, _, rfl, .inl ⟨T2, _, _, _, rfl, rfl, SqL.of (sm8 _ _ e7), e8, ?_⟩⟩⟩⟩
        refine ⟨h1, h2, bkA at', nsA at', tA at', wh, rfl, ⟨us, SqL.of ((n7.same.trans n8.same) _ _ n6.at), e3'.same sm8⟩, gA at', (nA at').le, SqL.of (n8.same _ _ n7.at), tAl at', by (first | lia | omega), fun v J9 fp s9 hF nd hfp => ?_⟩
        have h19 := s9 _ _ ((n7.same.trans n8.same) _ _ n6.at)
        have h29 := s9 _ _ (n8.same _ _ n7.at)
        have h39 := s9 _ _ n8.at
        refine ⟨_, rfl, .inl ⟨h3, _, _, _, rfl, rfl, SqL.of h39, at_nat (by decide) rfl, .inl ⟨rfl, _, SqL.of h19⟩, h1, _, rfl, rfl, h19, fun J10 c10 => ?_⟩⟩
        have ne13 : h3 ≠ h1 := fun z => by have := n8.nn; rw [z, n7.same _ _ n6.at] at this; cases this
        have ne12 : h2 ≠ h1 := fun z => by have := n7.nn; rw [z, n6.at] at this; cases this
        have h310 : J10 h3 = _ := (c10.ne ne13).trans h39
        have h210 : J10 h2 = _ := (c10.ne ne12).trans h29
        refine ⟨_, rfl, .inl ⟨h3, _, _, _, rfl, rfl, SqL.of h310, at_nat (by decide) rfl, .inl ⟨rfl, _, SqL.of h210⟩, h2, _, rfl, rfl, h210, fun J11 c11 => ?_⟩⟩
        have sta9 := sta5.same (s58.trans s9)
        have bt : But [h1, h2] J9 J11 := fun x o nx' e => by
          have n1 : x ≠ h1 := fun z => nx' (by rw [z]; exact List.mem_cons_self)
          have n2 : x ≠ h2 := fun z => nx' (by rw [z]; exact List.mem_cons_of_mem _ List.mem_cons_self)
          rw [c11.ne n2, c10.ne n1]; exact e
        have f1 : J5 h1 = none := n6.nn
        have f2 : J5 h2 = none := n6.back n7.nn
        have in5 : ∀ {x : Addr} {o : HO}, J5 x = some o → x ∉ [h1, h2] := fun {x o} e hx => by
          rcases List.mem_cons.mp hx with rfl | hx
          · rw [f1] at e; cases e
          · rw [List.mem_singleton.mp hx, f2] at e; cases e
        have fG : ∀ x ∈ [h1, h2], G x = none := fun x hx => by
          cases e : G x with
          | none => rfl
          | some o => exact absurd hx (in5 (sm5 _ _ e))
        obtain ⟨ns5, bx5⟩ := sta5.bx
        exact ⟨G, kvs, _, _, _, _, _, _, _, rfl, sta9.but bt fG (in5 bx5.d) (in5 bx5.l) (in5 sta5.dd), hkl, by (first | lia | omega), by (first | lia | omega)⟩
    · rintro σ J1 ⟨G, kvs, u1, x9, x10, x11, x12, x13, x14, rfl, sta1, hkl, hu0, hu1⟩
      exact ⟨Nat.le_refl _, nx _ _ trivial⟩
  · rintro σ H' _
    exact q H'
end
end Z

namespace Z
open PySem L2
theorem lenZ {α : Type} {P : List α → Prop} (h : P []) : ∀ us : List α, us.length = 0 → P us := fun us e => List.eq_nil_of_length_eq_zero e ▸ h
theorem lenS {α : Type} {P : List α → Prop} {n : Nat} (h : ∀ a (us : List α), us.length = n → P (a :: us)) (us : List α) (e : us.length = n + 1) : P us := by
  cases us with | nil => cases e | cons a us => exact h a us (Nat.succ.inj e)
theorem all_mk {l : PySem.W.OpenLaw} {w : World} {K : PySem.W.Frag} {h : Heap} {mg : Str → Option Value} {fa f1 f2 f3 f4 f5 f6 f7 f8 f9 f10 f11 f12 f13 f14 f15 f16 f17 f18 f19 f20 f21 f22 : Addr} (X : K.In h) (G : h.Ns mainGlobals mg) (hfa : mg "law" = some (.ref fa))
    {od1 an1 : Option Addr} {sl1 : Array (Option Value)} {oc1 kV1 dc1 pm1 cd1 ct1 : Value}
    {od2 an2 : Option Addr} {sl2 : Array (Option Value)} {oc2 kV2 dc2 pm2 cd2 ct2 : Value}
    {od3 an3 : Option Addr} {sl3 : Array (Option Value)} {oc3 kV3 dc3 pm3 cd3 ct3 : Value}
    {od4 an4 : Option Addr} {sl4 : Array (Option Value)} {oc4 kV4 dc4 pm4 cd4 ct4 : Value}
    {od5 an5 : Option Addr} {sl5 : Array (Option Value)} {oc5 kV5 dc5 pm5 cd5 ct5 : Value}
    {od6 an6 : Option Addr} {sl6 : Array (Option Value)} {oc6 kV6 dc6 pm6 cd6 ct6 : Value}
    {od7 an7 : Option Addr} {sl7 : Array (Option Value)} {oc7 kV7 dc7 pm7 cd7 ct7 : Value}
    {od8 an8 : Option Addr} {sl8 : Array (Option Value)} {oc8 kV8 dc8 pm8 cd8 ct8 : Value}
    {od9 an9 : Option Addr} {sl9 : Array (Option Value)} {oc9 kV9 dc9 pm9 cd9 ct9 : Value}
    {od10 an10 : Option Addr} {sl10 : Array (Option Value)} {oc10 kV10 dc10 pm10 cd10 ct10 : Value}
    {od11 an11 : Option Addr} {sl11 : Array (Option Value)} {oc11 kV11 dc11 pm11 cd11 ct11 : Value}
    {od12 an12 : Option Addr} {sl12 : Array (Option Value)} {oc12 kV12 dc12 pm12 cd12 ct12 : Value}
    {od13 an13 : Option Addr} {sl13 : Array (Option Value)} {oc13 kV13 dc13 pm13 cd13 ct13 : Value}
    {od14 an14 : Option Addr} {sl14 : Array (Option Value)} {oc14 kV14 dc14 pm14 cd14 ct14 : Value}
    {od15 an15 : Option Addr} {sl15 : Array (Option Value)} {oc15 kV15 dc15 pm15 cd15 ct15 : Value}
    {od16 an16 : Option Addr} {sl16 : Array (Option Value)} {oc16 kV16 dc16 pm16 cd16 ct16 : Value}
    {od17 an17 : Option Addr} {sl17 : Array (Option Value)} {oc17 kV17 dc17 pm17 cd17 ct17 : Value}
    {od18 an18 : Option Addr} {sl18 : Array (Option Value)} {oc18 kV18 dc18 pm18 cd18 ct18 : Value}
    {od19 an19 : Option Addr} {sl19 : Array (Option Value)} {oc19 kV19 dc19 pm19 cd19 ct19 : Value}
    {od20 an20 : Option Addr} {sl20 : Array (Option Value)} {oc20 kV20 dc20 pm20 cd20 ct20 : Value}
    {od21 an21 : Option Addr} {sl21 : Array (Option Value)} {oc21 kV21 dc21 pm21 cd21 ct21 : Value}
    {od22 an22 : Option Addr} {sl22 : Array (Option Value)} {oc22 kV22 dc22 pm22 cd22 ct22 : Value}
    {G_OddError : Addr}
    {G_BadText : Addr}
    {G_NoName : Addr}
    {N_OddError : Addr} {nm_OddError q_OddError : Str} {bs_OddError : List Value} {hd_OddError : Bool} {sn_OddError : List Str} {su_OddError : List Value} {ab_OddError : Bool} {co_OddError : Option Bool} {dd_OddError : Option Addr} {k0_OddError k1_OddError k2_OddError k3_OddError k5_OddError : Option Value}
    {N_BadText : Addr} {nm_BadText q_BadText : Str} {bs_BadText : List Value} {sn_BadText : List Str} {su_BadText : List Value} {ab_BadText : Bool} {co_BadText : Option Bool} {dd_BadText : Option Addr} {k0_BadText k1_BadText k2_BadText k3_BadText k5_BadText : Option Value}
    {f_BadText : Addr} {od_BadText an_BadText : Option Addr} {sl_BadText : Array (Option Value)} {kV_BadText dc_BadText pm_BadText cd_BadText ct_BadText : Value}
    {N_NoName : Addr} {nm_NoName q_NoName : Str} {bs_NoName : List Value} {sn_NoName : List Str} {su_NoName : List Value} {ab_NoName : Bool} {co_NoName : Option Bool} {dd_NoName : Option Addr} {k0_NoName k1_NoName k2_NoName k3_NoName k5_NoName : Option Value}
    {f_NoName : Addr} {od_NoName an_NoName : Option Addr} {sl_NoName : Array (Option Value)} {kV_NoName dc_NoName pm_NoName cd_NoName ct_NoName : Value}
    (a1 : PySem.W.nsIn K mainGlobals "written" = some (some (.ref f1))) (l1 : K.lookup f1 = some ⟨oc1, od1, .func (PySem.W.fnOf "written" "written" (defArgs (top i_written)) (defBody (top i_written)) (defScope (top i_written)) .none kV1 dc1 pm1 an1 cd1 ct1), sl1⟩) (c1 : PySem.W.codeIn K cd1 "written" = true) (k1 : PySem.W.keepIn K (.ref f1) = true)
    (a2 : PySem.W.nsIn K mainGlobals "lookup_of" = some (some (.ref f2))) (l2 : K.lookup f2 = some ⟨oc2, od2, .func (PySem.W.fnOf "lookup_of" "lookup_of" (defArgs (top i_lookup_of)) (defBody (top i_lookup_of)) (defScope (top i_lookup_of)) .none kV2 dc2 pm2 an2 cd2 ct2), sl2⟩) (c2 : PySem.W.codeIn K cd2 "lookup_of" = true) (k2 : PySem.W.keepIn K (.ref f2) = true)
    (a3 : PySem.W.nsIn K mainGlobals "code_at" = some (some (.ref f3))) (l3 : K.lookup f3 = some ⟨oc3, od3, .func (PySem.W.fnOf "code_at" "code_at" (defArgs (top i_code_at)) (defBody (top i_code_at)) (defScope (top i_code_at)) .none kV3 dc3 pm3 an3 cd3 ct3), sl3⟩) (c3 : PySem.W.codeIn K cd3 "code_at" = true) (k3 : PySem.W.keepIn K (.ref f3) = true)
    (a4 : PySem.W.nsIn K mainGlobals "reading_from" = some (some (.ref f4))) (l4 : K.lookup f4 = some ⟨oc4, od4, .func (PySem.W.fnOf "reading_from" "reading_from" (defArgs (top i_reading_from)) (defBody (top i_reading_from)) (defScope (top i_reading_from)) .none kV4 dc4 pm4 an4 cd4 ct4), sl4⟩) (c4 : PySem.W.codeIn K cd4 "reading_from" = true) (k4 : PySem.W.keepIn K (.ref f4) = true)
    (a5 : PySem.W.nsIn K mainGlobals "whole_reading" = some (some (.ref f5))) (l5 : K.lookup f5 = some ⟨oc5, od5, .func (PySem.W.fnOf "whole_reading" "whole_reading" (defArgs (top i_whole_reading)) (defBody (top i_whole_reading)) (defScope (top i_whole_reading)) .none kV5 dc5 pm5 an5 cd5 ct5), sl5⟩) (c5 : PySem.W.codeIn K cd5 "whole_reading" = true) (k5 : PySem.W.keepIn K (.ref f5) = true)
    (a6 : PySem.W.nsIn K mainGlobals "read_all" = some (some (.ref f6))) (l6 : K.lookup f6 = some ⟨oc6, od6, .func (PySem.W.fnOf "read_all" "read_all" (defArgs (top i_read_all)) (defBody (top i_read_all)) (defScope (top i_read_all)) .none kV6 dc6 pm6 an6 cd6 ct6), sl6⟩) (c6 : PySem.W.codeIn K cd6 "read_all" = true) (k6 : PySem.W.keepIn K (.ref f6) = true)
    (a7 : PySem.W.nsIn K mainGlobals "bounds_of" = some (some (.ref f7))) (l7 : K.lookup f7 = some ⟨oc7, od7, .func (PySem.W.fnOf "bounds_of" "bounds_of" (defArgs (top i_bounds_of)) (defBody (top i_bounds_of)) (defScope (top i_bounds_of)) .none kV7 dc7 pm7 an7 cd7 ct7), sl7⟩) (c7 : PySem.W.codeIn K cd7 "bounds_of" = true) (k7 : PySem.W.keepIn K (.ref f7) = true)
    (a8 : PySem.W.nsIn K mainGlobals "read_from" = some (some (.ref f8))) (l8 : K.lookup f8 = some ⟨oc8, od8, .func (PySem.W.fnOf "read_from" "read_from" (defArgs (top i_read_from)) (defBody (top i_read_from)) (defScope (top i_read_from)) .none kV8 dc8 pm8 an8 cd8 ct8), sl8⟩) (c8 : PySem.W.codeIn K cd8 "read_from" = true) (k8 : PySem.W.keepIn K (.ref f8) = true)
    (a9 : PySem.W.nsIn K mainGlobals "_law_begin" = some (some (.ref f9))) (l9 : K.lookup f9 = some ⟨oc9, od9, .func (PySem.W.fnOf "_law_begin" "_law_begin" (defArgs (top i_law_begin)) (defBody (top i_law_begin)) (defScope (top i_law_begin)) .none kV9 dc9 pm9 an9 cd9 ct9), sl9⟩) (c9 : PySem.W.codeIn K cd9 "_law_begin" = true) (k9 : PySem.W.keepIn K (.ref f9) = true)
    (a10 : PySem.W.nsIn K mainGlobals "_law_take" = some (some (.ref f10))) (l10 : K.lookup f10 = some ⟨oc10, od10, .func (PySem.W.fnOf "_law_take" "_law_take" (defArgs (top i_law_take)) (defBody (top i_law_take)) (defScope (top i_law_take)) .none kV10 dc10 pm10 an10 cd10 ct10), sl10⟩) (c10 : PySem.W.codeIn K cd10 "_law_take" = true) (k10 : PySem.W.keepIn K (.ref f10) = true)
    (a11 : PySem.W.nsIn K mainGlobals "_law_same" = some (some (.ref f11))) (l11 : K.lookup f11 = some ⟨oc11, od11, .func (PySem.W.fnOf "_law_same" "_law_same" (defArgs (top i_law_same)) (defBody (top i_law_same)) (defScope (top i_law_same)) .none kV11 dc11 pm11 an11 cd11 ct11), sl11⟩) (c11 : PySem.W.codeIn K cd11 "_law_same" = true) (k11 : PySem.W.keepIn K (.ref f11) = true)
    (a12 : PySem.W.nsIn K mainGlobals "_law_signs" = some (some (.ref f12))) (l12 : K.lookup f12 = some ⟨oc12, od12, .func (PySem.W.fnOf "_law_signs" "_law_signs" (defArgs (top i_law_signs)) (defBody (top i_law_signs)) (defScope (top i_law_signs)) .none kV12 dc12 pm12 an12 cd12 ct12), sl12⟩) (c12 : PySem.W.codeIn K cd12 "_law_signs" = true) (k12 : PySem.W.keepIn K (.ref f12) = true)
    (a13 : PySem.W.nsIn K mainGlobals "_law_free_codes" = some (some (.ref f13))) (l13 : K.lookup f13 = some ⟨oc13, od13, .func (PySem.W.fnOf "_law_free_codes" "_law_free_codes" (defArgs (top i_law_free_codes)) (defBody (top i_law_free_codes)) (defScope (top i_law_free_codes)) .none kV13 dc13 pm13 an13 cd13 ct13), sl13⟩) (c13 : PySem.W.codeIn K cd13 "_law_free_codes" = true) (k13 : PySem.W.keepIn K (.ref f13) = true)
    (a14 : PySem.W.nsIn K mainGlobals "_law_names" = some (some (.ref f14))) (l14 : K.lookup f14 = some ⟨oc14, od14, .func (PySem.W.fnOf "_law_names" "_law_names" (defArgs (top i_law_names)) (defBody (top i_law_names)) (defScope (top i_law_names)) .none kV14 dc14 pm14 an14 cd14 ct14), sl14⟩) (c14 : PySem.W.codeIn K cd14 "_law_names" = true) (k14 : PySem.W.keepIn K (.ref f14) = true)
    (a15 : PySem.W.nsIn K mainGlobals "_law_free_book" = some (some (.ref f15))) (l15 : K.lookup f15 = some ⟨oc15, od15, .func (PySem.W.fnOf "_law_free_book" "_law_free_book" (defArgs (top i_law_free_book)) (defBody (top i_law_free_book)) (defScope (top i_law_free_book)) .none kV15 dc15 pm15 an15 cd15 ct15), sl15⟩) (c15 : PySem.W.codeIn K cd15 "_law_free_book" = true) (k15 : PySem.W.keepIn K (.ref f15) = true)
    (a16 : PySem.W.nsIn K mainGlobals "_law_list" = some (some (.ref f16))) (l16 : K.lookup f16 = some ⟨oc16, od16, .func (PySem.W.fnOf "_law_list" "_law_list" (defArgs (top i_law_list)) (defBody (top i_law_list)) (defScope (top i_law_list)) .none kV16 dc16 pm16 an16 cd16 ct16), sl16⟩) (c16 : PySem.W.codeIn K cd16 "_law_list" = true) (k16 : PySem.W.keepIn K (.ref f16) = true)
    (a17 : PySem.W.nsIn K mainGlobals "_law_joined" = some (some (.ref f17))) (l17 : K.lookup f17 = some ⟨oc17, od17, .func (PySem.W.fnOf "_law_joined" "_law_joined" (defArgs (top i_law_joined)) (defBody (top i_law_joined)) (defScope (top i_law_joined)) .none kV17 dc17 pm17 an17 cd17 ct17), sl17⟩) (c17 : PySem.W.codeIn K cd17 "_law_joined" = true) (k17 : PySem.W.keepIn K (.ref f17) = true)
    (a18 : PySem.W.nsIn K mainGlobals "_law_text_spoilt" = some (some (.ref f18))) (l18 : K.lookup f18 = some ⟨oc18, od18, .func (PySem.W.fnOf "_law_text_spoilt" "_law_text_spoilt" (defArgs (top i_law_text_spoilt)) (defBody (top i_law_text_spoilt)) (defScope (top i_law_text_spoilt)) .none kV18 dc18 pm18 an18 cd18 ct18), sl18⟩) (c18 : PySem.W.codeIn K cd18 "_law_text_spoilt" = true) (k18 : PySem.W.keepIn K (.ref f18) = true)
    (a19 : PySem.W.nsIn K mainGlobals "_law_asked" = some (some (.ref f19))) (l19 : K.lookup f19 = some ⟨oc19, od19, .func (PySem.W.fnOf "_law_asked" "_law_asked" (defArgs (top i_law_asked)) (defBody (top i_law_asked)) (defScope (top i_law_asked)) .none kV19 dc19 pm19 an19 cd19 ct19), sl19⟩) (c19 : PySem.W.codeIn K cd19 "_law_asked" = true) (k19 : PySem.W.keepIn K (.ref f19) = true)
    (a20 : PySem.W.nsIn K mainGlobals "_law_changed" = some (some (.ref f20))) (l20 : K.lookup f20 = some ⟨oc20, od20, .func (PySem.W.fnOf "_law_changed" "_law_changed" (defArgs (top i_law_changed)) (defBody (top i_law_changed)) (defScope (top i_law_changed)) .none kV20 dc20 pm20 an20 cd20 ct20), sl20⟩) (c20 : PySem.W.codeIn K cd20 "_law_changed" = true) (k20 : PySem.W.keepIn K (.ref f20) = true)
    (a21 : PySem.W.nsIn K mainGlobals "_law_kept" = some (some (.ref f21))) (l21 : K.lookup f21 = some ⟨oc21, od21, .func (PySem.W.fnOf "_law_kept" "_law_kept" (defArgs (top i_law_kept)) (defBody (top i_law_kept)) (defScope (top i_law_kept)) .none kV21 dc21 pm21 an21 cd21 ct21), sl21⟩) (c21 : PySem.W.codeIn K cd21 "_law_kept" = true) (k21 : PySem.W.keepIn K (.ref f21) = true)
    (a22 : PySem.W.nsIn K mainGlobals "law" = some (some (.ref f22))) (l22 : K.lookup f22 = some ⟨oc22, od22, .func (PySem.W.fnOf "law" "law" (defArgs (top i_law)) (defBody (top i_law)) (defScope (top i_law)) .none kV22 dc22 pm22 an22 cd22 ct22), sl22⟩) (c22 : PySem.W.codeIn K cd22 "law" = true) (k22 : PySem.W.keepIn K (.ref f22) = true)
    (gn_OddError : PySem.W.nsIn K mainGlobals "OddError" = some (some (.ref G_OddError)))
    (gn_BadText : PySem.W.nsIn K mainGlobals "BadText" = some (some (.ref G_BadText)))
    (gn_NoName : PySem.W.nsIn K mainGlobals "NoName" = some (some (.ref G_NoName)))
    (xo0 : ExcOk K G_BadText)
    (xo1 : ExcOk K G_NoName)
    (sb0 : PySem.W.exmOne K (.ref G_BadText) (.ref G_BadText) = some true)
    (sb1 : PySem.W.exmOne K (.ref G_NoName) (.ref G_NoName) = some true)
    (lOddError : K.lookup G_OddError = some (excClassObj nm_OddError q_OddError G_OddError N_OddError bs_OddError ([.type "ValueError", .type "Exception", .type "BaseException", .type "object"]) hd_OddError sn_OddError su_OddError ab_OddError co_OddError dd_OddError k0_OddError k1_OddError k2_OddError k3_OddError k5_OddError "ValueError.__new__"))
    (xOddError : PySem.W.excIn K G_OddError [.type "ValueError", .type "Exception", .type "BaseException", .type "object"] "ValueError.__new__" = true)
    (lBadText : K.lookup G_BadText = some (excClassObj nm_BadText q_BadText G_BadText N_BadText bs_BadText (.ref G_OddError :: [.type "ValueError", .type "Exception", .type "BaseException", .type "object"]) true sn_BadText su_BadText ab_BadText co_BadText dd_BadText k0_BadText k1_BadText k2_BadText k3_BadText k5_BadText "ValueError.__new__"))
    (kpBadText : PySem.W.keepIn K (.ref G_BadText) = true)
    (iniBadText : PySem.W.findIn K (.ref G_BadText) "__init__" = some (some (.ref f_BadText)))
    (lfBadText : K.lookup f_BadText = some ⟨.type "function", od_BadText, .func (PySem.W.fnOf "__init__" "BadText.__init__" (defArgs (inClass (top i_BadText) 0)) (defBody (inClass (top i_BadText) 0)) (defScope (inClass (top i_BadText) 0)) .none kV_BadText dc_BadText pm_BadText an_BadText cd_BadText ct_BadText), sl_BadText⟩)
    (cfBadText : PySem.W.codeIn K cd_BadText "BadText.__init__" = true)
    (kfBadText : PySem.W.keepIn K (.ref f_BadText) = true)
    (saBadText : PySem.W.findIn K (.ref G_BadText) "__setattr__" = some (some (.builtin "object.__setattr__")))
    (naBadText : PySem.W.findIn K (.ref G_BadText) "place" = some none)
    (moBadText : PySem.W.mroIn K G_BadText (.type "object") = some true)
    (lNoName : K.lookup G_NoName = some (excClassObj nm_NoName q_NoName G_NoName N_NoName bs_NoName (.ref G_OddError :: [.type "ValueError", .type "Exception", .type "BaseException", .type "object"]) true sn_NoName su_NoName ab_NoName co_NoName dd_NoName k0_NoName k1_NoName k2_NoName k3_NoName k5_NoName "ValueError.__new__"))
    (kpNoName : PySem.W.keepIn K (.ref G_NoName) = true)
    (iniNoName : PySem.W.findIn K (.ref G_NoName) "__init__" = some (some (.ref f_NoName)))
    (lfNoName : K.lookup f_NoName = some ⟨.type "function", od_NoName, .func (PySem.W.fnOf "__init__" "NoName.__init__" (defArgs (inClass (top i_NoName) 0)) (defBody (inClass (top i_NoName) 0)) (defScope (inClass (top i_NoName) 0)) .none kV_NoName dc_NoName pm_NoName an_NoName cd_NoName ct_NoName), sl_NoName⟩)
    (cfNoName : PySem.W.codeIn K cd_NoName "NoName.__init__" = true)
    (kfNoName : PySem.W.keepIn K (.ref f_NoName) = true)
    (saNoName : PySem.W.findIn K (.ref G_NoName) "__setattr__" = some (some (.builtin "object.__setattr__")))
    (naNoName : PySem.W.findIn K (.ref G_NoName) "name" = some none)
    (moNoName : PySem.W.mroIn K G_NoName (.type "object") = some true)
    (nx0 : PySem.W.exmOne K (.ref G_NoName) (.ref G_BadText) = some false)
    (y0 : PySem.W.nsIn K mainGlobals "sorted" = some none)
    (z0 : PySem.W.nsIn K mainGlobals "len" = some none) (z1 : PySem.W.nsIn K mainGlobals "range" = some none) (z2 : PySem.W.nsIn K mainGlobals "max" = some none) (z3 : PySem.W.nsIn K mainGlobals "min" = some none) (z4 : PySem.W.nsIn K mainGlobals "sum" = some none) (z5 : PySem.W.nsIn K mainGlobals "all" = some none) (z6 : PySem.W.nsIn K mainGlobals "any" = some none) (z7 : PySem.W.nsIn K mainGlobals "list" = some none) (z8 : PySem.W.nsIn K mainGlobals "tuple" = some none) (z9 : PySem.W.nsIn K mainGlobals "int" = some none) (z10 : PySem.W.nsIn K mainGlobals "str" = some none) (z11 : PySem.W.nsIn K mainGlobals "bool" = some none) (z12 : PySem.W.nsIn K mainGlobals "zip" = some none) (z13 : PySem.W.nsIn K mainGlobals "enumerate" = some none) (z14 : PySem.W.nsIn K mainGlobals "isinstance" = some none) (z15 : PySem.W.nsIn K mainGlobals "divmod" = some none) :
    ∃ fd : FuncData, (∀ (s : Shared) (v : Value), BindsTo s fd ⟨[v], []⟩ [("_law_script", v)]) ∧ ∀ base : Heap, K.In base → base.Ns mainGlobals mg → FnOk l.prog w K mg base CX0 6 fa fd ["_law_script"] (spLaw K) := by
  have e := hfa.symm.trans (PySem.W.mg_of X G a22)
  cases e
  have T : Nm mg := ⟨PySem.W.mg_none_of X G z0, PySem.W.mg_none_of X G z1, PySem.W.mg_none_of X G z2, PySem.W.mg_none_of X G z3, PySem.W.mg_none_of X G z4, PySem.W.mg_none_of X G z5, PySem.W.mg_none_of X G z6, PySem.W.mg_none_of X G z7, PySem.W.mg_none_of X G z8, PySem.W.mg_none_of X G z9, PySem.W.mg_none_of X G z10, PySem.W.mg_none_of X G z11, PySem.W.mg_none_of X G z12, PySem.W.mg_none_of X G z13, PySem.W.mg_none_of X G z14, PySem.W.mg_none_of X G z15⟩
  have n_sorted := PySem.W.mg_none_of X G y0
  have S_BadText : ExcSt K G_BadText "place" := excSt_mk lBadText saBadText naBadText moBadText
  have M_BadText : XMk K G_BadText f_BadText := ⟨⟨_, _, _, _, _, _, _, _, _, _, _, _, _, _, _, _, lBadText, own_tail lOddError xOddError⟩, iniBadText, ⟨_, lfBadText, rfl⟩, kpBadText⟩
  have FF_BadText := fun_mk (st := inClass (top i_BadText) 0) lfBadText cfBadText kfBadText
  have b_BadText := FF_BadText.binds (ps := ["self", "place"]) fun _ _ _ _ _ _ => lenS fun _ => lenS fun _ => lenZ rfl
  have S_NoName : ExcSt K G_NoName "name" := excSt_mk lNoName saNoName naNoName moNoName
  have M_NoName : XMk K G_NoName f_NoName := ⟨⟨_, _, _, _, _, _, _, _, _, _, _, _, _, _, _, _, lNoName, own_tail lOddError xOddError⟩, iniNoName, ⟨_, lfNoName, rfl⟩, kpNoName⟩
  have FF_NoName := fun_mk (st := inClass (top i_NoName) 0) lfNoName cfNoName kfNoName
  have b_NoName := FF_NoName.binds (ps := ["self", "name"]) fun _ _ _ _ _ _ => lenS fun _ => lenS fun _ => lenZ rfl
  have g_OddError := PySem.W.mg_of X G gn_OddError
  have g_BadText := PySem.W.mg_of X G gn_BadText
  have g_NoName := PySem.W.mg_of X G gn_NoName
  have F1 := fun_mk (st := top i_written) l1 c1 k1
  have b1 := F1.binds (ps := ["book", "names"]) fun _ _ _ _ _ _ => lenS fun _ => lenS fun _ => lenZ rfl
  have F2 := fun_mk (st := top i_lookup_of) l2 c2 k2
  have b2 := F2.binds (ps := ["book"]) fun _ _ _ _ _ _ => lenS fun _ => lenZ rfl
  have F3 := fun_mk (st := top i_code_at) l3 c3 k3
  have b3 := F3.binds (ps := ["names_by_code", "lengths", "text", "place"]) fun _ _ _ _ _ _ => lenS fun _ => lenS fun _ => lenS fun _ => lenS fun _ => lenZ rfl
  have F4 := fun_mk (st := top i_reading_from) l4 c4 k4
  have b4 := F4.binds (ps := ["book", "text", "place"]) fun _ _ _ _ _ _ => lenS fun _ => lenS fun _ => lenS fun _ => lenZ rfl
  have F5 := fun_mk (st := top i_whole_reading) l5 c5 k5
  have b5 := F5.binds (ps := ["book", "text"]) fun _ _ _ _ _ _ => lenS fun _ => lenS fun _ => lenZ rfl
  have F6 := fun_mk (st := top i_read_all) l6 c6 k6
  have b6 := F6.binds (ps := ["book", "text"]) fun _ _ _ _ _ _ => lenS fun _ => lenS fun _ => lenZ rfl
  have F7 := fun_mk (st := top i_bounds_of) l7 c7 k7
  have b7 := F7.binds (ps := ["book", "text"]) fun _ _ _ _ _ _ => lenS fun _ => lenS fun _ => lenZ rfl
  have F8 := fun_mk (st := top i_read_from) l8 c8 k8
  have b8 := F8.binds (ps := ["book", "text", "place"]) fun _ _ _ _ _ _ => lenS fun _ => lenS fun _ => lenS fun _ => lenZ rfl
  have F9 := fun_mk (st := top i_law_begin) l9 c9 k9
  have b9 := F9.binds (ps := ["_law_script"]) fun _ _ _ _ _ _ => lenS fun _ => lenZ rfl
  have F10 := fun_mk (st := top i_law_take) l10 c10 k10
  have b10 := F10.binds (ps := ["_law_box", "_law_many"]) fun _ _ _ _ _ _ => lenS fun _ => lenS fun _ => lenZ rfl
  have F11 := fun_mk (st := top i_law_same) l11 c11 k11
  have b11 := F11.binds (ps := ["_law_found", "_law_due"]) fun _ _ _ _ _ _ => lenS fun _ => lenS fun _ => lenZ rfl
  have F12 := fun_mk (st := top i_law_signs) l12 c12 k12
  have b12 := F12.binds (ps := ["_law_box", "_law_many"]) fun _ _ _ _ _ _ => lenS fun _ => lenS fun _ => lenZ rfl
  have F13 := fun_mk (st := top i_law_free_codes) l13 c13 k13
  have b13 := F13.binds (ps := ["_law_box", "_law_many", "_law_most"]) fun _ _ _ _ _ _ => lenS fun _ => lenS fun _ => lenS fun _ => lenZ rfl
  have F14 := fun_mk (st := top i_law_names) l14 c14 k14
  have b14 := F14.binds (ps := ["_law_box", "_law_many"]) fun _ _ _ _ _ _ => lenS fun _ => lenS fun _ => lenZ rfl
  have F15 := fun_mk (st := top i_law_free_book) l15 c15 k15
  have b15 := F15.binds (ps := ["_law_box"]) fun _ _ _ _ _ _ => lenS fun _ => lenZ rfl
  have F16 := fun_mk (st := top i_law_list) l16 c16 k16
  have b16 := F16.binds (ps := ["_law_box", "_law_book", "_law_most"]) fun _ _ _ _ _ _ => lenS fun _ => lenS fun _ => lenS fun _ => lenZ rfl
  have F17 := fun_mk (st := top i_law_joined) l17 c17 k17
  have b17 := F17.binds (ps := ["_law_book", "_law_names_here"]) fun _ _ _ _ _ _ => lenS fun _ => lenS fun _ => lenZ rfl
  have F18 := fun_mk (st := top i_law_text_spoilt) l18 c18 k18
  have b18 := F18.binds (ps := ["_law_box", "_law_text"]) fun _ _ _ _ _ _ => lenS fun _ => lenS fun _ => lenZ rfl
  have F19 := fun_mk (st := top i_law_asked) l19 c19 k19
  have b19 := F19.binds (ps := ["_law_book", "_law_which", "_law_names_here", "_law_text"]) fun _ _ _ _ _ _ => lenS fun _ => lenS fun _ => lenS fun _ => lenS fun _ => lenZ rfl
  have F20 := fun_mk (st := top i_law_changed) l20 c20 k20
  have b20 := F20.binds (ps := ["_law_thing"]) fun _ _ _ _ _ _ => lenS fun _ => lenZ rfl
  have F21 := fun_mk (st := top i_law_kept) l21 c21 k21
  have b21 := F21.binds (ps := ["_law_thing"]) fun _ _ _ _ _ _ => lenS fun _ => lenZ rfl
  have F22 := fun_mk (st := top i_law) l22 c22 k22
  refine ⟨PySem.W.fnOf "law" "law" (defArgs (top i_law)) (defBody (top i_law)) (defScope (top i_law)) .none kV22 dc22 pm22 an22 cd22 ct22, fun s v => .of_eq rfl, fun base hB hG => ?_⟩
  have F_BadText := ok_ini_BadText (P := l.prog) (w := w) (mg := mg) (base := base) FF_BadText S_BadText
  have F_NoName := ok_ini_NoName (P := l.prog) (w := w) (mg := mg) (base := base) FF_NoName S_NoName
  have fWr : FnX l.prog w K mg base 3 "written" ["book", "names"] (spWrX K G_NoName) := ⟨f1, _, ok_wrx F1 T g_NoName M_NoName F_NoName b_NoName, b1, k1, PySem.W.mg_of X G a1⟩
  have fLook : Fn l.prog w K mg base 1 "lookup_of" ["book"] (spLook K) := ⟨f2, _, ok_look F2 T n_sorted, b2, k2, PySem.W.mg_of X G a2⟩
  have fCa : Fn l.prog w K mg base 1 "code_at" ["names_by_code", "lengths", "text", "place"] (spCodeAt K) := ⟨f3, _, ok_codeat F3 T, b3, k3, PySem.W.mg_of X G a3⟩
  have fRead : Fn l.prog w K mg base 2 "reading_from" ["book", "text", "place"] (spRead K) := ⟨f4, _, ok_read F4 T fLook fCa, b4, k4, PySem.W.mg_of X G a4⟩
  have fWhole : FnX l.prog w K mg base 3 "whole_reading" ["book", "text"] (spWhole K G_BadText) := ⟨f5, _, ok_whole F5 T g_BadText M_BadText F_BadText b_BadText fRead, b5, k5, PySem.W.mg_of X G a5⟩
  have fAll : FnX l.prog w K mg base 4 "read_all" ["book", "text"] (spAll K G_BadText) := ⟨f6, _, ok_all F6 T fWhole, b6, k6, PySem.W.mg_of X G a6⟩
  have fBo : FnX l.prog w K mg base 4 "bounds_of" ["book", "text"] (spBounds K G_BadText) := ⟨f7, _, ok_bounds F7 T fWhole, b7, k7, PySem.W.mg_of X G a7⟩
  have fFrom : Fn l.prog w K mg base 3 "read_from" ["book", "text", "place"] (spFrom K) := ⟨f8, _, ok_from F8 T fRead, b8, k8, PySem.W.mg_of X G a8⟩
  have fBegin : Fn l.prog w K mg base 1 "_law_begin" ["_law_script"] (spBegin K) := ⟨f9, _, ok_begin F9 T, b9, k9, PySem.W.mg_of X G a9⟩
  have fTake : Fn l.prog w K mg base 1 "_law_take" ["_law_box", "_law_many"] (spTake) := ⟨f10, _, ok_take F10 T, b10, k10, PySem.W.mg_of X G a10⟩
  have fTk : Fn l.prog w K mg base 1 "_law_take" ["_law_box", "_law_many"] (spTk) := Fn.imp fTake (fun _ _ _ _ h => spTk_of h)
  have fSame : ∀ n : Nat, Fn l.prog w K mg base (n + 0) "_law_same" ["_law_found", "_law_due"] (spSame K n) := fun n => by
    induction n with
    | zero => exact ⟨f11, _, ⟨fun vs H Q E h => absurd h (by rintro ⟨_, _, _, _, _, _, z, _⟩; exact absurd z (Nat.not_lt_zero _)), fun A outer s H args us vs Q E _ _ _ _ h => absurd h (by rintro ⟨_, _, _, _, _, _, z, _⟩; exact absurd z (Nat.not_lt_zero _))⟩, b11, k11, PySem.W.mg_of X G a11⟩
    | succ n ih => exact ⟨f11, _, ok_same F11 T ih, b11, k11, PySem.W.mg_of X G a11⟩
  have fSigns : Fn l.prog w K mg base 2 "_law_signs" ["_law_box", "_law_many"] (spSigns) := ⟨f12, _, ok_signs F12 T fTake, b12, k12, PySem.W.mg_of X G a12⟩
  have fSg : Fn l.prog w K mg base 2 "_law_signs" ["_law_box", "_law_many"] (spSg) := Fn.imp fSigns (fun _ _ _ _ h => spSg_of h)
  have fFC : Fn l.prog w K mg base 3 "_law_free_codes" ["_law_box", "_law_many", "_law_most"] (spFC) := ⟨f13, _, ok_fcodes F13 T fTk fSg, b13, k13, PySem.W.mg_of X G a13⟩
  have fNames : Fn l.prog w K mg base 2 "_law_names" ["_law_box", "_law_many"] (spNames) := ⟨f14, _, ok_names F14 T fTk, b14, k14, PySem.W.mg_of X G a14⟩
  have fFB : Fn l.prog w K mg base 4 "_law_free_book" ["_law_box"] (spFB K) := ⟨f15, _, ok_fbook F15 T fTk fNames fFC, b15, k15, PySem.W.mg_of X G a15⟩
  have fList : Fn l.prog w K mg base 2 "_law_list" ["_law_box", "_law_book", "_law_most"] (spList K) := ⟨f16, _, ok_list F16 T fTk, b16, k16, PySem.W.mg_of X G a16⟩
  have fJo : Fn l.prog w K mg base 1 "_law_joined" ["_law_book", "_law_names_here"] (spJoined K) := ⟨f17, _, ok_joined F17 T, b17, k17, PySem.W.mg_of X G a17⟩
  have fSpoil : Fn l.prog w K mg base 3 "_law_text_spoilt" ["_law_box", "_law_text"] (spSpoil) := ⟨f18, _, ok_spoil F18 T fTk fSg, b18, k18, PySem.W.mg_of X G a18⟩
  have fAsk : Fn l.prog w K mg base 5 "_law_asked" ["_law_book", "_law_which", "_law_names_here", "_law_text"] (spAsk K) := ⟨f19, _, ok_ask F19 T g_BadText g_NoName sb0 nx0 sb1 xo0 S_BadText xo1 S_NoName fWr fAll fBo fFrom, b19, k19, PySem.W.mg_of X G a19⟩
  have fCh : ∀ n : Nat, Fn l.prog w K mg base (n + 0) "_law_changed" ["_law_thing"] (spCh K n) := fun n => by
    induction n with
    | zero => exact ⟨f20, _, ⟨fun vs H Q E h => absurd h (by rintro ⟨_, _, _, _, _, _, z, _⟩; exact absurd z (Nat.not_lt_zero _)), fun A outer s H args us vs Q E _ _ _ _ h => absurd h (by rintro ⟨_, _, _, _, _, _, z, _⟩; exact absurd z (Nat.not_lt_zero _))⟩, b20, k20, PySem.W.mg_of X G a20⟩
    | succ n ih => exact ⟨f20, _, ok_ch F20 T ih, b20, k20, PySem.W.mg_of X G a20⟩
  have fKp : ∀ n : Nat, Fn l.prog w K mg base (n + 0) "_law_kept" ["_law_thing"] (spKp K n) := fun n => by
    induction n with
    | zero => exact ⟨f21, _, ⟨fun vs H Q E h => absurd h (by rintro ⟨_, _, _, _, _, _, z, _⟩; exact absurd z (Nat.not_lt_zero _)), fun A outer s H args us vs Q E _ _ _ _ h => absurd h (by rintro ⟨_, _, _, _, _, _, z, _⟩; exact absurd z (Nat.not_lt_zero _))⟩, b21, k21, PySem.W.mg_of X G a21⟩
    | succ n ih => exact ⟨f21, _, ok_kp F21 T ih, b21, k21, PySem.W.mg_of X G a21⟩
  exact ok_law F22 T fBegin fTk fFB fList fJo fSpoil (fKp 4) fAsk (fSame 4) (fCh 4)
theorem walk {l : PySem.W.OpenLaw} {q : Program} {loose : List Str} {XP : (Str → Option Value) → Heap → Prop} {YP : World → Heap → Prop} {d : DefRec} {K : Params → PySem.W.Frag} (hn : l.most = some 63) (hdf : d.params.defaults = [])
    (hY : ∀ (w : World) (h : Heap), YP w h → (K w.params).In h)
    (F : ∀ (w : World) (mg : Str → Option Value) (fa : Addr) (h : Heap), (K w.params).In h → h.Ns mainGlobals mg → mg d.name = some (.ref fa) →
      ∃ fd : FuncData, (∀ (s : Shared) (u : Value), BindsTo s fd ⟨[u], []⟩ [("_law_script", u)]) ∧ ∀ base : Heap, (K w.params).In base → base.Ns mainGlobals mg → FnOk l.prog w (K w.params) mg base CX0 6 fa fd ["_law_script"] (spLaw (K w.params))) :
    PySem.W.WalkO q loose XP YP l.row.toRowW d [] (fun f vs => PySem.call f vs) :=
  L2.walk_of (n := 63) (k := 6) (x := "_law_script") (CX := fun _ => CX0) (sp := fun w => spLaw (K w.params)) hn (by decide) hdf ⟨rfl, by decide, by decide, rfl⟩ hY F (fun _ _ a ns hl _ hS => ⟨a, ns, rfl, hS, hl, fun _ => rfl⟩) fun _ _ _ _ _ z => z
end Z
open PySem PySem.W PyProof.Rows L2
set_option maxRecDepth 100000 in
set_option maxHeartbeats 0 in
theorem PySem.Challenge.cw_oddlong_k12_texts_again_and_shared_holds : PySem.Challenge.rw_oddlong_k12_texts_again_and_shared.Holds := by
  w_on; o_law; k_head; (case hw => w_witness2)
  k_fill
  refine Z.walk (l := PySem.Challenge.rw_oddlong_k12_texts_again_and_shared) rfl rfl (fun w h Y => PySem.W.kIn_of Y) ?F
  case F =>
    intro w mg fa h KX G hmg
    refine' Z.all_mk KX G hmg ?a1 ?l1 ?c1 ?k1 ?a2 ?l2 ?c2 ?k2 ?a3 ?l3 ?c3 ?k3 ?a4 ?l4 ?c4 ?k4 ?a5 ?l5 ?c5 ?k5 ?a6 ?l6 ?c6 ?k6 ?a7 ?l7 ?c7 ?k7 ?a8 ?l8 ?c8 ?k8 ?a9 ?l9 ?c9 ?k9 ?a10 ?l10 ?c10 ?k10 ?a11 ?l11 ?c11 ?k11 ?a12 ?l12 ?c12 ?k12 ?a13 ?l13 ?c13 ?k13 ?a14 ?l14 ?c14 ?k14 ?a15 ?l15 ?c15 ?k15 ?a16 ?l16 ?c16 ?k16 ?a17 ?l17 ?c17 ?k17 ?a18 ?l18 ?c18 ?k18 ?a19 ?l19 ?c19 ?k19 ?a20 ?l20 ?c20 ?k20 ?a21 ?l21 ?c21 ?k21 ?a22 ?l22 ?c22 ?k22 ?gn_OddError ?gn_BadText ?gn_NoName ?xo0 ?xo1 ?sb0 ?sb1 ?lOddError ?xOddError ?lBadText ?kpBadText ?iniBadText ?lfBadText ?cfBadText ?kfBadText ?saBadText ?naBadText ?moBadText ?lNoName ?kpNoName ?iniNoName ?lfNoName ?cfNoName ?kfNoName ?saNoName ?naNoName ?moNoName ?nx0 ?y0 ?z0 ?z1 ?z2 ?z3 ?z4 ?z5 ?z6 ?z7 ?z8 ?z9 ?z10 ?z11 ?z12 ?z13 ?z14 ?z15
    (case a1 => k_is); (case l1 => k_is); (case c1 => k_is); (case k1 => k_is); (case a2 => k_is); (case l2 => k_is); (case c2 => k_is); (case k2 => k_is)
    (case a3 => k_is); (case l3 => k_is); (case c3 => k_is); (case k3 => k_is); (case a4 => k_is); (case l4 => k_is); (case c4 => k_is); (case k4 => k_is)
    (case a5 => k_is); (case l5 => k_is); (case c5 => k_is); (case k5 => k_is); (case a6 => k_is); (case l6 => k_is); (case c6 => k_is); (case k6 => k_is)
    (case a7 => k_is); (case l7 => k_is); (case c7 => k_is); (case k7 => k_is); (case a8 => k_is); (case l8 => k_is); (case c8 => k_is); (case k8 => k_is)
    (case a9 => k_is); (case l9 => k_is); (case c9 => k_is); (case k9 => k_is); (case a10 => k_is); (case l10 => k_is); (case c10 => k_is); (case k10 => k_is)
    (case a11 => k_is); (case l11 => k_is); (case c11 => k_is); (case k11 => k_is); (case a12 => k_is); (case l12 => k_is); (case c12 => k_is); (case k12 => k_is)
    (case a13 => k_is); (case l13 => k_is); (case c13 => k_is); (case k13 => k_is); (case a14 => k_is); (case l14 => k_is); (case c14 => k_is); (case k14 => k_is)
    (case a15 => k_is); (case l15 => k_is); (case c15 => k_is); (case k15 => k_is); (case a16 => k_is); (case l16 => k_is); (case c16 => k_is); (case k16 => k_is)
    (case a17 => k_is); (case l17 => k_is); (case c17 => k_is); (case k17 => k_is); (case a18 => k_is); (case l18 => k_is); (case c18 => k_is); (case k18 => k_is)
    (case a19 => k_is); (case l19 => k_is); (case c19 => k_is); (case k19 => k_is); (case a20 => k_is); (case l20 => k_is); (case c20 => k_is); (case k20 => k_is)
    (case a21 => k_is); (case l21 => k_is); (case c21 => k_is); (case k21 => k_is); (case a22 => k_is); (case l22 => k_is); (case c22 => k_is); (case k22 => k_is)
    (case gn_OddError => k_is); (case gn_BadText => k_is); (case gn_NoName => k_is); (case xo0 => exact ⟨cls_some (by k_is), by k_is, by k_is, by k_is, by k_is, by k_is, by k_is, by k_is⟩); (case xo1 => exact ⟨cls_some (by k_is), by k_is, by k_is, by k_is, by k_is, by k_is, by k_is, by k_is⟩); (case sb0 => exact exm_sub (by k_is) (by k_is) (by k_is) (by k_is)); (case sb1 => exact exm_sub (by k_is) (by k_is) (by k_is) (by k_is)); (case lOddError => k_is)
    (case xOddError => k_exc); (case lBadText => k_is); (case kpBadText => k_is); (case iniBadText => k_is); (case lfBadText => k_is); (case cfBadText => k_is); (case kfBadText => k_is); (case saBadText => k_is)
    (case naBadText => k_is); (case moBadText => k_is); (case lNoName => k_is); (case kpNoName => k_is); (case iniNoName => k_is); (case lfNoName => k_is); (case cfNoName => k_is); (case kfNoName => k_is)
    (case saNoName => k_is); (case naNoName => k_is); (case moNoName => k_is); (case nx0 => exact exm_not (by k_is) (by k_is) (by k_is) (by k_is)); (case y0 => k_is); (case z0 => k_is); (case z1 => k_is); (case z2 => k_is)
    (case z3 => k_is); (case z4 => k_is); (case z5 => k_is); (case z6 => k_is); (case z7 => k_is); (case z8 => k_is); (case z9 => k_is); (case z10 => k_is)
    (case z11 => k_is); (case z12 => k_is); (case z13 => k_is); (case z14 => k_is); (case z15 => k_is)
