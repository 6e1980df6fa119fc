import PyProof.Rows.All
import Wide.All
import OpenK.AllK
import Wide.FinOn
import PyProof.EqAt
import PyProof.EqKinds
import PyProof.TupleCall
import PyProof.DictCompW
import PyProof.Rows.SortWalk
import OpenK.KRaise
import PyProof.ExcClass2
import KE.KTryMore
import KE.KSortTup
import KE.KIsAll
import PyProof.ListRange
import PyProof.StrBlock2
import PyProof.Rows.SetFrom
import PyProof.SetRoads
import PyProof.ReprRoads
import PyProof.CallStr
import PyProof.Rows.SortStr
import PyProof.StrLawsRepr
import Lean
import PySem.Challenge.RW_oddlong_k01_what_a_book_is
set_option Elab.async false
set_option linter.all false
set_option maxRecDepth 100000
/-! THE HAND LAYER, for ints, bools, texts, own classes, LISTS and tuples (index, slices, in, append, pop ..), calls, loops. Paste it whole ahead of your own text; what your proof does not reach may be deleted. -/
namespace L2
open PySem PySem.Spec PyProof.Rows

/-- a key: an int or a str -/
abbrev Key := Sum Int Str
def keyIs : Key → Value → Bool
  | .inl k, v => Value.isInt k v
  | .inr x, v => Value.isStrOf x v
def keyH (w : World) : Key → Int
  | .inl k => hashInt k
  | .inr x => hashStr w x
theorem keyIs_shape : ∀ {k : Key} {v : Value}, keyIs k v = true → (∃ i t, k = Sum.inl i ∧ v = Value.int i t) ∨ (∃ x t, k = Sum.inr x ∧ v = Value.str x t)
  | .inl i, v, h => by
    obtain ⟨t, e⟩ := Value.isInt_shape (k := i) (v := v) h
    exact .inl ⟨i, t, rfl, e⟩
  | .inr x, v, h => by
    obtain ⟨t, e⟩ := Value.isStrOf_shape (x := x) (v := v) h
    exact .inr ⟨x, t, rfl, e⟩
theorem keyIs_int (i : Int) (t : Tok) : keyIs (.inl i) (.int i t) = true := by simp [keyIs, Value.isInt]
theorem keyIs_str (x : Str) (t : Tok) : keyIs (.inr x) (.str x t) = true := by simp [keyIs, Value.isStrOf]
theorem key_ll (a b : Int) : decide ((Sum.inl a : Key) = Sum.inl b) = (a == b) := by
  by_cases e : a = b
  · subst e; simp
  · have h : ¬ (Sum.inl a : Key) = Sum.inl b := fun q => e (Sum.inl.inj q)
    rw [decide_eq_false h]
    exact (beq_eq_false_iff_ne.mpr e).symm
theorem key_rr (a b : Str) : decide ((Sum.inr a : Key) = Sum.inr b) = decide (a = b) := by
  by_cases e : a = b
  · subst e; simp
  · have h : ¬ (Sum.inr a : Key) = Sum.inr b := fun q => e (Sum.inr.inj q)
    rw [decide_eq_false h, decide_eq_false e]
theorem key_lr (a : Int) (b : Str) : decide ((Sum.inl a : Key) = Sum.inr b) = false := decide_eq_false (fun q => nomatch q)
theorem key_rl (a : Str) (b : Int) : decide ((Sum.inr a : Key) = Sum.inl b) = false := decide_eq_false (fun q => nomatch q)

def mixKind (prog : Program) (w : World) : PySem.KeyKind prog w Key where
  is := keyIs
  hash := keyH w
  inj := fun v a b ha hb => by
    rcases keyIs_shape ha with ⟨i, t, rfl, rfl⟩ | ⟨x, t, rfl, rfl⟩
    · rcases keyIs_shape hb with ⟨j, u, rfl, e⟩ | ⟨y, u, rfl, e⟩
      · injection e with e1 _; rw [e1]
      · exact nomatch e
    · rcases keyIs_shape hb with ⟨j, u, rfl, e⟩ | ⟨y, u, rfl, e⟩
      · exact nomatch e
      · injection e with e1 _; rw [e1]
  byValue := fun k v h => by
    rcases keyIs_shape h with ⟨i, t, rfl, rfl⟩ | ⟨x, t, rfl, rfl⟩ <;> rfl
  pyHash := fun hv h => by
    rcases keyIs_shape hv with ⟨i, t, rfl, rfl⟩ | ⟨x, t, rfl, rfl⟩
    · exact wpAny_pyHash_int h
    · exact wpAny_pyHash_str h
  eqBool := fun hu hv h => by
    rcases keyIs_shape hu with ⟨i, t, rfl, rfl⟩ | ⟨x, t, rfl, rfl⟩
    · rcases keyIs_shape hv with ⟨j, u, rfl, rfl⟩ | ⟨y, u, rfl, rfl⟩
      · rw [key_ll] at h; exact wpAny_eqBool_int h
      · rw [key_lr] at h; exact SeqAt.EqAt.int_str i t y u _ _ _ _ h
    · rcases keyIs_shape hv with ⟨j, u, rfl, rfl⟩ | ⟨y, u, rfl, rfl⟩
      · rw [key_rl] at h; exact SeqAt.EqAt.str_int x t j u _ _ _ _ h
      · rw [key_rr] at h; exact wpAny_eqBool_str h
  «strs» := fun k x t v h => by
    rcases keyIs_shape h with ⟨i, u, rfl, e⟩ | ⟨y, u, rfl, e⟩
    · exact nomatch e
    · injection e with e1 _
      subst e1
      cases v <;> rfl

theorem mixKind_int (prog : Program) (w : World) (i : Int) (t : Tok) : (mixKind prog w).is (.inl i) (.int i t) = true := keyIs_int i t
theorem mixKind_str (prog : Program) (w : World) (x : Str) (t : Tok) : (mixKind prog w).is (.inr x) (.str x t) = true := keyIs_str x t
end L2

namespace L2
open PySem PySem.Spec PyProof.Rows

/-- a value, without the heap -/
inductive V where
  | non | bl (b : Bool) | int (i : Int) | str (x : Str) | byt (b : Array UInt8) | flt (b : UInt64) | ref (a : Addr) | ty (n : String)
  deriving DecidableEq

def RelV : V → Value → Prop
  | .non, u => u = Value.none
  | .bl b, u => u = Value.bool b
  | .int i, u => ∃ t, u = Value.int i t
  | .str x, u => ∃ t, u = Value.str x t
  | .byt b, u => ∃ t, u = Value.bytes b t
  | .flt b, u => ∃ t, u = Value.float b t
  | .ref a, u => u = Value.ref a
  | .ty n, u => u = Value.type n

abbrev Vals : List V → List Value → Prop := Paired RelV
theorem Vals.length {xs : List V} {us : List Value} (r : Vals xs us) : xs.length = us.length := Paired.length r
theorem Vals.get : ∀ {xs : List V} {us : List Value} {i : Nat} {x : V}, Vals xs us → xs[i]? = some x → ∃ u, us[i]? = some u ∧ RelV x u
  | _, _, _, _, .nil, e => by simp at e
  | _, _, 0, _, .cons r _, e => by simp at e; subst e; exact ⟨_, rfl, r⟩
  | _, _, i + 1, x, .cons _ t, e => by
    obtain ⟨u, h1, h2⟩ := Vals.get (i := i) (x := x) t (by simpa using e)
    exact ⟨u, by simpa using h1, h2⟩
theorem Vals.set {x : V} {u : Value} (r : RelV x u) : ∀ {xs : List V} {us : List Value} (i : Nat), Vals xs us → Vals (xs.set i x) (us.set i u)
  | _, _, _, .nil => .nil
  | _, _, 0, .cons _ t => .cons r t
  | _, _, i + 1, .cons q t => .cons q (Vals.set r i t)
theorem Vals.append : ∀ {xs ys : List V} {us ws : List Value}, Vals xs us → Vals ys ws → Vals (xs ++ ys) (us ++ ws)
  | _, _, _, _, .nil, s => s
  | _, _, _, _, .cons r t, s => .cons r (Vals.append t s)
theorem Vals.take : ∀ {xs : List V} {us : List Value} (n : Nat), Vals xs us → Vals (xs.take n) (us.take n)
  | _, _, 0, _ => .nil
  | _, _, _ + 1, .nil => .nil
  | _, _, n + 1, .cons r t => .cons r (Vals.take n t)
theorem Vals.drop : ∀ {xs : List V} {us : List Value} (n : Nat), Vals xs us → Vals (xs.drop n) (us.drop n)
  | _, _, 0, r => r
  | _, _, _ + 1, .nil => .nil
  | _, _, n + 1, .cons _ t => Vals.drop n t
def RelO : Option V → Option Value → Prop
  | some v, some u => RelV v u
  | none, none => True
  | _, _ => False
def KV {κ : Type} : List (κ × V) → List (κ × Value) → Prop := Paired fun (p : κ × V) (q : κ × Value) => p.1 = q.1 ∧ RelV p.2 q.2

/-- a key of a dict (00_mix): an int or a text -/
def kV : Key → V
  | .inl i => .int i
  | .inr x => .str x

/-- what stands at a tracked address -/
inductive HO where
  /-- a list -/
  | lst (xs : List V)
  /-- a tuple (never changes) -/
  | tup (xs : List V)
  /-- a dict whose keys are ints and texts; one whose keys are tuples of ints and texts (the empty one is both) -/
  | dK (kvs : List (Key × V)) | dT (kvs : List (List Key × V))
  /-- a set of ints: its members, its size -/
  | set (S : Int → Bool) (n : Nat)
  /-- an instance of the class at C, its dict at dx, its attributes -/
  | ins (C dx : Addr) (fs : List (Str × V))
  /-- the dict of the instance at x -/
  | own (x : Addr)
  /-- the dict of an exception -/
  | xd (fs : List (Str × V))
  /-- a bound method, f of x -/
  | met (f x : Addr)
  /-- a range object lo, lo + 1, .. below hi -/
  | rng (lo hi : Int)
  /-- a thing that is known to the object (the script; a dict while a loop walks it): read, never written while it is so -/
  | frz (o : Obj) (u : HO)
  /-- a code object's table -/
  | tbl (ps : Array Value)
  /-- any other thing, by what is true of its one object (a def of one's own: SetO a S n := HO.ext fun h => ..) -/
  | ext (φ : Heap → Prop)

abbrev Hp := Addr → Option HO
def upd (H : Hp) (a : Addr) (o : HO) : Hp := fun b => if b = a then some o else H b
theorem upd_same {H : Hp} {a : Addr} {o : HO} : upd H a o a = some o := by unfold upd; rw [if_pos rfl]
theorem upd_ne {H : Hp} {a b : Addr} {o : HO} (h : b ≠ a) : upd H a o b = H b := by unfold upd; rw [if_neg h]
/-- two objects of different content stand apart -/
theorem ne_of {H : Hp} {a b : Addr} {o u : HO} (h : H a = some o) (h' : H b = some u) (d : o ≠ u) : a ≠ b := by
  intro e; subst e; rw [h] at h'; exact d (Option.some.inj h')
theorem ne_of_none {H : Hp} {a b : Addr} {o : HO} (h : H a = some o) (h' : H b = none) : a ≠ b := by
  intro e; subst e; rw [h] at h'; cases h'

section
variable (P : Program) (w : World)
def ObjOk (H : Hp) (h : Heap) (a : Addr) : HO → Prop
  | .lst xs => xs.length ≤ sizeLine ∧ ∃ (its : List Value) (n : Nat), Vals xs its ∧ h.get? a = some { cls := .type "list", data := .seq its.toArray n }
  | .tup xs => xs.length ≤ sizeLine ∧ ∃ its : List Value, Vals xs its ∧ IsTup h a its.toArray
  | .dK kvs => kvs.length ≤ sizeLine ∧ (a == sysModules) = false ∧ ∃ vs, KV kvs vs ∧ h.DictOf (mixKind P w) a vs
  | .dT kvs => kvs.length ≤ sizeLine ∧ (a == sysModules) = false ∧ ∃ xs : List (List Key × Addr × Value),
      Paired (fun (p : List Key × V) (q : List Key × Addr × Value) => p.1 = q.1 ∧ H q.2.1 = some (.tup (p.1.map kV)) ∧ RelV p.2 q.2.2) kvs xs ∧
      ∃ o es ep, h.get? a = some o ∧ o.ExactDict ∧ o.data = .dict es ep ∧ es.toList = xs.map (entryOfKey (tupleKind (mixKind P w))) ∧ (xs.map (·.1)).Nodup
  | .set S n => h.SetOf (intKind P w) a S n
  | .ins C dx fs => H dx = some (.own a) ∧ fs.length ≤ 1000 ∧ dx ≠ a ∧ h.get? a = some (PySem.W.instObj C dx) ∧
      ∃ mA, h.Ns1 dx mA ∧ (∀ f, RelO (fs.lookup f) (mA f)) ∧ PySem.Within mA (fs.map (·.1))
  | .own _ => ∃ o, h.get? a = some o
  | .xd fs => ∃ mA, h.Ns1 a mA ∧ ∀ f, RelO (fs.lookup f) (mA f)
  | .rng lo hi => ∃ t u v, h.get? a = some { cls := .type "range", data := .fields #[.int lo t, .int hi u, .int 1 v] }
  | .frz o u => h.get? a = some o ∧ ObjOk H h a u
  | .tbl ps => h.get? a = some { cls := .none, data := .fields ps }
  | .met f x => h.get? a = some (PySem.W.methodObj (.ref f) (.ref x))
  | .ext φ => φ h ∧ (∃ o, h.get? a = some o) ∧ ∀ h1 h2 : Heap, φ h1 → (∀ o, h1.get? a = some o → h2.get? a = some o) → φ h2
/-- the abstract heap is held -/
def HOk (H : Hp) (h : Heap) : Prop := ∀ a o, H a = some o → ObjOk P w H h a o
end

section
variable {P : Program} {w : World} {H H' : Hp} {h h' : Heap} {a : Addr} {o : HO}
theorem ObjOk.lt (x : ObjOk P w H h a o) : a < h.objs.size := by
  cases o with
  | lst xs => obtain ⟨_, _, _, _, e⟩ := x; exact Heap.lt_size e
  | tup xs => obtain ⟨_, _, _, p⟩ := x; exact p.lt
  | dK kvs => obtain ⟨_, _, _, _, o, _, _, e, _⟩ := x; exact Heap.lt_size e
  | dT kvs => obtain ⟨_, _, _, _, o, _, _, e, _⟩ := x; exact Heap.lt_size e
  | set S n => obtain ⟨o, _, _, _, e, _⟩ := x; exact Heap.lt_size e
  | ins C dx fs => obtain ⟨_, _, _, e, _⟩ := x; exact Heap.lt_size e
  | own y => obtain ⟨_, e⟩ := x; exact Heap.lt_size e
  | xd fs => obtain ⟨_, ⟨_, _, _, e, _⟩, _⟩ := x; exact Heap.lt_size e
  | rng lo hi => obtain ⟨_, _, _, e⟩ := x; exact Heap.lt_size e
  | frz ob u => obtain ⟨e, _⟩ := x; exact Heap.lt_size e
  | tbl ps => exact Heap.lt_size (show h.get? a = some _ from x)
  | met f y => exact Heap.lt_size (show h.get? a = some _ from x)
  | ext φ => obtain ⟨_, ⟨_, e⟩, _⟩ := x; exact Heap.lt_size e
theorem Paired.mapP {α β : Type} {F G : α → β → Prop} : ∀ {l₁ : List α} {l₂ : List β}, Paired F l₁ l₂ → (∀ a b, F a b → G a b) → Paired G l₁ l₂
  | _, _, .nil, _ => .nil
  | _, _, .cons r t, f => .cons (f _ _ r) (Paired.mapP t f)
/-- what an object's description leans on: its own object, its own dict, the tuples -/
theorem ObjOk.stay (x : ObjOk P w H h a o) (k : ∀ b u, (b = a ∨ H b = some (.own a)) → h.get? b = some u → h'.get? b = some u)
    (ho : ∀ b, H b = some (.own a) → H' b = some (.own a)) (ht : ∀ b xs, H b = some (.tup xs) → H' b = some (.tup xs)) : ObjOk P w H' h' a o := by
  induction o with
  | lst xs => obtain ⟨z, its, n, r, e⟩ := x; exact ⟨z, its, n, r, k _ _ (.inl rfl) e⟩
  | tup xs => obtain ⟨z, its, r, ob, e, c⟩ := x; exact ⟨z, its, r, ob, k _ _ (.inl rfl) e, c⟩
  | dK kvs => obtain ⟨z, y, vs, r, ob, es, ep, e, c⟩ := x; exact ⟨z, y, vs, r, ob, es, ep, k _ _ (.inl rfl) e, c⟩
  | dT kvs =>
    obtain ⟨z, y, xs, r, ob, es, ep, e, c⟩ := x
    exact ⟨z, y, xs, Paired.mapP r fun p q z => ⟨z.1, ht _ _ z.2.1, z.2.2⟩, ob, es, ep, k _ _ (.inl rfl) e, c⟩
  | set S n => obtain ⟨ob, es, ep, t, e, c⟩ := x; exact ⟨ob, es, ep, t, k _ _ (.inl rfl) e, c⟩
  | ins C dx fs =>
    obtain ⟨d, z, ne, e, mA, ⟨od, es, ep, e2, c⟩, r⟩ := x
    exact ⟨ho _ d, z, ne, k _ _ (.inl rfl) e, mA, ⟨od, es, ep, k _ _ (.inr d) e2, c⟩, r⟩
  | own y => obtain ⟨ob, e⟩ := x; exact ⟨ob, k _ _ (.inl rfl) e⟩
  | xd fs => obtain ⟨mA, ⟨od, es, ep, e, c⟩, r⟩ := x; exact ⟨mA, ⟨od, es, ep, k _ _ (.inl rfl) e, c⟩, r⟩
  | rng lo hi => obtain ⟨t, u, v, e⟩ := x; exact ⟨t, u, v, k _ _ (.inl rfl) e⟩
  | frz ob u ih => obtain ⟨e, q⟩ := x; exact ⟨k _ _ (.inl rfl) e, ih q⟩
  | tbl ps =>
    have e : h.get? a = some { cls := .none, data := .fields ps } := x
    show h'.get? a = some { cls := .none, data := .fields ps }
    exact k a _ (.inl rfl) e
  | met f y =>
    have e : h.get? a = some (PySem.W.methodObj (.ref f) (.ref y)) := x
    show h'.get? a = some (PySem.W.methodObj (.ref f) (.ref y))
    exact k a _ (.inl rfl) e
  | ext φ => obtain ⟨p, ⟨o, e⟩, st⟩ := x; exact ⟨st _ _ p fun o q => k _ _ (.inl rfl) q, ⟨o, k _ _ (.inl rfl) e⟩, st⟩
theorem HOk.lt (x : HOk P w H h) (e : H a = some o) : a < h.objs.size := (x a o e).lt
theorem HOk.fresh (x : HOk P w H h) (e : h.objs.size ≤ a) : H a = none := by
  cases q : H a with
  | none => rfl
  | some u => exact absurd (Nat.lt_of_lt_of_le (x.lt q) e) (Nat.lt_irrefl _)
/-- every object of the heap is kept -/
theorem HOk.kept (x : HOk P w H h) (k : ∀ b u, h.get? b = some u → h'.get? b = some u) : HOk P w H h' := fun a o e =>
  (x a o e).stay (fun b u _ q => k b u q) (fun _ q => q) fun _ _ q => q
/-- a new object is laid and tracked -/
theorem HOk.laid (x : HOk P w H h) (k : ∀ b u, h.get? b = some u → h'.get? b = some u) (hp : h.objs.size ≤ a) (new : ObjOk P w (upd H a o) h' a o) : HOk P w (upd H a o) h' := fun b u e => by
  have hn := x.fresh hp
  by_cases hb : b = a
  · subst hb; rw [upd_same] at e; cases e; exact new
  · rw [upd_ne hb] at e
    exact (x b u e).stay (fun c v _ q => k c v q) (fun c q => by rw [upd_ne (ne_of_none q hn)]; exact q) fun c xs q => by rw [upd_ne (ne_of_none q hn)]; exact q
end

/-- what may be read as u: it is u, or a known u -/
def Rd (H : Hp) (a : Addr) (u : HO) : Prop := H a = some u ∨ ∃ o, H a = some (.frz o u)
theorem Rd.ok {P : Program} {w : World} {H : Hp} {h : Heap} {a : Addr} {u : HO} (r : Rd H a u) (x : HOk P w H h) : ObjOk P w H h a u := by
  rcases r with r | ⟨o, r⟩
  · exact x a u r
  · obtain ⟨_, q⟩ := x a _ r
    exact q
/-- what may be written -/
def Mut : Option HO → Prop
  | some (.lst _) => True
  | some (.dK _) => True
  | some (.dT _) => True
  | some (.set _ _) => True
  | some (.ins _ _ _) => True
  | some (.ext _) => True
  | _ => False
section
variable {P : Program} {w : World} {H : Hp} {h h' : Heap} {x e : Addr} {o' : HO}
/-- the object at e is changed: x itself, or the dict of the instance x -/
theorem HOk.write (ok : HOk P w H h) (mu : Mut (H x)) (he : e = x ∨ H e = some (.own x)) (k : ∀ b u, b ≠ e → h.get? b = some u → h'.get? b = some u) (heo : ∃ u, h'.get? e = some u)
    (new : ObjOk P w (upd H x o') h' x o') : HOk P w (upd H x o') h' := fun b u q => by
  have nown : ∀ c y, H c = some (.own y) → c ≠ x := fun c y r z => by subst z; rw [r] at mu; exact mu
  have ntup : ∀ c xs, H c = some (.tup xs) → c ≠ x := fun c xs r z => by subst z; rw [r] at mu; exact mu
  by_cases hb : b = x
  · subst hb; rw [upd_same] at q; cases q; exact new
  · rw [upd_ne hb] at q
    by_cases hbe : b = e
    · have q' : H b = some (.own x) := by
        rcases he with z | z
        · exact absurd (hbe.trans z) hb
        · rw [hbe]; exact z
      rw [q] at q'; cases q'
      obtain ⟨v, hv⟩ := heo
      exact ⟨v, by rw [hbe]; exact hv⟩
    · refine (ok b u q).stay (fun c v hc r => k c v ?_ r) (fun c r => by rw [upd_ne (nown c b r)]; exact r) fun c xs r => by rw [upd_ne (ntup c xs r)]; exact r
      rcases hc with rfl | hc
      · exact hbe
      · rintro rfl
        rcases he with z | z
        · exact nown c b hc z
        · rw [hc] at z; cases z; exact hb rfl
end

/-! ### kept unless tracked; of the frames at fs (the callers') the slots may change (an exception that passes writes there); of the records at ex (iterators) nothing is said -/
structure Un (fs ex : List Addr) (H H' : Hp) (h h' : Heap) : Prop where
  keep : ∀ b o, h.get? b = some o → H b = none → b ∉ fs → b ∉ ex → h'.get? b = some o
  slot : ∀ b o, h.get? b = some o → H b = none → b ∈ fs → b ∉ ex → ∃ sl, h'.get? b = some { o with slots := sl }
  free : ∀ b o, h.get? b = some o → H b = none → b ∉ ex → H' b = none
  there : ∀ b o, h.get? b = some o → b ∉ ex → ∃ o', h'.get? b = some o'
  tups : ∀ b xs, H b = some (.tup xs) → H' b = some (.tup xs)
  frzs : ∀ b o u, H b = some (.frz o u) → H' b = some (.frz o u)
  tbls : ∀ b ps, H b = some (.tbl ps) → ∃ more, H' b = some (.tbl (ps ++ more))
section
variable {fs fs' ex ex' : List Addr} {H H1 H2 : Hp} {h h1 h2 h' : Heap} {a x e : Addr} {o : HO}
theorem Un.any (u : Un fs ex H H1 h h1) {b : Addr} {ob : Obj} (q : h.get? b = some ob) (n : H b = none) (hx : b ∉ ex) : ∃ sl, h1.get? b = some { ob with slots := sl } := by
  by_cases hb : b ∈ fs
  · exact u.slot b ob q n hb hx
  · exact ⟨ob.slots, u.keep b ob q n hb hx⟩
theorem Un.kept (k : ∀ b u, h.get? b = some u → h'.get? b = some u) : Un fs ex H H h h' :=
  ⟨fun b ob q _ _ _ => k b ob q, fun b ob q _ _ _ => ⟨ob.slots, k b ob q⟩, fun _ _ _ n _ => n, fun b ob q _ => ⟨ob, k b ob q⟩, fun _ _ q => q, fun _ _ _ q => q, fun _ ps q => ⟨#[], by rw [q]; simp⟩⟩
theorem Un.refl : Un fs ex H H h h := Un.kept fun _ _ q => q
theorem Un.laid (k : ∀ b u, h.get? b = some u → h'.get? b = some u) (hp : h.objs.size ≤ a) (hn : H a = none) : Un fs ex H (upd H a o) h h' where
  keep := fun b u q _ _ _ => k b u q
  slot := fun b u q _ _ _ => ⟨u.slots, k b u q⟩
  free := fun b u q n _ => by rw [upd_ne (Nat.ne_of_lt (Nat.lt_of_lt_of_le (Heap.lt_size q) hp))]; exact n
  there := fun b u q _ => ⟨u, k b u q⟩
  tups := fun b xs q => by rw [upd_ne (ne_of_none q hn)]; exact q
  frzs := fun b u xs q => by rw [upd_ne (ne_of_none q hn)]; exact q
  tbls := fun b ps q => ⟨#[], by rw [upd_ne (ne_of_none q hn), q]; simp⟩
theorem Un.write (mu : Mut (H x)) (he : e = x ∨ H e = some (.own x)) (k : ∀ b u, b ≠ e → h.get? b = some u → h'.get? b = some u) (heo : ∃ u, h'.get? e = some u) : Un fs ex H (upd H x o) h h' := by
  have hx : ∀ b, H b = none → b ≠ x := fun b n z => by subst z; rw [n] at mu; exact mu
  have hb : ∀ b, H b = none → b ≠ e := fun b n z => by
    subst z
    rcases he with r | r
    · exact hx b n r
    · rw [n] at r; cases r
  have hm : ∀ b u, H b = some u → ¬ Mut (some u) → b ≠ x := fun b u q nm z => by subst z; rw [q] at mu; exact nm mu
  refine ⟨fun b u q n _ _ => k b u (hb b n) q, fun b u q n _ _ => ⟨u.slots, k b u (hb b n) q⟩, fun b u q n _ => by rw [upd_ne (hx b n)]; exact n, fun b u q _ => ?_,
    fun b xs q => by rw [upd_ne (hm b _ q fun z => z)]; exact q, fun b u xs q => by rw [upd_ne (hm b _ q fun z => z)]; exact q, fun b ps q => ⟨#[], by rw [upd_ne (hm b _ q fun z => z), q]; simp⟩⟩
  by_cases hbe : b = e
  · subst hbe; exact heo
  · exact ⟨u, k b u hbe q⟩
end

/-! ### the heap without what is tracked -/
def trk (h : Heap) (H : Hp) : List Addr := (List.range h.objs.size).filter fun a => (H a).isSome
def hidT (h : Heap) (H : Hp) : Heap := PySem.W.hideAll h (trk h H)
theorem hidT_size (h : Heap) (H : Hp) : (hidT h H).objs.size = h.objs.size := PySem.W.hideAll_size _ _
theorem hidT_get {h : Heap} {H : Hp} {b : Addr} {o : Obj} (e : h.get? b = some o) (n : H b = none) : (hidT h H).get? b = some o :=
  PySem.W.hideAll_get _ e fun hm => by
    have q : (H b).isSome = true := (List.mem_filter.mp hm).2
    rw [n] at q; simp at q
theorem of_hidT {h : Heap} {H : Hp} {b : Addr} {o : Obj} (e : (hidT h H).get? b = some o) : h.get? b = some o ∧ H b = none := by
  have e' : h.get? b = some o := PySem.W.of_hideAll (trk h H) e
  refine ⟨e', ?_⟩
  cases q : H b with
  | none => rfl
  | some x =>
    have hm : b ∈ trk h H := List.mem_filter.mpr ⟨List.mem_range.mpr (Heap.lt_size e'), by simp [q]⟩
    have z : (hidT h H).get? b = none := PySem.W.hideAll_none (trk h H) hm
    rw [z] at e; cases e

/-! ### OpenK's ledger, filled with every new object but one -/
end L2

namespace L2
open PySem PySem.Spec PyProof.Rows

/-- the module's facts, over the base: the heap at the law's entry without what is tracked there -/
structure Mod (K : PySem.W.Frag) (mg : Str → Option Value) (base : Heap) : Prop where
  kin : K.In base
  glob : base.Ns mainGlobals mg
  blt : ∃ mb, base.Ns builtinsNs mb ∧ ∀ x : Str, x ≠ "__name__" → mb x = bootBuiltins x
  nolimit : base.NoLimit

/-- the context: a def's body (or a comprehension's block) running. base: fixed through the whole law; s₀, H₀: the entry; outer: the frames whose slots others may change (a def's callers); stack: all frames that run;
   ex: iterators that were made ahead of the entry and are walked here (a comprehension's); fn: the names whose cells were made at the entry (a def: all; a comprehension's block: its own); calm: not within an except suite; pn: pins that every state bears; xe: what is wanted of an exception that leaves the code -/
structure Cx where
  prog : Program
  w : World
  K : PySem.W.Frag
  mg : Str → Option Value
  base : Heap
  A : Around
  N : List Str
  s₀ : Shared
  H₀ : Hp
  env : Env
  outer : List Env
  stack : List Env
  ex : List Addr
  fn : Str → Bool
  calm : Bool
  pn : List (Addr × Obj)
  xe : Value → Shared → Prop
/-- the callers' frames -/
def frs (l : List Env) : List Addr := l.filterMap (·.frame)
abbrev Cx.fs (X : Cx) : List Addr := frs X.outer

def Vis (sc : Scope) (x : Str) : Prop := sc.names.lookup x = some .local ∨ sc.names.lookup x = some .cell ∨ sc.names.lookup x = some .free
def Loc (sc : Scope) (x : Str) : Prop := sc.names.lookup x = some .local ∨ sc.names.lookup x = some .cell
def Look (env : Env) (h : Heap) (m : Str → Option Value) (x : Str) (u : Value) : Prop :=
  (env.kindOf x = some .local ∧ m x = some u) ∨ ((env.kindOf x = some .cell ∨ env.kindOf x = some .free) ∧ ∃ c, env.cells.lookup x = some c ∧ h.IsCell c (some u))

structure Cx.Ok (X : Cx) : Prop where
  mod : Mod X.K X.mg X.base
  kind : X.env.scope.kind = .function
  glob : X.env.globals = mainGlobals
  blt : X.env.builtins = builtinsNs
  above : X.s₀.heap.objs.size ≤ X.env.locals
  inj : ∀ x y c, X.env.cells.lookup x = some c → X.env.cells.lookup y = some c → x = y
  has : ∀ x, (X.env.kindOf x = some .cell ∨ X.env.kindOf x = some .free) → ∃ c, X.env.cells.lookup x = some c
  cab : ∀ x c, X.fn x = true → X.env.cells.lookup x = some c → X.s₀.heap.objs.size ≤ c
  hd : X.calm = true → X.A.handled = none
  frames : X.A.frames = some X.stack
  stk : X.stack = X.outer ∨ (X.stack = X.env :: X.outer ∧ X.env.frame = some X.env.locals)
  exf : ∀ b ∈ X.ex, b ≠ X.env.locals ∧ ∀ x c, X.env.cells.lookup x = some c → c ≠ b
  bs : ∀ b o, X.base.get? b = some o → X.s₀.heap.get? b = some o ∧ X.H₀ b = none
  bsz : X.base.objs.size ≤ X.s₀.heap.objs.size
  noex : ∀ b o, X.base.get? b = some o → b ∉ X.ex
  exfs : ∀ b ∈ X.ex, b ∉ X.fs
  funs : X.s₀.heap.FunFrames X.base X.outer
  frf : ∀ b ∈ X.fs, X.H₀ b = none

structure Inv (X : Cx) (pins : List (Addr × Obj)) (σ : List (Option V)) (H : Hp) (s : Shared) : Prop where
  ok : X.Ok
  os : s.os = X.s₀.os
  bare : AllBare s.gens
  base : Un X.fs X.ex X.H₀ H X.s₀.heap s.heap
  loc : ∃ m, s.heap.Ns X.env.locals m ∧ ∀ (i : Nat) (x : Str) (v : V), X.N[i]? = some x → σ[i]? = some (some v) → Vis X.env.scope x → ∃ u, RelV v u ∧ Look X.env s.heap m x u
  cell : ∀ x c, X.env.cells.lookup x = some c → ∃ v, s.heap.IsCell c v
  free : H X.env.locals = none
  freeC : ∀ x c, X.env.cells.lookup x = some c → H c = none
  pin : ∀ p ∈ X.pn ++ pins, s.heap.get? p.1 = some p.2 ∧ H p.1 = none ∧ p.1 ≠ X.env.locals ∧ p.1 ∉ X.fs ∧ ∀ v, p.2.data ≠ .cell v
  hok : HOk X.prog X.w H s.heap
  len : σ.length = X.N.length

section
variable {X : Cx} {pins : List (Addr × Obj)} {σ : List (Option V)} {H H' : Hp} {s : Shared} {h' : Heap}

theorem Cx.Ok.nofr (ok : X.Ok) {b : Addr} {o : Obj} (e : X.base.get? b = some o) : b ∉ X.fs := fun hb => by
  have := (ok.funs.mem hb).1
  rw [e] at this; cases this
theorem Inv.bs (I : Inv X pins σ H s) : ∀ b o, X.base.get? b = some o → s.heap.get? b = some o ∧ H b = none := fun b o e =>
  ⟨I.base.keep b o (I.ok.bs b o e).1 (I.ok.bs b o e).2 (I.ok.nofr e) (I.ok.noex b o e), I.base.free b o (I.ok.bs b o e).1 (I.ok.bs b o e).2 (I.ok.noex b o e)⟩
theorem Inv.bk (I : Inv X pins σ H s) : ∀ b o, X.base.get? b = some o → s.heap.get? b = some o := fun b o e => (I.bs b o e).1
theorem Inv.mod (I : Inv X pins σ H s) : Mod X.K X.mg X.base := I.ok.mod
theorem Inv.kIn (I : Inv X pins σ H s) : X.K.In s.heap := I.ok.mod.kin.keeps I.bk
theorem Inv.lt (I : Inv X pins σ H s) : X.env.locals < s.heap.objs.size := let ⟨_, hn, _⟩ := I.loc; hn.lt
theorem Inv.sz (I : Inv X pins σ H s) : X.s₀.heap.objs.size ≤ s.heap.objs.size := Nat.le_trans I.ok.above (Nat.le_of_lt I.lt)
theorem Inv.nofs (I : Inv X pins σ H s) {a : Addr} (h : s.heap.objs.size ≤ a) : a ∉ X.fs := fun hb => by
  obtain ⟨_, o, ho, _⟩ := I.ok.funs.mem hb
  exact absurd (Nat.lt_of_lt_of_le (Heap.lt_size ho) (Nat.le_trans I.sz h)) (Nat.lt_irrefl _)
theorem Inv.cne (I : Inv X pins σ H s) : ∀ x c, X.env.cells.lookup x = some c → c ≠ X.env.locals := fun x c e z => by
  obtain ⟨v, o, ho, hd⟩ := I.cell x c e
  obtain ⟨m, ⟨o', es, ep, ho', hd', _⟩, _⟩ := I.loc
  rw [z, ho'] at ho; cases ho; rw [hd'] at hd; cases hd
theorem Inv.funs (I : Inv X pins σ H s) : s.heap.FunFrames X.base X.outer := by
  have all : ∀ (l : List Env), (∀ b ∈ frs l, b ∈ X.fs) → X.s₀.heap.FunFrames X.base l → s.heap.FunFrames X.base l := by
    intro l
    induction l with
    | nil => intro _ _; trivial
    | cons env r ih =>
      intro hs hl
      obtain ⟨hk, ⟨L, o, hf, hn, ho, hd⟩, hr⟩ := hl
      have hL : L ∈ X.fs := hs L (by unfold frs; rw [List.filterMap_cons, hf]; exact List.mem_cons_self)
      obtain ⟨sl, e⟩ := I.base.slot L o ho (I.ok.frf L hL) hL fun z => I.ok.exfs L z hL
      exact ⟨hk, ⟨L, _, hf, hn, e, hd⟩, ih (fun b hb => hs b (by unfold frs; rw [List.filterMap_cons, hf]; exact List.mem_cons_of_mem _ hb)) hr⟩
  exact all X.outer (fun _ hb => hb) I.ok.funs

/-- the frames that run, for a call -/
theorem Inv.stack (I : Inv X pins σ H s) : s.heap.FunFrames X.base X.stack := by
  rcases I.ok.stk with e | ⟨e, hf⟩
  · rw [e]; exact I.funs
  · rw [e]
    obtain ⟨m, hn, _⟩ := I.loc
    refine .cons (by rw [I.ok.kind]; decide) hf hn ?_ I.funs
    exact Heap.get?_none_of_le (Nat.le_trans I.ok.bsz I.ok.above)
theorem Inv.stkSub (I : Inv X pins σ H s) : ∀ b ∈ frs X.stack, b ∈ X.env.locals :: X.fs := fun b hb => by
  rcases I.ok.stk with e | ⟨e, hf⟩
  · rw [e] at hb; exact List.mem_cons_of_mem _ hb
  · rw [e] at hb
    unfold frs at hb
    rw [List.filterMap_cons, hf] at hb
    exact hb
theorem Inv.stkFree (I : Inv X pins σ H s) : ∀ b ∈ frs X.stack, H b = none := fun b hb => by
  rcases List.mem_cons.mp (I.stkSub b hb) with e | hb
  · rw [e]; exact I.free
  · obtain ⟨_, o, ho, _⟩ := I.ok.funs.mem hb
    exact I.base.free b o ho (I.ok.frf b hb) fun z => I.ok.exfs b z hb

/-- THE STEP: the untracked objects but the frame and the records at ch are kept (the callers' frames up to slots), the frame's map is kept, the new abstract heap is held -/
theorem Inv.step {g' : Array GenState} {t' : Nat} {d' : Drawn} {ch : List Addr} (I : Inv X pins σ H s)
    (hch : ∀ b ∈ ch, (b ∈ X.ex ∨ X.s₀.heap.objs.size ≤ b) ∧ b ≠ X.env.locals ∧ (∀ x c, X.env.cells.lookup x = some c → c ≠ b) ∧ ∀ p ∈ X.pn ++ pins, p.1 ≠ b)
    (keep : ∀ b o, b ≠ X.env.locals → b ∉ X.fs → b ∉ ch → s.heap.get? b = some o → H b = none → h'.get? b = some o)
    (slot : ∀ b o, b ≠ X.env.locals → b ∈ X.fs → b ∉ ch → s.heap.get? b = some o → H b = none → ∃ sl, h'.get? b = some { o with slots := sl }) (free : ∀ b o, b ∉ ch → s.heap.get? b = some o → H b = none → H' b = none)
    (there : ∀ b o, b ∉ ch → s.heap.get? b = some o → ∃ o', h'.get? b = some o')
    (tups : ∀ b xs, H b = some (.tup xs) → H' b = some (.tup xs)) (frzs : ∀ b o u, H b = some (.frz o u) → H' b = some (.frz o u)) (tbls : ∀ b ps, H b = some (.tbl ps) → ∃ more, H' b = some (.tbl (ps ++ more)))
    (ns : ∀ m, s.heap.Ns X.env.locals m → h'.Ns X.env.locals m) (hok : HOk X.prog X.w H' h') (hg : AllBare g') :
    Inv X pins σ H' { s with heap := h', gens := g', drawn := d', toks := t' } := by
  have neL : ∀ b o, X.s₀.heap.get? b = some o → b ≠ X.env.locals := fun b o e => Nat.ne_of_lt (Nat.lt_of_lt_of_le (Heap.lt_size e) I.ok.above)
  have neC : ∀ b o, X.s₀.heap.get? b = some o → b ∉ X.ex → b ∉ ch := fun b o e hx hb => by
    rcases (hch b hb).1 with z | z
    · exact hx z
    · exact absurd (Nat.lt_of_lt_of_le (Heap.lt_size e) z) (Nat.lt_irrefl _)
  have cellK : ∀ x c, X.env.cells.lookup x = some c → ∀ v, s.heap.IsCell c v → h'.IsCell c v := fun x c e v ⟨o, ho, hd⟩ => by
    have nch : c ∉ ch := fun z => (hch c z).2.2.1 x c e rfl
    by_cases hc : c ∈ X.fs
    · obtain ⟨sl, q⟩ := slot c o (I.cne x c e) hc nch ho (I.freeC x c e)
      exact ⟨_, q, hd⟩
    · exact ⟨o, keep c o (I.cne x c e) hc nch ho (I.freeC x c e), hd⟩
  refine ⟨I.ok, I.os, hg, ⟨fun b o e n hb hx => ?_, fun b o e n hb hx => ?_, fun b o e n hx => ?_, fun b o e hx => ?_, fun b xs e => tups b xs (I.base.tups b xs e), fun b o xs e => frzs b o xs (I.base.frzs b o xs e), fun b ps e => ?_⟩, ?_, fun x c e => ?_, ?_, fun x c e => ?_, fun p hp => ?_, hok, I.len⟩
  · exact keep b o (neL b o e) hb (neC b o e hx) (I.base.keep b o e n hb hx) (I.base.free b o e n hx)
  · obtain ⟨sl, e1⟩ := I.base.slot b o e n hb hx
    obtain ⟨sl', e2⟩ := slot b _ (neL b o e) hb (neC b o e hx) e1 (I.base.free b o e n hx)
    exact ⟨sl', e2⟩
  · obtain ⟨o', e1⟩ := I.base.there b o e hx
    exact free b o' (neC b o e hx) e1 (I.base.free b o e n hx)
  · obtain ⟨o', e1⟩ := I.base.there b o e hx
    exact there b o' (neC b o e hx) e1
  · obtain ⟨m1, e1⟩ := I.base.tbls b ps e
    obtain ⟨m2, e2⟩ := tbls b _ e1
    exact ⟨m1 ++ m2, by rw [e2, Array.append_assoc]⟩
  · obtain ⟨m, hn, hl⟩ := I.loc
    refine ⟨m, ns m hn, fun i x v e1 e2 e3 => ?_⟩
    obtain ⟨u, r, l⟩ := hl i x v e1 e2 e3
    refine ⟨u, r, ?_⟩
    rcases l with l | ⟨k, c, e, z⟩
    · exact .inl l
    · exact .inr ⟨k, c, e, cellK x c e _ z⟩
  · obtain ⟨v, z⟩ := I.cell x c e
    exact ⟨v, cellK x c e v z⟩
  · obtain ⟨m, ⟨o, _, _, ho, _⟩, _⟩ := I.loc
    exact free _ o (fun z => (hch _ z).2.1 rfl) ho I.free
  · obtain ⟨v, o, ho, hd⟩ := I.cell x c e
    exact free c o (fun z => (hch c z).2.2.1 x c e rfl) ho (I.freeC x c e)
  · obtain ⟨e, n, ne, nf, d⟩ := I.pin p hp
    have nch : p.1 ∉ ch := fun z => (hch p.1 z).2.2.2 p hp rfl
    exact ⟨keep p.1 p.2 ne nf nch e n, free p.1 p.2 nch e n, ne, nf, d⟩
/-- .. where the frame's own object is kept too -/
theorem Inv.un {t' : Nat} (I : Inv X pins σ H s) (u : Un X.fs [] H H' s.heap h') (hok : HOk X.prog X.w H' h') : Inv X pins σ H' { s with heap := h', toks := t' } := by
  obtain ⟨m, ⟨o, es, ep, ho, r⟩, _⟩ := id I.loc
  obtain ⟨sl, hL⟩ := u.any ho I.free (by simp)
  exact I.step (g' := s.gens) (d' := s.drawn) (ch := []) (fun _ z => nomatch z) (fun b o _ hb _ e n => u.keep b o e n hb (by simp)) (fun b o _ hb _ e n => u.slot b o e n hb (by simp)) (fun b o _ e n => u.free b o e n (by simp)) (fun b o _ e => u.there b o e (by simp)) u.tups u.frzs u.tbls (fun m' hm => by
    obtain ⟨o', es', ep', ho', r'⟩ := hm
    rw [ho] at ho'; cases ho'
    exact ⟨_, es', ep', hL, r'⟩) hok I.bare
/-- behind a call (or a comprehension's block): the slots of this frame may have changed too, the records at ch may have turned -/
theorem Inv.call {g' : Array GenState} {t' : Nat} {d' : Drawn} {ch : List Addr} (I : Inv X pins σ H s) (u : Un (frs X.stack) ch H H' s.heap h') (hok : HOk X.prog X.w H' h') (hg : AllBare g')
    (hch : ∀ b ∈ ch, (b ∈ X.ex ∨ X.s₀.heap.objs.size ≤ b) ∧ b ≠ X.env.locals ∧ (∀ x c, X.env.cells.lookup x = some c → c ≠ b) ∧ ∀ p ∈ X.pn ++ pins, p.1 ≠ b) :
    Inv X pins σ H' { s with heap := h', gens := g', drawn := d', toks := t' } := by
  obtain ⟨m, ⟨o, es, ep, ho, r⟩, _⟩ := id I.loc
  obtain ⟨sl, hL⟩ := u.any ho I.free fun z => (hch _ z).2.1 rfl
  exact I.step (ch := ch) hch (fun b o hL hb hc e n => u.keep b o e n (fun z => (List.mem_cons.mp (I.stkSub b z)).elim hL hb) hc) (fun b o _ _ hc e n => u.any e n hc) (fun b o hc e n => u.free b o e n hc) (fun b o hc e => u.there b o e hc) u.tups u.frzs u.tbls (fun m' hm => by
    obtain ⟨o', es', ep', ho', r'⟩ := hm
    rw [ho] at ho'; cases ho'
    exact ⟨_, es', ep', hL, r'⟩) hok hg
/-- an untracked record of ours (an iterator) has turned -/
theorem Inv.turned {t' : Nat} {it : Addr} (I : Inv X pins σ H s) (k : ∀ b o, b ≠ it → s.heap.get? b = some o → h'.get? b = some o) (hn : H it = none) (hL : it ≠ X.env.locals)
    (h1 : it ∈ X.ex ∨ X.s₀.heap.objs.size ≤ it) (h2 : ∀ x c, X.env.cells.lookup x = some c → c ≠ it) (h3 : ∀ p ∈ X.pn ++ pins, p.1 ≠ it) : Inv X pins σ H { s with heap := h', toks := t' } := by
  have nit : ∀ b u, H b = some u → b ≠ it := fun b u e z => by rw [z, hn] at e; cases e
  refine I.step (g' := s.gens) (d' := s.drawn) (ch := [it]) (fun b hb => ?_) (fun b o _ _ hc e _ => k b o (fun z => hc (by simp [z])) e) (fun b o _ _ hc e _ => ⟨o.slots, k b o (fun z => hc (by simp [z])) e⟩) (fun _ _ _ _ n => n)
    (fun b o hc e => ⟨o, k b o (fun z => hc (by simp [z])) e⟩) (fun _ _ e => e) (fun _ _ _ e => e) (fun b ps e => ⟨#[], by rw [e]; simp⟩) (fun m hm => ?_) (fun b u e => ?_) I.bare
  · have e : b = it := by simpa using hb
    subst e
    exact ⟨h1, hL, h2, h3⟩
  · obtain ⟨o, es, ep, ho, r⟩ := hm
    exact ⟨o, es, ep, k _ o (Ne.symm hL) ho, r⟩
  · refine (I.hok b u e).stay (fun c v hc q => k c v ?_ q) (fun _ q => q) fun _ _ q => q
    rcases hc with z | z
    · rw [z]; exact nit b u e
    · exact nit c _ z
theorem Inv.tok (I : Inv X pins σ H s) (t : Nat) : Inv X pins σ H { s with toks := t } := I.un (h' := s.heap) (t' := t) Un.refl I.hok
/-- all objects kept -/
theorem Inv.kept {t' : Nat} (I : Inv X pins σ H s) (k : ∀ b u, s.heap.get? b = some u → h'.get? b = some u) : Inv X pins σ H { s with heap := h', toks := t' } := I.un (Un.kept k) (I.hok.kept k)
/-- a new object laid and tracked -/
theorem Inv.laid {a : Addr} {o : HO} {t' : Nat} (I : Inv X pins σ H s) (k : ∀ b u, s.heap.get? b = some u → h'.get? b = some u) (hp : s.heap.objs.size ≤ a) (new : ObjOk X.prog X.w (upd H a o) h' a o) :
    Inv X pins σ (upd H a o) { s with heap := h', toks := t' } := I.un (Un.laid k hp (I.hok.fresh hp)) (I.hok.laid k hp new)
/-- an object written -/
theorem Inv.write {x e : Addr} {o : HO} {t' : Nat} (I : Inv X pins σ H s) (mu : Mut (H x)) (he : e = x ∨ H e = some (.own x)) (k : ∀ b u, b ≠ e → s.heap.get? b = some u → h'.get? b = some u) (heo : ∃ u, h'.get? e = some u)
    (new : ObjOk X.prog X.w (upd H x o) h' x o) : Inv X pins σ (upd H x o) { s with heap := h', toks := t' } := I.un (Un.write mu he k heo) (I.hok.write mu he k heo new)
/-- forgetting slots, pins -/
theorem Inv.weak {σ' : List (Option V)} (I : Inv X pins σ H s) (hl : σ'.length = σ.length) (w : ∀ (i : Nat) v, σ'[i]? = some (some v) → σ[i]? = some (some v)) : Inv X pins σ' H s :=
  ⟨I.ok, I.os, I.bare, I.base, let ⟨m, hn, hl'⟩ := I.loc; ⟨m, hn, fun i x v e1 e2 e3 => hl' i x v e1 (w i v e2) e3⟩, I.cell, I.free, I.freeC, I.pin, I.hok, hl.trans I.len⟩
theorem Inv.pins_of {pins' : List (Addr × Obj)} (I : Inv X pins σ H s) (h : ∀ p ∈ pins', s.heap.get? p.1 = some p.2 ∧ H p.1 = none ∧ p.1 ≠ X.env.locals ∧ p.1 ∉ X.fs ∧ ∀ v, p.2.data ≠ .cell v) : Inv X pins' σ H s :=
  ⟨I.ok, I.os, I.bare, I.base, I.loc, I.cell, I.free, I.freeC, fun p hp => (List.mem_append.mp hp).elim (fun z => I.pin p (List.mem_append_left _ z)) (h p), I.hok, I.len⟩

theorem nodup_ix {N : List Str} (hN : N.Nodup) {i j : Nat} {x : Str} (a : N[i]? = some x) (b : N[j]? = some x) : i = j := by
  obtain ⟨h1, e1⟩ := List.getElem?_eq_some_iff.mp a
  obtain ⟨h2, e2⟩ := List.getElem?_eq_some_iff.mp b
  exact (List.getElem_inj hN).mp (e1.trans e2.symm)

/-- a name is stored; what changed -/
theorem store_ok2 {M : Model} {A : Around} {E : Value → Shared → Prop} {i : Nat} {x : Str} {v : V} {u : Value} {Q : Unit → Shared → Prop} (I : Inv X pins σ H s) (hN : X.N.Nodup) (hi : X.N[i]? = some x) (hx : Loc X.env.scope x) (r : RelV v u)
    (h : ∀ s', Inv X pins (σ.set i (some v)) H s' → (∃ a, Heap.SameBut a s.heap s'.heap ∧ (a = X.env.locals ∨ X.env.cells.lookup x = some a)) → Q () s') (hf : X.fn x = true ∨ X.env.scope.names.lookup x = some .local := by first | exact .inl rfl | exact .inr rfl | assumption) : wpAny M A (storeName X.env x u) Q E s := by
  obtain ⟨m, hn, hl⟩ := id I.loc
  have hcls : (X.env.scope.kind == .class || (X.env.scope.kind == .module && X.env.locals != X.env.globals)) = false := by rw [I.ok.kind]; rfl
  have hiσ : i < σ.length := by rw [I.len]; exact (List.getElem?_eq_some_iff.mp hi).1
  have cne := I.cne
  have tracked : ∀ {a : Addr} {h' : Heap}, (∃ o, s.heap.get? a = some o ∧ H a = none) → Heap.SameBut a s.heap h' → HOk X.prog X.w H h' := fun {a h'} ha hs b ob e => by
    obtain ⟨_, _, hfree⟩ := ha
    refine (I.hok b ob e).stay (fun c w' hc q => (hs.2 c ?_).trans q) (fun _ q => q) fun _ _ q => q
    rintro rfl
    rcases hc with rfl | hc
    · rw [hfree] at e; cases e
    · rw [hfree] at hc; cases hc
  rcases hx with hk | hk
  · refine wpAny_storeName_local hk hn (fun h' hn' hs => ?_) hcls
    obtain ⟨oL, _, _, hoL, _⟩ := id hn
    refine h _ ⟨I.ok, I.os, I.bare, ⟨fun b o e n hb hx => ?_, fun b o e n hb hx => ?_, I.base.free, fun b o e hx => ?_, I.base.tups, I.base.frzs, I.base.tbls⟩, ⟨_, hn', fun j y v' e1 e2 e3 => ?_⟩, fun y c e => ?_, I.free, I.freeC, fun p hp => ?_, tracked ⟨oL, hoL, I.free⟩ hs, by simpa using I.len⟩ ⟨_, hs, .inl rfl⟩
    · exact (hs.2 b (Nat.ne_of_lt (Nat.lt_of_lt_of_le (Heap.lt_size e) I.ok.above))).trans (I.base.keep b o e n hb hx)
    · obtain ⟨sl, e1⟩ := I.base.slot b o e n hb hx
      exact ⟨sl, (hs.2 b (Nat.ne_of_lt (Nat.lt_of_lt_of_le (Heap.lt_size e) I.ok.above))).trans e1⟩
    · obtain ⟨o', e1⟩ := I.base.there b o e hx
      exact ⟨o', (hs.2 b (Nat.ne_of_lt (Nat.lt_of_lt_of_le (Heap.lt_size e) I.ok.above))).trans e1⟩
    · by_cases hj : j = i
      · subst hj
        rw [hi] at e1; cases e1
        rw [List.getElem?_set_self hiσ] at e2
        cases e2
        exact ⟨u, r, .inl ⟨hk, by simp⟩⟩
      · rw [List.getElem?_set_ne (Ne.symm hj)] at e2
        obtain ⟨u', r', q⟩ := hl j y v' e1 e2 e3
        refine ⟨u', r', ?_⟩
        rcases q with ⟨k, e⟩ | ⟨k, c, e, z⟩
        · refine .inl ⟨k, ?_⟩
          have : y ≠ x := fun e => hj (nodup_ix hN e1 (e ▸ hi))
          simp [this, e]
        · exact .inr ⟨k, c, e, z.sameBut hs (cne y c e)⟩
    · obtain ⟨w', z⟩ := I.cell y c e
      exact ⟨w', z.sameBut hs (cne y c e)⟩
    · obtain ⟨e, n, ne, nf, d⟩ := I.pin p hp
      exact ⟨(hs.2 p.1 ne).trans e, n, ne, nf, d⟩
  · have hfn : X.fn x = true := by
      rcases hf with z | z
      · exact z
      · rw [z] at hk; cases hk
    obtain ⟨c, hc⟩ := I.ok.has x (.inl hk)
    obtain ⟨w', z⟩ := I.cell x c hc
    refine wpAny_storeName_cell I.ok.kind hk hc z (fun h' hc' hs => ?_)
    obtain ⟨oc, hoc, hocd⟩ := id z
    refine h { s with heap := h' } ⟨I.ok, I.os, I.bare, ⟨fun b o e n hb hx => ?_, fun b o e n hb hx => ?_, I.base.free, fun b o e hx => ?_, I.base.tups, I.base.frzs, I.base.tbls⟩, ⟨m, hn.sameBut hs (Ne.symm (cne x c hc)), fun j y v' e1 e2 e3 => ?_⟩, fun y c' e => ?_, I.free, I.freeC, fun p hp => ?_, tracked ⟨oc, hoc, I.freeC x c hc⟩ hs, by simpa using I.len⟩ ⟨c, hs, .inr hc⟩
    · exact (hs.2 b (Nat.ne_of_lt (Nat.lt_of_lt_of_le (Heap.lt_size e) (I.ok.cab x c hfn hc)))).trans (I.base.keep b o e n hb hx)
    · obtain ⟨sl, e1⟩ := I.base.slot b o e n hb hx
      exact ⟨sl, (hs.2 b (Nat.ne_of_lt (Nat.lt_of_lt_of_le (Heap.lt_size e) (I.ok.cab x c hfn hc)))).trans e1⟩
    · obtain ⟨o', e1⟩ := I.base.there b o e hx
      exact ⟨o', (hs.2 b (Nat.ne_of_lt (Nat.lt_of_lt_of_le (Heap.lt_size e) (I.ok.cab x c hfn hc)))).trans e1⟩
    · by_cases hj : j = i
      · subst hj
        rw [hi] at e1; cases e1
        rw [List.getElem?_set_self hiσ] at e2
        cases e2
        exact ⟨u, r, .inr ⟨.inl hk, c, hc, hc'⟩⟩
      · rw [List.getElem?_set_ne (Ne.symm hj)] at e2
        obtain ⟨u', r', q⟩ := hl j y v' e1 e2 e3
        refine ⟨u', r', ?_⟩
        rcases q with q | ⟨k, c', e, z'⟩
        · exact .inl q
        · refine .inr ⟨k, c', e, z'.sameBut hs ?_⟩
          rintro rfl
          exact hj (nodup_ix hN e1 (I.ok.inj _ _ _ e hc ▸ hi))
    · by_cases hcc : c' = c
      · subst hcc; exact ⟨_, hc'⟩
      · obtain ⟨w2, z2⟩ := I.cell y c' e
        exact ⟨w2, z2.sameBut hs hcc⟩
    · obtain ⟨e, n, ne, nf, d⟩ := I.pin p hp
      refine ⟨(hs.2 p.1 ?_).trans e, n, ne, nf, d⟩
      intro q
      rw [q, hoc] at e
      have q' : oc = p.2 := Option.some.inj e
      exact d w' (by rw [← q']; exact hocd)
theorem store_ok {M : Model} {A : Around} {E : Value → Shared → Prop} {i : Nat} {x : Str} {v : V} {u : Value} {Q : Unit → Shared → Prop} (I : Inv X pins σ H s) (hN : X.N.Nodup) (hi : X.N[i]? = some x) (hx : Loc X.env.scope x) (r : RelV v u)
    (h : ∀ s', Inv X pins (σ.set i (some v)) H s' → Q () s') (hf : X.fn x = true ∨ X.env.scope.names.lookup x = some .local := by first | exact .inl rfl | exact .inr rfl | assumption) : wpAny M A (storeName X.env x u) Q E s :=
  store_ok2 I hN hi hx r (fun s' I' _ => h s' I') hf
/-- behind a call or a block, the state as it is -/
theorem Inv.call' {s' : Shared} {ch : List Addr} (I : Inv X pins σ H s) (ho : s'.os = s.os) (u : Un (frs X.stack) ch H H' s.heap s'.heap) (hok : HOk X.prog X.w H' s'.heap) (hg : AllBare s'.gens)
    (hch : ∀ b ∈ ch, (b ∈ X.ex ∨ X.s₀.heap.objs.size ≤ b) ∧ b ≠ X.env.locals ∧ (∀ x c, X.env.cells.lookup x = some c → c ≠ b) ∧ ∀ p ∈ X.pn ++ pins, p.1 ≠ b) : Inv X pins σ H' s' := by
  obtain ⟨h', g', d', t', o'⟩ := s'
  have e : o' = s.os := ho
  subst e
  exact I.call (g' := g') (t' := t') (d' := d') u hok hg hch
end

/-! ### the judgements -/
/-- an exception: its class, its own dict's address (where it has one), the abstract heap behind it -/
abbrev XK := Value → Option Addr → Hp → Prop
abbrev St := List (Option V)
abbrev VK := V → Hp → Prop
/-- an expression's reading; a test's; an argument list's -/
abbrev TE := St → Hp → VK → Prop
abbrev TT := St → Hp → (Bool → Hp → Prop) → Prop
abbrev TA := St → Hp → (List V → Hp → Prop) → Prop
/-- what is wanted behind a statement -/
structure Ends where
  nx : St → Hp → Prop
  rt : VK
  bk : St → Hp → Prop := fun _ _ => False
  ct : St → Hp → Prop := fun _ _ => False
abbrev TS := Ends → St → Hp → Prop

def EP (X : Cx) (pins : List (Addr × Obj)) (σ : St) (Q : VK) (u : Value) (s' : Shared) : Prop := ∃ v H', Inv X pins σ H' s' ∧ RelV v u ∧ Q v H'
def TP (X : Cx) (pins : List (Addr × Obj)) (σ : St) (Q : Bool → Hp → Prop) (b : Bool) (s' : Shared) : Prop := ∃ H', Inv X pins σ H' s' ∧ Q b H'
def AP (X : Cx) (pins : List (Addr × Obj)) (σ : St) (Q : List V → Hp → Prop) (us : List Value) (s' : Shared) : Prop := ∃ vs H', Inv X pins σ H' s' ∧ Vals vs us ∧ Q vs H'
def SP (X : Cx) (pins : List (Addr × Obj)) (D : Ends) (f : Flow) (s' : Shared) : Prop :=
  match f with
  | .next => ∃ σ' H', Inv X pins σ' H' s' ∧ D.nx σ' H'
  | .brk => ∃ σ' H', Inv X pins σ' H' s' ∧ D.bk σ' H'
  | .cont => ∃ σ' H', Inv X pins σ' H' s' ∧ D.ct σ' H'
  | .ret u => ∃ v σ' H', Inv X pins σ' H' s' ∧ RelV v u ∧ D.rt v H'

def PE (X : Cx) (e : Expr) (t : TE) : Prop :=
  ∀ ⦃pins : List (Addr × Obj)⦄ (s : Shared) (σ : St) (H : Hp) (Q : VK), Inv X pins σ H s → t σ H Q → wpAny (model X.prog X.w) X.A (eval e X.env) (EP X pins σ Q) X.xe s
def PT (X : Cx) (e : Expr) (t : TT) : Prop :=
  ∀ ⦃pins : List (Addr × Obj)⦄ (s : Shared) (σ : St) (H : Hp) (Q : Bool → Hp → Prop), Inv X pins σ H s → t σ H Q → wpAny (model X.prog X.w) X.A (isTrue e X.env (eval e X.env)) (TP X pins σ Q) X.xe s
/-- a test whatever its 'whole' is (and, or) -/
def PW (X : Cx) (e : Expr) (t : TT) : Prop :=
  ∀ ⦃whole : Sem Value⦄ ⦃pins : List (Addr × Obj)⦄ (s : Shared) (σ : St) (H : Hp) (Q : Bool → Hp → Prop), Inv X pins σ H s → t σ H Q → wpAny (model X.prog X.w) X.A (isTrue e X.env whole) (TP X pins σ Q) X.xe s
theorem PW.pt {X : Cx} {e : Expr} {t : TT} (h : PW X e t) : PT X e t := fun pins s σ H Q I q => h s σ H Q I q
/-- an argument list (no star), from the left -/
def PA (X : Cx) (es : List Expr) (t : TA) : Prop :=
  ∀ ⦃pos : Pos⦄ ⦃pins : List (Addr × Obj)⦄ (s : Shared) (σ : St) (H : Hp) (Q : List V → Hp → Prop), Inv X pins σ H s → t σ H Q → wpAny (model X.prog X.w) X.A (spliced (backTo pos (starEach es X.env))) (AP X pins σ Q) X.xe s
def PS (X : Cx) (st : Stmt) (t : TS) : Prop :=
  ∀ ⦃pins : List (Addr × Obj)⦄ (s : Shared) (σ : St) (H : Hp) (D : Ends), Inv X pins σ H s → t D σ H → wpAny (model X.prog X.w) X.A (exec st X.env) (SP X pins D) X.xe s
def PSs (X : Cx) (st : List Stmt) (t : TS) : Prop :=
  ∀ ⦃pins : List (Addr × Obj)⦄ (s : Shared) (σ : St) (H : Hp) (D : Ends), Inv X pins σ H s → t D σ H → wpAny (model X.prog X.w) X.A (execs st X.env) (SP X pins D) X.xe s
/-- weaken the end -/
theorem thn {α : Type} {t : Sem α} {Q Q' : α → Shared → Prop} {M : Model} {A : Around} {E : Value → Shared → Prop} {s : Shared} (h : wpAny M A t Q E s) (hQ : ∀ a s, Q a s → Q' a s) : wpAny M A t Q' E s := wpAny_mono h hQ fun _ _ x => x
end L2

namespace L2
open PySem PySem.Spec PyProof.Rows
section
variable {X : Cx}

/-! ### names and constants -/
def tVar (i : Nat) : TE := fun σ H Q => ∃ v, σ[i]? = some (some v) ∧ Q v H
def tC (v : V) : TE := fun _ H Q => Q v H
theorem pe_var {i : Nat} {x : Str} {pos : Pos} (hN : X.N[i]? = some x) (hv : Vis X.env.scope x) (hd : (x == ("__debug__" : Str)) = false := by decide) (hcd : (x == ("__classdict__" : Str)) = false := by decide) : PE X (.Name x pos) (tVar i) := by
  intro pins s σ H Q I h
  obtain ⟨v, e, h⟩ := h
  obtain ⟨m, hn, hl⟩ := I.loc
  obtain ⟨u, r, l⟩ := hl i x v hN e hv
  have fin : EP X pins σ Q u s := ⟨v, H, I, r, h⟩
  rcases l with ⟨hk, hm⟩ | ⟨hk, c, hc, hcell⟩
  · exact wpAny_Name (wpAny_loadName_local I.ok.kind hk hn hm fin) hd
  · rcases hk with hk | hk
    · exact wpAny_Name (wpAny_loadName_cell I.ok.kind hk hc hcell fin) hd
    · exact wpAny_Name (wpAny_loadName_free I.ok.kind hk hc hcell fin hcd) hd
theorem pe_int {i j pos} : PE X (.Constant (.int i) j pos) (tC (.int i)) := fun _ _ _ H _ I h => wpAny_Constant_int ⟨.int i, H, I.tok _, ⟨_, rfl⟩, h⟩
theorem pe_bl {b j pos} : PE X (.Constant (.bool b) j pos) (tC (.bl b)) := fun _ _ _ H _ I h => Constant_bool ⟨.bl b, H, I, rfl, h⟩
theorem pe_non {j pos} : PE X (.Constant .none j pos) (tC .non) := fun _ _ _ H _ I h => Constant_none ⟨.non, H, I, rfl, h⟩
theorem pe_str {x j pos} : PE X (.Constant (.str x) j pos) (tC (.str x)) := fun _ _ _ H _ I h => Calls.Constant_str ⟨.str x, H, I.tok _, ⟨_, rfl⟩, h⟩

/-- a global name of the def -/
def Gl (X : Cx) (x : Str) : Prop := X.env.kindOf x = some .globalImplicit
theorem ld_glob {E : Value → Shared → Prop} {pins : List (Addr × Obj)} {s : Shared} {σ : St} {H : Hp} {x : Str} {u : Value} {pos : Pos} {Q : Value → Shared → Prop} (I : Inv X pins σ H s) (hg : Gl X x) (hm : X.mg x = some u) (h : Q u s)
    (hd : (x == ("__debug__" : Str)) = false := by decide) : wpAny (model X.prog X.w) X.A (eval (.Name x pos) X.env) Q E s :=
  Calls.Name_function_global I.ok.kind hg (Calls.loadGlobal_global (by rw [I.ok.glob]; exact I.mod.glob.keeps I.bk) hm h) hd
theorem ld_blt {E : Value → Shared → Prop} {pins : List (Addr × Obj)} {s : Shared} {σ : St} {H : Hp} {x : Str} {u : Value} {pos : Pos} {Q : Value → Shared → Prop} (I : Inv X pins σ H s) (hg : Gl X x) (hm : X.mg x = none) (hv : bootBuiltins x = some u) (h : Q u s)
    (hn : x ≠ "__name__" := by decide) (hd : (x == ("__debug__" : Str)) = false := by decide) : wpAny (model X.prog X.w) X.A (eval (.Name x pos) X.env) Q E s := by
  obtain ⟨mb, h1, h2⟩ := I.mod.blt
  exact Calls.Name_function_global I.ok.kind hg (Calls.loadGlobal_builtin (by rw [I.ok.glob]; exact I.mod.glob.keeps I.bk) hm (by rw [I.ok.blt]; exact h1.keeps I.bk) ((h2 x hn).trans hv) h) hd
/-- a module's constant, a class, a function, as a value -/
theorem pe_glob {x : Str} {v : V} {u : Value} {pos : Pos} (hg : Gl X x) (hm : X.mg x = some u) (r : RelV v u) (hd : (x == ("__debug__" : Str)) = false := by decide) : PE X (.Name x pos) (tC v) :=
  fun _ _ _ H _ I h => ld_glob I hg hm ⟨v, H, I, r, h⟩ hd
theorem pe_bltn {x : Str} {v : V} {u : Value} {pos : Pos} (hg : Gl X x) (hm : X.mg x = none) (hv : bootBuiltins x = some u) (r : RelV v u) (hn : x ≠ "__name__" := by decide) (hd : (x == ("__debug__" : Str)) = false := by decide) : PE X (.Name x pos) (tC v) :=
  fun _ _ _ H _ I h => ld_blt I hg hm hv ⟨v, H, I, r, h⟩ hn hd

/-! ### arithmetic -/
variable {a b : Expr} {ta tb : TE} {pos : Pos}
/-! ### comparisons -/
/-- a comparison as a value, as a test -/
def tB (t : TE) : TT := fun σ H Q => t σ H fun x H1 => ∃ c, x = .bl c ∧ Q c H1
/-- an expression whose value is a bool, as a test -/
theorem pt_val {e : Expr} {t : TE} (h : PE X e t) (he : ∀ whole, isTrue e X.env whole = (do let v ← whole; standAt e.pos; holding [v] (truthy v)) := by intro _; rfl) : PT X e (tB t) := by
  intro pins s σ H Q I hw
  refine isTrue_plain (thn (h s σ H _ I hw) fun v s1 ⟨x, H1, I1, r1, q1⟩ => ?_) (he _)
  obtain ⟨d, rfl, q⟩ := q1
  cases r1
  exact wpAny_truthy_bool ⟨H1, I1, q⟩

/-! ### and, or, not -/
variable {tA tB' : TT} {rest : List Expr}
def tAnd (t u : TT) : TT := fun σ H Q => t σ H fun c H1 => if c = true then u σ H1 Q else Q false H1
def tOr (t u : TT) : TT := fun σ H Q => t σ H fun c H1 => if c = true then Q true H1 else u σ H1 Q
def tNot (t : TT) : TT := fun σ H Q => t σ H fun c H1 => Q (!c) H1
theorem pw_and1 (ha : PT X a tA) : PW X (.BoolOp .And [a] pos) tA := by
  intro wh pins s σ H Q I h
  refine isTrue_and (thn (ha s σ H Q I h) fun c s1 e => ?_)
  cases c with
  | true => exact isTrue_and_nil e
  | false => exact e
theorem pw_or1 (ha : PT X a tA) : PW X (.BoolOp .Or [a] pos) tA := by
  intro wh pins s σ H Q I h
  refine isTrue_or (thn (ha s σ H Q I h) fun c s1 e => ?_)
  cases c with
  | false => exact isTrue_or_nil e
  | true => exact e
theorem pw_and (ha : PT X a tA) (hb : PW X (.BoolOp .And (b :: rest) pos) tB') : PW X (.BoolOp .And (a :: b :: rest) pos) (tAnd tA tB') := by
  intro wh pins s σ H Q I h
  refine isTrue_and (thn (ha s σ H _ I h) fun c s1 ⟨H1, I1, q1⟩ => ?_)
  cases c with
  | true => exact hb s1 σ H1 Q I1 q1
  | false => exact ⟨H1, I1, q1⟩
theorem pw_or (ha : PT X a tA) (hb : PW X (.BoolOp .Or (b :: rest) pos) tB') : PW X (.BoolOp .Or (a :: b :: rest) pos) (tOr tA tB') := by
  intro wh pins s σ H Q I h
  refine isTrue_or (thn (ha s σ H _ I h) fun c s1 ⟨H1, I1, q1⟩ => ?_)
  cases c with
  | true => exact ⟨H1, I1, q1⟩
  | false => exact hb s1 σ H1 Q I1 q1
theorem pt_not (ha : PT X a tA) : PT X (.UnaryOp .Not a pos) (tNot tA) := by
  intro pins s σ H Q I h
  exact isTrue_not (ha s σ H (fun c H1 => Q (!c) H1) I h)
/-- .. as values (bools) -/
def tAndV (ta tb : TE) : TE := fun σ H Q => ta σ H fun x H1 => ∃ c, x = .bl c ∧ if c = true then tb σ H1 Q else Q (.bl false) H1
theorem pe_one {op} {t : TE} (h : PE X a t) : PE X (.BoolOp op [a] pos) t := fun pins s σ H Q I hw => BoolOp_one (h s σ H Q I hw)
theorem pe_and (ha : PE X a ta) (hb : PE X (.BoolOp .And (b :: rest) pos) tb) : PE X (.BoolOp .And (a :: b :: rest) pos) (tAndV ta tb) := by
  intro pins s σ H Q I h
  refine BoolOp_and (thn (ha s σ H _ I h) fun v s1 ⟨x, H1, I1, r1, q1⟩ => ?_)
  obtain ⟨c, rfl, q1⟩ := q1
  cases r1
  refine wpAny_truthy_bool ?_
  cases c with
  | true => exact hb s1 σ H1 Q I1 q1
  | false => exact ⟨.bl false, H1, I1, rfl, q1⟩
/-- a if t else b -/
def tIf (t : TT) (ta tb : TE) : TE := fun σ H Q => t σ H fun c H1 => if c = true then ta σ H1 Q else tb σ H1 Q
theorem pe_ifExp {c : Expr} (hc : PT X c tA) (ha : PE X a ta) (hb : PE X b tb) : PE X (.IfExp c a b pos) (tIf tA ta tb) := by
  intro pins s σ H Q I h
  refine wpAny_IfExp (thn (hc s σ H _ I h) fun d s1 ⟨H1, I1, q1⟩ => ?_)
  cases d with
  | true => exact ha s1 σ H1 Q I1 q1
  | false => exact hb s1 σ H1 Q I1 q1
end
end L2

namespace L2
open PySem PySem.Spec PyProof.Rows

/-! ### a list, a tuple that is read: tracked, frozen, or an object of the module -/
def SqL (K : PySem.W.Frag) (H : Hp) (a : Addr) (xs : List V) : Prop :=
  Rd H a (.lst xs) ∨
    ∃ (o : Obj) (its : Array Value) (n : Nat), K.lookup a = some o ∧ o.cls = .type "list" ∧ o.dict = none ∧ o.data = .seq its n ∧ its.size ≤ sizeLine ∧ Vals xs its.toList
def SqT (K : PySem.W.Frag) (H : Hp) (a : Addr) (xs : List V) : Prop :=
  Rd H a (.tup xs) ∨
    ∃ (o : Obj) (its : Array Value) (n : Nat), K.lookup a = some o ∧ o.cls = .type "tuple" ∧ o.data = .seq its n ∧ its.size ≤ sizeLine ∧ Vals xs its.toList
def absV : Value → Option V
  | .none => some .non
  | .bool b => some (.bl b)
  | .int i _ => some (.int i)
  | .str x _ => some (.str x)
  | .bytes b _ => some (.byt b)
  | .float b _ => some (.flt b)
  | .ref a => some (.ref a)
  | .type n => some (.ty n)
  | _ => none
theorem RelV.abs {x : V} {u : Value} (r : RelV x u) : absV u = some x := by
  cases x with
  | non => cases r; rfl
  | bl _ => cases r; rfl
  | int _ => obtain ⟨t, rfl⟩ := r; rfl
  | str _ => obtain ⟨t, rfl⟩ := r; rfl
  | byt _ => obtain ⟨t, rfl⟩ := r; rfl
  | flt _ => obtain ⟨t, rfl⟩ := r; rfl
  | ref _ => cases r; rfl
  | ty _ => cases r; rfl
theorem RelV.inj {x y : V} {u : Value} (r : RelV x u) (q : RelV y u) : x = y := Option.some.inj (r.abs.symm.trans q.abs)
theorem Vals.inj : ∀ {xs ys : List V} {us : List Value}, Vals xs us → Vals ys us → xs = ys
  | _, _, _, .nil, .nil => rfl
  | _, _, _, .cons r t, .cons r' t' => by rw [r.inj r', Vals.inj t t']
section
variable {X : Cx} {pins : List (Addr × Obj)} {σ : St} {H : Hp} {s : Shared} {a : Addr} {xs ys : List V}
theorem SqL.of {K : PySem.W.Frag} (h : H a = some (.lst xs)) : SqL K H a xs := .inl (.inl h)
theorem SqT.of {K : PySem.W.Frag} (h : H a = some (.tup xs)) : SqT K H a xs := .inl (.inl h)
theorem Inv.list (I : Inv X pins σ H s) (h : SqL X.K H a xs) : ∃ its : List Value, Vals xs its ∧ PlainL s.heap a its.toArray ∧ xs.length ≤ sizeLine := by
  rcases h with h | ⟨o, its, n, hk, hc, hd, hs, hz, r⟩
  · obtain ⟨z, its, n, r, e⟩ := h.ok I.hok
    exact ⟨its, r, ⟨_, n, e, rfl, rfl, rfl⟩, z⟩
  · refine ⟨its.toList, r, ⟨o, n, I.kIn a o hk, hc, hd, by simpa using hs⟩, ?_⟩
    have e := r.length
    simp only [Array.length_toList] at e
    omega
theorem Inv.tuple (I : Inv X pins σ H s) (h : SqT X.K H a xs) : ∃ its : List Value, Vals xs its ∧ IsTup s.heap a its.toArray ∧ xs.length ≤ sizeLine := by
  rcases h with h | ⟨o, its, n, hk, hc, hs, hz, r⟩
  · obtain ⟨z, its, r, p⟩ := h.ok I.hok
    exact ⟨its, r, p, z⟩
  · refine ⟨its.toList, r, ⟨o, I.kIn a o hk, hc, n, by simpa using hs⟩, ?_⟩
    have e := r.length
    simp only [Array.length_toList] at e
    omega
theorem Inv.list_inj (I : Inv X pins σ H s) (h : SqL X.K H a xs) (h' : SqL X.K H a ys) : xs = ys := by
  obtain ⟨its, r, ⟨o, n, e, _, _, d⟩, _⟩ := I.list h
  obtain ⟨its', r', ⟨o', n', e', _, _, d'⟩, _⟩ := I.list h'
  rw [e] at e'; cases e'
  rw [d] at d'
  injection d' with d1 _
  have : its = its' := by simpa using congrArg Array.toList d1
  subst this
  exact r.inj r'
end

/-! ### another wish about exceptions -/
abbrev Cx.wish (X : Cx) (E : Value → Shared → Prop) : Cx := { X with xe := E }
/-- no exception leaves -/
abbrev Cx.nox (X : Cx) : Cx := X.wish fun _ _ => False
theorem Cx.Ok.wish {X : Cx} (ok : X.Ok) (E : Value → Shared → Prop) : (X.wish E).Ok :=
  ⟨ok.mod, ok.kind, ok.glob, ok.blt, ok.above, ok.inj, ok.has, ok.cab, ok.hd, ok.frames, ok.stk, ok.exf, ok.bs, ok.bsz, ok.noex, ok.exfs, ok.funs, ok.frf⟩
theorem Cx.Ok.unwish {X : Cx} {E : Value → Shared → Prop} (ok : (X.wish E).Ok) : X.Ok :=
  ⟨ok.mod, ok.kind, ok.glob, ok.blt, ok.above, ok.inj, ok.has, ok.cab, ok.hd, ok.frames, ok.stk, ok.exf, ok.bs, ok.bsz, ok.noex, ok.exfs, ok.funs, ok.frf⟩
section
variable {X : Cx} {pins : List (Addr × Obj)} {σ : St} {H : Hp} {s : Shared} {E : Value → Shared → Prop}
theorem Inv.wish (I : Inv X pins σ H s) (E : Value → Shared → Prop) : Inv (X.wish E) pins σ H s := ⟨I.ok.wish E, I.os, I.bare, I.base, I.loc, I.cell, I.free, I.freeC, I.pin, I.hok, I.len⟩
theorem Inv.unwish (I : Inv (X.wish E) pins σ H s) : Inv X pins σ H s := ⟨I.ok.unwish, I.os, I.bare, I.base, I.loc, I.cell, I.free, I.freeC, I.pin, I.hok, I.len⟩
theorem SP.unwish {D : Ends} {f : Flow} {s' : Shared} (h : SP (X.wish E) pins D f s') : SP X pins D f s' := by
  cases f with
  | next => obtain ⟨σ', H', I, q⟩ := h; exact ⟨σ', H', I.unwish, q⟩
  | brk => obtain ⟨σ', H', I, q⟩ := h; exact ⟨σ', H', I.unwish, q⟩
  | cont => obtain ⟨σ', H', I, q⟩ := h; exact ⟨σ', H', I.unwish, q⟩
  | ret u => obtain ⟨v, σ', H', I, r, q⟩ := h; exact ⟨v, σ', H', I.unwish, r, q⟩
theorem PSs.nox {st : List Stmt} {t : TS} (h : PSs X.nox st t) : PSs X st t := fun pins s σ H D I hw =>
  wpAny_mono (h s σ H D (I.wish _) hw) (fun _ _ q => q.unwish) fun _ _ z => False.elim z
end

/-! ### blocks and small statements -/
section
variable {X : Cx} {st : Stmt} {rest : List Stmt} {t u : TS} {e : Expr} {te : TE} {pos : Pos}
def tNext : TS := fun D σ H => D.nx σ H
def tSeq (t u : TS) : TS := fun D σ H => t { D with nx := u D } σ H
theorem pss_nil : PSs X [] tNext := fun _ _ σ H _ I h => wpAny_execs_nil ⟨σ, H, I, h⟩
theorem pss_cons (h1 : PS X st t) (h2 : PSs X rest u) : PSs X (st :: rest) (tSeq t u) := by
  intro pins s σ H D I h
  refine wpAny_execs_cons (thn (h1 s σ H { D with nx := u D } I h) fun f s1 q => ?_)
  cases f with
  | next =>
    obtain ⟨σ', H', I', q⟩ := q
    exact h2 s1 σ' H' D I' q
  | ret v => exact q
  | brk => exact q
  | cont => exact q
theorem pss_one (h1 : PS X st t) : PSs X [st] t := by
  intro pins s σ H D I h
  refine wpAny_execs_cons (thn (h1 s σ H D I h) fun f s1 q => ?_)
  cases f with
  | next => exact wpAny_execs_nil q
  | ret v => exact q
  | brk => exact q
  | cont => exact q
/-- in a def's body nothing is shown -/
theorem Inv.quiet {pins : List (Addr × Obj)} {σ : St} {H : Hp} {s : Shared} (I : Inv X pins σ H s) : interactive X.env = false := by simp [interactive, I.ok.kind]
/-- an expression whose value is dropped -/
def tDrop (te : TE) : TS := fun D σ H => te σ H fun _ H1 => D.nx σ H1
theorem ps_expr (he : PE X e te) (hs : swapsWith e none pos.line X.env = pure false := by rfl) : PS X (.Expr e pos) (tDrop te) := by
  intro pins s σ H D I h
  exact wpAny_Expr_any (thn (he s σ H _ I h) fun v s1 ⟨x, H1, I1, r1, q1⟩ => ⟨σ, H1, I1, q1⟩) I.quiet hs
def tRet (te : TE) : TS := fun D σ H => te σ H D.rt
theorem ps_ret (he : PE X e te) : PS X (.Return (some e) pos) (tRet te) := by
  intro pins s σ H D I h
  exact wpAny_Return_some (thn (he s σ H _ I h) fun v s1 ⟨x, H1, I1, r1, q1⟩ => ⟨x, σ, H1, I1, r1, q1⟩)
def tIfS (c : TT) (t u : TS) : TS := fun D σ H => c σ H fun b H1 => if b = true then t D σ H1 else u D σ H1
theorem ps_if {c : Expr} {a b : List Stmt} {tc : TT} (hc : PT X c tc) (ha : PSs X a t) (hb : PSs X b u) : PS X (.If c a b pos) (tIfS tc t u) := by
  intro pins s σ H D I h
  refine wpAny_If (thn (hc s σ H _ I h) fun d s1 ⟨H1, I1, q1⟩ => ?_)
  cases d with
  | true => exact ha s1 σ H1 D I1 q1
  | false => exact hb s1 σ H1 D I1 q1
end

/-! ### targets -/
abbrev TG := V → St → Hp → (St → Hp → Prop) → Prop
abbrev TGs := List V → St → Hp → (St → Hp → Prop) → Prop
def PG (X : Cx) (target : Expr) (t : TG) : Prop :=
  ∀ ⦃pins : List (Addr × Obj)⦄ (s : Shared) (σ : St) (H : Hp) (v : V) (u : Value) (Q : St → Hp → Prop), Inv X pins σ H s → RelV v u → t v σ H Q →
    wpAny (model X.prog X.w) X.A (assign target X.env u) (fun _ s' => ∃ σ' H', Inv X pins σ' H' s' ∧ Q σ' H') X.xe s
/-- several targets, one after another -/
def PGs (X : Cx) (ts : List Expr) (t : TGs) : Prop :=
  ∀ ⦃pins : List (Addr × Obj)⦄ (s : Shared) (σ : St) (H : Hp) (vs : List V) (us : List Value) (Q : St → Hp → Prop), Inv X pins σ H s → Vals vs us → t vs σ H Q →
    wpAny (model X.prog X.w) X.A (assignInOrder ((assignEach ts X.env).map (·.2)) us) (fun _ s' => ∃ σ' H', Inv X pins σ' H' s' ∧ Q σ' H') X.xe s
/-- o[i] = v, by values -/
abbrev TSet := V → V → V → Hp → (Hp → Prop) → Prop
def PSet (X : Cx) (t : TSet) : Prop :=
  ∀ ⦃pins : List (Addr × Obj)⦄ (s : Shared) (σ : St) (H : Hp) (o i v : V) (ov iv u : Value) (Q : Hp → Prop), Inv X pins σ H s → RelV o ov → RelV i iv → RelV v u → t o i v H Q →
    wpAny (model X.prog X.w) X.A (setItem ov iv u) (fun _ s' => ∃ H', Inv X pins σ H' s' ∧ Q H') X.xe s
section
variable {X : Cx} {pos : Pos}
def gName (i : Nat) : TG := fun v σ H Q => Q (σ.set i (some v)) H
theorem pg_name {i : Nat} {x : Str} (hN : X.N.Nodup) (hi : X.N[i]? = some x) (hx : Loc X.env.scope x) (hf : X.fn x = true ∨ X.env.scope.names.lookup x = some .local := by first | exact .inl rfl | exact .inr rfl | assumption) : PG X (.Name x pos) (gName i) := by
  intro pins s σ H v u Q I r h
  exact wpAny_assign_Name (store_ok I hN hi hx r (fun s' I' => ⟨_, H, I', h⟩) hf)
def gNil : TGs := fun vs σ H Q => vs = [] ∧ Q σ H
def gCons (t : TG) (u : TGs) : TGs := fun vs σ H Q => ∃ v r, vs = v :: r ∧ t v σ H fun σ' H' => u r σ' H' Q
theorem pgs_nil : PGs X [] gNil := by
  intro pins s σ H vs us Q I r h
  obtain ⟨e, h⟩ := h
  subst e
  cases r
  exact assignInOrder_nil ⟨σ, H, I, h⟩
theorem pgs_cons {e : Expr} {es : List Expr} {t : TG} {u : TGs} (h1 : PG X e t) (h2 : PGs X es u)
    (hs : (assignEach (e :: es) X.env).map (·.2) = assign e X.env :: (assignEach es X.env).map (·.2) := by rfl) : PGs X (e :: es) (gCons t u) := by
  intro pins s σ H vs us Q I r h
  obtain ⟨v, vr, e1, h⟩ := h
  subst e1
  cases r with
  | cons r rr =>
    rw [hs]
    refine assignInOrder_cons (thn (h1 s σ H _ _ _ I r h) fun _ s1 ⟨σ1, H1, I1, q1⟩ => ?_)
    exact h2 s1 σ1 H1 _ _ Q I1 rr q1
/-- (a, b, ..) = a tuple of that length -/
def gTup (K : PySem.W.Frag) (n : Nat) (t : TGs) : TG := fun v σ H Q => ∃ a xs, v = .ref a ∧ SqT K H a xs ∧ xs.length = n ∧ t xs σ H Q
theorem pg_tup {es : List Expr} {k : Nat} {t : TGs} {n : Nat} (hc : X.calm = true) (h : PGs X es t)
    (hn : (assignEach es X.env).length = n := by rfl) (hst : (assignEach es X.env).findIdx? (·.1) = none := by rfl) : PG X (.Tuple es k pos) (gTup X.K n t) := by
  intro pins s σ H v u Q I r hw
  obtain ⟨a, xs, e1, hq, hl, hw⟩ := hw
  subst e1
  cases r
  obtain ⟨its, rv, ht, hz⟩ := I.tuple hq
  refine assign_Tuple_tuple (I.ok.hd hc) ht (by simp [hn, ← hl, rv.length]) hst fun h' hx => ?_
  have I1 : Inv X pins σ H { s with heap := h' } := I.kept (t' := s.toks) fun b o e => hx b o (Nat.ne_of_lt (Heap.lt_size e)) e
  exact h _ σ H xs _ Q I1 (by simpa using rv) hw
/-- o[i] = .. -/
def gSub (to ti : TE) (t : TSet) : TG := fun v σ H Q => to σ H fun o H1 => ti σ H1 fun i H2 => t o i v H2 fun H3 => Q σ H3
theorem pg_sub {o i : Expr} {to ti : TE} {t : TSet} (ho : PE X o to) (hi : PE X i ti) (hs : PSet X t)
    (ha : ∀ v, assign (.Subscript o i pos) X.env v = (do
      let ov ← holding [v] (eval o X.env)
      let iv ← holding [v, ov] (eval i X.env)
      standAt pos
      holding [v, ov, iv] (setItem ov iv v)
      release [v, ov, iv] []) := by intro _; rfl) : PG X (.Subscript o i pos) (gSub to ti t) := by
  intro pins s σ H v u Q I r h
  rw [ha]
  refine wpAny_bind (wpAny_holding (thn (ho s σ H _ I h) fun ov s1 ⟨x, H1, I1, r1, q1⟩ => ?_))
  refine wpAny_bind (wpAny_holding (thn (hi s1 σ H1 _ I1 q1) fun iv s2 ⟨y, H2, I2, r2, q2⟩ => ?_))
  refine wpAny_bind (wpAny_standAt (wpAny_bind (wpAny_holding (thn (hs s2 σ H2 x y v ov iv u _ I2 r1 r2 r q2) fun _ s3 ⟨H3, I3, q3⟩ => ?_))))
  exact wpAny_release ⟨σ, H3, I3, q3⟩
/-- target = value -/
def tAsg (te : TE) (g : TG) : TS := fun D σ H => te σ H fun x H1 => g x σ H1 D.nx
theorem ps_asg {tg e : Expr} {te : TE} {g : TG} (he : PE X e te) (hg : PG X tg g) (hs : swapsWithSole [tg] e pos.line X.env = pure false := by rfl) (hw : swappedStores [tg] e X.env = pure none := by rfl)
    (h1 : (assignEach [tg] X.env).map (·.2) = [assign tg X.env] := by rfl) : PS X (.Assign [tg] e pos) (tAsg te g) := by
  intro pins s σ H D I h
  refine wpAny_Assign_stores (thn (he s σ H _ I h) fun v s1 ⟨x, H1, I1, r1, q1⟩ => ?_) hs hw
  rw [h1]
  exact thn (hg s1 σ H1 x v _ I1 r1 q1) fun _ s2 q => q
/-- name = value -/
theorem ps_set {i : Nat} {x : Str} {e : Expr} {te : TE} {pos' : Pos} (hN : X.N.Nodup) (hi : X.N[i]? = some x) (hx : Loc X.env.scope x) (he : PE X e te) (hs : swapsWith e (some (.Name x pos')) pos.line X.env = pure false := by rfl) (hf : X.fn x = true ∨ X.env.scope.names.lookup x = some .local := by first | exact .inl rfl | exact .inr rfl | assumption) :
    PS X (.Assign [.Name x pos'] e pos) (tAsg te (gName i)) := by
  intro pins s σ H D I h
  refine wpAny_Assign_Name (thn (he s σ H _ I h) fun v s1 ⟨y, H1, I1, r1, q1⟩ => ?_) hs
  exact store_ok I1 hN hi hx r1 (fun s2 I2 => ⟨_, H1, I2, q1⟩) hf
/-- a, b = x, y with plain local names: stored from the right; the pair itself is not tracked (the opening rows as in PyProof/Rows/TupAssign.lean:23) -/
def tPar (i j : Nat) (ta : TA) : TS := fun D σ H => ta σ H fun vs H1 => ∃ v w, vs = [v, w] ∧ D.nx ((σ.set i (some v)).set j (some w)) H1
theorem ps_par {i j : Nat} {x y : Str} {a b : Expr} {ta : TA} {px py pt : Pos} {kt k2 pt2} (hc : X.calm = true) (hN : X.N.Nodup) (hi : X.N[i]? = some x) (hj : X.N[j]? = some y) (hij : i ≠ j)
    (hx : X.env.scope.names.lookup x = some .local) (hy : X.env.scope.names.lookup y = some .local) (ha : PA X [a, b] ta)
    (hw : swappedStores [.Tuple [.Name x px, .Name y py] kt pt] (.Tuple [a, b] k2 pt2) X.env = pure (some [x, y]))
    (hs : swapsWithSole [.Tuple [.Name x px, .Name y py] kt pt] (.Tuple [a, b] k2 pt2) pos.line X.env = pure false := by rfl) :
    PS X (.Assign [.Tuple [.Name x px, .Name y py] kt pt] (.Tuple [a, b] k2 pt2) pos) (tPar i j ta) := by
  intro pins s σ H D I h
  rw [exec_Assign_arm]
  refine wpAny_bind (wpAny_standAt ?_)
  rw [hs]
  refine wpAny_bind (wpAny_pure ?_)
  rw [if_neg (by decide)]
  refine wpAny_bind (Tuple_ (thn (ha s σ H _ I h) fun us s1 ⟨vs, H1, I1, r1, q1⟩ => ?_))
  obtain ⟨v, w, e1, q1⟩ := q1
  subst e1
  obtain ⟨u1, u2, rfl, rv, rw'⟩ : ∃ u1 u2, us = [u1, u2] ∧ RelV v u1 ∧ RelV w u2 := by
    cases r1 with
    | cons p q =>
      cases q with
      | cons p' q' =>
        cases q'
        exact ⟨_, _, rfl, p, p'⟩
  refine wpAny_newObj_type ?_ (by show 2 ≤ sizeLine; decide)
  have I2 : Inv X pins σ H1 { s1 with heap := s1.heap.push { cls := .type "tuple", data := .seq [u1, u2].toArray } } := I1.kept (t' := s1.toks) fun b o e => Heap.get?_push_of_some _ e
  rw [hw]
  refine wpAny_bind (wpAny_pure ?_)
  show wpAny (model X.prog X.w) X.A (do rule "assign.swapped-stores"; let items ← unpackItems (.ref s1.heap.objs.size) 2 none; assignInOrder [fun v => bindName X.env y v, fun v => bindName X.env x v] items.reverse; pure Flow.next) _ _ _
  refine wpAny_bind (wpAny_rule (wpAny_bind (unpackItems_tuple (items := #[u1, u2]) (I.ok.hd hc) (IsTup.new s1.heap _) fun h' hx' => ?_)))
  have I3 := I2.kept (h' := h') (t' := s1.toks) fun b o e => hx' b o (Nat.ne_of_lt (Heap.lt_size e)) e
  show wpAny _ _ (assignInOrder [fun v => bindName X.env y v, fun v => bindName X.env x v] [u2, u1] >>= fun _ => pure Flow.next) _ _ _
  refine wpAny_bind (assignInOrder_cons (wpAny_bindName (store_ok I3 hN hj (.inl hy) rw' (fun s2 I4 => ?_) (.inr hy))))
  refine assignInOrder_cons (wpAny_bindName (store_ok I4 hN hi (.inl hx) rv (fun s3 I5 => assignInOrder_nil (wpAny_pure ?_)) (.inr hx)))
  rw [List.set_comm _ _ (Ne.symm hij)] at I5
  exact ⟨_, H1, I5, q1⟩
end

/-! ### while -/
section
variable {X : Cx} {pos : Pos}
end

/-! ### what a loop or a comprehension walks -/
/-- at turn i: it yields x (the heap may grow), or it stops -/
structure It where
  go : Nat → Hp → Prop
  yld : Nat → Hp → V → Hp → Prop
  stop : Nat → Hp → Prop
/-- the iterator's own objects may turn: they are not the frame's, not pinned, younger than the entry (or a comprehension's own) -/
def FpOk (X : Cx) (pins : List (Addr × Obj)) (H : Hp) (b : Addr) : Prop :=
  H b = none ∧ b ≠ X.env.locals ∧ b ∉ X.fs ∧ (b ∈ X.ex ∨ X.s₀.heap.objs.size ≤ b) ∧ (∀ x c, X.env.cells.lookup x = some c → c ≠ b) ∧ ∀ p ∈ X.pn ++ pins, p.1 ≠ b
theorem Inv.fpOk {X : Cx} {pins : List (Addr × Obj)} {σ : St} {H H' : Hp} {s : Shared} {b : Addr} (I : Inv X pins σ H s) (hb : s.heap.objs.size ≤ b) (hn : H' b = none) : FpOk X pins H' b := by
  refine ⟨hn, Nat.ne_of_gt (Nat.lt_of_lt_of_le I.lt hb), I.nofs hb, .inr (Nat.le_trans I.sz hb), fun x c e z => ?_, fun p hp z => ?_⟩
  · obtain ⟨v, q⟩ := I.cell x c e
    exact absurd (Nat.lt_of_lt_of_le q.lt (by rw [z]; exact hb)) (Nat.lt_irrefl _)
  · exact absurd (Nat.lt_of_lt_of_le (Heap.lt_size (I.pin p hp).1) (by rw [z]; exact hb)) (Nat.lt_irrefl _)
structure Turn (P : Program) (w : World) (K : PySem.W.Frag) (tg : Expr) (J : It) (fp : List Addr) (it : Addr) (tn : Nat → Heap → Prop) : Prop where
  mem : it ∈ fp
  obj : ∀ i h, tn i h → ∀ b ∈ fp, ∃ o, h.get? b = some o ∧ ∀ v, o.data ≠ .cell v
  keep : ∀ i h h', tn i h → (∀ b ∈ fp, ∀ o, h.get? b = some o → h'.get? b = some o) → tn i h'
  item : ∀ (X : Cx), X.prog = P → X.w = w → X.K = K → X.calm = true → ∀ (i : Nat) (pins : List (Addr × Obj)) (s : Shared) (σ : St) (H : Hp) (E : Value → Shared → Prop), Inv X pins σ H s → (∀ b ∈ fp, FpOk X pins H b) → tn i s.heap → J.go i H →
    wpAny (model P w) X.A (pyNext (.ref it)) (fun r s1 => ∃ u, r = some u ∧
      wpAny (model P w) X.A (letOwnedTupleGo tg (.ref it) u) (fun _ s2 => ∃ x H', Inv X pins σ H' s2 ∧ RelV x u ∧ J.yld i H x H' ∧ tn (i + 1) s2.heap ∧ ∀ b ∈ fp, H' b = none) E s1) E s
  done : ∀ (X : Cx), X.prog = P → X.w = w → X.K = K → X.calm = true → ∀ (i : Nat) (pins : List (Addr × Obj)) (s : Shared) (σ : St) (H : Hp) (E : Value → Shared → Prop), Inv X pins σ H s → (∀ b ∈ fp, FpOk X pins H b) → tn i s.heap → J.stop i H →
    wpAny (model P w) X.A (pyNext (.ref it)) (fun r s1 => r = none ∧ Inv X pins σ H s1) E s
  self : ∀ (A : Around) (i : Nat) (s : Shared) (Q : Value → Shared → Prop) (E : Value → Shared → Prop), tn i s.heap → Q (.ref it) s → wpAny (model P w) A (pyIter (.ref it)) Q E s
abbrev TI := St → Hp → (It → Hp → Prop) → Prop
/-- an iterator has come -/
def PIE (X : Cx) (pins : List (Addr × Obj)) (σ : St) (tg : Expr) (R : It → Hp → Prop) (itv : Value) (s2 : Shared) : Prop :=
  ∃ (it : Addr) (fp : List Addr) (tn : Nat → Heap → Prop) (J : It) (H' : Hp), itv = .ref it ∧ Inv X pins σ H' s2 ∧ Turn X.prog X.w X.K tg J fp it tn ∧ tn 0 s2.heap ∧ (∀ b ∈ fp, FpOk X pins H' b) ∧ R J H'
def PI (X : Cx) (tg iter : Expr) (wi : TI) : Prop :=
  ∀ ⦃pins : List (Addr × Obj)⦄ (s : Shared) (σ : St) (H : Hp) (R : It → Hp → Prop), Inv X pins σ H s → wi σ H R →
    wpAny (model X.prog X.w) X.A (eval iter X.env) (fun v s1 => wpAny (model X.prog X.w) X.A (pyIter v) (PIE X pins σ tg R) X.xe s1) X.xe s

/-- the step ahead of the store is nothing for an iterator that keeps no tuple -/
theorem go_of {M : Model} {A : Around} {E : Value → Shared → Prop} {s : Shared} {tg : Expr} {it : Addr} {u : Value} {o : Obj} {n : String} {vs : Array Value} {Q : Unit → Shared → Prop} (ho : s.heap.get? it = some o) (hc : o.cls = .type n) (hd : o.data = .fields vs)
    (hn : ["enumerate", "zip", "dict_itemiterator", "dict_reverseitemiterator", "odict_iterator", "itertools.zip_longest", "itertools.pairwise"].contains n = false) (hQ : Q () s) : wpAny M A (letOwnedTupleGo tg (.ref it) u) Q E s := by
  unfold letOwnedTupleGo
  cases tg <;> first
    | exact wpAny_pure hQ
    | (cases u <;> first
        | exact wpAny_pure hQ
        | (refine wpAny_bind (wpAny_load ho ?_)
           rw [hc, hd]
           show wpAny M A (if (["enumerate", "zip", "dict_itemiterator", "dict_reverseitemiterator", "odict_iterator", "itertools.zip_longest", "itertools.pairwise"].contains n && vs[0]? == some (rawInt _)) = true then _ else _) Q E s
           rw [if_neg (by intro h; rw [hn, Bool.false_and] at h; cases h)]
           exact wpAny_pure hQ))

/-- the list at a, as it stands at each turn (a loop may append to it) -/
def Itl (K : PySem.W.Frag) (a : Addr) : It :=
  ⟨fun i H => ∃ xs x, SqL K H a xs ∧ xs[i]? = some x, fun i H x H' => H' = H ∧ ∀ xs, SqL K H a xs → xs[i]? = some x, fun i H => ∃ xs, SqL K H a xs ∧ xs.length ≤ i⟩
/-- lo, lo + 1, .. (n of them) -/
def Itr (lo : Int) (n : Nat) : It := ⟨fun i _ => i < n, fun i H x H' => H' = H ∧ x = .int (lo + i), fun i _ => n ≤ i⟩
theorem turn_list {P : Program} {w : World} {K : PySem.W.Frag} {tg : Expr} (a it : Addr) : Turn P w K tg (Itl K a) [it] it (fun i h => h.IsListIter it a i) where
  mem := by simp
  obj := fun i h st b hb => by
    have e : b = it := by simpa using hb
    subst e
    obtain ⟨o, e, c, d⟩ := st
    exact ⟨o, e, fun v z => by rw [d] at z; cases z⟩
  keep := fun i h h' st k => st.at fun o e => k it (by simp) o e
  item := by
    intro X hP hw hK hc i pins s σ H E I hf st hg
    subst hP hw hK
    obtain ⟨xs, x, hq, hx⟩ := hg
    obtain ⟨its, rv, p, hz⟩ := I.list hq
    obtain ⟨u, hu, ru⟩ := rv.get hx
    obtain ⟨f0, f1, f2, f3, f4, f5⟩ := hf it (by simp)
    refine wpAny_pyNext_list_item st p.isList (x := u) (by simpa using hu) fun h' st' sb => ?_
    have I1 : Inv X pins σ H { s with heap := h' } := I.turned (t' := s.toks) (fun b o hb e => (sb.2 b hb).trans e) f0 f1 f3 f4 f5
    obtain ⟨o, e, c, d⟩ := id st'
    exact ⟨u, rfl, go_of (s := { s with heap := h' }) e c d (by decide) ⟨x, H, I1, ru, ⟨rfl, fun ys hy => by rw [I.list_inj hy hq]; exact hx⟩, st', fun b hb => (hf b hb).1⟩⟩
  done := by
    intro X hP hw hK hc i pins s σ H E I hf st hg
    subst hP hw hK
    obtain ⟨xs, hq, hx⟩ := hg
    obtain ⟨its, rv, p, hz⟩ := I.list hq
    obtain ⟨f0, f1, f2, f3, f4, f5⟩ := hf it (by simp)
    have hl := rv.length
    exact wpAny_pyNext_list_end (I.ok.hd hc) st p.isList (by simp; omega) fun h' eb => ⟨rfl, I.turned (t' := s.toks) (fun b o hb e => eb b o hb e) f0 f1 f3 f4 f5⟩
  self := fun _ _ _ _ _ st h => wpAny_pyIter_listiter st h
theorem turn_range {P : Program} {w : World} {K : PySem.W.Frag} {tg : Expr} (it : Addr) (lo : Int) (n : Nat) : Turn P w K tg (Itr lo n) [it] it (fun i h => IsRangeIter h it (lo + (i : Nat) * 1) ((n : Int) - (i : Nat)) 1) where
  mem := by simp
  obj := fun i h st b hb => by
    have e : b = it := by simpa using hb
    subst e
    exact ⟨_, st, fun v z => by
      have z' : Data.fields _ = Data.cell v := z
      cases z'⟩
  keep := fun i h h' st k => k it (by simp) _ st
  item := by
    intro X hP hw hK hc i pins s σ H E I hf st hg
    subst hP hw hK
    obtain ⟨f0, f1, f2, f3, f4, f5⟩ := hf it (by simp)
    have W := Walks.range (prog := X.prog) (w := X.w) (I.ok.hd hc) it lo 1 n
    refine W.item i s _ _ hg st fun v h' tk hv st' kk => ?_
    obtain ⟨t, rfl⟩ := hv
    have I1 : Inv X pins σ H { s with heap := h', toks := tk } := I.turned (fun b o hb e => kk b o (by simpa using hb) e) f0 f1 f3 f4 f5
    refine ⟨_, rfl, go_of (s := { s with heap := h', toks := tk }) (n := "range_iterator") st' rfl rfl (by decide) ⟨.int (lo + i), H, I1, ⟨t, ?_⟩, ⟨rfl, rfl⟩, st', fun b hb => (hf b hb).1⟩⟩
    rw [Int.mul_one]
  done := by
    intro X hP hw hK hc i pins s σ H E I hf st hg
    subst hP hw hK
    obtain ⟨f0, f1, f2, f3, f4, f5⟩ := hf it (by simp)
    exact wpAny_pyNext_range_end (I.ok.hd hc) st (by have : n ≤ i := hg; omega) fun h' eb => ⟨rfl, I.turned (t' := s.toks) (fun b o hb e => eb b o hb e) f0 f1 f3 f4 f5⟩
  self := fun _ _ _ _ _ st h => wpAny_pyIter_rangeiter st h
end L2

namespace L2
open PySem PySem.Spec PyProof.Rows
section
variable {X : Cx} {tg : Expr}
def iList (K : PySem.W.Frag) (tl : TE) : TI := fun σ H R => tl σ H fun x H1 => ∃ a, x = .ref a ∧ (∃ xs, SqL K H1 a xs) ∧ R (Itl K a) H1
theorem pi_list {l : Expr} {tl : TE} (hl : PE X l tl) : PI X tg l (iList X.K tl) := by
  intro pins s σ H R I h
  refine thn (hl s σ H _ I h) fun v s1 ⟨x, H1, I1, r1, q1⟩ => ?_
  obtain ⟨a, e, ⟨xs, hq⟩, q⟩ := q1
  subst e
  cases r1
  obtain ⟨its, rv, p, hz⟩ := I1.list hq
  refine wpAny_pyIter_list p.isList ?_
  refine ⟨s1.heap.objs.size, [s1.heap.objs.size], _, _, H1, rfl, I1.kept (t' := s1.toks) fun b o e => Heap.get?_push_of_some _ e, turn_list a _, ⟨_, Heap.get?_push_size _ rfl, rfl, rfl⟩, fun b hb => ?_, q⟩
  have e : b = s1.heap.objs.size := by simpa using hb
  subst e
  exact I1.fpOk (Nat.le_refl _) (I1.hok.fresh (Nat.le_refl _))
/-- a range object just made, walked -/
theorem range_it {pins : List (Addr × Obj)} {σ : St} {H : Hp} {s : Shared} {R : It → Hp → Prop} {E : Value → Shared → Prop} {lo hi : Int} {t u v : Tok} {tk : Nat} (I : Inv X pins σ H s) (h1 : -(2 ^ 62) ≤ lo) (h2 : lo < 2 ^ 62) (h3 : -(2 ^ 62) ≤ hi) (h4 : hi < 2 ^ 62)
    (q : R (Itr lo (hi - lo).toNat) H) : wpAny (model X.prog X.w) X.A (pyIter (.ref s.heap.objs.size)) (PIE X pins σ tg R) E { s with heap := s.heap.push { cls := .type "range", data := .fields #[.int lo t, .int hi u, .int 1 v] }, toks := tk } := by
  refine wpAny_pyIter_range (IsRange.new ..) (small_one h1 h2 h3 h4) ?_
  have I1 : Inv X pins σ H { s with heap := s.heap.push { cls := .type "range", data := .fields #[.int lo t, .int hi u, .int 1 v] }, toks := tk } := I.kept fun b o e => Heap.get?_push_of_some _ e
  refine ⟨(s.heap.push { cls := .type "range", data := .fields #[.int lo t, .int hi u, .int 1 v] }).objs.size, [(s.heap.push { cls := .type "range", data := .fields #[.int lo t, .int hi u, .int 1 v] }).objs.size], _, _, H, rfl,
    I1.kept (t' := tk) fun b o e => Heap.get?_push_of_some _ e, turn_range _ lo (hi - lo).toNat, ?_, fun b hb => ?_, q⟩
  · have e1 : lo + ((0 : Nat) : Int) * 1 = lo := by simp
    have e2 : (((hi - lo).toNat : Nat) : Int) - ((0 : Nat) : Int) = Builtin.Range.rangeSize lo hi 1 := by rw [rangeSize_one]; split <;> omega
    show IsRangeIter _ _ (lo + ((0 : Nat) : Int) * 1) ((((hi - lo).toNat : Nat) : Int) - ((0 : Nat) : Int)) 1
    rw [e1, e2]
    exact Heap.get?_push_size _ rfl
  · have e : b = (s.heap.push { cls := .type "range", data := .fields #[.int lo t, .int hi u, .int 1 v] }).objs.size := by simpa using hb
    subst e
    exact I1.fpOk (Nat.le_refl _) (I1.hok.fresh (Nat.le_refl _))
def iRng1 (ta : TA) : TI := fun σ H R => ta σ H fun vs H1 => ∃ j : Int, vs = [.int j] ∧ -(2 ^ 62) ≤ j ∧ j < 2 ^ 62 ∧ R (Itr 0 j.toNat) H1
def iRng2 (ta : TA) : TI := fun σ H R => ta σ H fun vs H1 => ∃ i j : Int, vs = [.int i, .int j] ∧ (-(2 ^ 62) ≤ i ∧ i < 2 ^ 62 ∧ -(2 ^ 62) ≤ j ∧ j < 2 ^ 62) ∧ R (Itr i (j - i).toNat) H1
theorem pi_range1 {a : Expr} {ta : TA} {p pos : Pos} (hg : Gl X "range") (hm : X.mg "range" = none) (ha : PA X [a] ta) (hs : starEach [a] X.env = [(false, eval a X.env)] := by rfl) : PI X tg (.Call (.Name "range" p) [a] [] pos) (iRng1 ta) := by
  intro pins s σ H R I h
  refine Call_ (ld_blt I hg hm boot_range (PyProof.Rows.callWith_type1 (thn (ha s σ H _ I h) fun us s1 ⟨vs, H1, I1, r1, q1⟩ => ?_) hs rfl))
  obtain ⟨j, e, q1, q2, q⟩ := q1
  subst e
  cases r1 with
  | cons r rr =>
    cases rr
    obtain ⟨t, rfl⟩ := r
    exact call_range_1 (range_it I1 (by omega) (by omega) q1 q2 (by simpa using q))
theorem pi_range2 {a b : Expr} {ta : TA} {p pos : Pos} (hg : Gl X "range") (hm : X.mg "range" = none) (ha : PA X [a, b] ta) (hs : starEach [a, b] X.env = [(false, eval a X.env), (false, eval b X.env)] := by rfl) (hs2 : starEach [b] X.env = [(false, eval b X.env)] := by rfl) :
    PI X tg (.Call (.Name "range" p) [a, b] [] pos) (iRng2 ta) := by
  intro pins s σ H R I h
  refine Call_ (ld_blt I hg hm boot_range (PyProof.Rows.callWith_type1 (thn (ha s σ H _ I h) fun us s1 ⟨vs, H1, I1, r1, q1⟩ => ?_) (by rw [hs, hs2]) (by rw [hs2]; rfl)))
  obtain ⟨i, j, e, ⟨q1, q2, q3, q4⟩, q⟩ := q1
  subst e
  cases r1 with
  | cons r rr =>
    cases rr with
    | cons r' rr =>
      cases rr
      obtain ⟨t, rfl⟩ := r
      obtain ⟨t', rfl⟩ := r'
      exact call_range_2 (range_it I1 q1 q2 q3 q4 q)

/-! ### for -/
/-- W: the invariant by the turn and a measure; N: what the body is to reach -/
def tFor (wi : TI) (g : TG) (tb : TS) : TS := fun D σ H => wi σ H fun J H1 => ∃ W : Nat → Nat → St → Hp → Prop, (∃ m, W 0 m σ H1) ∧ ∀ i m σ H, W i m σ H →
  (J.stop i H ∧ D.nx σ H) ∨ (J.go i H ∧ ∃ N : St → Hp → Prop, (∀ σ' H', N σ' H' → ∃ m', m' < m ∧ W (i + 1) m' σ' H') ∧ ∀ x H', J.yld i H x H' → g x σ H' fun σ2 H2 => tb { D with nx := N, ct := N, bk := D.nx } σ2 H2)
/-- the records at fp as they stand -/
def pinsAt (fp : List Addr) (h : Heap) : List (Addr × Obj) := fp.filterMap fun b => (h.get? b).map fun o => (b, o)
theorem mem_pinsAt {fp : List Addr} {h : Heap} {b : Addr} {o : Obj} (hb : b ∈ fp) (e : h.get? b = some o) : (b, o) ∈ pinsAt fp h := List.mem_filterMap.mpr ⟨b, hb, by rw [e]; rfl⟩
theorem of_pinsAt {fp : List Addr} {h : Heap} {p : Addr × Obj} (hp : p ∈ pinsAt fp h) : p.1 ∈ fp ∧ h.get? p.1 = some p.2 := by
  obtain ⟨b, hb, e⟩ := List.mem_filterMap.mp hp
  cases q : h.get? b with
  | none => rw [q] at e; cases e
  | some o =>
    rw [q] at e
    have e' : (b, o) = p := Option.some.inj e
    subst e'
    exact ⟨hb, q⟩
theorem Inv.pinned {pins : List (Addr × Obj)} {σ : St} {H : Hp} {s : Shared} {fp : List Addr} (I : Inv X pins σ H s) (hf : ∀ b ∈ fp, FpOk X pins H b) (ho : ∀ b ∈ fp, ∃ o, s.heap.get? b = some o ∧ ∀ v, o.data ≠ .cell v) : Inv X (pins ++ pinsAt fp s.heap) σ H s :=
  I.pins_of fun p hp => (List.mem_append.mp hp).elim (fun z => I.pin p (List.mem_append_right _ z)) fun z => by
    obtain ⟨hb, e⟩ := of_pinsAt z
    obtain ⟨f0, f1, f2, _⟩ := hf p.1 hb
    obtain ⟨o, e', d⟩ := ho p.1 hb
    rw [e] at e'; cases e'
    exact ⟨e, f0, f1, f2, d⟩
theorem Inv.unpinned {pins pl : List (Addr × Obj)} {σ : St} {H : Hp} {s : Shared} (I : Inv X (pins ++ pl) σ H s) : Inv X pins σ H s := I.pins_of fun p hp => I.pin p (List.mem_append_right _ (List.mem_append_left _ hp))
theorem ps_for {iter : Expr} {body : List Stmt} {wi : TI} {g : TG} {tb : TS} {pos : Pos} (hp : PassesOwn (model X.prog X.w) X.A X.env X.xe) (hc : X.calm = true) (hi : PI X tg iter wi) (hg : PG X tg g) (hb : PSs X body tb)
    (hs : ∀ x, foldedSetIterable iter X.env x = pure x := by intro _; rfl) : PS X (.For tg iter body [] pos) (tFor wi g tb) := by
  intro pins s σ H D I h
  refine wpAny_For (thn (hi s σ H _ I h) fun v s1 h1 => thn h1 fun itv s2 h2 => ?_) hs
  obtain ⟨it, fp, tn, J, H2, e, I2, T, st2, f2, W, ⟨m0, w0⟩, turn⟩ := h2
  subst e
  -- what stays true of the iterator's objects through the loop
  have stat : ∀ {H' : Hp}, (∀ b ∈ fp, H' b = none) → ∀ b ∈ fp, FpOk X pins H' b := fun hn b hb => ⟨hn b hb, (f2 b hb).2⟩
  refine codeAny_forLoop_any (fun n s' => ∃ i σ' H', Inv X pins σ' H' s' ∧ tn i s'.heap ∧ (∀ b ∈ fp, H' b = none) ∧ W i n σ' H') ?_ m0 ⟨0, σ, H2, I2, st2, fun b hb => (f2 b hb).1, w0⟩
  rintro n s3 ⟨i, σ3, H3, I3, st3, fr3, w3⟩
  rcases turn i n σ3 H3 w3 with ⟨stop, qn⟩ | ⟨go, N, hN, step⟩
  · refine wpAny_passesOwn hp (thn (T.done X rfl rfl rfl hc i pins s3 σ3 H3 X.xe I3 (stat fr3) st3 stop) fun r s4 ⟨hr, I4⟩ => ?_)
    subst hr
    exact wpAny_execs_nil ⟨σ3, H3, I4, qn⟩
  · refine wpAny_passesOwn hp (thn (T.item X rfl rfl rfl hc i pins s3 σ3 H3 X.xe I3 (stat fr3) st3 go) fun r s4 ⟨u, hr, h4⟩ => ?_)
    subst hr
    refine wpAny_passesOwn hp (thn h4 fun _ s5 ⟨x, H5, I5, r5, y5, st5, fr5⟩ => ?_)
    have I5' := I5.pinned (stat fr5) (T.obj _ _ st5)
    refine wpAny_passesOwn hp (thn (hg s5 σ3 H5 x u _ I5' r5 (step x H5 y5)) fun _ s6 ⟨σ6, H6, I6, q6⟩ => ?_)
    refine wpAny_passesOwn hp (thn (hb s6 σ6 H6 _ I6 q6) fun f s7 q7 => ?_)
    have again : ∀ {σ7 : St} {H7 : Hp}, Inv X (pins ++ pinsAt fp s5.heap) σ7 H7 s7 → N σ7 H7 → ∃ m, m < n ∧ ∃ i σ' H', Inv X pins σ' H' s7 ∧ tn i s7.heap ∧ (∀ b ∈ fp, H' b = none) ∧ W i m σ' H' := fun {σ7 H7} I7 n7 => by
      obtain ⟨m', hm, w7⟩ := hN σ7 H7 n7
      refine ⟨m', hm, i + 1, σ7, H7, I7.unpinned, T.keep _ _ _ st5 fun b hb o e => (I7.pin (b, o) (List.mem_append_right _ (List.mem_append_right _ (mem_pinsAt hb e)))).1, fun b hb => ?_, w7⟩
      obtain ⟨o, e, d⟩ := T.obj _ _ st5 b hb
      exact (I7.pin (b, o) (List.mem_append_right _ (List.mem_append_right _ (mem_pinsAt hb e)))).2.1
    cases f with
    | next => obtain ⟨σ7, H7, I7, n7⟩ := q7; exact again I7 n7
    | cont => obtain ⟨σ7, H7, I7, n7⟩ := q7; exact again I7 n7
    | brk => obtain ⟨σ7, H7, I7, q7⟩ := q7; exact ⟨σ7, H7, I7.unpinned, q7⟩
    | ret v => obtain ⟨x7, σ7, H7, I7, r7, q7⟩ := q7; exact ⟨x7, σ7, H7, I7.unpinned, r7, q7⟩
end

/-! ### the forms one uses -/
/-- over a list that the body leaves as it is -/
theorem for_list {K : PySem.W.Frag} {a : Addr} {xs : List V} {g : TG} {tb : TS} {D : Ends} {σ : St} {H : Hp} (Pv : Nat → St → Hp → Prop) (h0 : Pv 0 σ H) (hl : ∀ i σ H, i ≤ xs.length → Pv i σ H → SqL K H a xs)
    (hs : ∀ i x σ H, xs[i]? = some x → Pv i σ H → g x σ H fun σ2 H2 => tb { D with nx := Pv (i + 1), ct := Pv (i + 1), bk := D.nx } σ2 H2) (hd : ∀ σ H, Pv xs.length σ H → D.nx σ H) :
    ∃ W : Nat → Nat → St → Hp → Prop, (∃ m, W 0 m σ H) ∧ ∀ i m σ H, W i m σ H →
      ((Itl K a).stop i H ∧ D.nx σ H) ∨ ((Itl K a).go i H ∧ ∃ N : St → Hp → Prop, (∀ σ' H', N σ' H' → ∃ m', m' < m ∧ W (i + 1) m' σ' H') ∧ ∀ x H', (Itl K a).yld i H x H' → g x σ H' fun σ2 H2 => tb { D with nx := N, ct := N, bk := D.nx } σ2 H2) := by
  refine ⟨fun i m σ H => m = xs.length - i ∧ i ≤ xs.length ∧ Pv i σ H, ⟨xs.length, by simp, Nat.zero_le _, h0⟩, ?_⟩
  rintro i m σ H ⟨rfl, hi, p⟩
  have q := hl i σ H hi p
  by_cases hlt : i < xs.length
  · refine .inr ⟨⟨xs, xs[i], q, by simp [hlt]⟩, Pv (i + 1), fun σ' H' p' => ⟨xs.length - (i + 1), by omega, rfl, hlt, p'⟩, fun x H' y => ?_⟩
    obtain ⟨e, y⟩ := y
    subst e
    exact hs i x σ _ (y xs q) p
  · have e : i = xs.length := by omega
    subst e
    exact .inl ⟨⟨xs, q, Nat.le_refl _⟩, hd σ H p⟩
theorem for_range {lo : Int} {n : Nat} {g : TG} {tb : TS} {D : Ends} {σ : St} {H : Hp} (Pv : Nat → St → Hp → Prop) (h0 : Pv 0 σ H)
    (hs : ∀ i σ H, i < n → Pv i σ H → g (.int (lo + i)) σ H fun σ2 H2 => tb { D with nx := Pv (i + 1), ct := Pv (i + 1), bk := D.nx } σ2 H2) (hd : ∀ σ H, Pv n σ H → D.nx σ H) :
    ∃ W : Nat → Nat → St → Hp → Prop, (∃ m, W 0 m σ H) ∧ ∀ i m σ H, W i m σ H →
      ((Itr lo n).stop i H ∧ D.nx σ H) ∨ ((Itr lo n).go i H ∧ ∃ N : St → Hp → Prop, (∀ σ' H', N σ' H' → ∃ m', m' < m ∧ W (i + 1) m' σ' H') ∧ ∀ x H', (Itr lo n).yld i H x H' → g x σ H' fun σ2 H2 => tb { D with nx := N, ct := N, bk := D.nx } σ2 H2) := by
  refine ⟨fun i m σ H => m = n - i ∧ i ≤ n ∧ Pv i σ H, ⟨n, by simp, Nat.zero_le _, h0⟩, ?_⟩
  rintro i m σ H ⟨rfl, hi, p⟩
  by_cases hlt : i < n
  · refine .inr ⟨hlt, Pv (i + 1), fun σ' H' p' => ⟨n - (i + 1), by omega, rfl, hlt, p'⟩, fun x H' y => ?_⟩
    obtain ⟨e, y⟩ := y
    subst e y
    exact hs i σ _ hlt p
  · have e : i = n := by omega
    subst e
    exact .inl ⟨Nat.le_refl _, hd σ H p⟩
end L2

namespace L2
open PySem PySem.Spec PyProof.Rows

abbrev R2 := V → V → Hp → VK → Prop
/-- a two-place operation on values: f is binaryOp op, inplaceOp op or compareOp op -/
def OpR (X : Cx) (f : Value → Value → Sem Value) (r : R2) : Prop :=
  ∀ ⦃pins : List (Addr × Obj)⦄ (s : Shared) (σ : St) (H : Hp) (x y : V) (v u : Value) (Q : VK), Inv X pins σ H s → RelV x v → RelV y u → r x y H Q →
    wpAny (model X.prog X.w) X.A (f v u) (EP X pins σ Q) X.xe s
/-- a one-place operation -/
def UnR (X : Cx) (f : Value → Sem Value) (r : V → Hp → VK → Prop) : Prop :=
  ∀ ⦃pins : List (Addr × Obj)⦄ (s : Shared) (σ : St) (H : Hp) (x : V) (v : Value) (Q : VK), Inv X pins σ H s → RelV x v → r x H Q →
    wpAny (model X.prog X.w) X.A (f v) (EP X pins σ Q) X.xe s
/-- a call of a value that is known (a builtin, a type) with values -/
def CallR (X : Cx) (f : Value) (r : List V → Hp → VK → Prop) : Prop :=
  ∀ ⦃pins : List (Addr × Obj)⦄ (s : Shared) (σ : St) (H : Hp) (xs : List V) (us : List Value) (Q : VK), Inv X pins σ H s → Vals xs us → r xs H Q →
    wpAny (model X.prog X.w) X.A (call f us) (EP X pins σ Q) X.xe s
def tOp (r : R2) (ta tb : TE) : TE := fun σ H Q => ta σ H fun x H1 => tb σ H1 fun y H2 => r x y H2 Q
def tUn (r : V → Hp → VK → Prop) (ta : TE) : TE := fun σ H Q => ta σ H fun x H1 => r x H1 Q
/-- ints in, under C, and a value out -/
def rI (C : Int → Int → Prop) (g : Int → Int → V) : R2 := fun x y H Q => ∃ i j, x = .int i ∧ y = .int j ∧ C i j ∧ Q (g i j) H
def rI0 (g : Int → Int → V) : R2 := fun x y H Q => ∃ i j, x = .int i ∧ y = .int j ∧ Q (g i j) H
def rU (g : Int → V) : V → Hp → VK → Prop := fun x H Q => ∃ i, x = .int i ∧ Q (g i) H

section
variable {X : Cx} {a b c : Expr} {ta tb tc : TE} {pos : Pos}

theorem binT (ha : PE X a ta) (hb : PE X b tb) {pins : List (Addr × Obj)} {s : Shared} {σ : St} {H : Hp} {R : V → V → Hp → Prop} (I : Inv X pins σ H s)
    (h : ta σ H fun x H1 => tb σ H1 fun y H2 => R x y H2) {Q : Value → Shared → Prop} {f : Value → Value → Sem Value}
    (hf : ∀ v u s2 x y H2, Inv X pins σ H2 s2 → RelV x v → RelV y u → R x y H2 → wpAny (model X.prog X.w) X.A (f v u) Q X.xe s2) :
    wpAny (model X.prog X.w) X.A (eval a X.env) (fun v s₁ => wpAny (model X.prog X.w) X.A (eval b X.env) (fun u s₂ => wpAny (model X.prog X.w) X.A (f v u) Q X.xe s₂) X.xe s₁) X.xe s := by
  refine thn (ha s σ H _ I h) fun v s1 ⟨x, H1, I1, r1, q1⟩ => ?_
  refine thn (hb s1 σ H1 _ I1 q1) fun u s2 ⟨y, H2, I2, r2, q2⟩ => ?_
  exact hf v u s2 x y H2 I2 r1 r2 q2

theorem pe_op {op : Operator} {r : R2} (ho : OpR X (binaryOp op) r) (ha : PE X a ta) (hb : PE X b tb) : PE X (.BinOp a op b pos) (tOp r ta tb) := by
  intro pins s σ H Q I h
  exact wpAny_BinOp (binT ha hb I h fun v u s2 x y H2 I2 rx ry q => ho s2 σ H2 x y v u Q I2 rx ry q)
theorem pe_un {op : UnaryOp} {r : V → Hp → VK → Prop} (ho : UnR X (unaryOp op) r) (ha : PE X a ta) : PE X (.UnaryOp op a pos) (tUn r ta) := by
  intro pins s σ H Q I h
  exact UnaryOp_ (thn (ha s σ H _ I h) fun v s1 ⟨x, H1, I1, r1, q1⟩ => ho s1 σ H1 x v Q I1 r1 q1)
/-! ### ints -/
theorem opI {f : Value → Value → Sem Value} {C : Int → Int → Prop} {g : Int → Int → Int}
    (rule : ∀ (i j : Int) (t u : Tok) (s : Shared) (Q : Value → Shared → Prop) (E : Value → Shared → Prop), C i j → Q (.int (g i j) s.toks) { s with toks := s.toks + 1 } → wpAny (model X.prog X.w) X.A (f (.int i t) (.int j u)) Q E s) :
    OpR X f (rI C fun i j => .int (g i j)) := by
  intro pins s σ H x y v u Q I rx ry h
  obtain ⟨i, j, rfl, rfl, hc, q⟩ := h
  obtain ⟨t, rfl⟩ := rx
  obtain ⟨t', rfl⟩ := ry
  exact rule i j t t' s _ _ hc ⟨.int (g i j), H, I.tok _, ⟨_, rfl⟩, q⟩
theorem opI0 {f : Value → Value → Sem Value} {g : Int → Int → Int}
    (rule : ∀ (i j : Int) (t u : Tok) (s : Shared) (Q : Value → Shared → Prop) (E : Value → Shared → Prop), Q (.int (g i j) s.toks) { s with toks := s.toks + 1 } → wpAny (model X.prog X.w) X.A (f (.int i t) (.int j u)) Q E s) :
    OpR X f (rI0 fun i j => .int (g i j)) := by
  intro pins s σ H x y v u Q I rx ry h
  obtain ⟨i, j, rfl, rfl, q⟩ := h
  obtain ⟨t, rfl⟩ := rx
  obtain ⟨t', rfl⟩ := ry
  exact rule i j t t' s _ _ ⟨.int (g i j), H, I.tok _, ⟨_, rfl⟩, q⟩
theorem opB0 {f : Value → Value → Sem Value} {g : Int → Int → Bool}
    (rule : ∀ (i j : Int) (t u : Tok) (s : Shared) (Q : Value → Shared → Prop) (E : Value → Shared → Prop), Q (.bool (g i j)) s → wpAny (model X.prog X.w) X.A (f (.int i t) (.int j u)) Q E s) :
    OpR X f (rI0 fun i j => .bl (g i j)) := by
  intro pins s σ H x y v u Q I rx ry h
  obtain ⟨i, j, rfl, rfl, q⟩ := h
  obtain ⟨t, rfl⟩ := rx
  obtain ⟨t', rfl⟩ := ry
  exact rule i j t t' s _ _ ⟨.bl (g i j), H, I, rfl, q⟩

def CDiv (i j : Int) : Prop := 0 < j ∧ j < 1073741824
def CPow (i j : Int) : Prop := 0 ≤ j ∧ j ≤ 1000000 ∧ i.natAbs < 2 ^ 64
def CMul (i j : Int) : Prop := (-(2 ^ 64) < i ∧ i < 2 ^ 64) ∨ (-(2 ^ 64) < j ∧ j < 2 ^ 64)
theorem CMul.ok {i j : Int} (h : CMul i j) : IntMulOk i j := by
  rcases h with ⟨h1, h2⟩ | ⟨h1, h2⟩
  · exact .of_left (intBits_le_64 h1 h2)
  · exact .of_right (intBits_le_64 h1 h2)
theorem op_add : OpR X (binaryOp .Add) (rI0 fun i j => .int (i + j)) := opI0 fun _ _ _ _ _ _ _ q => add_int q
theorem op_sub : OpR X (binaryOp .Sub) (rI0 fun i j => .int (i - j)) := opI0 fun _ _ _ _ _ _ _ q => sub_int q
theorem op_mul : OpR X (binaryOp .Mult) (rI CMul fun i j => .int (i * j)) := opI fun _ _ _ _ _ _ _ hc q => mul_int q hc.ok
/-- // by a positive divisor -/
theorem op_fdiv : OpR X (binaryOp .FloorDiv) (rI CDiv fun i j => .int (i / j)) := opI fun i j _ _ _ _ _ hc q => by
  have h1 : (0 : Int) < j := hc.1
  have h2 : j < 1073741824 := hc.2
  exact floordiv_int (by omega) (by rw [Int.fdiv_eq_ediv_of_nonneg i (by omega)]; exact q) (.inl (PyProof.noPylong_small (by omega)))
/-- % by a positive divisor of any size -/
theorem op_mod : OpR X (binaryOp .Mod) (rI (fun _ j => 0 < j) fun i j => .int (i % j)) := opI fun i j _ _ _ _ _ hc q => by
  have h1 : (0 : Int) < j := hc
  exact mod_int' (by omega) (by rw [Int.fmod_eq_emod_of_nonneg i (by omega)]; exact q)
theorem op_pow : OpR X (binaryOp .Pow) (rI CPow fun i j => .int (i ^ j.toNat)) := opI fun _ _ _ _ _ _ _ hc q => pow_int_small hc.1 hc.2.1 hc.2.2 q
theorem unI {f : Value → Sem Value} {g : Int → Int}
    (rule : ∀ (i : Int) (t : Tok) (s : Shared) (Q : Value → Shared → Prop) (E : Value → Shared → Prop), Q (.int (g i) s.toks) { s with toks := s.toks + 1 } → wpAny (model X.prog X.w) X.A (f (.int i t)) Q E s) :
    UnR X f (rU fun i => .int (g i)) := by
  intro pins s σ H x v Q I rx h
  obtain ⟨i, rfl, q⟩ := h
  obtain ⟨t, rfl⟩ := rx
  exact rule i t s _ _ ⟨.int (g i), H, I.tok _, ⟨_, rfl⟩, q⟩
theorem un_neg : UnR X (unaryOp .USub) (rU fun i => .int (-i)) := unI fun _ _ _ _ _ q => neg_int q
/-! ### bools among ints: n += (a < b) -/
end

/-! ### comparisons -/
/-- the scalars that == tells apart as data does -/
def scal : V → V → Bool
  | .non, .non => true | .non, .int _ => true | .int _, .non => true | .non, .bl _ => true | .bl _, .non => true | .non, .str _ => true | .str _, .non => true
  | .int _, .int _ => true | .bl _, .bl _ => true | .str _, .str _ => true | .byt _, .byt _ => true
  | .int _, .str _ => true | .str _, .int _ => true | .bl _, .str _ => true | .str _, .bl _ => true
  | _, _ => false
def rEq : R2 := fun x y H Q => scal x y = true ∧ Q (.bl (decide (x = y))) H
def rNe : R2 := fun x y H Q => scal x y = true ∧ Q (.bl (!decide (x = y))) H

theorem dec_int {i j : Int} : decide (V.int i = V.int j) = (i == j) := by
  rw [Bool.eq_iff_iff]
  simp
theorem dec_bl {i j : Bool} : decide (V.bl i = V.bl j) = (i == j) := by
  rw [Bool.eq_iff_iff]
  simp
theorem dec_str {i j : Str} : decide (V.str i = V.str j) = (i == j) := by
  rw [Bool.eq_iff_iff]
  simp
theorem dec_byt {i j : Array UInt8} : decide (V.byt i = V.byt j) = (i.toList == j.toList) := by
  rw [Bool.eq_iff_iff]
  cases i
  cases j
  simp

section
variable {X : Cx} {a b c : Expr} {ta tb tc : TE} {pos : Pos}
theorem fin_bl {pins : List (Addr × Obj)} {σ : St} {H : Hp} {s : Shared} {Q : VK} {k k' : Bool} (I : Inv X pins σ H s) (q : Q (.bl k) H) (e : k = k') : EP X pins σ Q (.bool k') s := by
  subst e
  exact ⟨.bl k, H, I, rfl, q⟩
theorem op_eq : OpR X (compareOp .Eq) rEq := by
  intro pins s σ H x y v u Q I rx ry h
  obtain ⟨hs, q⟩ := h
  cases x with
  | non =>
    cases rx
    cases y with
    | non => cases ry; exact PySem.EqNone.eq_none_none (fin_bl I q (by simp))
    | bl j => cases ry; exact PySem.EqNone.eq_none_bool (fin_bl I q (by simp))
    | int j => obtain ⟨t', rfl⟩ := ry; exact PySem.EqNone.eq_none_int (fin_bl I q (by simp))
    | str j => obtain ⟨t', rfl⟩ := ry; exact PySem.EqNone.eq_none_str (fin_bl I q (by simp))
    | _ => exact absurd (show false = true from hs) Bool.false_ne_true
  | bl i =>
    cases rx
    cases y with
    | non => cases ry; exact PySem.EqNone.eq_bool_none (fin_bl I q (by simp))
    | bl j => cases ry; exact eq_bool (fin_bl I q dec_bl)
    | str j => obtain ⟨t', rfl⟩ := ry; exact PySem.EqMixed.eq_bool_str (fin_bl I q (by simp))
    | _ => exact absurd (show false = true from hs) Bool.false_ne_true
  | int i =>
    obtain ⟨t, rfl⟩ := rx
    cases y with
    | non => cases ry; exact PySem.EqNone.eq_int_none (fin_bl I q (by simp))
    | int j => obtain ⟨t', rfl⟩ := ry; exact eq_int (fin_bl I q dec_int)
    | str j => obtain ⟨t', rfl⟩ := ry; exact PySem.EqMixed.eq_int_str (fin_bl I q (by simp))
    | _ => exact absurd (show false = true from hs) Bool.false_ne_true
  | str i =>
    obtain ⟨t, rfl⟩ := rx
    cases y with
    | non => cases ry; exact PySem.EqNone.eq_str_none (fin_bl I q (by simp))
    | bl j => cases ry; exact PySem.EqMixed.eq_str_bool (fin_bl I q (by simp))
    | int j => obtain ⟨t', rfl⟩ := ry; exact PySem.EqMixed.eq_str_int (fin_bl I q (by simp))
    | str j => obtain ⟨t', rfl⟩ := ry; exact eq_str (fin_bl I q dec_str)
    | _ => exact absurd (show false = true from hs) Bool.false_ne_true
  | byt i =>
    obtain ⟨t, rfl⟩ := rx
    cases y with
    | byt j => obtain ⟨t', rfl⟩ := ry; exact PySem.W.eq_bytes (fin_bl I q dec_byt)
    | _ => exact absurd (show false = true from hs) Bool.false_ne_true
  | _ => cases y <;> exact absurd (show false = true from hs) Bool.false_ne_true
theorem op_ne : OpR X (compareOp .NotEq) rNe := by
  intro pins s σ H x y v u Q I rx ry h
  obtain ⟨hs, q⟩ := h
  cases x with
  | non =>
    cases rx
    cases y with
    | non => cases ry; exact PySem.EqNone.ne_none_none (fin_bl I q (by simp))
    | bl j => cases ry; exact PySem.EqNone.ne_none_bool (fin_bl I q (by simp))
    | int j => obtain ⟨t', rfl⟩ := ry; exact PySem.EqNone.ne_none_int (fin_bl I q (by simp))
    | str j => obtain ⟨t', rfl⟩ := ry; exact PySem.EqNone.ne_none_str (fin_bl I q (by simp))
    | _ => exact absurd (show false = true from hs) Bool.false_ne_true
  | bl i =>
    cases rx
    cases y with
    | non => cases ry; exact PySem.EqNone.ne_bool_none (fin_bl I q (by simp))
    | bl j => cases ry; exact ne_bool (fin_bl I q (congrArg not dec_bl))
    | str j => obtain ⟨t', rfl⟩ := ry; exact PySem.EqMixed.ne_bool_str (fin_bl I q (by simp))
    | _ => exact absurd (show false = true from hs) Bool.false_ne_true
  | int i =>
    obtain ⟨t, rfl⟩ := rx
    cases y with
    | non => cases ry; exact PySem.EqNone.ne_int_none (fin_bl I q (by simp))
    | int j => obtain ⟨t', rfl⟩ := ry; exact ne_int (fin_bl I q (congrArg not dec_int))
    | str j => obtain ⟨t', rfl⟩ := ry; exact PySem.EqMixed.ne_int_str (fin_bl I q (by simp))
    | _ => exact absurd (show false = true from hs) Bool.false_ne_true
  | str i =>
    obtain ⟨t, rfl⟩ := rx
    cases y with
    | non => cases ry; exact PySem.EqNone.ne_str_none (fin_bl I q (by simp))
    | bl j => cases ry; exact PySem.EqMixed.ne_str_bool (fin_bl I q (by simp))
    | int j => obtain ⟨t', rfl⟩ := ry; exact PySem.EqMixed.ne_str_int (fin_bl I q (by simp))
    | str j => obtain ⟨t', rfl⟩ := ry; exact ne_str (fin_bl I q (congrArg not dec_str))
    | _ => exact absurd (show false = true from hs) Bool.false_ne_true
  | byt i =>
    obtain ⟨t, rfl⟩ := rx
    cases y with
    | byt j => obtain ⟨t', rfl⟩ := ry; exact PySem.W.ne_bytes (fin_bl I q (congrArg not dec_byt))
    | _ => exact absurd (show false = true from hs) Bool.false_ne_true
  | _ => cases y <;> exact absurd (show false = true from hs) Bool.false_ne_true

theorem op_lt : OpR X (compareOp .Lt) (rI0 fun i j => .bl (decide (i < j))) := opB0 fun _ _ _ _ _ _ _ q => lt_int q
theorem op_le : OpR X (compareOp .LtE) (rI0 fun i j => .bl (decide (i ≤ j))) := opB0 fun _ _ _ _ _ _ _ q => le_int q
theorem op_ge : OpR X (compareOp .GtE) (rI0 fun i j => .bl (decide (j ≤ i))) := opB0 fun _ _ _ _ _ _ _ q => ge_int q
/-- is None, is not None: the right side a value none -/
theorem op_isN : OpR X (compareOp .Is) (fun x y H Q => y = .non ∧ Q (.bl (decide (x = .non))) H) := by
  intro pins s σ H x y v u Q I rx ry h
  obtain ⟨rfl, q⟩ := h
  cases ry
  refine is_none_gen (fin_bl I q ?_)
  cases x <;> first
    | (cases rx; rfl)
    | (obtain ⟨t, rfl⟩ := rx; rfl)
theorem op_notN : OpR X (compareOp .IsNot) (fun x y H Q => y = .non ∧ Q (.bl (!decide (x = .non))) H) := by
  intro pins s σ H x y v u Q I rx ry h
  obtain ⟨rfl, q⟩ := h
  cases ry
  refine isnot_none_gen (fin_bl I q ?_)
  cases x <;> first
    | (cases rx; rfl)
    | (obtain ⟨t, rfl⟩ := rx; rfl)

/-- two rules for one operation: by cases -/
theorem OpR.or {f : Value → Value → Sem Value} {r r' : R2} (h : OpR X f r) (h' : OpR X f r') : OpR X f (fun x y H Q => r x y H Q ∨ r' x y H Q) := by
  intro pins s σ H x y v u Q I rx ry q
  rcases q with q | q
  · exact h s σ H x y v u Q I rx ry q
  · exact h' s σ H x y v u Q I rx ry q

theorem nomark (b : Expr) {op : CmpOp} (h : op ≠ .In := by decide) (h2 : op ≠ .NotIn := by decide) : behindInMarks op b = false := by
  have e1 : (op == CmpOp.In) = false := by cases op <;> first | rfl | exact absurd rfl h
  have e2 : (op == CmpOp.NotIn) = false := by cases op <;> first | rfl | exact absurd rfl h2
  cases b <;> simp [behindInMarks, e1, e2]
/-- a comparison as a value; hm: nomark b, or (for in, not in) by with_unfolding_all rfl -/
theorem pe_cmpR {op : CmpOp} {r : R2} (ho : OpR X (compareOp op) r) (ha : PE X a ta) (hb : PE X b tb) (hm : behindInMarks op b = false) : PE X (.Compare a [op] [b] pos) (tOp r ta tb) := by
  intro pins s σ H Q I h
  exact wpAny_Compare1 (binT ha hb I h fun v u s2 x y H2 I2 rx ry q => ho s2 σ H2 x y v u Q I2 rx ry q) hm
/-- a reading of a value as a test -/
def tTest (t : TE) : TT := fun σ H Q => t σ H fun x H' => ∃ k, x = .bl k ∧ Q k H'
theorem pt_cmpR {op : CmpOp} {r : R2} (ho : OpR X (compareOp op) r) (ha : PE X a ta) (hb : PE X b tb) (hm : behindInMarks op b = false) : PT X (.Compare a [op] [b] pos) (tTest (tOp r ta tb)) := by
  intro pins s σ H Q I h
  refine wpAny_isTrue_Compare1 (thn (ha s σ H _ I h) fun v s1 ⟨x, H1, I1, r1, q1⟩ => thn (hb s1 σ H1 _ I1 q1) fun u s2 ⟨y, H2, I2, r2, q2⟩ =>
    thn (ho s2 σ H2 x y v u _ I2 r1 r2 q2) fun c s3 ⟨z, H3, I3, r3, k, e, q3⟩ => ?_) hm
  subst e
  cases r3
  exact wpAny_truthy_bool ⟨H3, I3, q3⟩
/-- a op1 b op2 c -/
def tChain (r r' : R2) (ta tb tc : TE) : TE := fun σ H Q => ta σ H fun x H1 => tb σ H1 fun y H2 => r x y H2 fun z H3 => ∃ k, z = .bl k ∧
  (if k = true then tc σ H3 fun w' H4 => r' y w' H4 Q else Q (.bl false) H3)
theorem pe_chain {op op' : CmpOp} {r r' : R2} (ho : OpR X (compareOp op) r) (ho' : OpR X (compareOp op') r') (ha : PE X a ta) (hb : PE X b tb) (hc : PE X c tc)
    (hm : lastMarks [op, op'] [b, c] = false := by with_unfolding_all rfl) : PE X (.Compare a [op, op'] [b, c] pos) (tChain r r' ta tb tc) := by
  intro pins s σ H Q I h
  refine Compare_chain (thn (ha s σ H _ I h) fun v s1 ⟨x, H1, I1, r1, q1⟩ => chain_link (thn (hb s1 σ H1 _ I1 q1) fun u s2 ⟨y, H2, I2, r2, q2⟩ =>
    thn (ho s2 σ H2 x y v u _ I2 r1 r2 q2) fun d s3 ⟨z, H3, I3, r3, k, e, q3⟩ => ?_)) hm
  subst e
  cases r3
  refine wpAny_truthy_bool ?_
  cases k with
  | false => exact ite_ff ⟨.bl false, H3, I3, rfl, q3⟩
  | true => exact ite_tt (chain_last (thn (hc s3 σ H3 _ I3 q3) fun w' s4 ⟨z', H4, I4, r4, q4⟩ => ho' s4 σ H4 y z' u w' Q I4 r2 r4 q4))
/-! ### truth -/
theorem line63 : (sizeLine : Nat) < 2 ^ 63 := by rw [sizeLine_eq]; decide
/-! ### strs and bytes -/
theorem op_add_str : OpR X (binaryOp .Add) (fun x y H Q => ∃ i j, x = .str i ∧ y = .str j ∧ i.length + j.length ≤ sizeLine ∧ Q (.str (i ++ j)) H) := by
  intro pins s σ H x y v u Q I rx ry h
  obtain ⟨i, j, rfl, rfl, hz, q⟩ := h
  obtain ⟨t, rfl⟩ := rx
  obtain ⟨t', rfl⟩ := ry
  exact add_str (fun t' tk => ⟨.str (i ++ j), H, I.tok _, ⟨_, rfl⟩, q⟩) hz
/-! ### scalar builtins, by CallR -/
theorem vals1 {x : V} {us : List Value} (r : Vals [x] us) : ∃ u, us = [u] ∧ RelV x u := by
  cases r with
  | cons r1 r2 => cases r2; exact ⟨_, rfl, r1⟩
theorem vals2 {x y : V} {us : List Value} (r : Vals [x, y] us) : ∃ u w', us = [u, w'] ∧ RelV x u ∧ RelV y w' := by
  cases r with
  | cons r1 r2 =>
    cases r2 with
    | cons r3 r4 => cases r4; exact ⟨_, _, rfl, r1, r3⟩
theorem call_int1 : CallR X (.type "int") (fun xs H Q => (∃ i, xs = [.int i] ∧ Q (.int i) H) ∨ ∃ k, xs = [.bl k] ∧ Q (.int (if k then 1 else 0)) H) := by
  intro pins s σ H xs us Q I r h
  rcases h with ⟨i, rfl, q⟩ | ⟨k, rfl, q⟩
  · obtain ⟨u, rfl, t, rfl⟩ := vals1 r
    exact call_int_int ⟨.int i, H, I, ⟨_, rfl⟩, q⟩
  · obtain ⟨u, rfl, r1⟩ := vals1 r
    cases r1
    exact call_int_bool ⟨.int (if k then 1 else 0), H, I.tok _, ⟨_, rfl⟩, q⟩
/-- len of a str, a bytes, a list, a tuple -/
def LenV (K : PySem.W.Frag) (x : V) (H : Hp) (n : Nat) : Prop :=
  match x with
  | .str y => y.length ≤ sizeLine ∧ n = y.length
  | .byt y => y.size ≤ sizeLine ∧ n = y.size
  | .ref p => (∃ xs, SqL K H p xs ∧ n = xs.length) ∨ ∃ xs, SqT K H p xs ∧ n = xs.length
  | _ => False
theorem call_len : CallR X (.builtin "len") (fun xs H Q => ∃ x n, xs = [x] ∧ LenV X.K x H n ∧ Q (.int n) H) := by
  intro pins s σ H xs us Q I r h
  obtain ⟨x, n, rfl, e, q⟩ := h
  obtain ⟨u, rfl, rx⟩ := vals1 r
  have hl := line63
  have hs : sizeLine = 16777216 := sizeLine_eq
  cases x with
  | str y =>
    obtain ⟨t, rfl⟩ := rx
    obtain ⟨hy, e'⟩ : y.length ≤ sizeLine ∧ n = y.length := e
    subst e'
    exact len_str (by omega) ⟨.int _, H, I.tok _, ⟨_, rfl⟩, q⟩
  | byt y =>
    obtain ⟨t, rfl⟩ := rx
    obtain ⟨hy, e'⟩ : y.size ≤ sizeLine ∧ n = y.size := e
    subst e'
    exact PySem.W.len_bytes (by omega) ⟨.int _, H, I.tok _, ⟨_, rfl⟩, q⟩
  | ref p =>
    cases rx
    have e' : (∃ xs, SqL X.K H p xs ∧ n = xs.length) ∨ ∃ xs, SqT X.K H p xs ∧ n = xs.length := e
    rcases e' with ⟨xs, hx, e'⟩ | ⟨xs, hx, e'⟩
    · subst e'
      obtain ⟨its, r', pl, hz⟩ := I.list hx
      have hlen := r'.length
      exact Calls.call_len_list pl.isList (by simp only [List.size_toArray]; omega) ⟨.int xs.length, H, I.tok _, ⟨_, by simp only [List.size_toArray]; rw [hlen]⟩, q⟩
    · subst e'
      obtain ⟨its, r', pl, hz⟩ := I.tuple hx
      have hlen := r'.length
      exact len_tuple pl (by simp only [List.size_toArray]; omega) ⟨.int xs.length, H, I.tok _, ⟨_, by simp only [List.size_toArray]; rw [hlen]⟩, q⟩
  | _ => exact (show False from e).elim
/-- divmod: a new tuple -/
theorem call_divmod : CallR X (.builtin "divmod") (fun xs H Q => ∃ i j, xs = [.int i, .int j] ∧ CDiv i j ∧ ∀ p, H p = none → Q (.ref p) (upd H p (.tup [.int (i / j), .int (i % j)]))) := by
  intro pins s σ H xs us Q I r h
  obtain ⟨i, j, rfl, ⟨h1, h2⟩, q⟩ := h
  obtain ⟨u, w', rfl, ⟨t, rfl⟩, ⟨t', rfl⟩⟩ := vals2 r
  refine divmod_int (by omega) ?_ (.inl (PyProof.noPylong_small (by omega)))
  rw [Int.fdiv_eq_ediv_of_nonneg i (by omega), Int.fmod_eq_emod_of_nonneg i (by omega)]
  have hn : H s.heap.objs.size = none := I.hok.fresh (Nat.le_refl _)
  refine ⟨.ref s.heap.objs.size, _, ?_, rfl, q _ hn⟩
  refine I.laid (fun b o e => Heap.get?_push_of_some _ e) (Nat.le_refl _) ⟨by simp only [List.length_cons, List.length_nil]; rw [sizeLine_eq]; decide, [.int (i / j) s.toks, .int (i % j) (s.toks + 1)], .cons ⟨_, rfl⟩ (.cons ⟨_, rfl⟩ .nil), ?_⟩
  exact ⟨_, Heap.get?_push_size s.heap rfl, rfl, 0, rfl⟩
end
end L2

namespace L2
open PySem PySem.Spec PyProof.Rows

/-! ### an instance, its attributes a map -/
structure ObjM (h : Heap) (x dx C : Addr) (mA : Str → Option Value) : Prop where
  obj : h.get? x = some (PySem.W.instObj C dx)
  ns : h.Ns1 dx mA
  ne : dx ≠ x

theorem lookIn_ns {h : Heap} {dx : Addr} {mA : Str → Option Value} (n : h.Ns1 dx mA) : ∃ od, h.get? dx = some od ∧ ∀ name, PySem.W.lookIn name od = some (mA name) := by
  obtain ⟨o, es, ep, ho, hd, hk, _, hm⟩ := n
  refine ⟨o, ho, fun name => ?_⟩
  have e := hm name
  unfold nsFind findBy at e
  rw [← Array.find?_toList] at e
  unfold PySem.W.lookIn
  rw [hd]
  dsimp only
  split
  · rename_i y q
    rw [q] at e
    exact congrArg some e
  · rename_i q
    rw [q] at e
    have a : es.toList.any (·.refKey) = false := by
      rw [List.any_eq_false]
      intro y hy
      obtain ⟨z, t, hkey⟩ := hk y (Array.mem_toList_iff.mp hy)
      simp [DictEntry.refKey, hkey]
    have a' : ¬ es.toList.any (·.refKey) = true := by rw [a]; exact Bool.false_ne_true
    rw [if_neg a']
    exact congrArg some e

theorem ObjM.look {h : Heap} {x dx C : Addr} {mA : Str → Option Value} (I : ObjM h x dx C mA) : ∃ od, PySem.W.InstAt h x (PySem.W.instObj C dx) C (some od) ∧ ∀ name, PySem.W.lookIn name od = some (mA name) :=
  let ⟨od, ho, hl⟩ := lookIn_ns I.ns
  ⟨od, ⟨I.obj, rfl, rfl, ho⟩, hl⟩

section
variable {prog : Program} {w : World} {A : Around} {E : Value → Shared → Prop} {s : Shared} {K : PySem.W.Frag} {x dx C f : Addr} {mA : Str → Option Value} {name : Str} {v : Value}

end

/-! ### the attributes as a list of pairs -/
theorem RelO.some_of {v : V} {o : Option Value} (r : RelO (some v) o) : ∃ u, o = some u ∧ RelV v u := by
  cases o with
  | none => exact (show False from r).elim
  | some u => exact ⟨u, rfl, r⟩
section
variable {P : Program} {w : World} {H H' : Hp} {h h' : Heap} {a C dx : Addr} {fs fs' : List (Str × V)}
theorem ins_get (hok : HOk P w H h) (e : H a = some (.ins C dx fs)) : ∃ mA, ObjM h a dx C mA ∧ (∀ f, RelO (fs.lookup f) (mA f)) ∧ PySem.Within mA (fs.map (·.1)) ∧ fs.length ≤ 1000 ∧ H dx = some (.own a) := by
  obtain ⟨d, z, ne, ob, mA, n, r, q⟩ := (show ObjOk P w H h a (.ins C dx fs) from hok a _ e)
  exact ⟨mA, ⟨ob, n, ne⟩, r, q, z, d⟩
end

/-! ### what of the text a class must have -/
structure Cls (K : PySem.W.Frag) (C : Addr) : Prop where
  pg : PySem.W.plainGet K C Str.empty = true
  hd : PySem.W.hasDictIn K C = true
  po : PySem.W.plainOver K C = true
  sa : PySem.W.findIn K (.ref C) "__setattr__" = some (some (.builtin "object.__setattr__"))
theorem Cls.get {K : PySem.W.Frag} {C : Addr} (c : Cls K C) (f : Str) : PySem.W.plainGet K C f = true := c.pg
section
variable {X : Cx} {pins : List (Addr × Obj)} {σ : St} {H : Hp} {s : Shared} {a C dx : Addr} {fs : List (Str × V)} {f : Str} {v : V} {A : Around} {E : Value → Shared → Prop}

end

/-! ### readings and rules -/
section
variable {X : Cx} {o e value : Expr} {f : Str} {pos pos' tpos : Pos} {ta tv : TE}
end

/-! ### isinstance -/
section
variable {X : Cx} {pins : List (Addr × Obj)} {σ : St} {H : Hp} {s : Shared} {A : Around} {E : Value → Shared → Prop} {Q : Value → Shared → Prop} {c : Value} {b : Bool}
/-- the type of a value, as the fragment's deciders take it; for an instance its class -/
inductive TyOf (K : PySem.W.Frag) (H : Hp) : V → Value → Prop where
  | non : TyOf K H .non (.type "NoneType")
  | bl (x : Bool) : TyOf K H (.bl x) (.type "bool")
  | int (i : Int) : TyOf K H (.int i) (.type "int")
  | str (x : Str) : TyOf K H (.str x) (.type "str")
  | flt (x : UInt64) : TyOf K H (.flt x) (.type "float")
  | lst {a : Addr} {xs : List V} (e : H a = some (.lst xs)) : TyOf K H (.ref a) (.type "list")
  | frz {a : Addr} {o : Obj} {xs : List V} (e : H a = some (.frz o (.lst xs))) : TyOf K H (.ref a) (.type "list")
  | tup {a : Addr} {xs : List V} (e : H a = some (.tup xs)) : TyOf K H (.ref a) (.type "tuple")
  | dK {a : Addr} {kvs : List (Key × V)} (e : H a = some (.dK kvs)) : TyOf K H (.ref a) (.type "dict")
  | dT {a : Addr} {kvs : List (List Key × V)} (e : H a = some (.dT kvs)) : TyOf K H (.ref a) (.type "dict")
  | ins {a C dx : Addr} {fs : List (Str × V)} (e : H a = some (.ins C dx fs)) (cl : Cls K C) (ha : PySem.W.findIn K (.ref C) "__class__" = some (some (.builtin "object.__class__")))
      (hn : PySem.W.specialIn K (.builtin "object.__class__") "__get__" = some (some (.builtin "getset_descriptor.__get__"))) (htk : PySem.W.takesIn K (.builtin "object.__class__") = some true)
      (hm : PySem.W.mroIn K C (.type "object") = some true) : TyOf K H (.ref a) (.ref C)
/-- isinstance(x, c) for one class c, a built-in or an own one: kitOne's answer -/
theorem isinst_ok {x : V} {u t : Value} (I : Inv X pins σ H s) (rx : RelV x u) (ty : TyOf X.K H x t) (e : PySem.W.kitOne X.K t c = some b) (h : ∀ tk, Q (.bool b) { s with toks := tk }) :
    wpAny (model X.prog X.w) A (call (.builtin "isinstance") [u, c]) Q E s := by
  cases ty with
  | non => cases (show u = Value.none from rx); exact PySem.W.kia_one PySem.W.kitx_none I.kIn True.intro e (fun z => nomatch z) h
  | bl y => cases (show u = Value.bool y from rx); exact PySem.W.kia_one PySem.W.kitx_bool I.kIn True.intro e (fun z => nomatch z) h
  | int i => obtain ⟨t, q⟩ := (show ∃ t, u = Value.int i t from rx); cases q; exact PySem.W.kia_one PySem.W.kitx_int I.kIn True.intro e (fun z => nomatch z) h
  | str y => obtain ⟨t, q⟩ := (show ∃ t, u = Value.str y t from rx); cases q; exact PySem.W.kia_one PySem.W.kitx_str I.kIn True.intro e (fun z => nomatch z) h
  | flt y => obtain ⟨t, q⟩ := (show ∃ t, u = Value.float y t from rx); cases q; exact PySem.W.kia_one PySem.W.kitx_float I.kIn True.intro e (fun z => nomatch z) h
  | @lst a xs ea =>
    cases (show u = Value.ref a from rx)
    obtain ⟨_, _, n, _, h1⟩ := (show ObjOk X.prog X.w H s.heap a (.lst xs) from I.hok a _ ea)
    exact PySem.W.kia_one PySem.W.kitx_list I.kIn ⟨_, h1, rfl⟩ e (fun z => nomatch z) h
  | @frz a ob xs ea =>
    cases (show u = Value.ref a from rx)
    obtain ⟨_, _, _, n, _, h1⟩ := (show ObjOk X.prog X.w H s.heap a (.frz ob (.lst xs)) from I.hok a _ ea)
    exact PySem.W.kia_one PySem.W.kitx_list I.kIn ⟨_, h1, rfl⟩ e (fun z => nomatch z) h
  | @tup a xs ea =>
    cases (show u = Value.ref a from rx)
    obtain ⟨_, _, _, p⟩ := (show ObjOk X.prog X.w H s.heap a (.tup xs) from I.hok a _ ea)
    obtain ⟨o, h1, h2, _⟩ := p
    exact PySem.W.kia_one PySem.W.kitx_tuple I.kIn ⟨o, h1, h2⟩ e (fun z => nomatch z) h
  | @dK a kvs ea =>
    cases (show u = Value.ref a from rx)
    obtain ⟨_, _, vs, _, p⟩ := (show ObjOk X.prog X.w H s.heap a (.dK kvs) from I.hok a _ ea)
    obtain ⟨o, es, ep, h1, h2, _⟩ := p
    exact PySem.W.kia_one PySem.W.kitx_dict I.kIn ⟨o, h1, h2.1⟩ e (fun z => nomatch z) h
  | @dT a kvs ea =>
    cases (show u = Value.ref a from rx)
    obtain ⟨_, _, xs, _, o, es, ep, h1, h2, _⟩ := (show ObjOk X.prog X.w H s.heap a (.dT kvs) from I.hok a _ ea)
    exact PySem.W.kia_one PySem.W.kitx_dict I.kIn ⟨o, h1, h2.1⟩ e (fun z => nomatch z) h
  | @ins a C dx fs ea cl ha hn htk hm =>
    cases (show u = Value.ref a from rx)
    obtain ⟨mA, O, _⟩ := ins_get I.hok ea
    obtain ⟨od, J, _⟩ := O.look
    exact PySem.W.kia_one (PySem.W.kitx_own (cl.get _) cl.hd ha hn htk hm) I.kIn J e (fun z => nomatch z) h
end
end L2

namespace L2
open PySem PySem.Spec PyProof.Rows

/-! ### room -/
structure Room (k : Nat) (A : Around) : Prop where
  hd : A.handled = none
  dp : A.depth + 3 * k + 5 < recursionLimit
  un : A.units + 16 * k + 200 < cLine
  gd : A.guards = some []
theorem Room.mono {j k : Nat} {A : Around} (r : Room k A) (h : j ≤ k) : Room j A := ⟨r.hd, by have := r.dp; omega, by have := r.un; omega, r.gd⟩
theorem Room.deeper {k : Nat} {A : Around} (r : Room (k + 1) A) (env : Env) : Room k (A.deeper env) :=
  ⟨r.hd, by have := r.dp; show A.depth + 1 + 3 * k + 5 < _; omega, by have := r.un; show A.units + 3 + 16 * k + 200 < _; omega, r.gd⟩
theorem Room.depth {k : Nat} {A : Around} (r : Room k A) : A.depth < recursionLimit := by have := r.dp; omega
theorem Room.units {k : Nat} {A : Around} (r : Room k A) : A.units + 64 < cLine := by have := r.un; omega
/-! ### argument lists and displays -/
def tNil : TA := fun _ H Q => Q [] H
def tCons (ta : TE) (tr : TA) : TA := fun σ H Q => ta σ H fun x H1 => tr σ H1 fun xs H2 => Q (x :: xs) H2
section
variable {X : Cx} {e : Expr} {es : List Expr} {te : TE} {t : TA} {pos : Pos}
theorem pa_nil : PA X [] tNil := fun _ _ _ _ H Q I h => Calls.spliced_nil ⟨[], H, I, .nil, h⟩
theorem pa_cons (ha : PE X e te) (hr : PA X es t) (hs : starEach (e :: es) X.env = (false, eval e X.env) :: starEach es X.env := by rfl) : PA X (e :: es) (tCons te t) := by
  intro pos pins s σ H Q I h
  rw [hs]
  show wpAny _ _ (spliced ((false, eval e X.env) :: backTo pos (starEach es X.env))) _ _ s
  refine Calls.spliced_cons (thn (ha s σ H _ I h) fun u s1 ⟨x, H1, I1, r1, q1⟩ => ?_)
  exact thn (hr s1 σ H1 _ I1 q1) fun us s2 ⟨xs, H2, I2, r2, q2⟩ => ⟨x :: xs, H2, I2, .cons r1 r2, q2⟩

/-- a tuple, a list of written items -/
def tTup (t : TA) : TE := fun σ H Q => t σ H fun xs H1 => xs.length ≤ sizeLine ∧ ∀ p, H1 p = none → Q (.ref p) (upd H1 p (.tup xs))
def tLst (t : TA) : TE := fun σ H Q => t σ H fun xs H1 => xs.length ≤ sizeLine ∧ ∀ p, H1 p = none → Q (.ref p) (upd H1 p (.lst xs))
theorem pe_tup {x1} (h : PA X es t) : PE X (.Tuple es x1 pos) (tTup t) := by
  intro pins s σ H Q I hq
  refine wpAny_Tuple_spliced (thn (h s σ H _ I hq) fun us s1 ⟨xs, H1, I1, r, z, q⟩ => ⟨by rw [← r.length]; exact z, ?_⟩)
  have hf : H1 s1.heap.objs.size = none := I1.hok.fresh (Nat.le_refl _)
  refine ⟨.ref s1.heap.objs.size, upd H1 s1.heap.objs.size (.tup xs), I1.laid (t' := s1.toks) (fun b u e => Heap.get?_push_of_some _ e) (Nat.le_refl _) ?_, rfl, q _ hf⟩
  exact ⟨z, us, r, ⟨_, Heap.get?_push_size _ rfl, rfl, _, rfl⟩⟩
theorem pe_lst (h : PA X es t) : PE X (.List es pos) (tLst t) := by
  intro pins s σ H Q I hq
  refine wpAny_List_spliced (thn (h s σ H _ I hq) fun us s1 ⟨xs, H1, I1, r, z, q⟩ => ⟨by rw [← r.length]; exact z, ?_⟩)
  have hf : H1 s1.heap.objs.size = none := I1.hok.fresh (Nat.le_refl _)
  refine ⟨.ref s1.heap.objs.size, upd H1 s1.heap.objs.size (.lst xs), I1.laid (t' := s1.toks) (fun b u e => Heap.get?_push_of_some _ e) (Nat.le_refl _) ?_, rfl, q _ hf⟩
  exact ⟨z, us, 0, r, Heap.get?_push_size _ rfl⟩
end

/-! ### what a def promises -/
/-- a def's promise: the bound arguments in the parameters' order, the heap, the wanted end, the wanted exception -/
abbrev Sp := List V → Hp → VK → XK → Prop
/-- how an exception lies behind a call (file 08 gives it): the callers' frames, abstract heap and state ahead of the call, the wish, the exception, the state -/
abbrev CXT := List Env → Hp → Shared → XK → Value → Shared → Prop

/-- the state at a call -/
structure Env0 (P : Program) (w : World) (K : PySem.W.Frag) (mg : Str → Option Value) (base : Heap) (A : Around) (outer : List Env) (s : Shared) (H : Hp) : Prop where
  frames : A.frames = some outer
  mod : Mod K mg base
  bs : ∀ b o, base.get? b = some o → s.heap.get? b = some o ∧ H b = none
  bsz : base.objs.size ≤ s.heap.objs.size
  funs : s.heap.FunFrames base outer
  frf : ∀ b ∈ frs outer, H b = none
  hok : HOk P w H s.heap
  bare : AllBare s.gens
/-- a call's end -/
def CE (outer : List Env) (P : Program) (w : World) (H : Hp) (s : Shared) (Q : VK) (u : Value) (s' : Shared) : Prop :=
  ∃ v H', s'.os = s.os ∧ AllBare s'.gens ∧ Un (frs outer) [] H H' s.heap s'.heap ∧ HOk P w H' s'.heap ∧ RelV v u ∧ Q v H'
def CR (CX : CXT) (outer : List Env) (P : Program) (w : World) (H : Hp) (s : Shared) (Q : VK) (E : XK) (r : Result) (s' : Shared) : Prop :=
  match r with
  | .ok (.ret u) => CE outer P w H s Q u s'
  | .ok _ => False
  | .error e => CX outer H s E e s'
structure FnOk (P : Program) (w : World) (K : PySem.W.Frag) (mg : Str → Option Value) (base : Heap) (CX : CXT) (k : Nat) (f : Addr) (fd : FuncData) (ps : List Str) (sp : Sp) : Prop where
  len : ∀ vs H Q E, sp vs H Q E → vs.length = ps.length
  run : ∀ (A : Around) (outer : List Env) (s : Shared) (H : Hp) (args : Args) (us : List Value) (vs : List V) (Q : VK) (E : XK), Room k A → Env0 P w K mg base A outer s H → BindsTo s fd args (ps.zip us) → Vals vs us → sp vs H Q E →
    codeAny (model P w) A (.call (.ref f) args) (CR CX outer P w H s Q E) s
theorem FnOk.mono {P : Program} {w : World} {K : PySem.W.Frag} {mg : Str → Option Value} {base : Heap} {CX : CXT} {j k : Nat} {f : Addr} {fd : FuncData} {ps : List Str} {sp : Sp} (F : FnOk P w K mg base CX j f fd ps sp) (h : j ≤ k) :
    FnOk P w K mg base CX k f fd ps sp := ⟨F.len, fun A outer s H args us vs Q E hr => F.run A outer s H args us vs Q E (hr.mono h)⟩
/-- a weaker promise -/
theorem FnOk.imp {P : Program} {w : World} {K : PySem.W.Frag} {mg : Str → Option Value} {base : Heap} {CX : CXT} {k : Nat} {f : Addr} {fd : FuncData} {ps : List Str} {sp sp' : Sp} (F : FnOk P w K mg base CX k f fd ps sp)
    (h : ∀ vs H Q E, sp' vs H Q E → sp vs H Q E) : FnOk P w K mg base CX k f fd ps sp' :=
  ⟨fun vs H Q E q => F.len vs H Q E (h _ _ _ _ q), fun A outer s H args us vs Q E hr he hb hv hs => F.run A outer s H args us vs Q E hr he hb hv (h _ _ _ _ hs)⟩

section
variable {X : Cx} {pins : List (Addr × Obj)} {σ : St} {H : Hp} {s s' : Shared}
/-- from a body: what a callee wants -/
theorem Inv.env0 (I : Inv X pins σ H s) : Env0 X.prog X.w X.K X.mg X.base X.A X.stack s H :=
  ⟨I.ok.frames, I.ok.mod, I.bs, Nat.le_trans I.ok.bsz I.sz, I.stack, I.stkFree, I.hok, I.bare⟩
/-- behind a call -/
theorem Inv.after {Q : VK} {u : Value} (I : Inv X pins σ H s) (h : CE X.stack X.prog X.w H s Q u s') : EP X pins σ Q u s' := by
  obtain ⟨v, H', os, bare, un, hok, r, q⟩ := h
  obtain ⟨hh, g, d, t, os'⟩ := s'
  obtain rfl : os' = s.os := os
  exact ⟨v, H', I.call (h' := hh) (g' := g) (d' := d) (t' := t) (ch := []) un hok bare (fun b z => absurd z (by simp)), r, q⟩
end

/-! ### calls -/
/-- f(..): the written arguments, then the defaults dvs; E: what is wanted of an exception -/
def tCall (sp : Sp) (dvs : List V) (E : XK) (t : TA) : TE := fun σ H Q => t σ H fun vs H1 => sp (vs ++ dvs) H1 Q E
/-- how the parameters are bound: us the positional arguments, kw the keywords' values by name, ds the defaults that fill up -/
def Binds (K : PySem.W.Frag) (fd : FuncData) (ps : List Str) (ds : List Value) : Prop :=
  ∀ (s : Shared) (us : List Value), K.In s.heap → (us ++ ds).length = ps.length → BindsTo s fd ⟨us, []⟩ (ps.zip (us ++ ds))
/-- every parameter is given -/
theorem Binds.all {K : PySem.W.Frag} {fd : FuncData} {ps : List Str} (h : ∀ us : List Value, us.length = ps.length → bindArgs fd ⟨us, []⟩ = pure (ps.zip us)) : Binds K fd ps [] := fun s us _ hl => by
  rw [List.append_nil] at hl ⊢
  exact .of_eq (h us hl)

/-- an exception of a callee reaches what this body wants of exceptions -/
def Passes (CX : CXT) (X : Cx) (E : XK) : Prop := ∀ (pins : List (Addr × Obj)) (σ : St) (H : Hp) (s : Shared) (e : Value) (s' : Shared), Inv X pins σ H s → CX X.stack H s E e s' → X.xe e s'

section
variable {X : Cx} {CX : CXT} {k : Nat} {f C : Addr} {fd : FuncData} {ps : List Str} {sp : Sp} {dvs : List V} {ds : List Value} {E : XK} {x m : Str} {p pos apos : Pos} {e o : Expr} {es : List Expr} {ta : TE} {t : TA}

/-- the callee runs -/
theorem run_fn {pins : List (Addr × Obj)} {σ : St} {H : Hp} {s : Shared} {Q : VK} {us : List Value} {vs : List V} (F : FnOk X.prog X.w X.K X.mg X.base CX k f fd ps sp) (hr : Room k X.A) (hb : Binds X.K fd ps ds) (hd : Vals dvs ds) (hx : Passes CX X E)
    (I : Inv X pins σ H s) (r : Vals vs us) (h : sp (vs ++ dvs) H Q E) : wpAny (model X.prog X.w) X.A (call (.ref f) us) (EP X pins σ Q) X.xe s := by
  have r2 : Vals (vs ++ dvs) (us ++ ds) := r.append hd
  have hl : (us ++ ds).length = ps.length := by rw [← r2.length]; exact F.len _ _ _ _ h
  refine wpAny_call (codeAny_mono (F.run X.A X.stack s H ⟨us, []⟩ (us ++ ds) (vs ++ dvs) Q E hr I.env0 (hb s us I.kIn hl) r2 h) fun r s' hq => ?_)
  cases r with
  | error e => exact hx pins σ H s e s' I hq
  | ok fl =>
    cases fl with
    | ret u => exact I.after hq
    | next => exact False.elim hq
    | brk => exact False.elim hq
    | cont => exact False.elim hq

theorem pe_call (F : FnOk X.prog X.w X.K X.mg X.base CX k f fd ps sp) (hr : Room k X.A) (hg : Gl X x) (hm : X.mg x = some (.ref f)) (hk : PySem.W.keepIn X.K (.ref f) = true) (hb : Binds X.K fd ps ds) (hd : Vals dvs ds) (hx : Passes CX X E)
    (ha : PA X (e :: es) t) (hdb : (x == ("__debug__" : Str)) = false := by decide) (he : starEach (e :: es) X.env = (false, eval e X.env) :: starEach es X.env := by rfl) (hpl : (backTo pos (starEach es X.env)).any (·.1) = false := by rfl) :
    PE X (.Call (.Name x p) (e :: es) [] pos) (tCall sp dvs E t) := by
  intro pins s σ H Q I h
  refine wpAny_Call_Name_kw (ld_glob I hg hm ?_ hdb)
  refine PySem.W.callWith_K (h₀ := X.base) I.ok.mod.kin hk (thn (ha s σ H _ I h) fun us s1 ⟨vs, H1, I1, r, q⟩ => ⟨I1.kIn, ?_⟩) he hpl
  exact run_fn F hr hb hd hx I1 r q
end

/-! ### keywords -/
section
variable {X : Cx} {CX : CXT} {k : Nat} {f C : Addr} {fd : FuncData} {ps ks : List Str} {sp : Sp} {E : XK} {x m : Str} {p pos apos kpos : Pos} {e o : Expr} {es : List Expr} {kws : List Keyword} {te ta : TE} {t tk : TA} {nm : Option Str}
variable {g : List Value → List Value → List Value} {gV : List V → List V → List V}
end

/-! ### a def's body keeps its promise -/
/-- names: the parameters first -/
structure FnScope (N P : List Str) (sc : Scope) : Prop where
  kind : sc.kind = .function
  co : sc.isCoroutine = false
  gen : sc.isGenerator = false
  nd : N.Nodup
  pre : N.take P.length = P
  par : ∀ x ∈ P, sc.names.lookup x = some .local ∨ sc.names.lookup x = some .cell
  nofree : ∀ y ∈ sc.names, y.2 ≠ .free

theorem bindL_out {kindOf : Str → Option NameKind} {x : Str} : ∀ {binds : List (Str × Value)} {m : Str → Option Value}, (∀ v, (x, v) ∉ binds) → bindL kindOf binds m x = m x
  | [], _, _ => rfl
  | (n, v) :: r, m, h => by
    unfold bindL
    rw [bindL_out fun w hw => h w (List.mem_cons_of_mem _ hw)]
    split
    · have : x ≠ n := by rintro rfl; exact h v List.mem_cons_self
      simp [this]
    · rfl
theorem bindC_out {kindOf : Str → Option NameKind} {x : Str} : ∀ {binds : List (Str × Value)} {m : Str → Option Value}, (∀ v, (x, v) ∉ binds) → bindC kindOf binds m x = m x
  | [], _, _ => rfl
  | (n, v) :: r, m, h => by
    unfold bindC
    rw [bindC_out fun w hw => h w (List.mem_cons_of_mem _ hw)]
    split
    · rfl
    · have : x ≠ n := by rintro rfl; exact h v List.mem_cons_self
      simp [this]
theorem bindL_get {kindOf : Str → Option NameKind} {x : Str} {v : Value} : ∀ {P : List Str} {vs : List Value} {i : Nat} {m : Str → Option Value}, P.Nodup → P[i]? = some x → vs[i]? = some v → kindOf x = some .local →
    bindL kindOf (P.zip vs) m x = some v
  | [], _, _, _, _, h, _, _ => by simp at h
  | _ :: _, [], _, _, _, _, h, _ => by simp at h
  | p :: P, w :: vs, 0, m, nd, h1, h2, hk => by
    simp at h1 h2; subst h1; subst h2
    show bindL kindOf ((p, w) :: P.zip vs) m p = _
    unfold bindL
    rw [bindL_out fun v hv => (List.nodup_cons.mp nd).1 (List.of_mem_zip hv).1, if_pos hk]
    simp
  | p :: P, w :: vs, i + 1, m, nd, h1, h2, hk => by
    show bindL kindOf ((p, w) :: P.zip vs) m x = _
    unfold bindL
    exact bindL_get (i := i) (List.nodup_cons.mp nd).2 (by simpa using h1) (by simpa using h2) hk
theorem bindC_get {kindOf : Str → Option NameKind} {x : Str} {v : Value} : ∀ {P : List Str} {vs : List Value} {i : Nat} {m : Str → Option Value}, P.Nodup → P[i]? = some x → vs[i]? = some v → kindOf x ≠ some .local →
    bindC kindOf (P.zip vs) m x = some v
  | [], _, _, _, _, h, _, _ => by simp at h
  | _ :: _, [], _, _, _, _, h, _ => by simp at h
  | p :: P, w :: vs, 0, m, nd, h1, h2, hk => by
    simp at h1 h2; subst h1; subst h2
    show bindC kindOf ((p, w) :: P.zip vs) m p = _
    unfold bindC
    rw [bindC_out fun v hv => (List.nodup_cons.mp nd).1 (List.of_mem_zip hv).1, if_neg hk]
    simp
  | p :: P, w :: vs, i + 1, m, nd, h1, h2, hk => by
    show bindC kindOf ((p, w) :: P.zip vs) m x = _
    unfold bindC
    exact bindC_get (i := i) (List.nodup_cons.mp nd).2 (by simpa using h1) (by simpa using h2) hk

/-- the names' values at the entry -/
def start (N : List Str) (vs : List V) : St := vs.map some ++ List.replicate (N.length - vs.length) none

/-- the context of a def's body, at its entry; an exception leaves the frame, then lies as CX says -/
def cxOf (CX : CXT) (P : Program) (w : World) (K : PySem.W.Frag) (mg : Str → Option Value) (base : Heap) (N : List Str) (qual : Str) (scope : Scope) (f : Addr) (cd : Value) (A : Around) (outer : List Env) (s : Shared) (H : Hp) (E : XK) : Cx where
  prog := P
  w := w
  K := K
  mg := mg
  base := base
  A := A.deeper (envOfC qual scope s.heap.objs.size f cd)
  N := N
  s₀ := s
  H₀ := H
  env := envOfC qual scope s.heap.objs.size f cd
  outer := outer
  stack := envOfC qual scope s.heap.objs.size f cd :: outer
  ex := []
  calm := true
  fn := fun _ => true
  pn := []
  xe := fun e s' => wpAny (model P w) (A.deeper (envOfC qual scope s.heap.objs.size f cd)) (leaving (envOfC qual scope s.heap.objs.size f cd) e) (fun _ s'' => CX outer H s E e s'') (fun e' s'' => CX outer H s E e' s'') s'

theorem cell_has {sc : Scope} {n : Nat} {x : Str} (h : sc.names.lookup x = some .cell) : ∃ c, (cellsFrom n sc.names []).lookup x = some c := by
  have q := PySem.W.cellsFrom_some sc.names n [] (.inl h)
  exact Option.isSome_iff_exists.mp q

theorem inv_start {CX : CXT} {P : Program} {w : World} {K : PySem.W.Frag} {mg : Str → Option Value} {base : Heap} {N ps : List Str} {qual : Str} {scope : Scope} {f : Addr} {cd : Value} {A : Around} {outer : List Env} {s s1 : Shared} {H : Hp} {E : XK} {us : List Value} {vs : List V}
    (S : FnScope N ps scope) (hd : A.handled = none) (e0 : Env0 P w K mg base A outer s H) (hl : vs.length = ps.length) (r : Vals vs us)
    (x : InCallC s s.heap.objs.size (bindL (envOfC qual scope s.heap.objs.size f cd).kindOf (ps.zip us) fun _ => none) (cellsFrom (s.heap.objs.size + 1) scope.names []) (bindC (envOfC qual scope s.heap.objs.size f cd).kindOf (ps.zip us) fun _ => none) s1) :
    Inv (cxOf CX P w K mg base N qual scope f cd A outer s H E) [] (start N vs) H s1 := by
  have hpl : ps.length ≤ N.length := by have := congrArg List.length S.pre; rw [List.length_take] at this; omega
  obtain ⟨h1, tk, rfl, hk⟩ := x.done
  have noA : ∀ b : Addr, b ∉ (cxOf CX P w K mg base N qual scope f cd A outer s H E).ex := fun b z => absurd (show b ∈ ([] : List Addr) from z) (by simp)
  refine ⟨⟨e0.mod, S.kind, rfl, rfl, Nat.le_refl _, fun y z c h1 h2 => ?_, fun y hy => ?_, fun y c _ h => ?_, fun _ => hd, Around.frames_deeper e0.frames, .inr ⟨rfl, rfl⟩, fun b z => absurd z (noA b), e0.bs, e0.bsz, fun b _ _ => noA b, fun b z => absurd z (noA b), e0.funs, e0.frf⟩,
    rfl, e0.bare, Un.kept hk, ⟨_, x.toInCall.ns, fun i y v h1 h2 h3 => ?_⟩, fun y c h => ⟨_, x.cell y c h⟩, e0.hok.fresh (Nat.le_refl _), fun y c h => ?_, fun p hp => absurd (show p ∈ ([] : List (Addr × Obj)) from hp) (by simp), e0.hok.kept hk, ?_⟩
  · exact name_of_addr x.apart (PySem.mem_of_lookup h1) (PySem.mem_of_lookup h2)
  · have hy : scope.names.lookup y = some .cell ∨ scope.names.lookup y = some .free := hy
    rcases hy with hy | hy
    · exact cell_has hy
    · exact absurd rfl (S.nofree _ (PySem.mem_of_lookup hy))
  · exact Nat.le_of_lt (x.above y c (PySem.mem_of_lookup h))
  · have hi : i < vs.length := by
      unfold start at h2
      by_cases hi : i < vs.length
      · exact hi
      · rw [List.getElem?_append_right (by simpa using hi)] at h2
        rw [List.getElem?_replicate] at h2
        split at h2 <;> cases h2
    have ha : vs[i]? = some v := by
      unfold start at h2
      rw [List.getElem?_append_left (by simpa using hi), List.getElem?_map] at h2
      cases e : vs[i]? with
      | none => rw [e] at h2; cases h2
      | some a => rw [e] at h2; cases h2; rfl
    obtain ⟨u, hu, rv⟩ := r.get ha
    have hp : ps[i]? = some y := by
      rw [← S.pre, List.getElem?_take_of_lt (by omega)]; exact h1
    have ndP : ps.Nodup := by rw [← S.pre]; exact S.nd.sublist (List.take_sublist _ _)
    refine ⟨u, rv, ?_⟩
    rcases S.par y (List.mem_of_getElem? hp) with k | k
    · exact .inl ⟨k, bindL_get ndP hp hu k⟩
    · obtain ⟨c, e⟩ := cell_has (n := s.heap.objs.size + 1) k
      refine .inr ⟨.inl k, c, e, ?_⟩
      have q := x.cell y c e
      rw [bindC_get ndP hp hu (by show scope.names.lookup y ≠ _; rw [k]; decide)] at q
      exact q
  · exact e0.hok.fresh (Nat.le_of_lt (x.above y c (PySem.mem_of_lookup h)))
  · unfold start
    show _ = N.length
    rw [List.length_append, List.length_map, List.length_replicate]
    omega

/-- THE RULE: a def (or a method) of the text, by its body. The body's reading t is chosen for each entry; it is run at the parameters' values -/
theorem fn_of {CX : CXT} {P : Program} {w : World} {K : PySem.W.Frag} {mg : Str → Option Value} {base : Heap} {k : Nat} {f : Addr} {name qual : Str} {params : Arguments} {body : List Stmt} {scope : Scope} {dV kV doc pm cdv ct oc : Value} {an od : Option Addr}
    {osl : Array (Option Value)} {N ps : List Str} {sp : Sp} (lk : K.lookup f = some ⟨oc, od, .func (PySem.W.fnOf name qual params body scope dV kV doc pm an cdv ct), osl⟩) (hcd : PySem.W.codeIn K cdv qual = true) (S : FnScope N ps scope)
    (len : ∀ vs H Q E, sp vs H Q E → vs.length = ps.length)
    (hbody : ∀ (A : Around) (outer : List Env) (s : Shared) (H : Hp) (vs : List V) (Q : VK) (E : XK), Room k (A.deeper (envOfC qual scope s.heap.objs.size f cdv)) → sp vs H Q E →
      ∃ t, PSs (cxOf CX P w K mg base N qual scope f cdv A outer s H E) body t ∧ t { nx := fun _ H' => Q .non H', rt := Q } (start N vs) H) :
    FnOk P w K mg base CX (k + 1) f (PySem.W.fnOf name qual params body scope dV kV doc pm an cdv ct) ps sp := by
  refine ⟨len, fun A outer s H args us vs Q E hr e0 hb r hsp => ?_⟩
  have hl := len _ _ _ _ hsp
  have KX : K.In s.heap := e0.mod.kin.keeps fun b o e => (e0.bs b o e).1
  have lim : s.heap.NoLimit := e0.mod.nolimit.keeps fun b o e => (e0.bs b o e).1
  have hkind : ∀ y ∈ ps.zip us, scope.names.lookup y.1 = some .local ∨ (scope.names.lookup y.1 = some .cell ∧ ((cellsFrom (s.heap.objs.size + 1) scope.names []).lookup y.1).isSome = true) := fun ⟨n, v⟩ hy => by
    rcases S.par n (List.of_mem_zip hy).1 with q | q
    · exact .inl q
    · exact .inr ⟨q, PySem.W.cellsFrom_some _ _ _ (.inl q)⟩
  refine codeAny_call_function hr.depth (KX _ _ lk) rfl S.co S.gen rfl (PySem.W.codeRec_of KX hcd) (hb _ _ _ _ ?_)
  refine wpAny_newFunctionEnv_cells S.kind hkind fun env he s1 x => ?_
  subst he
  refine ⟨lim.keeps x.toInCall.keep, codeAny_func ?_⟩
  obtain ⟨t, ht, hq⟩ := hbody A outer s H vs Q E (hr.deeper _) hsp
  have I : Inv (cxOf CX P w K mg base N qual scope f cdv A outer s H E) [] (start N vs) H s1 := inv_start S hr.hd e0 hl r x
  refine wpAny_mono (ht s1 (start N vs) H _ I hq) (fun fl s' hs => ?_) fun e s' hs => hs
  have fin : ∀ {σ' : St} {H' : Hp} {v : V} {u : Value}, Inv (cxOf CX P w K mg base N qual scope f cdv A outer s H E) [] σ' H' s' → RelV v u → Q v H' → CE outer P w H s Q u s' :=
    fun {σ' H' v u} J rv q => ⟨v, H', J.os, J.bare, J.base, J.hok, rv, q⟩
  cases fl with
  | ret u =>
    obtain ⟨v, σ', H', J, rv, q⟩ := hs
    exact fin J rv q
  | next =>
    obtain ⟨σ', H', J, q⟩ := hs
    exact fin (v := V.non) (u := Value.none) J rfl q
  | brk =>
    obtain ⟨_, _, _, q⟩ := hs
    exact False.elim q
  | cont =>
    obtain ⟨_, _, _, q⟩ := hs
    exact False.elim q
end L2

namespace L2
open PySem PySem.Spec PyProof.Rows
section
variable {X : Cx} {x : Str} {p pos : Pos} {e : Expr} {es : List Expr} {t : TA} {id T : String} {r : List V → Hp → VK → Prop}

def tCB (r : List V → Hp → VK → Prop) (t : TA) : TE := fun σ H Q => t σ H fun vs H1 => r vs H1 Q
/-- f(e, ..), f a built-in function -/
theorem pe_callB (hc : CallR X (.builtin id) r) (hg : Gl X x) (hm : X.mg x = none) (hv : bootBuiltins x = some (.builtin id)) (ha : PA X (e :: es) t) (hn : x ≠ "__name__" := by decide) (hdb : (x == ("__debug__" : Str)) = false := by decide)
    (he : starEach (e :: es) X.env = (false, eval e X.env) :: starEach es X.env := by rfl) (hpl : (backTo pos (starEach es X.env)).any (·.1) = false := by rfl) : PE X (.Call (.Name x p) (e :: es) [] pos) (tCB r t) := by
  intro pins s σ H Q I h
  refine wpAny_Call_Name_kw (ld_blt I hg hm hv ?_ hn hdb)
  exact PyProof.Rows.callWith_builtin1 (thn (ha s σ H _ I h) fun us s1 ⟨vs, H1, I1, r1, q1⟩ => hc s1 σ H1 vs us Q I1 r1 q1) he hpl
/-- T(e, ..), T a built-in type -/
theorem pe_callTy (hc : CallR X (.type T) r) (hg : Gl X x) (hm : X.mg x = none) (hv : bootBuiltins x = some (.type T)) (ha : PA X (e :: es) t) (hn : x ≠ "__name__" := by decide) (hdb : (x == ("__debug__" : Str)) = false := by decide)
    (he : starEach (e :: es) X.env = (false, eval e X.env) :: starEach es X.env := by rfl) (hpl : (backTo pos (starEach es X.env)).any (·.1) = false := by rfl) : PE X (.Call (.Name x p) (e :: es) [] pos) (tCB r t) := by
  intro pins s σ H Q I h
  refine wpAny_Call_Name_kw (ld_blt I hg hm hv ?_ hn hdb)
  exact PyProof.Rows.callWith_type1 (thn (ha s σ H _ I h) fun us s1 ⟨vs, H1, I1, r1, q1⟩ => hc s1 σ H1 vs us Q I1 r1 q1) he hpl
end
end L2

namespace L2
open PySem PySem.Spec PyProof.Rows

/-! ### lists of pairs as tables -/
section
variable {κ : Type} [DecidableEq κ]
def valV (kvs : List (κ × V)) (k : κ) : Option V := (kvs.find? fun kv => decide (kv.1 = k)).map (·.2)
/-- in its place, or at the end -/
def putK (kvs : List (κ × V)) (k : κ) (v : V) : List (κ × V) :=
  if (kvs.any fun kv => decide (kv.1 = k)) = true then kvs.map (fun kv => if kv.1 = k then (kv.1, v) else kv) else kvs ++ [(k, v)]
theorem valV_pos {p : κ × V} {r : List (κ × V)} {k : κ} (e : p.1 = k) : valV (p :: r) k = some p.2 := by simp [valV, List.find?_cons, e]
theorem valV_neg {p : κ × V} {r : List (κ × V)} {k : κ} (e : ¬ p.1 = k) : valV (p :: r) k = valV r k := by simp [valV, List.find?_cons, e]
theorem valV_any (k : κ) : ∀ kvs : List (κ × V), (kvs.any fun kv => decide (kv.1 = k)) = (valV kvs k).isSome
  | [] => rfl
  | p :: r => by
    rw [List.any_cons]
    by_cases e : p.1 = k
    · simp only [valV_pos e, decide_eq_true e, Bool.true_or, Option.isSome_some]
    · rw [valV_neg e, decide_eq_false e, Bool.false_or]; exact valV_any k r
theorem length_putK (kvs : List (κ × V)) (k : κ) (v : V) : (putK kvs k v).length ≤ kvs.length + 1 := by
  unfold putK
  split
  · rw [List.length_map]; omega
  · rw [List.length_append, List.length_cons, List.length_nil]; omega
theorem RelO.isSome_eq {o : Option V} {u : Option Value} (r : RelO o u) : o.isSome = u.isSome := by
  cases o with
  | none => cases u with
    | none => rfl
    | some _ => exact (show False from r).elim
  | some _ => cases u with
    | none => exact (show False from r).elim
    | some _ => rfl
/-- raw tables of the same keys -/
theorem KV.val {kvs : List (κ × V)} {vs : List (κ × Value)} (r : KV kvs vs) (k : κ) : RelO (valV kvs k) (valueAt vs k) := by
  unfold KV at r
  induction r with
  | nil => exact True.intro
  | @cons p q ps qs h t ih =>
    obtain ⟨h1, h2⟩ := h
    by_cases e : p.1 = k
    · have e' : q.1 = k := h1.symm.trans e
      have b : valueAt (q :: qs) k = some q.2 := by simp [valueAt, List.find?_cons, e']
      rw [valV_pos e, b]; exact h2
    · have e' : ¬ q.1 = k := fun z => e (h1.trans z)
      have b : valueAt (q :: qs) k = valueAt qs k := by simp [valueAt, List.find?_cons, e']
      rw [valV_neg e, b]; exact ih
theorem KV.any {kvs : List (κ × V)} {vs : List (κ × Value)} (r : KV kvs vs) (k : κ) : (kvs.any fun kv => decide (kv.1 = k)) = vs.any fun kv => decide (kv.1 = k) := by
  unfold KV at r
  induction r with
  | nil => rfl
  | cons h t ih => rw [List.any_cons, List.any_cons, ih, h.1]
theorem KV.repl {kvs : List (κ × V)} {vs : List (κ × Value)} (r : KV kvs vs) (k : κ) {y : V} {u : Value} (ry : RelV y u) :
    KV (kvs.map fun kv => if kv.1 = k then (kv.1, y) else kv) (vs.map fun kv => if kv.1 = k then (kv.1, u) else kv) := by
  unfold KV at r ⊢
  induction r with
  | nil => exact .nil
  | @cons p q ps qs h t ih =>
    rw [List.map_cons, List.map_cons]
    refine .cons ?_ ih
    obtain ⟨h1, h2⟩ := h
    by_cases e : p.1 = k
    · rw [if_pos e, if_pos (h1.symm.trans e)]; exact ⟨h1, ry⟩
    · rw [if_neg e, if_neg (fun z => e (h1.trans z))]; exact ⟨h1, h2⟩
theorem KV.put {kvs : List (κ × V)} {vs : List (κ × Value)} (r : KV kvs vs) (k : κ) {y : V} {u : Value} (ry : RelV y u) : KV (putK kvs k y) (stored vs k u) := by
  unfold putK stored
  rw [r.any k]
  by_cases e : (vs.any fun kv => decide (kv.1 = k)) = true
  · rw [if_pos e, if_pos e]; exact r.repl k ry
  · rw [if_neg e, if_neg e]; exact Paired.snoc r ⟨rfl, ry⟩
theorem KV.length {kvs : List (κ × V)} {vs : List (κ × Value)} (r : KV kvs vs) : kvs.length = vs.length := Paired.length r
end


/-! ### a tracked dict, its keys ints and texts or tuples of these -/
theorem kV_is {P : Program} {w : World} {k : Key} {u : Value} (r : RelV (kV k) u) : (mixKind P w).is k u = true := by
  cases k with
  | inl i => obtain ⟨t, e⟩ := (show ∃ t, u = Value.int i t from r); subst e; exact mixKind_int P w i t
  | inr x => obtain ⟨t, e⟩ := (show ∃ t, u = Value.str x t from r); subst e; exact mixKind_str P w x t
theorem items_are {P : Program} {w : World} : ∀ {ks : List Key} {us : List Value}, Vals (ks.map kV) us → ItemsAre (mixKind P w) ks us
  | [], _, r => by rw [List.map_nil] at r; cases r; exact .nil
  | k :: ks, _, r => by
    rw [List.map_cons] at r
    cases r with
    | cons h t => exact .cons (kV_is h) (items_are t)

/-- raw entries of a dict with tuple keys -/
abbrev KT (H : Hp) : List (List Key × V) → List (List Key × Addr × Value) → Prop := Paired fun p q => p.1 = q.1 ∧ H q.2.1 = some (.tup (p.1.map kV)) ∧ RelV p.2 q.2.2
theorem KT.val {H : Hp} {kvs : List (List Key × V)} {xs : List (List Key × Addr × Value)} (r : KT H kvs xs) (k : List Key) : RelO (valV kvs k) ((atKey xs k).map (·.2)) := by
  induction r with
  | nil => exact True.intro
  | @cons p q ps qs h t ih =>
    obtain ⟨h1, _, h2⟩ := h
    by_cases e : p.1 = k
    · have e' : q.1 = k := h1.symm.trans e
      have b : atKey (q :: qs) k = some q.2 := by simp [atKey, List.find?_cons, e']
      rw [valV_pos e, b]; exact h2
    · have e' : ¬ q.1 = k := fun z => e (h1.trans z)
      have b : atKey (q :: qs) k = atKey qs k := by simp [atKey, List.find?_cons, e']
      rw [valV_neg e, b]; exact ih
theorem KT.repl {H : Hp} {kvs : List (List Key × V)} {xs : List (List Key × Addr × Value)} (r : KT H kvs xs) (k : List Key) {y : V} {u : Value} (ry : RelV y u) :
    KT H (kvs.map fun kv => if kv.1 = k then (kv.1, y) else kv) (xs.map (putAt k u)) := by
  induction r with
  | nil => exact .nil
  | @cons p q ps qs h t ih =>
    rw [List.map_cons, List.map_cons]
    refine .cons ?_ ih
    obtain ⟨h1, h2, h3⟩ := h
    unfold putAt
    by_cases e : p.1 = k
    · rw [if_pos e, if_pos (h1.symm.trans e)]; exact ⟨h1, h2, ry⟩
    · rw [if_neg e, if_neg (fun z => e (h1.trans z))]; exact ⟨h1, h2, h3⟩
theorem KT.put {H : Hp} {kvs : List (List Key × V)} {xs : List (List Key × Addr × Value)} (r : KT H kvs xs) (k : List Key) {b : Addr} {y : V} {u : Value} (hb : H b = some (.tup (k.map kV))) (ry : RelV y u) :
    KT H (putK kvs k y) (storedH xs k b u) := by
  have e : (kvs.any fun kv => decide (kv.1 = k)) = (atKey xs k).isSome := by
    rw [valV_any, (r.val k).isSome_eq, Option.isSome_map]
  unfold putK storedH
  rw [e]
  by_cases q : (atKey xs k).isSome = true
  · rw [if_pos q, if_pos q]; exact r.repl k ry
  · rw [if_neg q, if_neg q]; exact Paired.snoc r ⟨rfl, hb, ry⟩
theorem KT.keeps {H H' : Hp} {kvs : List (List Key × V)} {xs : List (List Key × Addr × Value)} (r : KT H kvs xs) (ht : ∀ b ys, H b = some (.tup ys) → H' b = some (.tup ys)) : KT H' kvs xs :=
  Paired.mapP r fun _ _ z => ⟨z.1, ht _ _ z.2.1, z.2.2⟩

section
variable {P : Program} {w : World} {H : Hp} {h : Heap} {a : Addr}
theorem rd_of {u : HO} (ok : HOk P w H h) (e : Rd H a u) : ObjOk P w H h a u := e.ok ok
theorem dk_rd {kvs : List (Key × V)} (ok : HOk P w H h) (e : Rd H a (.dK kvs)) : kvs.length ≤ sizeLine ∧ (a == sysModules) = false ∧ ∃ vs, KV kvs vs ∧ h.DictOf (mixKind P w) a vs :=
  show ObjOk P w H h a (.dK kvs) from rd_of ok e
theorem dk_of {kvs : List (Key × V)} (ok : HOk P w H h) (e : H a = some (.dK kvs)) : kvs.length ≤ sizeLine ∧ (a == sysModules) = false ∧ ∃ vs, KV kvs vs ∧ h.DictOf (mixKind P w) a vs := dk_rd ok (.inl e)
/-- a tracked tuple of ints and texts is a key -/
theorem key_of {ks : List Key} (ok : HOk P w H h) (e : H a = some (.tup (ks.map kV))) : (tupleKind (mixKind P w)).is h ks a := by
  obtain ⟨_, its, r, o, h1, h2, n, h3⟩ := (show ObjOk P w H h a (.tup (ks.map kV)) from ok a _ e)
  exact ⟨o, its.toArray, n, h1, h2, h3, by simpa using items_are r⟩
theorem dt_rd {kvs : List (List Key × V)} (ok : HOk P w H h) (e : Rd H a (.dT kvs)) : kvs.length ≤ sizeLine ∧ (a == sysModules) = false ∧
    ∃ xs, KT H kvs xs ∧ h.DictOfH (tupleKind (mixKind P w)) a xs := by
  obtain ⟨z, y, xs, r, o, es, ep, h1, h2, h3, h4, h5⟩ := (show ObjOk P w H h a (.dT kvs) from rd_of ok e)
  refine ⟨z, y, xs, r, o, es, ep, h1, h2, h3, h4, fun x hx => ?_, h5⟩
  have all : ∀ {l : List (List Key × V)} {m : List (List Key × Addr × Value)}, KT H l m → ∀ x ∈ m, (tupleKind (mixKind P w)).is h x.1 x.2.1 := by
    intro l m q
    induction q with
    | nil => intro x hx; exact nomatch hx
    | @cons p q ps qs hq t ih =>
      intro x hx
      rcases List.mem_cons.mp hx with e | hx
      · subst e
        exact key_of ok (by rw [← hq.1]; exact hq.2.1)
      · exact ih x hx
  exact all r x hx
theorem dt_of {kvs : List (List Key × V)} (ok : HOk P w H h) (e : H a = some (.dT kvs)) : kvs.length ≤ sizeLine ∧ (a == sysModules) = false ∧
    ∃ xs, KT H kvs xs ∧ h.DictOfH (tupleKind (mixKind P w)) a xs := dt_rd ok (.inl e)
end

/-- what the dict at a holds at the key y -/
def DGet (H : Hp) (a : Addr) (y : V) (r : Option V) : Prop :=
  (∃ kvs k, Rd H a (.dK kvs) ∧ y = kV k ∧ r = valV kvs k) ∨ ∃ kvs k b, Rd H a (.dT kvs) ∧ y = .ref b ∧ H b = some (.tup (k.map kV)) ∧ r = valV kvs k
/-- the heap behind a[y] = v -/
def DPut (H : Hp) (a : Addr) (y v : V) (H' : Hp) : Prop :=
  (∃ kvs k, H a = some (.dK kvs) ∧ y = kV k ∧ kvs.length < sizeLine ∧ H' = upd H a (.dK (putK kvs k v))) ∨
  ∃ kvs k b, H a = some (.dT kvs) ∧ y = .ref b ∧ H b = some (.tup (k.map kV)) ∧ kvs.length < sizeLine ∧ H' = upd H a (.dT (putK kvs k v))
theorem DGet.k {H : Hp} {a : Addr} {kvs : List (Key × V)} {k : Key} (e : H a = some (.dK kvs)) : DGet H a (kV k) (valV kvs k) := .inl ⟨kvs, k, .inl e, rfl, rfl⟩
theorem DPut.k {H : Hp} {a : Addr} {kvs : List (Key × V)} {k : Key} {v : V} (e : H a = some (.dK kvs)) (hl : kvs.length < sizeLine) : DPut H a (kV k) v (upd H a (.dK (putK kvs k v))) := .inl ⟨kvs, k, e, rfl, hl, rfl⟩
section
variable {X : Cx} {pins : List (Addr × Obj)} {σ : St} {H : Hp} {s : Shared} {a : Addr} {y v : V} {u r : Value} {o : Option V} {A : Around} {E : Value → Shared → Prop}

theorem Inv.big (I : Inv X pins σ H s) : sysModules < s.heap.objs.size := by
  have h : mainGlobals < s.heap.objs.size := (I.mod.glob.keeps I.bk).lt
  exact Nat.lt_trans (by decide) h

/-- d[y], there -/
theorem d_getItem {Q : Value → Shared → Prop} (hu : A.units + 1 < cLine) (I : Inv X pins σ H s) (g : DGet H a y (some v)) (ry : RelV y u) (h : ∀ w' s', Inv X pins σ H s' → RelV v w' → Q w' s') :
    wpAny (model X.prog X.w) A (getItem (.ref a) u) Q E s := by
  rcases g with ⟨kvs, k, e, ey, l⟩ | ⟨kvs, k, b, e, ey, eb, l⟩
  · subst ey
    obtain ⟨z, hd, vs, rel, dd⟩ := dk_rd I.hok e
    obtain ⟨w', hw, rw'⟩ := RelO.some_of (v := v) (o := valueAt vs k) (by rw [l]; exact rel.val k)
    exact wpAny_getItem_of (kV_is ry) dd.mapOf hw (h w' _ (I.tok _) rw')
  · subst ey
    cases (show u = Value.ref b from ry)
    obtain ⟨z, hd, xs, rel, dd⟩ := dt_rd I.hok e
    obtain ⟨w', hw, rw'⟩ := RelO.some_of (v := v) (o := (atKey xs k).map (·.2)) (by rw [l]; exact rel.val k)
    obtain ⟨p, hp, hp2⟩ := Option.map_eq_some_iff.mp hw
    refine wpAny_getItem_heap (tupleKind_room_in1 hu) (key_of I.hok eb) dd hp ?_
    rw [hp2]
    exact h w' _ (I.tok _) rw'
/-- a dict's object is replaced -/
theorem d_write {h' : Heap} {t' : Nat} {ob : HO} (I : Inv X pins σ H s) (mu : Mut (H a)) (hs : Heap.SameBut a s.heap h') (he : ∃ q, h'.get? a = some q) (new : ObjOk X.prog X.w (upd H a ob) h' a ob) :
    Inv X pins σ (upd H a ob) { s with heap := h', toks := t' } :=
  I.write (x := a) (e := a) mu (.inl rfl) (fun b q hb z => (hs.2 b hb).trans z) he new
theorem dk_new {P : Program} {w : World} {H' : Hp} {h' : Heap} {kvs : List (Key × V)} {vs : List (Key × Value)} (z : kvs.length ≤ sizeLine) (hd : (a == sysModules) = false) (rel : KV kvs vs) (dd : h'.DictOf (mixKind P w) a vs) :
    ObjOk P w H' h' a (.dK kvs) := ⟨z, hd, vs, rel, dd⟩
/-- d[y] = v -/
theorem d_setItem {H' : Hp} {Q : Unit → Shared → Prop} (hu : A.units + 1 < cLine) (I : Inv X pins σ H s) (g : DPut H a y v H') (ry : RelV y u) (rv : RelV v r) (h : ∀ s', Inv X pins σ H' s' → Q () s') :
    wpAny (model X.prog X.w) A (setItem (.ref a) u r) Q E s := by
  rcases g with ⟨kvs, k, e, ey, l, eH⟩ | ⟨kvs, k, b, e, ey, eb, l, eH⟩
  · subst ey eH
    obtain ⟨z, hd, vs, rel, dd⟩ := dk_of I.hok e
    have hz : vs.length ≤ sizeLine := by rw [← rel.length]; exact z
    have hl : (putK kvs k v).length ≤ sizeLine := by have := length_putK kvs k v; omega
    refine wpAny_setItem_pairs (hsz := hz) (kV_is ry) dd fun h' dd' hs => h _ ?_
    have he : ∃ q, h'.get? a = some q := let ⟨q, _, _, hq, _⟩ := dd'; ⟨q, hq⟩
    exact d_write I (by rw [e]; exact True.intro) hs he (dk_new hl hd (rel.put k rv) dd')
  · subst ey eH
    cases (show u = Value.ref b from ry)
    obtain ⟨z, hd, xs, rel, dd⟩ := dt_of I.hok e
    have hz : xs.length ≤ sizeLine := by rw [← Paired.length rel]; exact z
    have hl : (putK kvs k v).length ≤ sizeLine := by have := length_putK kvs k v; omega
    refine wpAny_setItem_heap (hsz := hz) (tupleKind_room_in1 hu) (key_of I.hok eb) dd fun h' dd' hs => h _ ?_
    obtain ⟨q, es, ep, hq, h2, h3, h4, _, h5⟩ := dd'
    refine d_write I (by rw [e]; exact True.intro) hs ⟨q, hq⟩ ⟨hl, hd, _, (rel.put k eb rv).keeps fun c ys ec => ?_, q, es, ep, hq, h2, h3, h4, h5⟩
    rw [upd_ne (ne_of ec e (fun z => nomatch z))]
    exact ec
end

section
variable {X : Cx} {pins : List (Addr × Obj)} {σ : St} {H : Hp} {s : Shared} {a : Addr} {kvs : List (Key × V)} {k : Key} {u : Value} {A : Around} {E : Value → Shared → Prop}
end


/-! ### readings and rules -/
/-- the element of a subscription, not a slice -/
def NoSl (i : Expr) : Prop := ∀ ov iv, subscripted i false ov iv = operate [ov, iv] (getItem ov iv)
theorem subD_of {prog : Program} {w : World} {A : Around} {E : Value → Shared → Prop} {s : Shared} {env : Env} {value slice : Expr} {pos : Pos} {T id : String} {Q : Value → Shared → Prop}
    (hl : typeLookup (.type T) "__getitem__" = pure (some (.builtin id))) (hs : NoSl slice)
    (h : wpAny (model prog w) A (eval value env) (fun o s₁ => wpAny (model prog w) A (eval slice env) (fun i s₂ => s₂.TypeIs o T ∧ wpAny (model prog w) A (getItem o i) Q E s₂) E s₁) E s) :
    wpAny (model prog w) A (eval (.Subscript value slice pos) env) Q E s := by
  refine Subscript_ (wpAny_mono h (fun o s₁ h₁ => wpAny_mono h₁ (fun i s₂ h₂ => ?_) fun _ _ x => x) fun _ _ x => x)
  obtain ⟨hT, h₂⟩ := h₂
  unfold subscriptTail
  refine wpAny_bind ?_
  rw [getitemInPython_of_ne hT.not_modules]
  refine wpAny_bind (wpAny_specialOf hT hl ?_)
  have fin : wpAny (model prog w) A (subscripted slice false o i) (fun r s₃ => wpAny (model prog w) A (letTemporaryGo value o r >>= fun _ => pure r) Q E s₃) E s₂ := by
    rw [hs o i]
    exact wpAny_operating (wpAny_mono h₂ (fun r s₃ h₃ => wpAny_bind (wpAny_letTemporaryGo (wpAny_pure h₃))) fun _ _ x => x)
  first
    | exact wpAny_pure (wpAny_bind fin)
    | exact wpAny_bind (wpAny_pure (wpAny_bind fin))
    | exact wpAny_bind fin

theorem dict_typeIs {X : Cx} {pins : List (Addr × Obj)} {σ : St} {H : Hp} {s : Shared} {a : Addr} {y : V} {o : Option V} (I : Inv X pins σ H s) (g : DGet H a y o) : s.TypeIs (.ref a) "dict" := by
  rcases g with ⟨kvs, k, e, _, _⟩ | ⟨kvs, k, b, e, _, _, _⟩
  · obtain ⟨_, _, vs, _, dd⟩ := dk_rd I.hok e
    exact dd.typeIs
  · obtain ⟨_, _, xs, _, dd⟩ := dt_rd I.hok e
    exact dd.typeIs
/-- d[y] -/
def tDGet (td ty : TE) : TE := fun σ H Q => td σ H fun x H1 => ty σ H1 fun y H2 => ∃ a v, x = .ref a ∧ DGet H2 a y (some v) ∧ Q v H2
/-- d[y] = v -/
def sDPut (td ty tv : TE) : TS := fun D σ H => tv σ H fun v H1 => td σ H1 fun x H2 => ty σ H2 fun y H3 => ∃ a H4, x = .ref a ∧ DPut H3 a y v H4 ∧ D.nx σ H4
section
variable {X : Cx} {o i e value : Expr} {pos pos' tpos : Pos} {td ty tv : TE}
theorem pe_dget (hu : X.A.units + 1 < cLine) (ho : PE X o td) (hi : PE X i ty) (hs : NoSl i) : PE X (.Subscript o i pos) (tDGet td ty) := by
  intro pins s σ H Q I h
  refine subD_of PySem.F.slot_dict_getitem.lookup hs (thn (ho s σ H _ I h) fun u s1 ⟨x, H1, I1, rx, q1⟩ => thn (hi s1 σ H1 _ I1 q1) fun iv s2 ⟨y, H2, I2, ry, a, v, ex, g, q2⟩ => ?_)
  subst ex
  obtain rfl : u = Value.ref a := rx
  exact ⟨dict_typeIs I2 g, d_getItem hu I2 g ry fun w' s3 I3 rw' => ⟨v, H2, I3, rw', q2⟩⟩
theorem ps_dput (hu : X.A.units + 1 < cLine) (ho : PE X o td) (hi : PE X i ty) (hv : PE X value tv) (hs : swapsWith value (some (.Subscript o i pos')) pos.line X.env = pure false) :
    PS X (.Assign [.Subscript o i pos'] value pos) (sDPut td ty tv) := by
  intro pins s σ H D I h
  refine wpAny_Assign_Subscript (thn (hv s σ H _ I h) fun r s1 ⟨v, H1, I1, rv, q1⟩ => thn (ho s1 σ H1 _ I1 q1) fun u s2 ⟨x, H2, I2, rx, q2⟩ => thn (hi s2 σ H2 _ I2 q2) fun iv s3 ⟨y, H3, I3, ry, a, H4, ex, g, q3⟩ => ?_) hs
  subst ex
  obtain rfl : u = Value.ref a := rx
  exact d_setItem hu I3 g ry rv fun s4 I4 => ⟨σ, H4, I4, q3⟩
end


/-! ### displays -/
theorem dk_empty {P : Program} {w : World} {H : Hp} (h : Heap) (hb : sysModules < h.objs.size) : ObjOk P w H (h.push { cls := .type "dict", data := .dict #[] }) h.objs.size (.dK []) :=
  ⟨Nat.zero_le _, beq_eq_false_iff_ne.mpr (Ne.symm (Nat.ne_of_lt hb)), [], .nil, Heap.DictOf.new h⟩
section
variable {X : Cx} {pos : Pos}
end

/-- the pairs of a display, from the left -/
def tPairs : List (TE × TE) → St → Hp → (List (V × V) → Hp → Prop) → Prop
  | [], _, H, Q => Q [] H
  | (tk, tv) :: r, σ, H, Q => tk σ H fun x H1 => tv σ H1 fun y H2 => tPairs r σ H2 fun ps H3 => Q ((x, y) :: ps) H3
abbrev VV : List (V × V) → List (Value × Value) → Prop := Paired fun p q => RelV p.1 q.1 ∧ RelV p.2 q.2
def PPs (X : Cx) (pos : Pos) (keys : List (Option Expr)) (values : List Expr) (trs : List (TE × TE)) : Prop :=
  ∀ ⦃pins : List (Addr × Obj)⦄ (s : Shared) (σ : St) (H : Hp) (Q : List (V × V) → Hp → Prop), Inv X pins σ H s → tPairs trs σ H Q →
    wpAny (model X.prog X.w) X.A (evalPairs (pairTrees keys values X.env pos)) (fun vs s' => ∃ ps H', Inv X pins σ H' s' ∧ VV ps vs ∧ Q ps H') X.xe s
theorem pps_nil {X : Cx} {pos : Pos} : PPs X pos [] [] [] := fun pins s σ H Q I h => pairTrees_nil_walk ⟨[], H, I, .nil, h⟩
theorem pps_cons {X : Cx} {pos : Pos} {k v : Expr} {ks : List (Option Expr)} {vs : List Expr} {tk tv : TE} {trs : List (TE × TE)} (hk : PE X k tk) (hv : PE X v tv) (hr : PPs X pos ks vs trs) :
    PPs X pos (some k :: ks) (v :: vs) ((tk, tv) :: trs) := fun pins s σ H Q I h =>
  pairTrees_cons_walk (thn (hk s σ H _ I h) fun u s1 ⟨x, H1, I1, rx, q1⟩ => thn (hv s1 σ H1 _ I1 q1) fun w2 s2 ⟨y, H2, I2, ry, q2⟩ =>
    thn (hr s2 σ H2 _ I2 q2) fun ws s3 ⟨ps, H3, I3, rel, q3⟩ => ⟨(x, y) :: ps, H3, I3, .cons ⟨rx, ry⟩ rel, q3⟩)

def mergeK (kvs more : List (Key × V)) : List (Key × V) := more.foldl (fun acc kv => putK acc kv.1 kv.2) kvs
theorem KV.merge : ∀ {more : List (Key × V)} {rs : List (Key × Value)} {kvs : List (Key × V)} {vs : List (Key × Value)}, KV more rs → KV kvs vs → KV (mergeK kvs more) (merged vs rs) := by
  intro more rs kvs vs r
  unfold KV at r
  induction r generalizing kvs vs with
  | nil => intro q; exact q
  | @cons p q ps qs h t ih =>
    intro r0
    have e : KV (putK kvs p.1 p.2) (stored vs q.1 q.2) := by
      have := r0.put p.1 h.2
      rw [← h.1]; exact this
    exact ih e
theorem length_mergeK : ∀ (more kvs : List (Key × V)), (mergeK kvs more).length ≤ kvs.length + more.length
  | [], kvs => by show kvs.length ≤ kvs.length + 0; omega
  | p :: r, kvs => by
    have h1 := length_mergeK r (putK kvs p.1 p.2)
    have h2 := length_putK kvs p.1 p.2
    show (mergeK (putK kvs p.1 p.2) r).length ≤ _
    rw [List.length_cons]; omega
theorem carries_of {P : Program} {w : World} : ∀ {kvs : List (Key × V)} {ws : List (Value × Value)}, VV (kvs.map fun kv => (kV kv.1, kv.2)) ws → ∃ rs, Carries (mixKind P w) ws rs ∧ KV kvs rs
  | [], _, r => by rw [List.map_nil] at r; cases r; exact ⟨[], True.intro, .nil⟩
  | p :: kvs, _, r => by
    rw [List.map_cons] at r
    cases r with
    | @cons a b as bs h t =>
      obtain ⟨rs, c, q⟩ := carries_of (P := P) (w := w) t
      obtain ⟨b1, b2⟩ := b
      exact ⟨(p.1, b2) :: rs, ⟨kV_is h.1, rfl, c⟩, .cons ⟨rfl, h.2⟩ q⟩
/-- {k: v, ..} with keys ints and texts; the new dict stands empty while the pairs are made -/
def tDisp (trs : List (TE × TE)) : TE := fun σ H Q => ∀ p, H p = none → tPairs trs σ (upd H p (.dK [])) fun ps H2 => H2 p = some (.dK []) ∧ ∃ kvs : List (Key × V), ps = kvs.map (fun kv => (kV kv.1, kv.2)) ∧ kvs.length ≤ 15 ∧ Q (.ref p) (upd H2 p (.dK (mergeK [] kvs)))
theorem pe_disp {X : Cx} {pos : Pos} {keys : List (Option Expr)} {values : List Expr} {trs : List (TE × TE)} (h : PPs X pos keys values trs) (hall : keys.all (·.isSome) = true) (hl : keys.length = values.length) (h0 : keys ≠ [])
    (h15 : keys.length ≤ 15) : PE X (.Dict keys values pos) (tDisp trs) := by
  intro pins s σ H Q I q
  have hn := I.hok.fresh (Nat.le_refl s.heap.objs.size)
  have I1 := I.laid (a := s.heap.objs.size) (o := .dK []) (h' := s.heap.push { cls := .type "dict", data := .dict #[] }) (t' := s.toks) (fun _ _ q => Heap.get?_push_of_some _ q) (Nat.le_refl _) (dk_empty s.heap I.big)
  refine wpAny_Dict_walk (knd := mixKind X.prog X.w) hall hl h0 h15 (thn (h _ σ _ _ I1 (q _ hn)) fun ws s2 ⟨ps, H2, I2, rel, e, kvs, ep, lk, q2⟩ => ?_)
  subst ep
  obtain ⟨rs, c, rk⟩ := carries_of (P := X.prog) (w := X.w) rel
  obtain ⟨z, hd, vs0, r0, dd⟩ := dk_of I2.hok e
  cases r0
  refine ⟨rs, c, dd, fun h' dd' hs => ⟨.ref s.heap.objs.size, _, ?_, rfl, q2⟩⟩
  have hz : (mergeK [] kvs).length ≤ sizeLine := by
    have h1 := length_mergeK kvs []
    rw [List.length_nil] at h1
    rw [sizeLine_eq]; omega
  have he : ∃ q, h'.get? s.heap.objs.size = some q := let ⟨q, _, _, hq, _⟩ := dd'; ⟨q, hq⟩
  exact d_write I2 (by rw [e]; exact True.intro) hs he (dk_new hz hd (rk.merge .nil) dd')


/-! ### methods -/
section
variable {X : Cx} {pins : List (Addr × Obj)} {σ : St} {H : Hp} {s : Shared} {a : Addr} {y d : V} {u r : Value} {o : Option V} {A : Around} {E : Value → Shared → Prop}
end

section
variable {X : Cx} {o e f : Expr} {apos cpos : Pos} {td ty tx : TE}
end

/-! ### dict(d): a copy -/
section
variable {X : Cx} {pins : List (Addr × Obj)} {σ : St} {H : Hp} {s : Shared} {a : Addr} {kvs : List (Key × V)} {A : Around} {E : Value → Shared → Prop}
end


section
variable {X : Cx} {pins : List (Addr × Obj)} {σ : St} {H : Hp} {s : Shared} {a : Addr} {y : V} {u : Value} {A : Around} {E : Value → Shared → Prop}
end
end L2

namespace HT
open PySem PyProof.Rows

section
open PySem.SeqAt
open PySem.AutoSeq1 (wpAny_loadPart')
open PySem.MeetsSeq PySem.MeetsSeq2 PySem.MeetsSeq3

end

section
variable {prog : Program} {w : World} {A : Around} {E : Value → Shared → Prop} {s : Shared}

/-! ### t[a:b], not the whole -/
/-- a slice's bound as a place among n (d where it is left out) -/
def sIx (n d : Nat) : Option Int → Nat
  | none => d
  | some v => if v < 0 then (v + (n : Int)).toNat else min v.toNat n
theorem sIx_none (n d : Nat) : sIx n d none = d := rfl
theorem sIx_nat (n d k : Nat) : sIx n d (some (k : Int)) = min k n := by
  show (if (k : Int) < 0 then ((k : Int) + (n : Int)).toNat else min (k : Int).toNat n) = min k n
  rw [if_neg (by omega), Int.toNat_natCast]
end
end HT

namespace L2
open PySem PySem.Spec PyProof.Rows

/-! ### the parts of a slice -/
abbrev TO := St → Hp → (Option Int → Hp → Prop) → Prop
/-- a slice's part (left out, or an int) -/
def PO (X : Cx) (e : Option Expr) (t : TO) : Prop :=
  ∀ ⦃pins : List (Addr × Obj)⦄ (s : Shared) (σ : St) (H : Hp) (Q : Option Int → Hp → Prop), Inv X pins σ H s → t σ H Q →
    wpAny (model X.prog X.w) X.A (evalPart e X.env) (fun u s' => ∃ o H', Inv X pins σ H' s' ∧ IsPart u o ∧ Q o H') X.xe s
def tNoPart : TO := fun _ H Q => Q none H
def tPart (t : TE) : TO := fun σ H Q => t σ H fun x H1 => ∃ i, x = .int i ∧ Q (some i) H1

section
variable {X : Cx} {e : Expr} {te : TE} {lo hi : Option Expr} {tl th : TO} {pos p2 : Pos}

theorem po_none : PO X none tNoPart := by
  intro pins s σ H Q I h
  rw [evalPart_none]
  exact wpAny_pure ⟨none, H, I, .none, h⟩
theorem po_some (h : PE X e te) : PO X (some e) (tPart te) := by
  intro pins s σ H Q I hw
  rw [evalPart_some]
  refine thn (h s σ H _ I hw) fun u s1 ⟨x, H1, I1, r1, q1⟩ => ?_
  obtain ⟨i, rfl, q⟩ := q1
  obtain ⟨t, rfl⟩ := r1
  exact ⟨some i, H1, I1, .int i t, q⟩

/-- what a slice of a value is, by values: the slice object stands at sl -/
def SlR (X : Cx) (r : V → Option Int → Option Int → Hp → VK → Prop) : Prop :=
  ∀ ⦃pins : List (Addr × Obj)⦄ (s : Shared) (σ : St) (H : Hp) (x : V) (v vl vu : Value) (lo hi : Option Int) (sl : Addr) (Q : VK), Inv X pins σ H s → RelV x v → s.heap.IsSliceOf sl vl vu .none → IsPart vl lo → IsPart vu hi → r x lo hi H Q →
    ∃ T id, typeLookup (.type T) "__getitem__" = pure (some (.builtin id)) ∧ s.TypeIs v T ∧ wpAny (model X.prog X.w) X.A (getItem v (.ref sl)) (EP X pins σ Q) X.xe s
theorem SlR.or {r r' : V → Option Int → Option Int → Hp → VK → Prop} (h : SlR X r) (h' : SlR X r') : SlR X (fun x lo hi H Q => r x lo hi H Q ∨ r' x lo hi H Q) := by
  intro pins s σ H x v vl vu lo hi sl Q I rx hs pl pu q
  rcases q with q | q
  · exact h s σ H x v vl vu lo hi sl Q I rx hs pl pu q
  · exact h' s σ H x v vl vu lo hi sl Q I rx hs pl pu q
def tSl (r : V → Option Int → Option Int → Hp → VK → Prop) (te : TE) (tl th : TO) : TE := fun σ H Q => te σ H fun x H1 => tl σ H1 fun l H2 => th σ H2 fun u H3 => r x l u H3 Q
/-- a[lo:hi], any a -/
theorem pe_slice {r : V → Option Int → Option Int → Hp → VK → Prop} (hr : SlR X r) (he : PE X e te) (hl : PO X lo tl) (hu : PO X hi th) : PE X (.Subscript e (.Slice lo hi none p2) pos) (tSl r te tl th) := by
  intro pins s σ H Q I h
  refine Subscript_ (thn (he s σ H _ I h) fun v s1 ⟨x, H1, I1, r1, q1⟩ => ?_)
  refine wpAny_Slice (thn (hl s1 σ H1 _ I1 q1) fun vl s2 ⟨l, H2, I2, pl, q2⟩ => thn (hu s2 σ H2 _ I2 q2) fun vu s3 ⟨u, H3, I3, pu, q3⟩ => ?_)
  rw [evalPart_none]
  refine wpAny_pure ?_
  have I4 : Inv X pins σ H3 { s3 with heap := s3.heap.push { cls := .type "slice", data := .fields #[vl, vu, .none] } } := I3.kept (t' := s3.toks) fun b ob q => Heap.get?_push_of_some _ q
  obtain ⟨T, id, hT, ht, hg⟩ := hr { s3 with heap := s3.heap.push { cls := .type "slice", data := .fields #[vl, vu, .none] } } σ H3 x v vl vu l u s3.heap.objs.size Q I4 r1 (Heap.IsSliceOf.new ..) pl pu q3
  show wpAny (model X.prog X.w) X.A (subscriptTail e (.Slice lo hi none p2) v (.ref s3.heap.objs.size)) (EP X pins σ Q) X.xe { s3 with heap := s3.heap.push { cls := .type "slice", data := .fields #[vl, vu, .none] } }
  exact tail_any (ops := [.ref s3.heap.objs.size, v]) ht hT hg (by with_unfolding_all rfl)

/-- the items of xs[lo:hi] -/
def cutV (xs : List V) (lo hi : Option Int) : List V := (xs.drop (HT.sIx xs.length 0 lo)).take (HT.sIx xs.length xs.length hi - HT.sIx xs.length 0 lo)
theorem cutV_length (xs : List V) (lo hi : Option Int) : (cutV xs lo hi).length ≤ xs.length := by
  unfold cutV
  rw [List.length_take, List.length_drop]
  omega
/-! ### t < u, t + u -/
end
end L2

namespace L2
open PySem PySem.Spec PyProof.Rows

/-! ### places -/
/-- the place that an index of any sign means -/
def ixN (n : Nat) (i : Int) : Option Nat := if 0 ≤ i then (if i < n then some i.toNat else none) else if -(n : Int) ≤ i then some (i + n).toNat else none
def atI {α : Type} (xs : List α) (i : Int) : Option α := (ixN xs.length i).bind fun j => xs[j]?
theorem ixN_seq {n : Nat} {i : Int} {j : Nat} (h : ixN n i = some j) : seqIndex? i n = some j ∧ j < n ∧ -(n : Int) ≤ i ∧ i < n := by
  unfold ixN at h
  by_cases h0 : 0 ≤ i
  · rw [if_pos h0] at h
    by_cases h1 : i < n
    · rw [if_pos h1] at h
      have e : i.toNat = j := Option.some.inj h
      exact ⟨by rw [seqIndex_of h0 h1, e], by omega, by omega, h1⟩
    · rw [if_neg h1] at h; cases h
  · rw [if_neg h0] at h
    by_cases h1 : -(n : Int) ≤ i
    · rw [if_pos h1] at h
      have e : (i + n).toNat = j := Option.some.inj h
      exact ⟨by rw [seqIndex_neg (by omega) h1, e], by omega, h1, by omega⟩
    · rw [if_neg h1] at h; cases h
theorem atI_get {α : Type} {xs : List α} {i : Int} {v : α} (h : atI xs i = some v) : ∃ j, seqIndex? i xs.length = some j ∧ xs[j]? = some v ∧ j < xs.length ∧ -(xs.length : Int) ≤ i ∧ i < xs.length := by
  unfold atI at h
  cases e : ixN xs.length i with
  | none => rw [e] at h; cases h
  | some j =>
    rw [e] at h
    obtain ⟨h1, h2, h3, h4⟩ := ixN_seq e
    exact ⟨j, h1, h, h2, h3, h4⟩
theorem atI_nat {α : Type} {xs : List α} {j : Nat} {v : α} (h : xs[j]? = some v) : atI xs (j : Int) = some v := by
  have hj : j < xs.length := (List.getElem?_eq_some_iff.mp h).1
  have e : ixN xs.length (j : Int) = some j := by
    unfold ixN
    rw [if_pos (by omega), if_pos (by omega)]; simp
  unfold atI; rw [e]; exact h
/-! ### what may be subscripted -/
/-- what stands as an index of a plain subscript -/
def PlainIx (b : Expr) : Prop := ∀ o i, subscripted b false o i = operate [o, i] (getItem o i)
/-- a subscript by values -/
def IxR (X : Cx) (r : R2) : Prop :=
  ∀ ⦃value slice : Expr⦄ ⦃pins : List (Addr × Obj)⦄ (s : Shared) (σ : St) (H : Hp) (x y : V) (v u : Value) (Q : VK), Inv X pins σ H s → RelV x v → RelV y u → r x y H Q →
    subscripted slice false v u = operate [v, u] (getItem v u) → wpAny (model X.prog X.w) X.A (subscriptTail value slice v u) (EP X pins σ Q) X.xe s
/-- a call of a builtin's method by values: the receiver, the arguments -/
def MtR (X : Cx) (id : String) (r : V → List V → Hp → VK → Prop) : Prop :=
  ∀ ⦃pins : List (Addr × Obj)⦄ (s : Shared) (σ : St) (H : Hp) (x : V) (xs : List V) (v : Value) (us : List Value) (Q : VK), Inv X pins σ H s → RelV x v → Vals xs us → r x xs H Q →
    wpAny (model X.prog X.w) X.A (call (.builtin id) (v :: us)) (EP X pins σ Q) X.xe s
section
variable {X : Cx} {a b : Expr} {ta tb : TE} {pos : Pos}
theorem IxR.or {r r' : R2} (h : IxR X r) (h' : IxR X r') : IxR X (fun x y H Q => r x y H Q ∨ r' x y H Q) := by
  intro value slice pins s σ H x y v u Q I rx ry q hs
  rcases q with q | q
  · exact h s σ H x y v u Q I rx ry q hs
  · exact h' s σ H x y v u Q I rx ry q hs
/-- a[b] -/
theorem pe_ix {r : R2} (hr : IxR X r) (ha : PE X a ta) (hb : PE X b tb) (hs : PlainIx b) : PE X (.Subscript a b pos) (tOp r ta tb) := by
  intro pins s σ H Q I h
  exact Subscript_ (binT ha hb I h fun v u s2 x y H2 I2 rx ry q => hr s2 σ H2 x y v u Q I2 rx ry q (hs _ _))

def rIxL (K : PySem.W.Frag) : R2 := fun x y H Q => ∃ p xs i v, x = .ref p ∧ y = .int i ∧ SqL K H p xs ∧ atI xs i = some v ∧ Q v H
def rIxT (K : PySem.W.Frag) : R2 := fun x y H Q => ∃ p xs i v, x = .ref p ∧ y = .int i ∧ SqT K H p xs ∧ atI xs i = some v ∧ Q v H
def rIxS : R2 := fun x y H Q => ∃ z i c, x = .str z ∧ y = .int i ∧ z.length ≤ sizeLine ∧ atI z.cps.toList i = some c ∧ Q (.str ⟨#[c]⟩) H
theorem ix_list : IxR X (rIxL X.K) := by
  intro value slice pins s σ H x y v u Q I rx ry h hs
  obtain ⟨p, xs, i, z, rfl, rfl, hq, he, q⟩ := h
  cases rx
  obtain ⟨t, rfl⟩ := ry
  obtain ⟨its, r, pl, hz⟩ := I.list hq
  obtain ⟨j, h1, h2, h3, h4, h5⟩ := atI_get he
  obtain ⟨w, ew, rw'⟩ := r.get h2
  have hl := r.length
  have hn := line63
  have fin : EP X pins σ Q w s := ⟨z, H, I, rw', q⟩
  by_cases h0 : 0 ≤ i
  · have hj : i.toNat = j := by
      rw [seqIndex_of h0 h5] at h1
      exact Option.some.inj h1
    exact item_listR pl.isList h0 (by omega) (by rw [hj]; simpa using ew) fin hs
  · have hj : (i + (its.toArray.size : Int)).toNat = j := by
      rw [seqIndex_neg (by omega) h4] at h1
      rw [List.size_toArray, ← hl]
      exact Option.some.inj h1
    exact subscriptTail_builtinR (x := w) pl.isList.typeIs slot_list_getitem.lookup
      (wpAny_getItem_list_neg (Q := fun r s' => r = w ∧ EP X pins σ Q r s') pl.isList (by omega) (by rw [List.size_toArray] <;> omega) (by omega) (by rw [hj]; simpa using ew) ⟨rfl, fin⟩) hs
theorem ix_tup : IxR X (rIxT X.K) := by
  intro value slice pins s σ H x y v u Q I rx ry h hs
  obtain ⟨p, xs, i, z, rfl, rfl, hq, he, q⟩ := h
  cases rx
  obtain ⟨t, rfl⟩ := ry
  obtain ⟨its, r, pl, hz⟩ := I.tuple hq
  obtain ⟨j, h1, h2, h3, h4, h5⟩ := atI_get he
  obtain ⟨w, ew, rw'⟩ := r.get h2
  have hl := r.length
  have hn := line63
  have fin : EP X pins σ Q w s := ⟨z, H, I, rw', q⟩
  exact subscriptTail_builtinR (x := w) pl.typeIs slot_tuple_getitem.lookup
    (getItem_tuple (j := j) (Q := fun r s' => r = w ∧ EP X pins σ Q r s') pl (by omega) (by omega) (by rw [List.size_toArray, ← hl]; exact h1) (by simpa using ew) ⟨rfl, fin⟩) hs
theorem ix_str : IxR X rIxS := by
  intro value slice pins s σ H x y v u Q I rx ry h hs
  obtain ⟨z, i, c, rfl, rfl, hz, he, q⟩ := h
  obtain ⟨t, rfl⟩ := rx
  obtain ⟨t', rfl⟩ := ry
  obtain ⟨j, h1, h2, h3, h4, h5⟩ := atI_get he
  have hl : z.cps.toList.length = z.length := by simp [Str.length]
  rw [hl] at h1 h4 h5
  have hn := line63
  exact tail_any (typeIs_str s z t) slot_str_getitem.lookup (getItem_str (c := c) (by
    have e1 : decide (i < -(2 ^ 63 : Int)) = false := decide_eq_false (by omega)
    have e2 : decide (i ≥ 2 ^ 63) = false := decide_eq_false (by omega)
    rw [e1, e2, Bool.or_false]) (by rw [h1]; simpa using h2) ⟨.str ⟨#[c]⟩, H, I.tok _, ⟨_, rfl⟩, q⟩) hs
/-- list, tuple or str -/
def rIx (K : PySem.W.Frag) : R2 := fun x y H Q => rIxL K x y H Q ∨ rIxT K x y H Q ∨ rIxS x y H Q
theorem ix_seq : IxR X (rIx X.K) := ix_list.or (ix_tup.or ix_str)

/-! ### xs[i] = v, any sign -/
/-- the list's object behind a store -/
theorem mapSeq_set (its : List Value) (n j : Nat) (u : Value) : Obj.mapSeq (·.setIfInBounds j u) { cls := .type "list", data := .seq its.toArray n } = { cls := .type "list", data := .seq (its.set j u).toArray n } := by
  simp [Obj.mapSeq]
theorem Inv.lst {pins : List (Addr × Obj)} {σ : St} {H : Hp} {s : Shared} {p : Addr} {xs : List V} (I : Inv X pins σ H s) (h : H p = some (.lst xs)) :
    ∃ (its : List Value) (n : Nat), Vals xs its ∧ s.heap.get? p = some { cls := .type "list", data := .seq its.toArray n } ∧ xs.length ≤ sizeLine := by
  obtain ⟨z, its, n, r, e⟩ := I.hok p _ h
  exact ⟨its, n, r, e, z⟩
/-- the list at p is written by an update of its object -/
theorem Inv.lstUpd {pins : List (Addr × Obj)} {σ : St} {H : Hp} {s : Shared} {p : Addr} {xs ys : List V} {its its' : List Value} {n n' : Nat} {f : Obj → Obj} (I : Inv X pins σ H s) (h : H p = some (.lst xs))
    (ho : s.heap.get? p = some { cls := .type "list", data := .seq its.toArray n }) (hf : f { cls := .type "list", data := .seq its.toArray n } = { cls := .type "list", data := .seq its'.toArray n' }) (r : Vals ys its') (hz : ys.length ≤ sizeLine) (t : Nat) :
    Inv X pins σ (upd H p (.lst ys)) { s with heap := s.heap.update p f, toks := t } := by
  have e : (s.heap.update p f).get? p = some { cls := .type "list", data := .seq its'.toArray n' } := by
    rw [Heap.get?_update_self f ho (by rw [hf] <;> rfl), hf]
  refine I.write (x := p) (e := p) (by rw [h]; trivial) (.inl rfl) (fun b u hb q => (Heap.get?_update_other _ _ (Ne.symm hb)).trans q) ⟨_, e⟩ ?_
  exact ⟨hz, its', n', r, e⟩
def rSetL : V → V → V → Hp → (Hp → Prop) → Prop := fun o i v H Q => ∃ p xs k j, o = .ref p ∧ i = .int k ∧ H p = some (.lst xs) ∧ ixN xs.length k = some j ∧ Q (upd H p (.lst (xs.set j v)))
theorem set_list : PSet X rSetL := by
  intro pins s σ H o i v ov iv u Q I ro ri rv h
  obtain ⟨p, xs, k, j, rfl, rfl, hp, hj, q⟩ := h
  cases ro
  obtain ⟨t, rfl⟩ := ri
  obtain ⟨its, n, r, ho, hz⟩ := I.lst hp
  obtain ⟨h1, h2, h3, h4⟩ := ixN_seq hj
  have hl := r.length
  have hn := line63
  have I' : Inv X pins σ (upd H p (.lst (xs.set j v))) { s with heap := s.heap.update p (Obj.mapSeq (·.setIfInBounds j u)) } :=
    I.lstUpd hp ho (mapSeq_set its n j u) (r.set rv j) (by rw [List.length_set]; exact hz) s.toks
  by_cases h0 : 0 ≤ k
  · have hk : k.toNat = j := by
      rw [seqIndex_of h0 h4] at h1
      exact Option.some.inj h1
    exact PySem.W.ki_setAt ho h0 (by omega) (by rw [List.size_toArray, ← hl]; exact h4) (by rw [hk]; exact ⟨_, I', q⟩)
  · have hk : (k + (its.toArray.size : Int)).toNat = j := by
      rw [seqIndex_neg (by omega) h3] at h1
      rw [List.size_toArray, ← hl]
      exact Option.some.inj h1
    exact PySem.W.ki_setBack ho (by omega) (by rw [List.size_toArray, ← hl]; exact h3) (by omega) (by rw [hk]; exact ⟨_, I', q⟩)

/-! ### slices -/
theorem slice_bounds (lo hi : Option Int) (n : Nat) : (sliceBounds lo hi none n).1 = ((HT.sIx n 0 lo : Nat) : Int) ∧ (sliceBounds lo hi none n).2.1 = ((HT.sIx n n hi : Nat) : Int) ∧ (sliceBounds lo hi none n).2.2 = 1 := by
  refine ⟨?_, ?_, rfl⟩
  · cases lo with
    | none => simp [sliceBounds, HT.sIx]
    | some i =>
      simp only [sliceBounds, HT.sIx, Option.getD_none, show (1 : Int) > 0 by decide, if_true]
      by_cases h : i < 0
      · simp only [h, if_true] <;> omega
      · simp only [h, if_false] <;> omega
  · cases hi with
    | none => simp [sliceBounds, HT.sIx]
    | some i =>
      simp only [sliceBounds, HT.sIx, Option.getD_none, show (1 : Int) > 0 by decide, if_true]
      by_cases h : i < 0
      · simp only [h, if_true] <;> omega
      · simp only [h, if_false] <;> omega
theorem slicePick_cut (its : List Value) (lo hi : Option Int) : slicePick its.toArray lo hi none = ((its.drop (HT.sIx its.length 0 lo)).take (HT.sIx its.length its.length hi - HT.sIx its.length 0 lo)).toArray := by
  obtain ⟨h1, h2, h3⟩ := slice_bounds lo hi its.toArray.size
  unfold slicePick
  rw [h1, h2, h3]
  simp only [sliceRange_one, pick_run, List.size_toArray] <;> rfl
/-- xs[lo:hi] of a list: a new list -/
def rSlL (K : PySem.W.Frag) : V → Option Int → Option Int → Hp → VK → Prop := fun x lo hi H Q => ∃ a xs, x = .ref a ∧ SqL K H a xs ∧ ∀ p, H p = none → Q (.ref p) (upd H p (.lst (cutV xs lo hi)))
theorem sl_list : SlR X (rSlL X.K) := by
  intro pins s σ H x v vl vu lo hi sl Q I rx hs pl pu h
  obtain ⟨a, xs, rfl, hx, q⟩ := h
  cases rx
  obtain ⟨its, r, ht, hz⟩ := I.list hx
  have hlen := r.length
  refine ⟨"list", _, slot_list_getitem.lookup, ht.isList.typeIs, ?_⟩
  refine wpAny_getItem_list_slice ht.isList hs pl pu .none (by simp) ?_ (by rw [List.size_toArray] <;> omega)
  rw [slicePick_cut, ← hlen]
  refine ⟨.ref s.heap.objs.size, _, I.laid (t' := s.toks) (o := .lst (cutV xs lo hi)) (fun b ob q => Heap.get?_push_of_some _ q) (Nat.le_refl _) ?_, rfl, q _ (I.hok.fresh (Nat.le_refl _))⟩
  exact ⟨Nat.le_trans (cutV_length xs lo hi) hz, _, 0, (r.drop (HT.sIx xs.length 0 lo)).take (HT.sIx xs.length xs.length hi - HT.sIx xs.length 0 lo), Heap.get?_push_size _ rfl⟩

/-! ### in, not in: flat items -/
/-! ### len, list(x), tuple(x) of any list or tuple that is read -/
theorem CallR.or {f : Value} {r r' : List V → Hp → VK → Prop} (h : CallR X f r) (h' : CallR X f r') : CallR X f (fun xs H Q => r xs H Q ∨ r' xs H Q) := by
  intro pins s σ H xs us Q I rs q
  rcases q with q | q
  · exact h s σ H xs us Q I rs q
  · exact h' s σ H xs us Q I rs q
theorem call_list_of : CallR X (.type "list") (fun xs H Q => ∃ p ys, xs = [.ref p] ∧ (SqL X.K H p ys ∨ SqT X.K H p ys) ∧ ∀ l, H l = none → Q (.ref l) (upd H l (.lst ys))) := by
  intro pins s σ H xs us Q I r h
  obtain ⟨p, ys, rfl, hq, q⟩ := h
  obtain ⟨u, rfl, rx⟩ := vals1 r
  cases rx
  have fin : ∀ (its : List Value), Vals ys its → ys.length ≤ sizeLine → ∀ (h' : Heap) (c' : Nat), (∀ b o', s.heap.get? b = some o' → h'.get? b = some o') →
      h'.get? s.heap.objs.size = some { cls := .type "list", dict := none, data := .seq its.toArray c', slots := #[] } → EP X pins σ Q (.ref s.heap.objs.size) { s with heap := h' } := fun its r' hz h' c' kp e =>
    ⟨.ref s.heap.objs.size, _, I.laid (t' := s.toks) kp (Nat.le_refl _) (show ObjOk X.prog X.w _ h' _ (.lst ys) from ⟨hz, its, c', r', e⟩), rfl, q _ (I.hok.fresh (Nat.le_refl _))⟩
  rcases hq with hq | hq
  · obtain ⟨its, r', pl, hz⟩ := I.list hq
    have hlen := r'.length
    obtain ⟨o, ho, hc, n, hd⟩ := pl.isList
    exact call_list_seq p (.inl rfl) ho hc hd (fun h' c' kp e => fin its r' hz h' c' kp e) (by simp only [List.size_toArray] <;> omega)
  · obtain ⟨its, r', pl, hz⟩ := I.tuple hq
    have hlen := r'.length
    obtain ⟨o, ho, hc, n, hd⟩ := pl
    exact call_list_seq p (.inr rfl) ho hc hd (fun h' c' kp e => fin its r' hz h' c' kp e) (by simp only [List.size_toArray] <;> omega)
theorem call_tuple_of : CallR X (.type "tuple") (fun xs H Q => ∃ p ys, xs = [.ref p] ∧ ((SqL X.K H p ys ∧ ∀ l, H l = none → Q (.ref l) (upd H l (.tup ys))) ∨ (SqT X.K H p ys ∧ Q (.ref p) H))) := by
  intro pins s σ H xs us Q I r h
  obtain ⟨p, ys, rfl, h⟩ := h
  obtain ⟨u, rfl, rx⟩ := vals1 r
  cases rx
  rcases h with ⟨hq, q⟩ | ⟨hq, q⟩
  · obtain ⟨its, r', pl, hz⟩ := I.list hq
    have hlen := r'.length
    refine call_tuple_list pl.isList (fun h' kp => ?_) (by simp only [List.size_toArray] <;> omega)
    have I1 : Inv X pins σ H { s with heap := h' } := I.kept (t' := s.toks) kp
    have I2 : Inv X pins σ (upd H h'.objs.size (.tup ys)) { s with heap := h'.push { cls := .type "tuple", data := .seq its.toArray } } :=
      I1.laid (t' := s.toks) (fun b o e => Heap.get?_push_of_some _ e) (Nat.le_refl _) (show ObjOk X.prog X.w _ _ _ (.tup ys) from ⟨hz, its, r', IsTup.new _ _⟩)
    exact ⟨.ref h'.objs.size, _, I2, rfl, q _ (I1.hok.fresh (Nat.le_refl _))⟩
  · obtain ⟨its, r', pl, hz⟩ := I.tuple hq
    exact call_tuple_same pl ⟨.ref p, H, I, rfl, q⟩

/-! ### the call of a builtin's method: o.m(..) -/
/-- the value is of that builtin type -/
def tyV (K : PySem.W.Frag) (T : String) (x : V) (H : Hp) : Prop := match x with
  | .str _ => T = "str"
  | .int _ => T = "int"
  | .ref p => (T = "list" ∧ ∃ xs, SqL K H p xs) ∨ (T = "tuple" ∧ ∃ o, K.lookup p = some o ∧ o.cls = .type "tuple" ∧ o.dict = none) ∨
      (T = "dict" ∧ ((∃ kvs, H p = some (.dK kvs)) ∨ ∃ kvs, H p = some (.dT kvs))) ∨ (T = "set" ∧ ∃ S n, H p = some (.set S n))
  | _ => False
theorem tyV_is {pins : List (Addr × Obj)} {σ : St} {H : Hp} {s : Shared} {T : String} {x : V} {v : Value} (I : Inv X pins σ H s) (r : RelV x v) (ty : tyV X.K T x H) :
    s.TypeIs v T ∧ ∀ a, v = .ref a → ∃ ob, s.heap.get? a = some ob ∧ ob.dict = none := by
  cases x with
  | str z =>
    obtain ⟨t, rfl⟩ := r
    cases (show T = "str" from ty)
    exact ⟨typeIs_str s z t, fun _ e => nomatch e⟩
  | int i =>
    obtain ⟨t, rfl⟩ := r
    cases (show T = "int" from ty)
    exact ⟨typeIs_int s i t, fun _ e => nomatch e⟩
  | ref p =>
    cases r
    rcases ty with ⟨rfl, xs, hq⟩ | ⟨rfl, o, hk, hc, hd⟩ | ⟨rfl, hk⟩ | ⟨rfl, S, n, hk⟩
    · obtain ⟨its, _, pl, _⟩ := I.list hq
      refine ⟨pl.isList.typeIs, fun a e => ?_⟩
      cases e
      obtain ⟨o, n, e, c, hd, _⟩ := pl
      exact ⟨o, e, hd⟩
    · refine ⟨⟨o, I.kIn p o hk, hc⟩, fun a e => ?_⟩
      cases e
      exact ⟨o, I.kIn _ o hk, hd⟩
    · have z : ∃ o, s.heap.get? p = some o ∧ o.ExactDict := by
        rcases hk with ⟨kvs, hk⟩ | ⟨kvs, hk⟩
        · obtain ⟨_, _, _, _, o, _, _, e, ex, _⟩ := I.hok p _ hk
          exact ⟨o, e, ex⟩
        · obtain ⟨_, _, _, _, o, _, _, e, ex, _⟩ := I.hok p _ hk
          exact ⟨o, e, ex⟩
      obtain ⟨o, e, ex⟩ := z
      refine ⟨⟨o, e, ex.1⟩, fun a e2 => ?_⟩
      cases e2
      exact ⟨o, e, ex.2.1⟩
    · obtain ⟨o, _, _, _, e, ex, _⟩ := I.hok p _ hk
      refine ⟨⟨o, e, ex.1⟩, fun a e2 => ?_⟩
      cases e2
      exact ⟨o, e, ex.2.1⟩
  | _ => exact False.elim ty
def tBM (K : PySem.W.Frag) (T : String) (r : V → List V → Hp → VK → Prop) (to : TE) (t : TA) : TE := fun σ H Q => to σ H fun x H1 => tyV K T x H1 ∧ t σ H1 fun xs H2 => r x xs H2 Q
variable {o e : Expr} {es : List Expr} {to : TE} {t : TA} {name : Str} {apos cpos : Pos} {T id : String} {r : V → List V → Hp → VK → Prop}
theorem pe_bm (pa : PlainAttrs T) (slot : Slot T name id) (hty : typeOf (.builtin id) = pure (.type "method_descriptor")) (hm : MtR X id r) (ho : PE X o to) (ha : PA X (e :: es) t)
    (hbase : attributeBase o name X.env (eval o X.env) = eval o X.env := by rfl)
    (hfew : ((backTo cpos (starEach (e :: es) X.env)).all (fun x => !x.1) && (backToKw cpos (keywordEach [] X.env)).all (fun x => x.1.isSome)
      && decide ((e :: es).length + ([] : List Keyword).length + (if ([] : List Keyword).isEmpty then 0 else 1) < 30)) = true := by rfl)
    (hline : (apos.endLine == cpos.line) = true := by rfl) (hs : starEach (e :: es) X.env = (false, eval e X.env) :: starEach es X.env := by rfl) (hplain : (backTo cpos (starEach es X.env)).any (·.1) = false := by rfl) :
    PE X (.Call (.Attribute o name apos) (e :: es) [] cpos) (tBM X.K T r to t) := by
  intro pins s σ H Q I h
  refine wpAny_Call_method_late hbase hfew hline rfl (thn (ho s σ H _ I h) fun v s1 ⟨x, H1, I1, r1, ty, q1⟩ => ?_)
  obtain ⟨h1, h2⟩ := tyV_is I1 r1 ty
  refine ⟨T, id, pa, slot, hty, h1, h2, ?_⟩
  have hA := ha (pos := cpos) s1 σ H1 _ I1 q1
  rw [hs] at hA ⊢
  refine Calls.callWith_builtin (by show (false || (backTo cpos (starEach es X.env)).any (·.1)) = false; rw [hplain] <;> rfl) (Calls.evalArgs_plain ?_)
  exact thn hA fun us s2 ⟨vs, H2, I2, r2, q2⟩ => hm s2 σ H2 x vs v us Q I2 r1 r2 q2
/- xs.append(e), list.index on a module's tuple .. are MtR facts of 06m -/
end
end L2

namespace L2
open PySem PySem.Spec PyProof.Rows

def MtM (X : Cx) (id : String) (r : V → List V → Hp → VK → Prop) : Prop :=
  ∀ ⦃pins : List (Addr × Obj)⦄ (s : Shared) (σ : St) (H : Hp) (x : V) (xs : List V) (v : Value) (us : List Value) (Q : VK), Inv X pins σ H s → RelV x v → Vals xs us → r x xs H Q →
    wpAny (model X.prog X.w) X.A (call (.builtin id) (v :: us)) (EP X pins σ Q) X.xe s

/-! ### lists of values -/
theorem Vals.one : ∀ {x : V} {us : List Value}, Vals [x] us → ∃ u, us = [u] ∧ RelV x u
  | _, _, .cons r .nil => ⟨_, rfl, r⟩
theorem Vals.rep {xs : List V} {us : List Value} (h : Vals xs us) : ∀ k : Nat, Vals (List.replicate k xs).flatten (List.replicate k us).flatten
  | 0 => .nil
  | k + 1 => by
    rw [List.replicate_succ, List.replicate_succ, List.flatten_cons, List.flatten_cons]
    exact Vals.append h (Vals.rep h k)
theorem foldl_rep (its : List Value) : ∀ (k : Nat) (acc : List Value),
    List.foldl (fun x1 x2 => x1 ++ x2) acc.toArray (List.replicate k its.toArray) = (acc ++ (List.replicate k its).flatten).toArray
  | 0, acc => by simp
  | k + 1, acc => by
    have e : acc.toArray ++ its.toArray = (acc ++ its).toArray := by simp
    have e2 : (acc ++ its) ++ (List.replicate k its).flatten = acc ++ (List.replicate (k + 1) its).flatten := by
      rw [List.replicate_succ, List.flatten_cons, List.append_assoc]
    rw [← e2, ← foldl_rep its k (acc ++ its), ← e, List.replicate_succ, List.foldl_cons]

section
variable {X : Cx} {pins : List (Addr × Obj)} {σ : St} {H : Hp} {s : Shared} {l b : Addr} {xs ys zs : List V}

/-! ### the two steps: a tracked list is rewritten, a new list is laid -/
theorem Inv.lset {its its' : List Value} {n : Nat} {f : Array Value → Array Value} {t' : Nat} (I : Inv X pins σ H s) (hH : H l = some (.lst xs))
    (e : s.heap.get? l = some { cls := .type "list", data := .seq its.toArray n }) (hf : f its.toArray = its'.toArray) (hv : Vals ys its') (hz : ys.length ≤ sizeLine) :
    Inv X pins σ (upd H l (.lst ys)) { s with heap := s.heap.update l (Obj.mapSeq f), toks := t' } := by
  have q := PySem.IsL.update e f
  rw [hf] at q
  refine I.write (x := l) (e := l) (by rw [hH]; exact trivial) (.inl rfl) (fun b' u hb hu => (Heap.get?_update_other s.heap (Obj.mapSeq f) (Ne.symm hb)).trans hu) ⟨_, q⟩ ?_
  exact ⟨hz, its', _, hv, q⟩
theorem Inv.lnew {its : List Value} {t' : Nat} (I : Inv X pins σ H s) (hv : Vals ys its) (hz : ys.length ≤ sizeLine) :
    Inv X pins σ (upd H s.heap.objs.size (.lst ys)) { s with heap := s.heap.push { cls := .type "list", data := .seq its.toArray }, toks := t' } :=
  I.laid (fun _ _ q => Heap.get?_push_of_some _ q) (Nat.le_refl _) ⟨hz, its, 0, hv, Heap.get?_push_size _ rfl⟩
theorem Inv.fresh (I : Inv X pins σ H s) : H s.heap.objs.size = none := I.hok.fresh (Nat.le_refl _)
theorem Inv.lstM (I : Inv X pins σ H s) (hH : H l = some (.lst xs)) : xs.length ≤ sizeLine ∧ ∃ (its : List Value) (n : Nat), Vals xs its ∧ xs.length = its.length ∧ s.heap.get? l = some { cls := .type "list", data := .seq its.toArray n } := by
  obtain ⟨z, its, n, r, e⟩ := I.hok l _ hH
  exact ⟨z, its, n, r, r.length, e⟩

theorem notLongL {n : Nat} (h : n ≤ sizeLine) : Builtin.List.listTooLong n = false := by
  unfold Builtin.List.listTooLong
  exact decide_eq_false (by omega)
end

section
variable {X : Cx}

/-! ### methods -/
def rAppend : V → List V → Hp → VK → Prop := fun x vs H Q => ∃ l xs y, x = .ref l ∧ vs = [y] ∧ H l = some (.lst xs) ∧ xs.length < sizeLine ∧ Q .non (upd H l (.lst (xs ++ [y])))
theorem mt_append : MtM X "list.append" rAppend := by
  intro pins s σ H x vs v us Q I rx rv h
  obtain ⟨l, xs, y, rfl, rfl, hH, hz, q⟩ := h
  cases rx
  obtain ⟨u, rfl, ru⟩ := rv.one
  obtain ⟨z, its, n, r, hl, e⟩ := I.lstM hH
  refine call_meets F.slot_list_append ⟨_, e, rfl⟩ F.entry_list_append (F.args_list_append_2 _ _) (PySem.list_append l its.toArray n u (by rw [List.size_toArray]; omega)) ⟨e, ?_⟩
  refine ⟨.non, _, I.lset (its' := its ++ [u]) hH e (by simp) (r.append (.cons ru .nil)) ?_, rfl, q⟩
  rw [List.length_append, List.length_singleton]
  omega

/-! ### list + list, list += list, list * int -/
def rCat : R2 := fun x y H Q => ∃ l b xs zs, x = .ref l ∧ y = .ref b ∧ H l = some (.lst xs) ∧ H b = some (.lst zs) ∧ xs.length + zs.length ≤ sizeLine ∧ ∀ p, H p = none → Q (.ref p) (upd H p (.lst (xs ++ zs)))
theorem op_cat : OpR X (binaryOp .Add) rCat := by
  intro pins s σ H x y v u Q I rx ry h
  obtain ⟨l, b, xs, zs, rfl, rfl, hH, hB, hz, q⟩ := h
  cases rx
  cases ry
  obtain ⟨z, its, n, r, hl, e⟩ := I.lstM hH
  obtain ⟨z2, its2, n2, r2, hl2, e2⟩ := I.lstM hB
  refine PySem.P.add_list e e2 ?_ (by rw [List.size_toArray, List.size_toArray]; omega)
  have ea : its.toArray ++ its2.toArray = (its ++ its2).toArray := by simp
  rw [ea]
  exact ⟨.ref _, _, I.lnew (t' := s.toks) (r.append r2) (by rw [List.length_append]; omega), rfl, q _ I.fresh⟩
/-- a list times an int (a negative one is nothing) -/
def rRep : R2 := fun x y H Q => ∃ l k xs, x = .ref l ∧ y = .int k ∧ H l = some (.lst xs) ∧ -(2 ^ 63) ≤ k ∧ k < 2 ^ 63 ∧ xs.length * k.toNat ≤ sizeLine ∧
  ∀ p, H p = none → Q (.ref p) (upd H p (.lst (List.replicate k.toNat xs).flatten))
theorem len_rep {α : Type} (xs : List α) (k : Nat) : (List.replicate k xs).flatten.length = k * xs.length := by
  induction k with
  | zero => simp
  | succ k ih => rw [List.replicate_succ, List.flatten_cons, List.length_append, ih, Nat.succ_mul, Nat.add_comm]
theorem op_rep : OpR X (binaryOp .Mult) rRep := by
  intro pins s σ H x y v u Q I rx ry h
  obtain ⟨l, k, xs, rfl, rfl, hH, h1, h2, hz, q⟩ := h
  cases rx
  obtain ⟨t, rfl⟩ := ry
  obtain ⟨z, its, n, r, hl, e⟩ := I.lstM hH
  have hlen : its.toArray.size * k.toNat ≤ sizeLine := by rw [List.size_toArray, ← hl]; exact hz
  have hcap : ¬ its.toArray.size * k.toNat > (2 ^ 63 - 1) / 8 := by
    have : (sizeLine : Nat) ≤ (2 ^ 63 - 1) / 8 := by decide
    omega
  have hfit : ¬ (!Builtin.List.listFitsIndex k) = true := by
    rw [fitsIndex_both h1 h2]
    exact Bool.false_ne_true
  have hlong : ¬ Builtin.List.listTooLong (its.toArray.size * k.toNat) = true := by
    rw [notLongL hlen]
    exact Bool.false_ne_true
  have hnew : List.foldl (fun x1 x2 => x1 ++ x2) #[] (List.replicate (if its.toArray.isEmpty = true then 0 else k.toNat) its.toArray) = (List.replicate k.toNat its).flatten.toArray := by
    have f0 : ∀ m : Nat, List.foldl (fun x1 x2 => x1 ++ x2) #[] (List.replicate m its.toArray) = (List.replicate m its).flatten.toArray := fun m => by
      have := foldl_rep its m []
      rw [List.nil_append] at this
      exact this
    rw [f0]
    cases its with
    | nil => simp
    | cons a r' => rw [if_neg (by simp)]
  refine wpAny_binaryOp_repeat_ref (T := "list") (U := "int") (by decide) ⟨_, e, rfl⟩ (fun s' => typeIs_int s' k t) noFill_list_mul F.fills_int_mul F.slot_int_rmul repeat_list F.slot_int_index.lookup
    (call_meets F.slot_int_rmul (typeIs_int s k t) F.entry_int_rmul (F.args_int_rmul_2 _ _) (int___rmul___int_list k t l its.toArray n)
      ⟨e, rfl, ⟨_, e, rfl⟩, call_meets F.slot_list_mul ⟨_, e, rfl⟩ F.entry_list_mul (F.args_list_mul_2 _ _) (AutoListH.list___mul___list_int_3 l its.toArray n k t hfit hcap hlong) ⟨e, ?_⟩⟩)
  rw [hnew]
  exact ⟨.ref _, _, I.lnew (t' := s.toks) (r.rep k.toNat) (by rw [len_rep, Nat.mul_comm]; exact hz), rfl, q _ I.fresh⟩

/-! ### del xs[i] -/
end

/-! ### xs[a:b] = ys -/
section
variable {prog : Program} {w : World} {A : Around} {E : Value → Shared → Prop} {s : Shared}
set_option maxRecDepth 100000 in
end

section
variable {X : Cx}
end
end L2

namespace Att
open PySem PySem.W PySem.Calls PyProof.Rows

/-! ### the script -/
theorem ints_of_wellAll {P : Params} {h : Heap} : ∀ (ns : List Int) (vs : List Value), WellAll P h vs (ns.map WData.int) → IntsAre vs ns := by
  intro ns
  induction ns with
  | nil =>
    intro vs w
    rw [List.map_nil] at w
    cases w
    exact .nil
  | cons n ns ih =>
    intro vs w
    rw [List.map_cons] at w
    cases w with
    | cons a b =>
      cases a
      exact .cons _ _ (ih _ b)

theorem script_of {l : OpenLaw} {n : Nat} (hn : l.most = some n) {P : Params} {h : Heap} {args : List WData} {vals : List Value}
    (hpre : l.row.toRowW.claim.pre args = true) (hwl : WellAll P h vals args) :
    ∃ a vs ns, vals = [Value.ref a] ∧ args = [WData.list (ns.map WData.int)] ∧ h.get? a = some { cls := .type "list", data := .seq vs.toArray } ∧ IntsAre vs ns ∧ ns.length ≤ n := by
  have hsh : WShape.hasAll [] args [.list .int] = true := (pre_splitW hpre).1
  have hc : l.pre.holds [] { args := args } = true := (pre_splitW hpre).2
  obtain ⟨d, r, rfl, h1, h2⟩ := hasAllW_cons hsh
  obtain rfl := hasAllW_nil h2
  obtain ⟨xs, rfl, h3⟩ := hasW_list h1
  obtain ⟨ns, rfl⟩ := items_int h3
  have hlen : ns.length ≤ n := by
    unfold OpenLaw.pre at hc
    have h4 : (WTm.not (.lt (.lit (.int (n : Int))) (.len (.arg 0)))).holds [] { args := [.list (ns.map .int)] } = true := by
      have h4 := (holds_andW hc).1
      rw [hn] at h4
      exact h4
    have h5 := condW_of h4 (w_not (w_lt w_lit (w_len_list (w_arg rfl))))
    rw [List.length_map] at h5
    refine Nat.le_of_not_lt fun q => ?_
    have q' : (n : Int) < ((ns.length : Nat) : Int) := by omega
    first
      | (rw [decide_eq_true q'] at h5; exact absurd h5 (by decide))
      | (simp at h5; omega)
  cases hwl with
  | cons w1 w2 =>
    cases w2
    cases w1 with
    | list ho hall => exact ⟨_, _, ns, rfl, rfl, ho, ints_of_wellAll ns _ hall, hlen⟩

theorem post_true (l : OpenLaw) (args : List WData) : l.row.toRowW.claim.post args (.bool true) args = true :=
  postW_of (r := l.row.toRowW) (X := (true == true))
    (show WShape.has [] (.bool true) .bool = true by first | rfl | decide | simp [WShape.has, WShape.arms, WShape.armsAll])
    (show (WTm.eq .res (.lit (.bool true))).value [] { args := args, res := some (.bool true), after := args } = some (.bool (true == true)) from w_eq_bool (w_res rfl) w_lit) rfl

/-! ### the attachment: holds_open's last premise (the goal 'hc' behind k_head) from a wpAny of the law's body -/
/-- the same from a codeAny of the CALL (for a layer whose function contracts speak of calls) -/
theorem attach_call {l : OpenLaw} {n : Nat} {q : Program} {loose : List Str} {XP : (Str → Option Value) → Heap → Prop} {YP : World → Heap → Prop} {d : DefRec}
    (hn : l.most = some n) (hdf : d.params.defaults = [])
    (call : ∀ (w : World) (s₀ s₁ : Shared) (mg mb : Str → Option Value) (fa : Addr) (o : Obj) (pm cd doc : Value) (a : Addr) (vs : List Value) (ns : List Int),
      Ground q loose [] XP w s₀ mg mb s₁.heap → YP w s₁.heap →
      s₁.heap.get? fa = some o → o.data = .func (docDef d.name d.params d.body d.scope pm cd doc) → s₁.heap.CodeRec cd d.name → mg d.name = some (.ref fa) →
      s₁.heap.get? a = some { cls := .type "list", data := .seq vs.toArray } → IntsAre vs ns → ns.length ≤ n → s₁.gens = #[] →
      codeAny (model l.prog w) callerA (.call (.ref fa) ⟨[.ref a], []⟩) (fun r s' => r = .ok (.ret (.bool true)) ∧ OldK s₁.heap s'.heap ∧ s'.os = s₁.os ∧ AllBare s'.gens) s₁) :
    WalkO q loose XP YP l.row.toRowW d [] (fun f vs => PySem.call f vs) := by
  intro w s₀ s₁ mg mb G Y fa o pm cd doc dV kV ho hd hcd hD hmg hg args vals as hpre hlay hrd hwl hlo
  obtain rfl : dV = .none := Dflts.none hD hdf
  obtain rfl : kV = .none := Dflts.noKw hD
  obtain ⟨a, vs, ns, rfl, rfl, hobj, hints, hlen⟩ := script_of hn hpre hwl
  refine enter_call (codeAny_mono (call w s₀ s₁ mg mb fa o pm cd doc a vs ns G Y ho (fd_plain hd) hcd hmg hobj hints hlen hg) fun r s' hq => ?_)
  obtain ⟨rfl, h2, h3, h4⟩ := hq
  exact ⟨.inl ⟨.bool true, .bool true, [], rfl, fun _ => rfl, .bool true, post_true l _, fun _ => ⟨List.Pairwise.nil, fun _ hm => (nomatch hm)⟩⟩, h2, h3, h4⟩

/-! ### rules over ANY heap (no ledger) from facts about the written part K: the library's own take a ledger (News) for what they write -/
section
variable {prog : Program} {w : World} {A : Around} {E : Value → Shared → Prop} {s : Shared} {K : Frag}

/-! the whole heap as the ledger: makes every rule that writes through a ledger a rule over any heap -/
end
end Att

namespace L2
open PySem PySem.Spec PyProof.Rows

theorem vals_ints : ∀ {vs : List Value} {ns : List Int}, IntsAre vs ns → Vals (ns.map V.int) vs
  | _, _, .nil => .nil
  | _, _, .cons n t h => .cons ⟨t, rfl⟩ (vals_ints h)

/-- nothing is tracked but the script, known to the object (or it is an object of the module) -/
def Only (H : Hp) : Prop := ∀ b, H b = none ∨ ∃ o xs, H b = some (.frz o (.lst xs))

/-- THE HEAD: the law's promise, at the heap behind the top. F, the promise of the law's def, may use that base is part of the heap (so K.In base, base.Ns mainGlobals mg stand in Mod) -/
theorem law_call {P : Program} {w : World} {K : PySem.W.Frag} {mg mb : Str → Option Value} {CX : CXT} {k : Nat} {fa a : Addr} {fd : FuncData} {x : Str} {sp : Sp} {s₁ : Shared} {vs : List Value} {ns : List Int}
    (KX : K.In s₁.heap) (hns : s₁.heap.Ns mainGlobals mg) (hb : s₁.heap.Ns builtinsNs mb) (hbb : ∀ x : Str, x ≠ "__name__" → mb x = bootBuiltins x) (hlim : s₁.heap.NoLimit) (hg : s₁.gens = #[])
    (ha : s₁.heap.get? a = some { cls := .type "list", data := .seq vs.toArray }) (hi : IntsAre vs ns) (hl : ns.length ≤ sizeLine) (hr : Room k callerA)
    (F : ∀ base : Heap, K.In base → base.Ns mainGlobals mg → FnOk P w K mg base CX k fa fd [x] sp) (hbind : ∀ (s : Shared) (u : Value), BindsTo s fd ⟨[u], []⟩ [(x, u)])
    (hsp : ∀ H : Hp, Only H → SqL K H a (ns.map V.int) → sp [.ref a] H (fun v _ => v = .bl true) fun _ _ _ => False)
    (hCX : ∀ H e s', CX [] H s₁ (fun _ _ _ => False) e s' → False) :
    codeAny (model P w) callerA (.call (.ref fa) ⟨[.ref a], []⟩) (fun r s' => r = .ok (.ret (.bool true)) ∧ OldK s₁.heap s'.heap ∧ s'.os = s₁.os ∧ AllBare s'.gens) s₁ := by
  have rv := vals_ints hi
  have lenV := hi.length
  -- from an abstract heap in which nothing but the script may be tracked
  have core : ∀ H : Hp, Only H → SqL K H a (ns.map V.int) → HOk P w H s₁.heap → (∀ b, H b ≠ none → b = a) → (H a ≠ none → K.lookup a = none) →
      codeAny (model P w) callerA (.call (.ref fa) ⟨[.ref a], []⟩) (fun r s' => r = .ok (.ret (.bool true)) ∧ OldK s₁.heap s'.heap ∧ s'.os = s₁.os ∧ AllBare s'.gens) s₁ := by
    intro H hO hS hok hA hK
    have base_of : ∀ {b : Addr} {o : Obj}, s₁.heap.get? b = some o → H b = none → (hidT s₁.heap H).get? b = some o := fun e n => hidT_get e n
    have noA : ∀ {b : Addr} {o : Obj} {es : Array DictEntry} {ep : Nat}, s₁.heap.get? b = some o → o.data = .dict es ep → H b = none := fun {b o es ep} e d => by
      cases q : H b with
      | none => rfl
      | some u =>
        have e' : b = a := hA b (by rw [q]; simp)
        subst e'
        rw [ha] at e; cases e
        have d' : Data.seq vs.toArray _ = Data.dict es ep := d
        cases d'
    have nsK : ∀ {b : Addr} {m : Str → Option Value}, s₁.heap.Ns b m → (hidT s₁.heap H).Ns b m := fun {b m} ⟨o, es, ep, e, d, r⟩ => ⟨o, es, ep, base_of e (noA e d), d, r⟩
    have hKb : K.In (hidT s₁.heap H) := fun b o e => base_of (KX b o e) (by
      cases q : H b with
      | none => rfl
      | some u =>
        have e' : b = a := hA b (by rw [q]; simp)
        subst e'
        rw [hK (by rw [q]; simp)] at e; cases e)
    have hM : Mod K mg (hidT s₁.heap H) := ⟨hKb, nsK hns, ⟨mb, nsK hb, hbb⟩, let ⟨mc, h1, h2⟩ := hlim; ⟨mc, nsK h1, h2⟩⟩
    have e0 : Env0 P w K mg (hidT s₁.heap H) callerA [] s₁ H := ⟨rfl, hM, fun b o e => of_hidT e, Nat.le_of_eq (hidT_size _ _), trivial, fun b hb => absurd (show b ∈ ([] : List Addr) from hb) (by simp), hok, .of_eq hg⟩
    refine codeAny_mono ((F _ hKb (nsK hns)).run callerA [] s₁ H ⟨[.ref a], []⟩ [.ref a] [.ref a] _ _ hr e0 (hbind s₁ (.ref a)) (.cons rfl .nil) (hsp H hO hS)) fun r s' h => ?_
    cases r with
    | error e => exact (hCX H e s' h).elim
    | ok fl =>
      cases fl with
      | next => exact False.elim h
      | brk => exact False.elim h
      | cont => exact False.elim h
      | ret u =>
        obtain ⟨v, H', os, bare, un, hok', r', q⟩ := h
        have q' : v = .bl true := q
        subst q'
        obtain rfl : u = Value.bool true := r'
        refine ⟨rfl, OldK.of_keep fun b o e => ?_, os, bare⟩
        cases q : H b with
        | none => exact un.keep b o e q (by intro z; exact absurd (show b ∈ ([] : List Addr) from z) (by simp)) (by simp)
        | some u =>
          rcases hO b with z | ⟨ob, xs, z⟩
          · rw [q] at z; cases z
          · have z2 := un.frzs b ob _ z
            obtain ⟨e1, _⟩ := hok b _ z
            obtain ⟨e2, _⟩ := hok' b _ z2
            rw [e] at e1; cases e1
            exact e2
  cases hk : K.lookup a with
  | some o =>
    -- the script is one of the module's own objects
    have e := KX a o hk
    rw [ha] at e
    cases e
    refine core (fun _ => none) (fun _ => .inl rfl) (.inr ⟨_, vs.toArray, _, hk, rfl, rfl, rfl, by rw [List.size_toArray, lenV]; exact hl, by simpa using rv⟩) (fun b u z => by have z' : (none : Option HO) = some u := z; cases z') (fun b z => absurd rfl z) fun z => absurd rfl z
  | none =>
    refine core (fun b => if b = a then some (.frz { cls := .type "list", data := .seq vs.toArray } (.lst (ns.map V.int))) else none) (fun b => ?_) (.inl (.inr ⟨{ cls := .type "list", data := .seq vs.toArray }, if_pos rfl⟩)) (fun b u z => ?_) (fun b z => ?_) fun _ => hk
    · by_cases hb : b = a
      · exact .inr ⟨_, _, if_pos hb⟩
      · exact .inl (if_neg hb)
    · by_cases hb : b = a
      · have z' := (if_pos hb).symm.trans z
        cases z'
        subst hb
        exact ⟨ha, by rw [List.length_map]; exact hl, vs, _, rv, ha⟩
      · have z' := (if_neg hb).symm.trans z
        cases z'
    · by_cases hb : b = a
      · exact hb
      · exact absurd (if_neg hb) z
end L2

namespace L2
open PySem PySem.Spec PyProof.Rows

/-- the goal that k_head leaves (case hc), from the law's promise. F gives the function object fd (K's own) once, then the promise over every base -/
theorem walk_of {l : PySem.W.OpenLaw} {n k : Nat} {q : Program} {loose : List Str} {XP : (Str → Option Value) → Heap → Prop} {YP : World → Heap → Prop} {d : DefRec} {K : Params → PySem.W.Frag} {CX : World → CXT} {sp : World → Sp} {x : Str}
    (hn : l.most = some n) (hn2 : n ≤ sizeLine) (hdf : d.params.defaults = []) (hr : Room k callerA)
    (hY : ∀ (w : World) (h : Heap), YP w h → (K w.params).In h)
    (F : ∀ (w : World) (mg : Str → Option Value) (fa : Addr) (h : Heap), (K w.params).In h → h.Ns mainGlobals mg → mg d.name = some (.ref fa) →
      ∃ fd : FuncData, (∀ (s : Shared) (u : Value), BindsTo s fd ⟨[u], []⟩ [(x, u)]) ∧
        ∀ base : Heap, (K w.params).In base → base.Ns mainGlobals mg → FnOk l.prog w (K w.params) mg base (CX w) k fa fd [x] (sp w))
    (hsp : ∀ (w : World) (H : Hp) (a : Addr) (ns : List Int), ns.length ≤ n → Only H → SqL (K w.params) H a (ns.map V.int) → sp w [.ref a] H (fun v _ => v = .bl true) fun _ _ _ => False)
    (hCX : ∀ (w : World) (H : Hp) (s : Shared) (e : Value) (s' : Shared), CX w [] H s (fun _ _ _ => False) e s' → False) :
    PySem.W.WalkO q loose XP YP l.row.toRowW d [] (fun f vs => PySem.call f vs) := by
  refine Att.attach_call hn hdf fun w s₀ s₁ mg mb fa o pm cd doc a vs ns G Y ho hd hcd hmg hobj hints hlen hg => ?_
  have KX := hY w _ Y
  obtain ⟨fd, hb, hF⟩ := F w mg fa _ KX G.T.g hmg
  exact law_call KX G.T.g G.T.b G.T.builtins G.T.nolimit hg hobj hints (Nat.le_trans hlen hn2) hr hF hb (fun H hO hS => hsp w H a ns hlen hO hS) fun H e s' => hCX w H s₁ e s'
end L2

/- THE LAST THEOREM (shape; LID, My.* are yours):
   My.Adr: a structure of the addresses that your layer names (classes, functions); My.Txt K t: a structure (Prop) of the equations over K;
   My.txt_mk : {K} {implicit addresses ..} (e1 : nsIn K mainGlobals "law" = some (some (.ref f))) (e2 : K.lookup f = some ⟨oc, od, .func (fnOf "law" "law" params body scope dV kV doc pm an cdv ct), sl⟩) (e3 : codeIn K cdv "law" = true) .. : ∃ t, My.Txt K t

set_option maxRecDepth 100000 in
set_option maxHeartbeats 0 in
theorem PySem.Challenge.cw_LID_holds : PySem.Challenge.rw_LID.Holds := by
  w_on; o_law; k_head; (case hw => w_witness2)
  k_fill
  refine L2.walk_of (l := PySem.Challenge.rw_LID) (n := 63) (k := 40) (x := "script") (CX := fun w => ..) (sp := fun _ => My.sp_law) rfl (by decide) rfl ⟨rfl, by decide, by decide⟩ (fun w h Y => PySem.W.kIn_of Y) ?F ?S ?C
  case F =>
    intro w mg fa h KX G hmg
    have T : ∃ t, My.Txt (L2.KOf KX) t := by
      dsimp only [L2.KOf]                          -- K must stand as «<heap const> w.params» for k_is
      refine' My.txt_mk ?e1 ?e2 ?e3 ..
      (case e1 => PySem.W.k_is)                    -- in the order: a name -> its address -> its object -> its parts
      (case e2 => PySem.W.k_is)
      ..
    obtain ⟨t, T⟩ := T
    have e0 := hmg.symm.trans (PySem.W.mg_of KX G T.law)
    cases e0                                       -- fa is the law's own address
    exact ⟨_, fun s u => .of_eq rfl, fun base kb nb => My.law_fn T kb nb⟩     -- if «.of_eq rfl» comes too early: refine' ⟨_, ?b, fun base kb nb => My.law_fn T kb nb⟩; exact fun s u => .of_eq rfl
  case S => exact fun w H a ns hl hO hS => ..
  case C => exact ..
(the tactic k_is has no namespace: write k_is) -/

/-! SHORT WORDS over the layer: a def of the text, its body, what a loop and a test want. -/
namespace L2
open PySem PySem.Spec PyProof.Rows

/-! ### the text by places -/
def defArgs (s : Stmt) : Arguments := match s with
  | .FunctionDef _ a _ _ _ _ _ _ _ _ => a
  | _ => { posonlyargs := [], args := [], vararg := none, kwonlyargs := [], kw_defaults := [], kwarg := none, defaults := [] }
def defBody (s : Stmt) : List Stmt := match s with
  | .FunctionDef _ _ b _ _ _ _ _ _ _ => b
  | _ => []
def defScope (s : Stmt) : Scope := match s with
  | .FunctionDef _ _ _ _ _ _ sc _ _ _ => sc
  | _ => { kind := .function, names := [], isGenerator := false, isCoroutine := false }

/-! ### no exception leaves a def -/
abbrev CX0 : CXT := fun _ _ _ _ _ _ => False
abbrev E0 : XK := fun _ _ _ => False
theorem pass0 {X : Cx} : Passes CX0 X E0 := fun _ _ _ _ _ _ _ h => h.elim

/-! ### a def (or method) of the text as it stands behind the top -/
structure Fun (K : PySem.W.Frag) (x qual : Str) (st : Stmt) (f : Addr) (fd : FuncData) : Prop where
  ex : ∃ (oc : Value) (od : Option Addr) (kV doc pm : Value) (an : Option Addr) (cdv ct : Value) (osl : Array (Option Value)),
    fd = PySem.W.fnOf x qual (defArgs st) (defBody st) (defScope st) .none kV doc pm an cdv ct ∧ K.lookup f = some ⟨oc, od, .func fd, osl⟩ ∧ PySem.W.codeIn K cdv qual = true
  kp : PySem.W.keepIn K (.ref f) = true
section
variable {P : Program} {w : World} {K : PySem.W.Frag} {mg : Str → Option Value} {base : Heap}
/-- THE RULE for a def: its body as a term of rules, and the reading of that term -/
theorem Fun.ok {x qual : Str} {st : Stmt} {f : Addr} {fd : FuncData} {N ps : List Str} {k : Nat} {sp : Sp} (F : Fun K x qual st f fd) (S : FnScope N ps (defScope st)) (len : ∀ vs H Q E, sp vs H Q E → vs.length = ps.length)
    (hbody : ∀ (cdv : Value) (A : Around) (outer : List Env) (s : Shared) (H : Hp) (vs : List V) (Q : VK) (E : XK), Room k (A.deeper (envOfC qual (defScope st) s.heap.objs.size f cdv)) → sp vs H Q E →
      ∃ t, PSs (cxOf CX0 P w K mg base N qual (defScope st) f cdv A outer s H E).nox (defBody st) t ∧ t { nx := fun _ H' => Q .non H', rt := Q } (start N vs) H) : FnOk P w K mg base CX0 (k + 1) f fd ps sp := by
  obtain ⟨oc, od, kV, doc, pm, an, cdv, ct, osl, rfl, lk, hcd⟩ := F.ex
  refine fn_of lk hcd S len fun A outer s H vs Q E hr hsp => ?_
  obtain ⟨t, h, q⟩ := hbody cdv A outer s H vs Q E hr hsp
  exact ⟨t, h.nox, q⟩
/-- how its arguments bind (no defaults): h is «fun _ _ _ _ _ _ us hl => match us, hl with | [_, _], _ => rfl», one _ a parameter -/
theorem Fun.binds {x qual : Str} {st : Stmt} {f : Addr} {fd : FuncData} {ps : List Str} (F : Fun K x qual st f fd)
    (h : ∀ (kV doc pm : Value) (an : Option Addr) (cdv ct : Value) (us : List Value), us.length = ps.length → bindArgs (PySem.W.fnOf x qual (defArgs st) (defBody st) (defScope st) .none kV doc pm an cdv ct) ⟨us, []⟩ = pure (ps.zip us)) : Binds K fd ps [] := by
  obtain ⟨oc, od, kV, doc, pm, an, cdv, ct, osl, rfl, lk, hcd⟩ := F.ex
  exact .all (h kV doc pm an cdv ct)
theorem fun_mk {x qual : Str} {st : Stmt} {f : Addr} {oc : Value} {od an : Option Addr} {osl : Array (Option Value)} {kV doc pm cdv ct : Value} (l : K.lookup f = some ⟨oc, od, .func (PySem.W.fnOf x qual (defArgs st) (defBody st) (defScope st) .none kV doc pm an cdv ct), osl⟩)
    (c : PySem.W.codeIn K cdv qual = true) (k : PySem.W.keepIn K (.ref f) = true) : Fun K x qual st f (PySem.W.fnOf x qual (defArgs st) (defBody st) (defScope st) .none kV doc pm an cdv ct) := ⟨⟨oc, od, kV, doc, pm, an, cdv, ct, osl, rfl, l, c⟩, k⟩
end
theorem hu_of {A : Around} {k : Nat} (hr : Room k A) : A.units + 1 < cLine := Nat.lt_of_le_of_lt (Nat.add_le_add_left (by decide : 1 ≤ 64) _) hr.units
/-! ### expressions in short: the name that stands in the i-th slot -/
section
variable {X : Cx}
theorem pv (i : Nat) {x : Str} {pos : Pos} (hN : X.N[i]? = some x := by rfl) (hv : Vis X.env.scope x := by first | exact Or.inl rfl | exact Or.inr (Or.inl rfl) | exact Or.inr (Or.inr rfl)) (hd : (x == ("__debug__" : Str)) = false := by decide)
    (hcd : (x == ("__classdict__" : Str)) = false := by decide) : PE X (.Name x pos) (tVar i) := pe_var hN hv hd hcd
end

/-! ### tests -/
theorem iteF {A B : Prop} (h : B) : if false = true then A else B := by
  rw [if_neg Bool.false_ne_true]
  exact h
theorem iteT {A B : Prop} (h : A) : if true = true then A else B := by
  rw [if_pos rfl]
  exact h
theorem ite2 {c A B : Prop} [Decidable c] (h1 : c → A) (h2 : ¬ c → B) : if c then A else B := by
  by_cases h : c
  · rw [if_pos h]
    exact h1 h
  · rw [if_neg h]
    exact h2 h
/-! ### heaps -/
/-- all that was tracked is as it was -/
def Same (H H' : Hp) : Prop := ∀ b o, H b = some o → H' b = some o
theorem Same.refl (H : Hp) : Same H H := fun _ _ h => h
theorem Same.trans {H H1 H2 : Hp} (a : Same H H1) (b : Same H1 H2) : Same H H2 := fun c o h => b c o (a c o h)
theorem Same.free {H H' : Hp} (e : Same H H') {l : Addr} (h : H' l = Option.none) : H l = Option.none := by
  cases q : H l with
  | none => rfl
  | some o =>
    rw [e l o q] at h
    cases h
theorem Same.seq {K : PySem.W.Frag} {H H' : Hp} {a : Addr} {xs : List V} (e : Same H H') (h : SqL K H a xs) : SqL K H' a xs := by
  rcases h with (h | ⟨o, h⟩) | h
  · exact .inl (.inl (e _ _ h))
  · exact .inl (.inr ⟨o, e _ _ h⟩)
  · exact .inr h

end L2


namespace L2
open PySem PySem.Spec PyProof.Rows
section
variable {X : Cx}
end
end L2

namespace L2
open PySem PySem.Spec PyProof.Rows

/-! ### a dict's pairs: keys that differ -/
section
variable {κ : Type} [DecidableEq κ]
end
end L2

set_option Elab.async false
set_option linter.all false
set_option maxRecDepth 100000
set_option maxHeartbeats 4000000
/-! comprehensions over the hand layer -/
namespace L2
open PySem PySem.Spec PyProof.Rows

abbrev noE : Value → Shared → Prop := fun _ _ => False
theorem noE_to {α : Type} {M : Model} {A : Around} {t : Sem α} {Q : α → Shared → Prop} {E : Value → Shared → Prop} {s : Shared} (h : wpAny M A t Q noE s) : wpAny M A t Q E s :=
  wpAny_mono h (fun _ _ q => q) fun _ _ z => z.elim

theorem addr_ne {a b : Addr} {n : Nat} (h : a < n) (h' : n ≤ b) : a ≠ b := fun e => absurd (Nat.lt_of_lt_of_le h h') (by rw [e]; exact Nat.lt_irrefl _)
theorem addr_ne' {a b : Addr} {n : Nat} (h : a < n) (h' : n ≤ b) : b ≠ a := fun e => addr_ne h h' e.symm

theorem closure_go (env : Env) : ∀ (names : List (Str × NameKind)) (acc : List (Str × Addr)),
    (∀ y ∈ names, y.2 = .free → ∃ c, env.cells.lookup y.1 = some c) → (∀ n c, acc.lookup n = some c → env.cells.lookup n = some c) →
    ∃ cl, (forIn names acc fun (x : Str × NameKind) (cs : List (Str × Addr)) => (if (x.2 == NameKind.free) = true then do
        let a ← cellOf env x.1
        pure (ForInStep.yield ((x.1, a) :: cs)) else pure (ForInStep.yield cs) : Sem (ForInStep (List (Str × Addr))))) = pure cl ∧
      (∀ n c, cl.lookup n = some c → env.cells.lookup n = some c) ∧ (∀ n c, acc.lookup n = some c → ∃ c', cl.lookup n = some c') ∧ ∀ y ∈ names, y.2 = .free → ∃ c, cl.lookup y.1 = some c
  | [], acc, _, h2 => ⟨acc, rfl, h2, fun _ c h => ⟨c, h⟩, fun _ h => nomatch h⟩
  | (n, k) :: r, acc, h1, h2 => by
    have hr : ∀ y ∈ r, y.2 = .free → ∃ c, env.cells.lookup y.1 = some c := fun y hy => h1 y (List.mem_cons_of_mem _ hy)
    by_cases hk : k = .free
    · subst hk
      obtain ⟨c, hc⟩ := h1 (n, .free) List.mem_cons_self rfl
      obtain ⟨cl, e, p1, p2, p3⟩ := closure_go env r ((n, c) :: acc) hr (fun m d hm => by
        rw [List.lookup_cons] at hm
        by_cases q : m == n
        · rw [q] at hm
          have : m = n := by simpa using q
          subst this
          cases hm
          exact hc
        · have q' : (m == n) = false := by simpa using q
          rw [q'] at hm
          exact h2 m d hm)
      refine ⟨cl, ?_, p1, fun m d hm => ?_, fun y hy hf => ?_⟩
      · rw [List.forIn_cons]
        rw [← e]
        show (cellOf env n >>= fun a => _) >>= _ = _
        unfold cellOf
        rw [hc]
        rfl
      · by_cases q : m = n
        · subst q
          exact p2 m c (by rw [List.lookup_cons]; simp)
        · exact p2 m d (by rw [List.lookup_cons]; simp only [beq_eq_false_iff_ne.mpr q]; exact hm)
      · rcases List.mem_cons.mp hy with rfl | hy
        · exact p2 n c (by rw [List.lookup_cons]; simp)
        · exact p3 y hy hf
    · obtain ⟨cl, e, p1, p2, p3⟩ := closure_go env r acc hr h2
      refine ⟨cl, ?_, p1, p2, fun y hy hf => ?_⟩
      · rw [List.forIn_cons, ← e]
        have hb : (k == NameKind.free) = false := by simpa using hk
        simp only [hb, Bool.false_eq_true, if_false]
        rfl
      · rcases List.mem_cons.mp hy with rfl | hy
        · exact absurd hf hk
        · exact p3 y hy hf
theorem closure_of {scope : Scope} {env : Env} (h : ∀ y ∈ scope.names, y.2 = .free → ∃ c, env.cells.lookup y.1 = some c) :
    ∃ cl, closureFor scope env = pure cl ∧ (∀ n c, cl.lookup n = some c → env.cells.lookup n = some c) ∧ ∀ y ∈ scope.names, y.2 = .free → ∃ c, cl.lookup y.1 = some c := by
  obtain ⟨cl, e, p1, _, p3⟩ := closure_go env scope.names [] h (fun n c h => by simp at h)
  refine ⟨cl, ?_, p1, p3⟩
  unfold closureFor
  refine Eq.trans ?_ (congrArg (fun m => m >>= fun (cs : List (Str × Addr)) => (pure cs : Sem _)) e)
  rfl

def testsOf (ifs : List Expr) (env : Env) : Sem Bool := forIn ifs true fun c r => if r = true then do let ok ← isTrue c env (eval c env); pure (ForInStep.yield ok) else pure (ForInStep.yield r)

section
variable {prog : Program} {w : World} {A : Around} {R : Result → Shared → Prop} {s : Shared}
theorem comp_turns {elt target iter : Expr} {ifs : List Expr} {scope : Scope} {pos : Pos} {it acc : Value} {env : Env} (I : Nat → Shared → Prop)
    (turn : ∀ n s, I n s → wpAny (model prog w) A (pyNext it) (fun r s1 => match r with
      | none => R (.ok .next) s1
      | some v => wpAny (model prog w) A (letOwnedTupleGo target it v) (fun _ s1' => wpAny (model prog w) A (assign target env v) (fun _ s2 =>
          wpAny (model prog w) A (testsOf ifs env) (fun ok s3 =>
            if ok = true then wpAny (model prog w) A (eval elt env) (fun x s4 =>
              wpAny (model prog w) A (call (.builtin "list.append") [acc, x]) (fun _ s5 => ∃ m, m < n ∧ I m s5) noE s4) noE s3
            else ∃ m, m < n ∧ I m s3) noE s2) noE s1') noE s1) noE s)
    (n : Nat) (h : I n s) : codeAny (model prog w) A (.compLoop (.ListComp elt [⟨target, iter, ifs, 0⟩] scope pos) 0 it acc env) R s := by
  refine codeAny_loop rfl I (fun n s hI => (show wpAny _ A (Sem.onRaise (compTurn (.ListComp elt [⟨target, iter, ifs, 0⟩] scope pos) 0 it acc env) (fun x => do noteFrame x env; theTreesLotGoes x)) _ _ s from wpAny_noted ?_)) n h
  rw [compTurn_list]
  refine wpAny_bind (wpAny_standAt (wpAny_bind (noE_to (thn (turn n s hI) fun r s1 h1 => ?_))))
  cases r with
  | none => exact wpAny_pure h1
  | some v =>
    refine wpAny_bind (noE_to (thn h1 fun _ s1' h1' => ?_))
    refine wpAny_bind (noE_to (thn h1' fun _ s2 h2 => wpAny_bind (noE_to (thn h2 fun ok s3 h3 => ?_))))
    cases ok with
    | false => exact wpAny_pure ⟨rfl, h3⟩
    | true => exact wpAny_bind (wpAny_bind (noE_to (thn h3 fun x s4 h4 => wpAny_bind (noE_to (thn h4 fun _ s5 h5 => wpAny_pure (wpAny_pure ⟨rfl, h5⟩))))))
end

theorem HOk.adopt {P : Program} {w : World} {H : Hp} {h : Heap} {a : Addr} {o : HO} (x : HOk P w H h) (hn : H a = none) (new : ObjOk P w (upd H a o) h a o) : HOk P w (upd H a o) h := fun b u e => by
  by_cases hb : b = a
  · subst hb; rw [upd_same] at e; cases e; exact new
  · rw [upd_ne hb] at e
    exact (x b u e).stay (fun c v _ q => q) (fun c q => by rw [upd_ne (ne_of_none q hn)]; exact q) fun c xs q => by rw [upd_ne (ne_of_none q hn)]; exact q

/-- what a comprehension's block stands in: Nc its own names, Fc the captured ones, js their places among the names around -/
structure CompOk (X : Cx) (scope : Scope) (Nc Fc : List Str) (js : List Nat) : Prop where
  kind : scope.kind = .function
  nocell : ∀ y ∈ scope.names, y.2 ≠ .cell
  names : ∀ y ∈ scope.names, y.2 = .local → scope.names.lookup y.1 = some .local
  free : ∀ y ∈ scope.names, y.2 = .free → X.env.kindOf y.1 = some .cell ∨ X.env.kindOf y.1 = some .free
  frees : ∀ (k : Nat) (x : Str), Fc[k]? = some x → scope.names.lookup x = some .free ∧ ∃ j, js[k]? = some j ∧ X.N[j]? = some x
  lens : js.length = Fc.length

def cvals (σ : St) (js : List Nat) : St := js.map fun j => (σ[j]?).join

def cxC (X : Cx) (Nc Fc : List Str) (scope : Scope) (cl : List (Str × Addr)) (C : Addr) (s : Shared) (H : Hp) (fp : List Addr) : Cx :=
  { X with N := Nc ++ Fc, s₀ := s, H₀ := H, env := compEnvC scope cl C X.env, outer := X.stack, stack := X.stack, ex := fp, fn := fun _ => false, pn := [], xe := noE }

theorem relabel_free {env : Env} : ∀ {names : List (Str × NameKind)} {x : Str} {k : NameKind}, (names.map fun (n, k) => if (k == NameKind.free && env.scope.kind == .function && env.kindOf n == some .cell) then (n, NameKind.cell) else (n, k)).lookup x = some k →
    names.lookup x = some k ∨ (k = .cell ∧ names.lookup x = some .free)
  | [], _, _, h => by simp at h
  | (n, k0) :: r, x, k, h => by
    have ih := @relabel_free env r x k
    rw [List.map_cons] at h
    dsimp only at h
    by_cases hx : x = n
    · subst hx
      by_cases hc : (k0 == NameKind.free && env.scope.kind == .function && env.kindOf x == some .cell) = true
      · rw [if_pos hc] at h
        simp only [List.lookup_cons, beq_self_eq_true] at h
        have hk : k0 = .free := by
          have := (Bool.and_eq_true _ _).mp ((Bool.and_eq_true _ _).mp hc).1
          simpa using this.1
        subst hk
        cases h
        exact .inr ⟨rfl, by simp only [List.lookup_cons, beq_self_eq_true]⟩
      · rw [if_neg hc] at h
        simp only [List.lookup_cons, beq_self_eq_true] at h ⊢
        exact .inl h
    · have hb : (x == n) = false := beq_eq_false_iff_ne.mpr hx
      have e : List.lookup x ((if (k0 == NameKind.free && env.scope.kind == .function && env.kindOf n == some .cell) = true then (n, NameKind.cell) else (n, k0)) :: (r.map fun (n, k) => if (k == NameKind.free && env.scope.kind == .function && env.kindOf n == some .cell) then (n, NameKind.cell) else (n, k))) = some k := h
      have e2 : List.lookup x (r.map fun (n, k) => if (k == NameKind.free && env.scope.kind == .function && env.kindOf n == some .cell) then (n, NameKind.cell) else (n, k)) = some k := by
        by_cases hc : (k0 == NameKind.free && env.scope.kind == .function && env.kindOf n == some .cell) = true
        · rw [if_pos hc] at e; simp only [List.lookup_cons, hb] at e; exact e
        · rw [if_neg hc] at e; simp only [List.lookup_cons, hb] at e; exact e
      simp only [List.lookup_cons, hb]
      exact ih e2
theorem relabel_of_free {env : Env} : ∀ {names : List (Str × NameKind)} {x : Str}, names.lookup x = some .free →
    (names.map fun (n, k) => if (k == NameKind.free && env.scope.kind == .function && env.kindOf n == some .cell) then (n, NameKind.cell) else (n, k)).lookup x = some .cell ∨
    (names.map fun (n, k) => if (k == NameKind.free && env.scope.kind == .function && env.kindOf n == some .cell) then (n, NameKind.cell) else (n, k)).lookup x = some .free
  | [], _, h => by simp at h
  | (n, k0) :: r, x, h => by
    have ih := @relabel_of_free env r x
    rw [List.map_cons]
    dsimp only
    by_cases hx : x = n
    · subst hx
      simp only [List.lookup_cons, beq_self_eq_true] at h
      cases h
      by_cases hc : (NameKind.free == NameKind.free && env.scope.kind == .function && env.kindOf x == some .cell) = true
      · rw [if_pos hc]; left; simp only [List.lookup_cons, beq_self_eq_true]
      · rw [if_neg hc]; right; simp only [List.lookup_cons, beq_self_eq_true]
    · have hb : (x == n) = false := beq_eq_false_iff_ne.mpr hx
      simp only [List.lookup_cons, hb] at h
      by_cases hc : (k0 == NameKind.free && env.scope.kind == .function && env.kindOf n == some .cell) = true
      · rw [if_pos hc]; simp only [List.lookup_cons, hb]; exact ih h
      · rw [if_neg hc]; simp only [List.lookup_cons, hb]; exact ih h
theorem mem_of_lookup' : ∀ {l : List (Str × NameKind)} {x : Str} {k : NameKind}, l.lookup x = some k → (x, k) ∈ l := fun h => PySem.mem_of_lookup h

section
variable {X : Cx} {pins : List (Addr × Obj)} {σ : St} {H : Hp} {s : Shared} {scope : Scope} {Nc Fc : List Str} {js : List Nat} {cl : List (Str × Addr)} {C D : Addr} {fp : List Addr}

theorem cxC_kind {x : Str} : (cxC X Nc Fc scope cl C s H fp).env.kindOf x = (scope.names.map fun (n, k) => if (k == NameKind.free && X.env.scope.kind == .function && X.env.kindOf n == some .cell) then (n, NameKind.cell) else (n, k)).lookup x := rfl

theorem cxC_ok (I : Inv X pins σ H s) (c : CompOk X scope Nc Fc js) (hsub : ∀ n c, cl.lookup n = some c → X.env.cells.lookup n = some c) (hhas : ∀ y ∈ scope.names, y.2 = .free → ∃ c, cl.lookup y.1 = some c)
    (hC : s.heap.objs.size ≤ C) (hf : ∀ b ∈ fp, FpOk X pins H b) (ho : ∀ b ∈ fp, ∃ o, s.heap.get? b = some o) : (cxC X Nc Fc scope cl C s H fp).Ok where
  mod := I.ok.mod
  kind := c.kind
  glob := I.ok.glob
  blt := I.ok.blt
  above := hC
  inj := fun x y a h1 h2 => I.ok.inj x y a (hsub _ _ h1) (hsub _ _ h2)
  has := fun x hx => by
    have key : scope.names.lookup x = some .free := by
      rw [cxC_kind] at hx
      rcases hx with h | h
      · rcases relabel_free h with q | ⟨_, q⟩
        · exact absurd rfl (c.nocell _ (mem_of_lookup' q))
        · exact q
      · rcases relabel_free h with q | ⟨q, _⟩
        · exact q
        · cases q
    exact hhas _ (mem_of_lookup' key) rfl
  cab := fun _ _ h => nomatch h
  hd := I.ok.hd
  frames := I.ok.frames
  stk := .inl rfl
  exf := fun b hb => ⟨fun z => by
      obtain ⟨o, e⟩ := ho b hb
      exact addr_ne (Heap.lt_size e) hC z, fun x a e z => (hf b hb).2.2.2.2.1 x a (hsub _ _ e) z⟩
  bs := fun b o e => I.bs b o e
  bsz := Nat.le_trans I.ok.bsz I.sz
  noex := fun b o e hb => by
    rcases (hf b hb).2.2.2.1 with z | z
    · exact I.ok.noex b o e z
    · exact absurd (Nat.lt_of_lt_of_le (Heap.lt_size (I.ok.bs b o e).1) z) (Nat.lt_irrefl _)
  exfs := fun b hb z => by
    rcases List.mem_cons.mp (I.stkSub b z) with q | q
    · exact (hf b hb).2.1 q
    · exact (hf b hb).2.2.1 q
  funs := I.stack
  frf := I.stkFree

/-- the state at the block's entry -/
theorem cxC_inv (I : Inv X pins σ H s) (c : CompOk X scope Nc Fc js) (hsub : ∀ n c, cl.lookup n = some c → X.env.cells.lookup n = some c) (hhas : ∀ y ∈ scope.names, y.2 = .free → ∃ c, cl.lookup y.1 = some c)
    (hC : s.heap.objs.size ≤ C) (hD : s.heap.objs.size ≤ D) (hDC : D ≠ C) (hf : ∀ b ∈ fp, FpOk X pins H b) (ho : ∀ b ∈ fp, ∃ o, s.heap.get? b = some o) {h1 : Heap} {t1 : Nat} {m : Str → Option Value} {ob : Obj}
    (hk : ∀ b o, s.heap.get? b = some o → h1.get? b = some o) (hm : h1.Ns C m) (hob : h1.get? D = some ob) (hnc : ∀ v, ob.data ≠ .cell v) :
    Inv (cxC X Nc Fc scope cl C s H fp) [(D, ob)] (List.replicate Nc.length none ++ cvals σ js) H { s with heap := h1, toks := t1 } := by
  refine ⟨cxC_ok I c hsub hhas hC hf ho, rfl, I.bare, Un.kept hk, ⟨m, hm, fun i x v e1 e2 e3 => ?_⟩, fun x a e => ?_, I.hok.fresh hC, fun x a e => I.freeC x a (hsub x a e), fun p hp => ?_, I.hok.kept hk, ?_⟩
  · have e1 : (Nc ++ Fc)[i]? = some x := e1
    have e2 : (List.replicate Nc.length none ++ cvals σ js)[i]? = some (some v) := e2
    by_cases hi : i < Nc.length
    · rw [List.getElem?_append_left (by simpa using hi), List.getElem?_replicate] at e2
      split at e2 <;> cases e2
    · rw [List.getElem?_append_right (by omega)] at e1
      rw [List.getElem?_append_right (by rw [List.length_replicate]; omega), List.length_replicate] at e2
      obtain ⟨hfr, j, hj, hN⟩ := c.frees _ _ e1
      have hv : σ[j]? = some (some v) := by
        unfold cvals at e2
        rw [List.getElem?_map, hj] at e2
        have e2 : some ((σ[j]?).join) = some (some v) := e2
        cases q : σ[j]? with
        | none => rw [q] at e2; cases e2
        | some z => rw [q] at e2; cases e2; rfl
      have kx := c.free _ (mem_of_lookup' hfr) rfl
      obtain ⟨m0, hn0, hl0⟩ := I.loc
      have vis : Vis X.env.scope x := by
        rcases kx with k | k
        · exact .inr (.inl k)
        · exact .inr (.inr k)
      obtain ⟨u, ru, lk⟩ := hl0 j x v hN hv vis
      refine ⟨u, ru, .inr ⟨?_, ?_⟩⟩
      · rw [cxC_kind]; exact relabel_of_free hfr
      · obtain ⟨a, ha⟩ := hhas _ (mem_of_lookup' hfr) rfl
        refine ⟨a, ha, ?_⟩
        rcases lk with ⟨k, _⟩ | ⟨_, a', ha', hcell⟩
        · rcases kx with q | q <;> (rw [k] at q; cases q)
        · have e := hsub _ _ ha
          dsimp only at e
          rw [ha'] at e; cases e
          exact hcell.keeps hk
  · obtain ⟨v, z⟩ := I.cell x a (hsub x a e)
    exact ⟨v, z.keeps hk⟩
  · have hp : p = (D, ob) := by
      have : p ∈ [(D, ob)] := hp
      simpa using this
    subst hp
    refine ⟨hob, I.hok.fresh hD, hDC, fun z => ?_, hnc⟩
    have z : D ∈ frs X.stack := z
    rcases List.mem_cons.mp (I.stkSub D z) with q | q
    · exact addr_ne' I.lt hD q
    · exact I.nofs hD q
  · show (List.replicate Nc.length none ++ cvals σ js).length = (Nc ++ Fc).length
    unfold cvals
    rw [List.length_append, List.length_append, List.length_replicate, List.length_map, c.lens]
end

/-- tests of a clause: none, or one -/
def PTs (X : Cx) (ifs : List Expr) (t : TT) : Prop :=
  ∀ ⦃pins : List (Addr × Obj)⦄ (s : Shared) (σ : St) (H : Hp) (Q : Bool → Hp → Prop), Inv X pins σ H s → t σ H Q → wpAny (model X.prog X.w) X.A (testsOf ifs X.env) (TP X pins σ Q) X.xe s
def tYes : TT := fun _ H Q => Q true H
theorem pts_nil {X : Cx} : PTs X [] tYes := fun _ _ _ H _ I h => wpAny_tests_nil ⟨H, I, h⟩
/-- the reading: W i m ys H is what holds ahead of turn i, m falls -/
def CompW (J : It) (n : Nat) (js : List Nat) (g : TG) (tc : TT) (te : TE) (σ : St) (H1 : Hp) (fin : List V → Hp → Prop) : Prop :=
  ∃ W : Nat → Nat → List V → Hp → Prop, (∃ m, W 0 m [] H1) ∧ ∀ i m ys H, W i m ys H →
    (J.stop i H ∧ fin ys H) ∨
    (J.go i H ∧ ys.length < sizeLine ∧ ∀ x H', J.yld i H x H' → g x (List.replicate n none ++ cvals σ js) H' fun σ2 H2 => tc σ2 H2 fun b H3 =>
      if b = true then te σ2 H3 fun y H4 => ∃ m', m' < m ∧ W (i + 1) m' (ys ++ [y]) H4 else ∃ m', m' < m ∧ W (i + 1) m' ys H3)
def tComp (wi : TI) (n : Nat) (js : List Nat) (g : TG) (tc : TT) (te : TE) : TE := fun σ H Q => wi σ H fun J H1 =>
  CompW J n js g tc te σ H1 fun ys H2 => ∀ p, H2 p = none → Q (.ref p) (upd H2 p (.lst ys))

/-- a target that stores below place n alone -/
def Gk (n : Nat) (g : TG) : Prop := ∀ x σ H Q, g x σ H Q → g x σ H fun σ' H' => Q σ' H' ∧ (∀ j, n ≤ j → σ'[j]? = σ[j]?) ∧ σ'.length = σ.length
def Gks (n : Nat) (g : TGs) : Prop := ∀ x σ H Q, g x σ H Q → g x σ H fun σ' H' => Q σ' H' ∧ (∀ j, n ≤ j → σ'[j]? = σ[j]?) ∧ σ'.length = σ.length
theorem gk_name {n i : Nat} (h : i < n := by decide) : Gk n (gName i) := fun x σ H Q q => ⟨q, fun j hj => List.getElem?_set_ne (by omega), List.length_set⟩
theorem gks_nil {n : Nat} : Gks n gNil := fun x σ H Q q => ⟨q.1, q.2, fun _ _ => rfl, rfl⟩
theorem gks_cons {n : Nat} {t : TG} {u : TGs} (h1 : Gk n t) (h2 : Gks n u) (mt : ∀ x σ H Q Q', (∀ a b, Q a b → Q' a b) → t x σ H Q → t x σ H Q') (mu : ∀ x σ H Q Q', (∀ a b, Q a b → Q' a b) → u x σ H Q → u x σ H Q') : Gks n (gCons t u) := fun x σ H Q q => by
  obtain ⟨v, r, e, q⟩ := q
  refine ⟨v, r, e, mt _ _ _ _ _ (fun σ1 H1 z => ?_) (h1 _ _ _ _ q)⟩
  obtain ⟨z, k1, l1⟩ := z
  exact mu _ _ _ _ _ (fun σ2 H2 ⟨z2, k2, l2⟩ => ⟨z2, fun j hj => (k2 j hj).trans (k1 j hj), l2.trans l1⟩) (h2 _ _ _ _ z)
theorem gk_tup {K : PySem.W.Frag} {n m : Nat} {t : TGs} (h : Gks n t) : Gk n (gTup K m t) := fun x σ H Q q => by
  obtain ⟨a, xs, e, h1, h2, q⟩ := q
  exact ⟨a, xs, e, h1, h2, h _ _ _ _ q⟩

/-- the block, to the state behind it -/
theorem comp_core {X : Cx} {elt tg iter : Expr} {ifs : List Expr} {scope : Scope} {pos : Pos} {Nc Fc : List Str} {js : List Nat} {wi : TI} {g : TG} {tc : TT} {te : TE} {use : Option (Value → Sem Unit)} {QV : Value → Shared → Prop}
    (hcalm : X.calm = true) (c : CompOk X scope Nc Fc js) (hi : PI X tg iter wi)
    (hg : ∀ cl C s H fp, PG (cxC X Nc Fc scope cl C s H fp) tg g) (htc : ∀ cl C s H fp, PTs (cxC X Nc Fc scope cl C s H fp) ifs tc) (hte : ∀ cl C s H fp, PE (cxC X Nc Fc scope cl C s H fp) elt te) (gk : Gk Nc.length g)
    {pins : List (Addr × Obj)} {s : Shared} {σ : St} {H : Hp} {fin : List V → Hp → Prop} (I : Inv X pins σ H s)
    (h : wi σ H fun J H1 => CompW J Nc.length js g tc te σ H1 fin)
    (behind : ∀ (C D : Addr) (m : Str → Option Value) (ys : List V) (H2 : Hp) (s2 : Shared), Inv X pins σ (upd H2 D (.lst ys)) s2 → s2.heap.Ns C m → FpOk X pins (upd H2 D (.lst ys)) C → H2 D = none → fin ys H2 → compPost (model X.prog X.w) X.A X.xe use QV (.ref D) C (.ok .next) s2)
    (hs : ∀ x, foldedSetIterable iter X.env x = pure x) :
    wpAny (model X.prog X.w) X.A (comprehension (.ListComp elt [⟨tg, iter, ifs, 0⟩] scope pos) scope X.env (firstIterPos [⟨tg, iter, ifs, 0⟩] pos) (newList []) false (eval iter X.env) use) QV X.xe s := by
  obtain ⟨cl, hclos, hsub, hhas⟩ := closure_of (scope := scope) (env := X.env) fun y hy hf => I.ok.has y.1 (c.free y hy hf)
  refine wpAny_comprehension_free (use := use) rfl hs hclos c.kind c.names ?_
  refine thn (hi s σ H _ I h) fun v s1 h1 => thn h1 fun itv s2 h2 => ?_
  obtain ⟨it, fp, tn, J, H2, e, I2, T, st2, f2, W, ⟨m0, w0⟩, turn⟩ := h2
  subst e
  refine wpAny_newObj_type (wpAny_newFunctionEnv c.nocell (by intro y hy; simp at hy) (fun h1 hns1 hsb1 => ?_) c.kind)
  dsimp only at hns1 hsb1 ⊢
  generalize hG : s2.heap.push { cls := .type "list", dict := none, data := .seq ([] : List Value).toArray } = G at hns1 hsb1 ⊢
  have hC : G.objs.size = s2.heap.objs.size + 1 := by rw [← hG, Heap.size_push]
  have hDC : s2.heap.objs.size ≠ G.objs.size := by rw [hC]; exact Nat.ne_of_lt (Nat.lt_succ_self _)
  have hle : s2.heap.objs.size ≤ G.objs.size := by rw [hC]; exact Nat.le_succ _
  have old : ∀ b o, s2.heap.get? b = some o → h1.get? b = some o := fun b o e =>
    hsb1.extBut b o (addr_ne (Heap.lt_size e) hle) (Heap.get?_push_of_some _ (hG ▸ Heap.get?_push_of_some _ e))
  have hacc : h1.PlainList s2.heap.objs.size #[] := ⟨_, hsb1.extBut _ _ hDC (Heap.get?_push_of_some _ (hG ▸ Heap.get?_push_size _ rfl))⟩
  obtain ⟨n0, hacc⟩ := hacc
  have fo : ∀ b ∈ fp, ∃ o, s2.heap.get? b = some o := fun b hb => let ⟨o, e, _⟩ := T.obj 0 _ st2 b hb; ⟨o, e⟩
  have hDfp : ∀ b ∈ fp, b < s2.heap.objs.size := fun b hb => let ⟨o, e⟩ := fo b hb; Heap.lt_size e
  let Xc : Cx := cxC X Nc Fc scope cl G.objs.size s2 H2 fp
  let D : Addr := s2.heap.objs.size
  have stat : ∀ {pl : List (Addr × Obj)} {H' : Hp}, (∀ p ∈ pl, p.1 = D) → (∀ b ∈ fp, H' b = none) → ∀ b ∈ fp, FpOk Xc pl H' b := fun {pl H'} hp hn b hb => by
    refine ⟨hn b hb, ?_, ?_, .inl hb, fun x a e => ?_, fun p hq => ?_⟩
    · exact addr_ne (hDfp b hb) hle
    · exact (cxC_ok I2 c hsub hhas hle f2 fo).exfs b hb
    · exact (f2 b hb).2.2.2.2.1 x a (hsub _ _ e)
    · have q : p ∈ ([] : List (Addr × Obj)) ++ pl := hq
      rw [hp p (by simpa using q)]
      exact addr_ne' (hDfp b hb) (Nat.le_refl _)
  have loop : ∀ t1, codeAny (model X.prog X.w) X.A (.compLoop (.ListComp elt [⟨tg, iter, ifs, 0⟩] scope pos) 0 (.ref it) (.ref s2.heap.objs.size) (compEnvC scope cl G.objs.size X.env))
      (compPost (model X.prog X.w) X.A X.xe use QV (.ref s2.heap.objs.size) G.objs.size) { s2 with heap := h1, toks := t1 } := by
    intro t1
    refine comp_turns (fun n s' => ∃ i ys H' its k, Inv Xc [(D, { cls := .type "list", data := .seq its k })] (List.replicate Nc.length none ++ cvals σ js) H' s' ∧ Vals ys its.toList ∧ ys.length ≤ sizeLine ∧ tn i s'.heap ∧ (∀ b ∈ fp, H' b = none) ∧ W i n ys H') ?_ m0
      ⟨0, [], H2, #[], n0, cxC_inv I2 c hsub hhas hle (Nat.le_refl _) hDC f2 fo old hns1 hacc (fun _ z => nomatch z), .nil, Nat.zero_le _, T.keep _ _ _ st2 (fun b hb o e => old b o e), fun b hb => (f2 b hb).1, w0⟩
    rintro n s3 ⟨i, ys, H3, its, k, I3, rv, hz, st3, fr3, w3⟩
    have onlyD : ∀ p ∈ [(D, ({ cls := .type "list", data := .seq its k } : Obj))], p.1 = D := fun p hp => congrArg Prod.fst (List.mem_singleton.mp hp)
    rcases turn i n ys H3 w3 with ⟨stop, qn⟩ | ⟨go, hlt, step⟩
    · refine thn (T.done Xc rfl rfl rfl hcalm i _ s3 _ H3 noE I3 (stat onlyD fr3) st3 stop) fun r s4 ⟨hr, I4⟩ => ?_
      subst hr
      show compPost _ _ _ _ _ _ _ _ _
      obtain ⟨hDo, hDn, hDne, hDfs, _⟩ := I4.pin (D, _) (List.mem_append_right _ List.mem_cons_self)
      have hDC' : D ≠ G.objs.size := hDC
      obtain ⟨mC, hmC, _⟩ := I4.loc
      have hCn : H3 G.objs.size = none := I4.free
      have neD : ∀ b o, s2.heap.get? b = some o → b ≠ D := fun b o e => Nat.ne_of_lt (Heap.lt_size e)
      have u : Un (frs X.stack) fp H2 H3 s2.heap s4.heap := I4.base
      have hdn2 : H2 D = none := I2.hok.fresh (Nat.le_refl _)
      have u' : Un (frs X.stack) fp H2 (upd H3 D (.lst ys)) s2.heap s4.heap :=
        ⟨u.keep, u.slot, fun b o e n hx => by rw [upd_ne (neD b o e)]; exact u.free b o e n hx, u.there,
         fun b xs e => by rw [upd_ne (ne_of_none e hdn2)]; exact u.tups b xs e, fun b o xs e => by rw [upd_ne (ne_of_none e hdn2)]; exact u.frzs b o xs e,
         fun b ps e => by rw [upd_ne (ne_of_none e hdn2)]; exact u.tbls b ps e⟩
      have hok' : HOk X.prog X.w (upd H3 D (.lst ys)) s4.heap := I4.hok.adopt hDn ⟨hz, its.toList, k, rv, by simpa using hDo⟩
      have hch : ∀ b ∈ fp, (b ∈ X.ex ∨ X.s₀.heap.objs.size ≤ b) ∧ b ≠ X.env.locals ∧ (∀ x c, X.env.cells.lookup x = some c → c ≠ b) ∧ ∀ p ∈ X.pn ++ pins, p.1 ≠ b := fun b hb =>
        ⟨(f2 b hb).2.2.2.1, (f2 b hb).2.1, (f2 b hb).2.2.2.2.1, (f2 b hb).2.2.2.2.2⟩
      have os4 : s4.os = s2.os := I4.os
      have J4 : Inv X pins σ (upd H3 D (.lst ys)) s4 := I2.call' (H' := upd H3 D (.lst ys)) os4 u' hok' I4.bare hch
      refine behind G.objs.size D mC ys H3 s4 J4 hmC (I2.fpOk hle ?_) hDn qn
      rw [upd_ne (Ne.symm hDC')]
      exact hCn
    · refine thn (T.item Xc rfl rfl rfl hcalm i _ s3 _ H3 noE I3 (stat onlyD fr3) st3 go) fun r s4 ⟨u, hr, h4⟩ => ?_
      subst hr
      show wpAny _ _ (letOwnedTupleGo tg (.ref it) u) _ _ _
      refine thn h4 fun _ s5 ⟨x, H5, I5, r5, y5, st5, fr5⟩ => ?_
      have I5' := I5.pinned (stat onlyD fr5) (T.obj _ _ st5)
      refine thn (hg cl G.objs.size s2 H2 fp s5 _ H5 x u _ I5' r5 (gk _ _ _ _ (step x H5 y5))) fun _ s6 ⟨σ6, H6, I6, q6, kσ, kl⟩ => ?_
      refine thn (htc cl G.objs.size s2 H2 fp s6 σ6 H6 _ I6 q6) fun b s7 ⟨H7, I7, q7⟩ => ?_
      have later : ∀ {σ' : St} {H' : Hp} {s' : Shared}, Inv Xc ([(D, ({ cls := .type "list", data := .seq its k } : Obj))] ++ pinsAt fp s5.heap) σ' H' s' → tn (i + 1) s'.heap ∧ ∀ b ∈ fp, H' b = none := fun {σ' H' s'} Iz => by
        refine ⟨T.keep _ _ _ st5 fun b hb o e => (Iz.pin (b, o) (List.mem_append_right _ (List.mem_append_right _ (mem_pinsAt hb e)))).1, fun b hb => ?_⟩
        obtain ⟨o, e, d⟩ := T.obj _ _ st5 b hb
        exact (Iz.pin (b, o) (List.mem_append_right _ (List.mem_append_right _ (mem_pinsAt hb e)))).2.1
      have back : ∀ {pl : List (Addr × Obj)} {H' : Hp} {s' : Shared}, Inv Xc pl σ6 H' s' → Inv Xc pl (List.replicate Nc.length none ++ cvals σ js) H' s' := fun {pl H' s'} Iz => by
        refine Iz.weak (by rw [← kl]) fun j v hj => ?_
        by_cases hn : j < Nc.length
        · rw [List.getElem?_append_left (by simpa using hn), List.getElem?_replicate] at hj
          split at hj <;> cases hj
        · rw [kσ j (by omega)]; exact hj
      cases b with
      | false =>
        rw [if_neg Bool.false_ne_true] at q7 ⊢
        obtain ⟨m', hm', w7⟩ := q7
        obtain ⟨l1, l2⟩ := later I7
        exact ⟨m', hm', i + 1, ys, H7, its, k, back I7.unpinned, rv, hz, l1, l2, w7⟩
      | true =>
        rw [if_pos rfl] at q7 ⊢
        refine thn (hte cl G.objs.size s2 H2 fp s7 σ6 H7 _ I7 q7) fun yv s8 ⟨y, H8, I8, r8, q8⟩ => ?_
        obtain ⟨m', hm', w8⟩ := q8
        obtain ⟨hDo, hDn, hDne, hDfs, _⟩ := I8.pin (D, _) (List.mem_append_right _ (List.mem_append_left _ List.mem_cons_self))
        obtain ⟨l1, l2⟩ := later I8
        have hits : its.size = ys.length := by
          have e1 := rv.length
          simp only [Array.length_toList] at e1
          omega
        refine wpAny_list_append_plain (hsz := by omega) ⟨k, hDo⟩ fun h9 hl9 hs9 => ?_
        obtain ⟨k9, hD9⟩ := hl9
        have pinF : ∀ p ∈ pinsAt fp s5.heap, p.1 ≠ D := fun p hp => by
          obtain ⟨hb, _⟩ := of_pinsAt hp
          exact addr_ne (hDfp _ hb) (Nat.le_refl _)
        have I8' : Inv Xc (pinsAt fp s5.heap) σ6 H8 s8 := I8.pins_of fun p hp => I8.pin p (List.mem_append_right _ (List.mem_append_right _ hp))
        have I9 : Inv Xc (pinsAt fp s5.heap) σ6 H8 { s8 with heap := h9, toks := s8.toks } := I8'.turned (it := D) (fun b o hb e => hs9.extBut b o hb e) hDn hDC (.inr (Nat.le_refl _))
          (fun x a e z => by
            obtain ⟨v, q⟩ := I2.cell x a (hsub _ _ e)
            exact addr_ne q.lt (Nat.le_refl _) z) (fun p hp => pinF p (by
              have hp : p ∈ ([] : List (Addr × Obj)) ++ pinsAt fp s5.heap := hp
              simpa using hp))
        obtain ⟨st9, fr9⟩ : tn (i + 1) h9 ∧ ∀ b ∈ fp, H8 b = none := by
          refine ⟨T.keep _ _ _ l1 fun b hb o e => hs9.extBut b o ?_ e, l2⟩
          exact addr_ne (hDfp _ hb) (Nat.le_refl _)
        refine ⟨m', hm', i + 1, ys ++ [y], H8, its.push yv, k9, back (I9.pins_of fun p hp => ?_), ?_, ?_, st9, fr9, w8⟩
        · cases List.mem_singleton.mp hp
          exact ⟨hD9, hDn, hDne, hDfs, fun _ z => nomatch z⟩
        · rw [Array.toList_push]
          exact rv.append (.cons r8 .nil)
        · rw [List.length_append, List.length_singleton]; omega
  exact codeAny_compStart_list (loop _) (T.self _ 0 _ _ _ (T.keep _ _ _ st2 fun b hb o e => old b o e) (loop _))

theorem pe_lcomp {X : Cx} {elt tg iter : Expr} {ifs : List Expr} {scope : Scope} {pos : Pos} {Nc Fc : List Str} {js : List Nat} {wi : TI} {g : TG} {tc : TT} {te : TE}
    (hcalm : X.calm = true) (c : CompOk X scope Nc Fc js) (hi : PI X tg iter wi) (gk : Gk Nc.length g)
    (hg : ∀ cl C s H fp, PG (cxC X Nc Fc scope cl C s H fp) tg g) (htc : ∀ cl C s H fp, PTs (cxC X Nc Fc scope cl C s H fp) ifs tc) (hte : ∀ cl C s H fp, PE (cxC X Nc Fc scope cl C s H fp) elt te)
    (hs : ∀ x, foldedSetIterable iter X.env x = pure x := by intro _; rfl) :
    PE X (.ListComp elt [⟨tg, iter, ifs, 0⟩] scope pos) (tComp wi Nc.length js g tc te) := by
  intro pins s σ H Q I h
  rw [eval_ListComp]
  refine comp_core (use := none) hcalm c hi hg htc hte gk I h (fun C D m ys H2 s2 I2 hm hC hD q => ?_) hs
  refine ⟨m, hm, fun h' hs' => ?_⟩
  refine ⟨.ref D, _, I2.turned (it := C) (t' := s2.toks) (fun b o hb e => hs'.extBut b o hb e) hC.1 (hC.2.1) hC.2.2.2.1 hC.2.2.2.2.1 hC.2.2.2.2.2, rfl, q D hD⟩
end L2

set_option Elab.async false
set_option linter.all false
set_option maxRecDepth 100000
set_option maxHeartbeats 4000000
/-! built-in calls over the hand layer -/
namespace L2
open PySem PySem.Spec PyProof.Rows

section
variable {X : Cx} {pins : List (Addr × Obj)} {σ : St} {H : Hp} {s : Shared} {p : Addr} {ys : List V}

/-- a list's iterator, as the consuming built-ins walk it -/
theorem walk_list {A : Around} (hh : A.handled = none) (I : Inv X pins σ H s) (hq : SqL X.K H p ys) {R : Value → Shared → Prop} {E : Value → Shared → Prop}
    (h : ∀ (its : List Value) (it : Addr) (s2 : Shared), Vals ys its → its.length ≤ sizeLine →
      Walks X.prog X.w A it [it, p] [it] its.toArray.size (fun i v => its.toArray[i]? = some v) (fun i h => h.IsListIter it p i ∧ h.IsList p its.toArray) → (s2.heap.IsListIter it p 0 ∧ s2.heap.IsList p its.toArray) → (∀ b ∈ [it, p], b < s2.heap.objs.size) →
      (∀ h' tk, (∀ b o, b ∉ [it] → s2.heap.get? b = some o → h'.get? b = some o) → Inv X pins σ H { s2 with heap := h', toks := tk }) → R (.ref it) s2) :
    wpAny (model X.prog X.w) A (pyIter (.ref p)) R E s := by
  obtain ⟨its, rv, pl, hz⟩ := I.list hq
  have hl := pl.isList
  have hp : p < s.heap.objs.size := by obtain ⟨o, e, _⟩ := hl; exact Heap.lt_size e
  refine wpAny_pyIter_list hl ?_
  refine h its s.heap.objs.size _ rv (by have := rv.length; omega) (Walks.list hh _ p (Nat.ne_of_lt hp) its.toArray) ⟨⟨_, Heap.get?_push_size _ rfl, rfl, rfl⟩, hl.push _⟩ (fun b hb => ?_) fun h' tk hk => ?_
  · show b < (s.heap.push _).objs.size
    rw [Heap.size_push]
    rcases List.mem_cons.mp hb with rfl | hb
    · exact Nat.lt_succ_self _
    · rw [List.mem_singleton.mp hb]; exact Nat.lt_succ_of_lt hp
  · exact I.kept (t' := tk) fun b o e => hk b o (fun z => addr_ne (Heap.lt_size e) (Nat.le_refl _) (List.mem_singleton.mp z)) (Heap.get?_push_of_some _ e)

theorem vals_at {ys : List V} {its : List Value} (r : Vals ys its) {i : Nat} {v : Value} (e : its.toArray[i]? = some v) : ∃ y, ys[i]? = some y ∧ RelV y v := by
  have e' : its[i]? = some v := by simpa using e
  have hi : i < its.length := (List.getElem?_eq_some_iff.mp e').1
  have hl := r.length
  obtain ⟨u, h1, h2⟩ := r.get (i := i) (x := ys[i]'(by omega)) (by simp)
  rw [e'] at h1; cases h1
  exact ⟨_, by simp, h2⟩

theorem range_all (bs : List Bool) : (List.range bs.length).all (fun i => bs.getD i false) = bs.all id := by
  induction bs with
  | nil => rfl
  | cons b r ih =>
    rw [List.length_cons, List.range_succ_eq_map, List.all_cons, List.all_map, List.all_cons, ← ih]
    rfl
theorem truth_bl {A : Around} {bs : List Bool} {its : List Value} (r : Vals (bs.map V.bl) its) : TruthOf X.prog X.w A (fun i v => its.toArray[i]? = some v) (fun i => bs.getD i false) := by
  intro i v s Q E e hQ
  obtain ⟨y, h1, h2⟩ := vals_at r e
  rw [List.getElem?_map] at h1
  cases q : bs[i]? with
  | none => rw [q] at h1; cases h1
  | some b =>
    rw [q] at h1; cases h1
    cases h2
    have : bs.getD i false = b := by simp [List.getD, q]
    have hQ : Q (bs.getD i false) s := hQ
    rw [this] at hQ
    exact wpAny_pure hQ
theorem call_all_bl (hc : X.calm = true) : CallR X (.builtin "all") (fun xs H Q => ∃ (p : Addr) (bs : List Bool), xs = [.ref p] ∧ SqL X.K H p (bs.map V.bl) ∧ Q (.bl (bs.all id)) H) := by
  intro pins s σ H xs us Q I r h
  obtain ⟨p, bs, rfl, hq, q⟩ := h
  obtain ⟨u, rfl, ru⟩ := vals1 r
  cases ru
  refine call_all_walk (walk_list (A := X.A.in1) (I.ok.hd hc) I hq fun its it s2 rv hz W st hlt hI => ?_)
  refine ⟨it, _, _, _, _, _, fun i => bs.getD i false, rfl, W, st, truth_bl rv, fun h' tk hk => ?_⟩
  have hl : its.toArray.size = bs.length := by have := rv.length; simp at this ⊢; omega
  rw [hl, range_all]
  exact ⟨.bl _, H, hI h' tk hk, rfl, q⟩
/-! texts -/
theorem mt_strip1 : MtR X "str.strip" (fun x vs H Q => ∃ a b, x = .str a ∧ vs = [.str b] ∧ a.length ≤ sizeLine ∧ Q (.str (Txt.stripChars a b)) H) := by
  intro pins s σ H x vs v us Q I rx rv h
  obtain ⟨a, b, rfl, rfl, hz, q⟩ := h
  obtain ⟨t, rfl⟩ := rx
  obtain ⟨u, rfl, t', rfl⟩ := rv.one
  exact SC.stripChars (fun t' k => ⟨.str _, H, I.tok _, ⟨_, rfl⟩, q⟩) hz
theorem strs_are : ∀ {xs : List Str} {its : List Value}, Vals (xs.map V.str) its → StrsAre its xs := by
  intro xs its r
  induction xs generalizing its with
  | nil => cases r; exact StrsAre.nil
  | cons x xs ih =>
    cases r with
    | cons r1 r2 =>
      obtain ⟨t, rfl⟩ := r1
      exact StrsAre.cons x t (ih r2)
theorem mt_join : MtR X "str.join" (fun x vs H Q => ∃ (sep : Str) (p : Addr) (xs : List Str), x = .str sep ∧ vs = [.ref p] ∧ SqL X.K H p (xs.map V.str) ∧ (xs.map (·.length)).sum + xs.length * sep.length ≤ 16777216 ∧ Q (.str (Txt.join sep xs)) H) := by
  intro pins s σ H x vs v us Q I rx rv h
  obtain ⟨sep, p, xs, rfl, rfl, hq, hz, q⟩ := h
  obtain ⟨t, rfl⟩ := rx
  obtain ⟨u, rfl, ru⟩ := rv.one
  cases ru
  obtain ⟨its, r', pl, _⟩ := I.list hq
  exact join_list pl.isList (strs_are r') hz fun t' k => ⟨.str _, H, I.tok _, ⟨_, rfl⟩, q⟩
end
end L2

set_option Elab.async false
set_option linter.all false
set_option maxRecDepth 100000
set_option maxHeartbeats 4000000
/-! data in the heap, ==, isinstance, slices of texts, divmod -/
namespace L2
open PySem PySem.Spec PyProof.Rows

mutual
/-- the value tells this data -/
def Den (K : PySem.W.Frag) (H : Hp) : PyData → V → Prop
  | .none, v => v = .non
  | .bool b, v => v = .bl b
  | .int i, v => v = .int i
  | .str x, v => v = .str x
  | .list ds, v => ∃ a vs, v = .ref a ∧ SqL K H a vs ∧ Dens K H ds vs
  | .tuple ds, v => ∃ a vs, v = .ref a ∧ SqT K H a vs ∧ Dens K H ds vs
  | .dict _, _ => False
def Dens (K : PySem.W.Frag) (H : Hp) : List PyData → List V → Prop
  | [], vs => vs = []
  | d :: ds, vs => ∃ v r, vs = v :: r ∧ Den K H d v ∧ Dens K H ds r
end

theorem Same.seqT {K : PySem.W.Frag} {H H' : Hp} {a : Addr} {xs : List V} (e : Same H H') (h : SqT K H a xs) : SqT K H' a xs := by
  rcases h with (h | ⟨o, h⟩) | h
  · exact .inl (.inl (e _ _ h))
  · exact .inl (.inr ⟨o, e _ _ h⟩)
  · exact .inr h
mutual
theorem Den.same {K : PySem.W.Frag} {H H' : Hp} (e : Same H H') : ∀ {d : PyData} {v : V}, Den K H d v → Den K H' d v
  | .none, _, h => by unfold Den at h ⊢; exact h
  | .bool _, _, h => by unfold Den at h ⊢; exact h
  | .int _, _, h => by unfold Den at h ⊢; exact h
  | .str _, _, h => by unfold Den at h ⊢; exact h
  | .list ds, _, h => by
    unfold Den at h ⊢
    obtain ⟨a, vs, h1, h2, h3⟩ := h
    exact ⟨a, vs, h1, e.seq h2, Dens.same e h3⟩
  | .tuple ds, _, h => by
    unfold Den at h ⊢
    obtain ⟨a, vs, h1, h2, h3⟩ := h
    exact ⟨a, vs, h1, e.seqT h2, Dens.same e h3⟩
  | .dict _, _, h => by unfold Den at h; exact h.elim
theorem Dens.same {K : PySem.W.Frag} {H H' : Hp} (e : Same H H') : ∀ {ds : List PyData} {vs : List V}, Dens K H ds vs → Dens K H' ds vs
  | [], _, h => by unfold Dens at h ⊢; exact h
  | d :: ds, _, h => by
    unfold Dens at h ⊢
    obtain ⟨v, r, h1, h2, h3⟩ := h
    exact ⟨v, r, h1, Den.same e h2, Dens.same e h3⟩
end
mutual
theorem Den.reads {X : Cx} {pins : List (Addr × Obj)} {σ : St} {H : Hp} {s : Shared} (I : Inv X pins σ H s) : ∀ {d : PyData} {v : V} {u : Value}, Den X.K H d v → RelV v u → ∃ as, Reads s.heap u d as
  | .none, _, _, h, r => by unfold Den at h; subst h; cases r; exact ⟨_, .none⟩
  | .bool _, _, _, h, r => by unfold Den at h; subst h; cases r; exact ⟨_, .bool _⟩
  | .int _, _, _, h, r => by unfold Den at h; subst h; obtain ⟨t, rfl⟩ := r; exact ⟨_, .int _ _⟩
  | .str _, _, _, h, r => by unfold Den at h; subst h; obtain ⟨t, rfl⟩ := r; exact ⟨_, .str _ _⟩
  | .list ds, _, _, h, r => by
    unfold Den at h
    obtain ⟨a, vs, rfl, h2, h3⟩ := h
    cases r
    obtain ⟨its, rv, ⟨o, n, e1, e2, _, e4⟩, _⟩ := I.list h2
    obtain ⟨as, q⟩ := Dens.reads I h3 rv
    exact ⟨_, .list e1 e2 e4 (by simpa using q)⟩
  | .tuple ds, _, _, h, r => by
    unfold Den at h
    obtain ⟨a, vs, rfl, h2, h3⟩ := h
    cases r
    obtain ⟨its, rv, ⟨o, e1, e2, n, e4⟩, _⟩ := I.tuple h2
    obtain ⟨as, q⟩ := Dens.reads I h3 rv
    exact ⟨_, .tuple e1 e2 e4 (by simpa using q)⟩
  | .dict _, _, _, h, _ => by unfold Den at h; exact h.elim
theorem Dens.reads {X : Cx} {pins : List (Addr × Obj)} {σ : St} {H : Hp} {s : Shared} (I : Inv X pins σ H s) : ∀ {ds : List PyData} {vs : List V} {us : List Value}, Dens X.K H ds vs → Vals vs us → ∃ as, ReadsAll s.heap us ds as
  | [], _, _, h, r => by unfold Dens at h; subst h; cases r; exact ⟨_, .nil⟩
  | d :: ds, _, _, h, r => by
    unfold Dens at h
    obtain ⟨v, q, rfl, h2, h3⟩ := h
    cases r with
    | cons r1 r2 =>
      obtain ⟨as, q1⟩ := Den.reads I h2 r1
      obtain ⟨bs, q2⟩ := Dens.reads I h3 r2
      exact ⟨_, .cons q1 q2⟩
end
section
variable {X : Cx}
open PySem.SeqAt in
theorem op_eqD (hu : X.A.units + 64 < cLine) : OpR X (compareOp .Eq) (fun x y H Q => ∃ d e, Den X.K H d x ∧ Den X.K H e y ∧ shaped d = true ∧ shaped e = true ∧ Q (.bl (PyData.eqv d e)) H) := by
  intro pins s σ H x y v u Q I rx ry h
  obtain ⟨d, e, hd, he, sd, se, q⟩ := h
  obtain ⟨as, r1⟩ := hd.reads I rx
  obtain ⟨bs, r2⟩ := he.reads I ry
  exact eq_dataH r1 r2 sd se hu ⟨.bl _, H, I, rfl, q⟩
open PySem.SeqAt in
theorem op_neD (hu : X.A.units + 64 < cLine) : OpR X (compareOp .NotEq) (fun x y H Q => ∃ d e, Den X.K H d x ∧ Den X.K H e y ∧ shaped d = true ∧ shaped e = true ∧ Q (.bl (!PyData.eqv d e)) H) := by
  intro pins s σ H x y v u Q I rx ry h
  obtain ⟨d, e, hd, he, sd, se, q⟩ := h
  obtain ⟨as, r1⟩ := hd.reads I rx
  obtain ⟨bs, r2⟩ := he.reads I ry
  exact ne_dataH r1 r2 sd se hu ⟨.bl _, H, I, rfl, q⟩

/-- is True, is False -/
theorem op_isB : OpR X (compareOp .Is) (fun x y H Q => ∃ a b, x = .bl a ∧ y = .bl b ∧ Q (.bl (decide (a = b))) H) := by
  intro pins s σ H x y v u Q I rx ry h
  obtain ⟨a, b, rfl, rfl, q⟩ := h
  cases rx; cases ry
  refine wpAny_is_plain rfl (fin_bl I q ?_)
  cases a <;> cases b <;> rfl
theorem op_isnotB : OpR X (compareOp .IsNot) (fun x y H Q => ∃ a b, x = .bl a ∧ y = .bl b ∧ Q (.bl (!decide (a = b))) H) := by
  intro pins s σ H x y v u Q I rx ry h
  obtain ⟨a, b, rfl, rfl, q⟩ := h
  cases rx; cases ry
  refine wpAny_isNot_plain rfl (fin_bl I q ?_)
  cases a <;> cases b <;> rfl

/-! isinstance -/
theorem call_isi : CallR X (.builtin "isinstance") (fun xs H Q => ∃ x T t b, xs = [x, .ty T] ∧ TyOf X.K H x t ∧ PySem.W.kitOne X.K t (.type T) = some b ∧ Q (.bl b) H) := by
  intro pins s σ H xs us Q I r h
  obtain ⟨x, T, t, b, rfl, ty, e, q⟩ := h
  obtain ⟨u, w', rfl, r1, r2⟩ := vals2 r
  cases r2
  exact isinst_ok I r1 ty e fun tk => ⟨.bl b, H, I.tok _, rfl, q⟩
/-! a slice of a text -/
theorem sl_str : SlR X (fun x lo hi H Q => ∃ z, x = .str z ∧ z.length ≤ sizeLine ∧ Q (.str (Txt.slice z lo hi)) H) := by
  intro pins s σ H x v vl vu lo hi sl Q I rx hs pl pu q
  obtain ⟨z, rfl, hz, q⟩ := q
  obtain ⟨t, rfl⟩ := rx
  refine ⟨"str", _, F.slot_str_getitem.lookup, typeIs_str _ _ _, ?_⟩
  have fin : ∀ t' k, EP X pins σ Q (.str (Txt.slice z lo hi) t') { s with toks := k } := fun t' k => ⟨.str _, H, I.tok _, ⟨_, rfl⟩, q⟩
  cases pl with
  | none =>
    cases pu with
    | none => exact wpAny_getItem_str_slice (l := none) (u := none) (st := none) hs rfl (post_val_or_str ⟨Nat.le_trans (Txt.slice_le z _ _) hz, fin⟩)
    | int j uj => exact wpAny_getItem_str_slice (l := none) (u := some (j, uj)) (st := none) hs rfl (post_val_or_str ⟨Nat.le_trans (Txt.slice_le z _ _) hz, fin⟩)
  | int i ui =>
    cases pu with
    | none => exact wpAny_getItem_str_slice (l := some (i, ui)) (u := none) (st := none) hs rfl (post_val_or_str ⟨Nat.le_trans (Txt.slice_le z _ _) hz, fin⟩)
    | int j uj => exact wpAny_getItem_str_slice (l := some (i, ui)) (u := some (j, uj)) (st := none) hs rfl (post_val_or_str ⟨Nat.le_trans (Txt.slice_le z _ _) hz, fin⟩)

end
end L2

set_option Elab.async false
set_option linter.all false
set_option maxRecDepth 100000
set_option maxHeartbeats 4000000
/-! zip and enumerate over lists -/
namespace L2
open PySem PySem.Spec PyProof.Rows

section
variable {X : Cx} {pins : List (Addr × Obj)} {σ : St} {H : Hp} {s : Shared} {h' : Heap}
theorem Inv.adopt {T : Addr} {o : HO} (I : Inv X pins σ H s) (hT : FpOk X pins H T) (hex : X.s₀.heap.objs.size ≤ T) (new : ObjOk X.prog X.w (upd H T o) s.heap T o) : Inv X pins σ (upd H T o) s :=
  ⟨I.ok, I.os, I.bare, ⟨I.base.keep, I.base.slot, fun b ob e n hx => by rw [upd_ne (addr_ne (Heap.lt_size e) hex)]; exact I.base.free b ob e n hx, I.base.there,
      fun b xs e => by rw [upd_ne (ne_of_none (I.base.tups b xs e) hT.1)]; exact I.base.tups b xs e, fun b ob xs e => by rw [upd_ne (ne_of_none (I.base.frzs b ob xs e) hT.1)]; exact I.base.frzs b ob xs e,
      fun b ps e => by
        obtain ⟨m, q⟩ := I.base.tbls b ps e
        exact ⟨m, by rw [upd_ne (ne_of_none q hT.1)]; exact q⟩⟩,
    I.loc, I.cell, by rw [upd_ne (Ne.symm hT.2.1)]; exact I.free, fun x c e => by rw [upd_ne (hT.2.2.2.2.1 x c e)]; exact I.freeC x c e,
    fun p hp => by
      obtain ⟨a, b, c, d, f⟩ := I.pin p hp
      exact ⟨a, by rw [upd_ne (hT.2.2.2.2.2 p hp)]; exact b, c, d, f⟩, I.hok.adopt hT.1 new, I.len⟩
end

section
variable {X : Cx}
end
end L2

set_option Elab.async false
set_option linter.all false
set_option maxRecDepth 100000
set_option maxHeartbeats 4000000
/-! enumerate of a list -/
namespace L2
open PySem PySem.Spec PyProof.Rows

section
variable {X : Cx}
end
end L2

set_option Elab.async false
set_option linter.all false
set_option maxRecDepth 100000
set_option maxHeartbeats 4000000
/-! rules that do not ask for the kinds, calls of own defs, loops by turns -/
namespace L2
open PySem PySem.Spec PyProof.Rows

section
variable {X : Cx}
def rAddA : R2 := fun x y H Q => (∃ i j, x = .int i ∧ y = .int j ∧ Q (.int (i + j)) H) ∨ (∃ i j, x = .str i ∧ y = .str j ∧ i.length + j.length ≤ sizeLine ∧ Q (.str (i ++ j)) H) ∨ rCat x y H Q
theorem g_add : OpR X (binaryOp .Add) rAddA := op_add.or (op_add_str.or op_cat)
def rMulA : R2 := fun x y H Q => (∃ i j, x = .int i ∧ y = .int j ∧ CMul i j ∧ Q (.int (i * j)) H) ∨ rRep x y H Q
theorem g_mul : OpR X (binaryOp .Mult) rMulA := op_mul.or op_rep
/-- an own def, as callers use it -/
structure Fn (P : Program) (w : World) (K : PySem.W.Frag) (mg : Str → Option Value) (base : Heap) (k : Nat) (x : Str) (ps : List Str) (sp : Sp) : Prop where
  ex : ∃ f fd, FnOk P w K mg base CX0 k f fd ps sp ∧ Binds K fd ps [] ∧ PySem.W.keepIn K (.ref f) = true ∧ mg x = some (.ref f)
theorem Fn.mono {P : Program} {w : World} {K : PySem.W.Frag} {mg : Str → Option Value} {base : Heap} {j k : Nat} {x : Str} {ps : List Str} {sp : Sp} (F : Fn P w K mg base j x ps sp) (h : j ≤ k) : Fn P w K mg base k x ps sp := by
  obtain ⟨f, fd, a, b, c, d⟩ := F.ex
  exact ⟨f, fd, a.mono h, b, c, d⟩
theorem pe_fn {k : Nat} {x : Str} {ps : List Str} {sp : Sp} {p pos : Pos} {e : Expr} {es : List Expr} {t : TA} (F : Fn X.prog X.w X.K X.mg X.base k x ps sp) (hr : Room k X.A) (hg : Gl X x)
    (ha : PA X (e :: es) t) (hdb : (x == ("__debug__" : Str)) = false := by decide) (he : starEach (e :: es) X.env = (false, eval e X.env) :: starEach es X.env := by rfl) (hpl : (backTo pos (starEach es X.env)).any (·.1) = false := by rfl) :
    PE X (.Call (.Name x p) (e :: es) [] pos) (tCall sp [] E0 t) := by
  obtain ⟨f, fd, a, b, c, d⟩ := F.ex
  exact pe_call a hr hg d c b .nil pass0 ha hdb he hpl
end

/-- the closed look at a comprehension's scope -/
def compChk (pn sn : List (Str × NameKind)) (N Fc : List Str) (js : List Nat) : Bool :=
  sn.all (fun y => y.2 != .cell) && sn.all (fun y => y.2 != .local || sn.lookup y.1 == some .local) && sn.all (fun y => y.2 != .free || pn.lookup y.1 == some .cell || pn.lookup y.1 == some .free) && js.length == Fc.length &&
  (List.range Fc.length).all fun k => match Fc[k]?, js[k]? with
    | some x, some j => sn.lookup x == some .free && N[j]? == some x
    | _, _ => false
theorem comp_ok {X : Cx} {scope : Scope} {Nc Fc : List Str} {js : List Nat} (hk : scope.kind = .function := by rfl) (h : compChk X.env.scope.names scope.names X.N Fc js = true := by rfl) : CompOk X scope Nc Fc js := by
  unfold compChk at h
  simp only [Bool.and_eq_true, List.all_eq_true, Bool.or_eq_true, bne_iff_ne, beq_iff_eq, ne_eq] at h
  obtain ⟨⟨⟨⟨h1, h2⟩, h3⟩, h4⟩, h5⟩ := h
  refine ⟨hk, h1, fun y hy hl => (h2 y hy).resolve_left (fun z => z hl), fun y hy hf => ?_, fun k x hx => ?_, h4⟩
  · rcases h3 y hy with (z | z) | z
    · exact absurd hf z
    · exact .inl z
    · exact .inr z
  · have hk' : k < Fc.length := (List.getElem?_eq_some_iff.mp hx).1
    have q := h5 k (List.mem_range.mpr hk')
    have hj : k < js.length := by omega
    rw [hx, List.getElem?_eq_getElem hj] at q
    simp only [Bool.and_eq_true, beq_iff_eq] at q
    exact ⟨q.1, _, List.getElem?_eq_getElem hj, q.2⟩
end L2
namespace L2
open PySem PySem.Spec PyProof.Rows
section
variable {X : Cx}
theorem g_eq (hu : X.A.units + 64 < cLine) : OpR X (compareOp .Eq) (fun x y H Q => rEq x y H Q ∨ (∃ d e, Den X.K H d x ∧ Den X.K H e y ∧ SeqAt.shaped d = true ∧ SeqAt.shaped e = true ∧ Q (.bl (PyData.eqv d e)) H)) := op_eq.or (op_eqD hu)
theorem g_ne (hu : X.A.units + 64 < cLine) : OpR X (compareOp .NotEq) (fun x y H Q => rNe x y H Q ∨ (∃ d e, Den X.K H d x ∧ Den X.K H e y ∧ SeqAt.shaped d = true ∧ SeqAt.shaped e = true ∧ Q (.bl (!PyData.eqv d e)) H)) := op_ne.or (op_neD hu)
theorem g_is : OpR X (compareOp .Is) (fun x y H Q => (y = .non ∧ Q (.bl (decide (x = .non))) H) ∨ (∃ a b, x = .bl a ∧ y = .bl b ∧ Q (.bl (decide (a = b))) H)) := op_isN.or op_isB
theorem g_isnot : OpR X (compareOp .IsNot) (fun x y H Q => (y = .non ∧ Q (.bl (!decide (x = .non))) H) ∨ (∃ a b, x = .bl a ∧ y = .bl b ∧ Q (.bl (!decide (a = b))) H)) := op_notN.or op_isnotB
theorem g_sl : SlR X (fun x lo hi H Q => rSlL X.K x lo hi H Q ∨ (∃ z, x = .str z ∧ z.length ≤ sizeLine ∧ Q (.str (Txt.slice z lo hi)) H)) := sl_list.or sl_str
/-- the built-in names that no def of the text hides -/
structure Nm (mg : Str → Option Value) : Prop where
  n_len : mg "len" = none
  n_range : mg "range" = none
  n_max : mg "max" = none
  n_min : mg "min" = none
  n_sum : mg "sum" = none
  n_all : mg "all" = none
  n_any : mg "any" = none
  n_list : mg "list" = none
  n_tuple : mg "tuple" = none
  n_int : mg "int" = none
  n_str : mg "str" = none
  n_bool : mg "bool" = none
  n_zip : mg "zip" = none
  n_enumerate : mg "enumerate" = none
  n_isinstance : mg "isinstance" = none
  n_divmod : mg "divmod" = none
end
end L2

set_option Elab.async false
set_option linter.all false
set_option maxRecDepth 100000
set_option maxHeartbeats 4000000
/-! the same rules with the text's own objects K named (inside a comprehension no hole may hang on the block) -/
namespace L2
open PySem PySem.Spec PyProof.Rows
/-- a comprehension of N turns by what holds ahead of turn i; Nx is what is to be reached behind it -/
theorem comp_go {J : It} {n : Nat} {js : List Nat} {g : TG} {tc : TT} {te : TE} {σ : St} {H1 : Hp} {fin : List V → Hp → Prop} (N : Nat) (Pv : Nat → List V → Hp → Prop) (h0 : Pv 0 [] H1)
    (go : ∀ i ys H (Nx : List V → Hp → Prop), i < N → Pv i ys H → (∀ ys' H', Pv (i + 1) ys' H' → Nx ys' H') → J.go i H ∧ ys.length < sizeLine ∧
      ∀ x H', J.yld i H x H' → g x (List.replicate n none ++ cvals σ js) H' fun σ2 H2 => tc σ2 H2 fun b H3 => if b = true then te σ2 H3 fun y H4 => Nx (ys ++ [y]) H4 else Nx ys H3)
    (stop : ∀ ys H, Pv N ys H → J.stop N H ∧ fin ys H) : CompW J n js g tc te σ H1 fin := by
  refine ⟨fun i m ys H => m = N - i ∧ i ≤ N ∧ Pv i ys H, ⟨N, by simp, Nat.zero_le _, h0⟩, ?_⟩
  rintro i m ys H ⟨rfl, hi, p⟩
  by_cases hlt : i < N
  · exact .inr (go i ys H (fun ys' H' => ∃ m', m' < N - i ∧ (m' = N - (i + 1) ∧ i + 1 ≤ N ∧ Pv (i + 1) ys' H')) hlt p fun ys' H' q => ⟨_, by omega, rfl, hlt, q⟩)
  · have e : i = N := by omega
    subst e
    exact .inl (stop ys H p)
section
variable {X : Cx} (K : PySem.W.Frag)
theorem ixK (hK : X.K = K := by rfl) : IxR X (rIx K) := by subst hK; exact ix_seq
theorem lenK (hK : X.K = K := by rfl) : CallR X (.builtin "len") (fun xs H Q => ∃ x n, xs = [x] ∧ LenV K x H n ∧ Q (.int n) H) := by subst hK; exact call_len
theorem joinK (hK : X.K = K := by rfl) : MtR X "str.join" (fun x vs H Q => ∃ (sep : Str) (p : Addr) (xs : List Str), x = .str sep ∧ vs = [.ref p] ∧ SqL K H p (xs.map V.str) ∧ (xs.map (·.length)).sum + xs.length * sep.length ≤ 16777216 ∧ Q (.str (Txt.join sep xs)) H) := by subst hK; exact mt_join
theorem piK {tg l : Expr} {tl : TE} (hl : PE X l tl) (hK : X.K = K := by rfl) : PI X tg l (iList K tl) := by subst hK; exact pi_list hl
theorem tupK {pos : Pos} {es : List Expr} {k : Nat} {t : TGs} (n : Nat) (hc : X.calm = true) (h : PGs X es t) (hn : (assignEach es X.env).length = n := by rfl) (hst : (assignEach es X.env).findIdx? (·.1) = none := by rfl) (hK : X.K = K := by rfl) : PG X (.Tuple es k pos) (gTup K n t) := by subst hK; exact pg_tup hc h hn hst
theorem bmK {o e : Expr} {es : List Expr} {to : TE} {t : TA} {name : Str} {apos cpos : Pos} {T id : String} {r : V → List V → Hp → VK → Prop} (pa : PlainAttrs T) (slot : Slot T name id) (hty : typeOf (.builtin id) = pure (.type "method_descriptor")) (hm : MtR X id r) (ho : PE X o to) (ha : PA X (e :: es) t)
    (hbase : attributeBase o name X.env (eval o X.env) = eval o X.env := by rfl)
    (hfew : ((backTo cpos (starEach (e :: es) X.env)).all (fun x => !x.1) && (backToKw cpos (keywordEach [] X.env)).all (fun x => x.1.isSome)
      && decide ((e :: es).length + ([] : List Keyword).length + (if ([] : List Keyword).isEmpty then 0 else 1) < 30)) = true := by rfl)
    (hline : (apos.endLine == cpos.line) = true := by rfl) (hs : starEach (e :: es) X.env = (false, eval e X.env) :: starEach es X.env := by rfl) (hplain : (backTo cpos (starEach es X.env)).any (·.1) = false := by rfl) (hK : X.K = K := by rfl) :
    PE X (.Call (.Attribute o name apos) (e :: es) [] cpos) (tBM K T r to t) := by subst hK; exact pe_bm pa slot hty hm ho ha hbase hfew hline hs hplain
theorem eqK (hu : X.A.units + 64 < cLine) (hK : X.K = K := by rfl) : OpR X (compareOp .Eq) (fun x y H Q => rEq x y H Q ∨ (∃ d e, Den K H d x ∧ Den K H e y ∧ SeqAt.shaped d = true ∧ SeqAt.shaped e = true ∧ Q (.bl (PyData.eqv d e)) H)) := by subst hK; exact g_eq hu
theorem neK (hu : X.A.units + 64 < cLine) (hK : X.K = K := by rfl) : OpR X (compareOp .NotEq) (fun x y H Q => rNe x y H Q ∨ (∃ d e, Den K H d x ∧ Den K H e y ∧ SeqAt.shaped d = true ∧ SeqAt.shaped e = true ∧ Q (.bl (!PyData.eqv d e)) H)) := by subst hK; exact g_ne hu
end
end L2

set_option Elab.async false
set_option linter.all false
set_option maxRecDepth 100000
set_option maxHeartbeats 4000000
/-! list(it) of anything that hands out items: what it must promise (Feed), and the list that comes of it -/
namespace L2
open PySem PySem.Spec PyProof.Rows

/-- keeps g h c: what stands outside c in g stands in h -/
abbrev Keeps (g h : Heap) (c : Addr → Prop) : Prop := ∀ b o, ¬ c b → g.get? b = some o → h.get? b = some o
/-- the thing at it hands out n items, while a list grows at S; fp: what a turn may change; St: its state; P: what is true of an item; R: of two items -/
structure Feed (prog : Program) (w : World) (A : Around) (it S : Addr) (T : String) (fp : Addr → Prop) (n : Nat) (P : Nat → Value → Heap → Prop) (R : Value → Value → Prop) (St : Nat → Heap → Prop) : Prop where
  sfp : ¬ fp S
  ne : it ≠ S
  ty : ∀ i h, St i h → ∃ o, h.get? it = some o ∧ o.cls = .type T
  self : ∀ (s : Shared) (Q : Value → Shared → Prop) (E : Value → Shared → Prop), St 0 s.heap → Q (.ref it) s → wpAny (model prog w) A (pyIter (.ref it)) Q E s
  item : ∀ i (s : Shared) (Q : Option Value → Shared → Prop) (E : Value → Shared → Prop), i < n → St i s.heap → S < s.heap.objs.size →
    (∀ v h' tk, Keeps s.heap h' fp → St (i + 1) h' → P i v h' → (∀ j u, P j u s.heap → R u v) → Q (some v) { s with heap := h', toks := tk }) → wpAny (model prog w) A (pyNext (.ref it)) Q E s
  stop : ∀ (s : Shared) (Q : Option Value → Shared → Prop) (E : Value → Shared → Prop), St n s.heap → S < s.heap.objs.size → (∀ h' tk, Keeps s.heap h' fp → Q none { s with heap := h', toks := tk }) → wpAny (model prog w) A (pyNext (.ref it)) Q E s
  keepS : ∀ i h h', St i h → Keeps h h' (· = S) → St i h'
  keepP : ∀ j v h h', P j v h → Keeps h h' (fun b => fp b ∨ b = S) → P j v h'
  nolen : typeLookup (.type T) "__len__" = pure none
  nohint : typeLookup (.type T) "__length_hint__" = pure none
  nl : (Value.type T == Value.type "list") = false
  nt : (Value.type T == Value.type "tuple") = false

/-- the list as far as it has grown -/
structure Grown (h : Heap) (S : Addr) (i : Nat) (P : Nat → Value → Heap → Prop) (R : Value → Value → Prop) (acc : Array Value) (c : Nat) : Prop where
  ob : h.get? S = some { cls := .type "list", data := .seq acc c }
  sz : acc.size = i
  pw : acc.toList.Pairwise R
  all : ∀ (j : Nat) v, acc[j]? = some v → P j v h
abbrev RunsTo (prog : Program) (w : World) (A : Around) (R : Result → Shared → Prop) : Fin → Shared → Prop := fun fin s' => match fin with
  | .done f => R (.ok f) s'
  | .again c' => c'.quiet = true ∧ codeAny (model prog w) A c' R s'

section
variable {prog : Program} {w : World} {A : Around} {it S : Addr} {T : String} {fp : Addr → Prop} {n : Nat} {P : Nat → Value → Heap → Prop} {R : Value → Value → Prop} {St : Nat → Heap → Prop}
/-- what the list is at the end, over the heap g at the start -/
abbrev FeedEnd (g : Heap) (S : Addr) (fp : Addr → Prop) (n : Nat) (P : Nat → Value → Heap → Prop) (R : Value → Value → Prop) (s : Shared) (Z : Shared → Prop) : Prop :=
  ∀ h' tk acc c, Keeps g h' (fun b => fp b ∨ b = S) → Grown h' S n P R acc c → Z { s with heap := h', toks := tk }

theorem feed_loop (Fd : Feed prog w A.in1 it S T fp n P R St) (hn : n ≤ sizeLine) {s : Shared} {Z : Result → Shared → Prop} {res : Value} {g : Heap} (fin : FeedEnd g S fp n P R s (Z (.ok (.ret res)))) :
    ∀ (k i : Nat) (h : Heap) (tk : Nat) (acc : Array Value) (c : Nat), i + k = n → St i h → Grown h S i P R acc c → Keeps g h (fun b => fp b ∨ b = S) →
      codeAny (model prog w) A (.builtin "list.extend.loop" ⟨[.ref S, .ref it, res], []⟩) Z { s with heap := h, toks := tk }
  | 0, i, h, tk, acc, c, hk, hst, G, kp => by
    have e : i = n := by omega
    subst e
    refine codeAny_builtin PySem.F.entry_extend_loop ?_
    rw [Around.under_plainId PySem.F.plain_extend_loop _]
    refine wpAny_bind (Fd.stop { s with heap := h, toks := tk } _ _ hst (Heap.lt_size G.ob) fun h' tk' k' => wpAny_pure ?_)
    exact fin h' tk' acc c (fun b o nb q => k' b o (fun z => nb (.inl z)) (kp b o nb q)) ⟨k' _ _ Fd.sfp G.ob, G.sz, G.pw, fun j v e => Fd.keepP _ _ _ _ (G.all j v e) fun b o nb q => k' b o (fun z => nb (.inl z)) q⟩
  | k + 1, i, h, tk, acc, c, hk, hst, G, kp => by
    refine codeAny_builtin PySem.F.entry_extend_loop ?_
    rw [Around.under_plainId PySem.F.plain_extend_loop _]
    refine wpAny_bind (Fd.item i { s with heap := h, toks := tk } _ _ (by omega) hst (Heap.lt_size G.ob) fun v h' tk' k' st' pv rv => ?_)
    have ob' := k' _ _ Fd.sfp G.ob
    have other : Keeps h' (h'.update S (Obj.mapSeq (·.push v))) (· = S) := fun b o nb q => (Heap.get?_update_other _ _ (Ne.symm nb)).trans q
    have k2 : Keeps h (h'.update S (Obj.mapSeq (·.push v))) (fun b => fp b ∨ b = S) := fun b o nb q => other b o (fun z => nb (.inr z)) (k' b o (fun z => nb (.inl z)) q)
    have sz := G.sz
    refine wpAny_bind (wpAny_updateSeq ob' rfl (wpAny_pure ⟨plainId_quiet PySem.F.plain_extend_loop _, ?_⟩) (by rw [sz]; omega) (by show (acc.push v).size ≤ sizeLine + 1; rw [Array.size_push, sz]; omega))
    refine feed_loop Fd hn fin k (i + 1) _ tk' (acc.push v) _ (by omega) (Fd.keepS _ _ _ st' other) ⟨Heap.get?_update_self _ ob' rfl, by rw [Array.size_push, sz], ?_, fun j u e => ?_⟩ (fun b o nb q => k2 b o nb (kp b o nb q))
    · rw [Array.toList_push]
      refine List.pairwise_append.mpr ⟨G.pw, List.pairwise_singleton _ _, fun a ha b hb => ?_⟩
      obtain ⟨j, hj⟩ := List.mem_iff_getElem?.mp ha
      rw [List.mem_singleton.mp hb]
      exact rv j a (G.all j a (by simpa using hj))
    · by_cases hj : j < i
      · rw [Array.getElem?_push_lt (by omega)] at e
        exact Fd.keepP _ _ _ _ (G.all j u (by rw [Array.getElem?_eq_getElem (by omega)]; exact e)) k2
      · have hj' : j = i := by
          have := (Array.getElem?_eq_some_iff.mp e).1
          rw [Array.size_push] at this
          omega
        subst hj'
        have e' : (acc.push v)[acc.size]? = some u := by rw [sz]; exact e
        rw [Array.getElem?_push_size] at e'
        cases e'
        exact Fd.keepP _ _ _ _ pv fun b o nb q => other b o (fun z => nb (.inr z)) q

theorem feed_extend (Fd : Feed prog w A.in1 it S T fp n P R St) (hn : n ≤ sizeLine) {s : Shared} {Z : Result → Shared → Prop} {res : Value} {c₀ : Nat} (hst : St 0 s.heap) (hS : s.heap.get? S = some { cls := .type "list", data := .seq #[] c₀ })
    (fin : FeedEnd s.heap S fp n P R s (Z (.ok (.ret res)))) :
    wpAny (model prog w) A.in1 (Builtin.List.listExtendWith (.ref S) (.ref it) res) (RunsTo prog w A Z) (fun e s' => Z (.error e) s') s := by
  have go : ∀ (h : Heap) (c tk : Nat), Keeps s.heap h (· = S) → h.get? S = some { cls := .type "list", data := .seq #[] c } → codeAny (model prog w) A (.builtin "list.extend.loop" ⟨[.ref S, .ref it, res], []⟩) Z { s with heap := h, toks := tk } :=
    fun h c tk k o => feed_loop Fd hn fin n 0 h tk #[] c (by omega) (Fd.keepS _ _ _ hst k) ⟨o, rfl, .nil, fun j v e => by simp at e⟩ fun b o nb q => k b o (fun z => nb (.inr z)) q
  obtain ⟨oi, hoi, hci⟩ := Fd.ty 0 _ hst
  have hT : s.TypeIs (.ref it) T := ⟨oi, hoi, hci⟩
  have nsame : Builtin.List.listSameRef (.ref S) (.ref it) = false := by simp [Builtin.List.listSameRef, Ne.symm Fd.ne]
  unfold Builtin.List.listExtendWith
  refine wpAny_bind (wpAny_typeOf hT ?_)
  simp only [nsame, Fd.nl, Fd.nt, Bool.or_false, Bool.false_eq_true, if_false]
  refine wpAny_bind (Fd.self s _ _ hst ?_)
  have hint : ∀ (Q : Bool → Shared → Prop), Q true s → wpAny (model prog w) A.in1 (Builtin.List.listLengthHint (.ref it)) Q (fun e s' => Z (.error e) s') s := fun Q q => by
    unfold Builtin.List.listLengthHint
    refine wpAny_bind (wpAny_specialOf hT Fd.nolen ?_)
    refine wpAny_ite_split (fun z => absurd z (by decide)) fun _ => wpAny_ite_split (fun z => absurd z (by decide)) fun _ => ?_
    exact wpAny_bind (wpAny_specialOf hT Fd.nohint (wpAny_pure q))
  refine wpAny_bind (wpAny_holding (hint _ ?_))
  refine wpAny_ite_split (fun _ => ?_) fun _ => wpAny_pure ⟨plainId_quiet PySem.F.plain_extend_loop _, go _ c₀ _ (fun _ _ _ q => q) hS⟩
  refine wpAny_bind (wpAny_rule (wpAny_bind ?_))
  have o1 := Heap.get?_update_self (Obj.mapSeq (·.push Value.none)) hS rfl
  have o2 := Heap.get?_update_self (Obj.mapSeq (·.pop)) o1 rfl
  refine wpAny_bind (wpAny_updateSeq hS rfl (wpAny_updateSeq (hz := by seq_fits) o1 rfl (wpAny_pure ⟨plainId_quiet PySem.F.plain_extend_loop _, go _ _ _ (fun b o nb q => ?_) o2⟩)))
  exact (Heap.get?_update_other _ _ (Ne.symm nb)).trans ((Heap.get?_update_other _ _ (Ne.symm nb)).trans q)

theorem feed_init (Fd : Feed prog w A.in1 it S T fp n P R St) (hn : n ≤ sizeLine) {s : Shared} {Z : Result → Shared → Prop} (hst : St 0 s.heap) (hS : s.heap.get? S = some { cls := .type "list", data := .seq #[] })
    (fin : FeedEnd s.heap S fp n P R s (Z (.ok (.ret .none)))) :
    wpAny (model prog w) A.in1 (Builtin.«list.__init__» ⟨[.ref S, .ref it], []⟩) (RunsTo prog w A Z) (fun e s' => Z (.error e) s') s := by
  refine wpAny_bind ?_
  unfold Builtin.List.listItems
  refine wpAny_bind (wpAny_seqItems hS rfl (wpAny_pure ?_))
  have o1 := Heap.get?_update_self (Obj.mapSeq (fun _ => (#[] : Array Value))) hS rfl
  have k1 : Keeps s.heap (s.heap.update S (Obj.mapSeq (fun _ => (#[] : Array Value)))) (· = S) := fun b o nb q => (Heap.get?_update_other _ _ (Ne.symm nb)).trans q
  refine wpAny_bind (wpAny_updateSeq hS rfl (wpAny_bind (wpAny_letGo ?_)))
  refine feed_extend (s := { s with heap := _ }) Fd hn (Fd.keepS _ _ _ hst k1) o1 fun h' tk acc c k G => ?_
  exact fin h' tk acc c (fun b o nb q => k b o nb (k1 b o (fun z => nb (.inr z)) q)) G

/-- list(it): the list stands at the first free address -/
theorem feed_call {s : Shared} {Q : Value → Shared → Prop} {E : Value → Shared → Prop} (Fd : Feed prog w A.in1.in1 it s.heap.objs.size T fp n P R St) (hn : n ≤ sizeLine) (hst : ∀ o, St 0 (s.heap.push o))
    (fin : ∀ h' tk acc c, Keeps s.heap h' fp → Grown h' s.heap.objs.size n P R acc c → Q (.ref s.heap.objs.size) { s with heap := h', toks := tk }) :
    wpAny (model prog w) A (call (.type "list") [.ref it]) Q E s := by
  refine callType_codes (Q₁ := fun obj s₁ => obj = .ref s.heap.objs.size ∧ s₁ = { s with heap := s.heap.push { cls := .type "list", data := .seq #[] } }) F.called_list (F.typeCall_list_1 _) F.entry_list_init
    (code_list_new _ ⟨rfl, rfl⟩) fun obj s₁ h₁ => ?_
  obtain ⟨rfl, rfl⟩ := h₁
  have hS : (s.heap.push { cls := .type "list", data := .seq #[] }).get? s.heap.objs.size = some { cls := .type "list", data := .seq #[] } := Heap.get?_push_size _ rfl
  refine ⟨⟨_, hS, rfl⟩, F.args_list_init_2 _ _, feed_init (s := { s with heap := _ }) (A := A.in1) Fd hn (hst _) hS fun h' tk acc c k G => ⟨rfl, fin h' tk acc c (fun b o nb q => ?_) G⟩⟩
  exact k b o (fun z => z.elim nb fun z => addr_ne (Heap.lt_size q) (Nat.le_refl _) z) (Heap.get?_push_of_some _ q)
end
end L2

set_option Elab.async false
set_option linter.all false
set_option maxRecDepth 100000
set_option maxHeartbeats 4000000
/-! zip of two lists as a Feed: every pair that it has handed out is still held, so it lays a new one each turn -/
namespace L2
open PySem PySem.Spec PyProof.Rows

/-- a zip whose last pair stands at a -/
abbrev ZipOut (h : Heap) (z TI TO a : Addr) (f : Bool) : Prop :=
  h.get? z = some { cls := .type "zip", dict := none, data := .fields #[rawInt a, .bool f, .bool false, .ref TI, .ref TO], slots := #[] }
section
variable {prog : Program} {w : World} {A : Around} {E : Value → Shared → Prop} {s : Shared} {z TI TO i1 i2 l1 l2 a : Addr} {f : Bool} {oa : Obj}
theorem zip_busy {Q : Bool → Shared → Prop} (hz : ZipOut s.heap z TI TO a f) (ha : s.heap.get? a = some oa)
    (q : ∀ h, ZipOut h z TI TO a true → Heap.SameBut z s.heap h → Q false { s with heap := h }) : wpAny (model prog w) A (Builtin.SmallTypes.ownedTupleIsFree (.ref z)) Q E s := by
  unfold Builtin.SmallTypes.ownedTupleIsFree
  refine wpAny_bind (wpAny_field hz rfl (x := rawInt a) rfl ?_)
  show wpAny _ _ (loadIfAlive ((a : Int).toNat) >>= _) _ _ _
  rw [Int.toNat_natCast]
  refine wpAny_bind (PySem.W.kdx_alive ha ?_)
  simp only [Option.isNone_some, Bool.false_eq_true, if_false]
  refine wpAny_bind (wpAny_field hz rfl (x := .bool f) rfl ?_)
  cases f
  · exact wpAny_bind (wpAny_setField_rec hz (by simp) fun h e k => wpAny_pure (q h e k))
  · exact wpAny_pure (q s.heap hz (Heap.SameBut.refl _ _))
theorem zip_out_item {k : Nat} {xs ys : Array Value} {x y : Value} {Q : Option Value → Shared → Prop} (D : ZipApart z TI TO i1 i2 l1 l2) (hz : ZipOut s.heap z TI TO a f) (ha : s.heap.get? a = some oa) (hTI : IsPair s.heap TI (.ref i1) (.ref i2))
    (h1 : s.heap.IsListIter i1 l1 k) (h2 : s.heap.IsListIter i2 l2 k) (hl1 : s.heap.IsList l1 xs) (hl2 : s.heap.IsList l2 ys) (hx : xs[k]? = some x) (hy : ys[k]? = some y)
    (q : ∀ h', ZipOut h' z TI TO a true → h'.IsListIter i1 l1 (k + 1) → h'.IsListIter i2 l2 (k + 1) → IsPair h' s.heap.objs.size x y → Keeps s.heap h' (fun b => b = z ∨ b = i1 ∨ b = i2) → Q (some (.ref s.heap.objs.size)) { s with heap := h' }) :
    wpAny (model prog w) A (pyNext (.ref z)) Q E s := by
  have hT : s.TypeIs (.ref z) "zip" := ⟨_, hz, rfl⟩
  unfold pyNext
  refine wpAny_bind (wpAny_attempt (wpAny_callSpecial?_slot (name := Str.ofString "__next__") hT F.slot_zip_next (wpAny_call_entry F.slot_zip_next hT F.entry_zip_next ?_ (F.args_zip_next_1 _))))
  change wpAny _ _ (Bind.bind (field (.ref z) 2) _) _ _ _
  refine wpAny_bind (wpAny_field hz rfl (x := .bool false) rfl ?_)
  change wpAny _ _ (Bind.bind (field (.ref z) 3) _) _ _ _
  refine wpAny_bind (wpAny_field hz rfl (x := .ref TI) rfl (wpAny_bind (wpAny_seqItems hTI rfl ?_)))
  change wpAny _ _ (Bind.bind (Builtin.SmallTypes.ownedTupleIsFree (.ref z)) _) _ _ _
  refine wpAny_bind (zip_busy hz ha fun h0 z0 k0 => ?_)
  simp only [Bool.false_eq_true, if_false, ← Array.forIn_toList, List.forIn_cons, List.forIn_nil]
  refine wpAny_bind (wpAny_bind (wpAny_bind (wpAny_holding (wpAny_bind (wpAny_nextOf_list_item (h1.extBut k0.extBut D.i1z) (hl1.extBut k0.extBut D.l1z) hx fun h4 e4 k4 => wpAny_pure (wpAny_pure ?_))))))
  refine wpAny_bind (wpAny_bind (wpAny_holding (wpAny_bind (wpAny_nextOf_list_item ((h2.extBut k0.extBut D.i2z).extBut k4.extBut D.i12.symm) ((hl2.extBut k0.extBut D.l2z).extBut k4.extBut D.l2i1) hy fun h5 e5 k5 => wpAny_pure (wpAny_pure (wpAny_pure ?_))))))
  refine wpAny_bind (wpAny_newTuple (hsz := by show 2 ≤ sizeLine; decide) (wpAny_pure ⟨_, rfl, wpAny_pure ?_⟩))
  have hsz : h5.objs.size = s.heap.objs.size := by rw [k5.1, k4.1, k0.1]
  show Q (some (.ref h5.objs.size)) _
  rw [hsz]
  refine q (h5.push { cls := .type "tuple", data := .seq #[x, y] }) (Heap.get?_push_of_some _ (k5.extBut _ _ D.i2z.symm (k4.extBut _ _ D.i1z.symm z0))) ((e4.extBut k5.extBut D.i12).at fun o e => Heap.get?_push_of_some _ e) (e5.at fun o e => Heap.get?_push_of_some _ e) (by rw [← hsz]; exact Heap.get?_push_size _ rfl) fun b o nb e => ?_
  exact Heap.get?_push_of_some _ (k5.extBut _ _ (fun z => nb (.inr (.inr z))) (k4.extBut _ _ (fun z => nb (.inr (.inl z))) (k0.extBut _ _ (fun z => nb (.inl z)) e)))
theorem zip_out_stop {k : Nat} {xs ys : Array Value} {Q : Option Value → Shared → Prop} (hh : A.handled = none) (D : ZipApart z TI TO i1 i2 l1 l2) (hz : ZipOut s.heap z TI TO a f) (ha : s.heap.get? a = some oa) (hTI : IsPair s.heap TI (.ref i1) (.ref i2))
    (h1 : s.heap.IsListIter i1 l1 k) (h2 : s.heap.IsListIter i2 l2 k) (hl1 : s.heap.IsList l1 xs) (hl2 : s.heap.IsList l2 ys) (he : xs[k]? = none ∨ ys[k]? = none)
    (q : ∀ h', Keeps s.heap h' (fun b => b = z ∨ b = i1 ∨ b = i2) → Q none { s with heap := h' }) :
    wpAny (model prog w) A (pyNext (.ref z)) Q E s := by
  have hT : s.TypeIs (.ref z) "zip" := ⟨_, hz, rfl⟩
  unfold pyNext
  refine wpAny_bind (wpAny_attempt (wpAny_callSpecial?_slot (name := Str.ofString "__next__") hT F.slot_zip_next (wpAny_call_entry F.slot_zip_next hT F.entry_zip_next ?_ (F.args_zip_next_1 _))))
  change wpAny _ _ (Bind.bind (field (.ref z) 2) _) _ _ _
  refine wpAny_bind (wpAny_field hz rfl (x := .bool false) rfl ?_)
  change wpAny _ _ (Bind.bind (field (.ref z) 3) _) _ _ _
  refine wpAny_bind (wpAny_field hz rfl (x := .ref TI) rfl (wpAny_bind (wpAny_seqItems hTI rfl ?_)))
  change wpAny _ _ (Bind.bind (Builtin.SmallTypes.ownedTupleIsFree (.ref z)) _) _ _ _
  refine wpAny_bind (zip_busy hz ha fun h0 z0 k0 => ?_)
  simp only [Bool.false_eq_true, if_false, ← Array.forIn_toList, List.forIn_cons, List.forIn_nil]
  refine wpAny_bind (wpAny_bind (wpAny_bind (wpAny_holding ?_)))
  cases hx : xs[k]? with
  | none =>
    refine wpAny_bind (wpAny_nextOf_list_end hh (h1.extBut k0.extBut D.i1z) (hl1.extBut k0.extBut D.l1z) hx fun h4 e k4 oe => ?_)
    obtain ⟨o, ho, hc⟩ := oe
    exact wpAny_bind (wpAny_isInstance (T := "StopIteration") (b := true) ⟨o, ho, hc⟩ isSubtype_stop (wpAny_pure (q h4 fun b o nb x => k4 _ _ (fun z => nb (.inr (.inl z))) (k0.extBut _ _ (fun z => nb (.inl z)) x))))
  | some x =>
    have hy : ys[k]? = none := he.resolve_left (by rw [hx]; exact fun z => nomatch z)
    refine wpAny_bind (wpAny_nextOf_list_item (h1.extBut k0.extBut D.i1z) (hl1.extBut k0.extBut D.l1z) hx fun h4 e4 k4 => wpAny_pure (wpAny_pure ?_))
    refine wpAny_bind (wpAny_bind (wpAny_holding (wpAny_bind (wpAny_nextOf_list_end hh ((h2.extBut k0.extBut D.i2z).extBut k4.extBut D.i12.symm) ((hl2.extBut k0.extBut D.l2z).extBut k4.extBut D.l2i1) hy fun h5 e k5 oe => ?_))))
    obtain ⟨o, ho, hc⟩ := oe
    exact wpAny_bind (wpAny_isInstance (T := "StopIteration") (b := true) ⟨o, ho, hc⟩ isSubtype_stop (wpAny_pure (q h5 fun b o nb x => k5 _ _ (fun z => nb (.inr (.inr z))) (k4.extBut _ _ (fun z => nb (.inr (.inl z))) (k0.extBut _ _ (fun z => nb (.inl z)) x)))))
end
/-- the zip ahead of its i-th pair; S: where the list of its pairs grows -/
structure ZipFeeds (z TI TO i1 i2 l1 l2 S : Addr) (xs ys : Array Value) (i : Nat) (h : Heap) : Prop where
  ti : IsPair h TI (.ref i1) (.ref i2)
  to : ∃ a b, IsPair h TO a b
  it1 : h.IsListIter i1 l1 i
  it2 : h.IsListIter i2 l2 i
  a1 : h.IsList l1 xs
  a2 : h.IsList l2 ys
  zp : IsZip h z TI TO .none ∨ 0 < i ∧ ∃ a f oa, ZipOut h z TI TO a f ∧ h.get? a = some oa ∧ S < a
abbrev zipFp (z TO i1 i2 : Addr) (b : Addr) : Prop := b = z ∨ b = TO ∨ b = i1 ∨ b = i2
abbrev ZipPair (S : Addr) (xs ys : Array Value) (j : Nat) (v : Value) (h : Heap) : Prop := ∃ a x y, v = .ref a ∧ S < a ∧ xs[j]? = some x ∧ ys[j]? = some y ∧ IsPair h a x y
abbrev Rising (u v : Value) : Prop := ∃ a b : Addr, u = .ref a ∧ v = .ref b ∧ a < b
theorem zip_feed {prog : Program} {w : World} {A : Around} {z TI TO i1 i2 l1 l2 S : Addr} {xs ys : Array Value} (hh : A.handled = none) (D : ZipApart z TI TO i1 i2 l1 l2) (b1 : z < S) (b2 : TI < S) (b3 : TO < S) (b4 : i1 < S) (b5 : i2 < S) (b6 : l1 < S) (b7 : l2 < S) :
    Feed prog w A z S "zip" (zipFp z TO i1 i2) (min xs.size ys.size) (ZipPair S xs ys) Rising (ZipFeeds z TI TO i1 i2 l1 l2 S xs ys) where
  sfp := fun q => by
    rcases q with q | q | q | q <;> (rw [q] at b1 b3 b4 b5; first | exact absurd b1 (Nat.lt_irrefl _) | exact absurd b3 (Nat.lt_irrefl _) | exact absurd b4 (Nat.lt_irrefl _) | exact absurd b5 (Nat.lt_irrefl _))
  ne := Nat.ne_of_lt b1
  ty := fun i h st => by
    rcases st.zp with q | ⟨_, a, f, oa, q, _⟩
    · exact ⟨_, q, rfl⟩
    · exact ⟨_, q, rfl⟩
  self := fun s Q E st q => by
    rcases st.zp with r | ⟨r, _⟩
    · exact wpAny_pyIter_zip r q
    · exact absurd r (Nat.lt_irrefl _)
  item := fun i s Q E hi st hS q => by
    obtain ⟨ti, ⟨a, b, to⟩, it1, it2, a1, a2, zp⟩ := st
    have hx : xs[i]? = some (xs[i]'(by omega)) := Array.getElem?_eq_getElem (by omega)
    have hy : ys[i]? = some (ys[i]'(by omega)) := Array.getElem?_eq_getElem (by omega)
    have old : ∀ j u, ZipPair S xs ys j u s.heap → Rising u (.ref s.heap.objs.size) := fun j u ⟨a, x, y, e, _, _, _, p⟩ => ⟨a, _, e, rfl, Heap.lt_size p⟩
    rcases zp with r | ⟨hi0, c, f, oc, r, oc', hc⟩
    · refine wpAny_pyNext_zip_item D r ti to it1 it2 a1 a2 hx hy fun h' r1 r2 r3 r4 r5 r6 r7 => ?_
      have kp : Keeps s.heap h' (zipFp z TO i1 i2) := fun b o nb e => r7 b o (fun z => nb (.inl z)) (fun z => nb (.inr (.inl z))) (fun z => nb (.inr (.inr (.inl z)))) (fun z => nb (.inr (.inr (.inr z)))) e
      refine q _ h' s.toks kp ⟨r7 _ _ D.TIz D.TITO D.TIi1 D.TIi2 ti, ⟨_, _, r2⟩, r3, r4, a1.at fun o e => r7 _ _ D.l1z D.l1TO D.l1i1 D.l1i2 e, a2.at fun o e => r7 _ _ D.l2z D.l2TO D.l2i1 D.l2i2 e, .inr ⟨Nat.succ_pos _, _, _, _, r1, r5, hS⟩⟩ ⟨_, _, _, rfl, hS, hx, hy, r5⟩ old
    · have ne : ∀ {b : Addr}, b < S → c ≠ b := fun hb => Nat.ne_of_gt (Nat.lt_trans hb hc)
      refine zip_out_item D r oc' ti it1 it2 a1 a2 hx hy fun h' r1 r2 r3 r4 r5 => ?_
      have kp : Keeps s.heap h' (zipFp z TO i1 i2) := fun b o nb e => r5 b o (fun z => z.elim (fun z => nb (.inl z)) fun z => nb (.inr (.inr z))) e
      refine q _ h' s.toks kp ⟨r5 _ _ (fun z => z.elim D.TIz fun z => z.elim D.TIi1 D.TIi2) ti, ⟨_, _, r5 _ _ (fun z => z.elim D.TOz fun z => z.elim D.TOi1 D.TOi2) to⟩, r2, r3, a1.at fun o e => r5 _ _ (fun z => z.elim D.l1z fun z => z.elim D.l1i1 D.l1i2) e, a2.at fun o e => r5 _ _ (fun z => z.elim D.l2z fun z => z.elim D.l2i1 D.l2i2) e,
        .inr ⟨Nat.succ_pos _, _, _, _, r1, r5 _ _ (fun z => z.elim (ne b1) fun z => z.elim (ne b4) (ne b5)) oc', hc⟩⟩ ⟨_, _, _, rfl, hS, hx, hy, r4⟩ old
  stop := fun s Q E st hS q => by
    obtain ⟨ti, ⟨a, b, to⟩, it1, it2, a1, a2, zp⟩ := st
    have he : xs[min xs.size ys.size]? = none ∨ ys[min xs.size ys.size]? = none := by
      rcases Nat.le_total xs.size ys.size with h | h
      · exact .inl (Array.getElem?_eq_none (by omega))
      · exact .inr (Array.getElem?_eq_none (by omega))
    rcases zp with r | ⟨hi0, c, f, oc, r, oc', hc⟩
    · exact wpAny_pyNext_zip_end hh D r ti to it1 it2 a1 a2 he fun h' k => q h' s.toks fun b o nb e => k b o (fun z => nb (.inl z)) (fun z => nb (.inr (.inl z))) (fun z => nb (.inr (.inr (.inl z)))) (fun z => nb (.inr (.inr (.inr z)))) e
    · exact zip_out_stop hh D r oc' ti it1 it2 a1 a2 he fun h' k => q h' s.toks fun b o nb e => k b o (fun z => z.elim (fun z => nb (.inl z)) fun z => nb (.inr (.inr z))) e
  keepS := fun i h h' st k => by
    obtain ⟨ti, ⟨a, b, to⟩, it1, it2, a1, a2, zp⟩ := st
    refine ⟨k _ _ (Nat.ne_of_lt b2) ti, ⟨a, b, k _ _ (Nat.ne_of_lt b3) to⟩, it1.at fun o e => k _ o (Nat.ne_of_lt b4) e, it2.at fun o e => k _ o (Nat.ne_of_lt b5) e, a1.at fun o e => k _ o (Nat.ne_of_lt b6) e, a2.at fun o e => k _ o (Nat.ne_of_lt b7) e, ?_⟩
    rcases zp with r | ⟨hi0, c, f, oc, r, oc', hc⟩
    · exact .inl (k _ _ (Nat.ne_of_lt b1) r)
    · exact .inr ⟨hi0, c, f, oc, k _ _ (Nat.ne_of_lt b1) r, k _ _ (Nat.ne_of_gt hc) oc', hc⟩
  keepP := fun j v h h' ⟨a, x, y, e, ha, h1, h2, p⟩ k => by
    have ne : ∀ {b : Addr}, b < S → a ≠ b := fun hb => Nat.ne_of_gt (Nat.lt_trans hb ha)
    exact ⟨a, x, y, e, ha, h1, h2, k _ _ (fun z => z.elim (fun z => z.elim (ne b1) fun z => z.elim (ne b3) fun z => z.elim (ne b4) (ne b5)) (Nat.ne_of_gt ha)) p⟩
  nolen := by rw [typeLookup_type, builtinLookup_eq_fast]; kernel_rfl
  nohint := by rw [typeLookup_type, builtinLookup_eq_fast]; kernel_rfl
  nl := by decide
  nt := by decide
end L2

set_option Elab.async false
set_option linter.all false
set_option maxRecDepth 100000
set_option maxHeartbeats 4000000
/-! list(zip(a, b)) over the hand layer -/
namespace L2
open PySem PySem.Spec PyProof.Rows

/-- many tuples adopted -/
theorem Inv.adoptAll {X : Cx} {pins : List (Addr × Obj)} {σ : St} : ∀ (as : List Addr) (ps : List (List V)) {H : Hp} {s : Shared}, Inv X pins σ H s → as.Nodup → as.length = ps.length → (∀ a ∈ as, FpOk X pins H a ∧ X.s₀.heap.objs.size ≤ a) →
    (∀ (j : Nat) a p, as[j]? = some a → ps[j]? = some p → p.length ≤ sizeLine ∧ ∃ its : List Value, Vals p its ∧ IsTup s.heap a its.toArray) →
    ∃ H', Inv X pins σ H' s ∧ Same H H' ∧ (∀ b, b ∉ as → H' b = H b) ∧ ∀ (j : Nat) a p, as[j]? = some a → ps[j]? = some p → H' a = some (.tup p)
  | [], ps, H, s, I, _, _, _, _ => ⟨H, I, Same.refl H, fun _ _ => rfl, fun j a p h _ => by simp at h⟩
  | a :: as, [], H, s, I, _, hl, _, _ => by simp at hl
  | a :: as, p :: ps, H, s, I, nd, hl, hf, ho => by
    obtain ⟨na, nd'⟩ := List.nodup_cons.mp nd
    obtain ⟨fa, sa⟩ := hf a List.mem_cons_self
    obtain ⟨hz, its, rv, ht⟩ := ho 0 a p rfl rfl
    have I1 := I.adopt (T := a) (o := .tup p) fa sa ⟨hz, its, rv, ht⟩
    obtain ⟨H', I', sm, same, all⟩ := Inv.adoptAll as ps I1 nd' (by simpa using hl) (fun b hb => by
      obtain ⟨fb, sb⟩ := hf b (List.mem_cons_of_mem _ hb)
      exact ⟨⟨by rw [upd_ne (fun (e : b = a) => na (by rw [← e]; exact hb))]; exact fb.1, fb.2⟩, sb⟩) (fun j b q h1 h2 => ho (j + 1) b q h1 h2)
    refine ⟨H', I', fun b o e => sm b o (by rw [upd_ne (ne_of_none e fa.1)]; exact e), fun b hb => ?_, fun j b q h1 h2 => ?_⟩
    · rw [same b fun z => hb (List.mem_cons_of_mem _ z), upd_ne (fun (z : b = a) => hb (by rw [z]; exact List.mem_cons_self))]
    · cases j with
      | zero =>
        cases h1; cases h2
        rw [same a na]; exact upd_same
      | succ j => exact all j b q h1 h2
theorem refs_of : ∀ {l : List Value}, (∀ v ∈ l, ∃ a : Addr, v = .ref a) → ∃ as : List Addr, l = as.map Value.ref
  | [], _ => ⟨[], rfl⟩
  | v :: r, h => by
    obtain ⟨a, rfl⟩ := h v List.mem_cons_self
    obtain ⟨as, rfl⟩ := refs_of fun u hu => h u (List.mem_cons_of_mem _ hu)
    exact ⟨a :: as, rfl⟩
section
variable {X : Cx}
def tLZ (K : PySem.W.Frag) (ta : TA) : TE := fun σ H Q => ta σ H fun vs H1 => ∃ l1 l2 xs ys, vs = [.ref l1, .ref l2] ∧ SqL K H1 l1 xs ∧ SqL K H1 l2 ys ∧
  ∀ H' p (as : List Addr), Same H1 H' → H1 p = none → H' p = some (.lst (as.map V.ref)) → as.length = min xs.length ys.length →
    (∀ (j : Nat) a x y, as[j]? = some a → xs[j]? = some x → ys[j]? = some y → H1 a = none ∧ H' a = some (.tup [x, y])) → Q (.ref p) H'
theorem zip_pairs {xs ys : List V} (j : Nat) (x y : V) (hx : xs[j]? = some x) (hy : ys[j]? = some y) : ((xs.zip ys).map fun q => [q.1, q.2])[j]? = some [x, y] := by
  rw [List.getElem?_map, (List.getElem?_zip_eq_some (z := (x, y))).mpr ⟨hx, hy⟩]
  rfl
theorem pe_listzip {a b : Expr} {ta : TA} {p p2 pos pos2 : Pos} (hc : X.calm = true) (hgl : Gl X "list") (hml : X.mg "list" = none) (hgz : Gl X "zip") (hmz : X.mg "zip" = none) (ha : PA X [a, b] ta)
    (hbl : bootBuiltins "list" = some (.type "list") := by first | rfl | decide) (hbz : bootBuiltins "zip" = some (.type "zip") := by first | rfl | decide)
    (hs0 : starEach [.Call (.Name "zip" p2) [a, b] [] pos2] X.env = [(false, eval (.Call (.Name "zip" p2) [a, b] [] pos2) X.env)] := by rfl)
    (hs : starEach [a, b] X.env = [(false, eval a X.env), (false, eval b X.env)] := by rfl) (hs2 : starEach [b] X.env = [(false, eval b X.env)] := by rfl) :
    PE X (.Call (.Name "list" p) [.Call (.Name "zip" p2) [a, b] [] pos2] [] pos) (tLZ X.K ta) := by
  intro pins s σ H Q I h
  refine wpAny_Call_Name_kw (ld_blt I hgl hml hbl ?_)
  refine PyProof.Rows.callWith_type1 ?_ hs0 rfl
  rw [hs0]
  show wpAny _ _ (spliced ((false, eval (.Call (.Name "zip" p2) [a, b] [] pos2) X.env) :: [])) _ _ _
  refine Calls.spliced_cons ?_
  refine Call_ (ld_blt I hgz hmz hbz (PyProof.Rows.callWith_type1 (thn (ha s σ H _ I h) fun us s1 ⟨vs, H1, I1, r1, q1⟩ => ?_) (by rw [hs, hs2]) (by rw [hs2]; rfl)))
  obtain ⟨l1, l2, xs, ys, e, q1, q2, q⟩ := q1
  subst e
  obtain ⟨u, w', rfl, r1, r2⟩ := vals2 r1
  cases r1; cases r2
  obtain ⟨its1, rv1, p1, hz1⟩ := I1.list q1
  obtain ⟨its2, rv2, p2, hz2⟩ := I1.list q2
  have e1 := rv1.length
  have e2 := rv2.length
  have a1 : l1 < s1.heap.objs.size := by obtain ⟨_, e, _⟩ := p1.isList; exact Heap.lt_size e
  have a2 : l2 < s1.heap.objs.size := by obtain ⟨_, e, _⟩ := p2.isList; exact Heap.lt_size e
  refine call_zip_2 p1.isList p2.isList fun h' hz hTI hTO hi1 hi2 hsz hk => ?_
  refine Calls.spliced_nil ?_
  have hSz : s1.heap.objs.size ≤ h'.objs.size := by rw [hsz]; exact Nat.le_add_right _ _
  have hin : ∀ n, n < 5 → s1.heap.objs.size + n < h'.objs.size := fun n hn => by rw [hsz]; exact Nat.add_lt_add_left hn _
  have zs : ∀ o, ZipFeeds (s1.heap.objs.size + 4) (s1.heap.objs.size + 2) (s1.heap.objs.size + 3) s1.heap.objs.size (s1.heap.objs.size + 1) l1 l2 h'.objs.size its1.toArray its2.toArray 0 (h'.push o) := fun o =>
    ⟨Heap.get?_push_of_some _ hTI, ⟨_, _, Heap.get?_push_of_some _ hTO⟩, hi1.at fun o e => Heap.get?_push_of_some _ e, hi2.at fun o e => Heap.get?_push_of_some _ e, (p1.isList.at fun o e => hk _ o e).push _, (p2.isList.at fun o e => hk _ o e).push _, .inl (Heap.get?_push_of_some _ hz)⟩
  refine feed_call (s := { s1 with heap := h' }) (zip_feed (I.ok.hd hc) (zipApart_new a1 a2) (hin 4 (by decide)) (hin 2 (by decide)) (hin 3 (by decide)) (hin 0 (by decide)) (hin 1 (by decide)) (Nat.lt_of_lt_of_le a1 hSz) (Nat.lt_of_lt_of_le a2 hSz)) (by simp; omega) zs fun h2 tk acc c hk2 G => ?_
  obtain ⟨hS2, hsz2, hpw, hall⟩ := G
  obtain ⟨as, hacc⟩ := refs_of (l := acc.toList) fun v hv => by
    obtain ⟨j, hj⟩ := List.mem_iff_getElem?.mp hv
    obtain ⟨a, _, _, e, _⟩ := hall j v (by simpa using hj)
    exact ⟨a, e⟩
  have at_as : ∀ (j : Nat) a, as[j]? = some a → ∃ x y, h'.objs.size < a ∧ its1.toArray[j]? = some x ∧ its2.toArray[j]? = some y ∧ IsPair h2 a x y := fun j a h => by
    obtain ⟨a', x, y, e, g⟩ := hall j (.ref a) (by
      have : acc.toList[j]? = some (.ref a) := by rw [hacc, List.getElem?_map, h]; rfl
      simpa using this)
    cases e
    exact ⟨x, y, g⟩
  have above : ∀ a ∈ as, h'.objs.size < a := fun a ha => by
    obtain ⟨j, hj⟩ := List.mem_iff_getElem?.mp ha
    obtain ⟨_, _, g, _⟩ := at_as j a hj
    exact g
  have old : ∀ b o, s1.heap.get? b = some o → h2.get? b = some o := fun b o e => by
    have hb := Heap.lt_size e
    have gt : ∀ n, b ≠ s1.heap.objs.size + n := fun n => Nat.ne_of_lt (Nat.lt_of_lt_of_le hb (Nat.le_add_right _ _))
    exact hk2 b o (fun z => z.elim (gt 4) fun z => z.elim (gt 3) fun z => z.elim (gt 0) (gt 1)) (hk b o e)
  have I2 : Inv X pins σ H1 { s1 with heap := h2, toks := tk } := I1.kept old
  have hab : ∀ a ∈ as, s1.heap.objs.size ≤ a := fun a ha => Nat.le_of_lt (Nat.lt_of_le_of_lt hSz (above a ha))
  have nd : as.Nodup := by
    rw [hacc, List.pairwise_map] at hpw
    exact hpw.imp fun ⟨a, b, e1, e2, h⟩ => by cases e1; cases e2; exact Nat.ne_of_lt h
  have fpOk : ∀ a, s1.heap.objs.size ≤ a → FpOk X pins H1 a ∧ X.s₀.heap.objs.size ≤ a := fun a ha => ⟨I1.fpOk ha (I1.hok.fresh ha), Nat.le_trans I1.sz ha⟩
  have hal : as.length = min xs.length ys.length := by
    have z : acc.toList.length = as.length := by rw [hacc, List.length_map]
    simp at z hsz2
    omega
  obtain ⟨H', I', sm, same, all⟩ := I2.adoptAll as ((xs.zip ys).map fun q => [q.1, q.2]) nd (by rw [List.length_map, List.length_zip]; omega) (fun a ha => fpOk a (hab a ha)) (fun j a pp h1 h2' => by
    obtain ⟨x, y, _, g1, g2, g3⟩ := at_as j a h1
    obtain ⟨vx, gx, rx⟩ := vals_at rv1 g1
    obtain ⟨vy, gy, ry⟩ := vals_at rv2 g2
    have z := zip_pairs j vx vy gx gy
    rw [z] at h2'; cases h2'
    exact ⟨by show 2 ≤ sizeLine; decide, [x, y], .cons rx (.cons ry .nil), ⟨_, g3, rfl, _, rfl⟩⟩)
  have hSn : h'.objs.size ∉ as := fun hm => Nat.lt_irrefl _ (above _ hm)
  have hS1 : H1 h'.objs.size = none := I1.hok.fresh hSz
  obtain ⟨fS, sS⟩ := fpOk h'.objs.size hSz
  have fS' : FpOk X pins H' h'.objs.size := ⟨by rw [same _ hSn]; exact hS1, fS.2⟩
  have I3 := I'.adopt (T := h'.objs.size) (o := .lst (as.map V.ref)) fS' sS ⟨by rw [List.length_map]; omega, acc.toList, c, by
    rw [hacc]
    clear hS2 hacc all same I' sm hab nd hal hSn above at_as
    induction as with
    | nil => exact .nil
    | cons a r ih => exact .cons rfl ih, by simpa using hS2⟩
  refine ⟨.ref h'.objs.size, _, I3, rfl, q _ _ as (fun b o e => ?_) hS1 upd_same hal fun j a x y h1 h2' h3' => ⟨(fpOk a (hab a (List.mem_of_getElem? h1))).1.1, ?_⟩⟩
  · rw [upd_ne (ne_of_none e hS1)]; exact sm b o e
  · rw [upd_ne (fun (z : a = h'.objs.size) => hSn (by rw [← z]; exact List.mem_of_getElem? h1))]
    exact all j a [x, y] h1 (zip_pairs j x y h2' h3')
end
end L2

set_option Elab.async false
set_option linter.all false
set_option maxRecDepth 100000
set_option maxHeartbeats 4000000
/-! the rules that lay or change an object, with the heap behind them as a letter -/
namespace L2
open PySem PySem.Spec PyProof.Rows
structure New (H : Hp) (p : Addr) (o : HO) (H' : Hp) : Prop where
  nn : H p = none
  eq : H' = upd H p o
theorem New.at {H H' : Hp} {p : Addr} {o : HO} (n : New H p o H') : H' p = some o := by rw [n.eq]; exact upd_same
theorem New.ne {H H' : Hp} {p a : Addr} {o : HO} (n : New H p o H') (h : a ≠ p) : H' a = H a := by rw [n.eq]; exact upd_ne h
theorem New.same {H H' : Hp} {p : Addr} {o : HO} (n : New H p o H') : Same H H' := fun a u e => by rw [n.ne (ne_of_none e n.nn)]; exact e
structure Chg (H : Hp) (p : Addr) (o : HO) (H' : Hp) : Prop where
  eq : H' = upd H p o
theorem Chg.at {H H' : Hp} {p : Addr} {o : HO} (n : Chg H p o H') : H' p = some o := by rw [n.eq]; exact upd_same
theorem Chg.ne {H H' : Hp} {p a : Addr} {o : HO} (n : Chg H p o H') (h : a ≠ p) : H' a = H a := by rw [n.eq]; exact upd_ne h
theorem new_all {H : Hp} {o : HO} {F : Addr → Hp → Prop} : (∀ p, H p = none → F p (upd H p o)) = ∀ p H', New H p o H' → F p H' :=
  propext ⟨fun h p H' n => by rw [n.eq]; exact h p n.nn, fun h p hp => h p _ ⟨hp, rfl⟩⟩
theorem chg_all {H : Hp} {p : Addr} {o : HO} {F : Hp → Prop} : F (upd H p o) = ∀ H', Chg H p o H' → F H' :=
  propext ⟨fun h H' n => by rw [n.eq]; exact h, fun h => h _ ⟨rfl⟩⟩
section
variable {X : Cx} {pos : Pos} {es : List Expr} {t : TA}
def tTupN (t : TA) : TE := fun σ H Q => t σ H fun xs H1 => xs.length ≤ sizeLine ∧ ∀ p H', New H1 p (.tup xs) H' → Q (.ref p) H'
def tLstN (t : TA) : TE := fun σ H Q => t σ H fun xs H1 => xs.length ≤ sizeLine ∧ ∀ p H', New H1 p (.lst xs) H' → Q (.ref p) H'
theorem tupN {x1} (h : PA X es t) : PE X (.Tuple es x1 pos) (tTupN t) := by
  have e : tTupN t = tTup t := by
    funext σ H Q
    show t σ H _ = t σ H _
    congr 1; funext xs H1
    exact congrArg (_ ∧ ·) (new_all (F := fun p H' => Q (.ref p) H')).symm
  rw [e]; exact pe_tup h
theorem lstN (h : PA X es t) : PE X (.List es pos) (tLstN t) := by
  have e : tLstN t = tLst t := by
    funext σ H Q
    show t σ H _ = t σ H _
    congr 1; funext xs H1
    exact congrArg (_ ∧ ·) (new_all (F := fun p H' => Q (.ref p) H')).symm
  rw [e]; exact pe_lst h
def tDispN (trs : List (TE × TE)) : TE := fun σ H Q => ∀ p H0, New H p (.dK []) H0 → tPairs trs σ H0 fun ps H2 => H2 p = some (.dK []) ∧ ∃ kvs : List (Key × V), ps = kvs.map (fun kv => (kV kv.1, kv.2)) ∧ kvs.length ≤ 15 ∧ ∀ H3, Chg H2 p (.dK (mergeK [] kvs)) H3 → Q (.ref p) H3
theorem dispN {keys : List (Option Expr)} {values : List Expr} {trs : List (TE × TE)} (h : PPs X pos keys values trs) (hall : keys.all (·.isSome) = true) (hl : keys.length = values.length) (h0 : keys ≠ [])
    (h15 : keys.length ≤ 15) : PE X (.Dict keys values pos) (tDispN trs) := by
  have e : tDispN trs = tDisp trs := by
    funext σ H Q
    unfold tDispN tDisp
    rw [new_all (F := fun p H0 => tPairs trs σ H0 fun ps H2 => H2 p = some (.dK []) ∧ ∃ kvs : List (Key × V), ps = kvs.map (fun kv => (kV kv.1, kv.2)) ∧ kvs.length ≤ 15 ∧ Q (.ref p) (upd H2 p (.dK (mergeK [] kvs))))]
    simp only [← chg_all (F := fun H3 => Q (.ref _) H3)]
  rw [e]; exact pe_disp h hall hl h0 h15
end
section
variable {X : Cx} (K : PySem.W.Frag)
/-- x[lo:hi] of a list or a text -/
def rSlN (K : PySem.W.Frag) : V → Option Int → Option Int → Hp → VK → Prop := fun x lo hi H Q => (∃ a xs, x = .ref a ∧ SqL K H a xs ∧ ∀ p H', New H p (.lst (cutV xs lo hi)) H' → Q (.ref p) H') ∨ (∃ z, x = .str z ∧ z.length ≤ sizeLine ∧ Q (.str (Txt.slice z lo hi)) H)
theorem slN (hK : X.K = K := by rfl) : SlR X (rSlN K) := by
  subst hK
  intro pins s σ H x v vl vu lo hi sl Q I rx hs pl pu q
  refine g_sl s σ H x v vl vu lo hi sl Q I rx hs pl pu ?_
  rcases q with ⟨a, xs, e, h, q⟩ | q
  · exact .inl ⟨a, xs, e, h, fun p hp => q p _ ⟨hp, rfl⟩⟩
  · exact .inr q
theorem listN (hK : X.K = K := by rfl) : CallR X (.type "list") (fun xs H Q => ∃ p ys, xs = [.ref p] ∧ (SqL K H p ys ∨ SqT K H p ys) ∧ ∀ l H', New H l (.lst ys) H' → Q (.ref l) H') := by
  subst hK
  intro pins s σ H xs us Q I r h
  obtain ⟨p, ys, e, h, q⟩ := h
  exact call_list_of s σ H xs us Q I r ⟨p, ys, e, h, fun l hl => q l _ ⟨hl, rfl⟩⟩
theorem tupleN (hK : X.K = K := by rfl) : CallR X (.type "tuple") (fun xs H Q => ∃ p ys, xs = [.ref p] ∧ ((SqL K H p ys ∧ ∀ l H', New H l (.tup ys) H' → Q (.ref l) H') ∨ (SqT K H p ys ∧ Q (.ref p) H))) := by
  subst hK
  intro pins s σ H xs us Q I r h
  obtain ⟨p, ys, e, h⟩ := h
  refine call_tuple_of s σ H xs us Q I r ⟨p, ys, e, ?_⟩
  rcases h with ⟨h, q⟩ | h
  · exact .inl ⟨h, fun l hl => q l _ ⟨hl, rfl⟩⟩
  · exact .inr h
end
section
variable {X : Cx}
def rAddN : R2 := fun x y H Q => (∃ i j, x = .int i ∧ y = .int j ∧ Q (.int (i + j)) H) ∨ (∃ i j, x = .str i ∧ y = .str j ∧ i.length + j.length ≤ sizeLine ∧ Q (.str (i ++ j)) H) ∨
  ∃ l b xs zs, x = .ref l ∧ y = .ref b ∧ H l = some (.lst xs) ∧ H b = some (.lst zs) ∧ xs.length + zs.length ≤ sizeLine ∧ ∀ p H', New H p (.lst (xs ++ zs)) H' → Q (.ref p) H'
theorem addN : OpR X (binaryOp .Add) rAddN := by
  intro pins s σ H x y v u Q I rx ry h
  refine g_add s σ H x y v u Q I rx ry ?_
  rcases h with h | h | ⟨l, b, xs, zs, e1, e2, h1, h2, h3, q⟩
  · exact .inl h
  · exact .inr (.inl h)
  · exact .inr (.inr ⟨l, b, xs, zs, e1, e2, h1, h2, h3, fun p hp => q p _ ⟨hp, rfl⟩⟩)
def rMulN : R2 := fun x y H Q => (∃ i j, x = .int i ∧ y = .int j ∧ CMul i j ∧ Q (.int (i * j)) H) ∨
  ∃ l k xs, x = .ref l ∧ y = .int k ∧ H l = some (.lst xs) ∧ -(2 ^ 63) ≤ k ∧ k < 2 ^ 63 ∧ xs.length * k.toNat ≤ sizeLine ∧ ∀ p H', New H p (.lst (List.replicate k.toNat xs).flatten) H' → Q (.ref p) H'
theorem mulN : OpR X (binaryOp .Mult) rMulN := by
  intro pins s σ H x y v u Q I rx ry h
  refine g_mul s σ H x y v u Q I rx ry ?_
  rcases h with h | ⟨l, k, xs, e1, e2, h1, h2, h3, h4, q⟩
  · exact .inl h
  · exact .inr ⟨l, k, xs, e1, e2, h1, h2, h3, h4, fun p hp => q p _ ⟨hp, rfl⟩⟩
theorem appendN : MtM X "list.append" (fun x vs H Q => ∃ l xs y, x = .ref l ∧ vs = [y] ∧ H l = some (.lst xs) ∧ xs.length < sizeLine ∧ ∀ H', Chg H l (.lst (xs ++ [y])) H' → Q .non H') := by
  intro pins s σ H x xs v us Q I rx rv h
  obtain ⟨l, ys, y, e1, e2, h1, h2, q⟩ := h
  exact mt_append s σ H x xs v us Q I rx rv ⟨l, ys, y, e1, e2, h1, h2, q _ ⟨rfl⟩⟩
end
/-- the reading of an index at a place in bounds -/
theorem at_nat {α : Type} {xs : List α} {i : Int} {v : α} (h0 : 0 ≤ i) (h : xs[i.toNat]? = some v) : atI xs i = some v := by
  have q := atI_nat h
  have e : ((i.toNat : Nat) : Int) = i := by omega
  rw [e] at q
  exact q
end L2

set_option Elab.async false
set_option linter.all false
set_option maxRecDepth 100000
set_option maxHeartbeats 4000000
/-! isinstance of data -/
namespace L2
open PySem PySem.Spec PyProof.Rows
/-- a data's type -/
def tyD : PyData → String
  | .none => "NoneType"
  | .bool _ => "bool"
  | .int _ => "int"
  | .str _ => "str"
  | .list _ => "list"
  | .tuple _ => "tuple"
  | .dict _ => "dict"
/-- is it one of this type -/
def isD (d : PyData) (T : String) : Bool := tyD d == T || (tyD d == "bool" && T == "int")
theorem kitT (K : PySem.W.Frag) (d : PyData) : PySem.W.kitOne K (.type (tyD d)) (.type "bool") = some (isD d "bool") ∧ PySem.W.kitOne K (.type (tyD d)) (.type "int") = some (isD d "int") ∧ PySem.W.kitOne K (.type (tyD d)) (.type "str") = some (isD d "str") ∧
    PySem.W.kitOne K (.type (tyD d)) (.type "list") = some (isD d "list") ∧ PySem.W.kitOne K (.type (tyD d)) (.type "tuple") = some (isD d "tuple") := by
  cases d <;> exact ⟨rfl, rfl, rfl, rfl, rfl⟩
section
variable {X : Cx}
theorem den_kit {pins : List (Addr × Obj)} {σ : St} {H : Hp} {s : Shared} {x : V} {u : Value} {d : PyData} (I : Inv X pins σ H s) (rx : RelV x u) (h : Den X.K H d x) : ∃ HH : Heap → Prop, PySem.W.KitX X.K u (.type (tyD d)) HH ∧ HH s.heap ∧ u ≠ .builtin "__main__.__loader__#opaque" := by
  cases d with
  | none => unfold Den at h; subst h; cases rx; exact ⟨_, PySem.W.kitx_none, True.intro, fun z => nomatch z⟩
  | bool b => unfold Den at h; subst h; cases rx; exact ⟨_, PySem.W.kitx_bool, True.intro, fun z => nomatch z⟩
  | int i => unfold Den at h; subst h; obtain ⟨t, rfl⟩ := rx; exact ⟨_, PySem.W.kitx_int, True.intro, fun z => nomatch z⟩
  | str y => unfold Den at h; subst h; obtain ⟨t, rfl⟩ := rx; exact ⟨_, PySem.W.kitx_str, True.intro, fun z => nomatch z⟩
  | list ds =>
    unfold Den at h
    obtain ⟨a, vs, rfl, h2, _⟩ := h
    cases rx
    obtain ⟨its, _, ⟨o, n, e1, e2, _⟩, _⟩ := I.list h2
    exact ⟨_, PySem.W.kitx_list, ⟨o, e1, e2⟩, fun z => nomatch z⟩
  | tuple ds =>
    unfold Den at h
    obtain ⟨a, vs, rfl, h2, _⟩ := h
    cases rx
    obtain ⟨its, _, ⟨o, e1, e2, _⟩, _⟩ := I.tuple h2
    exact ⟨_, PySem.W.kitx_tuple, ⟨o, e1, e2⟩, fun z => nomatch z⟩
  | dict _ => unfold Den at h; exact h.elim
theorem call_isiD : CallR X (.builtin "isinstance") (fun xs H Q => ∃ (x : V) (T : String) (d : PyData) (b : Bool), xs = [x, .ty T] ∧ Den X.K H d x ∧ PySem.W.kitOne X.K (.type (tyD d)) (.type T) = some b ∧ Q (.bl b) H) := by
  intro pins s σ H xs us Q I r h
  obtain ⟨x, T, d, b, rfl, hd, e, q⟩ := h
  obtain ⟨u, w', rfl, r1, r2⟩ := vals2 r
  cases r2
  obtain ⟨HH, Z, hh, hx⟩ := den_kit I r1 hd
  exact PySem.W.kia_one Z I.kIn hh e hx fun tk => ⟨.bl b, H, I.tok _, rfl, q⟩
/-- by data, or by the type -/
def rIsi (K : PySem.W.Frag) : List V → Hp → VK → Prop := fun xs H Q => (∃ (x : V) (T : String) (d : PyData) (b : Bool), xs = [x, .ty T] ∧ Den K H d x ∧ PySem.W.kitOne K (.type (tyD d)) (.type T) = some b ∧ Q (.bl b) H) ∨
  ∃ x T t b, xs = [x, .ty T] ∧ TyOf K H x t ∧ PySem.W.kitOne K t (.type T) = some b ∧ Q (.bl b) H
theorem isiK (K : PySem.W.Frag) (hK : X.K = K := by rfl) : CallR X (.builtin "isinstance") (rIsi K) := by subst hK; exact call_isiD.or call_isi
end
end L2

set_option Elab.async false
set_option linter.all false
set_option maxRecDepth 100000
set_option maxHeartbeats 4000000
/-! zip over lists and tuples (k: is it a tuple) -/
namespace L2
open PySem PySem.Spec PyProof.Rows
section
variable {prog : Program} {w : World} {A : Around} {E : Value → Shared → Prop} {s : Shared} {k : Bool} {it a : Addr} {i : Nat} {its : Array Value}
end
section
variable {prog : Program} {w : World} {A : Around} {E : Value → Shared → Prop} {s : Shared} {k1 k2 : Bool} {z TI TO i1 i2 l1 l2 : Addr} {i : Nat} {xs ys : Array Value}
end
end L2

set_option Elab.async false
set_option linter.all false
set_option maxRecDepth 100000
set_option maxHeartbeats 4000000
/-! zip in a loop's head, over lists and tuples -/
namespace L2
open PySem PySem.Spec PyProof.Rows
section
variable {prog : Program} {w : World} {A : Around} {E : Value → Shared → Prop} {s : Shared}
end
section
variable {X : Cx}
end
end L2

set_option Elab.async false
set_option linter.all false
set_option maxRecDepth 100000
set_option maxHeartbeats 4000000
/-! insert; loops over a list, a tuple or a text; xs[::-1]; the least of a list -/
namespace L2
open PySem PySem.Spec PyProof.Rows
section
variable {X : Cx}
end
/-- a text's signs, one by one -/
def Itx (z : Str) : It := ⟨fun i _ => i < z.cps.size, fun i H x H' => H' = H ∧ ∀ c, z.cps[i]? = some c → x = .str ⟨#[c]⟩, fun i _ => z.cps.size ≤ i⟩
theorem turn_text {P : Program} {w : World} {K : PySem.W.Frag} {tg : Expr} (it : Addr) (z : Str) (t : Tok) : Turn P w K tg (Itx z) [it] it (fun i h => h.IsStrIter it "str_ascii_iterator" z t i) where
  mem := by simp
  obj := fun i h st b hb => by
    have e : b = it := by simpa using hb
    subst e
    obtain ⟨o, h1, h2, h3⟩ := st
    exact ⟨o, h1, fun v q => by rw [h3] at q; cases q⟩
  keep := fun i h h' st k => by
    obtain ⟨o, h1, r⟩ := st
    exact ⟨o, k it (by simp) o h1, r⟩
  item := by
    intro X hP hw hK hc i pins s σ H E I hf st hg
    subst hP hw hK
    obtain ⟨f0, f1, f2, f3, f4, f5⟩ := hf it (by simp)
    have hg : i < z.cps.size := hg
    refine wpAny_pyNext_ascii_item st (c := z.cps[i]) (by simp [hg]) fun h' st' hs' => ?_
    have I1 : Inv X pins σ H { s with heap := h', toks := s.toks + 1 } := I.turned (fun b o hb e => hs'.extBut b o hb e) f0 f1 f3 f4 f5
    obtain ⟨o, h1, h2, h3⟩ := id st'
    refine ⟨_, rfl, go_of (s := { s with heap := h', toks := s.toks + 1 }) (n := "str_ascii_iterator") h1 h2 h3 (by decide) ⟨.str ⟨#[z.cps[i]]⟩, H, I1, ⟨_, rfl⟩, ⟨rfl, fun c e => ?_⟩, st', fun b hb => (hf b hb).1⟩⟩
    rw [Array.getElem?_eq_getElem hg] at e
    cases e; rfl
  done := by
    intro X hP hw hK hc i pins s σ H E I hf st hg
    subst hP hw hK
    obtain ⟨f0, f1, f2, f3, f4, f5⟩ := hf it (by simp)
    exact wpAny_pyNext_ascii_end (I.ok.hd hc) st (Array.getElem?_eq_none hg) fun h' eb => ⟨rfl, I.turned (t' := s.toks) (fun b o hb e => eb b o hb e) f0 f1 f3 f4 f5⟩
  self := fun _ _ _ _ _ st h => wpAny_pyIter_striter_ascii st h
/-- a loop over a tuple; over a text of plain signs -/
def iTxt (tl : TE) : TI := fun σ H R => tl σ H fun x H1 => ∃ z, x = .str z ∧ z.cps.all (· < 128) = true ∧ R (Itx z) H1
section
variable {X : Cx} {tg : Expr}
theorem pi_text {l : Expr} {tl : TE} (hl : PE X l tl) : PI X tg l (iTxt tl) := by
  intro pins s σ H R I h
  refine thn (hl s σ H _ I h) fun v s1 ⟨x, H1, I1, r1, q1⟩ => ?_
  obtain ⟨z, e, hz, q⟩ := q1
  subst e
  obtain ⟨t, rfl⟩ := r1
  refine wpAny_pyIter_ascii hz ?_
  refine ⟨s1.heap.objs.size, [s1.heap.objs.size], _, _, H1, rfl, I1.kept (t' := s1.toks) fun b o e => Heap.get?_push_of_some _ e, turn_text _ z t, ⟨_, Heap.get?_push_size _ rfl, rfl, rfl⟩, fun b hb => ?_, q⟩
  have e : b = s1.heap.objs.size := by simpa using hb
  subst e
  exact I1.fpOk (Nat.le_refl _) (I1.hok.fresh (Nat.le_refl _))
end
/-! xs[::-1] -/
section
variable {X : Cx} {e : Expr} {te : TE} {pos p2 p3 p4 : Pos} {j : Nat}
end
end L2

set_option Elab.async false
set_option linter.all false
set_option maxRecDepth 100000
set_option maxHeartbeats 4000000
/-! the least of a list of things that are compared by what stands in the heap -/
namespace L2
open PySem PySem.Spec PyProof.Rows
section
variable {prog : Program} {w : World} {A : Around} {R : Result → Shared → Prop} {I S : Addr} {fp wr : List Addr} {n : Nat} {P : Nat → Value → Prop} {St : Nat → Heap → Prop}
end
/-! the least of a list of tuples of ints -/
section
variable {X : Cx} (K : PySem.W.Frag)
end
end L2
namespace L2
open PySem
section
variable {X : Cx} (K : PySem.W.Frag)
end
end L2

set_option Elab.async false
set_option linter.all false
set_option maxRecDepth 100000
set_option maxHeartbeats 4000000
/-! {k: v for t in xs if c}: the new dict stands in the heap's letters from the start -/
namespace L2
open PySem PySem.Spec PyProof.Rows
section
variable {prog : Program} {w : World} {A : Around} {R : Result → Shared → Prop} {s : Shared}
end
section
variable {X : Cx} {pins : List (Addr × Obj)} {σ : St} {H : Hp} {s : Shared} {a : Addr} {y v : V} {u r : Value} {A : Around} {E : Value → Shared → Prop}
end

section
variable {X : Cx} {pins : List (Addr × Obj)} {σ : St} {H : Hp} {s : Shared} {scope : Scope} {Nc Fc : List Str} {js : List Nat} {cl : List (Str × Addr)} {C : Addr} {fp : List Addr}
/-- the state at the block's entry, nothing pinned -/
theorem cxC_inv0 (I : Inv X pins σ H s) (c : CompOk X scope Nc Fc js) (hsub : ∀ n c, cl.lookup n = some c → X.env.cells.lookup n = some c) (hhas : ∀ y ∈ scope.names, y.2 = .free → ∃ c, cl.lookup y.1 = some c)
    (hC : s.heap.objs.size ≤ C) (hf : ∀ b ∈ fp, FpOk X pins H b) (ho : ∀ b ∈ fp, ∃ o, s.heap.get? b = some o) {h1 : Heap} {t1 : Nat} {m : Str → Option Value}
    (hk : ∀ b o, s.heap.get? b = some o → h1.get? b = some o) (hm : h1.Ns C m) :
    Inv (cxC X Nc Fc scope cl C s H fp) [] (List.replicate Nc.length none ++ cvals σ js) H { s with heap := h1, toks := t1 } := by
  refine ⟨cxC_ok I c hsub hhas hC hf ho, rfl, I.bare, Un.kept hk, ⟨m, hm, fun i x v e1 e2 e3 => ?_⟩, fun x a e => ?_, I.hok.fresh hC, fun x a e => I.freeC x a (hsub x a e), fun p hp => ?_, I.hok.kept hk, ?_⟩
  · have e1 : (Nc ++ Fc)[i]? = some x := e1
    have e2 : (List.replicate Nc.length none ++ cvals σ js)[i]? = some (some v) := e2
    by_cases hi : i < Nc.length
    · rw [List.getElem?_append_left (by simpa using hi), List.getElem?_replicate] at e2
      split at e2 <;> cases e2
    · rw [List.getElem?_append_right (by omega)] at e1
      rw [List.getElem?_append_right (by rw [List.length_replicate]; omega), List.length_replicate] at e2
      obtain ⟨hfr, j, hj, hN⟩ := c.frees _ _ e1
      have hv : σ[j]? = some (some v) := by
        unfold cvals at e2
        rw [List.getElem?_map, hj] at e2
        have e2 : some ((σ[j]?).join) = some (some v) := e2
        cases q : σ[j]? with
        | none => rw [q] at e2; cases e2
        | some z => rw [q] at e2; cases e2; rfl
      have kx := c.free _ (mem_of_lookup' hfr) rfl
      obtain ⟨m0, hn0, hl0⟩ := I.loc
      have vis : Vis X.env.scope x := by
        rcases kx with k | k
        · exact .inr (.inl k)
        · exact .inr (.inr k)
      obtain ⟨u, ru, lk⟩ := hl0 j x v hN hv vis
      refine ⟨u, ru, .inr ⟨?_, ?_⟩⟩
      · rw [cxC_kind]; exact relabel_of_free hfr
      · obtain ⟨a, ha⟩ := hhas _ (mem_of_lookup' hfr) rfl
        refine ⟨a, ha, ?_⟩
        rcases lk with ⟨k, _⟩ | ⟨_, a', ha', hcell⟩
        · rcases kx with q | q <;> (rw [k] at q; cases q)
        · have e := hsub _ _ ha
          dsimp only at e
          rw [ha'] at e; cases e
          exact hcell.keeps hk
  · obtain ⟨v, z⟩ := I.cell x a (hsub x a e)
    exact ⟨v, z.keeps hk⟩
  · have hp : p ∈ ([] : List (Addr × Obj)) := hp
    cases hp
  · show (List.replicate Nc.length none ++ cvals σ js).length = (Nc ++ Fc).length
    unfold cvals
    rw [List.length_append, List.length_append, List.length_replicate, List.length_map, c.lens]
end
end L2

set_option Elab.async false
set_option linter.all false
set_option maxRecDepth 100000
set_option maxHeartbeats 4000000
/-! sorted(xs) of fewer than 64 ints -/
namespace L2
open PySem PySem.Spec PyProof.Rows
section
variable {X : Cx} (K : PySem.W.Frag)
end
end L2

set_option Elab.async false
set_option linter.all false
set_option maxRecDepth 100000
set_option maxHeartbeats 4000000
/-! an exception of an own class: raised, passing the frames -/
namespace L2
open PySem PySem.Spec PyProof.Rows PySem.W
section
variable {P : Program} {w : World} {K : PySem.W.Frag} {mg : Str → Option Value} {base : Heap} {N : List Str} {qual : Str} {scope : Scope} {f : Addr} {cd : Value} {A : Around} {outer : List Env} {s0 : Shared} {H0 : Hp} {E : XK}
end
end L2

set_option Elab.async false
set_option linter.all false
set_option maxRecDepth 100000
set_option maxHeartbeats 4000000
/-! try: body, except C: suite -/
namespace L2
open PySem PySem.Spec PyProof.Rows PySem.W
section
variable {X : Cx} {pins pins' : List (Addr × Obj)} {σ σ0 : St} {E' : XK} {H : Hp} {s : Shared}
end
section
variable {X : Cx} {L : Addr}
end
section
variable {X : Cx} {L : Addr} {pins : List (Addr × Obj)} {σ : St} {H : Hp} {s : Shared}
end
section
variable {X : Cx} {L : Addr} {pins : List (Addr × Obj)} {σ : St} {H : Hp} {s : Shared}
end
section
variable {P : Program} {w : World} {K : PySem.W.Frag} {mg : Str → Option Value} {base : Heap}
end
end L2

set_option Elab.async false
set_option linter.all false
set_option maxRecDepth 100000
set_option maxHeartbeats 4000000
/-! the sort of fewer than 64 things whose keys are all unlike -/
namespace L2
open PySem PySem.Spec PyProof.Rows PySem.W
section
variable {n : Nat} {key : Nat → Int} {cmp : Nat → Nat → (Bool → Shared → Prop) → Shared → Prop} {s : Shared}
end
end L2

set_option Elab.async false
set_option linter.all false
set_option maxRecDepth 100000
set_option maxHeartbeats 4000000
/-! sorted(xs) of int tuples, all unlike -/
namespace L2
open PySem PySem.Spec PyProof.Rows PySem.W
section
variable {prog : Program} {w : World} {A : Around} {E : Value → Shared → Prop} {s : Shared} {κ : SortKind} {key : Nat → Int}
end
section
variable {X : Cx} (K : PySem.W.Frag)
end
section
variable {prog : Program} {w : World} {A : Around} {E : Value → Shared → Prop} {s : Shared}
end
section
variable {X : Cx} (K : PySem.W.Frag)
end
end L2

set_option Elab.async false
set_option linter.all false
set_option maxRecDepth 100000
set_option maxHeartbeats 4000000
/-! a new dict, its heap a letter -/
namespace L2
open PySem PySem.Spec PyProof.Rows
section
variable {X : Cx} {pos : Pos}
end
end L2

set_option Elab.async false
set_option linter.all false
set_option maxRecDepth 100000
set_option maxHeartbeats 4000000
/-! a def that may raise, called where it is known that it doesn't -/
namespace L2
open PySem PySem.Spec PyProof.Rows PySem.W
end L2

set_option Elab.async false
set_option linter.all false
set_option maxRecDepth 100000
set_option maxHeartbeats 4000000
/-! an own class of exceptions, read off the written part of the heap -/
namespace L2
open PySem PySem.Spec PyProof.Rows PySem.W
end L2

set_option Elab.async false
set_option linter.all false
set_option maxRecDepth 100000
set_option maxHeartbeats 4000000
/-! isinstance of an exception of an own class -/
namespace L2
open PySem PySem.Spec PyProof.Rows PySem.W PySem.Calls Builtin Builtin.ObjectAttr Builtin.Getset_descriptor
section
variable {K : Frag} {e C : Addr}
variable {prog : Program} {w : World} {A : Around} {E : Value → Shared → Prop} {s : Shared}
end
section
variable {X : Cx}
end
end L2

set_option Elab.async false
set_option linter.all false
set_option maxRecDepth 100000
set_option maxHeartbeats 4000000
/-! list(range(n)); a text n times -/
namespace L2
open PySem PySem.Spec PyProof.Rows
section
variable {X : Cx}
/-- a text, so many times -/
theorem op_mulS : OpR X (binaryOp .Mult) (fun x y H Q => ∃ (z : Str) (n : Int), x = .str z ∧ y = .int n ∧ MulOk z n ∧ Q (.str (Txt.mul z n)) H) := by
  intro pins s σ H x y v u Q I rx ry h
  obtain ⟨z, n, rfl, rfl, ok, q⟩ := h
  obtain ⟨t, rfl⟩ := rx
  obtain ⟨t', rfl⟩ := ry
  exact SB.mul ok fun t' k => ⟨.str _, H, I.tok _, ⟨_, rfl⟩, q⟩
def rMulS : R2 := fun x y H Q => rMulN x y H Q ∨ ∃ (z : Str) (n : Int), x = .str z ∧ y = .int n ∧ MulOk z n ∧ Q (.str (Txt.mul z n)) H
theorem mulS : OpR X (binaryOp .Mult) rMulS := mulN.or op_mulS
theorem mulOk_small {z : Str} {n : Int} (h1 : z.length ≤ 1000) (h2 : n ≤ 1000) (h3 : -1000 ≤ n) : MulOk z n := by
  refine ⟨?_, fun a _ => ?_, fun a _ => ?_⟩
  · rw [decide_eq_false (by omega), decide_eq_false (by omega)]; rfl
  · have : (1000 : Int) ≤ (2 ^ 63 - 1) / n := by
      rw [Int.le_ediv_iff_mul_le (by omega)]
      omega
    omega
  · have : z.length * n.toNat ≤ 1000 * 1000 := Nat.mul_le_mul h1 (by omega)
    show decide (_ > sizeLine) = false
    simp
    exact Nat.le_trans this (by decide)
end
end L2

set_option Elab.async false
set_option linter.all false
set_option maxRecDepth 100000
set_option maxHeartbeats 4000000
/-! set(xs) of texts, and its len -/
namespace L2
open PySem PySem.Spec PyProof.Rows
/-- one more key, unless it is there -/
def oneMore {K : Type} [DecidableEq K] (D : List K) (k : K) : List K := if k ∈ D then D else D ++ [k]
/-- the keys at the first i places, each once -/
def metKeys {K : Type} [DecidableEq K] (ks : Nat → K) : Nat → List K
  | 0 => []
  | i + 1 => oneMore (metKeys ks i) (ks i)
theorem metKeys_le {K : Type} [DecidableEq K] (ks : Nat → K) : ∀ i, (metKeys ks i).length ≤ i
  | 0 => Nat.le_refl _
  | i + 1 => by
    have := metKeys_le ks i
    unfold metKeys oneMore
    split
    · omega
    · rw [List.length_append]; exact Nat.succ_le_succ this
section
variable {prog : Program} {w : World} {K : Type} [DecidableEq K] {knd : PySem.KeyKind prog w K}
/-- the set at a has just these keys -/
def HasKeys (knd : PySem.KeyKind prog w K) (h : Heap) (a : Addr) (D : List K) : Prop := h.SetOf knd a (fun k => decide (k ∈ D)) D.length
theorem HasKeys.at' {h h' : Heap} {a : Addr} {D : List K} (x : HasKeys knd h a D) (k : ∀ o, h.get? a = some o → h'.get? a = some o) : HasKeys knd h' a D := by
  obtain ⟨o, es, ep, t, e, r⟩ := x
  exact ⟨o, es, ep, t, k _ e, r⟩
theorem HasKeys.more {h : Heap} {a : Addr} {D : List K} {k : K} (x : h.SetOf knd a (fun k' => decide (k' ∈ D) || decide (k' = k)) (if decide (k ∈ D) = true then D.length else D.length + 1)) : HasKeys knd h a (oneMore D k) := by
  unfold HasKeys oneMore
  by_cases q : k ∈ D
  · rw [if_pos q]
    rw [if_pos (decide_eq_true q)] at x
    have e : (fun k' => decide (k' ∈ D) || decide (k' = k)) = fun k' => decide (k' ∈ D) := by
      funext k'
      by_cases z : k' = k
      · subst z; simp [q]
      · simp [z]
    rwa [e] at x
  · rw [if_neg q]
    rw [if_neg (by simpa using q)] at x
    have e : (fun k' => decide (k' ∈ D) || decide (k' = k)) = fun k' => decide (k' ∈ D ++ [k]) := by
      funext k'
      simp [Bool.decide_or]
    rw [e] at x
    rw [List.length_append]
    exact x
variable {A : Around} {R : Result → Shared → Prop} {I : Addr} {fp wr : List Addr} {G : Array GenState → Array GenState → Prop} {n : Nat} {P : Nat → Value → Prop} {St : Nat → Shared → Prop}
end
/-- what stands at the new set's address -/
abbrev setObj0 (led : Bool) : Obj := { cls := .type "set", dict := none, data := .set #[] 0 (.fresh 0 0 led) }
section
variable {prog : Program} {w : World} {K : Type} [DecidableEq K] {knd : PySem.KeyKind prog w K} {A : Around} {E : Value → Shared → Prop} {s : Shared}
end
section
variable {X : Cx}
end
end L2

set_option Elab.async false
set_option linter.all false
set_option maxRecDepth 100000
set_option maxHeartbeats 4000000
/-! str(x) of data, however nested -/
namespace L2
open PySem PySem.Spec PyProof.Rows
/-- what str tells of data -/
def strD : PyData → Str
  | .str x => x
  | d => d.shown
section
variable {X : Cx} {pins : List (Addr × Obj)} {σ : St} {H : Hp} {s : Shared}
mutual
theorem den_reads (I : Inv X pins σ H s) : ∀ (d : PyData) (x : V) (u : Value), Den X.K H d x → RelV x u → ∃ as, Reads s.heap u d as
  | .none, x, u, h, r => by unfold Den at h; subst h; cases r; exact ⟨_, .none⟩
  | .bool b, x, u, h, r => by unfold Den at h; subst h; cases r; exact ⟨_, .bool b⟩
  | .int i, x, u, h, r => by unfold Den at h; subst h; obtain ⟨t, rfl⟩ := r; exact ⟨_, .int i t⟩
  | .str y, x, u, h, r => by unfold Den at h; subst h; obtain ⟨t, rfl⟩ := r; exact ⟨_, .str y t⟩
  | .list ds, x, u, h, r => by
    unfold Den at h
    obtain ⟨a, vs, rfl, h1, h2⟩ := h
    cases r
    obtain ⟨its, rv, pl, hz⟩ := I.list h1
    obtain ⟨o, e1, e2, n, e3⟩ := pl.isList
    obtain ⟨bs, hb⟩ := dens_reads I ds vs its h2 rv
    exact ⟨_, .list e1 e2 e3 (by simpa using hb)⟩
  | .tuple ds, x, u, h, r => by
    unfold Den at h
    obtain ⟨a, vs, rfl, h1, h2⟩ := h
    cases r
    obtain ⟨its, rv, ⟨o, e1, e2, n, e3⟩, hz⟩ := I.tuple h1
    obtain ⟨bs, hb⟩ := dens_reads I ds vs its h2 rv
    exact ⟨_, .tuple e1 e2 e3 (by simpa using hb)⟩
  | .dict _, x, u, h, r => by unfold Den at h; exact h.elim
theorem dens_reads (I : Inv X pins σ H s) : ∀ (ds : List PyData) (vs : List V) (us : List Value), Dens X.K H ds vs → Vals vs us → ∃ as, ReadsAll s.heap us ds as
  | [], vs, us, h, r => by unfold Dens at h; subst h; cases r; exact ⟨_, .nil⟩
  | d :: ds, vs, us, h, r => by
    unfold Dens at h
    obtain ⟨v, vr, rfl, h1, h2⟩ := h
    cases r with
    | cons r1 r2 =>
      obtain ⟨as, ha⟩ := den_reads I d _ _ h1 r1
      obtain ⟨bs, hb⟩ := dens_reads I ds _ _ h2 r2
      exact ⟨_, .cons ha hb⟩
end
mutual
theorem nodict {K : PySem.W.Frag} {H : Hp} : ∀ (d : PyData) (x : V), Den K H d x → d.hasDict = false
  | .none, _, _ => rfl
  | .bool _, _, _ => rfl
  | .int _, _, _ => rfl
  | .str _, _, _ => rfl
  | .list ds, x, h => by
    unfold Den at h
    obtain ⟨a, vs, _, _, h2⟩ := h
    simp only [PyData.hasDict]
    exact nodicts ds vs h2
  | .tuple ds, x, h => by
    unfold Den at h
    obtain ⟨a, vs, _, _, h2⟩ := h
    simp only [PyData.hasDict]
    exact nodicts ds vs h2
  | .dict _, x, h => by unfold Den at h; exact h.elim
theorem nodicts {K : PySem.W.Frag} {H : Hp} : ∀ (ds : List PyData) (vs : List V), Dens K H ds vs → PyData.hasDictAll ds = false
  | [], _, _ => rfl
  | d :: ds, vs, h => by
    unfold Dens at h
    obtain ⟨v, r, _, h1, h2⟩ := h
    simp only [PyData.hasDictAll, nodict d v h1, nodicts ds r h2, Bool.or_false]
end
def rStr (K : PySem.W.Frag) : List V → Hp → VK → Prop := fun xs H Q => ∃ (x : V) (d : PyData), xs = [x] ∧ Den K H d x ∧ d.showable = true ∧ d.depth ≤ 40 ∧ d.shown.length ≤ sizeLine ∧ Q (.str (strD d)) H
theorem strK (K : PySem.W.Frag) (hg : X.A.guards = some []) (hu : X.A.units + 64 < cLine) (hK : X.K = K := by rfl) : CallR X (.type "str") (rStr K) := by
  subst hK
  intro pins s σ H xs us Q I r h
  obtain ⟨x, d, rfl, hd, hs, hp, hz, q⟩ := h
  obtain ⟨u, rfl, ru⟩ := vals1 r
  have nd := nodict d x hd
  obtain ⟨as, rd⟩ := den_reads I d x u hd ru
  cases d with
  | none => cases rd; exact PySem.P.str_of_none ⟨.str _, H, I.tok _, ⟨_, rfl⟩, q⟩
  | bool b => cases rd; exact PySem.P.str_of_bool ⟨.str _, H, I.tok _, ⟨_, rfl⟩, q⟩
  | int i =>
    cases rd
    refine PySem.P.str_of_int (by simpa [PyData.showable] using hs) ⟨.str _, H, I.tok _, ⟨_, rfl⟩, q⟩
  | str y => cases rd; exact PySem.P.str_of_str ⟨.str _, H, I, ⟨_, rfl⟩, q⟩
  | list ds =>
    have hu' : ∃ a, u = .ref a := by cases rd; exact ⟨_, rfl⟩
    obtain ⟨a, rfl⟩ := hu'
    exact str_of_reads rd hs (fun z => by rw [nd] at z; cases z) hg (by omega) (fun _ _ e => e) (fun h' u' tk k => ⟨.str _, H, I.kept k, ⟨_, rfl⟩, q⟩) hz
  | tuple ds =>
    have hu' : ∃ a, u = .ref a := by cases rd; exact ⟨_, rfl⟩
    obtain ⟨a, rfl⟩ := hu'
    exact str_of_reads rd hs (fun z => by rw [nd] at z; cases z) hg (by omega) (fun _ _ e => e) (fun h' u' tk k => ⟨.str _, H, I.kept k, ⟨_, rfl⟩, q⟩) hz
  | dict _ => unfold Den at hd; exact hd.elim
end
end L2

set_option Elab.async false
set_option linter.all false
set_option maxRecDepth 100000
set_option maxHeartbeats 4000000
/-! {e for t in xs if c}: a set's comprehension, of texts or of ints -/
namespace L2
open PySem PySem.Spec PyProof.Rows
/-- keys of one kind: how they look in the heap's letters -/
structure KeyV (P : Program) (w : World) (K : Type) [DecidableEq K] where
  knd : PySem.KeyKind P w K
  v : K → V
  ok : ∀ k u, RelV (v k) u → knd.is k u = true ∧ u.scannable = true
def strV (P : Program) (w : World) : KeyV P w Str := ⟨strKind P w, V.str, fun k u r => by obtain ⟨t, rfl⟩ := r; exact ⟨strKind_is _ _ _ _, rfl⟩⟩
/-- a set of such keys -/
def setK {P : Program} {w : World} {K : Type} [DecidableEq K] (kv : KeyV P w K) (a : Addr) (D : List K) : HO := .ext fun h => HasKeys kv.knd h a D
theorem setK_ok {P : Program} {w : World} {K : Type} [DecidableEq K] {kv : KeyV P w K} {a : Addr} {D : List K} {H : Hp} {h : Heap} (x : HasKeys kv.knd h a D) : ObjOk P w H h a (setK kv a D) := by
  have x' := x
  obtain ⟨o, es, ep, t, e, rest⟩ := x'
  exact ⟨x, ⟨o, e⟩, fun h1 h2 y k => HasKeys.at' y k⟩
section
variable {prog : Program} {w : World} {A : Around} {R : Result → Shared → Prop} {s : Shared}
theorem scomp_turn (ex target iter : Expr) (ifs : List Expr) (scope : Scope) (pos : Pos) (it : Value) (D : Addr) (env : Env) :
    compTurn (.SetComp ex [⟨target, iter, ifs, 0⟩] scope pos) 0 it (.ref D) env = (do
      standAt iter.pos
      match ← pyNext it with
      | none => pure (.done .next)
      | some v =>
        letOwnedTupleGo target it v
        assign target env v
        let mut ok := true
        for c in ifs do
          if ok then ok ← isTrue c env (eval c env)
        if ok then
          (do
            let ev ← eval ex env
            standAt ex.pos
            let _ ← call (.builtin "set.add") [.ref D, ev])
        again (.compLoop (.SetComp ex [⟨target, iter, ifs, 0⟩] scope pos) 0 it (.ref D) env)) := by rfl
theorem scomp_turns {ex target iter : Expr} {ifs : List Expr} {scope : Scope} {pos : Pos} {it : Value} {D : Addr} {env : Env} (I : Nat → Shared → Prop)
    (turn : ∀ n s, I n s → wpAny (model prog w) A (pyNext it) (fun r s1 => match r with
      | none => R (.ok .next) s1
      | some v => wpAny (model prog w) A (letOwnedTupleGo target it v) (fun _ s1' => wpAny (model prog w) A (assign target env v) (fun _ s2 =>
          wpAny (model prog w) A (testsOf ifs env) (fun ok s3 =>
            if ok = true then wpAny (model prog w) A (eval ex env) (fun ev s4 => wpAny (model prog w) A (call (.builtin "set.add") [.ref D, ev]) (fun _ s6 => ∃ m, m < n ∧ I m s6) noE s4) noE s3
            else ∃ m, m < n ∧ I m s3) noE s2) noE s1') noE s1) noE s)
    (n : Nat) (h : I n s) : codeAny (model prog w) A (.compLoop (.SetComp ex [⟨target, iter, ifs, 0⟩] scope pos) 0 it (.ref D) env) R s := by
  refine codeAny_loop rfl I (fun n s hI => (show wpAny _ A (Sem.onRaise (compTurn (.SetComp ex [⟨target, iter, ifs, 0⟩] scope pos) 0 it (.ref D) env) (fun x => do noteFrame x env; theTreesLotGoes x)) _ _ s from wpAny_noted ?_)) n h
  rw [scomp_turn]
  refine wpAny_bind (wpAny_standAt (wpAny_bind (noE_to (thn (turn n s hI) fun r s1 h1 => ?_))))
  cases r with
  | none => exact wpAny_pure h1
  | some v =>
    refine wpAny_bind (noE_to (thn h1 fun _ s1' h1' => ?_))
    refine wpAny_bind (noE_to (thn h1' fun _ s2 h2 => wpAny_bind (noE_to (thn h2 fun ok s3 h3 => ?_))))
    cases ok with
    | false => exact wpAny_pure ⟨rfl, h3⟩
    | true =>
      exact wpAny_bind (wpAny_bind (noE_to (thn h3 fun ev s4 h4 => wpAny_bind (wpAny_standAt (wpAny_bind (noE_to (thn h4 fun _ s6 h6 => wpAny_pure (wpAny_pure ⟨rfl, h6⟩))))))))
theorem scomp_start {ex target iter ifs rest scope pos it acc env} (h0 : codeAny (model prog w) A (.compLoop (.SetComp ex (⟨target, iter, ifs, 0⟩ :: rest) scope pos) 0 it acc env) R s)
    (h : wpAny (model prog w) A (pyIter it) (fun it' s' => codeAny (model prog w) A (.compLoop (.SetComp ex (⟨target, iter, ifs, 0⟩ :: rest) scope pos) 0 it' acc env) R s') (notedBy (model prog w) A env fun x s' => R (.error x) s') s) :
    codeAny (model prog w) A (.compStart (.SetComp ex (⟨target, iter, ifs, 0⟩ :: rest) scope pos) 0 it acc env) R s := by
  refine codeAny_of_tree (show wpAny _ A ((compStart (.SetComp ex (⟨target, iter, ifs, 0⟩ :: rest) scope pos) 0 it acc env).onRaise (fun x => do noteFrame x env; standAt theWindowsPlace)) _ _ s from wpAny_notedAt ?_)
  unfold compStart
  refine wpAny_bind (m := ask) (wpAny_askSetting (wpAny_ite ?_))
  split
  · first
      | exact wpAny_bind (wpAny_pure (wpAny_pure ⟨rfl, h0⟩))
      | exact wpAny_pure ⟨rfl, h0⟩
  · refine wpAny_bind (wpAny_rule ?_)
    refine wpAny_bind (m := standAt iter.pos) (wpAny_standAt ?_)
    exact wpAny_bind (wpAny_mono h (fun it' s' h' => wpAny_pure ⟨rfl, h'⟩) fun _ _ x => x)
end
section
variable {X : Cx} {pins : List (Addr × Obj)} {σ : St} {H : Hp} {s : Shared} {a : Addr} {u : Value} {A : Around} {E : Value → Shared → Prop} {K : Type} [DecidableEq K] {kv : KeyV X.prog X.w K}
theorem s_add {D : List K} {k : K} {Q : Value → Shared → Prop} (I : Inv X pins σ H s) (e : H a = some (setK kv a D)) (l : D.length ≤ 4000) (ry : RelV (kv.v k) u)
    (h : ∀ v s', Inv X pins σ (upd H a (setK kv a (oneMore D k))) s' → Q v s') : wpAny (model X.prog X.w) A (call (.builtin "set.add") [.ref a, u]) Q E s := by
  have x := (show ObjOk X.prog X.w H s.heap a (setK kv a D) from I.hok a _ e).1
  obtain ⟨h1, h2⟩ := kv.ok k u ry
  refine call_set_add h1 h2 x (by unfold scanBound; omega) fun h' sb x' => ?_
  have y : HasKeys kv.knd h' a (oneMore D k) := HasKeys.more x'
  have y' := y
  obtain ⟨o, es, ep, t, eo, _⟩ := y'
  exact h _ _ (d_write I (by rw [e]; exact True.intro) sb ⟨o, eo⟩ (setK_ok y))
end
/-- the reading of a set's comprehension: W i m H is what holds ahead of turn i (D is the new set), m falls -/
def CompS {P : Program} {w : World} {KT : Type} [DecidableEq KT] (kv : KeyV P w KT) (J : It) (n : Nat) (js : List Nat) (g : TG) (tc : TT) (te : TE) (σ : St) (D : Addr) (H1 : Hp) (fin : Hp → Prop) : Prop :=
  ∃ W : Nat → Nat → Hp → Prop, (∃ m, W 0 m H1) ∧ ∀ i m H, W i m H →
    (J.stop i H ∧ fin H) ∨
    (J.go i H ∧ ∀ x H', J.yld i H x H' → g x (List.replicate n none ++ cvals σ js) H' fun σ2 H2 => tc σ2 H2 fun b H3 =>
      if b = true then te σ2 H3 fun y H4 => ∃ ks k, H4 D = some (setK kv D ks) ∧ y = kv.v k ∧ ks.length ≤ 4000 ∧ ∃ m', m' < m ∧ W (i + 1) m' (upd H4 D (setK kv D (oneMore ks k))) else ∃ m', m' < m ∧ W (i + 1) m' H3)
def tSComp {P : Program} {w : World} {KT : Type} [DecidableEq KT] (kv : KeyV P w KT) (wi : TI) (n : Nat) (js : List Nat) (g : TG) (tc : TT) (te : TE) : TE := fun σ H Q => wi σ H fun J H1 => ∀ D, H1 D = none → CompS kv J n js g tc te σ D (upd H1 D (setK kv D [])) fun H2 => Q (.ref D) H2
theorem new_set {prog : Program} {w : World} {A : Around} {s : Shared} {Q : Value → Shared → Prop} {E : Value → Shared → Prop} (h : ∀ led, Q (.ref s.heap.objs.size) { s with heap := s.heap.push (setObj0 led) }) : wpAny (model prog w) A (newSet (.type "set")) Q E s := by
  unfold newSet setsByText
  refine wpAny_bind (wpAny_bind (wpAny_askSetting (wpAny_pure ?_)))
  show wpAny _ _ (newObj _ _) _ _ _
  simp only [newObj]
  exact wpAny_bind (wpAny_alloc (wpAny_pure (h _)))
theorem fresh_keys {prog : Program} {w : World} {K : Type} [DecidableEq K] {knd : PySem.KeyKind prog w K} {h : Heap} {a : Addr} {led : Bool} (e : h.get? a = some (setObj0 led)) : HasKeys knd h a [] := by
  have z := (setObjOf_fresh (knd := knd) led).setOf e (by decide)
  have q : (fun k : K => decide (k ∈ ([] : List K))) = fun _ => false := by funext k; simp
  show Heap.SetOf knd _ _ (fun k => decide (k ∈ ([] : List K))) 0
  rw [q]
  exact z
theorem scomp_core {X : Cx} {KT : Type} [DecidableEq KT] (kv : KeyV X.prog X.w KT) {ex tg iter : Expr} {ifs : List Expr} {scope : Scope} {pos : Pos} {Nc Fc : List Str} {js : List Nat} {wi : TI} {g : TG} {tc : TT} {te : TE} {use : Option (Value → Sem Unit)} {QV : Value → Shared → Prop}
    (hcalm : X.calm = true) (c : CompOk X scope Nc Fc js) (hi : PI X tg iter wi)
    (hg : ∀ cl C s H fp, PG (cxC X Nc Fc scope cl C s H fp) tg g) (htc : ∀ cl C s H fp, PTs (cxC X Nc Fc scope cl C s H fp) ifs tc) (hte : ∀ cl C s H fp, PE (cxC X Nc Fc scope cl C s H fp) ex te) (gk : Gk Nc.length g)
    {pins : List (Addr × Obj)} {s : Shared} {σ : St} {H : Hp} {fin : Addr → Hp → Prop} (I : Inv X pins σ H s)
    (h : wi σ H fun J H1 => ∀ D, H1 D = none → CompS kv J Nc.length js g tc te σ D (upd H1 D (setK kv D [])) (fin D))
    (behind : ∀ (C D : Addr) (m : Str → Option Value) (H2 : Hp) (s2 : Shared), Inv X pins σ H2 s2 → s2.heap.Ns C m → FpOk X pins H2 C → fin D H2 → compPost (model X.prog X.w) X.A X.xe use QV (.ref D) C (.ok .next) s2)
    (hs : ∀ x, foldedSetIterable iter X.env x = pure x) :
    wpAny (model X.prog X.w) X.A (comprehension (.SetComp ex [⟨tg, iter, ifs, 0⟩] scope pos) scope X.env (firstIterPos [⟨tg, iter, ifs, 0⟩] pos) (newSet (.type "set")) false (eval iter X.env) use) QV X.xe s := by
  obtain ⟨cl, hclos, hsub, hhas⟩ := closure_of (scope := scope) (env := X.env) fun y hy hf => I.ok.has y.1 (c.free y hy hf)
  refine wpAny_comprehension_free (use := use) rfl hs hclos c.kind c.names ?_
  refine thn (hi s σ H _ I h) fun v s1 h1 => thn h1 fun itv s2 h2 => ?_
  obtain ⟨it, fp, tn, J, H2, e, I2, T, st2, f2, all⟩ := h2
  subst e
  refine new_set fun led => ?_
  refine (wpAny_newFunctionEnv c.nocell (by intro y hy; simp at hy) (fun h1 hns1 hsb1 => ?_) c.kind)
  dsimp only at hns1 hsb1 ⊢
  have hDn : H2 s2.heap.objs.size = none := I2.hok.fresh (Nat.le_refl _)
  have I2' := I2.laid (a := s2.heap.objs.size) (o := setK kv s2.heap.objs.size []) (h' := s2.heap.push (setObj0 led)) (t' := s2.toks) (fun _ _ q => Heap.get?_push_of_some _ q) (Nat.le_refl _) (setK_ok (fresh_keys (Heap.get?_push_size _ rfl)))
  obtain ⟨W, ⟨m0, w0⟩, turn⟩ := all _ hDn
  have fo2 : ∀ b ∈ fp, ∃ o, s2.heap.get? b = some o := fun b hb => let ⟨o, e, _⟩ := T.obj 0 _ st2 b hb; ⟨o, e⟩
  have hDfp : ∀ b ∈ fp, b < s2.heap.objs.size := fun b hb => let ⟨o, e⟩ := fo2 b hb; Heap.lt_size e
  generalize hG : s2.heap.push (setObj0 led) = G at hns1 hsb1 I2' ⊢
  have toG : ∀ b o, s2.heap.get? b = some o → G.get? b = some o := fun b o e => hG ▸ Heap.get?_push_of_some _ e
  have hC : G.objs.size = s2.heap.objs.size + 1 := by rw [← hG, Heap.size_push]
  have old : ∀ b o, G.get? b = some o → h1.get? b = some o := fun b o e =>
    hsb1.extBut b o (addr_ne (Heap.lt_size e) (Nat.le_refl _)) (Heap.get?_push_of_some _ e)
  let D : Addr := s2.heap.objs.size
  let s2' : Shared := { s2 with heap := G, toks := s2.toks }
  let H2' : Hp := upd H2 D (setK kv D [])
  have f2' : ∀ b ∈ fp, FpOk X pins H2' b := fun b hb => by
    obtain ⟨a1, a2⟩ := f2 b hb
    refine ⟨?_, a2⟩
    show upd H2 D (setK kv D []) b = none
    rw [upd_ne (Nat.ne_of_lt (hDfp b hb))]; exact a1
  have fo : ∀ b ∈ fp, ∃ o, s2'.heap.get? b = some o := fun b hb => let ⟨o, e⟩ := fo2 b hb; ⟨o, toG b o e⟩
  have hfG : ∀ b ∈ fp, b < G.objs.size := fun b hb => by have := hDfp b hb; rw [hC]; exact Nat.lt_succ_of_lt this
  let Xc : Cx := cxC X Nc Fc scope cl G.objs.size s2' H2' fp
  have stat : ∀ {H' : Hp}, (∀ b ∈ fp, H' b = none) → ∀ b ∈ fp, FpOk Xc [] H' b := fun {H'} hn b hb => by
    refine ⟨hn b hb, ?_, ?_, .inl hb, fun x a e => ?_, fun p hq => ?_⟩
    · exact addr_ne (hfG b hb) (Nat.le_refl _)
    · exact (cxC_ok I2' c hsub hhas (Nat.le_refl _) f2' fo).exfs b hb
    · exact (f2 b hb).2.2.2.2.1 x a (hsub _ _ e)
    · have q : p ∈ ([] : List (Addr × Obj)) ++ [] := hq
      simp at q
  have loop : ∀ t1, codeAny (model X.prog X.w) X.A (.compLoop (.SetComp ex [⟨tg, iter, ifs, 0⟩] scope pos) 0 (.ref it) (.ref s2.heap.objs.size) (compEnvC scope cl G.objs.size X.env))
      (compPost (model X.prog X.w) X.A X.xe use QV (.ref s2.heap.objs.size) G.objs.size) { s2 with heap := h1, toks := t1 } := by
    intro t1
    refine scomp_turns (fun n s' => ∃ i H', Inv Xc [] (List.replicate Nc.length none ++ cvals σ js) H' s' ∧ tn i s'.heap ∧ (∀ b ∈ fp, H' b = none) ∧ W i n H') ?_ m0
      ⟨0, H2', cxC_inv0 I2' c hsub hhas (Nat.le_refl _) f2' fo old hns1, T.keep _ _ _ st2 (fun b hb o e => old b o (toG b o e)), fun b hb => (f2' b hb).1, w0⟩
    rintro n s3 ⟨i, H3, I3, st3, fr3, w3⟩
    rcases turn i n H3 w3 with ⟨stop, qn⟩ | ⟨go, step⟩
    · refine thn (T.done Xc rfl rfl rfl hcalm i _ s3 _ H3 noE I3 (stat fr3) st3 stop) fun r s4 ⟨hr, I4⟩ => ?_
      subst hr
      show compPost _ _ _ _ _ _ _ _ _
      obtain ⟨mC, hmC, _⟩ := I4.loc
      have hCn : H3 G.objs.size = none := I4.free
      have u : Un (frs X.stack) fp H2' H3 G s4.heap := I4.base
      have hch : ∀ b ∈ fp, (b ∈ X.ex ∨ X.s₀.heap.objs.size ≤ b) ∧ b ≠ X.env.locals ∧ (∀ x c, X.env.cells.lookup x = some c → c ≠ b) ∧ ∀ p ∈ X.pn ++ pins, p.1 ≠ b := fun b hb =>
        ⟨(f2 b hb).2.2.2.1, (f2 b hb).2.1, (f2 b hb).2.2.2.2.1, (f2 b hb).2.2.2.2.2⟩
      have os4 : s4.os = s2'.os := I4.os
      have J4 : Inv X pins σ H3 s4 := I2'.call' (H' := H3) os4 u I4.hok I4.bare hch
      exact behind G.objs.size D mC H3 s4 J4 hmC (I2'.fpOk (Nat.le_refl _) hCn) qn
    · refine thn (T.item Xc rfl rfl rfl hcalm i _ s3 _ H3 noE I3 (stat fr3) st3 go) fun r s4 ⟨u, hr, h4⟩ => ?_
      subst hr
      show wpAny _ _ (letOwnedTupleGo tg (.ref it) u) _ _ _
      refine thn h4 fun _ s5 ⟨x, H5, I5, r5, y5, st5, fr5⟩ => ?_
      have I5' := I5.pinned (stat fr5) (T.obj _ _ st5)
      refine thn (hg cl G.objs.size s2' H2' fp s5 _ H5 x u _ I5' r5 (gk _ _ _ _ (step x H5 y5))) fun _ s6 ⟨σ6, H6, I6, q6, kσ, kl⟩ => ?_
      refine thn (htc cl G.objs.size s2' H2' fp s6 σ6 H6 _ I6 q6) fun b s7 ⟨H7, I7, q7⟩ => ?_
      have later : ∀ {σ' : St} {H' : Hp} {s' : Shared}, Inv Xc ([] ++ pinsAt fp s5.heap) σ' H' s' → tn (i + 1) s'.heap ∧ ∀ b ∈ fp, H' b = none := fun {σ' H' s'} Iz => by
        refine ⟨T.keep _ _ _ st5 fun b hb o e => (Iz.pin (b, o) (List.mem_append_right _ (List.mem_append_right _ (mem_pinsAt hb e)))).1, fun b hb => ?_⟩
        obtain ⟨o, e, d⟩ := T.obj _ _ st5 b hb
        exact (Iz.pin (b, o) (List.mem_append_right _ (List.mem_append_right _ (mem_pinsAt hb e)))).2.1
      have back : ∀ {pl : List (Addr × Obj)} {H' : Hp} {s' : Shared}, Inv Xc pl σ6 H' s' → Inv Xc pl (List.replicate Nc.length none ++ cvals σ js) H' s' := fun {pl H' s'} Iz => by
        refine Iz.weak (by rw [← kl]) fun j v hj => ?_
        by_cases hn : j < Nc.length
        · rw [List.getElem?_append_left (by simpa using hn), List.getElem?_replicate] at hj
          split at hj <;> cases hj
        · rw [kσ j (by omega)]; exact hj
      cases b with
      | false =>
        rw [if_neg Bool.false_ne_true] at q7 ⊢
        obtain ⟨m', hm', w7⟩ := q7
        obtain ⟨l1, l2⟩ := later I7
        exact ⟨m', hm', i + 1, H7, back I7.unpinned, l1, l2, w7⟩
      | true =>
        rw [if_pos rfl] at q7 ⊢
        refine thn (hte cl G.objs.size s2' H2' fp s7 σ6 H7 _ I7 q7) fun yv s8 ⟨y, H8, I8, r8, q8⟩ => ?_
        obtain ⟨ks, k, eD, ey, hl, m', hm', w9⟩ := q8
        subst ey
        refine s_add (X := Xc) (kv := kv) I8 eD hl r8 fun _ s10 I10 => ?_
        obtain ⟨l1, l2⟩ := later I10
        exact ⟨m', hm', i + 1, _, back I10.unpinned, l1, l2, w9⟩
  exact scomp_start (loop _) (T.self _ 0 _ _ _ (T.keep _ _ _ st2 fun b hb o e => old b o (toG b o e)) (loop _))
theorem pe_scomp {X : Cx} {KT : Type} [DecidableEq KT] (kv : KeyV X.prog X.w KT) {ex tg iter : Expr} {ifs : List Expr} {scope : Scope} {pos : Pos} {Nc Fc : List Str} {js : List Nat} {wi : TI} {g : TG} {tc : TT} {te : TE}
    (hcalm : X.calm = true) (c : CompOk X scope Nc Fc js) (hi : PI X tg iter wi) (gk : Gk Nc.length g)
    (hg : ∀ cl C s H fp, PG (cxC X Nc Fc scope cl C s H fp) tg g) (htc : ∀ cl C s H fp, PTs (cxC X Nc Fc scope cl C s H fp) ifs tc) (hte : ∀ cl C s H fp, PE (cxC X Nc Fc scope cl C s H fp) ex te)
    (hs : ∀ x, foldedSetIterable iter X.env x = pure x := by intro _; rfl) :
    PE X (.SetComp ex [⟨tg, iter, ifs, 0⟩] scope pos) (tSComp kv wi Nc.length js g tc te) := by
  intro pins s σ H Q I h
  rw [arm_eval_SetComp]
  refine scomp_core kv (use := none) (fin := fun D H2 => Q (.ref D) H2) hcalm c hi hg htc hte gk I h (fun C D m H2 s2 I2 hm hC q => ?_) hs
  refine ⟨m, hm, fun h' hs' => ?_⟩
  exact ⟨.ref D, _, I2.turned (it := C) (t' := s2.toks) (fun b o hb e => hs'.extBut b o hb e) hC.1 (hC.2.1) hC.2.2.2.1 hC.2.2.2.2.1 hC.2.2.2.2.2, rfl, q⟩
/-- len of such a set -/
theorem call_lenK {X : Cx} {KT : Type} [DecidableEq KT] (kv : KeyV X.prog X.w KT) : CallR X (.builtin "len") (fun xs H Q => ∃ (a : Addr) (D : List KT), xs = [.ref a] ∧ H a = some (setK kv a D) ∧ Q (.int (D.length : Nat)) H) := by
  intro pins s σ H xs us Q I r h
  obtain ⟨a, D, rfl, ha, q⟩ := h
  obtain ⟨u, rfl, ru⟩ := vals1 r
  cases ru
  obtain ⟨o, es, ep, t, h1, h2, h3, h4, h5, h6, h7, h8⟩ := (show ObjOk X.prog X.w H s.heap a (setK kv a D) from I.hok a _ ha).1
  have hb : scanBound = 4096 := rfl
  refine call_len_set h1 h2 h3 h7 (by omega) ⟨.int (D.length : Nat), H, I.tok _, ⟨_, by rw [h8]⟩, q⟩
/-- a set's comprehension of N turns, each with one more key -/
theorem scomp_go {P : Program} {w : World} {KT : Type} [DecidableEq KT] {kv : KeyV P w KT} {J : It} {n : Nat} {js : List Nat} {g : TG} {tc : TT} {te : TE} {σ : St} {D : Addr} {H1 : Hp} {fin : Hp → Prop} (N : Nat) (Pv : Nat → Hp → Prop) (h0 : Pv 0 H1)
    (go : ∀ i H (Nx : Hp → Prop), i < N → Pv i H → (∀ H', Pv (i + 1) H' → Nx H') → J.go i H ∧
      ∀ x H', J.yld i H x H' → g x (List.replicate n none ++ cvals σ js) H' fun σ2 H2 => tc σ2 H2 fun b H3 => if b = true then te σ2 H3 fun y H4 => ∃ ks k, H4 D = some (setK kv D ks) ∧ y = kv.v k ∧ ks.length ≤ 4000 ∧ Nx (upd H4 D (setK kv D (oneMore ks k))) else Nx H3)
    (stop : ∀ H, Pv N H → J.stop N H ∧ fin H) : CompS kv J n js g tc te σ D H1 fin := by
  refine ⟨fun i m H => m = N - i ∧ i ≤ N ∧ Pv i H, ⟨N, by simp, Nat.zero_le _, h0⟩, ?_⟩
  rintro i m H ⟨rfl, hi, p⟩
  by_cases hlt : i < N
  · obtain ⟨g1, g2⟩ := go i H (fun H' => ∃ m', m' < N - i ∧ (m' = N - (i + 1) ∧ i + 1 ≤ N ∧ Pv (i + 1) H')) hlt p fun H' q => ⟨_, by omega, rfl, hlt, q⟩
    exact .inr ⟨g1, fun x H' y => g2 x H' y⟩
  · have e : i = N := by omega
    subst e
    exact .inl (stop H p)
end L2

set_option Elab.async false
set_option linter.all false
set_option maxRecDepth 100000
set_option maxHeartbeats 4000000
/-! reverse, clear, count of a list; texts and numbers of the module -/
namespace L2
open PySem PySem.Spec PyProof.Rows
section
variable {X : Cx}
/-- a text of the module -/
theorem pe_gstr {x : Str} {z : Str} {t : Tok} {pos : Pos} (hg : Gl X x) (hm : X.mg x = some (.str z t)) (hd : (x == ("__debug__" : Str)) = false := by decide) : PE X (.Name x pos) (tC (.str z)) := pe_glob (v := .str z) hg hm ⟨t, rfl⟩ hd
theorem pe_gint {x : Str} {z : Int} {t : Tok} {pos : Pos} (hg : Gl X x) (hm : X.mg x = some (.int z t)) (hd : (x == ("__debug__" : Str)) = false := by decide) : PE X (.Name x pos) (tC (.int z)) := pe_glob (v := .int z) hg hm ⟨t, rfl⟩ hd
end
end L2

set_option Elab.async false
set_option linter.all false
set_option maxRecDepth 100000
set_option maxHeartbeats 4000000
/-! sorted(xs) of fewer than 64 texts -/
namespace L2
open PySem PySem.Spec PyProof.Rows
theorem vals_of_strs : ∀ {ss : List Str} {us : List Value}, StrsAre us ss → Vals (ss.map V.str) us
  | _, _, .nil => .nil
  | _, _, .cons _ _ h => .cons ⟨_, rfl⟩ (vals_of_strs h)
theorem strs_of_vals : ∀ {ss : List Str} {us : List Value}, Vals (ss.map V.str) us → StrsAre us ss
  | [], _, .nil => .nil
  | _ :: _, _, .cons ⟨_, e⟩ t => by subst e; exact .cons _ _ (strs_of_vals t)
section
variable {X : Cx} (K : PySem.W.Frag)
theorem sortedS (hK : X.K = K := by rfl) : CallR X (.builtin "sorted") (fun xs H Q => ∃ (p : Addr) (ss : List Str), xs = [.ref p] ∧ SqL K H p (ss.map V.str) ∧ ss.length < 64 ∧
    ∀ (ms : List Str) (q : Addr) (H' : Hp), ms.Perm ss → PyProof.Rows.sortedS ms = true → New H q (.lst (ms.map V.str)) H' → Q (.ref q) H') := by
  subst hK
  intro pins s σ H xs us Q I r h
  obtain ⟨p, ss, rfl, hq, hl, q⟩ := h
  obtain ⟨u, rfl, ru⟩ := vals1 r
  cases ru
  obtain ⟨its, rv, pl, hz⟩ := I.list hq
  have hn : its.length = ss.length := by have := rv.length; rw [List.length_map] at this; exact this.symm
  refine sorted_strs pl.isList (strs_of_vals rv) (by omega) fun out ms a1 a2 a3 => ?_
  obtain ⟨e, he⟩ := sortedAll_at s.heap its out
  have hm : ms.length = ss.length := a2.length_eq
  have hr := vals_of_strs a1
  refine ⟨.ref (s.heap.objs.size + 1), _, I.laid (a := s.heap.objs.size + 1) (o := .lst (ms.map V.str)) (t' := s.toks) (fun _ _ => sortedAll_old) (Nat.le_succ _) ⟨?_, out.toList, e, hr, ?_⟩, rfl, q ms _ _ a2 a3 ⟨I.hok.fresh (Nat.le_succ _), rfl⟩⟩
  · rw [List.length_map]; exact Nat.le_trans (show ms.length ≤ 64 by omega) (by decide)
  · simpa [seqObj] using he
end
section
variable {X : Cx}
/-- a text in a text -/
theorem inTxt : OpR X (compareOp .In) (fun x y H Q => ∃ a b : Str, x = .str a ∧ y = .str b ∧ Q (.bl (Txt.contains b a)) H) := by
  intro pins s σ H x y v u Q I rx ry h
  obtain ⟨a, b, rfl, rfl, q⟩ := h
  obtain ⟨t, rfl⟩ := rx
  obtain ⟨t', rfl⟩ := ry
  exact PySem.P.in_str ⟨.bl _, H, I, rfl, q⟩
end
end L2

set_option Elab.async false
set_option linter.all false
namespace Z
open PySem L2
def top (i : Nat) : Stmt := PySem.Challenge.pw_oddlong_k01_what_a_book_is.main.body.getD i (.Pass ⟨0, 0, 0, 0⟩)
abbrev i_made_of : Nat := 4
abbrev i_is_name : Nat := 5
abbrev i_is_code : Nat := 6
abbrev i_is_book : Nat := 8
abbrev i_is_entry : Nat := 9
abbrev i_law_begin : Nat := 11
abbrev i_law_take : Nat := 12
abbrev i_law_names : Nat := 13
abbrev i_law_signs : Nat := 14
abbrev i_law_any_book : Nat := 15
abbrev i_law_odd : Nat := 16
abbrev i_law_sign : Nat := 17
abbrev i_law_is_text : Nat := 18
abbrev i_law_is_entry : Nat := 19
abbrev i_law_is_book : Nat := 20
abbrev i_law_text_changed : Nat := 21
abbrev i_law_entry_changed : Nat := 22
abbrev i_law_changed : Nat := 23
abbrev i_law_great_book : Nat := 24
abbrev i_law : Nat := 25
end Z

set_option Elab.async false
set_option linter.all false
set_option maxRecDepth 100000
set_option maxHeartbeats 4000000
namespace Z
open PySem L2
theorem sizeOk {n : Nat} (h : n ≤ 10000000) : n ≤ sizeLine := Nat.le_trans h (by decide)
end Z

set_option Elab.async false
set_option linter.all false
set_option maxRecDepth 100000
set_option maxHeartbeats 4000000
namespace Z
open PySem L2
/-! the draws -/
structure Box (H : Hp) (b c : Addr) (t : Int) (ns : List Int) : Prop where
  d : H b = some (.dK [(.inr "cells", .ref c), (.inr "turn", .int t)])
  l : H c = some (.lst (ns.map V.int))
  ne : 0 < ns.length
  le : ns.length ≤ 64
def hid (H : Hp) (b c : Addr) : Hp := fun a => if a = b ∨ a = c then none else H a
theorem hid_of {H : Hp} {b c a : Addr} (h1 : a ≠ b) (h2 : a ≠ c) : hid H b c a = H a := if_neg (fun z => z.elim h1 h2)
theorem of_hid {H : Hp} {b c a : Addr} {o : HO} (h : hid H b c a = some o) : H a = some o ∧ a ≠ b ∧ a ≠ c := by
  unfold hid at h
  split at h
  · cases h
  · rename_i n
    exact ⟨h, fun z => n (.inl z), fun z => n (.inr z)⟩
theorem Box.bc {H : Hp} {b c : Addr} {t : Int} {ns : List Int} (x : Box H b c t ns) : b ≠ c := ne_of x.d x.l (by intro z; cases z)
theorem Box.get_turn {H : Hp} {b c : Addr} {t : Int} {ns : List Int} (x : Box H b c t ns) : DGet H b (.str "turn") (some (.int t)) := DGet.k (k := Sum.inr "turn") x.d
theorem Box.get_cells {H : Hp} {b c : Addr} {t : Int} {ns : List Int} (x : Box H b c t ns) : DGet H b (.str "cells") (some (.ref c)) := DGet.k (k := Sum.inr "cells") x.d
theorem Box.put_turn {H : Hp} {b c : Addr} {t : Int} {ns : List Int} (x : Box H b c t ns) (t' : Int) : DPut H b (.str "turn") (.int t') (upd H b (.dK [(.inr "cells", .ref c), (.inr "turn", .int t')])) :=
  DPut.k (k := Sum.inr "turn") x.d (by show 2 < sizeLine; decide)
theorem Box.turned {H : Hp} {b c : Addr} {t : Int} {ns : List Int} (x : Box H b c t ns) (t' : Int) : Box (upd H b (.dK [(.inr "cells", .ref c), (.inr "turn", .int t')])) b c t' ns :=
  ⟨upd_same, by rw [upd_ne (Ne.symm x.bc)]; exact x.l, x.ne, x.le⟩
theorem hid_upd_b {H : Hp} {b c : Addr} {o : HO} : hid (upd H b o) b c = hid H b c := by
  funext a; unfold hid; split
  · rfl
  · rename_i n; exact upd_ne (fun z => n (.inl z))
def spTake : Sp := fun vs H Q _ => ∃ (b c : Addr) (t : Int) (ns : List Int) (many : Int), vs = [.ref b, .int many] ∧ Box H b c t ns ∧ 0 ≤ t ∧ t < 100000000 ∧ 0 < many ∧ many < 1000000000 ∧
  ∀ (r : Int) (H' : Hp) (ns' : List Int), 0 ≤ r → r < many → Box H' b c (t + 1) ns' → Same (hid H b c) (hid H' b c) → Q (.int r) H'
section
variable {P : Program} {w : World} {K : PySem.W.Frag} {mg : Str → Option Value} {base : Heap} {f : Addr} {fd : FuncData}
theorem sc_take : FnScope ["_law_box", "_law_many", "_law_turn", "_law_place", "_law_cell", "_law_digit", "_law_mixed"] ["_law_box", "_law_many"] (defScope (top i_law_take)) := ⟨rfl, rfl, rfl, by decide +kernel, rfl, by decide +kernel, by decide +kernel⟩
theorem at_of {ns : List Int} {p : Int} (h0 : 0 ≤ p) (h1 : p < ns.length) : ∃ v, atI (ns.map V.int) p = some (.int v) ∧ ns[p.toNat]? = some v := by
  have hk : p.toNat < ns.length := by omega
  have ek : p = ((p.toNat : Nat) : Int) := by omega
  have q : atI (ns.map V.int) ((p.toNat : Nat) : Int) = some (.int ns[p.toNat]) := atI_nat (by rw [List.getElem?_map, List.getElem?_eq_getElem hk] <;> rfl)
  rw [← ek] at q
  exact ⟨_, q, List.getElem?_eq_getElem hk⟩
theorem cm_mod {a j m : Int} (h0 : 0 < m) (h : m < 2 ^ 64) : CMul (a % m) j := by
  have h1 := Int.emod_nonneg a (b := m) (by omega)
  have h2 := Int.emod_lt_of_pos a h0
  exact .inl ⟨by omega, by omega⟩
theorem ixN_of {n : Nat} {p : Int} (h0 : 0 ≤ p) (h1 : p < n) : ixN n p = some p.toNat := by unfold ixN; rw [if_pos h0, if_pos h1]
theorem hid_more {H H' : Hp} {b c : Addr} (h : ∀ a o, a ≠ b → a ≠ c → H a = some o → H' a = some o) : Same (hid H b c) (hid H' b c) := fun a o e => by
  obtain ⟨e, h1, h2⟩ := of_hid e
  rw [hid_of h1 h2]
  exact h a o h1 h2 e
theorem ok_take (F : Fun K "_law_take" "_law_take" (top i_law_take) f fd) (T : Nm mg) : FnOk P w K mg base CX0 1 f fd ["_law_box", "_law_many"] spTake := by
  refine F.ok sc_take (fun vs H Q E h => ?_) (fun cdv A outer s H vs Q E hr h => ?_)
  · obtain ⟨b, c, t, ns, many, rfl, _⟩ := h
    rfl
  obtain ⟨b, c, t, ns, many, rfl, bx, t0, t1, m0, m1, q⟩ := h
  have hu := hu_of hr
  refine ⟨_, (pss_cons (ps_set (i := 2) sc_take.nd rfl (Or.inl rfl) (pe_op g_add (pe_dget hu (pv 0) pe_str (fun _ _ => rfl)) pe_int))
    (pss_cons (ps_dput hu (pv 0) pe_str (pv 2) rfl)
    (pss_cons (ps_set (i := 3) sc_take.nd rfl (Or.inl rfl) (pe_op op_mod (pv 2) (pe_callB call_len rfl T.n_len PySem.boot_len (pa_cons (pe_dget hu (pv 0) pe_str (fun _ _ => rfl)) pa_nil))))
    (pss_cons (ps_set (i := 4) sc_take.nd rfl (Or.inl rfl) (pe_ix ix_seq (pe_dget hu (pv 0) pe_str (fun _ _ => rfl)) (pv 3) (fun _ _ => rfl)))
    (pss_cons (ps_if (pt_cmpR op_ge (pv 4) (pe_op op_pow pe_int pe_int) (nomark _)) (pss_cons (ps_asg (pe_callB call_divmod rfl T.n_divmod (by rfl) (pa_cons (pv 4) (pa_cons (pv 1) pa_nil))) (pg_tup rfl (pgs_cons (pg_sub (pe_dget hu (pv 0) pe_str (fun _ _ => rfl)) (pv 3) set_list) (pgs_cons (pg_name (i := 5) sc_take.nd rfl (Or.inl rfl)) pgs_nil))))
    (pss_one (ps_ret (pv 5)))) pss_nil)
    (pss_cons (ps_set (i := 6) sc_take.nd rfl (Or.inl rfl) (pe_op op_mod (pe_op g_mul (pe_op g_add (pe_op g_add (pe_op g_add (pe_op op_mod (pv 4) pe_int) (pe_op g_mul (pe_op g_mul pe_int (pv 2)) (pv 2))) (pe_op g_mul pe_int (pv 2))) pe_int) pe_int) pe_int))
    (pss_cons (ps_set (i := 6) sc_take.nd rfl (Or.inl rfl) (pe_op op_mod (pe_op g_mul (pv 6) (pe_op g_add (pe_op op_mod (pv 6) pe_int) (pe_op g_mul pe_int (pv 2)))) pe_int))
    (pss_one (ps_ret (pe_op op_mod (pe_op op_fdiv (pe_op op_mod (pe_op g_mul (pv 6) (pe_op g_add (pe_op op_mod (pv 6) pe_int) (pv 2))) pe_int) pe_int) (pv 1))))))))))), ?_⟩
  refine ⟨_, rfl, b, _, rfl, bx.get_turn, .inl ⟨_, _, rfl, rfl, ?_⟩⟩
  refine ⟨_, rfl, _, rfl, b, _, rfl, bx.put_turn (t + 1), ?_⟩
  have bx1 := bx.turned (t + 1)
  refine ⟨_, rfl, _, rfl, b, _, rfl, bx1.get_cells, _, _, rfl, .inl ⟨_, SqL.of bx1.l, rfl⟩, _, _, rfl, rfl, ?_, ?_⟩
  · rw [List.length_map]; have := bx1.ne; omega
  have hlen : (ns.map V.int).length = ns.length := List.length_map _
  have hp0 : 0 ≤ (t + 1) % ((ns.map V.int).length : Int) := Int.emod_nonneg _ (by have := bx1.ne; omega)
  have hp1 : (t + 1) % ((ns.map V.int).length : Int) < ns.length := by rw [hlen]; exact Int.emod_lt_of_pos _ (by have := bx1.ne; omega)
  obtain ⟨v, hv, hv'⟩ := at_of hp0 hp1
  refine ⟨_, rfl, b, _, rfl, bx1.get_cells, _, rfl, .inl ⟨c, _, _, _, rfl, rfl, SqL.of bx1.l, hv, ?_⟩⟩
  refine ⟨_, rfl, _, _, rfl, rfl, ⟨by decide, by decide, by decide⟩, _, _, rfl, rfl, _, rfl, ?_⟩
  refine ite2 (fun _ => ?_) (fun _ => ?_)
  · refine ⟨_, rfl, _, rfl, v, many, rfl, ⟨m0, by omega⟩, fun pt hpt => ?_⟩
    have hpb : pt ≠ b := fun z => by rw [z, bx1.d] at hpt; cases hpt
    have hpc : pt ≠ c := fun z => by rw [z, bx1.l] at hpt; cases hpt
    have bx2 : Box (upd (upd H b (.dK [(.inr "cells", .ref c), (.inr "turn", .int (t + 1))])) pt (.tup [.int (v / many), .int (v % many)])) b c (t + 1) ns :=
      ⟨by rw [upd_ne (Ne.symm hpb)]; exact bx1.d, by rw [upd_ne (Ne.symm hpc)]; exact bx1.l, bx1.ne, bx1.le⟩
    refine ⟨pt, _, rfl, SqT.of upd_same, rfl, _, _, rfl, ?_⟩
    refine ⟨_, rfl, b, _, rfl, bx2.get_cells, _, rfl, c, _, _, _, rfl, rfl, bx2.l, ixN_of hp0 (by simpa only [hlen] using hp1), ?_⟩
    refine ⟨_, _, rfl, rfl, _, rfl, ?_⟩
    refine q (v % many) _ (ns.set ((t + 1) % ((ns.map V.int).length : Int)).toNat (v / many)) (Int.emod_nonneg _ (by omega)) (Int.emod_lt_of_pos _ m0) ⟨?_, ?_, ?_, ?_⟩ ?_
    · rw [upd_ne bx2.bc]; exact bx2.d
    · rw [upd_same, List.map_set]
    · rw [List.length_set]; exact bx1.ne
    · rw [List.length_set]; exact bx1.le
    · refine hid_more fun a o h1 h2 e => ?_
      rw [upd_ne h2, upd_ne (fun z => ?_), upd_ne h1]
      · exact e
      · rw [z] at e
        rw [upd_ne hpb] at hpt
        rw [hpt] at e; cases e
  · refine ⟨_, rfl, _, _, rfl, rfl, (by dsimp only; decide), _, rfl, .inl ⟨_, _, rfl, rfl, .inl ⟨by decide, by decide⟩, _, rfl, .inl ⟨_, _, rfl, rfl, .inr ⟨by omega, by omega⟩, .inl ⟨_, _, rfl, rfl, ?_⟩⟩⟩⟩
    refine ⟨_, rfl, .inl ⟨_, _, rfl, rfl, .inl ⟨by decide, by decide⟩, .inl ⟨_, _, rfl, rfl, .inl ⟨_, _, rfl, rfl, .inl ⟨_, _, rfl, rfl, .inr ⟨by decide, by decide⟩, _, _, rfl, rfl, (by dsimp only; decide), ?_⟩⟩⟩⟩⟩
    refine ⟨_, rfl, _, rfl, _, _, rfl, rfl, (by dsimp only; decide), _, rfl, .inl ⟨_, _, rfl, rfl, .inl ⟨by decide, by decide⟩, .inl ⟨_, _, rfl, rfl, .inl ⟨_, _, rfl, rfl, cm_mod (by decide) (by decide), _, _, rfl, rfl, (by dsimp only; decide), ?_⟩⟩⟩⟩
    refine ⟨_, rfl, _, rfl, _, _, rfl, rfl, (by dsimp only; decide), _, rfl, .inl ⟨_, _, rfl, rfl, .inl ⟨_, _, rfl, rfl, cm_mod (by decide) (by decide), _, _, rfl, rfl, (by dsimp only; decide), _, _, rfl, rfl, ⟨by decide, by decide⟩, _, rfl, _, _, rfl, rfl, m0, ?_⟩⟩⟩
    exact q _ _ ns (Int.emod_nonneg _ (by omega)) (Int.emod_lt_of_pos _ m0) bx1 (by rw [hid_upd_b]; exact Same.refl _)
end
end Z

set_option Elab.async false
set_option linter.all false
set_option maxRecDepth 100000
set_option maxHeartbeats 4000000
namespace L2
open PySem
def Gm (t : TG) : Prop := ∀ x σ H (Q Q' : St → Hp → Prop), (∀ a b, Q a b → Q' a b) → t x σ H Q → t x σ H Q'
def Gms (t : TGs) : Prop := ∀ x σ H (Q Q' : St → Hp → Prop), (∀ a b, Q a b → Q' a b) → t x σ H Q → t x σ H Q'
theorem gm_name {i : Nat} : Gm (gName i) := fun _ _ _ _ _ h q => h _ _ q
theorem gms_nil : Gms gNil := fun _ _ _ _ _ h q => ⟨q.1, h _ _ q.2⟩
theorem gms_cons {t : TG} {u : TGs} (a : Gm t) (b : Gms u) : Gms (gCons t u) := fun _ _ _ _ _ h ⟨v, r, e, q⟩ => ⟨v, r, e, a _ _ _ _ _ (fun _ _ z => b _ _ _ _ _ h z) q⟩
theorem Dens.get {K : PySem.W.Frag} {H : Hp} : ∀ {ds : List PyData} {vs : List V} {i : Nat} {d : PyData}, Dens K H ds vs → ds[i]? = some d → ∃ v, vs[i]? = some v ∧ Den K H d v
  | [], _, _, _, _, e => by simp at e
  | d :: ds, vs, i, d', h, e => by
    unfold Dens at h
    obtain ⟨v, r, rfl, h1, h2⟩ := h
    cases i with
    | zero => cases e; exact ⟨v, rfl, h1⟩
    | succ i => exact Dens.get (i := i) h2 e
theorem Dens.len {K : PySem.W.Frag} {H : Hp} : ∀ {ds : List PyData} {vs : List V}, Dens K H ds vs → vs.length = ds.length
  | [], _, h => by unfold Dens at h; subst h; rfl
  | d :: ds, vs, h => by
    unfold Dens at h
    obtain ⟨v, r, rfl, h1, h2⟩ := h
    rw [List.length_cons, List.length_cons, Dens.len h2]
theorem Den.pair {K : PySem.W.Frag} {H : Hp} {a b : Str} {v : V} (h : Den K H (.tuple [.str a, .str b]) v) : ∃ p, v = .ref p ∧ SqT K H p [.str a, .str b] := by
  unfold Den at h
  obtain ⟨p, vs, e, h1, h2⟩ := h
  unfold Dens at h2
  obtain ⟨v1, r1, rfl, d1, h2⟩ := h2
  unfold Dens at h2
  obtain ⟨v2, r2, rfl, d2, h2⟩ := h2
  unfold Dens at h2
  subst h2
  unfold Den at d1 d2
  subst d1 d2
  exact ⟨p, e, h1⟩
end L2
namespace Z
open PySem L2
/-- a book as data -/
def bookD (bk : List (Str × Str)) : PyData := .list (bk.map fun q => .tuple [.str q.1, .str q.2])
theorem same_new {H : Hp} {p : Addr} (h : H p = none) (o : HO) : Same H (upd H p o) := fun b u q => by rw [upd_ne (ne_of_none q h)]; exact q
end Z

set_option Elab.async false
set_option linter.all false
set_option maxRecDepth 100000
set_option maxHeartbeats 4000000
namespace L2
open PySem
end L2
namespace L2
open PySem
/-- what holds behind a statement, said once -/
theorem seqCut {t u : TS} {D : Ends} {σ : St} {H : Hp} (Ex : St → Hp → Prop) (h : ∀ Nx : St → Hp → Prop, (∀ σ H, Ex σ H → Nx σ H) → t { D with nx := Nx } σ H) (fin : ∀ σ H, Ex σ H → u D σ H) : tSeq t u D σ H := h (u D) fin
end L2
namespace L2
open PySem
/-- x = e, then the rest; what e comes to, said once -/
theorem asgCut {te : TE} {g : TG} {u : TS} {D : Ends} {σ : St} {H : Hp} (Ex : V → Hp → Prop) (h : ∀ Qn : VK, (∀ v H, Ex v H → Qn v H) → te σ H Qn) (fin : ∀ v H, Ex v H → g v σ H (u D)) : tSeq (tAsg te g) u D σ H := h _ fin
end L2
namespace L2
open PySem
/-- a name has been given -/
theorem gn {i : Nat} {v : V} {σ : St} {H : Hp} {Q : St → Hp → Prop} (h : Q (σ.set i (some v)) H) : gName i v σ H Q := h
end L2

set_option Elab.async false
set_option linter.all false
set_option maxRecDepth 100000
set_option maxHeartbeats 4000000
namespace Z
open PySem L2
/-- the box at b, its list at c, t draws done -/
def Bx (H : Hp) (b c : Addr) (t : Int) : Prop := ∃ ns, Box H b c t ns
/-- from H to H': at most N draws more; all else stands -/
structure Step (b c : Addr) (H H' : Hp) (t t' N : Int) : Prop where
  le : t ≤ t'
  ub : t' ≤ t + N
  bx : Bx H' b c t'
  sm : Same (hid H b c) (hid H' b c)
theorem Step.refl {b c : Addr} {H : Hp} {t : Int} (h : Bx H b c t) : Step b c H H t t 0 := ⟨Int.le_refl _, by omega, h, Same.refl _⟩
theorem Step.trans {b c : Addr} {H H' H2 : Hp} {t t' t2 N M : Int} (x : Step b c H H' t t' N) (y : Step b c H' H2 t' t2 M) : Step b c H H2 t t2 (N + M) :=
  ⟨by have := x.le; have := y.le; omega, by have := x.ub; have := y.ub; omega, y.bx, x.sm.trans y.sm⟩
theorem Step.more {b c : Addr} {H H' : Hp} {t t' N M : Int} (x : Step b c H H' t t' N) (h : N ≤ M) : Step b c H H' t t' M := ⟨x.le, by have := x.ub; omega, x.bx, x.sm⟩
theorem Bx.ne_new {H : Hp} {b c p : Addr} {t : Int} (x : Bx H b c t) (h : H p = none) : p ≠ b ∧ p ≠ c := by
  obtain ⟨ns, x⟩ := x
  exact ⟨fun z => (by rw [z, x.d] at h; cases h), fun z => (by rw [z, x.l] at h; cases h)⟩
theorem Bx.upd {H : Hp} {b c p : Addr} {t : Int} {o : HO} (x : Bx H b c t) (h1 : p ≠ b) (h2 : p ≠ c) : Bx (upd H p o) b c t := by
  obtain ⟨ns, x⟩ := x
  exact ⟨ns, by rw [upd_ne (Ne.symm h1)]; exact x.d, by rw [upd_ne (Ne.symm h2)]; exact x.l, x.ne, x.le⟩
/-- a new object -/
theorem Step.new {b c p : Addr} {H H' : Hp} {t t' N : Int} (x : Step b c H H' t t' N) (h : H' p = none) (o : HO) : Step b c H (upd H' p o) t t' N :=
  ⟨x.le, x.ub, x.bx.upd (x.bx.ne_new h).1 (x.bx.ne_new h).2, x.sm.trans (hid_more fun a u _ _ e => by rw [upd_ne (ne_of_none e h)]; exact e)⟩
/-- an object changed that was not there at the start -/
theorem Step.chg {b c p : Addr} {H H' : Hp} {t t' N : Int} (x : Step b c H H' t t' N) (h : H p = none) (h1 : p ≠ b) (h2 : p ≠ c) (o : HO) : Step b c H (upd H' p o) t t' N :=
  ⟨x.le, x.ub, x.bx.upd h1 h2, fun a u e => by
    have q := x.sm a u e
    obtain ⟨q, n1, n2⟩ := of_hid q
    rw [hid_of n1 n2, upd_ne (fun z => ?_)]
    · exact q
    · rw [z] at e
      rw [(of_hid e).1] at h; cases h⟩
theorem Step.old {b c a : Addr} {H H' : Hp} {t t' N : Int} {o : HO} (x : Step b c H H' t t' N) (h : H a = some o) (h1 : a ≠ b) (h2 : a ≠ c) : H' a = some o :=
  (of_hid (x.sm a o (by rw [hid_of h1 h2]; exact h))).1
theorem Step.fresh {b c a : Addr} {H H' : Hp} {t t' N : Int} (x : Step b c H H' t t' N) (hb : Bx H b c t) (h : H' a = none) : H a = none := by
  obtain ⟨h1, h2⟩ := x.bx.ne_new h
  cases e : H a with
  | none => rfl
  | some o => rw [x.old e h1 h2] at h; cases h
theorem Same.hid {H H' : Hp} {b c : Addr} (s : Same H H') : Same (hid H b c) (hid H' b c) := hid_more fun a o _ _ e => s a o e
theorem Bx.same {H H' : Hp} {b c : Addr} {t : Int} (x : Bx H b c t) (s : Same H H') : Bx H' b c t := by
  obtain ⟨ns, x⟩ := x
  exact ⟨ns, s _ _ x.d, s _ _ x.l, x.ne, x.le⟩
theorem Step.same {b c : Addr} {H H' : Hp} {t : Int} (x : Bx H b c t) (s : Same H H') : Step b c H H' t t 0 := ⟨Int.le_refl _, by omega, x.same s, Same.hid s⟩
/-- the draw, said so -/
def spTk : Sp := fun vs H Q _ => ∃ (b c : Addr) (t many : Int), vs = [.ref b, .int many] ∧ Bx H b c t ∧ 0 ≤ t ∧ t < 100000000 ∧ 0 < many ∧ many < 1000000000 ∧
  ∀ (r : Int) (H' : Hp), 0 ≤ r → r < many → Step b c H H' t (t + 1) 1 → Q (.int r) H'
theorem spTk_of {vs : List V} {H : Hp} {Q : VK} {E : XK} (h : spTk vs H Q E) : spTake vs H Q E := by
  obtain ⟨b, c, t, many, e, ⟨ns, bx⟩, h1, h2, h3, h4, q⟩ := h
  exact ⟨b, c, t, ns, many, e, bx, h1, h2, h3, h4, fun r H' ns' r0 r1 bx' sm => q r H' r0 r1 ⟨by omega, by omega, ⟨ns', bx'⟩, sm⟩⟩
theorem cut_to (vs : List V) (j : Nat) : cutV vs none (some (j : Int)) = vs.take j := by
  unfold cutV
  rw [HT.sIx_none, HT.sIx_nat, List.drop_zero, Nat.sub_zero]
  rcases Nat.le_total j vs.length with h | h
  · rw [Nat.min_eq_left h]
  · rw [Nat.min_eq_right h, List.take_of_length_le (Nat.le_refl _), List.take_of_length_le h]
theorem cut_from (vs : List V) (j : Nat) : cutV vs (some (j : Int)) none = vs.drop j := by
  unfold cutV
  rw [HT.sIx_none, HT.sIx_nat]
  rcases Nat.le_total j vs.length with h | h
  · rw [Nat.min_eq_left h, List.take_of_length_le (by rw [List.length_drop]; exact Nat.le_refl _)]
  · rw [Nat.min_eq_right h, List.drop_of_length_le (Nat.le_refl _), List.drop_of_length_le h]; simp
theorem Fn.imp {P : Program} {w : World} {K : PySem.W.Frag} {mg : Str → Option Value} {base : Heap} {k : Nat} {x : Str} {ps : List Str} {sp sp' : Sp} (F : Fn P w K mg base k x ps sp) (h : ∀ vs H Q E, sp' vs H Q E → sp vs H Q E) : Fn P w K mg base k x ps sp' := by
  obtain ⟨f, fd, a, b, c, d⟩ := F.ex
  exact ⟨f, fd, a.imp h, b, c, d⟩
end Z
namespace Z
open PySem L2
theorem Step.newN {b c p : Addr} {H H' H2 : Hp} {t t' N : Int} {o : HO} (x : Step b c H H' t t' N) (n : New H' p o H2) : Step b c H H2 t t' N := by rw [n.eq]; exact x.new n.nn _
theorem Step.chgN {b c p : Addr} {H H' H2 : Hp} {t t' N : Int} {o : HO} (x : Step b c H H' t t' N) (n : Chg H' p o H2) (h : H p = none) (h1 : p ≠ b) (h2 : p ≠ c) : Step b c H H2 t t' N := by rw [n.eq]; exact x.chg h h1 h2 _
end Z

set_option Elab.async false
set_option linter.all false
set_option maxRecDepth 100000
set_option maxHeartbeats 4000000
namespace Z
open PySem L2
/-- a text of the signs 0 and 1 -/
def Bin (x : Str) : Prop := ∀ c ∈ x.cps.toList, c = 48 ∨ c = 49
theorem glued_list (g : Str) : ∀ (parts : List Str) (acc : Array Nat), (parts.foldl (fun acc p => acc ++ g.cps ++ p.cps) acc).toList = acc.toList ++ parts.flatMap (fun p => g.cps.toList ++ p.cps.toList)
  | [], acc => by simp
  | p :: r, acc => by rw [List.foldl_cons, glued_list g r]; simp
theorem join_list0 (xs : List Str) : (Txt.join "" xs).cps.toList = xs.flatMap (fun p => p.cps.toList) := by
  cases xs with
  | nil => rfl
  | cons x r =>
    show ((r.foldl (fun acc p => acc ++ (Str.ofString "").cps ++ p.cps) x.cps)).toList = _
    rw [glued_list]
    have e : (Str.ofString "").cps.toList = [] := rfl
    simp [e]
theorem ones_flat : ∀ {xs : List Str}, (∀ x ∈ xs, ∃ ch : Nat, x = ⟨#[ch]⟩ ∧ (ch = 48 ∨ ch = 49)) → (xs.flatMap (fun p => p.cps.toList)).length = xs.length ∧ (∀ c ∈ xs.flatMap (fun p => p.cps.toList), c = 48 ∨ c = 49) ∧ (xs.map (·.length)).sum = xs.length
  | [], _ => ⟨rfl, fun _ h => by simp at h, rfl⟩
  | x :: r, h => by
    obtain ⟨ch, rfl, hc⟩ := h x List.mem_cons_self
    obtain ⟨h1, h2, h3⟩ := ones_flat fun y hy => h y (List.mem_cons_of_mem _ hy)
    refine ⟨by simp at h1 ⊢; omega, fun c hm => ?_, ?_⟩
    · rw [List.flatMap_cons] at hm
      rcases List.mem_append.mp hm with q | q
      · have : c = ch := by simpa using q
        rw [this]; exact hc
      · exact h2 c q
    · rw [List.map_cons, List.sum_cons, h3]
      show 1 + _ = _
      simp; omega
end Z

set_option Elab.async false
set_option linter.all false
set_option maxRecDepth 100000
set_option maxHeartbeats 4000000
namespace Z
open PySem L2
abbrev abc : Str := "abcdefghijklmnopqrstuvwxyz"
theorem abc_list : abc.cps.toList = (List.range 26).map (97 + ·) := by decide +kernel
theorem abc_at {r : Int} (h0 : 0 ≤ r) (h1 : r < 26) : atI abc.cps.toList r = some (97 + r.toNat) := by
  refine at_nat h0 ?_
  rw [abc_list, List.getElem?_map, List.getElem?_range (by omega)]
  rfl
/-- small letters alone -/
def Low (x : Str) : Prop := ∀ ch ∈ x.cps.toList, 97 ≤ ch ∧ ch ≤ 122
/-- the name at place i where the first letter's number is g -/
structure NameAt (g : Int) (i : Nat) (x : Str) : Prop where
  low : Low x
  pos : 1 ≤ x.length
  le : x.length ≤ 8
  last : x.cps.toList.getLast? = some (97 + ((g + 3 * i) % 26).toNat)
theorem str_append_list (x y : Str) : (x ++ y).cps.toList = x.cps.toList ++ y.cps.toList := by
  show (x.cps ++ y.cps).toList = _
  simp
theorem str_len (x : Str) : x.length = x.cps.toList.length := by simp [Str.length]
theorem len_append (x y : Str) : (x ++ y).length = x.length + y.length := by rw [str_len, str_append_list, List.length_append, ← str_len, ← str_len]
theorem len_one (ch : Nat) : (⟨#[ch]⟩ : Str).length = 1 := rfl
theorem Low.app {x : Str} {ch : Nat} (h : Low x) (h1 : 97 ≤ ch) (h2 : ch ≤ 122) : Low (x ++ ⟨#[ch]⟩) := fun d hd => by
  rw [str_append_list] at hd
  rcases List.mem_append.mp hd with q | q
  · exact h d q
  · have e : d = ch := by simpa using q
    rw [e]; exact ⟨h1, h2⟩
end Z

set_option Elab.async false
set_option linter.all false
set_option maxRecDepth 100000
set_option maxHeartbeats 4000000
namespace Z
open PySem L2
def spSigns : Sp := fun vs H Q _ => ∃ (b c : Addr) (t : Int) (ns : List Int) (many : Int), vs = [.ref b, .int many] ∧ Box H b c t ns ∧ 0 ≤ t ∧ t < 10000000 ∧ -1000 ≤ many ∧ many ≤ 1000 ∧
  ∀ (x : Str) (H' : Hp) (ns' : List Int), (x.length : Int) = max many 0 → Bin x → Box H' b c (t + max many 0) ns' → Same (hid H b c) (hid H' b c) → Q (.str x) H'
section
variable {P : Program} {w : World} {K : PySem.W.Frag} {mg : Str → Option Value} {base : Heap} {f : Addr} {fd : FuncData}
theorem sc_signs : FnScope ["_law_box", "_law_many"] ["_law_box", "_law_many"] (defScope (top i_law_signs)) := ⟨rfl, rfl, rfl, by decide +kernel, rfl, by decide +kernel, by decide +kernel⟩
theorem sign_at {r : Int} (h0 : 0 ≤ r) (h1 : r < 2) : ∃ ch, atI (Str.ofString "01").cps.toList r = some ch ∧ (ch = 48 ∨ ch = 49) := by
  have : r = 0 ∨ r = 1 := by omega
  rcases this with rfl | rfl
  · exact ⟨48, by decide +kernel, .inl rfl⟩
  · exact ⟨49, by decide +kernel, .inr rfl⟩
theorem ok_signs (F : Fun K "_law_signs" "_law_signs" (top i_law_signs) f fd) (T : Nm mg) (f_law_take : Fn P w K mg base 1 "_law_take" ["_law_box", "_law_many"] spTake) : FnOk P w K mg base CX0 2 f fd ["_law_box", "_law_many"] spSigns := by
  refine F.ok sc_signs (fun vs H Q E h => ?_) (fun cdv A outer s H vs Q E hr h => ?_)
  · obtain ⟨b, c, t, ns, many, rfl, _⟩ := h
    rfl
  obtain ⟨b, c, t, ns, many, rfl, bx, t0, t1, m0, m1, q⟩ := h
  refine ⟨_, (pss_one (ps_ret (bmK K PySem.F.plainAttrs_str PySem.F.slot_str_join PySem.F.type_str_join (joinK K) pe_str (pa_cons (pe_lcomp rfl (comp_ok (Nc := ["_law_turn"]) (Fc := ["_law_box"]) (js := [0])) (pi_range1 rfl T.n_range (pa_cons (pv 1) pa_nil)) (gk_name (i := 0) (n := 1) (by decide)) (fun _ _ _ _ _ => (pg_name (i := 0) (show (["_law_turn", "_law_box"] : List Str).Nodup by decide +kernel) rfl (Or.inl rfl))) (fun _ _ _ _ _ => pts_nil) (fun _ _ _ _ _ => (pe_ix (ixK K) pe_str (pe_fn f_law_take hr rfl (pa_cons (pv 1) (pa_cons pe_int pa_nil))) (fun _ _ => rfl)))) pa_nil)))), ?_⟩
  refine ⟨rfl, _, rfl, many, rfl, by omega, by omega, ?_⟩
  have hN : ((many.toNat : Nat) : Int) = max many 0 := by omega
  refine comp_go (N := many.toNat) (fun i ys H' => ∃ (xs : List Str) (ns' : List Int), ys = xs.map V.str ∧ xs.length = i ∧ (∀ x ∈ xs, ∃ ch, x = ⟨#[ch]⟩ ∧ (ch = 48 ∨ ch = 49)) ∧ Box H' b c (t + i) ns' ∧ Same (hid H b c) (hid H' b c))
    ⟨[], ns, rfl, rfl, (fun _ h => nomatch h), by simpa using bx, Same.refl _⟩ ?_ ?_
  · rintro i ys H' Nx hi ⟨xs, ns', rfl, hl, hx, bx', sm⟩ nx
    refine ⟨hi, by rw [List.length_map, hl]; exact Nat.lt_of_lt_of_le (show i < 1000 by omega) (by decide), ?_⟩
    rintro x H2 ⟨rfl, rfl⟩
    refine ⟨_, rfl, b, c, t + i, ns', 2, rfl, bx', by omega, by omega, by decide, by decide, fun r H4 ns4 r0 r1 bx4 sm4 => ?_⟩
    obtain ⟨ch, hch, hb⟩ := sign_at r0 r1
    refine .inr (.inr ⟨_, r, ch, rfl, rfl, by decide +kernel, hch, nx _ _ ⟨xs ++ [⟨#[ch]⟩], ns4, by simp, by simp [hl], ?_, ?_, sm.trans sm4⟩⟩)
    · intro x hxm
      rcases List.mem_append.mp hxm with h | h
      · exact hx x h
      · exact ⟨ch, List.mem_singleton.mp h, hb⟩
    · have e : t + ((i + 1 : Nat) : Int) = t + i + 1 := by omega
      rw [e]; exact bx4
  · rintro ys H' ⟨xs, ns', rfl, hl, hx, bx', sm⟩
    refine ⟨Nat.le_refl _, fun p hp => ⟨_, p, xs, rfl, rfl, SqL.of upd_same, ?_, ?_⟩⟩
    · obtain ⟨_, _, h3⟩ := ones_flat hx
      rw [h3]
      show xs.length + xs.length * 0 ≤ 16777216
      omega
    · obtain ⟨h1, h2, _⟩ := ones_flat hx
      have hc := join_list0 xs
      refine q _ _ ns' ?_ ?_ ?_ ?_
      · have e : (Txt.join "" xs).length = (Txt.join "" xs).cps.toList.length := by simp [Str.length]
        rw [← hN, ← hl, e, hc, h1]
      · show ∀ c ∈ (Txt.join "" xs).cps.toList, _
        rw [hc]; exact h2
      · have hpb : p ≠ b := fun z => by rw [z, bx'.d] at hp; cases hp
        have hpc : p ≠ c := fun z => by rw [z, bx'.l] at hp; cases hp
        rw [← hN]
        exact ⟨by rw [upd_ne (Ne.symm hpb)]; exact bx'.d, by rw [upd_ne (Ne.symm hpc)]; exact bx'.l, bx'.ne, bx'.le⟩
      · refine sm.trans (hid_more fun a o h1 h2 e => ?_)
        rw [upd_ne (ne_of_none e hp)]; exact e
end
end Z

set_option Elab.async false
set_option linter.all false
set_option maxRecDepth 100000
set_option maxHeartbeats 4000000
namespace Z
open PySem L2
def spSg : Sp := fun vs H Q _ => ∃ (b c : Addr) (t many : Int), vs = [.ref b, .int many] ∧ Bx H b c t ∧ 0 ≤ t ∧ t < 10000000 ∧ -1000 ≤ many ∧ many ≤ 1000 ∧
  ∀ (x : Str) (H' : Hp) (t' : Int), (x.length : Int) = max many 0 → Bin x → Step b c H H' t t' (max many 0) → Q (.str x) H'
theorem spSg_of {vs : List V} {H : Hp} {Q : VK} {E : XK} (h : spSg vs H Q E) : spSigns vs H Q E := by
  obtain ⟨b, c, t, many, e, ⟨ns, bx⟩, h1, h2, h3, h4, q⟩ := h
  exact ⟨b, c, t, ns, many, e, bx, h1, h2, h3, h4, fun x H' ns' hx hb bx' sm => q x H' _ hx hb ⟨by omega, by omega, ⟨ns', bx'⟩, sm⟩⟩
end Z

set_option Elab.async false
set_option linter.all false
set_option maxRecDepth 100000
set_option maxHeartbeats 4000000
namespace Z
open PySem L2
def spNames : Sp := fun vs H Q _ => ∃ (b c : Addr) (t many : Int), vs = [.ref b, .int many] ∧ Bx H b c t ∧ 0 ≤ t ∧ t < 1000000 ∧ 0 ≤ many ∧ many ≤ 60 ∧
  ∀ (xs : List Str) (l : Addr) (H' : Hp) (t' g : Int), (xs.length : Int) = many → 0 ≤ g → g < 26 → (∀ (i : Nat) x, xs[i]? = some x → NameAt g i x) → Step b c H H' t t' 1000 → H l = none → H' l = some (.lst (xs.map V.str)) → Q (.ref l) H'
section
variable {P : Program} {w : World} {K : PySem.W.Frag} {mg : Str → Option Value} {base : Heap} {f : Addr} {fd : FuncData}
theorem sc_law_names : FnScope ["_law_box", "_law_many", "_law_letters", "_law_begin_here", "_law_found", "_law_place", "_law_way", "_law_word", "_law_turn"] ["_law_box", "_law_many"] (defScope (top i_law_names)) := ⟨rfl, rfl, rfl, by decide +kernel, rfl, by decide +kernel, by decide +kernel⟩
theorem ok_names (F : Fun K "_law_names" "_law_names" (top i_law_names) f fd) (T : Nm mg) (f_law_take : Fn P w K mg base 1 "_law_take" ["_law_box", "_law_many"] spTk) : FnOk P w K mg base CX0 2 f fd ["_law_box", "_law_many"] spNames := by
  refine F.ok sc_law_names (fun vs H Q E h => ?_) (fun cdv A outer s H vs Q E hr h => ?_)
  · obtain ⟨b, c, t, many, rfl, _⟩ := h
    rfl
  obtain ⟨b, c, t, many, rfl, bx, t0, t1, m0, m1, q⟩ := h
  refine ⟨_, (pss_cons (ps_set (i := 2) sc_law_names.nd rfl (Or.inl rfl) pe_str)
    (pss_cons (ps_par (i := 3) (j := 4) rfl sc_law_names.nd rfl rfl (by decide) rfl rfl (pa_cons (pe_fn (f_law_take.mono (by first | decide | exact Nat.le_refl _)) hr rfl (pa_cons (pv 0) (pa_cons pe_int pa_nil))) (pa_cons (lstN pa_nil) pa_nil)) rfl)
    (pss_cons (ps_for PassesOwn.never rfl (pi_range1 rfl T.n_range (pa_cons (pv 1) pa_nil)) (pg_name (i := 5) sc_law_names.nd rfl (Or.inl rfl)) (pss_cons (ps_set (i := 6) sc_law_names.nd rfl (Or.inl rfl) (pe_fn (f_law_take.mono (by first | decide | exact Nat.le_refl _)) hr rfl (pa_cons (pv 0) (pa_cons pe_int pa_nil))))
    (pss_cons (ps_set (i := 7) sc_law_names.nd rfl (Or.inl rfl) pe_str)
    (pss_cons (ps_for PassesOwn.never rfl (pi_range1 rfl T.n_range (pa_cons (pe_ifExp (pt_cmpR op_lt (pv 6) pe_int (nomark _)) (pe_ix (ixK K) (lstN (pa_cons pe_int (pa_cons pe_int (pa_cons pe_int (pa_cons pe_int pa_nil))))) (pv 6) (fun _ _ => rfl)) (pe_fn (f_law_take.mono (by first | decide | exact Nat.le_refl _)) hr rfl (pa_cons (pv 0) (pa_cons pe_int pa_nil)))) pa_nil)) (pg_name (i := 8) sc_law_names.nd rfl (Or.inl rfl)) (pss_one (ps_set (i := 7) sc_law_names.nd rfl (Or.inl rfl) (pe_op addN (pv 7) (pe_ix (ixK K) (pv 2) (pe_fn (f_law_take.mono (by first | decide | exact Nat.le_refl _)) hr rfl (pa_cons (pv 0) (pa_cons pe_int pa_nil))) (fun _ _ => rfl))))))
    (pss_one (ps_expr (bmK K PySem.F.plainAttrs_list PySem.F.slot_list_append PySem.F.type_list_append appendN (pv 4) (pa_cons (pe_op addN (pv 7) (pe_ix (ixK K) (pv 2) (pe_op op_mod (pe_op addN (pv 3) (pe_op mulN pe_int (pv 5))) pe_int) (fun _ _ => rfl))) pa_nil))))))))
    (pss_one (ps_ret (pv 4)))))), ?_⟩
  refine ⟨_, rfl, b, c, t, 26, rfl, bx, t0, by omega, by decide, by decide, fun g H1 g0 g1 st1 => ?_⟩
  refine ⟨by show 0 ≤ sizeLine; decide, fun l H2 n2 => ⟨_, _, rfl, ?_⟩⟩
  have hl : H l = none := st1.fresh bx n2.nn
  obtain ⟨lb, lc⟩ := st1.bx.ne_new n2.nn
  have st2 : Step b c H H2 t (t + 1) 1 := by rw [n2.eq]; exact st1.new n2.nn _
  refine ⟨_, rfl, many, rfl, by omega, by omega, ?_⟩
  refine for_range (lo := 0) (n := many.toNat) (fun i σ H' => ∃ xs t' x5 x6 x7 x8, σ = [some (.ref b), some (.int many), some (.str abc), some (.int g), some (.ref l), x5, x6, x7, x8] ∧ xs.length = i ∧
    (∀ (j : Nat) x, xs[j]? = some x → NameAt g j x) ∧ Step b c H H' t t' (1 + 10 * i) ∧ H' l = some (.lst (xs.map V.str))) ⟨[], t + 1, _, _, _, _, rfl, rfl, by simp, by simpa using st2, n2.at⟩ ?_ ?_
  · rintro i σ H3 hi ⟨xs, t3, x5, x6, x7, x8, rfl, hxl, hx, st3, hl3⟩
    have hub := st3.ub
    have hlo := st3.le
    refine ⟨_, rfl, b, c, t3, 5, rfl, st3.bx, by omega, by omega, by decide, by decide, fun r H4 r0 r1 st4 => ?_⟩
    have hl4 : H4 l = some (.lst (xs.map V.str)) := st4.old hl3 lb lc
    have st4 := st3.trans st4
    refine ⟨_, rfl, _, _, rfl, rfl, _, rfl, ?_⟩
    have four : r < 4 → ∃ v : Int, atI ([.int 0, .int 0, .int 1, .int 7] : List V) r = some (.int v) ∧ 0 ≤ v ∧ v ≤ 7 := fun h => by
      have : r = 0 ∨ r = 1 ∨ r = 2 ∨ r = 3 := by omega
      rcases this with rfl | rfl | rfl | rfl
      · exact ⟨0, rfl, by decide, by decide⟩
      · exact ⟨0, rfl, by decide, by decide⟩
      · exact ⟨1, rfl, by decide, by decide⟩
      · exact ⟨7, rfl, by decide, by decide⟩
    refine ite2 (fun c4 => ?_) (fun c4 => ?_)
    · obtain ⟨m, hm, hm0, hm1⟩ := four (of_decide_eq_true c4)
      refine ⟨by show 4 ≤ sizeLine; decide, fun p H5 n5 => ?_⟩
      have st5 : Step b c H H5 t (t3 + 1) (1 + 10 * i + 2) := by rw [n5.eq]; exact (st4.new n5.nn _).more (by omega)
      have hl5 : H5 l = some (.lst (xs.map V.str)) := n5.same _ _ hl4
      obtain ⟨t5, st5⟩ : ∃ t5, Step b c H H5 t t5 (1 + 10 * i + 2) := ⟨_, st5⟩
      refine ⟨_, rfl, .inl ⟨p, _, _, _, rfl, rfl, SqL.of n5.at, hm, m, rfl, by omega, by omega, ?_⟩⟩
      clear n5 c4 hm st4 hl4 four
      refine for_range (lo := 0) (n := m.toNat) (fun k σ H' => ∃ x t' x8, σ = [some (.ref b), some (.int many), some (.str abc), some (.int g), some (.ref l), some (.int (0 + i)), some (.int r), some (.str x), x8] ∧ x.length = k ∧
        Low x ∧ Step b c H H' t t' (1 + 10 * i + 2 + k) ∧ H' l = some (.lst (xs.map V.str))) ⟨Str.empty, t5, _, rfl, rfl, (fun _ h => by cases h), by simpa using st5, hl5⟩ ?_ ?_
      · rintro k σ H6 hk ⟨x, t6, y8, rfl, hk1, hlow, st6, hl6⟩
        have hub6 := st6.ub
        have hlo6 := st6.le
        refine ⟨_, rfl, _, rfl, _, rfl, b, c, t6, 26, rfl, st6.bx, by omega, by omega, by decide, by decide, fun d H7 d0 d1 st7 => ?_⟩
        refine .inr (.inr ⟨_, d, _, rfl, rfl, by decide +kernel, abc_at d0 d1, .inr (.inl ⟨_, _, rfl, rfl, ?_, ?_⟩)⟩)
        · rw [len_one, hk1]; exact sizeOk (by omega)
        · exact ⟨x ++ ⟨#[97 + d.toNat]⟩, t6 + 1, _, rfl, by rw [len_append, len_one, hk1], hlow.app (by omega) (by omega), (st6.trans st7).more (by omega), st7.old hl6 lb lc⟩
      · rintro σ H6 ⟨x, t6, y8, rfl, hk1, hlow, st6, hl6⟩
        have h0 : 0 ≤ (g + 3 * ((0 : Int) + i)) % 26 := Int.emod_nonneg _ (by decide)
        have h1 : (g + 3 * ((0 : Int) + i)) % 26 < 26 := Int.emod_lt_of_pos _ (by decide)
        refine ⟨_, rfl, .inl ⟨rfl, _, SqL.of hl6⟩, _, rfl, _, rfl, _, rfl, _, rfl, .inl ⟨_, _, rfl, rfl, .inl ⟨by decide, by decide⟩, .inl ⟨_, _, rfl, rfl, _, _, rfl, rfl, (by dsimp only; decide), ?_⟩⟩⟩
        refine .inr (.inr ⟨_, _, _, rfl, rfl, by decide +kernel, abc_at h0 h1, .inr (.inl ⟨_, _, rfl, rfl, by rw [len_one, hk1]; exact sizeOk (by omega), l, _, _, rfl, rfl, hl6, ?_, fun H7 c7 => ?_⟩)⟩)
        · rw [List.length_map, hxl]; exact Nat.lt_of_lt_of_le (show i < 1000 by omega) (by decide)
        · refine ⟨xs ++ [x ++ ⟨#[97 + ((g + 3 * ((0 : Int) + i)) % 26).toNat]⟩], t6, _, _, _, _, rfl, by rw [List.length_append, hxl]; rfl, fun j y hy => ?_, ?_, ?_⟩
          · by_cases hj : j < xs.length
            · rw [List.getElem?_append_left hj] at hy
              exact hx j y hy
            · rw [List.getElem?_append_right (by omega)] at hy
              have e : j - xs.length = 0 := by
                have := (List.getElem?_eq_some_iff.mp hy).1
                simp at this
                omega
              rw [e] at hy
              cases hy
              have ej : j = i := by omega
              subst ej
              refine ⟨hlow.app (by omega) (by omega), by rw [len_append, len_one]; omega, by rw [len_append, len_one]; omega, ?_⟩
              rw [str_append_list, List.getLast?_append]
              have : ((0 : Int) + j) = j := by omega
              rw [this]
              rfl
          · rw [c7.eq]
            exact (st6.chg hl lb lc _).more (by omega)
          · rw [c7.at, List.map_append]
            rfl
    · have hub4 := st4.ub
      have hlo4 := st4.le
      refine ⟨_, rfl, b, c, t3 + 1, 8, rfl, st4.bx, by omega, by omega, by decide, by decide, fun m H5 hm0 hm1 st5 => ?_⟩
      have hl5 : H5 l = some (.lst (xs.map V.str)) := st5.old hl4 lb lc
      obtain ⟨t5, st5⟩ : ∃ t5, Step b c H H5 t t5 (1 + 10 * i + 2) := ⟨_, (st4.trans st5).more (by omega)⟩
      refine ⟨m, rfl, by omega, by omega, ?_⟩
      have hm1 : m ≤ 7 := by omega
      clear c4 st4 hl4 four
      refine for_range (lo := 0) (n := m.toNat) (fun k σ H' => ∃ x t' x8, σ = [some (.ref b), some (.int many), some (.str abc), some (.int g), some (.ref l), some (.int (0 + i)), some (.int r), some (.str x), x8] ∧ x.length = k ∧
        Low x ∧ Step b c H H' t t' (1 + 10 * i + 2 + k) ∧ H' l = some (.lst (xs.map V.str))) ⟨Str.empty, t5, _, rfl, rfl, (fun _ h => by cases h), by simpa using st5, hl5⟩ ?_ ?_
      · rintro k σ H6 hk ⟨x, t6, y8, rfl, hk1, hlow, st6, hl6⟩
        have hub6 := st6.ub
        have hlo6 := st6.le
        refine ⟨_, rfl, _, rfl, _, rfl, b, c, t6, 26, rfl, st6.bx, by omega, by omega, by decide, by decide, fun d H7 d0 d1 st7 => ?_⟩
        refine .inr (.inr ⟨_, d, _, rfl, rfl, by decide +kernel, abc_at d0 d1, .inr (.inl ⟨_, _, rfl, rfl, ?_, ?_⟩)⟩)
        · rw [len_one, hk1]; exact sizeOk (by omega)
        · exact ⟨x ++ ⟨#[97 + d.toNat]⟩, t6 + 1, _, rfl, by rw [len_append, len_one, hk1], hlow.app (by omega) (by omega), (st6.trans st7).more (by omega), st7.old hl6 lb lc⟩
      · rintro σ H6 ⟨x, t6, y8, rfl, hk1, hlow, st6, hl6⟩
        have h0 : 0 ≤ (g + 3 * ((0 : Int) + i)) % 26 := Int.emod_nonneg _ (by decide)
        have h1 : (g + 3 * ((0 : Int) + i)) % 26 < 26 := Int.emod_lt_of_pos _ (by decide)
        refine ⟨_, rfl, .inl ⟨rfl, _, SqL.of hl6⟩, _, rfl, _, rfl, _, rfl, _, rfl, .inl ⟨_, _, rfl, rfl, .inl ⟨by decide, by decide⟩, .inl ⟨_, _, rfl, rfl, _, _, rfl, rfl, (by dsimp only; decide), ?_⟩⟩⟩
        refine .inr (.inr ⟨_, _, _, rfl, rfl, by decide +kernel, abc_at h0 h1, .inr (.inl ⟨_, _, rfl, rfl, by rw [len_one, hk1]; exact sizeOk (by omega), l, _, _, rfl, rfl, hl6, ?_, fun H7 c7 => ?_⟩)⟩)
        · rw [List.length_map, hxl]; exact Nat.lt_of_lt_of_le (show i < 1000 by omega) (by decide)
        · refine ⟨xs ++ [x ++ ⟨#[97 + ((g + 3 * ((0 : Int) + i)) % 26).toNat]⟩], t6, _, _, _, _, rfl, by rw [List.length_append, hxl]; rfl, fun j y hy => ?_, ?_, ?_⟩
          · by_cases hj : j < xs.length
            · rw [List.getElem?_append_left hj] at hy
              exact hx j y hy
            · rw [List.getElem?_append_right (by omega)] at hy
              have e : j - xs.length = 0 := by
                have := (List.getElem?_eq_some_iff.mp hy).1
                simp at this
                omega
              rw [e] at hy
              cases hy
              have ej : j = i := by omega
              subst ej
              refine ⟨hlow.app (by omega) (by omega), by rw [len_append, len_one]; omega, by rw [len_append, len_one]; omega, ?_⟩
              rw [str_append_list, List.getLast?_append]
              have : ((0 : Int) + j) = j := by omega
              rw [this]
              rfl
          · rw [c7.eq]
            exact (st6.chg hl lb lc _).more (by omega)
          · rw [c7.at, List.map_append]
            rfl
  · rintro σ H3 ⟨xs, t3, x5, x6, x7, x8, rfl, hxl, hx, st3, hl3⟩
    exact ⟨_, rfl, q xs l H3 t3 g (by omega) g0 g1 hx (st3.more (by omega)) hl hl3⟩
end
end Z

set_option Elab.async false
set_option linter.all false
set_option maxRecDepth 100000
set_option maxHeartbeats 4000000
namespace Z
open PySem L2
/-- may be compared, and is no deeper than n -/
def Sh (n : Nat) (d : PyData) : Prop := d.canLay0 = true ∧ d.depth ≤ n
theorem Sh.all {n : Nat} : ∀ {ds : List PyData}, (∀ d ∈ ds, Sh n d) → PyData.canLayAll0 ds = true ∧ PyData.depthAll ds ≤ n
  | [], _ => ⟨by simp [PyData.canLayAll0], by simp [PyData.depthAll]⟩
  | d :: ds, h => by
    obtain ⟨h1, h2⟩ := h d List.mem_cons_self
    obtain ⟨h3, h4⟩ := Sh.all fun e he => h e (List.mem_cons_of_mem _ he)
    exact ⟨by simp [PyData.canLayAll0, h1, h3], by simp only [PyData.depthAll]; omega⟩
theorem Sh.list {n : Nat} {ds : List PyData} (h : ∀ d ∈ ds, Sh n d) : Sh (n + 1) (.list ds) := by
  obtain ⟨h1, h2⟩ := Sh.all h
  exact ⟨by simpa [PyData.canLay0] using h1, by simp only [PyData.depth]; omega⟩
theorem Sh.shaped {n : Nat} {d : PyData} (h : Sh n d) (hn : n ≤ 64) : SeqAt.shaped d = true := by
  unfold SeqAt.shaped
  rw [h.1, decide_eq_true (Nat.le_trans h.2 hn)]
  rfl
theorem Sh.str {n : Nat} {x : Str} (h : PyData.canLay0 (.str x) = true) : Sh n (.str x) := ⟨h, by simp [PyData.depth]⟩
theorem canLay_small {x : Str} (h : ∀ ch ∈ x.cps.toList, ch < 128) : PyData.canLay0 (.str x) = true := by
  simp only [PyData.canLay0, PyData.strOk]
  rw [← Array.all_toList, List.all_eq_true]
  intro ch hc
  have := h ch hc
  exact decide_eq_true (by omega)
theorem Den.strs {K : PySem.W.Frag} {H : Hp} : ∀ (xs : List Str), Dens K H (xs.map PyData.str) (xs.map V.str)
  | [] => by unfold Dens; rfl
  | x :: xs => by
    rw [List.map_cons]
    unfold Dens
    exact ⟨_, _, rfl, by unfold Den; rfl, Den.strs xs⟩
theorem Den.list {K : PySem.W.Frag} {H : Hp} {l : Addr} {ds : List PyData} {vs : List V} (h : SqL K H l vs) (hd : Dens K H ds vs) : Den K H (.list ds) (.ref l) := by
  unfold Den
  exact ⟨l, vs, rfl, h, hd⟩
theorem weight_at {n : Nat} : ∀ {ds : List PyData} {d : PyData}, PyData.weightAll ds ≤ n → d ∈ ds → d.weight ≤ n
  | [], _, _, h => nomatch h
  | e :: ds, d, hn, h => by
    simp only [PyData.weightAll] at hn
    rcases List.mem_cons.mp h with rfl | h
    · omega
    · exact weight_at (by omega) h
theorem len_weight : ∀ (ds : List PyData), ds.length ≤ PyData.weightAll ds
  | [] => by simp
  | e :: ds => by
    simp only [PyData.weightAll, List.length_cons]
    have := len_weight ds
    omega
end Z

set_option Elab.async false
set_option linter.all false
set_option maxRecDepth 100000
set_option maxHeartbeats 4000000
namespace Z
open PySem L2
theorem Dens.of_get {K : PySem.W.Frag} {H : Hp} : ∀ {ds : List PyData} {vs : List V}, ds.length = vs.length → (∀ (j : Nat) d v, ds[j]? = some d → vs[j]? = some v → Den K H d v) → Dens K H ds vs
  | [], [], _, _ => by unfold Dens; rfl
  | [], _ :: _, h, _ => by simp at h
  | _ :: _, [], h, _ => by simp at h
  | d :: ds, v :: vs, h, g => by
    unfold Dens
    exact ⟨v, vs, rfl, g 0 d v rfl rfl, Dens.of_get (by simpa using h) fun j d' v' h1 h2 => g (j + 1) d' v' h1 h2⟩
theorem Den.pairOf {K : PySem.W.Frag} {H : Hp} {a : Addr} {x y : Str} (h : H a = some (.tup [.str x, .str y])) : Den K H (.tuple [.str x, .str y]) (.ref a) := by
  unfold Den
  refine ⟨a, _, rfl, SqT.of h, ?_⟩
  unfold Dens
  refine ⟨_, _, rfl, by unfold Den; rfl, ?_⟩
  unfold Dens
  refine ⟨_, _, rfl, by unfold Den; rfl, ?_⟩
  unfold Dens
  rfl
/-- a book that is a list of its own -/
def BookAt (K : PySem.W.Frag) (H : Hp) (bk : List (Str × Str)) (v : V) : Prop := ∃ (l : Addr) (vs : List V), v = .ref l ∧ H l = some (.lst vs) ∧ Dens K H (bk.map fun q => .tuple [.str q.1, .str q.2]) vs
theorem BookAt.den {K : PySem.W.Frag} {H : Hp} {bk : List (Str × Str)} {v : V} (h : BookAt K H bk v) : Den K H (bookD bk) v := by
  obtain ⟨l, vs, rfl, h1, h2⟩ := h
  exact Den.list (SqL.of h1) h2
/-- the list that list(zip(names, codes)) tells is a book -/
theorem book_zip {K : PySem.W.Frag} {H1 H' : Hp} {b c p : Addr} {t : Int} {as : List Addr} {ns cs : List Str} (bx : Bx H1 b c t) (hp : H1 p = none) (hl : H' p = some (.lst (as.map V.ref))) (hle : ns.length = cs.length)
    (hal : as.length = min (ns.map V.str).length (cs.map V.str).length) (h : ∀ (j : Nat) a x y, as[j]? = some a → (ns.map V.str)[j]? = some x → (cs.map V.str)[j]? = some y → H1 a = none ∧ H' a = some (.tup [x, y])) :
    BookAt K (hid H' b c) (ns.zip cs) (.ref p) := by
  have hal' : as.length = ns.length := by rw [hal, List.length_map, List.length_map, ← hle, Nat.min_self]
  obtain ⟨pb, pc⟩ := bx.ne_new hp
  refine ⟨p, _, rfl, by rw [hid_of pb pc]; exact hl, Dens.of_get ?_ fun j d v hd hv => ?_⟩
  · rw [List.length_map, List.length_map, List.length_zip]; omega
  · rw [List.getElem?_map] at hd hv
    have hj : j < as.length := by
      cases e : as[j]? with
      | none => rw [e] at hv; cases hv
      | some a => exact (List.getElem?_eq_some_iff.mp e).1
    have e1 : as[j]? = some as[j] := List.getElem?_eq_getElem hj
    have e2 : ns[j]? = some (ns[j]'(by omega)) := List.getElem?_eq_getElem (by omega)
    have e3 : cs[j]? = some (cs[j]'(by omega)) := List.getElem?_eq_getElem (by omega)
    rw [e1] at hv; cases hv
    rw [(List.getElem?_zip_eq_some (z := (ns[j]'(by omega), cs[j]'(by omega)))).mpr ⟨e2, e3⟩] at hd
    cases hd
    obtain ⟨h1, h2⟩ := h j as[j] _ _ e1 (by rw [List.getElem?_map, e2]; rfl) (by rw [List.getElem?_map, e3]; rfl)
    obtain ⟨ab, ac⟩ := bx.ne_new h1
    exact Den.pairOf (by rw [hid_of ab ac]; exact h2)
/-- a code of 1 to n signs -/
structure CodeOk (n : Nat) (x : Str) : Prop where
  bin : Bin x
  pos : 1 ≤ x.length
  le : x.length ≤ n
theorem CodeOk.mono {n m : Nat} {x : Str} (h : CodeOk n x) (le : n ≤ m) : CodeOk m x := ⟨h.bin, h.pos, Nat.le_trans h.le le⟩
theorem Bin.app {x y : Str} (h : Bin x) (h' : Bin y) : Bin (x ++ y) := fun ch hc => by
  rw [str_append_list] at hc
  rcases List.mem_append.mp hc with q | q
  · exact h ch q
  · exact h' ch q
/-- what a book of any kind is: names of the draw, codes of 1 to n signs -/
structure BookOk (n : Nat) (bk : List (Str × Str)) : Prop where
  ne : bk ≠ []
  le : bk.length ≤ 60
  nm : ∀ q ∈ bk, Low q.1
  cd : ∀ q ∈ bk, CodeOk n q.2
/-- names that were drawn in one go -/
def Drawn (bk : List (Str × Str)) : Prop := ∃ g : Int, 0 ≤ g ∧ g < 26 ∧ ∀ (i : Nat) q, bk[i]? = some q → NameAt g i q.1
theorem snoc {cs : List Str} {i : Nat} {x : Str} (h : ∀ (j : Nat) y, cs[j]? = some y → CodeOk (5 + 2 * j) y) (hl : cs.length = i) (hx : CodeOk (5 + 2 * i) x) : ∀ (j : Nat) y, (cs ++ [x])[j]? = some y → CodeOk (5 + 2 * j) y := fun j y hy => by
  by_cases hj : j < cs.length
  · rw [List.getElem?_append_left hj] at hy
    exact h j y hy
  · rw [List.getElem?_append_right (by omega)] at hy
    have hj0 : j - cs.length = 0 := by
      have := (List.getElem?_eq_some_iff.mp hy).1
      simp at this
      omega
    rw [hj0] at hy
    cases hy
    exact hx.mono (by omega)
end Z

set_option Elab.async false
set_option linter.all false
set_option maxRecDepth 100000
set_option maxHeartbeats 4000000
namespace Z
open PySem L2
abbrev sSigns : Str := "01"
abbrev sSmall : Str := "abcdefghijklmnopqrstuvwxyz"
/-- no signs but these -/
def madeOf (x y : Str) : Bool := decide (V.str (Txt.stripChars x y) = V.str (Str.ofString ""))
def isNameD : PyData → Bool
  | .str x => decide ((1 : Int) ≤ (x.length : Nat)) && (decide (((x.length : Nat) : Int) ≤ 8) && madeOf x sSmall)
  | _ => false
def isCodeD : PyData → Bool
  | .str x => !decide (V.str x = V.str (Str.ofString "")) && madeOf x sSigns
  | _ => false
def isEntryD : PyData → Bool
  | .tuple [a, b] => isNameD a && isCodeD b
  | _ => false
/-- the name of an entry -/
def nameD : PyData → Str
  | .tuple (.str x :: _) => x
  | _ => Str.empty
def isBookD : PyData → Bool
  | .list ds => !ds.isEmpty && (ds.all isEntryD && decide ((metKeys (fun i => (ds.map nameD).getD i Str.empty) ds.length).length = ds.length))
  | _ => false
def spIsBook (K : PySem.W.Frag) : Sp := fun vs H Q _ => ∃ (v : V) (d : PyData), vs = [v] ∧ Den K H d v ∧ d.weight ≤ 40000 ∧ SeqAt.shaped d = true ∧ (∀ ds, d = .list ds → ds.length ≤ 4000) ∧ ∀ H', Same H H' → Q (.bl (isBookD d)) H'
def spMade : Sp := fun vs H Q _ => ∃ x y : Str, vs = [.str x, .str y] ∧ x.length ≤ 1000000 ∧ Q (.bl (madeOf x y)) H
/-- a question about data that is answered by the data alone; its texts are no longer than n -/
def spAsk (K : PySem.W.Frag) (f : PyData → Bool) : Sp := fun vs H Q _ => ∃ (v : V) (d : PyData), vs = [v] ∧ Den K H d v ∧ d.weight ≤ 1000000 ∧ ∀ H', Same H H' → Q (.bl (f d)) H'
section
variable {P : Program} {w : World} {K : PySem.W.Frag} {mg : Str → Option Value} {base : Heap} {f : Addr} {fd : FuncData} {t1 t2 t3 : Tok}
theorem sc_made_of : FnScope ["text", "signs"] ["text", "signs"] (defScope (top i_made_of)) := ⟨rfl, rfl, rfl, by decide +kernel, rfl, by decide +kernel, by decide +kernel⟩
theorem ok_made (F : Fun K "made_of" "made_of" (top i_made_of) f fd) (T : Nm mg) : FnOk P w K mg base CX0 1 f fd ["text", "signs"] spMade := by
  refine F.ok sc_made_of (fun vs H Q E h => ?_) (fun cdv A outer s H vs Q E hr h => ?_)
  · obtain ⟨x, y, rfl, _⟩ := h
    rfl
  obtain ⟨x, y, rfl, hx, q⟩ := h
  have hu6 := hr.units
  refine ⟨_, (pss_one (ps_ret (pe_cmpR (eqK K hu6) (bmK K PySem.F.plainAttrs_str PySem.F.slot_str_strip PySem.F.type_str_strip mt_strip1 (pv 0) (pa_cons (pv 1) pa_nil)) pe_str (nomark _)))), ?_⟩
  exact ⟨_, rfl, rfl, _, rfl, x, y, rfl, rfl, sizeOk (Nat.le_trans hx (by decide)), .inl ⟨rfl, q⟩⟩
theorem sc_is_name : FnScope ["thing"] ["thing"] (defScope (top i_is_name)) := ⟨rfl, rfl, rfl, by decide +kernel, rfl, by decide +kernel, by decide +kernel⟩
theorem ok_isname (F : Fun K "is_name" "is_name" (top i_is_name) f fd) (T : Nm mg) (v_LONGEST_NAME : mg "LONGEST_NAME" = some (.int 8 t1)) (v_SMALL_LETTERS : mg "SMALL_LETTERS" = some (.str sSmall t2)) (f_made_of : Fn P w K mg base 1 "made_of" ["text", "signs"] spMade) : FnOk P w K mg base CX0 2 f fd ["thing"] (spAsk K isNameD) := by
  refine F.ok sc_is_name (fun vs H Q E h => ?_) (fun cdv A outer s H vs Q E hr h => ?_)
  · obtain ⟨v, d, rfl, _⟩ := h
    rfl
  obtain ⟨v, d, rfl, hd, hw, q⟩ := h
  have hu6 := hr.units
  have hq := q H (Same.refl _)
  refine ⟨_, (pss_one (ps_ret (pe_and (pe_callB (isiK K) rfl T.n_isinstance (by rfl) (pa_cons (pv 0) (pa_cons (pe_bltn rfl T.n_str (by rfl) (v := .ty "str") rfl) pa_nil))) (pe_and (pe_chain op_le op_le pe_int (pe_callB (lenK K) rfl T.n_len (by rfl) (pa_cons (pv 0) pa_nil)) (pe_gint rfl v_LONGEST_NAME)) (pe_one (pe_fn (f_made_of.mono (by first | decide | exact Nat.le_refl _)) hr rfl (pa_cons (pv 0) (pa_cons (pe_gstr rfl v_SMALL_LETTERS) pa_nil)))))))), ?_⟩
  refine ⟨_, rfl, .inl ⟨_, "str", d, _, rfl, hd, (kitT K d).2.2.1, _, rfl, ?_⟩⟩
  cases d with
  | str x =>
    have e := hd
    unfold Den at e
    subst e
    have hxl : x.length ≤ 1000000 := hw
    refine iteT ⟨_, rfl, _, _, rfl, ⟨sizeOk (Nat.le_trans hxl (by decide)), rfl⟩, _, _, rfl, rfl, _, rfl, ?_⟩
    have hq : Q (.bl (decide ((1 : Int) ≤ (x.length : Nat)) && (decide (((x.length : Nat) : Int) ≤ 8) && madeOf x sSmall))) H := hq
    refine ite2 (fun c1 => ?_) (fun c1 => ?_)
    · rw [c1, Bool.true_and] at hq
      refine ⟨_, _, rfl, rfl, _, rfl, ite2 (fun c2 => ?_) (fun c2 => ?_)⟩
      · rw [c2, Bool.true_and] at hq
        exact ⟨_, rfl, x, _, rfl, hxl, hq⟩
      · rw [Bool.eq_false_iff.mpr c2, Bool.false_and] at hq
        exact hq
    · rw [Bool.eq_false_iff.mpr c1, Bool.false_and] at hq
      exact ⟨_, rfl, iteF hq⟩
  | _ => exact iteF hq
theorem sc_is_code : FnScope ["thing"] ["thing"] (defScope (top i_is_code)) := ⟨rfl, rfl, rfl, by decide +kernel, rfl, by decide +kernel, by decide +kernel⟩
theorem ok_iscode (F : Fun K "is_code" "is_code" (top i_is_code) f fd) (T : Nm mg) (v_SIGNS : mg "SIGNS" = some (.str sSigns t3)) (f_made_of : Fn P w K mg base 1 "made_of" ["text", "signs"] spMade) : FnOk P w K mg base CX0 2 f fd ["thing"] (spAsk K isCodeD) := by
  refine F.ok sc_is_code (fun vs H Q E h => ?_) (fun cdv A outer s H vs Q E hr h => ?_)
  · obtain ⟨v, d, rfl, _⟩ := h
    rfl
  obtain ⟨v, d, rfl, hd, hw, q⟩ := h
  have hu6 := hr.units
  have hq := q H (Same.refl _)
  refine ⟨_, (pss_one (ps_ret (pe_and (pe_callB (isiK K) rfl T.n_isinstance (by rfl) (pa_cons (pv 0) (pa_cons (pe_bltn rfl T.n_str (by rfl) (v := .ty "str") rfl) pa_nil))) (pe_and (pe_cmpR (neK K hu6) (pv 0) pe_str (nomark _)) (pe_one (pe_fn (f_made_of.mono (by first | decide | exact Nat.le_refl _)) hr rfl (pa_cons (pv 0) (pa_cons (pe_gstr rfl v_SIGNS) pa_nil)))))))), ?_⟩
  refine ⟨_, rfl, .inl ⟨_, "str", d, _, rfl, hd, (kitT K d).2.2.1, _, rfl, ?_⟩⟩
  cases d with
  | str x =>
    have e := hd
    unfold Den at e
    subst e
    have hxl : x.length ≤ 1000000 := hw
    have hq : Q (.bl (!decide (V.str x = V.str (Str.ofString "")) && madeOf x sSigns)) H := hq
    refine iteT ⟨_, rfl, .inl ⟨rfl, _, rfl, ite2 (fun c1 => ?_) (fun c1 => ?_)⟩⟩
    · rw [c1, Bool.true_and] at hq
      exact ⟨_, rfl, x, _, rfl, hxl, hq⟩
    · rw [Bool.eq_false_iff.mpr c1, Bool.false_and] at hq
      exact hq
  | _ => exact iteF hq
theorem sc_is_entry : FnScope ["thing"] ["thing"] (defScope (top i_is_entry)) := ⟨rfl, rfl, rfl, by decide +kernel, rfl, by decide +kernel, by decide +kernel⟩
theorem ok_isentry (F : Fun K "is_entry" "is_entry" (top i_is_entry) f fd) (T : Nm mg) (f_is_name : Fn P w K mg base 2 "is_name" ["thing"] (spAsk K isNameD)) (f_is_code : Fn P w K mg base 2 "is_code" ["thing"] (spAsk K isCodeD)) : FnOk P w K mg base CX0 3 f fd ["thing"] (spAsk K isEntryD) := by
  refine F.ok sc_is_entry (fun vs H Q E h => ?_) (fun cdv A outer s H vs Q E hr h => ?_)
  · obtain ⟨v, d, rfl, _⟩ := h
    rfl
  obtain ⟨v, d, rfl, hd, hw, q⟩ := h
  have hu6 := hr.units
  refine ⟨_, (pss_one (ps_ret (pe_and (pe_callB (isiK K) rfl T.n_isinstance (by rfl) (pa_cons (pv 0) (pa_cons (pe_bltn rfl T.n_tuple (by rfl) (v := .ty "tuple") rfl) pa_nil))) (pe_and (pe_cmpR (eqK K hu6) (pe_callB (lenK K) rfl T.n_len (by rfl) (pa_cons (pv 0) pa_nil)) pe_int (nomark _)) (pe_and (pe_fn (f_is_name.mono (by first | decide | exact Nat.le_refl _)) hr rfl (pa_cons (pe_ix (ixK K) (pv 0) pe_int (fun _ _ => rfl)) pa_nil)) (pe_one (pe_fn (f_is_code.mono (by first | decide | exact Nat.le_refl _)) hr rfl (pa_cons (pe_ix (ixK K) (pv 0) pe_int (fun _ _ => rfl)) pa_nil)))))))), ?_⟩
  refine ⟨_, rfl, .inl ⟨_, "tuple", d, _, rfl, hd, (kitT K d).2.2.2.2, _, rfl, ?_⟩⟩
  cases d with
  | tuple ds =>
    have e := hd
    unfold Den at e
    obtain ⟨a, us, rfl, hT, hds⟩ := e
    have hl := hds.len
    refine iteT ⟨_, rfl, _, _, rfl, .inr ⟨_, hT, rfl⟩, .inl ⟨rfl, _, rfl, ite2 (fun c1 => ?_) (fun c1 => ?_)⟩⟩
    · have c1 : V.int ((us.length : Nat) : Int) = V.int 2 := of_decide_eq_true c1
      have c1 : us.length = 2 := by injection c1 with c1; omega
      rw [hl] at c1
      match ds, c1, hds, hw, q with
      | [d1, d2], _, hds, hw, q =>
        unfold Dens at hds
        obtain ⟨v1, r1, rfl, h1, hds⟩ := hds
        unfold Dens at hds
        obtain ⟨v2, r2, rfl, h2, hds⟩ := hds
        unfold Dens at hds
        subst hds
        have hw : PyData.weight d1 + 1 + (PyData.weight d2 + 1 + 0) ≤ 1000000 := by simpa only [PyData.weight, PyData.weightAll] using hw
        have q : ∀ H', Same H H' → Q (.bl (isNameD d1 && isCodeD d2)) H' := q
        refine ⟨_, rfl, .inr (.inl ⟨a, _, 0, _, rfl, rfl, hT, rfl, v1, d1, rfl, h1, by omega, fun H1 sm1 => ⟨_, rfl, ite2 (fun c2 => ?_) (fun c2 => ?_)⟩⟩)⟩
        · refine ⟨_, rfl, .inr (.inl ⟨a, _, 1, _, rfl, rfl, sm1.seqT hT, rfl, v2, d2, rfl, h2.same sm1, by omega, fun H2 sm2 => ?_⟩)⟩
          have z := q H2 (sm1.trans sm2)
          rw [c2, Bool.true_and] at z
          exact z
        · have z := q H1 sm1
          rw [Bool.eq_false_iff.mpr c2, Bool.false_and] at z
          exact z
    · have c1 : ¬ (V.int ((us.length : Nat) : Int) = V.int 2) := of_decide_eq_false (Bool.eq_false_iff.mpr c1)
      have z := q H (Same.refl _)
      have e : isEntryD (.tuple ds) = false := by
        match ds, hl with
        | [], _ => rfl
        | [_], _ => rfl
        | [_, _], hl => exact absurd (by rw [hl]; rfl) c1
        | _ :: _ :: _ :: _, _ => rfl
      rw [e] at z
      exact z
  | _ => exact iteF (q H (Same.refl _))
theorem name_str {d : PyData} (h : isNameD d = true) : ∃ x, d = .str x := by
  cases d <;> first | exact ⟨_, rfl⟩ | (simp [isNameD] at h)
theorem code_str {d : PyData} (h : isCodeD d = true) : ∃ x, d = .str x := by
  cases d <;> first | exact ⟨_, rfl⟩ | (simp [isCodeD] at h)
theorem entry_of {d : PyData} (h : isEntryD d = true) : ∃ x y : Str, d = .tuple [.str x, .str y] := by
  cases d with
  | tuple ds =>
    match ds, h with
    | [], h => simp [isEntryD] at h
    | [_], h => simp [isEntryD] at h
    | [a, b], h =>
      have h : (isNameD a && isCodeD b) = true := h
      rw [Bool.and_eq_true] at h
      obtain ⟨x, rfl⟩ := name_str h.1
      obtain ⟨y, rfl⟩ := code_str h.2
      exact ⟨x, y, rfl⟩
    | _ :: _ :: _ :: _, h => simp [isEntryD] at h
  | _ => simp [isEntryD] at h
theorem eqv_nil (ds : List PyData) : PyData.eqv (.list ds) (.list []) = ds.isEmpty := by
  cases ds <;> simp [PyData.eqv, PyData.eqvAll]
theorem sc_is_book : FnScope ["thing"] ["thing"] (defScope (top i_is_book)) := ⟨rfl, rfl, rfl, by decide +kernel, rfl, by decide +kernel, by decide +kernel⟩
theorem ok_isbook (F : Fun K "is_book" "is_book" (top i_is_book) f fd) (T : Nm mg) (f_is_entry : Fn P w K mg base 3 "is_entry" ["thing"] (spAsk K isEntryD)) : FnOk P w K mg base CX0 4 f fd ["thing"] (spIsBook K) := by
  refine F.ok sc_is_book (fun vs H Q E h => ?_) (fun cdv A outer s H vs Q E hr h => ?_)
  · obtain ⟨v, d, rfl, _⟩ := h
    rfl
  obtain ⟨v, d, rfl, hd, hw, hsh, hfew, q⟩ := h
  have hu6 := hr.units
  refine ⟨_, (pss_cons (ps_if (PW.pt (pw_or (pt_not (pt_val (pe_callB (isiK K) rfl T.n_isinstance (by rfl) (pa_cons (pv 0) (pa_cons (pe_bltn rfl T.n_list (by rfl) (v := .ty "list") rfl) pa_nil))))) (pw_or1 (pt_cmpR (eqK K hu6) (pv 0) (lstN pa_nil) (nomark _))))) (pss_one (ps_ret pe_bl)) pss_nil)
    (pss_cons (ps_if (pt_not (pt_val (pe_callB (call_all_bl rfl) rfl T.n_all (by rfl) (pa_cons (pe_lcomp rfl (comp_ok (Nc := ["part"]) (Fc := []) (js := [])) (piK K (pv 0)) (gk_name (i := 0) (n := 1) (by decide)) (fun _ _ _ _ _ => (pg_name (i := 0) (show (["part"] : List Str).Nodup by decide +kernel) rfl (Or.inl rfl))) (fun _ _ _ _ _ => pts_nil) (fun _ _ _ _ _ => (pe_fn (f_is_entry.mono (by first | decide | exact Nat.le_refl _)) hr rfl (pa_cons (pv 0) pa_nil)))) pa_nil)))) (pss_one (ps_ret pe_bl)) pss_nil)
    (pss_one (ps_ret (pe_cmpR (eqK K hu6) (pe_callB (call_lenK (strV P w)) rfl T.n_len (by rfl) (pa_cons (pe_scomp (strV P w) rfl (comp_ok (Nc := ["name", "code"]) (Fc := []) (js := [])) (piK K (pv 0)) (gk_tup (gks_cons (gk_name (i := 0) (n := 2) (by decide)) (gks_cons (gk_name (i := 1) (n := 2) (by decide)) gks_nil gm_name gms_nil) gm_name (gms_cons gm_name gms_nil))) (fun _ _ _ _ _ => (tupK K 2 rfl (pgs_cons (pg_name (i := 0) (show (["name", "code"] : List Str).Nodup by decide +kernel) rfl (Or.inl rfl)) (pgs_cons (pg_name (i := 1) (show (["name", "code"] : List Str).Nodup by decide +kernel) rfl (Or.inl rfl)) pgs_nil)))) (fun _ _ _ _ _ => pts_nil) (fun _ _ _ _ _ => (pv 0))) pa_nil)) (pe_callB (lenK K) rfl T.n_len (by rfl) (pa_cons (pv 0) pa_nil)) (nomark _)))))), ?_⟩
  refine ⟨_, rfl, .inl ⟨_, "list", d, _, rfl, hd, (kitT K d).2.2.2.1, _, rfl, ?_⟩⟩
  cases d with
  | list ds =>
    have e := hd
    unfold Den at e
    obtain ⟨a, us, rfl, hS, hds⟩ := e
    have hl := hds.len
    have hfew := hfew ds rfl
    have hwt : PyData.weightAll ds ≤ 40000 := by simpa only [PyData.weight] using hw
    refine iteF ⟨_, rfl, by show 0 ≤ sizeLine; decide, fun pe H1 n1 => ?_⟩
    have den0 : Den K H1 (.list []) (.ref pe) := Den.list (SqL.of n1.at) (Den.strs [])
    refine .inr ⟨_, _, hd.same n1.same, den0, hsh, by decide +kernel, _, rfl, ?_⟩
    rw [eqv_nil]
    cases hem : ds.isEmpty with
    | true =>
      have z := q H1 n1.same
      have e : isBookD (.list ds) = false := by simp [isBookD, hem]
      rw [e] at z
      exact iteT z
    | false =>
      refine iteF ?_
      have hS1 := n1.same.seq hS
      have hds1 := hds.same n1.same
      have lw := len_weight ds
      refine ⟨_, rfl, a, rfl, ⟨_, hS1⟩, ?_⟩
      refine comp_go (N := ds.length) (fun i ys H' => Same H1 H' ∧ ys = ((ds.take i).map isEntryD).map V.bl) ⟨Same.refl _, rfl⟩ ?_ ?_
      · rintro i ys H2 Nx hi ⟨sm2, rfl⟩ nx
        obtain ⟨x, hx, dx⟩ := hds1.get (i := i) (List.getElem?_eq_getElem hi)
        refine ⟨⟨_, _, sm2.seq hS1, hx⟩, Nat.lt_of_le_of_lt (show _ ≤ 40000 by rw [List.length_map, List.length_map, List.length_take]; omega) (by decide), ?_⟩
        rintro x' H3 ⟨rfl, hy⟩
        have e := hy _ (sm2.seq hS1)
        rw [hx] at e; cases e
        refine gn ⟨_, rfl, _, _, rfl, dx.same sm2, Nat.le_trans (weight_at (n := 40000) hwt (List.getElem_mem hi)) (by decide), fun H4 sm4 => nx _ _ ⟨sm2.trans sm4, ?_⟩⟩
        rw [List.take_succ_eq_append_getElem hi, List.map_append, List.map_append]
        rfl
      · rintro ys H2 ⟨sm2, rfl⟩
        refine ⟨⟨_, sm2.seq hS1, by rw [hl]; exact Nat.le_refl _⟩, fun p hp => ?_⟩
        rw [List.take_length]
        refine ⟨p, _, rfl, SqL.of upd_same, _, rfl, ?_⟩
        have smp : Same H1 (upd H2 p (.lst ((ds.map isEntryD).map V.bl))) := sm2.trans (same_new hp _)
        have eall : (ds.map isEntryD).any id = ds.any isEntryD := by rw [List.any_map]; rfl
        have eall : (ds.map isEntryD).all id = ds.all isEntryD := by rw [List.all_map]; rfl
        rw [eall]
        cases hall : ds.all isEntryD with
        | false =>
          have z := q _ (n1.same.trans smp)
          have e : isBookD (.list ds) = false := by simp [isBookD, hem, hall]
          rw [e] at z
          exact iteT z
        | true =>
          refine iteF ?_
          generalize upd H2 p (.lst ((ds.map isEntryD).map V.bl)) = H3 at smp
          have ent : ∀ i (hi : i < ds.length), ∃ x y : Str, ds[i] = .tuple [.str x, .str y] := fun i hi => entry_of (List.all_eq_true.mp hall _ (List.getElem_mem hi))
          refine ⟨_, rfl, a, rfl, ⟨_, smp.seq hS1⟩, fun D hD => ?_⟩
          refine scomp_go (N := ds.length) (fun i H' => H' D = some (setK (strV P w) D (metKeys (fun i => (ds.map nameD).getD i Str.empty) i)) ∧ ∀ a u, a ≠ D → H3 a = some u → H' a = some u) ⟨upd_same, fun a u h e => by rw [upd_ne h]; exact e⟩ ?_ ?_
          · rintro i H4 Nx hi ⟨hD4, kp⟩ nx
            obtain ⟨x, hx, dx⟩ := (hds1.same smp).get (i := i) (List.getElem?_eq_getElem hi)
            obtain ⟨nm, cd, ed⟩ := ent i hi
            rw [ed] at dx
            obtain ⟨pa, rfl, hT⟩ := dx.pair
            have sm4 : Same H3 H4 := fun a u e => kp a u (ne_of_none e hD) e
            refine ⟨⟨_, _, sm4.seq (smp.seq hS1), hx⟩, ?_⟩
            rintro x' H5 ⟨rfl, hy⟩
            have e := hy _ (sm4.seq (smp.seq hS1))
            rw [hx] at e; cases e
            have enm : (ds.map nameD).getD i Str.empty = nm := by
              rw [show (ds.map nameD).getD i Str.empty = ((ds.map nameD)[i]?).getD Str.empty from rfl, List.getElem?_map, List.getElem?_eq_getElem hi, ed]
              rfl
            have ml := metKeys_le (fun i => (ds.map nameD).getD i Str.empty) i
            refine ⟨pa, _, rfl, sm4.seqT hT, rfl, _, _, rfl, _, _, rfl, rfl, _, rfl, _, nm, hD4, rfl, by omega, nx _ ⟨?_, fun a u h e => ?_⟩⟩
            · rw [upd_same]
              show _ = some (setK (strV P w) D (oneMore (metKeys (fun i => (ds.map nameD).getD i Str.empty) i) ((ds.map nameD).getD i Str.empty)))
              rw [enm]
              rfl
            · rw [upd_ne h]
              exact kp a u h e
          · rintro H4 ⟨hD4, kp⟩
            have sm4 : Same H3 H4 := fun a u e => kp a u (ne_of_none e hD) e
            refine ⟨⟨_, sm4.seq (smp.seq hS1), by rw [hl]; exact Nat.le_refl _⟩, ?_⟩
            refine ⟨D, _, rfl, hD4, _, rfl, _, _, rfl, .inl ⟨_, sm4.seq (smp.seq hS1), rfl⟩, .inl ⟨rfl, ?_⟩⟩
            have z := q H4 (n1.same.trans (smp.trans sm4))
            have e : isBookD (.list ds) = decide (V.int ((metKeys (fun i => (ds.map nameD).getD i Str.empty) ds.length).length : Nat) = V.int (us.length : Nat)) := by
              show (!ds.isEmpty && (ds.all isEntryD && decide ((metKeys (fun i => (ds.map nameD).getD i Str.empty) ds.length).length = ds.length))) = _
              rw [hem, hall, Bool.not_false, Bool.true_and, Bool.true_and, Bool.eq_iff_iff, decide_eq_true_iff, decide_eq_true_iff, hl]
              constructor
              · intro z; rw [z]
              · intro z; injection z with z; omega
            rw [e] at z
            exact z
  | _ => exact iteT (q H (Same.refl _))
end
end Z

set_option Elab.async false
set_option linter.all false
set_option maxRecDepth 100000
set_option maxHeartbeats 4000000
namespace Z
open PySem L2
def spAny (K : PySem.W.Frag) : Sp := fun vs H Q _ => ∃ (b c : Addr) (t : Int), vs = [.ref b] ∧ Bx H b c t ∧ 0 ≤ t ∧ t < 900000 ∧
  ∀ (bk : List (Str × Str)) (v : V) (H' : Hp) (t' : Int), BookOk 24 bk → bk.length ≤ 10 → Drawn bk → BookAt K (hid H' b c) bk v → Step b c H H' t t' 2000 → Q v H'
theorem ne_nil_eq (cs : List Str) : (!PyData.eqv (.list (cs.map PyData.str)) (.list [])) = !cs.isEmpty := by
  cases cs <;> simp [PyData.eqv, PyData.eqvAll]
section
variable {P : Program} {w : World} {K : PySem.W.Frag} {mg : Str → Option Value} {base : Heap} {f : Addr} {fd : FuncData}
theorem sc_law_any_book : FnScope ["_law_box", "_law_names_here", "_law_codes", "_law_name", "_law_way"] ["_law_box"] (defScope (top i_law_any_book)) := ⟨rfl, rfl, rfl, by decide +kernel, rfl, by decide +kernel, by decide +kernel⟩
theorem ok_any (F : Fun K "_law_any_book" "_law_any_book" (top i_law_any_book) f fd) (T : Nm mg) (f_law_take : Fn P w K mg base 1 "_law_take" ["_law_box", "_law_many"] spTk) (f_law_signs : Fn P w K mg base 2 "_law_signs" ["_law_box", "_law_many"] spSg) (f_law_names : Fn P w K mg base 2 "_law_names" ["_law_box", "_law_many"] spNames) : FnOk P w K mg base CX0 3 f fd ["_law_box"] (spAny K) := by
  refine F.ok sc_law_any_book (fun vs H Q E h => ?_) (fun cdv A outer s H vs Q E hr h => ?_)
  · obtain ⟨b, c, t, rfl, _⟩ := h
    rfl
  obtain ⟨b, c, t, rfl, bx, t0, t1, q⟩ := h
  have hu6 := hr.units
  refine ⟨_, (pss_cons (ps_set (i := 1) sc_law_any_book.nd rfl (Or.inl rfl) (pe_fn (f_law_names.mono (by first | decide | exact Nat.le_refl _)) hr rfl (pa_cons (pv 0) (pa_cons (pe_op addN pe_int (pe_fn (f_law_take.mono (by first | decide | exact Nat.le_refl _)) hr rfl (pa_cons (pv 0) (pa_cons pe_int pa_nil)))) pa_nil))))
    (pss_cons (ps_set (i := 2) sc_law_any_book.nd rfl (Or.inl rfl) (lstN pa_nil))
    (pss_cons (ps_for PassesOwn.never rfl (piK K (pv 1)) (pg_name (i := 3) sc_law_any_book.nd rfl (Or.inl rfl)) (pss_cons (ps_set (i := 4) sc_law_any_book.nd rfl (Or.inl rfl) (pe_fn (f_law_take.mono (by first | decide | exact Nat.le_refl _)) hr rfl (pa_cons (pv 0) (pa_cons pe_int pa_nil))))
    (pss_one (ps_if (PW.pt (pw_and (pt_cmpR (neK K hu6) (pv 2) (lstN pa_nil) (nomark _)) (pw_and1 (pt_cmpR (eqK K hu6) (pv 4) pe_int (nomark _))))) (pss_one (ps_expr (bmK K PySem.F.plainAttrs_list PySem.F.slot_list_append PySem.F.type_list_append appendN (pv 2) (pa_cons (pe_ix (ixK K) (pv 2) (pe_fn (f_law_take.mono (by first | decide | exact Nat.le_refl _)) hr rfl (pa_cons (pv 0) (pa_cons (pe_callB (lenK K) rfl T.n_len (by rfl) (pa_cons (pv 2) pa_nil)) pa_nil))) (fun _ _ => rfl)) pa_nil)))) (pss_one (ps_if (PW.pt (pw_and (pt_cmpR (neK K hu6) (pv 2) (lstN pa_nil) (nomark _)) (pw_and1 (pt_cmpR (eqK K hu6) (pv 4) pe_int (nomark _))))) (pss_one (ps_expr (bmK K PySem.F.plainAttrs_list PySem.F.slot_list_append PySem.F.type_list_append appendN (pv 2) (pa_cons (pe_op addN (pe_ix (ixK K) (pv 2) (pe_fn (f_law_take.mono (by first | decide | exact Nat.le_refl _)) hr rfl (pa_cons (pv 0) (pa_cons (pe_callB (lenK K) rfl T.n_len (by rfl) (pa_cons (pv 2) pa_nil)) pa_nil))) (fun _ _ => rfl)) (pe_fn (f_law_signs.mono (by first | decide | exact Nat.le_refl _)) hr rfl (pa_cons (pv 0) (pa_cons (pe_op addN pe_int (pe_fn (f_law_take.mono (by first | decide | exact Nat.le_refl _)) hr rfl (pa_cons (pv 0) (pa_cons pe_int pa_nil)))) pa_nil)))) pa_nil)))) (pss_one (ps_expr (bmK K PySem.F.plainAttrs_list PySem.F.slot_list_append PySem.F.type_list_append appendN (pv 2) (pa_cons (pe_fn (f_law_signs.mono (by first | decide | exact Nat.le_refl _)) hr rfl (pa_cons (pv 0) (pa_cons (pe_op addN pe_int (pe_fn (f_law_take.mono (by first | decide | exact Nat.le_refl _)) hr rfl (pa_cons (pv 0) (pa_cons pe_int pa_nil)))) pa_nil))) pa_nil))))))))))
    (pss_one (ps_ret (pe_listzip rfl rfl T.n_list rfl T.n_zip (pa_cons (pv 1) (pa_cons (pv 2) pa_nil)))))))), ?_⟩
  refine ⟨_, rfl, _, rfl, b, c, t, 10, rfl, bx, t0, by omega, by decide, by decide, fun r H1 r0 r1 st1 => ?_⟩
  refine .inl ⟨_, _, rfl, rfl, b, c, t + 1, 1 + r, rfl, st1.bx, by omega, by omega, by omega, by omega, fun xs l H2 t2 g hlen g0 g1 hx st2 hl1 hl2 => ?_⟩
  obtain ⟨lb, lc⟩ := st1.bx.ne_new hl1
  have st2 := st1.trans st2
  refine ⟨by show 0 ≤ sizeLine; decide, fun m H3 n3 => ?_⟩
  have hm : H m = none := st2.fresh bx n3.nn
  obtain ⟨mb, mc⟩ := st2.bx.ne_new n3.nn
  have st3 := st2.newN n3
  have hl3 := n3.same _ _ hl2
  have hml : m ≠ l := Ne.symm (ne_of_none hl2 n3.nn)
  refine ⟨_, rfl, l, rfl, ⟨_, SqL.of hl3⟩, ?_⟩
  refine for_list (K := K) (a := l) (xs := xs.map V.str) (fun i σ H' => ∃ cs t' x3 x4, σ = [some (.ref b), some (.ref l), some (.ref m), x3, x4] ∧ cs.length = i ∧ (∀ (j : Nat) x, cs[j]? = some x → CodeOk (5 + 2 * j) x) ∧
    Step b c H H' t t' (1001 + 20 * i) ∧ H' m = some (.lst (cs.map V.str)) ∧ H' l = some (.lst (xs.map V.str))) ⟨[], _, _, _, rfl, rfl, by simp, by simpa using st3, n3.at, hl3⟩ (fun i σ H' _ ⟨_, _, _, _, _, _, _, _, _, h⟩ => SqL.of h) ?_ ?_
  · rintro i y σ H4 hi ⟨cs, t4, x3, x4, rfl, hcl, hc, st4, hm4, hl4⟩
    have hi' : i < 10 := by
      have := (List.getElem?_eq_some_iff.mp hi).1
      rw [List.length_map] at this
      omega
    have hub := st4.ub
    have hlo := st4.le
    refine ⟨_, rfl, b, c, t4, 6, rfl, st4.bx, by omega, by omega, by decide, by decide, fun way H5 w0 w1 st5 => ?_⟩
    have hm5 := st5.old hm4 mb mc
    have hl5 := st5.old hl4 lb lc
    have st5 := st4.trans st5
    have dn : ∀ (H' : Hp), H' m = some (.lst (cs.map V.str)) → Den K H' (.list (cs.map PyData.str)) (.ref m) := fun H' h => Den.list (SqL.of h) (Den.strs cs)
    have dz : ∀ (H' : Hp) (p : Addr), H' p = some (.lst []) → Den K H' (.list []) (.ref p) := fun H' p h => Den.list (SqL.of h) (by unfold Dens; rfl)
    have sh : SeqAt.shaped (.list (cs.map PyData.str)) = true := (Sh.list (n := 0) fun d hd => by
      obtain ⟨x, hx, rfl⟩ := List.mem_map.mp hd
      obtain ⟨j, hj⟩ := List.mem_iff_getElem?.mp hx
      exact Sh.str (canLay_small fun ch h => by rcases (hc j x hj).bin ch h with e | e <;> omega)).shaped (by decide)
    have sz : SeqAt.shaped (.list []) = true := (Sh.list (n := 0) fun d hd => by simp at hd).shaped (by decide)
    refine ⟨_, rfl, by show 0 ≤ sizeLine; decide, fun p H6 n6 => .inr ⟨_, _, dn _ (n6.same _ _ hm5), dz _ _ n6.at, sh, sz, _, rfl, ?_⟩⟩
    rw [ne_nil_eq]
    by_cases hcs : cs = []
    · have e : (!cs.isEmpty) = false := by rw [hcs]; rfl
      rw [e]
      refine iteF (iteF ?_)
      refine ⟨_, rfl, by show 0 ≤ sizeLine; decide, fun p2 H7 n7 => .inr ⟨_, _, dn _ (n7.same _ _ (n6.same _ _ hm5)), dz _ _ n7.at, sh, sz, _, rfl, ?_⟩⟩
      rw [ne_nil_eq, e]
      refine iteF (iteF ?_)
      have st7 := (st5.newN n6).newN n7
      have hm7 := n7.same _ _ (n6.same _ _ hm5)
      have hl7 := n7.same _ _ (n6.same _ _ hl5)
      clear n7 n6
      have hub7 := st7.ub
      have hlo7 := st7.le
      refine ⟨_, rfl, .inl ⟨rfl, _, SqL.of hm7⟩, _, rfl, _, rfl, b, c, _, 5, rfl, st7.bx, by omega, by omega, by decide, by decide, fun k H8 k0 k1 st8 => ?_⟩
      refine .inl ⟨_, _, rfl, rfl, b, c, _, 1 + k, rfl, st8.bx, by omega, by omega, by omega, by omega, fun x H9 t9 hxl hxb st9 => ?_⟩
      have st89 := st8.trans st9
      refine ⟨m, _, _, rfl, rfl, st89.old hm7 mb mc, by rw [List.length_map, hcl]; exact Nat.lt_of_lt_of_le (show i < 1000 by omega) (by decide), fun H10 c10 => ?_⟩
      refine ⟨cs ++ [x], t9, _, _, rfl, by rw [List.length_append, hcl]; rfl, snoc hc hcl ⟨hxb, by omega, by omega⟩, ((st7.trans st89).chgN c10 hm mb mc).more (by omega), by rw [c10.at, List.map_append]; rfl, ?_⟩
      rw [c10.ne (Ne.symm hml)]
      exact st89.old hl7 lb lc
    · have e : (!cs.isEmpty) = true := by cases cs with
        | nil => exact absurd rfl hcs
        | cons _ _ => rfl
      have hpos : 0 < cs.length := List.length_pos_iff.mpr hcs
      rw [e]
      refine iteT ⟨_, rfl, .inl ⟨rfl, _, rfl, ite2 (fun c0 => ?_) (fun c0 => ?_)⟩⟩
      · have st6 := st5.newN n6
        have hm6 := n6.same _ _ hm5
        have hl6 := n6.same _ _ hl5
        have hub6 := st6.ub
        have hlo6 := st6.le
        refine ⟨_, rfl, .inl ⟨rfl, _, SqL.of hm6⟩, _, rfl, _, rfl, _, rfl, _, _, rfl, .inl ⟨_, SqL.of hm6, rfl⟩, b, c, _, _, rfl, st6.bx, by omega, by omega, by rw [List.length_map]; omega, by rw [List.length_map]; omega, fun k H8 k0 k1 st8 => ?_⟩
        rw [List.length_map] at k1
        obtain ⟨y0, hk⟩ : ∃ y0, cs[k.toNat]? = some y0 := ⟨_, List.getElem?_eq_getElem (by omega)⟩
        refine .inl ⟨m, _, k, .str y0, rfl, rfl, SqL.of (st8.old hm6 mb mc), at_nat k0 (by rw [List.getElem?_map, hk]; rfl), ?_⟩
        refine ⟨m, _, _, rfl, rfl, st8.old hm6 mb mc, by rw [List.length_map, hcl]; exact Nat.lt_of_lt_of_le (show i < 1000 by omega) (by decide), fun H10 c10 => ?_⟩
        refine ⟨cs ++ [y0], _, _, _, rfl, by rw [List.length_append, hcl]; rfl, snoc hc hcl ((hc _ _ hk).mono (by omega)), ((st6.trans st8).chgN c10 hm mb mc).more (by omega), by rw [c10.at, List.map_append]; rfl, ?_⟩
        rw [c10.ne (Ne.symm hml)]
        exact st8.old hl6 lb lc
      · refine ⟨_, rfl, by show 0 ≤ sizeLine; decide, fun p2 H7 n7 => .inr ⟨_, _, dn _ (n7.same _ _ (n6.same _ _ hm5)), dz _ _ n7.at, sh, sz, _, rfl, ?_⟩⟩
        rw [ne_nil_eq, e]
        have st7 := (st5.newN n6).newN n7
        have hm7 := n7.same _ _ (n6.same _ _ hm5)
        have hl7 := n7.same _ _ (n6.same _ _ hl5)
        clear n7 n6
        refine iteT ⟨_, rfl, .inl ⟨rfl, _, rfl, ite2 (fun c1 => ?_) (fun c1 => ?_)⟩⟩
        · have hub7 := st7.ub
          have hlo7 := st7.le
          refine ⟨_, rfl, .inl ⟨rfl, _, SqL.of hm7⟩, _, rfl, _, rfl, _, rfl, _, _, rfl, .inl ⟨_, SqL.of hm7, rfl⟩, b, c, _, _, rfl, st7.bx, by omega, by omega, by rw [List.length_map]; omega, by rw [List.length_map]; omega, fun k H8 k0 k1 st8 => ?_⟩
          rw [List.length_map] at k1
          obtain ⟨y0, hk⟩ : ∃ y0, cs[k.toNat]? = some y0 := ⟨_, List.getElem?_eq_getElem (by omega)⟩
          have ck := (hc _ _ hk).mono (m := 5 + 2 * (i - 1)) (by omega)
          refine .inl ⟨m, _, k, .str y0, rfl, rfl, SqL.of (st8.old hm7 mb mc), at_nat k0 (by rw [List.getElem?_map, hk]; rfl), ?_⟩
          refine ⟨_, rfl, _, rfl, b, c, _, 2, rfl, st8.bx, by omega, by omega, by decide, by decide, fun d H9 d0 d1 st9 => ?_⟩
          refine .inl ⟨_, _, rfl, rfl, b, c, _, 1 + d, rfl, st9.bx, by omega, by omega, by omega, by omega, fun x H10 t10 hxl hxb st10 => ?_⟩
          have st810 := (st8.trans st9).trans st10
          have lek := ck.le
          have pok := ck.pos
          refine .inr (.inl ⟨_, _, rfl, rfl, sizeOk (by omega), m, _, _, rfl, rfl, st810.old hm7 mb mc, by rw [List.length_map, hcl]; exact Nat.lt_of_lt_of_le (show i < 1000 by omega) (by decide), fun H11 c11 => ?_⟩)
          refine ⟨cs ++ [y0 ++ x], _, _, _, rfl, by rw [List.length_append, hcl]; rfl, snoc hc hcl ⟨ck.bin.app hxb, by rw [len_append]; omega, by rw [len_append]; omega⟩, ((st7.trans st810).chgN c11 hm mb mc).more (by omega), by rw [c11.at, List.map_append]; rfl, ?_⟩
          rw [c11.ne (Ne.symm hml)]
          exact st810.old hl7 lb lc
        · have hub7 := st7.ub
          have hlo7 := st7.le
          refine ⟨_, rfl, .inl ⟨rfl, _, SqL.of hm7⟩, _, rfl, _, rfl, b, c, _, 5, rfl, st7.bx, by omega, by omega, by decide, by decide, fun k H8 k0 k1 st8 => ?_⟩
          refine .inl ⟨_, _, rfl, rfl, b, c, _, 1 + k, rfl, st8.bx, by omega, by omega, by omega, by omega, fun x H9 t9 hxl hxb st9 => ?_⟩
          have st89 := st8.trans st9
          refine ⟨m, _, _, rfl, rfl, st89.old hm7 mb mc, by rw [List.length_map, hcl]; exact Nat.lt_of_lt_of_le (show i < 1000 by omega) (by decide), fun H10 c10 => ?_⟩
          refine ⟨cs ++ [x], t9, _, _, rfl, by rw [List.length_append, hcl]; rfl, snoc hc hcl ⟨hxb, by omega, by omega⟩, ((st7.trans st89).chgN c10 hm mb mc).more (by omega), by rw [c10.at, List.map_append]; rfl, ?_⟩
          rw [c10.ne (Ne.symm hml)]
          exact st89.old hl7 lb lc
  · rintro σ H4 ⟨cs, t4, x3, x4, rfl, hcl, hc, st4, hm4, hl4⟩
    refine ⟨_, rfl, _, rfl, l, m, _, _, rfl, SqL.of hl4, SqL.of hm4, fun H5 p as sm hp hp5 hal hpairs => ?_⟩
    have hnc : xs.length = cs.length := by rw [hcl, List.length_map]
    have lz : (xs.zip cs).length = xs.length := by rw [List.length_zip]; omega
    have gz : ∀ (i : Nat) z, (xs.zip cs)[i]? = some z → xs[i]? = some z.1 ∧ cs[i]? = some z.2 := fun i z h => List.getElem?_zip_eq_some.mp h
    have st5 : Step b c H H5 t t4 (1001 + 20 * (xs.map V.str).length) := (st4.trans (Step.same st4.bx sm)).more (by omega)
    refine q (xs.zip cs) (.ref p) H5 t4 ⟨?_, by omega, fun z hz => ?_, fun z hz => ?_⟩ (by omega) ⟨g, g0, g1, fun i z h => hx i z.1 (gz i z h).1⟩ (book_zip st4.bx hp hp5 hnc hal hpairs) (st5.more (by rw [List.length_map]; omega))
    · intro z
      rw [← List.length_eq_zero_iff] at z
      omega
    · obtain ⟨j, hj⟩ := List.mem_iff_getElem?.mp hz
      exact (hx j z.1 (gz j z hj).1).low
    · obtain ⟨j, hj⟩ := List.mem_iff_getElem?.mp hz
      have hj' := (List.getElem?_eq_some_iff.mp hj).1
      exact (hc j z.2 (gz j z hj).2).mono (by omega)
end
end Z

set_option Elab.async false
set_option linter.all false
set_option maxRecDepth 100000
set_option maxHeartbeats 4000000
namespace Z
open PySem L2
def spBegin (K : PySem.W.Frag) : Sp := fun vs H Q _ => ∃ (a : Addr) (ns : List Int), vs = [.ref a] ∧ SqL K H a (ns.map V.int) ∧ ns.length ≤ 63 ∧
  ∀ (b c : Addr) (H' : Hp), Bx H' b c 0 → H b = none → H c = none → Same H (hid H' b c) → Q (.ref b) H'
section
variable {P : Program} {w : World} {K : PySem.W.Frag} {mg : Str → Option Value} {base : Heap} {f : Addr} {fd : FuncData}
theorem sc_law_begin : FnScope ["_law_script"] ["_law_script"] (defScope (top i_law_begin)) := ⟨rfl, rfl, rfl, by decide +kernel, rfl, by decide +kernel, by decide +kernel⟩
theorem ok_begin (F : Fun K "_law_begin" "_law_begin" (top i_law_begin) f fd) (T : Nm mg) : FnOk P w K mg base CX0 1 f fd ["_law_script"] (spBegin K) := by
  refine F.ok sc_law_begin (fun vs H Q E h => ?_) (fun cdv A outer s H vs Q E hr h => ?_)
  · obtain ⟨a, ns, rfl, _⟩ := h
    rfl
  obtain ⟨a, ns, rfl, hS, hlen, q⟩ := h
  have hu6 := hr.units
  refine ⟨_, (pss_one (ps_ret (dispN (pps_cons pe_str (pe_op addN (pe_callTy (listN K) rfl T.n_list (by rfl) (pa_cons (pe_slice (slN K) (pv 0) po_none (po_some pe_int)) pa_nil)) (pe_op mulN (lstN (pa_cons pe_int pa_nil)) (pe_callTy call_int1 rfl T.n_int (by rfl) (pa_cons (pe_cmpR (eqK K hu6) (pe_callB (lenK K) rfl T.n_len (by rfl) (pa_cons (pv 0) pa_nil)) pe_int (nomark _)) pa_nil)))) (pps_cons pe_str pe_int pps_nil)) rfl rfl (by decide) (by decide)))), ?_⟩
  intro p H0 n0
  refine ⟨_, rfl, _, rfl, .inl ⟨a, _, rfl, n0.same.seq hS, fun r1 H1 n1 => ?_⟩⟩
  refine ⟨r1, _, rfl, .inl (SqL.of n1.at), fun r2 H2 n2 => ?_⟩
  refine ⟨by show 1 ≤ sizeLine; decide, fun r3 H3 n3 => ?_⟩
  refine ⟨_, rfl, _, _, rfl, .inl ⟨_, (n0.same.trans (n1.same.trans (n2.same.trans n3.same))).seq hS, rfl⟩, .inl ⟨rfl, ?_⟩⟩
  refine .inr ⟨_, rfl, .inr ⟨r3, _, _, rfl, rfl, n3.at, ?_⟩⟩
  have hk : ∀ (k : Bool), ((if k = true then 1 else 0 : Int)).toNat ≤ 1 ∧ -(2 ^ 63 : Int) ≤ (if k = true then 1 else 0 : Int) ∧ (if k = true then 1 else 0 : Int) < 2 ^ 63 := fun k => by cases k <;> decide
  refine ⟨(hk _).2.1, (hk _).2.2, ?_, fun r4 H4 n4 => ?_⟩
  · have := (hk (decide (V.int ↑(List.map V.int ns).length = V.int 0))).1
    exact sizeOk (by simp only [List.length_singleton]; omega)
  have hc : cutV (ns.map V.int) none (some 63) = ns.map V.int := by
    have e := cut_to (ns.map V.int) 63
    rw [List.take_of_length_le (by rw [List.length_map]; exact hlen)] at e
    exact e
  have hn2 : H2 r2 = some (.lst (ns.map V.int)) := by rw [← hc]; exact n2.at
  refine .inr (.inr ⟨r2, r4, _, _, rfl, rfl, n4.same _ _ (n3.same _ _ n2.at), n4.at, ?_, fun r5 H5 n5 => ?_⟩)
  · rw [hc, List.length_map, len_rep]
    have := (hk (decide (V.int ↑(List.map V.int ns).length = V.int 0))).1
    exact sizeOk (by simp only [List.length_singleton]; omega)
  have s0 : Same H0 H5 := n1.same.trans (n2.same.trans (n3.same.trans (n4.same.trans n5.same)))
  refine ⟨s0 _ _ n0.at, [(.inr "cells", .ref r5), (.inr "turn", .int 0)], rfl, by show 2 ≤ 15; decide, fun H6 n6 => ?_⟩
  have hp5 : r5 ≠ p := Ne.symm (ne_of_none ((n1.same.trans (n2.same.trans (n3.same.trans n4.same))) _ _ n0.at) n5.nn)
  have h05 : H0 r5 = none := (n1.same.trans (n2.same.trans (n3.same.trans n4.same))).free n5.nn
  have hr5 : H r5 = none := by rw [← n0.ne hp5]; exact h05
  refine q p r5 H6 ⟨ns ++ (if ns.length = 0 then [5] else []), ?_, ?_, ?_, ?_⟩ n0.nn hr5 (fun b o e => ?_)
  · rw [n6.at]; rfl
  · rw [n6.ne hp5, n5.at, hc, List.map_append]
    congr 3
    by_cases h0 : ns.length = 0
    · have e : decide (V.int ((ns.map V.int).length : Nat) = V.int 0) = true := by rw [List.length_map, h0]; rfl
      rw [e, if_pos h0]; rfl
    · have e : decide (V.int ((ns.map V.int).length : Nat) = V.int 0) = false := decide_eq_false (fun z => by rw [List.length_map] at z; injection z with z; omega)
      rw [e, if_neg h0]; rfl
  · by_cases h0 : ns.length = 0
    · rw [if_pos h0]; simp
    · rw [List.length_append]; omega
  · rw [List.length_append]; split <;> simp <;> omega
  · have hb1 : b ≠ p := ne_of_none e n0.nn
    have hb2 : b ≠ r5 := ne_of_none e hr5
    rw [hid_of hb1 hb2, n6.ne hb1]
    exact s0 _ _ (n0.same _ _ e)
end
end Z

set_option Elab.async false
set_option linter.all false
set_option maxRecDepth 100000
set_option maxHeartbeats 4000000
namespace Z
open PySem L2
theorem hid_same {H : Hp} {b c : Addr} : Same (hid H b c) H := fun a o e => (of_hid e).1
theorem densAt {K : PySem.W.Frag} {H : Hp} {ds : List PyData} {vs : List V} {j : Nat} {d : PyData} {v : V} (h : Dens K H ds vs) (hd : ds[j]? = some d) (hv : vs[j]? = some v) : Den K H d v := by
  obtain ⟨u, hu, q⟩ := h.get hd
  rw [hv] at hu; cases hu
  exact q
theorem densFirst {K : PySem.W.Frag} {H : Hp} {ds : List PyData} {vs : List V} (h : Dens K H ds vs) (n : Nat) : Dens K H (ds.take n) (vs.take n) := by
  have hl := h.len
  refine Dens.of_get (by rw [List.length_take, List.length_take, hl]) fun j d' v' h1 h2 => ?_
  rw [List.getElem?_take] at h1 h2
  by_cases e : j < n
  · rw [if_pos e] at h1 h2
    exact densAt h h1 h2
  · rw [if_neg e] at h1; cases h1
/-- a list that is no list of numbers -/
def hdI : List PyData → Bool
  | [] => true
  | .int _ :: _ => false
  | _ :: _ => true
mutual
/-- no list in it is one of numbers, or empty -/
def noI : PyData → Bool
  | .list ds => hdI ds && noIs ds
  | .tuple ds => noIs ds
  | _ => true
def noIs : List PyData → Bool
  | [] => true
  | d :: ds => noI d && noIs ds
end
theorem den_int {K : PySem.W.Frag} {H : Hp} {d : PyData} {i : Int} (h : Den K H d (.int i)) : d = .int i := by
  cases d with
  | int k => unfold Den at h; cases h; rfl
  | none => unfold Den at h; cases h
  | bool b => unfold Den at h; cases h
  | str x => unfold Den at h; cases h
  | list ds => unfold Den at h; obtain ⟨_, _, e, _⟩ := h; cases e
  | tuple ds => unfold Den at h; obtain ⟨_, _, e, _⟩ := h; cases e
  | dict _ => unfold Den at h; exact h.elim
mutual
/-- what tells data without lists of numbers lies apart from the box -/
theorem Den.hide {K : PySem.W.Frag} {H : Hp} {b c : Addr} {t : Int} (bx : Bx H b c t) : ∀ {d : PyData} {v : V}, noI d = true → Den K H d v → Den K (hid H b c) d v
  | .none, _, _, h => by unfold Den at h ⊢; exact h
  | .bool _, _, _, h => by unfold Den at h ⊢; exact h
  | .int _, _, _, h => by unfold Den at h ⊢; exact h
  | .str _, _, _, h => by unfold Den at h ⊢; exact h
  | .list ds, _, n, h => by
    unfold Den at h ⊢
    unfold noI at n
    rw [Bool.and_eq_true] at n
    obtain ⟨a, vs, h1, h2, h3⟩ := h
    refine ⟨a, vs, h1, ?_, Dens.hide bx n.2 h3⟩
    obtain ⟨ns, bx⟩ := bx
    rcases h2 with (h2 | ⟨o, h2⟩) | h2
    · refine .inl (.inl ?_)
      rw [hid_of (fun z => by rw [z, bx.d] at h2; cases h2) (fun z => ?_)]
      · exact h2
      rw [z, bx.l] at h2
      cases h2
      cases ds with
      | nil =>
        unfold Dens at h3
        have := bx.ne
        cases ns with
        | nil => exact absurd this (by decide)
        | cons i ns => cases h3
      | cons d ds =>
        unfold Dens at h3
        obtain ⟨v, r, e, hv, _⟩ := h3
        cases ns with
        | nil => cases e
        | cons i ns =>
          cases e
          rw [den_int hv] at n
          exact absurd n.1 (by simp [hdI])
    · refine .inl (.inr ⟨o, ?_⟩)
      rw [hid_of (fun z => by rw [z, bx.d] at h2; cases h2) (fun z => by rw [z, bx.l] at h2; cases h2)]
      exact h2
    · exact .inr h2
  | .tuple ds, _, n, h => by
    unfold Den at h ⊢
    unfold noI at n
    obtain ⟨a, vs, h1, h2, h3⟩ := h
    refine ⟨a, vs, h1, ?_, Dens.hide bx n h3⟩
    obtain ⟨ns, bx⟩ := bx
    rcases h2 with (h2 | ⟨o, h2⟩) | h2
    · refine .inl (.inl ?_)
      rw [hid_of (fun z => by rw [z, bx.d] at h2; cases h2) (fun z => by rw [z, bx.l] at h2; cases h2)]
      exact h2
    · refine .inl (.inr ⟨o, ?_⟩)
      rw [hid_of (fun z => by rw [z, bx.d] at h2; cases h2) (fun z => by rw [z, bx.l] at h2; cases h2)]
      exact h2
    · exact .inr h2
  | .dict _, _, _, h => by unfold Den at h; exact h.elim
theorem Dens.hide {K : PySem.W.Frag} {H : Hp} {b c : Addr} {t : Int} (bx : Bx H b c t) : ∀ {ds : List PyData} {vs : List V}, noIs ds = true → Dens K H ds vs → Dens K (hid H b c) ds vs
  | [], _, _, h => by unfold Dens at h ⊢; exact h
  | d :: ds, _, n, h => by
    unfold Dens at h ⊢
    unfold noIs at n
    rw [Bool.and_eq_true] at n
    obtain ⟨v, r, h1, h2, h3⟩ := h
    exact ⟨v, r, h1, Den.hide bx n.1 h2, Dens.hide bx n.2 h3⟩
end
end Z

set_option Elab.async false
set_option linter.all false
set_option maxRecDepth 100000
set_option maxHeartbeats 4000000
namespace Z
open PySem L2
/-- of signs below 128 -/
def Asc (x : Str) : Bool := x.cps.all (· < 128)
mutual
/-- plain data: no dicts, small numbers, texts of plain signs -/
def Pl : PyData → Bool
  | .none | .bool _ => true
  | .int i => i == 0 || (i == 1 || (i == -1 || i == 100000000000000000000))
  | .str x => Asc x
  | .list ds | .tuple ds => Pls ds
  | .dict _ => false
def Pls : List PyData → Bool
  | [] => true
  | d :: ds => Pl d && Pls ds
end
theorem asc_at {x : Str} (h : Asc x = true) : ∀ c ∈ x.cps.toList, c < 128 := fun c hc => by
  unfold Asc at h
  rw [Array.all_eq_true_iff_forall_mem] at h
  have := h c (by simpa using hc)
  simpa using this
theorem listText_len (ts : List Str) : (listText ts).length ≤ piled ts + 2 := by
  unfold listText
  rw [strLen_append]
  have e : (((("]" : String) : Str))).length = 1 := rfl
  rw [e]
  cases ts with
  | nil => exact Nat.le_refl _
  | cons t ts =>
    have q := textFrom_length_pos ts 1 ((("[" : String) : Str) ++ ((if 0 > 0 then ", " else "" : String) : Str) ++ t) (by decide)
    show (textFrom 1 _ ts).length + 1 ≤ _
    rw [q, strLen_append, strLen_append, piled_cons]
    have e1 : (((("[" : String) : Str))).length = 1 := rfl
    have e2 : ((((if 0 > 0 then ", " else "" : String) : Str))).length = 0 := rfl
    rw [e1, e2]
    omega
theorem tupleText_len (ts : List Str) : (tupleText ts).length ≤ piled ts + 3 := by
  unfold tupleText
  rw [strLen_append, strLen_append]
  have e1 : ((("(" : String) : Str)).length = 1 := rfl
  have e3 : (((if ts.length == 1 then ",)" else ")" : String) : Str)).length ≤ 2 := by split <;> decide
  have e2 : (Str.join ", " ts).length ≤ piled ts := by
    cases ts with
    | nil => exact Nat.le_refl _
    | cons t ts => have := join_length_add (t :: ts) (by simp); omega
  rw [e1]
  omega
mutual
theorem pl_shown : ∀ (d : PyData), Pl d = true → d.shown.length ≤ 42 * d.weight + 40 ∧ d.showable = true ∧ d.canLay0 = true
  | .none, _ => ⟨by decide +kernel, rfl, rfl⟩
  | .bool b, _ => ⟨by cases b <;> decide +kernel, rfl, rfl⟩
  | .int i, h => by
    simp only [Pl, Bool.or_eq_true, beq_iff_eq] at h
    rcases h with rfl | rfl | rfl | rfl
    all_goals exact ⟨by decide +kernel, by decide +kernel, by decide +kernel⟩
  | .str x, h => by
    have hx := asc_at (by simpa only [Pl] using h)
    refine ⟨?_, rfl, ?_⟩
    · have := StrLaws.reprText_len x fun c hc => Nat.lt_of_lt_of_le (hx c hc) (by decide)
      simp only [PyData.shown, PyData.weight]
      have e : x.cps.size = x.length := rfl
      omega
    · exact (Sh.str (n := 0) (canLay_small fun ch hc => by have := hx ch hc; omega)).1
  | .list ds, h => by
    obtain ⟨h1, h2, h3⟩ := pls_shown ds (by simpa only [Pl] using h)
    refine ⟨?_, by simpa only [PyData.showable] using h2, by simpa only [PyData.canLay0] using h3⟩
    have := listText_len (PyData.shownAll ds)
    simp only [PyData.shown, PyData.weight]
    omega
  | .tuple ds, h => by
    obtain ⟨h1, h2, h3⟩ := pls_shown ds (by simpa only [Pl] using h)
    refine ⟨?_, by simpa only [PyData.showable] using h2, by simpa only [PyData.canLay0] using h3⟩
    have := tupleText_len (PyData.shownAll ds)
    simp only [PyData.shown, PyData.weight]
    omega
  | .dict _, h => by simp [Pl] at h
theorem pls_shown : ∀ (ds : List PyData), Pls ds = true → piled (PyData.shownAll ds) ≤ 42 * PyData.weightAll ds ∧ PyData.showableAll ds = true ∧ PyData.canLayAll0 ds = true
  | [], _ => ⟨Nat.le_refl _, rfl, rfl⟩
  | d :: ds, h => by
    simp only [Pls, Bool.and_eq_true] at h
    obtain ⟨a1, a2, a3⟩ := pl_shown d h.1
    obtain ⟨b1, b2, b3⟩ := pls_shown ds h.2
    refine ⟨?_, by simp only [PyData.showableAll, a2, b2]; rfl, by simp only [PyData.canLayAll0, a3, b3]; rfl⟩
    simp only [PyData.shownAll, PyData.weightAll, piled_cons]
    omega
end
theorem pls_iff {ds : List PyData} : Pls ds = true ↔ ∀ d ∈ ds, Pl d = true := by
  induction ds with
  | nil => simp [Pls]
  | cons d ds ih => simp [Pls, ih]
theorem noIs_iff {ds : List PyData} : noIs ds = true ↔ ∀ d ∈ ds, noI d = true := by
  induction ds with
  | nil => simp [noIs]
  | cons d ds ih => simp [noIs, ih]
theorem split_not {g : Nat → Bool} : ∀ (l : List Nat), l.all g = false → ∃ p c r, l = p ++ c :: r ∧ (∀ a ∈ p, g a = true) ∧ g c = false
  | [], h => by cases h
  | a :: l, h => by
    cases ha : g a with
    | false => exact ⟨[], a, l, rfl, (fun _ z => nomatch z), ha⟩
    | true =>
      rw [List.all_cons, ha, Bool.true_and] at h
      obtain ⟨p, c, r, rfl, hp, hc⟩ := split_not l h
      refine ⟨a :: p, c, r, rfl, fun x hx => ?_, hc⟩
      rcases List.mem_cons.mp hx with rfl | hx
      · exact ha
      · exact hp x hx
/-- only signs of y -/
theorem madeOf_all (x y : Str) : madeOf x y = x.cps.toList.all y.cps.contains := by
  unfold madeOf Txt.stripChars
  rw [PyProof.Rows.stripBy_eq]
  generalize y.cps.contains = g
  unfold stripHi stripLo
  simp only [if_true]
  have sub : ∀ i j : Nat, decide (V.str (Builtin.Str.strSub x i j) = V.str (Str.ofString "")) = decide (min j x.length ≤ i) := fun i j => by
    congr 1
    refine propext ⟨fun h => ?_, fun h => ?_⟩
    · injection h with h
      have h := congrArg (fun s : Str => s.cps.size) h
      have e0 : (Str.ofString "").cps.size = 0 := rfl
      simp only [Builtin.Str.strSub, Array.size_extract, e0] at h
      have : x.cps.size = x.length := rfl
      omega
    · congr 1
      unfold Builtin.Str.strSub
      have e : x.cps.extract i j = #[] := by
        apply Array.eq_empty_of_size_eq_zero
        rw [Array.size_extract]
        have : x.cps.size = x.length := rfl
        omega
      rw [e]
      rfl
  rw [sub]
  have hlen : x.length = x.cps.toList.length := by simp [Str.length]
  rw [hlen]
  generalize x.cps.toList = l
  by_cases h : l.all g = true
  · rw [h]
    have e : l.takeWhile g = l := by
      clear sub hlen
      induction l with
      | nil => rfl
      | cons a l ih =>
        rw [List.all_cons, Bool.and_eq_true] at h
        rw [List.takeWhile_cons, if_pos h.1, ih h.2]
    rw [e]
    exact decide_eq_true (by omega)
  · have hf : l.all g = false := by simpa using h
    rw [hf]
    apply decide_eq_false
    intro z
    obtain ⟨p, c, r, rfl, hp, hc⟩ := split_not l hf
    have e : (p ++ c :: r).takeWhile g = p := by
      clear z hlen sub h hf
      induction p with
      | nil => rw [List.nil_append, List.takeWhile_cons, hc]; rfl
      | cons a p ih =>
        rw [List.cons_append, List.takeWhile_cons, if_pos (hp a List.mem_cons_self), ih fun x hx => hp x (List.mem_cons_of_mem _ hx)]
    have ed : (p ++ c :: r).drop p.length = c :: r := List.drop_left
    rw [e, ed] at z
    have hl : (p ++ c :: r).length = p.length + (r.length + 1) := by rw [List.length_append, List.length_cons]
    have tl : ((c :: r).reverse.takeWhile g).length ≤ r.length := by
      rw [List.reverse_cons]
      have : ((r.reverse ++ [c]).takeWhile g).length ≤ r.reverse.length := by
        rw [List.takeWhile_append]
        split
        · rw [List.length_append]
          have e : [c].takeWhile g = [] := by simp [List.takeWhile, hc]
          rw [e]; simp
        · exact (List.takeWhile_prefix g).length_le
      rw [List.length_reverse] at this
      exact this
    omega
theorem con_small : ∀ c < 128, Txt.contains sSmall ⟨#[c]⟩ = sSmall.cps.contains c := by decide +kernel
theorem con_signs : ∀ c < 128, Txt.contains sSigns ⟨#[c]⟩ = sSigns.cps.contains c := by decide +kernel
end Z

set_option Elab.async false
set_option linter.all false
set_option maxRecDepth 100000
set_option maxHeartbeats 4000000
namespace Z
open PySem L2
theorem met_mem {α : Type} [DecidableEq α] {f : Nat → α} {k : α} : ∀ {i : Nat}, k ∈ metKeys f i ↔ ∃ j, j < i ∧ f j = k
  | 0 => by simp [metKeys]
  | i + 1 => by
    unfold metKeys oneMore
    have ih := met_mem (f := f) (k := k) (i := i)
    by_cases h : f i ∈ metKeys f i
    · rw [if_pos h, ih]
      constructor
      · rintro ⟨j, hj, e⟩; exact ⟨j, by omega, e⟩
      · rintro ⟨j, hj, e⟩
        by_cases hji : j = i
        · subst hji
          obtain ⟨m, hm, em⟩ := (met_mem (f := f) (k := f j) (i := j)).mp h
          exact ⟨m, hm, em.trans e⟩
        · exact ⟨j, by omega, e⟩
    · rw [if_neg h, List.mem_append, ih, List.mem_singleton]
      constructor
      · rintro (⟨j, hj, e⟩ | e)
        · exact ⟨j, by omega, e⟩
        · exact ⟨i, by omega, e.symm⟩
      · rintro ⟨j, hj, e⟩
        by_cases hji : j = i
        · subst hji; exact .inr e.symm
        · exact .inl ⟨j, by omega, e⟩
theorem met_full {α : Type} [DecidableEq α] {f : Nat → α} : ∀ {i : Nat}, (metKeys f i).length = i ↔ ∀ a b, a < b → b < i → f a ≠ f b
  | 0 => ⟨fun _ a b _ h => absurd h (Nat.not_lt_zero _), fun _ => rfl⟩
  | i + 1 => by
    have ih := met_full (f := f) (i := i)
    have le := metKeys_le f i
    unfold metKeys oneMore
    by_cases h : f i ∈ metKeys f i
    · rw [if_pos h]
      refine ⟨fun z => by omega, fun z => ?_⟩
      obtain ⟨j, hj, e⟩ := met_mem.mp h
      exact absurd e (z j i hj (by omega))
    · rw [if_neg h, List.length_append, List.length_singleton]
      constructor
      · intro z a b hab hb e
        by_cases hbi : b = i
        · subst hbi
          exact h (met_mem.mpr ⟨a, hab, e⟩)
        · exact ih.mp (by omega) a b hab (by omega) e
      · intro z
        have := ih.mpr fun a b hab hb => z a b hab (by omega)
        omega
theorem met_nodup {l : List Str} : (metKeys (fun i => l.getD i Str.empty) l.length).length = l.length ↔ l.Nodup := by
  rw [met_full, List.nodup_iff_pairwise_ne, List.pairwise_iff_getElem]
  constructor
  · intro h i j hi hj hij e
    refine h i j hij hj ?_
    simp only [List.getD_eq_getElem?_getD, List.getElem?_eq_getElem hi, List.getElem?_eq_getElem hj]
    exact e
  · intro h a b hab hb e
    refine h a b (by omega) hb hab ?_
    simpa only [List.getD_eq_getElem?_getD, List.getElem?_eq_getElem hb, List.getElem?_eq_getElem (show a < l.length by omega), Option.getD_some] using e
theorem str_eq {x y : Str} (h : x.cps.toList = y.cps.toList) : x = y := by
  cases x; cases y
  congr 1
  exact Array.toList_inj.mp h
theorem rising_nodup : ∀ (p : Str) (l : List Str), PyProof.Rows.risingS p l = true → (∀ (k : Nat) x y, (p :: l)[k]? = some x → (p :: l)[k + 1]? = some y → x ≠ y) → (p :: l).Pairwise fun a b => a.cps.toList < b.cps.toList
  | p, [], _, _ => by simp
  | p, x :: r, h, ne => by
    have h : (!Spec.ltCps x.cps.toList p.cps.toList && PyProof.Rows.risingS x r) = true := h
    rw [Bool.and_eq_true, PyProof.Rows.ltCps_eq, Bool.not_eq_true', decide_eq_false_iff_not] at h
    have ih := rising_nodup x r h.2 fun k a b ea eb => ne (k + 1) a b ea eb
    have hpx : p.cps.toList < x.cps.toList := by
      have hne : x.cps.toList ≠ p.cps.toList := fun e => ne 0 p x rfl rfl (str_eq e.symm)
      exact Std.lt_of_le_of_ne h.1 (id (Ne.symm hne))
    refine List.pairwise_cons.mpr ⟨fun y hy => ?_, ih⟩
    rcases List.mem_cons.mp hy with rfl | hy
    · exact hpx
    · exact List.lt_trans hpx ((List.pairwise_cons.mp ih).1 y hy)
/-- in order: unlike neighbours say as much as no two alike -/
theorem sorted_uni {ms ss : List Str} (hs : PyProof.Rows.sortedS ms = true) (hp : ms.Perm ss) : (∀ (k : Nat) x y, ms[k]? = some x → ms[k + 1]? = some y → x ≠ y) ↔ ss.Nodup := by
  rw [← hp.nodup_iff]
  constructor
  · intro h
    cases ms with
    | nil => exact List.nodup_nil
    | cons p l =>
      have := rising_nodup p l hs h
      refine List.nodup_iff_pairwise_ne.mpr (this.imp fun {a b} hab e => ?_)
      rw [e] at hab
      exact absurd hab (Std.Irrefl.irrefl _)
  · intro h k x y hx hy e
    obtain ⟨h1, rfl⟩ := List.getElem?_eq_some_iff.mp hx
    obtain ⟨h2, rfl⟩ := List.getElem?_eq_some_iff.mp hy
    exact (List.pairwise_iff_getElem.mp (List.nodup_iff_pairwise_ne.mp h)) k (k + 1) h1 h2 (by omega) e
end Z

set_option Elab.async false
set_option linter.all false
set_option maxRecDepth 100000
set_option maxHeartbeats 4000000
namespace Z
open PySem L2
def isTextD (y : Str) (m : Int) : PyData → Bool
  | .str x => decide ((0 : Int) < (x.length : Nat)) && (decide (((x.length : Nat) : Int) ≤ m) && x.cps.toList.all fun c => Txt.contains y ⟨#[c]⟩)
  | _ => false
def spIsText (K : PySem.W.Frag) : Sp := fun vs H Q _ => ∃ (v : V) (d : PyData) (y : Str) (m : Int), vs = [v, .str y, .int m] ∧ Den K H d v ∧ Pl d = true ∧ d.weight ≤ 1000000 ∧ ∀ H', Same H H' → Q (.bl (isTextD y m d)) H'
theorem all_con {x : Str} (h : Asc x = true) : (x.cps.toList.all fun c => Txt.contains sSmall ⟨#[c]⟩) = madeOf x sSmall ∧ (x.cps.toList.all fun c => Txt.contains sSigns ⟨#[c]⟩) = madeOf x sSigns := by
  have hx := asc_at h
  rw [madeOf_all, madeOf_all]
  constructor
  · rw [Bool.eq_iff_iff, List.all_eq_true, List.all_eq_true]
    exact ⟨fun z c hc => by rw [← con_small c (hx c hc)]; exact z c hc, fun z c hc => by rw [con_small c (hx c hc)]; exact z c hc⟩
  · rw [Bool.eq_iff_iff, List.all_eq_true, List.all_eq_true]
    exact ⟨fun z c hc => by rw [← con_signs c (hx c hc)]; exact z c hc, fun z c hc => by rw [con_signs c (hx c hc)]; exact z c hc⟩
theorem text_name {d : PyData} (h : Pl d = true) : isTextD sSmall 8 d = isNameD d := by
  cases d with
  | str x =>
    have hx : Asc x = true := by simpa only [Pl] using h
    show (decide ((0 : Int) < (x.length : Nat)) && (decide (((x.length : Nat) : Int) ≤ 8) && x.cps.toList.all fun c => Txt.contains sSmall ⟨#[c]⟩)) = (decide ((1 : Int) ≤ (x.length : Nat)) && (decide (((x.length : Nat) : Int) ≤ 8) && madeOf x sSmall))
    rw [(all_con hx).1]
    rfl
  | _ => rfl
theorem str_nil (x : Str) : decide (V.str x = V.str (Str.ofString "")) = decide (x.length = 0) := by
  congr 1
  refine propext ⟨fun h => ?_, fun h => ?_⟩
  · injection h with h
    rw [h]; rfl
  · congr 1
    cases x with
    | mk c =>
      have : c = #[] := Array.eq_empty_of_size_eq_zero h
      rw [this]; rfl
theorem text_code {d : PyData} (h : Pl d = true) (hw : d.weight ≤ 1000000) : isTextD sSigns 1000000 d = isCodeD d := by
  cases d with
  | str x =>
    have hx : Asc x = true := by simpa only [Pl] using h
    have hl : x.length ≤ 1000000 := hw
    show (decide ((0 : Int) < (x.length : Nat)) && (decide (((x.length : Nat) : Int) ≤ 1000000) && x.cps.toList.all fun c => Txt.contains sSigns ⟨#[c]⟩)) = (!decide (V.str x = V.str (Str.ofString "")) && madeOf x sSigns)
    rw [(all_con hx).2, str_nil, decide_eq_true (show ((x.length : Nat) : Int) ≤ 1000000 by omega), Bool.true_and]
    congr 1
    by_cases z : x.length = 0
    · rw [decide_eq_true z, decide_eq_false (by omega)]; rfl
    · rw [decide_eq_false z, decide_eq_true (by omega)]; rfl
  | _ => rfl
/-- a question about plain data that is answered by the data alone -/
def spAskP (K : PySem.W.Frag) (g : PyData → Bool) : Sp := fun vs H Q _ => ∃ (v : V) (d : PyData), vs = [v] ∧ Den K H d v ∧ Pl d = true ∧ d.weight ≤ 1000000 ∧ ∀ H', Same H H' → Q (.bl (g d)) H'
def spIsB01 (K : PySem.W.Frag) : Sp := fun vs H Q _ => ∃ (v : V) (d : PyData), vs = [v] ∧ Den K H d v ∧ Pl d = true ∧ d.weight ≤ 40000 ∧ SeqAt.shaped d = true ∧ (∀ ds, d = .list ds → ds.length < 64) ∧ ∀ H', Same H H' → Q (.bl (isBookD d)) H'
section
variable {P : Program} {w : World} {K : PySem.W.Frag} {mg : Str → Option Value} {base : Heap} {f : Addr} {fd : FuncData}
theorem sc_law_is_text : FnScope ["_law_thing", "_law_signs_here", "_law_most"] ["_law_thing", "_law_signs_here", "_law_most"] (defScope (top i_law_is_text)) := ⟨rfl, rfl, rfl, by decide +kernel, rfl, by decide +kernel, by decide +kernel⟩
theorem ok_istext (F : Fun K "_law_is_text" "_law_is_text" (top i_law_is_text) f fd) (T : Nm mg) : FnOk P w K mg base CX0 1 f fd ["_law_thing", "_law_signs_here", "_law_most"] (spIsText K) := by
  refine F.ok sc_law_is_text (fun vs H Q E h => ?_) (fun cdv A outer s H vs Q E hr h => ?_)
  · obtain ⟨v, d, y, m, rfl, _⟩ := h
    rfl
  obtain ⟨v, d, y, m, rfl, hd, hp, hw, q⟩ := h
  have hu6 := hr.units
  have hq := q H (Same.refl _)
  refine ⟨_, (pss_one (ps_ret (pe_and (pe_callB (isiK K) rfl T.n_isinstance (by rfl) (pa_cons (pv 0) (pa_cons (pe_bltn rfl T.n_str (by rfl) (v := .ty "str") rfl) pa_nil))) (pe_and (pe_chain op_lt op_le pe_int (pe_callB (lenK K) rfl T.n_len (by rfl) (pa_cons (pv 0) pa_nil)) (pv 2)) (pe_one (pe_callB (call_all_bl rfl) rfl T.n_all (by rfl) (pa_cons (pe_lcomp rfl (comp_ok (Nc := ["_law_sign_here"]) (Fc := ["_law_signs_here"]) (js := [1])) (pi_text (pv 0)) (gk_name (i := 0) (n := 1) (by decide)) (fun _ _ _ _ _ => (pg_name (i := 0) (show (["_law_sign_here", "_law_signs_here"] : List Str).Nodup by decide +kernel) rfl (Or.inl rfl))) (fun _ _ _ _ _ => pts_nil) (fun _ _ _ _ _ => (pe_cmpR inTxt (pv 0) (pv 1) (by with_unfolding_all rfl)))) pa_nil))))))), ?_⟩
  refine ⟨_, rfl, .inl ⟨_, "str", d, _, rfl, hd, (kitT K d).2.2.1, _, rfl, ?_⟩⟩
  cases d with
  | str x =>
    have e := hd
    unfold Den at e
    subst e
    have hxl : x.length ≤ 1000000 := hw
    have hx : Asc x = true := by simpa only [Pl] using hp
    refine iteT ?_
    refine ⟨_, rfl, _, _, rfl, ⟨sizeOk (Nat.le_trans hxl (by decide)), rfl⟩, _, _, rfl, rfl, _, rfl, ?_⟩
    have q : ∀ H', Same H H' → Q (.bl (decide ((0 : Int) < (x.length : Nat)) && (decide (((x.length : Nat) : Int) ≤ m) && x.cps.toList.all fun c => Txt.contains y ⟨#[c]⟩))) H' := q
    have hlen : x.cps.toList.length = x.length := by simp [Str.length]
    refine ite2 (fun c1 => ?_) (fun c1 => ?_)
    · rw [c1] at q
      refine ⟨_, rfl, _, _, rfl, rfl, _, rfl, ite2 (fun c2 => ?_) (fun c2 => ?_)⟩
      · rw [c2] at q
        refine ⟨_, rfl, x, rfl, hx, ?_⟩
        refine comp_go (N := x.length) (fun i ys H' => H' = H ∧ ys = ((x.cps.toList.take i).map fun c => Txt.contains y ⟨#[c]⟩).map V.bl) ⟨rfl, rfl⟩ ?_ ?_
        · rintro i ys H' Nx hi ⟨rfl, rfl⟩ nx
          have hi' : i < x.cps.toList.length := by omega
          have ec : x.cps[i]? = some (x.cps.toList[i]) := by
            rw [← Array.getElem?_toList, List.getElem?_eq_getElem hi']
          refine ⟨hi, Nat.lt_of_le_of_lt (by rw [List.length_map, List.length_map, List.length_take]; omega) (show 1000000 < sizeLine by decide), ?_⟩
          rintro x' H2 ⟨rfl, hy⟩
          have e := hy _ ec
          subst e
          refine ⟨_, rfl, _, rfl, _, _, rfl, rfl, nx _ _ ⟨rfl, ?_⟩⟩
          rw [List.take_succ_eq_append_getElem hi', List.map_append, List.map_append]; rfl
        · rintro ys H' ⟨rfl, rfl⟩
          refine ⟨Nat.le_refl _, fun p hp => ?_⟩
          refine ⟨p, _, rfl, SqL.of upd_same, ?_⟩
          have := q _ (same_new hp (.lst (((x.cps.toList.take x.length).map fun c => Txt.contains y ⟨#[c]⟩).map V.bl)))
          rw [← hlen, List.take_length, List.all_map] at *
          exact this
      · have := q _ (Same.refl _)
        rw [Bool.eq_false_iff.mpr c2] at this
        exact this
    · have := q _ (Same.refl _)
      rw [Bool.eq_false_iff.mpr c1] at this
      exact ⟨_, rfl, iteF this⟩
  | _ => exact iteF hq
theorem sc_law_is_entry : FnScope ["_law_thing"] ["_law_thing"] (defScope (top i_law_is_entry)) := ⟨rfl, rfl, rfl, by decide +kernel, rfl, by decide +kernel, by decide +kernel⟩
theorem ok_isentry01 (F : Fun K "_law_is_entry" "_law_is_entry" (top i_law_is_entry) f fd) (T : Nm mg) (f_law_is_text : Fn P w K mg base 1 "_law_is_text" ["_law_thing", "_law_signs_here", "_law_most"] (spIsText K)) : FnOk P w K mg base CX0 2 f fd ["_law_thing"] (spAskP K isEntryD) := by
  refine F.ok sc_law_is_entry (fun vs H Q E h => ?_) (fun cdv A outer s H vs Q E hr h => ?_)
  · obtain ⟨v, d, rfl, _⟩ := h
    rfl
  obtain ⟨v, d, rfl, hd, hp, hw, q⟩ := h
  have hu6 := hr.units
  have hq := q H (Same.refl _)
  refine ⟨_, (pss_cons (ps_if (PW.pt (pw_or (pt_not (pt_val (pe_callB (isiK K) rfl T.n_isinstance (by rfl) (pa_cons (pv 0) (pa_cons (pe_bltn rfl T.n_tuple (by rfl) (v := .ty "tuple") rfl) pa_nil))))) (pw_or1 (pt_cmpR (neK K hu6) (pe_callB (lenK K) rfl T.n_len (by rfl) (pa_cons (pv 0) pa_nil)) pe_int (nomark _))))) (pss_one (ps_ret pe_bl)) pss_nil)
    (pss_one (ps_ret (pe_and (pe_fn (f_law_is_text.mono (by first | decide | exact Nat.le_refl _)) hr rfl (pa_cons (pe_ix (ixK K) (pv 0) pe_int (fun _ _ => rfl)) (pa_cons pe_str (pa_cons pe_int pa_nil)))) (pe_one (pe_fn (f_law_is_text.mono (by first | decide | exact Nat.le_refl _)) hr rfl (pa_cons (pe_ix (ixK K) (pv 0) pe_int (fun _ _ => rfl)) (pa_cons pe_str (pa_cons (pe_op op_pow pe_int pe_int) pa_nil))))))))), ?_⟩
  refine ⟨_, rfl, .inl ⟨_, "tuple", d, _, rfl, hd, (kitT K d).2.2.2.2, _, rfl, ?_⟩⟩
  cases d with
  | tuple ds =>
    have e := hd
    unfold Den at e
    obtain ⟨a, us, rfl, hT, hds⟩ := e
    have hl := hds.len
    refine iteF ⟨_, rfl, _, _, rfl, .inr ⟨_, hT, rfl⟩, .inl ⟨rfl, _, rfl, ite2 (fun c1 => ?_) (fun c1 => ?_)⟩⟩
    · have e : isEntryD (.tuple ds) = false := by
        match ds, hl with
        | [], _ => rfl
        | [_], _ => rfl
        | [_, _], hl => exact absurd c1 (by rw [hl]; exact (by decide : ¬ (!decide (V.int ((2 : Nat) : Int) = V.int 2)) = true))
        | _ :: _ :: _ :: _, _ => rfl
      rw [e] at hq
      exact hq
    · have c1 : us.length = 2 := by
        apply Classical.byContradiction
        intro z
        apply c1
        rw [decide_eq_false (fun w => z (by injection w with w; omega))]
        rfl
      rw [hl] at c1
      match ds, c1, hds, hw, q, hp with
      | [d1, d2], _, hds, hw, q, hp =>
        unfold Dens at hds
        obtain ⟨v1, r1, rfl, h1, hds⟩ := hds
        unfold Dens at hds
        obtain ⟨v2, r2, rfl, h2, hds⟩ := hds
        unfold Dens at hds
        subst hds
        have hw : PyData.weight d1 + 1 + (PyData.weight d2 + 1 + 0) ≤ 1000000 := by simpa only [PyData.weight, PyData.weightAll] using hw
        have hp : Pl d1 = true ∧ Pl d2 = true := by simpa [Pl, Pls] using hp
        have q : ∀ H', Same H H' → Q (.bl (isNameD d1 && isCodeD d2)) H' := q
        refine ⟨_, rfl, .inr (.inl ⟨a, _, 0, _, rfl, rfl, hT, rfl, v1, d1, _, _, rfl, h1, hp.1, by omega, fun H1 sm1 => ⟨_, rfl, ?_⟩⟩)⟩
        rw [show isTextD (Str.ofString "abcdefghijklmnopqrstuvwxyz") 8 d1 = isNameD d1 from text_name hp.1]
        refine ite2 (fun c2 => ?_) (fun c2 => ?_)
        · refine ⟨_, rfl, .inr (.inl ⟨a, _, 1, _, rfl, rfl, sm1.seqT hT, rfl, _, _, rfl, rfl, ⟨by decide, by decide, by decide⟩, v2, d2, _, _, rfl, h2.same sm1, hp.2, by omega, fun H2 sm2 => ?_⟩)⟩
          have z := q H2 (sm1.trans sm2)
          rw [c2, Bool.true_and] at z
          rw [show isTextD (Str.ofString "01") ((10 : Int) ^ (6 : Int).toNat) d2 = isCodeD d2 from text_code hp.2 (by omega)]
          exact z
        · have z := q H1 sm1
          rw [Bool.eq_false_iff.mpr c2, Bool.false_and] at z
          exact z
  | _ => exact iteT hq
theorem sc_law_is_book : FnScope ["_law_thing", "_law_names_here"] ["_law_thing"] (defScope (top i_law_is_book)) := ⟨rfl, rfl, rfl, by decide +kernel, rfl, by decide +kernel, by decide +kernel⟩
theorem ok_isbook01 (F : Fun K "_law_is_book" "_law_is_book" (top i_law_is_book) f fd) (T : Nm mg) (n_sorted : mg "sorted" = none) (f_law_is_entry : Fn P w K mg base 2 "_law_is_entry" ["_law_thing"] (spAskP K isEntryD)) : FnOk P w K mg base CX0 3 f fd ["_law_thing"] (spIsB01 K) := by
  refine F.ok sc_law_is_book (fun vs H Q E h => ?_) (fun cdv A outer s H vs Q E hr h => ?_)
  · obtain ⟨v, d, rfl, _⟩ := h
    rfl
  obtain ⟨v, d, rfl, hd, hp, hw, hsh, hfew, q⟩ := h
  have hu6 := hr.units
  have hq := q H (Same.refl _)
  refine ⟨_, (pss_cons (ps_if (PW.pt (pw_or (pt_not (pt_val (pe_callB (isiK K) rfl T.n_isinstance (by rfl) (pa_cons (pv 0) (pa_cons (pe_bltn rfl T.n_list (by rfl) (v := .ty "list") rfl) pa_nil))))) (pw_or (pt_cmpR (eqK K hu6) (pv 0) (lstN pa_nil) (nomark _)) (pw_or1 (pt_not (pt_val (pe_callB (call_all_bl rfl) rfl T.n_all (by rfl) (pa_cons (pe_lcomp rfl (comp_ok (Nc := ["_law_one"]) (Fc := []) (js := [])) (piK K (pv 0)) (gk_name (i := 0) (n := 1) (by decide)) (fun _ _ _ _ _ => (pg_name (i := 0) (show (["_law_one"] : List Str).Nodup by decide +kernel) rfl (Or.inl rfl))) (fun _ _ _ _ _ => pts_nil) (fun _ _ _ _ _ => (pe_fn (f_law_is_entry.mono (by first | decide | exact Nat.le_refl _)) hr rfl (pa_cons (pv 0) pa_nil)))) pa_nil)))))))) (pss_one (ps_ret pe_bl)) pss_nil)
    (pss_cons (ps_set (i := 1) sc_law_is_book.nd rfl (Or.inr rfl) (pe_callB (sortedS K) rfl n_sorted (by rfl) (pa_cons (pe_lcomp rfl (comp_ok (Nc := ["_law_name", "_law_code"]) (Fc := []) (js := [])) (piK K (pv 0)) (gk_tup (gks_cons (gk_name (i := 0) (n := 2) (by decide)) (gks_cons (gk_name (i := 1) (n := 2) (by decide)) gks_nil gm_name gms_nil) gm_name (gms_cons gm_name gms_nil))) (fun _ _ _ _ _ => (tupK K 2 rfl (pgs_cons (pg_name (i := 0) (show (["_law_name", "_law_code"] : List Str).Nodup by decide +kernel) rfl (Or.inl rfl)) (pgs_cons (pg_name (i := 1) (show (["_law_name", "_law_code"] : List Str).Nodup by decide +kernel) rfl (Or.inl rfl)) pgs_nil)))) (fun _ _ _ _ _ => pts_nil) (fun _ _ _ _ _ => (pv 0))) pa_nil)))
    (pss_one (ps_ret (pe_callB (call_all_bl rfl) rfl T.n_all (by rfl) (pa_cons (pe_lcomp rfl (comp_ok (Nc := ["_law_k"]) (Fc := ["_law_names_here"]) (js := [1])) (pi_range2 rfl T.n_range (pa_cons pe_int (pa_cons (pe_callB (lenK K) rfl T.n_len (by rfl) (pa_cons (pv 1) pa_nil)) pa_nil))) (gk_name (i := 0) (n := 1) (by decide)) (fun _ _ _ _ _ => (pg_name (i := 0) (show (["_law_k", "_law_names_here"] : List Str).Nodup by decide +kernel) rfl (Or.inl rfl))) (fun _ _ _ _ _ => pts_nil) (fun _ _ _ _ _ => (pe_cmpR (neK K hu6) (pe_ix (ixK K) (pv 1) (pv 0) (fun _ _ => rfl)) (pe_ix (ixK K) (pv 1) (pe_op op_sub (pv 0) pe_int) (fun _ _ => rfl)) (nomark _)))) pa_nil)))))), ?_⟩
  refine ⟨_, rfl, .inl ⟨_, "list", d, _, rfl, hd, (kitT K d).2.2.2.1, _, rfl, ?_⟩⟩
  cases d with
  | list ds =>
    have hfew := hfew ds rfl
    have e := hd
    unfold Den at e
    obtain ⟨a, us, rfl, hS, hds⟩ := e
    have hl := hds.len
    have hwt : PyData.weightAll ds ≤ 40000 := by simpa only [PyData.weight] using hw
    have hps : ∀ d ∈ ds, Pl d = true := pls_iff.mp (by simpa only [Pl] using hp)
    refine iteF ⟨_, rfl, by show 0 ≤ sizeLine; decide, fun pe H1 n1 => ?_⟩
    have den0 : Den K H1 (.list []) (.ref pe) := Den.list (SqL.of n1.at) (Den.strs [])
    refine .inr ⟨_, _, hd.same n1.same, den0, hsh, by decide +kernel, _, rfl, ?_⟩
    rw [eqv_nil]
    have q : ∀ H', Same H H' → Q (.bl (!ds.isEmpty && (ds.all isEntryD && decide ((metKeys (fun i => (ds.map nameD).getD i Str.empty) ds.length).length = ds.length)))) H' := q
    refine ite2 (fun c1 => ?_) (fun c1 => ?_)
    · have z := q H1 n1.same
      rw [c1] at z
      exact z
    · have c1 : ds.isEmpty = false := Bool.eq_false_iff.mpr c1
      rw [c1] at q
      have hS1 := n1.same.seq hS
      have hds1 := hds.same n1.same
      refine ⟨_, rfl, a, rfl, ⟨_, hS1⟩, ?_⟩
      refine comp_go (N := ds.length) (fun i ys H' => Same H1 H' ∧ ys = ((ds.take i).map isEntryD).map V.bl) ⟨Same.refl _, rfl⟩ ?_ ?_
      · rintro i ys H2 Nx hi ⟨sm2, rfl⟩ nx
        obtain ⟨x, hx, dx⟩ := hds1.get (i := i) (List.getElem?_eq_getElem hi)
        refine ⟨⟨_, _, sm2.seq hS1, hx⟩, Nat.lt_of_le_of_lt (show _ ≤ 40000 by rw [List.length_map, List.length_map, List.length_take]; omega) (by decide), ?_⟩
        rintro x' H3 ⟨rfl, hy⟩
        have e := hy _ (sm2.seq hS1)
        rw [hx] at e; cases e
        refine gn ⟨_, rfl, _, _, rfl, dx.same sm2, hps _ (List.getElem_mem hi), Nat.le_trans (weight_at (n := 40000) hwt (List.getElem_mem hi)) (by decide), fun H4 sm4 => nx _ _ ⟨sm2.trans sm4, ?_⟩⟩
        rw [List.take_succ_eq_append_getElem hi, List.map_append, List.map_append]
        rfl
      rintro ys H2 ⟨sm2, rfl⟩
      refine ⟨⟨_, sm2.seq hS1, by rw [hl]; exact Nat.le_refl _⟩, fun p hp => ?_⟩
      rw [List.take_length]
      refine ⟨p, _, rfl, SqL.of upd_same, _, rfl, ?_⟩
      have smp : Same H1 (upd H2 p (.lst ((ds.map isEntryD).map V.bl))) := sm2.trans (same_new hp _)
      have eall : (ds.map isEntryD).all id = ds.all isEntryD := by rw [List.all_map]; rfl
      rw [eall]
      generalize upd H2 p (.lst ((ds.map isEntryD).map V.bl)) = H3 at smp
      cases hall : ds.all isEntryD with
      | false =>
        have z := q _ (n1.same.trans smp)
        rw [hall] at z
        exact iteT z
      | true =>
        rw [hall] at q
        refine iteF ?_
        have ent : ∀ i (hi : i < ds.length), ∃ x y : Str, ds[i] = .tuple [.str x, .str y] := fun i hi => entry_of (List.all_eq_true.mp hall _ (List.getElem_mem hi))
        have sm3 := n1.same.trans smp
        refine ⟨_, rfl, a, rfl, ⟨_, sm3.seq hS⟩, ?_⟩
        refine comp_go (N := ds.length) (fun i ys H' => H' = H3 ∧ ys = ((ds.take i).map nameD).map V.str) ⟨rfl, rfl⟩ ?_ ?_
        · rintro i ys H' Nx hi ⟨rfl, rfl⟩ nx
          obtain ⟨x, hx, dx⟩ := (hds.same sm3).get (i := i) (List.getElem?_eq_getElem hi)
          obtain ⟨nm, cd, ed⟩ := ent i hi
          rw [ed] at dx
          obtain ⟨pa, rfl, hT⟩ := dx.pair
          refine ⟨⟨_, _, sm3.seq hS, hx⟩, Nat.lt_of_le_of_lt (show _ ≤ 40000 by rw [List.length_map, List.length_map, List.length_take]; omega) (by decide), ?_⟩
          rintro x' H2 ⟨rfl, hy⟩
          have e := hy _ (sm3.seq hS)
          rw [hx] at e; cases e
          refine ⟨pa, _, rfl, hT, rfl, _, _, rfl, _, _, rfl, rfl, ?_⟩
          refine ⟨_, rfl, nx _ _ ⟨rfl, ?_⟩⟩
          rw [List.take_succ_eq_append_getElem hi, List.map_append, List.map_append, ed]; rfl
        rintro ys H' ⟨rfl, rfl⟩
        refine ⟨⟨_, sm3.seq hS, by rw [hl]; exact Nat.le_refl _⟩, fun pn hpn => ?_⟩
        rw [List.take_length]
        obtain ⟨H4, n4⟩ : ∃ H4, New H' pn (.lst ((ds.map nameD).map V.str)) H4 := ⟨_, hpn, rfl⟩
        rw [← n4.eq]
        refine ⟨pn, ds.map nameD, rfl, SqL.of n4.at, by rw [List.length_map]; exact hfew, fun ms ps H5 hpm hso n5 => gn ?_⟩
        have uni := sorted_uni hso hpm
        have ml : ms.length = ds.length := by rw [hpm.length_eq, List.length_map]
        have emet : decide ((metKeys (fun i => (ds.map nameD).getD i Str.empty) ds.length).length = ds.length) = decide ((ds.map nameD).Nodup) := by
          congr 1
          have := met_nodup (l := ds.map nameD)
          rw [List.length_map] at this
          exact propext this
        rw [emet] at q
        have hpos : 1 ≤ ds.length := by
          cases ds with
          | nil => exact absurd c1 (by decide)
          | cons _ _ => exact Nat.succ_le_succ (Nat.zero_le _)
        have mvl : (ms.map V.str).length = ds.length := by rw [List.length_map, ml]
        refine ⟨_, rfl, _, _, rfl, .inl ⟨_, SqL.of n5.at, rfl⟩, 1, _, rfl, ⟨by decide, by decide, by omega, by omega⟩, ?_⟩
        have eN : ((((ms.map V.str).length : Nat) : Int) - 1).toNat = ds.length - 1 := by omega
        rw [eN]
        refine comp_go (N := ds.length - 1) (fun i ys H' => H' = H5 ∧ ys = ((List.range i).map fun j => !decide (V.str (ms.getD (j + 1) Str.empty) = V.str (ms.getD j Str.empty))).map V.bl) ⟨rfl, rfl⟩ ?_ ?_
        · rintro i ys H' Nx hi ⟨rfl, rfl⟩ nx
          refine ⟨hi, Nat.lt_of_le_of_lt (show _ ≤ 40000 by rw [List.length_map, List.length_map, List.length_range]; omega) (by decide), ?_⟩
          rintro x' H2 ⟨rfl, rfl⟩
          have g1 : (ms.map V.str)[i + 1]? = some (V.str (ms.getD (i + 1) Str.empty)) := by
            rw [List.getElem?_map, List.getD_eq_getElem?_getD, List.getElem?_eq_getElem (by omega)]; rfl
          have g0 : (ms.map V.str)[i]? = some (V.str (ms.getD i Str.empty)) := by
            rw [List.getElem?_map, List.getD_eq_getElem?_getD, List.getElem?_eq_getElem (by omega)]; rfl
          have a1 : atI (ms.map V.str) (1 + (i : Int)) = some (V.str (ms.getD (i + 1) Str.empty)) := at_nat (by omega) (by rw [show (1 + (i : Int)).toNat = i + 1 by omega]; exact g1)
          have a0 : atI (ms.map V.str) (1 + (i : Int) - 1) = some (V.str (ms.getD i Str.empty)) := at_nat (by omega) (by rw [show (1 + (i : Int) - 1).toNat = i by omega]; exact g0)
          refine ⟨_, rfl, _, rfl, .inl ⟨_, _, _, _, rfl, rfl, SqL.of n5.at, a1, ?_⟩⟩
          refine ⟨_, rfl, _, rfl, _, _, rfl, rfl, .inl ⟨_, _, _, _, rfl, rfl, SqL.of n5.at, a0, .inl ⟨rfl, nx _ _ ⟨rfl, ?_⟩⟩⟩⟩
          rw [List.range_succ, List.map_append, List.map_append]; rfl
        · rintro ys H' ⟨rfl, rfl⟩
          refine ⟨Nat.le_refl _, fun p2 hp2 => ⟨p2, _, rfl, SqL.of upd_same, ?_⟩⟩
          have z := q _ (sm3.trans (n4.same.trans (n5.same.trans (same_new hp2 (.lst (((List.range (ds.length - 1)).map fun j => !decide (V.str (ms.getD (j + 1) Str.empty) = V.str (ms.getD j Str.empty))).map V.bl))))))
          have ez : (((List.range (ds.length - 1)).map fun j => !decide (V.str (ms.getD (j + 1) Str.empty) = V.str (ms.getD j Str.empty))).all id) = decide ((ds.map nameD).Nodup) := by
            rw [Bool.eq_iff_iff, decide_eq_true_iff, ← uni, List.all_map, List.all_eq_true]
            constructor
            · intro h k x y hx hy e
              have hk := (List.getElem?_eq_some_iff.mp hy).1
              have := h k (List.mem_range.mpr (by omega))
              simp only [Function.comp, id, Bool.not_eq_true', decide_eq_false_iff_not] at this
              apply this
              rw [List.getD_eq_getElem?_getD, List.getD_eq_getElem?_getD, hx, hy, e]
            · intro h k hk
              have hk := List.mem_range.mp hk
              simp only [Function.comp, id, Bool.not_eq_true', decide_eq_false_iff_not]
              intro e
              injection e with e
              refine h k _ _ (List.getElem?_eq_getElem (show k < ms.length by omega)) (List.getElem?_eq_getElem (show k + 1 < ms.length by omega)) ?_
              rw [List.getD_eq_getElem?_getD, List.getD_eq_getElem?_getD, List.getElem?_eq_getElem (show k < ms.length by omega), List.getElem?_eq_getElem (show k + 1 < ms.length by omega)] at e
              exact e.symm
          rw [ez]
          exact z
  | _ => exact iteT hq
end
end Z

set_option Elab.async false
set_option linter.all false
set_option maxRecDepth 100000
set_option maxHeartbeats 4000000
namespace Z
open PySem L2
abbrev st1 (x : String) : PyData := .str (Str.ofString x)
def oddL : List PyData := [.none, .bool true, .bool false, .int 0, .int 1, .int (-1), st1 "", st1 "0", st1 "a", st1 "A", st1 "01x", .tuple [], .list [], .tuple [st1 "a"], .tuple [st1 "a", st1 "0"], .list [st1 "a", st1 "0"],
  .tuple [st1 "a", st1 "0", st1 "1"], .list [.list []], .tuple [.tuple [st1 "a", st1 "0"]], .tuple [st1 "", st1 ""], .tuple [st1 "0", st1 "a"], .int 100000000000000000000, st1 "abcdefghi", st1 "a b"]
theorem odd_fine : ∀ d ∈ oddL, Pl d = true ∧ noI d = true ∧ d.depth ≤ 2 ∧ d.weight ≤ 100 ∧ (∀ ds, d = .list ds → ds.length ≤ 2) := by
  have h : oddL.all (fun d => Pl d && noI d && decide (d.depth ≤ 2) && decide (d.weight ≤ 100) && (match d with | .list ds => decide (ds.length ≤ 2) | _ => true)) = true := by decide +kernel
  intro d hd
  have := List.all_eq_true.mp h d hd
  simp only [Bool.and_eq_true, decide_eq_true_eq] at this
  refine ⟨this.1.1.1.1, this.1.1.1.2, this.1.1.2, this.1.2, fun ds e => ?_⟩
  subst e
  simpa using this.2
def spOdd (K : PySem.W.Frag) : Sp := fun vs H Q _ => ∃ (b c : Addr) (t : Int), vs = [.ref b] ∧ Bx H b c t ∧ 0 ≤ t ∧ t < 10000000 ∧
  ∀ (d : PyData) (v : V) (H' : Hp), d ∈ oddL → Den K H' d v → Step b c H H' t (t + 1) 1 → Q v H'
def spSgn : Sp := fun vs H Q _ => ∃ (b c : Addr) (t : Int), vs = [.ref b] ∧ Bx H b c t ∧ 0 ≤ t ∧ t < 10000000 ∧
  ∀ (ch : Nat) (H' : Hp), ch < 128 → Step b c H H' t (t + 1) 1 → Q (.str ⟨#[ch]⟩) H'
theorem dnil {K : PySem.W.Frag} {H : Hp} : Dens K H [] [] := by unfold Dens; rfl
theorem dcons {K : PySem.W.Frag} {H : Hp} {d : PyData} {ds : List PyData} {v : V} {vs : List V} (h : Den K H d v) (hs : Dens K H ds vs) : Dens K H (d :: ds) (v :: vs) := by unfold Dens; exact ⟨_, _, rfl, h, hs⟩
theorem dnon {K : PySem.W.Frag} {H : Hp} : Den K H .none .non := by unfold Den; rfl
theorem dbl {K : PySem.W.Frag} {H : Hp} {b : Bool} : Den K H (.bool b) (.bl b) := by unfold Den; rfl
theorem dint {K : PySem.W.Frag} {H : Hp} {i : Int} : Den K H (.int i) (.int i) := by unfold Den; rfl
theorem dstr {K : PySem.W.Frag} {H : Hp} {x : Str} : Den K H (.str x) (.str x) := by unfold Den; rfl
theorem dlst {K : PySem.W.Frag} {H : Hp} {p : Addr} {ds : List PyData} {vs : List V} (h : H p = some (.lst vs)) (hs : Dens K H ds vs) : Den K H (.list ds) (.ref p) := by unfold Den; exact ⟨p, vs, rfl, SqL.of h, hs⟩
theorem dtup {K : PySem.W.Frag} {H : Hp} {p : Addr} {ds : List PyData} {vs : List V} (h : H p = some (.tup vs)) (hs : Dens K H ds vs) : Den K H (.tuple ds) (.ref p) := by unfold Den; exact ⟨p, vs, rfl, SqT.of h, hs⟩
section
variable {P : Program} {w : World} {K : PySem.W.Frag} {mg : Str → Option Value} {base : Heap} {f : Addr} {fd : FuncData}
theorem sc_law_odd : FnScope ["_law_box", "_law_some"] ["_law_box"] (defScope (top i_law_odd)) := ⟨rfl, rfl, rfl, by decide +kernel, rfl, by decide +kernel, by decide +kernel⟩
theorem ok_odd (F : Fun K "_law_odd" "_law_odd" (top i_law_odd) f fd) (T : Nm mg) (f_law_take : Fn P w K mg base 1 "_law_take" ["_law_box", "_law_many"] spTk) : FnOk P w K mg base CX0 2 f fd ["_law_box"] (spOdd K) := by
  refine F.ok sc_law_odd (fun vs H Q E h => ?_) (fun cdv A outer s H vs Q E hr h => ?_)
  · obtain ⟨b, c, t, rfl, _⟩ := h
    rfl
  obtain ⟨b, c, t, rfl, bx, t0, t1, q⟩ := h
  have hu6 := hr.units
  refine ⟨_, (pss_cons (ps_set (i := 1) sc_law_odd.nd rfl (Or.inl rfl) (lstN (pa_cons pe_non (pa_cons pe_bl (pa_cons pe_bl (pa_cons pe_int (pa_cons pe_int (pa_cons (pe_un un_neg pe_int) (pa_cons pe_str (pa_cons pe_str (pa_cons pe_str (pa_cons pe_str (pa_cons pe_str (pa_cons (tupN pa_nil) (pa_cons (lstN pa_nil) (pa_cons (tupN (pa_cons pe_str pa_nil)) (pa_cons (tupN (pa_cons pe_str (pa_cons pe_str pa_nil))) (pa_cons (lstN (pa_cons pe_str (pa_cons pe_str pa_nil))) pa_nil))))))))))))))))))
    (pss_cons (ps_set (i := 1) sc_law_odd.nd rfl (Or.inl rfl) (pe_op addN (pv 1) (lstN (pa_cons (tupN (pa_cons pe_str (pa_cons pe_str (pa_cons pe_str pa_nil)))) (pa_cons (lstN (pa_cons (lstN pa_nil) pa_nil)) (pa_cons (tupN (pa_cons (tupN (pa_cons pe_str (pa_cons pe_str pa_nil))) pa_nil)) (pa_cons (tupN (pa_cons pe_str (pa_cons pe_str pa_nil))) (pa_cons (tupN (pa_cons pe_str (pa_cons pe_str pa_nil))) (pa_cons (pe_op op_pow pe_int pe_int) (pa_cons pe_str (pa_cons pe_str pa_nil)))))))))))
    (pss_one (ps_ret (pe_ix (ixK K) (pv 1) (pe_fn (f_law_take.mono (by first | decide | exact Nat.le_refl _)) hr rfl (pa_cons (pv 0) (pa_cons (pe_callB (lenK K) rfl T.n_len (by rfl) (pa_cons (pv 1) pa_nil)) pa_nil))) (fun _ _ => rfl)))))), ?_⟩
  refine ⟨_, rfl, by show 0 ≤ sizeLine; decide, fun p1 H1 n1 => ?_⟩
  refine ⟨by show 0 ≤ sizeLine; decide, fun p2 H2 n2 => ?_⟩
  refine ⟨by show 1 ≤ sizeLine; decide, fun p3 H3 n3 => ?_⟩
  refine ⟨by show 2 ≤ sizeLine; decide, fun p4 H4 n4 => ?_⟩
  refine ⟨by show 2 ≤ sizeLine; decide, fun p5 H5 n5 => ?_⟩
  refine ⟨by show 16 ≤ sizeLine; decide, fun p6 H6 n6 => gn ?_⟩
  refine ⟨_, rfl, by show 3 ≤ sizeLine; decide, fun p7 H7 n7 => ?_⟩
  refine ⟨by show 0 ≤ sizeLine; decide, fun p8 H8 n8 => ?_⟩
  refine ⟨by show 1 ≤ sizeLine; decide, fun p9 H9 n9 => ?_⟩
  refine ⟨by show 2 ≤ sizeLine; decide, fun p10 H10 n10 => ?_⟩
  refine ⟨by show 1 ≤ sizeLine; decide, fun p11 H11 n11 => ?_⟩
  refine ⟨by show 2 ≤ sizeLine; decide, fun p12 H12 n12 => ?_⟩
  refine ⟨by show 2 ≤ sizeLine; decide, fun p13 H13 n13 => ?_⟩
  refine ⟨_, _, rfl, rfl, ⟨by decide, by decide, by decide⟩, by show 8 ≤ sizeLine; decide, fun p14 H14 n14 => ?_⟩
  have s14 := n14.same
  have s13 := n13.same.trans s14
  have s12 := n12.same.trans s13
  have s11 := n11.same.trans s12
  have s10 := n10.same.trans s11
  have s9 := n9.same.trans s10
  have s8 := n8.same.trans s9
  have s7 := n7.same.trans s8
  have s6 := n6.same.trans s7
  have s5 := n5.same.trans s6
  have s4 := n4.same.trans s5
  have s3 := n3.same.trans s4
  have s2 := n2.same.trans s3
  have s1 := n1.same.trans s2
  refine .inr (.inr ⟨p6, p14, _, _, rfl, rfl, s7 _ _ n6.at, n14.at, by show 24 ≤ sizeLine; decide, fun p15 H15 n15 => gn ?_⟩)
  have dens : Dens K H15 oddL [.non, .bl true, .bl false, .int 0, .int 1, .int (-1), .str (Str.ofString ""), .str (Str.ofString "0"), .str (Str.ofString "a"), .str (Str.ofString "A"), .str (Str.ofString "01x"), .ref p1, .ref p2, .ref p3, .ref p4, .ref p5, .ref p7, .ref p9, .ref p11, .ref p12, .ref p13, .int 100000000000000000000, .str (Str.ofString "abcdefghi"), .str (Str.ofString "a b")] := by
    have z := n15.same
    unfold oddL
    refine dcons dnon (dcons dbl (dcons dbl (dcons dint (dcons dint (dcons dint (dcons dstr (dcons dstr (dcons dstr (dcons dstr (dcons dstr ?_))))))))))
    refine dcons (dtup (z _ _ (s2 _ _ n1.at)) dnil) (dcons (dlst (z _ _ (s3 _ _ n2.at)) dnil) (dcons (dtup (z _ _ (s4 _ _ n3.at)) (dcons dstr dnil)) (dcons (dtup (z _ _ (s5 _ _ n4.at)) (dcons dstr (dcons dstr dnil))) (dcons (dlst (z _ _ (s6 _ _ n5.at)) (dcons dstr (dcons dstr dnil))) ?_))))
    refine dcons (dtup (z _ _ (s8 _ _ n7.at)) (dcons dstr (dcons dstr (dcons dstr dnil)))) (dcons (dlst (z _ _ (s10 _ _ n9.at)) (dcons (dlst (z _ _ (s9 _ _ n8.at)) dnil) dnil)) (dcons (dtup (z _ _ (s12 _ _ n11.at)) (dcons (dtup (z _ _ (s11 _ _ n10.at)) (dcons dstr (dcons dstr dnil))) dnil)) ?_))
    exact dcons (dtup (z _ _ (s13 _ _ n12.at)) (dcons dstr (dcons dstr dnil))) (dcons (dtup (z _ _ (s14 _ _ n13.at)) (dcons dstr (dcons dstr dnil))) (dcons dint (dcons dstr (dcons dstr dnil))))
  have st15 : Step b c H H15 t t 0 := Step.same bx (s1.trans n15.same)
  refine ⟨_, rfl, _, rfl, _, rfl, _, _, rfl, .inl ⟨_, SqL.of n15.at, rfl⟩, b, c, t, _, rfl, st15.bx, by omega, by omega, by show (0 : Int) < 24; decide, by show (24 : Int) < 1000000000; decide, fun r H16 r0 r1 st16 => ?_⟩
  have r1 : r < 24 := r1
  obtain ⟨hb, hc⟩ := (Step.same bx s1).bx.ne_new n15.nn
  obtain ⟨d, hd⟩ : ∃ d, oddL[r.toNat]? = some d := ⟨_, List.getElem?_eq_getElem (show r.toNat < 24 by omega)⟩
  obtain ⟨v, hv, dv⟩ := dens.get hd
  have hdm := List.mem_of_getElem? hd
  have fine := odd_fine d hdm
  exact .inl ⟨_, _, r, v, rfl, rfl, SqL.of (st16.old n15.at hb hc), at_nat r0 hv, q d v H16 hdm ((Den.hide st15.bx fine.2.1 dv).same (st16.sm.trans hid_same)) ((st15.trans st16).more (by omega))⟩
theorem sc_law_sign : FnScope ["_law_box", "_law_some"] ["_law_box"] (defScope (top i_law_sign)) := ⟨rfl, rfl, rfl, by decide +kernel, rfl, by decide +kernel, by decide +kernel⟩
theorem ok_sgn (F : Fun K "_law_sign" "_law_sign" (top i_law_sign) f fd) (T : Nm mg) (f_law_take : Fn P w K mg base 1 "_law_take" ["_law_box", "_law_many"] spTk) : FnOk P w K mg base CX0 2 f fd ["_law_box"] spSgn := by
  refine F.ok sc_law_sign (fun vs H Q E h => ?_) (fun cdv A outer s H vs Q E hr h => ?_)
  · obtain ⟨b, c, t, rfl, _⟩ := h
    rfl
  obtain ⟨b, c, t, rfl, bx, t0, t1, q⟩ := h
  have hu6 := hr.units
  refine ⟨_, (pss_cons (ps_set (i := 1) sc_law_sign.nd rfl (Or.inl rfl) pe_str)
    (pss_one (ps_ret (pe_ix (ixK K) (pv 1) (pe_fn (f_law_take.mono (by first | decide | exact Nat.le_refl _)) hr rfl (pa_cons (pv 0) (pa_cons (pe_callB (lenK K) rfl T.n_len (by rfl) (pa_cons (pv 1) pa_nil)) pa_nil))) (fun _ _ => rfl))))), ?_⟩
  refine gn ?_
  refine ⟨_, rfl, _, rfl, _, rfl, _, _, rfl, ⟨by decide, rfl⟩, b, c, t, _, rfl, bx, by omega, by omega, by decide, by decide, fun r H1 r0 r1 st1 => ?_⟩
  have hlt : r.toNat < (Str.ofString " !\"#$&'()*+,-./0123456789:;<=>?@ABCDEFGHIJKLMNOPQRSTUVWXYZ[\\]^_`abcdefghijklmnopqrstuvwxyz{|}~\n").cps.toList.length := by
    have e : (Str.ofString " !\"#$&'()*+,-./0123456789:;<=>?@ABCDEFGHIJKLMNOPQRSTUVWXYZ[\\]^_`abcdefghijklmnopqrstuvwxyz{|}~\n").cps.toList.length = (Str.ofString " !\"#$&'()*+,-./0123456789:;<=>?@ABCDEFGHIJKLMNOPQRSTUVWXYZ[\\]^_`abcdefghijklmnopqrstuvwxyz{|}~\n").length := by simp [Str.length]
    rw [e]
    omega
  have hall : ∀ c ∈ (Str.ofString " !\"#$&'()*+,-./0123456789:;<=>?@ABCDEFGHIJKLMNOPQRSTUVWXYZ[\\]^_`abcdefghijklmnopqrstuvwxyz{|}~\n").cps.toList, c < 128 := by decide +kernel
  exact .inr (.inr ⟨_, r, _, rfl, rfl, by decide +kernel, at_nat r0 (List.getElem?_eq_getElem hlt), q _ H1 (hall _ (List.getElem_mem hlt)) st1⟩)
end
end Z

set_option Elab.async false
set_option linter.all false
set_option maxRecDepth 100000
set_option maxHeartbeats 4000000
namespace Z
open PySem L2
def spTch : Sp := fun vs H Q _ => ∃ (b c : Addr) (t : Int) (x : Str), vs = [.ref b, .str x] ∧ Bx H b c t ∧ 0 ≤ t ∧ t < 1000000 ∧ Asc x = true ∧ x.length ≤ 10000 ∧
  ∀ (y : Str) (t' : Int) (H' : Hp), Asc y = true → y.length ≤ 2 * x.length + 1 → Step b c H H' t t' 3 → Q (.str y) H'
theorem asc_iff {x : Str} : Asc x = true ↔ ∀ c ∈ x.cps.toList, c < 128 := by
  refine ⟨asc_at, fun h => ?_⟩
  unfold Asc
  rw [Array.all_eq_true_iff_forall_mem]
  intro c hc
  have := h c (by simpa using hc)
  simpa using this
theorem str_app_len (x y : Str) : (x ++ y).length = x.length + y.length := strLen_append x y
theorem asc_app {x y : Str} (h : Asc x = true) (h' : Asc y = true) : Asc (x ++ y) = true := by
  rw [asc_iff] at *
  intro c hc
  rw [str_append_list] at hc
  rcases List.mem_append.mp hc with z | z
  · exact h c z
  · exact h' c z
theorem asc_slice {x : Str} {lo hi : Option Int} (h : Asc x = true) : Asc (Txt.slice x lo hi) = true := by
  rw [asc_iff] at *
  intro c hc
  refine h c ?_
  unfold Txt.slice at hc
  split at hc
  · exact hc
  · obtain ⟨i, _, e⟩ := List.mem_filterMap.mp hc
    exact List.mem_of_getElem? (by rw [Array.getElem?_toList]; exact e)
theorem asc_one {c : Nat} (h : c < 128) : Asc ⟨#[c]⟩ = true := by
  rw [asc_iff]
  intro d hd
  have : d = c := by simpa using hd
  omega
section
variable {P : Program} {w : World} {K : PySem.W.Frag} {mg : Str → Option Value} {base : Heap} {f : Addr} {fd : FuncData}
theorem sc_law_text_changed : FnScope ["_law_box", "_law_text", "_law_way", "_law_at"] ["_law_box", "_law_text"] (defScope (top i_law_text_changed)) := ⟨rfl, rfl, rfl, by decide +kernel, rfl, by decide +kernel, by decide +kernel⟩
theorem ok_tch (F : Fun K "_law_text_changed" "_law_text_changed" (top i_law_text_changed) f fd) (T : Nm mg) (f_law_take : Fn P w K mg base 1 "_law_take" ["_law_box", "_law_many"] spTk) (f_law_sign : Fn P w K mg base 2 "_law_sign" ["_law_box"] spSgn) : FnOk P w K mg base CX0 3 f fd ["_law_box", "_law_text"] spTch := by
  refine F.ok sc_law_text_changed (fun vs H Q E h => ?_) (fun cdv A outer s H vs Q E hr h => ?_)
  · obtain ⟨b, c, t, x, rfl, _⟩ := h
    rfl
  obtain ⟨b, c, t, x, rfl, bx, t0, t1, ax, hx, q⟩ := h
  have hu6 := hr.units
  refine ⟨_, (pss_cons (ps_par (i := 2) (j := 3) rfl sc_law_text_changed.nd rfl rfl (by decide) rfl rfl (pa_cons (pe_fn (f_law_take.mono (by first | decide | exact Nat.le_refl _)) hr rfl (pa_cons (pv 0) (pa_cons pe_int pa_nil))) (pa_cons (pe_fn (f_law_take.mono (by first | decide | exact Nat.le_refl _)) hr rfl (pa_cons (pv 0) (pa_cons (pe_op addN (pe_callB (lenK K) rfl T.n_len (by rfl) (pa_cons (pv 1) pa_nil)) pe_int) pa_nil))) pa_nil)) rfl)
    (pss_cons (ps_if (pt_cmpR (eqK K hu6) (pv 2) pe_int (nomark _)) (pss_one (ps_ret (pe_op addN (pv 1) (pv 1)))) pss_nil)
    (pss_cons (ps_if (pt_cmpR (eqK K hu6) (pv 2) pe_int (nomark _)) (pss_one (ps_ret (pe_op addN (pe_slice (slN K) (pv 1) po_none (po_some (pv 3))) (pe_slice (slN K) (pv 1) (po_some (pe_op addN (pv 3) pe_int)) po_none)))) pss_nil)
    (pss_one (ps_ret (pe_op addN (pe_op addN (pe_slice (slN K) (pv 1) po_none (po_some (pv 3))) (pe_fn (f_law_sign.mono (by first | decide | exact Nat.le_refl _)) hr rfl (pa_cons (pv 0) pa_nil))) (pe_slice (slN K) (pv 1) (po_some (pe_op addN (pv 3) (pv 2))) po_none))))))), ?_⟩
  refine ⟨_, rfl, b, c, t, 4, rfl, bx, t0, by omega, by decide, by decide, fun wy H1 w0 w1 st1 => ?_⟩
  refine ⟨_, rfl, _, rfl, _, _, rfl, ⟨sizeOk (Nat.le_trans hx (by decide)), rfl⟩, .inl ⟨_, _, rfl, rfl, b, c, _, _, rfl, st1.bx, by omega, by omega, by omega, by omega, fun a H2 a0 a1 st2 => ⟨_, _, rfl, ?_⟩⟩⟩
  have st2 := st1.trans st2
  have ub2 := st2.ub
  have lo2 := st2.le
  have sl : ∀ lo hi, (Txt.slice x lo hi).length ≤ x.length := fun lo hi => Txt.slice_le _ _ _
  have z16 : (20001 : Nat) ≤ sizeLine := by decide
  have ze : x.length ≤ sizeLine := by omega
  refine ⟨_, rfl, .inl ⟨rfl, _, rfl, ite2 (fun _ => ?_) (fun _ => ?_)⟩⟩
  · exact ⟨_, rfl, _, rfl, .inr (.inl ⟨_, _, rfl, rfl, by omega, q _ _ _ (asc_app ax ax) (by rw [str_app_len]; omega) (st2.more (by omega))⟩)⟩
  refine ⟨_, rfl, .inl ⟨rfl, _, rfl, ite2 (fun _ => ?_) (fun _ => ?_)⟩⟩
  · have s1 := sl none (some a)
    have s2 := sl (some (a + 1)) none
    exact ⟨_, rfl, _, rfl, _, rfl, .inr ⟨x, rfl, ze, _, rfl, _, rfl, .inl ⟨_, _, rfl, rfl, _, rfl, .inr ⟨x, rfl, ze, .inr (.inl ⟨_, _, rfl, rfl, by omega, q _ _ _ (asc_app (asc_slice ax) (asc_slice ax)) (by rw [str_app_len]; omega) (st2.more (by omega))⟩)⟩⟩⟩⟩
  · refine ⟨_, rfl, _, rfl, _, rfl, .inr ⟨x, rfl, ze, _, rfl, b, c, _, rfl, st2.bx, by omega, by omega, fun ch H3 hch st3 => ?_⟩⟩
    have st3 := st2.trans st3
    have s1 := sl none (some a)
    have s2 := sl (some (a + wy)) none
    have e1 : ((⟨#[ch]⟩ : Str)).length = 1 := rfl
    refine .inr (.inl ⟨_, _, rfl, rfl, by rw [e1]; omega, _, rfl, _, rfl, _, rfl, .inl ⟨_, _, rfl, rfl, _, rfl, .inr ⟨x, rfl, ze, .inr (.inl ⟨_, _, rfl, rfl, by rw [str_app_len, e1]; omega, q _ _ _ (asc_app (asc_app (asc_slice ax) (asc_one hch)) (asc_slice ax)) (by rw [str_app_len, str_app_len, e1]; omega) (st3.more (by omega))⟩)⟩⟩⟩)
end
end Z

set_option Elab.async false
set_option linter.all false
set_option maxRecDepth 100000
set_option maxHeartbeats 4000000
namespace Z
open PySem L2
/-- a book of plain texts -/
structure BkP (L n : Nat) (bk : List (Str × Str)) : Prop where
  ne : bk ≠ []
  le : bk.length ≤ n
  ok : ∀ q ∈ bk, Asc q.1 = true ∧ Asc q.2 = true ∧ q.1.length ≤ L ∧ q.2.length ≤ L
/-- what may stand in an entry's place -/
structure ItP (L : Nat) (d : PyData) : Prop where
  pl : Pl d = true
  no : noI d = true
  dp : d.depth ≤ 3
  wt : d.weight ≤ 3 * L + 110
def spEch (K : PySem.W.Frag) : Sp := fun vs H Q _ => ∃ (b c : Addr) (t : Int) (v u : V) (q : Str × Str) (bk : List (Str × Str)) (L n : Nat), vs = [.ref b, v, u] ∧ Bx H b c t ∧ 0 ≤ t ∧ t < 900000 ∧
  BkP L n bk ∧ L ≤ 300 ∧ n ≤ 61 ∧ q ∈ bk ∧ Den K (hid H b c) (.tuple [.str q.1, .str q.2]) v ∧ Den K (hid H b c) (bookD bk) u ∧
  ∀ (d : PyData) (x : V) (t' : Int) (H' : Hp), ItP L d → Den K H' d x → Step b c H H' t t' 5 → Q x H'
theorem itp2 {L : Nat} {d e : PyData} (h1 : Pl d = true) (h2 : Pl e = true) (h3 : noI d = true) (h4 : noI e = true) (h5 : d.depth ≤ 2) (h6 : e.depth ≤ 2) (h7 : d.weight + e.weight ≤ 3 * L + 108) : ItP L (.tuple [d, e]) := by
  refine ⟨by simp [Pl, Pls, h1, h2], by simp [noI, noIs, h3, h4], ?_, ?_⟩
  · simp only [PyData.depth, PyData.depthAll]
    omega
  · simp only [PyData.weight, PyData.weightAll]
    omega
section
variable {P : Program} {w : World} {K : PySem.W.Frag} {mg : Str → Option Value} {base : Heap} {f : Addr} {fd : FuncData}
theorem sc_law_entry_changed : FnScope ["_law_box", "_law_entry", "_law_book", "_law_way", "_law_name", "_law_code"] ["_law_box", "_law_entry", "_law_book"] (defScope (top i_law_entry_changed)) := ⟨rfl, rfl, rfl, by decide +kernel, rfl, by decide +kernel, by decide +kernel⟩
theorem ok_ech (F : Fun K "_law_entry_changed" "_law_entry_changed" (top i_law_entry_changed) f fd) (T : Nm mg) (f_law_take : Fn P w K mg base 1 "_law_take" ["_law_box", "_law_many"] spTk) (f_law_text_changed : Fn P w K mg base 3 "_law_text_changed" ["_law_box", "_law_text"] spTch) (f_law_odd : Fn P w K mg base 2 "_law_odd" ["_law_box"] (spOdd K)) : FnOk P w K mg base CX0 4 f fd ["_law_box", "_law_entry", "_law_book"] (spEch K) := by
  refine F.ok sc_law_entry_changed (fun vs H Q E h => ?_) (fun cdv A outer s H vs Q E hr h => ?_)
  · obtain ⟨b, c, t, v, u, q, bk, L, n, rfl, _⟩ := h
    rfl
  obtain ⟨b, c, t, v, u, ⟨x, y⟩, bk, L, n, rfl, bx, t0, t1, ok, hL, hn, hq, hv, hu, q⟩ := h
  have hu6 := hr.units
  refine ⟨_, (pss_cons (ps_set (i := 3) sc_law_entry_changed.nd rfl (Or.inl rfl) (pe_fn (f_law_take.mono (by first | decide | exact Nat.le_refl _)) hr rfl (pa_cons (pv 0) (pa_cons pe_int pa_nil))))
    (pss_cons (ps_asg (pv 1) (tupK K 2 rfl (pgs_cons (pg_name (i := 4) sc_law_entry_changed.nd rfl (Or.inl rfl)) (pgs_cons (pg_name (i := 5) sc_law_entry_changed.nd rfl (Or.inl rfl)) pgs_nil))))
    (pss_cons (ps_if (pt_cmpR (eqK K hu6) (pv 3) pe_int (nomark _)) (pss_one (ps_ret (tupN (pa_cons (pe_fn (f_law_text_changed.mono (by first | decide | exact Nat.le_refl _)) hr rfl (pa_cons (pv 0) (pa_cons (pv 4) pa_nil))) (pa_cons (pv 5) pa_nil))))) pss_nil)
    (pss_cons (ps_if (pt_cmpR (eqK K hu6) (pv 3) pe_int (nomark _)) (pss_one (ps_ret (tupN (pa_cons (pv 4) (pa_cons (pe_fn (f_law_text_changed.mono (by first | decide | exact Nat.le_refl _)) hr rfl (pa_cons (pv 0) (pa_cons (pv 5) pa_nil))) pa_nil))))) pss_nil)
    (pss_cons (ps_if (pt_cmpR (eqK K hu6) (pv 3) pe_int (nomark _)) (pss_one (ps_ret (tupN (pa_cons (pe_ix (ixK K) (pe_ix (ixK K) (pv 2) (pe_fn (f_law_take.mono (by first | decide | exact Nat.le_refl _)) hr rfl (pa_cons (pv 0) (pa_cons (pe_callB (lenK K) rfl T.n_len (by rfl) (pa_cons (pv 2) pa_nil)) pa_nil))) (fun _ _ => rfl)) pe_int (fun _ _ => rfl)) (pa_cons (pv 5) pa_nil))))) pss_nil)
    (pss_cons (ps_if (pt_cmpR (eqK K hu6) (pv 3) pe_int (nomark _)) (pss_one (ps_ret (tupN (pa_cons (pe_fn (f_law_odd.mono (by first | decide | exact Nat.le_refl _)) hr rfl (pa_cons (pv 0) pa_nil)) (pa_cons (pv 5) pa_nil))))) pss_nil)
    (pss_cons (ps_if (pt_cmpR (eqK K hu6) (pv 3) pe_int (nomark _)) (pss_one (ps_ret (tupN (pa_cons (pv 4) (pa_cons (pe_fn (f_law_odd.mono (by first | decide | exact Nat.le_refl _)) hr rfl (pa_cons (pv 0) pa_nil)) pa_nil))))) pss_nil)
    (pss_one (ps_ret (pe_ix (ixK K) (lstN (pa_cons (pe_callTy (listN K) rfl T.n_list (by rfl) (pa_cons (pv 1) pa_nil)) (pa_cons (tupN (pa_cons (pv 5) (pa_cons (pv 4) pa_nil))) (pa_cons (pe_ix (ixK K) (lstN (pa_cons (tupN (pa_cons (pv 4) pa_nil)) (pa_cons (tupN (pa_cons (pv 4) (pa_cons (pv 5) (pa_cons (pv 5) pa_nil)))) pa_nil))) (pe_fn (f_law_take.mono (by first | decide | exact Nat.le_refl _)) hr rfl (pa_cons (pv 0) (pa_cons pe_int pa_nil))) (fun _ _ => rfl)) pa_nil)))) (pe_op op_sub (pv 3) pe_int) (fun _ _ => rfl))))))))))), ?_⟩
  refine ⟨_, rfl, b, c, t, 8, rfl, bx, t0, by omega, by decide, by decide, fun wy H1 w0 w1 st1 => gn ?_⟩
  have hv1 := hv.same st1.sm
  have hu1 := hu.same st1.sm
  obtain ⟨ax, ay, lx, ly⟩ := ok.ok _ hq
  have ax : Asc x = true := ax
  have ay : Asc y = true := ay
  have lx : x.length ≤ L := lx
  have ly : y.length ≤ L := ly
  obtain ⟨pe, rfl, hT⟩ := hv1.pair
  refine ⟨_, rfl, pe, _, rfl, hid_same.seqT hT, rfl, _, _, rfl, _, _, rfl, rfl, ?_⟩
  have ub1 := st1.ub
  have lo1 := st1.le
  obtain ⟨l, us, rfl, hS, hds⟩ : ∃ l us, u = .ref l ∧ SqL K (hid H1 b c) l us ∧ Dens K (hid H1 b c) (bk.map fun q => .tuple [.str q.1, .str q.2]) us := by
    unfold bookD at hu1
    unfold Den at hu1
    exact hu1
  have hul : us.length = bk.length := by rw [hds.len, List.length_map]
  have hpos : 0 < bk.length := List.length_pos_iff.mpr ok.ne
  have hle := ok.le
  have px : Pl (.str x) = true := by simpa only [Pl] using ax
  have py : Pl (.str y) = true := by simpa only [Pl] using ay
  have wx : PyData.weight (.str x) = x.length := rfl
  have wy' : PyData.weight (.str y) = y.length := rfl
  refine ⟨_, rfl, .inl ⟨rfl, _, rfl, ite2 (fun _ => ?_) (fun c0 => ?_)⟩⟩
  · refine ⟨_, rfl, _, rfl, b, c, _, x, rfl, st1.bx, by omega, by omega, ax, by omega, fun z t' H2 az lz st2 => ⟨_, rfl, by show 2 ≤ sizeLine; decide, fun p H3 n3 => q _ _ _ _ (itp2 (by simpa only [Pl] using az) py rfl rfl (Nat.zero_le _) (Nat.zero_le _) ?_) (dtup n3.at (dcons dstr (dcons dstr dnil))) (((st1.trans st2).newN n3).more (by omega))⟩⟩
    have : PyData.weight (.str z) = z.length := rfl
    omega
  refine ⟨_, rfl, .inl ⟨rfl, _, rfl, ite2 (fun _ => ?_) (fun c1 => ?_)⟩⟩
  · refine ⟨_, rfl, _, rfl, _, rfl, b, c, _, y, rfl, st1.bx, by omega, by omega, ay, by omega, fun z t' H2 az lz st2 => ⟨by show 2 ≤ sizeLine; decide, fun p H3 n3 => q _ _ _ _ (itp2 px (by simpa only [Pl] using az) rfl rfl (Nat.zero_le _) (Nat.zero_le _) ?_) (dtup n3.at (dcons dstr (dcons dstr dnil))) (((st1.trans st2).newN n3).more (by omega))⟩⟩
    have : PyData.weight (.str z) = z.length := rfl
    omega
  refine ⟨_, rfl, .inl ⟨rfl, _, rfl, ite2 (fun _ => ?_) (fun c2 => ?_)⟩⟩
  · refine ⟨_, rfl, _, rfl, _, rfl, _, _, rfl, .inl ⟨_, hid_same.seq hS, rfl⟩, b, c, _, _, rfl, st1.bx, by omega, by omega, by omega, by omega, fun r H2 r0 r1 st2 => ?_⟩
    have hri : r.toNat < bk.length := by omega
    obtain ⟨e, he, de⟩ := hds.get (i := r.toNat) (d := .tuple [.str bk[r.toNat].1, .str bk[r.toNat].2]) (by rw [List.getElem?_map, List.getElem?_eq_getElem hri]; rfl)
    obtain ⟨pa, rfl, hT2⟩ := de.pair
    obtain ⟨a1, a2, a3, a4⟩ := ok.ok _ (List.getElem_mem hri)
    have sm2 := st2.sm.trans hid_same
    refine .inl ⟨l, _, r, _, rfl, rfl, sm2.seq hS, at_nat r0 he, .inr (.inl ⟨pa, _, 0, _, rfl, rfl, sm2.seqT hT2, rfl, _, rfl, by show 2 ≤ sizeLine; decide, fun p H3 n3 => q _ _ _ _ (itp2 (by simpa only [Pl] using a1) py rfl rfl (Nat.zero_le _) (Nat.zero_le _) ?_) (dtup n3.at (dcons dstr (dcons dstr dnil))) (((st1.trans st2).newN n3).more (by omega))⟩)⟩
    have : PyData.weight (.str bk[r.toNat].1) = bk[r.toNat].1.length := rfl
    omega
  refine ⟨_, rfl, .inl ⟨rfl, _, rfl, ite2 (fun _ => ?_) (fun c3 => ?_)⟩⟩
  · refine ⟨_, rfl, b, c, _, rfl, st1.bx, by omega, by omega, fun d v' H2 hd dv st2 => ?_⟩
    obtain ⟨f1, f2, f3, f4, _⟩ := odd_fine d hd
    exact ⟨_, rfl, by show 2 ≤ sizeLine; decide, fun p H3 n3 => q _ _ _ _ (itp2 f1 py f2 rfl f3 (Nat.zero_le _) (by omega)) (dtup n3.at (dcons (dv.same n3.same) (dcons dstr dnil))) (((st1.trans st2).newN n3).more (by omega))⟩
  refine ⟨_, rfl, .inl ⟨rfl, _, rfl, ite2 (fun _ => ?_) (fun c4 => ?_)⟩⟩
  · refine ⟨_, rfl, _, rfl, b, c, _, rfl, st1.bx, by omega, by omega, fun d v' H2 hd dv st2 => ?_⟩
    obtain ⟨f1, f2, f3, f4, _⟩ := odd_fine d hd
    exact ⟨by show 2 ≤ sizeLine; decide, fun p H3 n3 => q _ _ _ _ (itp2 px f1 rfl f2 (Nat.zero_le _) f3 (by omega)) (dtup n3.at (dcons dstr (dcons (dv.same n3.same) dnil))) (((st1.trans st2).newN n3).more (by omega))⟩
  have h5 : 5 ≤ wy := by
    have e0 : wy ≠ 0 := fun z => c0 (by rw [z]; rfl)
    have e1 : wy ≠ 1 := fun z => c1 (by rw [z]; rfl)
    have e2 : wy ≠ 2 := fun z => c2 (by rw [z]; rfl)
    have e3 : wy ≠ 3 := fun z => c3 (by rw [z]; rfl)
    have e4 : wy ≠ 4 := fun z => c4 (by rw [z]; rfl)
    omega
  refine ⟨_, rfl, pe, _, rfl, .inr (hid_same.seqT hT), fun l1 H2 n2 => ?_⟩
  refine ⟨_, rfl, _, rfl, by show 2 ≤ sizeLine; decide, fun p3 H3 n3 => ?_⟩
  refine ⟨_, rfl, by show 1 ≤ sizeLine; decide, fun p4 H4 n4 => ?_⟩
  refine ⟨_, rfl, _, rfl, _, rfl, by show 3 ≤ sizeLine; decide, fun p5 H5 n5 => ?_⟩
  refine ⟨by show 2 ≤ sizeLine; decide, fun p6 H6 n6 => ?_⟩
  have s5 := n5.same.trans n6.same
  have s4 := n4.same.trans s5
  have s3 := n3.same.trans s4
  have s2 := n2.same.trans s3
  have st6 := st1.trans (Step.same st1.bx s2)
  refine ⟨_, rfl, b, c, _, 2, rfl, st6.bx, by omega, by omega, by decide, by decide, fun r H7 r0 r1 st7 => ?_⟩
  obtain ⟨b6, c6⟩ := (Step.same st1.bx (n2.same.trans (n3.same.trans (n4.same.trans n5.same)))).bx.ne_new n6.nn
  obtain ⟨b2, c2'⟩ := st1.bx.ne_new n2.nn
  obtain ⟨b3, c3'⟩ := (Step.same st1.bx n2.same).bx.ne_new n3.nn
  obtain ⟨b4, c4'⟩ := (Step.same st1.bx (n2.same.trans n3.same)).bx.ne_new n4.nn
  obtain ⟨b5, c5'⟩ := (Step.same st1.bx (n2.same.trans (n3.same.trans n4.same))).bx.ne_new n5.nn
  have g2 := st7.old (s3 _ _ n2.at) b2 c2'
  have g3 := st7.old (s4 _ _ n3.at) b3 c3'
  have g4 := st7.old (s5 _ _ n4.at) b4 c4'
  have g5 := st7.old (n6.same _ _ n5.at) b5 c5'
  have g6 := st7.old n6.at b6 c6
  have st7' := st6.trans st7
  obtain ⟨e, he, d, hd, de⟩ : ∃ e, ([V.ref p4, .ref p5] : List V)[r.toNat]? = some e ∧ ∃ d, ItP L d ∧ Den K H7 d e := by
    have : r = 0 ∨ r = 1 := by omega
    rcases this with rfl | rfl
    · refine ⟨_, rfl, .tuple [.str x], ⟨?_, rfl, by simp [PyData.depth, PyData.depthAll], ?_⟩, dtup g4 (dcons dstr dnil)⟩
      · simp [Pl, Pls, ax]
      · simp only [PyData.weight, PyData.weightAll]
        have : x.cps.size = x.length := rfl
        omega
    · refine ⟨_, rfl, .tuple [.str x, .str y, .str y], ⟨?_, rfl, by simp [PyData.depth, PyData.depthAll], ?_⟩, dtup g5 (dcons dstr (dcons dstr (dcons dstr dnil)))⟩
      · simp [Pl, Pls, ax, ay]
      · simp only [PyData.weight, PyData.weightAll]
        have e1 : x.cps.size = x.length := rfl
        have e2 : y.cps.size = y.length := rfl
        omega
  refine .inl ⟨p6, _, r, e, rfl, rfl, SqL.of g6, at_nat r0 he, by show 3 ≤ sizeLine; decide, fun p8 H8 n8 => ?_⟩
  refine ⟨_, rfl, _, _, rfl, rfl, ?_⟩
  have st8 := (st7'.newN n8).more (M := 5) (by omega)
  have : wy = 5 ∨ wy = 6 ∨ wy = 7 := by omega
  rcases this with rfl | rfl | rfl
  · refine .inl ⟨p8, _, _, .ref l1, rfl, rfl, SqL.of n8.at, rfl, q (.list [.str x, .str y]) _ _ _ ⟨?_, rfl, by simp [PyData.depth, PyData.depthAll], ?_⟩ (dlst (n8.same _ _ g2) (dcons dstr (dcons dstr dnil))) st8⟩
    · simp [Pl, Pls, ax, ay]
    · simp only [PyData.weight, PyData.weightAll]
      have e1 : x.cps.size = x.length := rfl
      have e2 : y.cps.size = y.length := rfl
      omega
  · refine .inl ⟨p8, _, _, .ref p3, rfl, rfl, SqL.of n8.at, rfl, q _ _ _ _ (itp2 py px rfl rfl (Nat.zero_le _) (Nat.zero_le _) (by omega)) (dtup (n8.same _ _ g3) (dcons dstr (dcons dstr dnil))) st8⟩
  · exact .inl ⟨p8, _, _, e, rfl, rfl, SqL.of n8.at, rfl, q d _ _ _ hd (de.same n8.same) st8⟩
end
end Z

set_option Elab.async false
set_option linter.all false
set_option maxRecDepth 100000
set_option maxHeartbeats 4000000
namespace Z
open PySem L2
/-- what changed tells -/
structure ThP (L n : Nat) (d : PyData) : Prop where
  pl : Pl d = true
  dp : d.depth ≤ 5
  wt : d.weight ≤ (n + 1) * (2 * L + 3) + 3 * L + 120
  it : ∀ ds, d = .list ds → ds.length ≤ n + 1 ∧ ∀ e ∈ ds, isEntryD e = true → e.weight ≤ 3 * L + 110
def spChg (K : PySem.W.Frag) : Sp := fun vs H Q _ => ∃ (b c : Addr) (t : Int) (u : V) (bk : List (Str × Str)) (L n : Nat), vs = [.ref b, u] ∧ Bx H b c t ∧ 0 ≤ t ∧ t < 800000 ∧
  BkP L n bk ∧ L ≤ 300 ∧ n ≤ 61 ∧ Den K (hid H b c) (bookD bk) u ∧
  ∀ (d : PyData) (x : V) (t' : Int) (H' : Hp), ThP L n d → Den K (hid H' b c) d x → Step b c H H' t t' 10 → Q x H'
theorem densCat {K : PySem.W.Frag} {H : Hp} : ∀ {ds es : List PyData} {us vs : List V}, Dens K H ds us → Dens K H es vs → Dens K H (ds ++ es) (us ++ vs)
  | [], es, us, vs, h, h' => by
    unfold Dens at h
    subst h
    exact h'
  | d :: ds, es, us, vs, h, h' => by
    unfold Dens at h
    obtain ⟨x, xs, rfl, hx, hxs⟩ := h
    exact dcons hx (densCat hxs h')
theorem densDrop {K : PySem.W.Frag} {H : Hp} {ds : List PyData} {vs : List V} (h : Dens K H ds vs) (n : Nat) : Dens K H (ds.drop n) (vs.drop n) := by
  have hl := h.len
  refine Dens.of_get (by rw [List.length_drop, List.length_drop, hl]) fun j d' v' h1 h2 => ?_
  rw [List.getElem?_drop] at h1 h2
  exact densAt h h1 h2
abbrev ent (q : Str × Str) : PyData := .tuple [.str q.1, .str q.2]
theorem BkP.one {L n : Nat} {bk : List (Str × Str)} (h : BkP L n bk) : ∀ e ∈ bk.map ent, Pl e = true ∧ noI e = true ∧ e.depth ≤ 1 ∧ e.weight ≤ 2 * L + 2 := fun e he => by
  obtain ⟨q, hq, rfl⟩ := List.mem_map.mp he
  obtain ⟨a, b, c, d⟩ := h.ok q hq
  refine ⟨by simp [Pl, Pls, a, b], rfl, by simp [PyData.depth, PyData.depthAll], ?_⟩
  simp only [PyData.weight, PyData.weightAll]
  have e1 : q.1.cps.size = q.1.length := rfl
  have e2 : q.2.cps.size = q.2.length := rfl
  omega
theorem depthAll_le {m : Nat} : ∀ {ds : List PyData}, (∀ e ∈ ds, e.depth ≤ m) → PyData.depthAll ds ≤ m
  | [], _ => by simp [PyData.depthAll]
  | d :: ds, h => by
    have := depthAll_le (m := m) (ds := ds) fun e he => h e (List.mem_cons_of_mem _ he)
    have := h d List.mem_cons_self
    simp only [PyData.depthAll]
    omega
theorem weightAll_le {m : Nat} : ∀ {ds : List PyData}, (∀ e ∈ ds, e.weight ≤ m) → PyData.weightAll ds ≤ ds.length * (m + 1)
  | [], _ => by simp [PyData.weightAll]
  | d :: ds, h => by
    have := weightAll_le (m := m) (ds := ds) fun e he => h e (List.mem_cons_of_mem _ he)
    have := h d List.mem_cons_self
    simp only [PyData.weightAll, List.length_cons, Nat.succ_mul]
    omega
theorem weightAll_app : ∀ (ds es : List PyData), PyData.weightAll (ds ++ es) = PyData.weightAll ds + PyData.weightAll es
  | [], es => by simp [PyData.weightAll]
  | d :: ds, es => by
    have := weightAll_app ds es
    simp only [List.cons_append, PyData.weightAll]
    omega
theorem BkP.cut {L n : Nat} {bk : List (Str × Str)} (h : BkP L n bk) {k m : Nat} (hkm : k ≤ m) : ∀ A B, A = (bk.map ent).take k → B = (bk.map ent).drop m → A.length + B.length ≤ n ∧ PyData.weightAll A + PyData.weightAll B ≤ n * (2 * L + 3) ∧ (∀ e ∈ A, e ∈ bk.map ent) ∧ (∀ e ∈ B, e ∈ bk.map ent) := by
  rintro A B rfl rfl
  have hle := h.le
  have h1 : ∀ e ∈ (bk.map ent).take k, e ∈ bk.map ent := fun e he => List.mem_of_mem_take he
  have h2 : ∀ e ∈ (bk.map ent).drop m, e ∈ bk.map ent := fun e he => List.mem_of_mem_drop he
  have hl : ((bk.map ent).take k).length + ((bk.map ent).drop m).length ≤ n := by
    rw [List.length_take, List.length_drop, List.length_map]; omega
  refine ⟨hl, ?_, h1, h2⟩
  have w1 : _ ≤ _ * (2 * L + 3) := weightAll_le (m := 2 * L + 2) (ds := (bk.map ent).take k) fun e he => (h.one e (h1 e he)).2.2.2
  have w2 : _ ≤ _ * (2 * L + 3) := weightAll_le (m := 2 * L + 2) (ds := (bk.map ent).drop m) fun e he => (h.one e (h2 e he)).2.2.2
  have := Nat.mul_le_mul_right (2 * L + 3) hl
  rw [Nat.add_mul] at this
  omega
theorem BkP.mid {L n : Nat} {bk : List (Str × Str)} (h : BkP L n bk) {k m : Nat} (hkm : k ≤ m) {d : PyData} (h1 : Pl d = true) (h2 : d.depth ≤ 4) (h3 : d.weight ≤ 3 * L + 110) : ThP L n (.list ((bk.map ent).take k ++ [d] ++ (bk.map ent).drop m)) := by
  obtain ⟨c1, c2, c3, c4⟩ := h.cut hkm _ _ rfl rfl
  generalize (bk.map ent).take k = A at *
  generalize (bk.map ent).drop m = B at *
  have all : ∀ e ∈ A ++ [d] ++ B, e = d ∨ e ∈ bk.map ent := fun e he => by
    rcases List.mem_append.mp he with he | he
    · rcases List.mem_append.mp he with he | he
      · exact .inr (c3 e he)
      · exact .inl (List.mem_singleton.mp he)
    · exact .inr (c4 e he)
  refine ⟨?_, ?_, ?_, fun ds e => ?_⟩
  · simp only [Pl]
    refine pls_iff.mpr fun e he => ?_
    rcases all e he with rfl | he
    · exact h1
    · exact (h.one e he).1
  · simp only [PyData.depth]
    have := depthAll_le (m := 4) (ds := A ++ [d] ++ B) fun e he => by
      rcases all e he with rfl | he
      · exact h2
      · have := (h.one e he).2.2.1; omega
    omega
  · simp only [PyData.weight, weightAll_app]
    have : PyData.weightAll [d] = d.weight + 1 := by simp [PyData.weightAll]
    rw [Nat.add_mul]
    omega
  · cases e
    refine ⟨?_, fun e he _ => ?_⟩
    · rw [List.length_append, List.length_append, List.length_singleton]; omega
    · rcases all e he with rfl | he
      · exact h3
      · have := (h.one e he).2.2.2; omega
theorem BkP.gap {L n : Nat} {bk : List (Str × Str)} (h : BkP L n bk) {k m : Nat} (hkm : k ≤ m) : ThP L n (.list ((bk.map ent).take k ++ (bk.map ent).drop m)) := by
  obtain ⟨c1, c2, c3, c4⟩ := h.cut hkm _ _ rfl rfl
  generalize (bk.map ent).take k = A at *
  generalize (bk.map ent).drop m = B at *
  have all : ∀ e ∈ A ++ B, e ∈ bk.map ent := fun e he => by
    rcases List.mem_append.mp he with he | he
    · exact c3 e he
    · exact c4 e he
  refine ⟨?_, ?_, ?_, fun ds e => ?_⟩
  · simp only [Pl]
    exact pls_iff.mpr fun e he => (h.one e (all e he)).1
  · simp only [PyData.depth]
    have := depthAll_le (m := 4) (ds := A ++ B) fun e he => by have := (h.one e (all e he)).2.2.1; omega
    omega
  · simp only [PyData.weight, weightAll_app]
    rw [Nat.add_mul]
    omega
  · cases e
    refine ⟨by rw [List.length_append]; omega, fun e he _ => ?_⟩
    have := (h.one e (all e he)).2.2.2; omega
/-- the whole book in something -/
theorem BkP.whole {L n : Nat} {bk : List (Str × Str)} (h : BkP L n bk) : Pl (.list (bk.map ent)) = true ∧ noI (.list (bk.map ent)) = true ∧ PyData.depthAll (bk.map ent) ≤ 1 ∧ PyData.weightAll (bk.map ent) ≤ n * (2 * L + 3) := by
  refine ⟨?_, ?_, depthAll_le fun e he => (h.one e he).2.2.1, ?_⟩
  · simp only [Pl]
    exact pls_iff.mpr fun e he => (h.one e he).1
  · simp only [noI, Bool.and_eq_true]
    refine ⟨?_, noIs_iff.mpr fun e he => (h.one e he).2.1⟩
    cases bk with
    | nil => rfl
    | cons q bk => rfl
  · have : _ ≤ _ * (2 * L + 3) := weightAll_le (m := 2 * L + 2) (ds := bk.map ent) fun e he => (h.one e he).2.2.2
    have := Nat.mul_le_mul_right (2 * L + 3) (show (bk.map ent).length ≤ n by rw [List.length_map]; exact h.le)
    omega
section
variable {P : Program} {w : World} {K : PySem.W.Frag} {mg : Str → Option Value} {base : Heap} {f : Addr} {fd : FuncData}
theorem sc_law_changed : FnScope ["_law_box", "_law_book", "_law_way", "_law_at"] ["_law_box", "_law_book"] (defScope (top i_law_changed)) := ⟨rfl, rfl, rfl, by decide +kernel, rfl, by decide +kernel, by decide +kernel⟩
theorem ok_chg (F : Fun K "_law_changed" "_law_changed" (top i_law_changed) f fd) (T : Nm mg) (f_law_take : Fn P w K mg base 1 "_law_take" ["_law_box", "_law_many"] spTk) (f_law_entry_changed : Fn P w K mg base 4 "_law_entry_changed" ["_law_box", "_law_entry", "_law_book"] (spEch K)) (f_law_odd : Fn P w K mg base 2 "_law_odd" ["_law_box"] (spOdd K)) : FnOk P w K mg base CX0 5 f fd ["_law_box", "_law_book"] (spChg K) := by
  refine F.ok sc_law_changed (fun vs H Q E h => ?_) (fun cdv A outer s H vs Q E hr h => ?_)
  · obtain ⟨b, c, t, u, bk, L, n, rfl, _⟩ := h
    rfl
  obtain ⟨b, c, t, u, bk, L, n, rfl, bx, t0, t1, ok, hL, hn, hu, q⟩ := h
  have hu6 := hr.units
  refine ⟨_, (pss_cons (ps_par (i := 2) (j := 3) rfl sc_law_changed.nd rfl rfl (by decide) rfl rfl (pa_cons (pe_fn (f_law_take.mono (by first | decide | exact Nat.le_refl _)) hr rfl (pa_cons (pv 0) (pa_cons pe_int pa_nil))) (pa_cons (pe_fn (f_law_take.mono (by first | decide | exact Nat.le_refl _)) hr rfl (pa_cons (pv 0) (pa_cons (pe_callB (lenK K) rfl T.n_len (by rfl) (pa_cons (pv 1) pa_nil)) pa_nil))) pa_nil)) rfl)
    (pss_cons (ps_if (pt_cmpR op_lt (pv 2) pe_int (nomark _)) (pss_one (ps_ret (pe_op addN (pe_op addN (pe_slice (slN K) (pv 1) po_none (po_some (pv 3))) (lstN (pa_cons (pe_fn (f_law_entry_changed.mono (by first | decide | exact Nat.le_refl _)) hr rfl (pa_cons (pv 0) (pa_cons (pe_ix (ixK K) (pv 1) (pv 3) (fun _ _ => rfl)) (pa_cons (pv 1) pa_nil)))) pa_nil))) (pe_slice (slN K) (pv 1) (po_some (pe_op addN (pv 3) pe_int)) po_none)))) pss_nil)
    (pss_cons (ps_if (pt_cmpR (eqK K hu6) (pv 2) pe_int (nomark _)) (pss_one (ps_ret (pe_op addN (pe_op addN (pe_slice (slN K) (pv 1) po_none (po_some (pv 3))) (lstN (pa_cons (pe_fn (f_law_odd.mono (by first | decide | exact Nat.le_refl _)) hr rfl (pa_cons (pv 0) pa_nil)) pa_nil))) (pe_slice (slN K) (pv 1) (po_some (pe_op addN (pv 3) pe_int)) po_none)))) pss_nil)
    (pss_cons (ps_if (pt_cmpR (eqK K hu6) (pv 2) pe_int (nomark _)) (pss_one (ps_ret (pe_op addN (pe_slice (slN K) (pv 1) po_none (po_some (pv 3))) (pe_slice (slN K) (pv 1) (po_some (pe_op addN (pv 3) pe_int)) po_none)))) pss_nil)
    (pss_cons (ps_if (pt_cmpR (eqK K hu6) (pv 2) pe_int (nomark _)) (pss_one (ps_ret (pe_op addN (pe_op addN (pe_slice (slN K) (pv 1) po_none (po_some (pv 3))) (lstN (pa_cons (pe_ix (ixK K) (pv 1) (pe_fn (f_law_take.mono (by first | decide | exact Nat.le_refl _)) hr rfl (pa_cons (pv 0) (pa_cons (pe_callB (lenK K) rfl T.n_len (by rfl) (pa_cons (pv 1) pa_nil)) pa_nil))) (fun _ _ => rfl)) pa_nil))) (pe_slice (slN K) (pv 1) (po_some (pv 3)) po_none)))) pss_nil)
    (pss_one (ps_ret (pe_ix (ixK K) (lstN (pa_cons (pe_callTy (tupleN K) rfl T.n_tuple (by rfl) (pa_cons (pv 1) pa_nil)) (pa_cons (pe_fn (f_law_odd.mono (by first | decide | exact Nat.le_refl _)) hr rfl (pa_cons (pv 0) pa_nil)) (pa_cons (tupN (pa_cons (pv 1) pa_nil)) (pa_cons (lstN (pa_cons (pv 1) pa_nil)) pa_nil))))) (pe_fn (f_law_take.mono (by first | decide | exact Nat.le_refl _)) hr rfl (pa_cons (pv 0) (pa_cons pe_int pa_nil))) (fun _ _ => rfl))))))))), ?_⟩
  obtain ⟨l, us, rfl, hS, hds⟩ : ∃ l us, u = .ref l ∧ SqL K (hid H b c) l us ∧ Dens K (hid H b c) (bk.map fun q => .tuple [.str q.1, .str q.2]) us := by
    unfold bookD at hu
    unfold Den at hu
    exact hu
  have hul : us.length = bk.length := by rw [hds.len, List.length_map]
  have hpos : 0 < bk.length := List.length_pos_iff.mpr ok.ne
  have hle := ok.le
  refine ⟨_, rfl, b, c, t, 8, rfl, bx, t0, by omega, by decide, by decide, fun wy H1 w0 w1 st1 => ?_⟩
  refine ⟨_, rfl, _, rfl, _, _, rfl, .inl ⟨_, (st1.sm.trans hid_same).seq hS, rfl⟩, b, c, _, _, rfl, st1.bx, by omega, by omega, by omega, by omega, fun a H2 a0 a1 st2 => ⟨_, _, rfl, ?_⟩⟩
  have st2 := st1.trans st2
  have ub2 := st2.ub
  have lo2 := st2.le
  have hS2 := st2.sm.seq hS
  have hds2 := hds.same st2.sm
  have bx2 := st2.bx
  obtain ⟨k, rfl⟩ : ∃ k : Nat, a = k := ⟨a.toNat, by omega⟩
  have kl : k < bk.length := by omega
  have ek1 : ((k : Int) + 1) = ((k + 1 : Nat) : Int) := by omega
  have big : ∀ m : Nat, m ≤ 1000 → m ≤ sizeLine := fun m h => Nat.le_trans h (by decide)
  have tl : (us.take k).length ≤ 61 := by rw [List.length_take]; omega
  have dl : ∀ m, (us.drop m).length ≤ 61 := fun m => by rw [List.length_drop]; omega
  have fin : ∀ (m : Nat), k ≤ m → ∀ (d : PyData) (v : V) (H5 H6 : Hp) (p : Addr) (t' : Int), Pl d = true → d.depth ≤ 4 → d.weight ≤ 3 * L + 110 → Den K (hid H5 b c) d v → New H5 p (.lst (us.take k ++ [v] ++ us.drop m)) H6 → Step b c H H5 t t' 10 → Q (.ref p) H6 := fun m hm d v H5 H6 p t' h1 h2 h3 dv n st => by
    obtain ⟨pb, pc⟩ := st.bx.ne_new n.nn
    refine q _ _ _ _ (ok.mid hm h1 h2 h3) ?_ (st.newN n)
    have sm := Same.hid (b := b) (c := c) n.same
    have dd := (hds.same st.sm).same sm
    exact Den.list (SqL.of (by rw [hid_of pb pc]; exact n.at)) (densCat (densCat (densFirst dd k) (dcons (dv.same sm) dnil)) (densDrop dd m))
  have geti : ∀ (r : Nat) (hr : r < bk.length), ∃ v, us[r]? = some v ∧ Den K (hid H b c) (ent bk[r]) v := fun r hr => hds.get (by rw [List.getElem?_map, List.getElem?_eq_getElem hr]; rfl)
  -- an item in the middle
  refine ⟨_, rfl, _, _, rfl, rfl, _, rfl, ite2 (fun _ => ?_) (fun c0 => ?_)⟩
  · refine ⟨_, rfl, _, rfl, _, rfl, .inl ⟨l, us, rfl, hid_same.seq hS2, fun p1 H3 n3 => ?_⟩⟩
    rw [cut_to] at n3
    have st3 := st2.newN n3
    obtain ⟨b3, c3⟩ := st2.bx.ne_new n3.nn
    obtain ⟨ve, hve, dve⟩ := geti k kl
    refine ⟨_, rfl, _, rfl, _, rfl, .inl ⟨l, _, _, ve, rfl, rfl, (st3.sm.trans hid_same).seq hS, atI_nat hve, _, rfl, b, c, _, ve, _, bk[k], bk, L, n, rfl, st3.bx, by omega, by omega, ok, hL, hn, List.getElem_mem kl, dve.same st3.sm, hu.same st3.sm, fun d x t' H4 hi dx st4 => ?_⟩⟩
    have ub4 := st4.ub
    have lo4 := st4.le
    refine ⟨by show 1 ≤ sizeLine; decide, fun p2 H5 n5 => .inr (.inr ⟨p1, p2, _, _, rfl, rfl, n5.same _ _ (st4.old n3.at b3 c3), n5.at, big _ (by simp only [List.length_singleton]; omega), fun p3 H6 n6 => ?_⟩)⟩
    have dxh := Den.hide st4.bx hi.no dx
    have st6 := ((st3.trans st4).newN n5).newN n6
    refine ⟨_, rfl, _, rfl, .inl ⟨_, _, rfl, rfl, _, rfl, .inl ⟨l, us, rfl, (st6.sm.trans hid_same).seq hS, fun p4 H7 n7 => ?_⟩⟩⟩
    rw [ek1, cut_from] at n7
    exact .inr (.inr ⟨p3, p4, _, _, rfl, rfl, n7.same _ _ n6.at, n7.at, big _ (by have := dl (k + 1); rw [List.length_append, List.length_singleton]; omega), fun p5 H8 n8 => fin (k + 1) (by omega) d x _ _ _ _ hi.pl (by have := hi.dp; omega) hi.wt (dxh.same (Same.hid (n5.same.trans (n6.same.trans n7.same)))) n8 ((st6.newN n7).more (by omega))⟩)
  refine ⟨_, rfl, .inl ⟨rfl, _, rfl, ite2 (fun _ => ?_) (fun c1 => ?_)⟩⟩
  · refine ⟨_, rfl, _, rfl, _, rfl, .inl ⟨l, us, rfl, hid_same.seq hS2, fun p1 H3 n3 => ?_⟩⟩
    rw [cut_to] at n3
    have st3 := st2.newN n3
    obtain ⟨b3, c3⟩ := st2.bx.ne_new n3.nn
    refine ⟨_, rfl, b, c, _, rfl, st3.bx, by omega, by omega, fun d x H4 hi dx st4 => ?_⟩
    obtain ⟨f1, f2, f3, f4, _⟩ := odd_fine d hi
    refine ⟨by show 1 ≤ sizeLine; decide, fun p2 H5 n5 => .inr (.inr ⟨p1, p2, _, _, rfl, rfl, n5.same _ _ (st4.old n3.at b3 c3), n5.at, big _ (by simp only [List.length_singleton]; omega), fun p3 H6 n6 => ?_⟩)⟩
    have dxh := Den.hide st4.bx f2 dx
    have st6 := ((st3.trans st4).newN n5).newN n6
    refine ⟨_, rfl, _, rfl, .inl ⟨_, _, rfl, rfl, _, rfl, .inl ⟨l, us, rfl, (st6.sm.trans hid_same).seq hS, fun p4 H7 n7 => ?_⟩⟩⟩
    rw [ek1, cut_from] at n7
    exact .inr (.inr ⟨p3, p4, _, _, rfl, rfl, n7.same _ _ n6.at, n7.at, big _ (by have := dl (k + 1); rw [List.length_append, List.length_singleton]; omega), fun p5 H8 n8 => fin (k + 1) (by omega) d x _ _ _ _ f1 (by omega) (by omega) (dxh.same (Same.hid (n5.same.trans (n6.same.trans n7.same)))) n8 ((st6.newN n7).more (by omega))⟩)
  refine ⟨_, rfl, .inl ⟨rfl, _, rfl, ite2 (fun _ => ?_) (fun c2 => ?_)⟩⟩
  · refine ⟨_, rfl, _, rfl, _, rfl, .inl ⟨l, us, rfl, hid_same.seq hS2, fun p1 H3 n3 => ?_⟩⟩
    rw [cut_to] at n3
    have st3 := st2.newN n3
    refine ⟨_, rfl, _, rfl, .inl ⟨_, _, rfl, rfl, _, rfl, .inl ⟨l, us, rfl, (st3.sm.trans hid_same).seq hS, fun p4 H7 n7 => ?_⟩⟩⟩
    rw [ek1, cut_from] at n7
    have st7 := st3.newN n7
    refine .inr (.inr ⟨p1, p4, _, _, rfl, rfl, n7.same _ _ n3.at, n7.at, big _ (by have := dl (k + 1); omega), fun p5 H8 n8 => ?_⟩)
    obtain ⟨pb, pc⟩ := st7.bx.ne_new n8.nn
    have dd := hds.same (st7.newN n8).sm
    exact q _ _ _ _ (ok.gap (show k ≤ k + 1 by omega)) (Den.list (SqL.of (by rw [hid_of pb pc]; exact n8.at)) (densCat (densFirst dd k) (densDrop dd (k + 1)))) ((st7.newN n8).more (by omega))
  refine ⟨_, rfl, .inl ⟨rfl, _, rfl, ite2 (fun _ => ?_) (fun c3 => ?_)⟩⟩
  · refine ⟨_, rfl, _, rfl, _, rfl, .inl ⟨l, us, rfl, hid_same.seq hS2, fun p1 H3 n3 => ?_⟩⟩
    rw [cut_to] at n3
    have st3 := st2.newN n3
    obtain ⟨b3, c3⟩ := st2.bx.ne_new n3.nn
    have S3 := (st3.sm.trans hid_same).seq hS
    refine ⟨_, rfl, _, rfl, _, rfl, _, _, rfl, .inl ⟨_, S3, rfl⟩, b, c, _, _, rfl, st3.bx, by omega, by omega, by omega, by omega, fun r H4 r0 r1 st4 => ?_⟩
    have st4' := st3.trans st4
    obtain ⟨ve, hve, dve⟩ := geti r.toNat (by omega)
    refine .inl ⟨l, _, r, ve, rfl, rfl, (st4'.sm.trans hid_same).seq hS, at_nat r0 hve, ?_⟩
    refine ⟨by show 1 ≤ sizeLine; decide, fun p2 H5 n5 => .inr (.inr ⟨p1, p2, _, _, rfl, rfl, n5.same _ _ (st4.old n3.at b3 c3), n5.at, big _ (by simp only [List.length_singleton]; omega), fun p3 H6 n6 => ?_⟩)⟩
    have st6 := (st4'.newN n5).newN n6
    refine ⟨_, rfl, _, rfl, _, rfl, .inl ⟨l, us, rfl, (st6.sm.trans hid_same).seq hS, fun p4 H7 n7 => ?_⟩⟩
    rw [cut_from] at n7
    have st7 := st6.newN n7
    have one := ok.one (ent bk[r.toNat]) (List.mem_map.mpr ⟨_, List.getElem_mem _, rfl⟩)
    exact .inr (.inr ⟨p3, p4, _, _, rfl, rfl, n7.same _ _ n6.at, n7.at, big _ (by have := dl k; rw [List.length_append, List.length_singleton]; omega), fun p5 H8 n8 => fin k (Nat.le_refl _) _ ve _ _ _ _ one.1 (by have := one.2.2.1; omega) (by have := one.2.2.2; omega) (dve.same st7.sm) n8 (st7.more (by omega))⟩)
  -- the book in something else
  obtain ⟨wh1, wh2, wh3, wh4⟩ := ok.whole
  have wl : (n + 1) * (2 * L + 3) = n * (2 * L + 3) + (2 * L + 3) := by rw [Nat.add_mul]; omega
  refine ⟨_, rfl, l, us, rfl, .inl ⟨hid_same.seq hS2, fun p3 H3 n3 => ?_⟩⟩
  have st3 := st2.newN n3
  refine ⟨_, rfl, b, c, _, rfl, st3.bx, by omega, by omega, fun d x H4 hi dx st4 => ?_⟩
  obtain ⟨f1, f2, f3, f4, f5⟩ := odd_fine d hi
  obtain ⟨b3, c3⟩ := st2.bx.ne_new n3.nn
  have st4' := st3.trans st4
  refine ⟨_, rfl, by show 1 ≤ sizeLine; decide, fun p5 H5 n5 => ?_⟩
  refine ⟨_, rfl, by show 1 ≤ sizeLine; decide, fun p6 H6 n6 => ?_⟩
  refine ⟨by show 4 ≤ sizeLine; decide, fun p7 H7 n7 => ?_⟩
  have st7 := ((st4'.newN n5).newN n6).newN n7
  refine ⟨_, rfl, b, c, _, 4, rfl, st7.bx, by omega, by omega, by decide, by decide, fun r H8 r0 r1 st8 => ?_⟩
  have st8' := st7.trans st8
  obtain ⟨b7, c7⟩ := ((st4'.newN n5).newN n6).bx.ne_new n7.nn
  have s5 := n5.same.trans (n6.same.trans n7.same)
  have g7 := st8.old n7.at b7 c7
  have dd : ∀ {d v}, noI d = true → Den K H7 d v → Den K (hid H8 b c) d v := fun h h' => (Den.hide st7.bx h h').same st8.sm
  have hb7 : Den K H7 (.list (bk.map ent)) (.ref l) := (hu.same st7.sm).same hid_same
  have : r = 0 ∨ r = 1 ∨ r = 2 ∨ r = 3 := by omega
  rcases this with rfl | rfl | rfl | rfl
  · refine .inl ⟨p7, _, _, .ref p3, rfl, rfl, SqL.of g7, rfl, q (.tuple (bk.map ent)) _ _ _ ⟨?_, ?_, ?_, fun ds e => by cases e⟩ (dd ?_ (dtup (s5 _ _ (st4.old n3.at b3 c3)) ((hds.same st7.sm).same hid_same))) (st8'.more (by omega))⟩
    · simpa only [Pl] using wh1
    · simp only [PyData.depth]; omega
    · simp only [PyData.weight]; omega
    · simp only [noI, Bool.and_eq_true] at wh2 ⊢
      exact wh2.2
  · refine .inl ⟨p7, _, _, x, rfl, rfl, SqL.of g7, rfl, q d _ _ _ ⟨f1, by omega, by omega, fun ds e => ?_⟩ (dd f2 (dx.same s5)) (st8'.more (by omega))⟩
    subst e
    refine ⟨by have := f5 ds rfl; omega, fun e he _ => ?_⟩
    have : PyData.weightAll ds ≤ 100 := by simpa only [PyData.weight] using f4
    have := weight_at this he
    omega
  · refine .inl ⟨p7, _, _, .ref p5, rfl, rfl, SqL.of g7, rfl, q (.tuple [.list (bk.map ent)]) _ _ _ ⟨?_, ?_, ?_, fun ds e => by cases e⟩ (dd ?_ (dtup (n7.same _ _ (n6.same _ _ n5.at)) (dcons hb7 dnil))) (st8'.more (by omega))⟩
    · simp [Pl, Pls] at wh1 ⊢; exact wh1
    · simp only [PyData.depth, PyData.depthAll]; omega
    · simp only [PyData.weight, PyData.weightAll]; omega
    · simp only [noI, noIs, Bool.and_true] at wh2 ⊢; exact wh2
  · refine .inl ⟨p7, _, _, .ref p6, rfl, rfl, SqL.of g7, rfl, q (.list [.list (bk.map ent)]) _ _ _ ⟨?_, ?_, ?_, fun ds e => ?_⟩ (dd ?_ (dlst (n7.same _ _ n6.at) (dcons hb7 dnil))) (st8'.more (by omega))⟩
    · simp [Pl, Pls] at wh1 ⊢; exact wh1
    · simp only [PyData.depth, PyData.depthAll]; omega
    · simp only [PyData.weight, PyData.weightAll]; omega
    · cases e
      refine ⟨by simp only [List.length_singleton]; omega, fun e he z => ?_⟩
      rw [List.mem_singleton.mp he] at z
      cases z
    · simp only [noI, noIs, hdI, Bool.and_true, Bool.true_and] at wh2 ⊢; exact wh2
end
end Z

set_option Elab.async false
set_option linter.all false
set_option maxRecDepth 100000
set_option maxHeartbeats 4000000
namespace Z
open PySem L2
/-- the j-th name of a great book -/
def nmG (j : Nat) : Str := (⟨#[97 + j % 26]⟩ : Str) ++ ⟨#[97 + j / 26]⟩
def spGreat01 (K : PySem.W.Frag) : Sp := fun vs H Q _ => ∃ (b c : Addr) (t : Int), vs = [.ref b] ∧ Bx H b c t ∧ 0 ≤ t ∧ t < 800000 ∧
  ∀ (bk : List (Str × Str)) (v : V) (H' : Hp) (t' : Int), BookOk 50 bk → (∀ (i : Nat) q, bk[i]? = some q → q.1 = nmG i) → BookAt K (hid H' b c) bk v → Step b c H H' t t' 1000 → Q v H'
/-- the entries so far -/
structure GrAt (H : Hp) (b c : Addr) (as : List Addr) (bk : List (Str × Str)) : Prop where
  ad : ∀ (i : Nat) a q, as[i]? = some a → bk[i]? = some q → H a = some (.tup [.str q.1, .str q.2]) ∧ a ≠ b ∧ a ≠ c
  ok : ∀ (i : Nat) q, bk[i]? = some q → q.1 = nmG i ∧ Bin q.2 ∧ 1 ≤ q.2.length ∧ q.2.length ≤ 5
theorem str_len_app (x y : Str) : (x ++ y).length = x.length + y.length := by
  show (x.cps ++ y.cps).size = _
  rw [Array.size_append]; rfl
theorem nmG_low {j : Nat} (h : j < 60) : Low (nmG j) := fun ch hc => by
  unfold nmG at hc
  rw [str_append_list] at hc
  have : ch = 97 + j % 26 ∨ ch = 97 + j / 26 := by simpa using hc
  omega
theorem mul5 {y : Str} (h : Bin y) (h1 : 1 ≤ y.length) : (Txt.mul y 5).length = 5 * y.length ∧ Bin (Txt.mul y 5) := by
  unfold Txt.mul
  rw [if_neg (by decide)]
  have e : ((5 : Int) == 1 || y.length == 0) = false := by
    have : (y.length == 0) = false := by simp; omega
    rw [this]; rfl
  rw [e]
  have ez : ((List.replicate (5 : Int).toNat y.cps).foldl (· ++ ·) #[]) = y.cps ++ y.cps ++ y.cps ++ y.cps ++ y.cps := by
    show (#[] ++ y.cps ++ y.cps ++ y.cps ++ y.cps ++ y.cps : Array Nat) = _
    rw [Array.empty_append]
  simp only [Bool.false_eq_true, if_false]
  rw [ez]
  constructor
  · show (y.cps ++ y.cps ++ y.cps ++ y.cps ++ y.cps).size = 5 * y.cps.size
    simp only [Array.size_append]
    omega
  · intro ch hc
    have hc : ch ∈ (y.cps ++ y.cps ++ y.cps ++ y.cps ++ y.cps).toList := hc
    refine h ch ?_
    simpa using hc
section
variable {P : Program} {w : World} {K : PySem.W.Frag} {mg : Str → Option Value} {base : Heap} {f : Addr} {fd : FuncData}
theorem sc_law_great_book : FnScope ["_law_box", "_law_letters", "_law_codes", "_law_place", "_law_at"] ["_law_box"] (defScope (top i_law_great_book)) := ⟨rfl, rfl, rfl, by decide +kernel, rfl, by decide +kernel, by decide +kernel⟩
theorem ok_great01 (F : Fun K "_law_great_book" "_law_great_book" (top i_law_great_book) f fd) (T : Nm mg) (f_law_take : Fn P w K mg base 1 "_law_take" ["_law_box", "_law_many"] spTk) (f_law_signs : Fn P w K mg base 2 "_law_signs" ["_law_box", "_law_many"] spSg) : FnOk P w K mg base CX0 3 f fd ["_law_box"] (spGreat01 K) := by
  refine F.ok sc_law_great_book (fun vs H Q E h => ?_) (fun cdv A outer s H vs Q E hr h => ?_)
  · obtain ⟨b, c, t, rfl, _⟩ := h
    rfl
  obtain ⟨b, c, t, rfl, bx, t0, t1, q⟩ := h
  have hu6 := hr.units
  refine ⟨_, (pss_cons (ps_par (i := 1) (j := 2) rfl sc_law_great_book.nd rfl rfl (by decide) rfl rfl (pa_cons pe_str (pa_cons (lstN pa_nil) pa_nil)) rfl)
    (pss_cons (ps_for PassesOwn.never rfl (pi_range1 rfl T.n_range (pa_cons (pe_op addN pe_int (pe_fn (f_law_take.mono (by first | decide | exact Nat.le_refl _)) hr rfl (pa_cons (pv 0) (pa_cons pe_int pa_nil)))) pa_nil)) (pg_name (i := 3) sc_law_great_book.nd rfl (Or.inl rfl)) (pss_one (ps_expr (bmK K PySem.F.plainAttrs_list PySem.F.slot_list_append PySem.F.type_list_append appendN (pv 2) (pa_cons (tupN (pa_cons (pe_op addN (pe_ix (ixK K) (pv 1) (pe_op op_mod (pv 3) pe_int) (fun _ _ => rfl)) (pe_ix (ixK K) (pv 1) (pe_op op_fdiv (pv 3) pe_int) (fun _ _ => rfl))) (pa_cons (pe_fn (f_law_signs.mono (by first | decide | exact Nat.le_refl _)) hr rfl (pa_cons (pv 0) (pa_cons (pe_op addN pe_int (pe_fn (f_law_take.mono (by first | decide | exact Nat.le_refl _)) hr rfl (pa_cons (pv 0) (pa_cons pe_int pa_nil)))) pa_nil))) pa_nil))) pa_nil)))))
    (pss_cons (ps_set (i := 4) sc_law_great_book.nd rfl (Or.inl rfl) (pe_fn (f_law_take.mono (by first | decide | exact Nat.le_refl _)) hr rfl (pa_cons (pv 0) (pa_cons (pe_callB (lenK K) rfl T.n_len (by rfl) (pa_cons (pv 2) pa_nil)) pa_nil))))
    (pss_cons (ps_asg (tupN (pa_cons (pe_ix (ixK K) (pe_ix (ixK K) (pv 2) (pv 4) (fun _ _ => rfl)) pe_int (fun _ _ => rfl)) (pa_cons (pe_op addN (pe_op mulS (pe_ix (ixK K) (pe_ix (ixK K) (pv 2) (pv 4) (fun _ _ => rfl)) pe_int (fun _ _ => rfl)) pe_int) (pe_fn (f_law_signs.mono (by first | decide | exact Nat.le_refl _)) hr rfl (pa_cons (pv 0) (pa_cons pe_int pa_nil)))) pa_nil))) (pg_sub (pv 2) (pv 4) set_list))
    (pss_one (ps_ret (pv 2))))))), ?_⟩
  refine ⟨by show 0 ≤ sizeLine; decide, fun l H1 n1 => ⟨_, _, rfl, ?_⟩⟩
  obtain ⟨lb, lc⟩ := bx.ne_new n1.nn
  have st1 := (Step.refl bx).newN n1
  dsimp only
  refine seqCut (t := tFor _ _ _) (fun σ H' => ∃ (t' : Int) (as : List Addr) (bk : List (Str × Str)) (x3 : Option V), σ = [some (.ref b), some (.str (Str.ofString "abcdefghijklmnopqrstuvwxyz")), some (.ref l), x3, none] ∧ H' l = some (.lst (as.map V.ref)) ∧ as.length = bk.length ∧ 1 ≤ bk.length ∧ bk.length ≤ 60 ∧ GrAt H' b c as bk ∧ Step b c H H' t t' 500) (fun Nx nx => ?_) ?_
  · refine ⟨_, rfl, b, c, t, 20, rfl, st1.bx, by omega, by omega, by decide, by decide, fun r H2 r0 r1 st2 => .inl ⟨_, _, rfl, rfl, ?_⟩⟩
    refine ⟨_, rfl, by omega, by omega, ?_⟩
    have hl2 := st2.old n1.at lb lc
    have st2 := st1.trans st2
    refine for_range (lo := 0) (n := (41 + r).toNat) (fun j σ H' => ∃ (t' : Int) (as : List Addr) (bk : List (Str × Str)) (x3 : Option V), σ = [some (.ref b), some (.str (Str.ofString "abcdefghijklmnopqrstuvwxyz")), some (.ref l), x3, none] ∧ H' l = some (.lst (as.map V.ref)) ∧ as.length = bk.length ∧ bk.length = j ∧ GrAt H' b c as bk ∧ Step b c H H' t t' (1 + 6 * j))
      ⟨t + 1, [], [], _, rfl, hl2, rfl, rfl, ⟨fun i a q e => by simp at e, fun i q e => by simp at e⟩, st2.more (by omega)⟩ ?_ ?_
    · rintro j σ H3 hj ⟨t3, as, bk, x3, rfl, hl3, al, bl, gr, st3⟩
      have ub3 := st3.ub
      have lo3 := st3.le
      have vl : (as.map V.ref).length < 100 := by rw [List.length_map]; omega
      refine ⟨_, rfl, .inl ⟨rfl, _, SqL.of hl3⟩, ?_⟩
      refine ⟨_, rfl, _, rfl, _, _, rfl, rfl, by show (0 : Int) < 26; decide, .inr (.inr ⟨_, _, _, rfl, rfl, by decide +kernel, abc_at (r := (0 + (j : Int)) % 26) (by omega) (by omega), ?_⟩)⟩
      refine ⟨_, rfl, _, rfl, _, _, rfl, rfl, ⟨by decide, by decide⟩, .inr (.inr ⟨_, _, _, rfl, rfl, by decide +kernel, abc_at (r := (0 + (j : Int)) / 26) (by omega) (by omega), ?_⟩)⟩
      refine .inr (.inl ⟨_, _, rfl, rfl, by show 2 ≤ sizeLine; decide, ?_⟩)
      refine ⟨_, rfl, _, rfl, b, c, t3, 5, rfl, st3.bx, by omega, by omega, by decide, by decide, fun d H4 d0 d1 st4 => .inl ⟨_, _, rfl, rfl, ?_⟩⟩
      refine ⟨b, c, _, _, rfl, st4.bx, by omega, by omega, by omega, by omega, fun x H5 t5 hxl hxb st5 => ?_⟩
      have st45 := st4.trans st5
      refine ⟨by show 2 ≤ sizeLine; decide, fun pt H6 n6 => ?_⟩
      have hl5 := st45.old hl3 lb lc
      have hl6 := n6.same _ _ hl5
      refine ⟨l, _, _, rfl, rfl, hl6, Nat.lt_of_lt_of_le vl (by decide), fun H7 c7 => ?_⟩
      obtain ⟨pb, pc⟩ := st45.bx.ne_new n6.nn
      have ptl : pt ≠ l := Ne.symm (ne_of_none hl5 n6.nn)
      have keep : ∀ (a : Addr) (x y : V), a ≠ b → a ≠ c → H3 a = some (.tup [x, y]) → H7 a = some (.tup [x, y]) := fun a x y ab ac e => by
        have e6 := n6.same _ _ (st45.old e ab ac)
        rw [c7.ne (fun z => by rw [z, hl6] at e6; cases e6)]
        exact e6
      refine ⟨t5, as ++ [pt], bk ++ [(nmG j, x)], _, rfl, ?_, ?_, ?_, ?_, (((st3.trans st45).newN n6).chgN c7 n1.nn lb lc).more (by omega)⟩
      · rw [c7.at, List.map_append]; rfl
      · rw [List.length_append, List.length_append, al]; rfl
      · rw [List.length_append, bl]; rfl
      · have en : ((⟨#[97 + ((0 + (j : Int)) % 26).toNat]⟩ : Str) ++ ⟨#[97 + ((0 + (j : Int)) / 26).toNat]⟩) = nmG j := by
          unfold nmG
          rw [show ((0 + (j : Int)) % 26).toNat = j % 26 by omega, show ((0 + (j : Int)) / 26).toNat = j / 26 by omega]
        refine ⟨fun i a q ea eq => ?_, fun i q eq => ?_⟩
        · by_cases hi : i < as.length
          · rw [List.getElem?_append_left hi] at ea
            rw [List.getElem?_append_left (by omega)] at eq
            obtain ⟨g1, g2, g3⟩ := gr.ad i a q ea eq
            exact ⟨keep a _ _ g2 g3 g1, g2, g3⟩
          · have : i = as.length := by
              have := (List.getElem?_eq_some_iff.mp ea).1
              simp at this; omega
            subst this
            rw [List.getElem?_append_right (Nat.le_refl _), Nat.sub_self] at ea
            rw [List.getElem?_append_right (by omega), al, Nat.sub_self] at eq
            cases ea; cases eq
            refine ⟨?_, pb, pc⟩
            rw [c7.ne ptl, n6.at, en]
        · by_cases hi : i < bk.length
          · rw [List.getElem?_append_left hi] at eq
            exact gr.ok i q eq
          · have : i = bk.length := by
              have := (List.getElem?_eq_some_iff.mp eq).1
              simp at this; omega
            subst this
            rw [List.getElem?_append_right (Nat.le_refl _), Nat.sub_self] at eq
            cases eq
            exact ⟨by rw [bl], hxb, (show 1 ≤ x.length by omega), (show x.length ≤ 5 by omega)⟩
    · rintro σ H3 ⟨t3, as, bk, x3, rfl, hl3, al, bl, gr, st3⟩
      exact nx _ _ ⟨t3, as, bk, x3, rfl, hl3, al, by omega, by omega, gr, st3.more (by omega)⟩
  · rintro σ H3 ⟨t3, as, bk, x3, rfl, hl3, al, b1, b60, gr, st3⟩
    have ub3 := st3.ub
    have lo3 := st3.le
    have vl : (as.map V.ref).length = bk.length := by rw [List.length_map]; omega
    refine ⟨_, rfl, _, rfl, _, _, rfl, .inl ⟨_, SqL.of hl3, rfl⟩, b, c, t3, _, rfl, st3.bx, by omega, by omega, by omega, by omega, fun a H4 a0 a1 st4 => gn ?_⟩
    have hl4 := st4.old hl3 lb lc
    obtain ⟨k, rfl⟩ : ∃ k : Nat, a = k := ⟨a.toNat, by omega⟩
    have hk : k < bk.length := by omega
    have ea : as[k]? = some (as[k]'(by omega)) := List.getElem?_eq_getElem _
    have eb : bk[k]? = some bk[k] := List.getElem?_eq_getElem hk
    have ev : (as.map V.ref)[k]? = some (.ref (as[k]'(by omega))) := by rw [List.getElem?_map, ea]; rfl
    obtain ⟨g1, g2, g3⟩ := gr.ad k _ _ ea eb
    obtain ⟨nk, bn, p1, p5⟩ := gr.ok k _ eb
    have g4 := st4.old g1 g2 g3
    refine ⟨_, rfl, _, rfl, .inl ⟨l, _, _, _, rfl, rfl, SqL.of hl4, atI_nat ev, .inr (.inl ⟨_, _, 0, _, rfl, rfl, SqT.of g4, rfl, ?_⟩)⟩⟩
    refine ⟨_, rfl, _, rfl, .inl ⟨l, _, _, _, rfl, rfl, SqL.of hl4, atI_nat ev, .inr (.inl ⟨_, _, 1, _, rfl, rfl, SqT.of g4, rfl, ?_⟩)⟩⟩
    obtain ⟨m1, m2⟩ := mul5 bn p1
    refine .inr ⟨_, 5, rfl, rfl, mulOk_small (by omega) (by decide) (by decide), _, rfl, b, c, _, 25, rfl, st4.bx, by omega, by omega, by decide, by decide, fun z H5 t5 hz bz st5 => ?_⟩
    generalize Txt.mul bk[k].2 5 = y at *
    have hz25 : z.length = 25 := by omega
    refine .inr (.inl ⟨_, _, rfl, rfl, Nat.le_trans (show _ ≤ 1000 by omega) (by decide), by show 2 ≤ sizeLine; decide, fun pt H6 n6 => ?_⟩)
    have st45 := st4.trans st5
    have hl5 := st45.old hl3 lb lc
    have hl6 := n6.same _ _ hl5
    have ptl : pt ≠ l := Ne.symm (ne_of_none hl5 n6.nn)
    obtain ⟨pb, pc⟩ := st45.bx.ne_new n6.nn
    have ix : ixN (as.map V.ref).length (k : Int) = some k := by
      unfold ixN
      rw [if_pos (by omega), if_pos (by omega)]
      rfl
    refine ⟨_, rfl, _, rfl, l, _, _, k, rfl, rfl, hl6, ix, ?_⟩
    have st6 := ((st3.trans st45).newN n6).chg n1.nn lb lc (.lst ((as.map V.ref).set k (.ref pt)))
    have keep : ∀ (a : Addr) (x y : V), a ≠ b → a ≠ c → H3 a = some (.tup [x, y]) → upd H6 l (.lst ((as.map V.ref).set k (.ref pt))) a = some (.tup [x, y]) := fun a x y ab ac e => by
      have e6 := n6.same _ _ (st45.old e ab ac)
      rw [upd_ne (fun z => by rw [z, hl6] at e6; cases e6)]
      exact e6
    have hbk' : ∀ (i : Nat) q, (bk.set k (bk[k].1, y ++ z))[i]? = some q → q.1 = nmG i ∧ CodeOk 50 q.2 := fun i q e => by
      rw [List.getElem?_set] at e
      by_cases hik : k = i
      · subst hik
        rw [if_pos rfl, if_pos hk] at e
        cases e
        exact ⟨nk, m2.app bz, by rw [str_len_app]; omega, by rw [str_len_app]; omega⟩
      · rw [if_neg hik] at e
        obtain ⟨u1, u2, u3, u4⟩ := gr.ok i q e
        exact ⟨u1, u2, u3, by omega⟩
    refine ⟨_, rfl, q (bk.set k (bk[k].1, y ++ z)) _ _ _ ⟨?_, ?_, fun q' hq' => ?_, fun q' hq' => ?_⟩ (fun i q' e => (hbk' i q' e).1) ⟨l, _, rfl, by rw [hid_of lb lc]; exact upd_same, ?_⟩ (st6.more (by omega))⟩
    · intro e
      have := congrArg List.length e
      rw [List.length_set, List.length_nil] at this
      omega
    · rw [List.length_set]; exact b60
    · obtain ⟨i, hi⟩ := List.mem_iff_getElem?.mp hq'
      have := (hbk' i q' hi).1
      rw [this]
      refine nmG_low ?_
      have := (List.getElem?_eq_some_iff.mp hi).1
      rw [List.length_set] at this
      omega
    · obtain ⟨i, hi⟩ := List.mem_iff_getElem?.mp hq'
      exact (hbk' i q' hi).2
    · refine Dens.of_get (by simp [al]) fun i d v hd hv => ?_
      rw [List.getElem?_map] at hd
      rw [List.getElem?_set] at hv
      cases eq : (bk.set k (bk[k].1, y ++ z))[i]? with
      | none => rw [eq] at hd; cases hd
      | some q' =>
        rw [eq] at hd
        cases hd
        rw [List.getElem?_set] at eq
        by_cases hik : k = i
        · subst hik
          rw [if_pos rfl, if_pos hk] at eq
          rw [if_pos rfl, if_pos (by omega)] at hv
          cases eq; cases hv
          refine Den.pairOf ?_
          rw [hid_of pb pc, upd_ne ptl]
          exact n6.at
        · rw [if_neg hik] at eq hv
          rw [List.getElem?_map] at hv
          cases e : as[i]? with
          | none => rw [e] at hv; cases hv
          | some a' =>
            rw [e] at hv; cases hv
            obtain ⟨w1, w2, w3⟩ := gr.ad i a' q' e eq
            refine Den.pairOf ?_
            rw [hid_of w2 w3]
            exact keep a' _ _ w2 w3 w1
end
end Z

set_option Elab.async false
set_option linter.all false
set_option maxRecDepth 100000
set_option maxHeartbeats 4000000
namespace Z
open PySem L2
def spLaw (K : PySem.W.Frag) : Sp := fun vs H Q _ => ∃ (a : Addr) (ns : List Int), vs = [.ref a] ∧ SqL K H a (ns.map V.int) ∧ ns.length ≤ 63 ∧ ∀ H', Q (.bl true) H'
/-- what is asked about -/
structure FinP (d : PyData) : Prop where
  pl : Pl d = true
  dp : d.depth ≤ 5
  wt : d.weight ≤ 40000
  few : ∀ ds, d = .list ds → ds.length < 64
theorem FinP.sh {d : PyData} (h : FinP d) : SeqAt.shaped d = true := by
  unfold SeqAt.shaped
  rw [(pl_shown d h.pl).2.2, decide_eq_true (show d.depth ≤ 64 by have := h.dp; omega)]
  rfl
theorem FinP.show {d : PyData} (h : FinP d) : d.showable = true ∧ d.shown.length ≤ sizeLine := by
  obtain ⟨h1, h2, _⟩ := pl_shown d h.pl
  refine ⟨h2, Nat.le_trans h1 (Nat.le_trans (show _ ≤ 42 * 40000 + 40 by have := h.wt; omega) (by decide))⟩
theorem ThP.fin1 {d : PyData} (h : ThP 50 60 d) : FinP d := ⟨h.pl, h.dp, Nat.le_trans h.wt (by decide), fun ds e => by have := (h.it ds e).1; omega⟩
theorem ThP.fin2 {d : PyData} (h : ThP 260 61 d) : FinP d := ⟨h.pl, h.dp, Nat.le_trans h.wt (by decide), fun ds e => by have := (h.it ds e).1; omega⟩
theorem BkP.fin {bk : List (Str × Str)} (h : BkP 50 60 bk) : FinP (bookD bk) := by
  obtain ⟨w1, w2, w3, w4⟩ := h.whole
  refine ⟨w1, ?_, ?_, fun ds e => ?_⟩
  · show PyData.depth (.list (bk.map ent)) ≤ 5
    simp only [PyData.depth]; omega
  · show PyData.weight (.list (bk.map ent)) ≤ 40000
    simp only [PyData.weight]; omega
  · cases e
    rw [List.length_map]
    have := h.le
    omega
theorem ThP.again {ds : List PyData} (h : ThP 50 60 (.list ds)) (ne : ds ≠ []) (hall : ∀ e ∈ ds, isEntryD e = true) : ∃ bk', PyData.list ds = bookD bk' ∧ BkP 260 61 bk' := by
  obtain ⟨hl, hw⟩ := h.it ds rfl
  have hps : ∀ d ∈ ds, Pl d = true := pls_iff.mp (by simpa only [Pl] using h.pl)
  have key : ∀ ds : List PyData, (∀ e ∈ ds, isEntryD e = true ∧ e.weight ≤ 260 ∧ Pl e = true) → ∃ bk : List (Str × Str), ds = bk.map ent ∧ ∀ q ∈ bk, Asc q.1 = true ∧ Asc q.2 = true ∧ q.1.length ≤ 260 ∧ q.2.length ≤ 260 := fun ds => by
    induction ds with
    | nil => exact fun _ => ⟨[], rfl, fun q hq => (nomatch hq)⟩
    | cons d ds ih =>
      intro hh
      obtain ⟨bk, e, hb⟩ := ih fun e he => hh e (List.mem_cons_of_mem _ he)
      obtain ⟨d1, d2, d3⟩ := hh d List.mem_cons_self
      obtain ⟨x, y, ed⟩ := entry_of d1
      refine ⟨(x, y) :: bk, by rw [e, ed]; rfl, fun q hq => ?_⟩
      rcases List.mem_cons.mp hq with rfl | hq
      · rw [ed] at d2 d3
        simp only [PyData.weight, PyData.weightAll] at d2
        simp only [Pl, Pls, Bool.and_true, Bool.and_eq_true] at d3
        have e1 : x.cps.size = x.length := rfl
        have e2 : y.cps.size = y.length := rfl
        exact ⟨d3.1, d3.2, show x.length ≤ 260 by omega, show y.length ≤ 260 by omega⟩
      · exact hb q hq
  obtain ⟨bk, e, hb⟩ := key ds fun e he => ⟨hall e he, hw e he (hall e he), hps e he⟩
  refine ⟨bk, by rw [e]; rfl, ⟨fun z => ne (by rw [e, z]; rfl), ?_, hb⟩⟩
  rw [e, List.length_map] at hl
  exact hl
theorem small_has : ∀ c < 123, 97 ≤ c → sSmall.cps.contains c = true := by decide +kernel
theorem low_made {x : Str} (h : Low x) : madeOf x sSmall = true := by
  rw [madeOf_all, List.all_eq_true]
  intro c hc
  have := h c hc
  exact small_has c (by omega) (by omega)
theorem bin_made {x : Str} (h : Bin x) : madeOf x sSigns = true := by
  rw [madeOf_all, List.all_eq_true]
  intro c hc
  rcases h c hc with rfl | rfl <;> decide +kernel
theorem low_asc {x : Str} (h : Low x) : Asc x = true := asc_iff.mpr fun c hc => by have := h c hc; omega
theorem bin_asc {x : Str} (h : Bin x) : Asc x = true := asc_iff.mpr fun c hc => by rcases h c hc with e | e <;> omega
theorem book_true {n : Nat} {bk : List (Str × Str)} (h : BookOk n bk) (nm : ∀ q ∈ bk, 1 ≤ q.1.length ∧ q.1.length ≤ 8) (un : (bk.map (·.1)).Nodup) : isBookD (bookD bk) = true := by
  show (!(bk.map ent).isEmpty && ((bk.map ent).all isEntryD && decide ((metKeys (fun i => ((bk.map ent).map nameD).getD i Str.empty) (bk.map ent).length).length = (bk.map ent).length))) = true
  have e1 : (bk.map ent).isEmpty = false := by
    cases hb : bk with
    | nil => exact absurd hb h.ne
    | cons _ _ => rfl
  have e2 : (bk.map ent).all isEntryD = true := by
    rw [List.all_eq_true]
    intro e he
    obtain ⟨q, hq, rfl⟩ := List.mem_map.mp he
    obtain ⟨n1, n2⟩ := nm q hq
    have cd := h.cd q hq
    show (isNameD (.str q.1) && isCodeD (.str q.2)) = true
    have a1 : isNameD (.str q.1) = true := by
      show (decide ((1 : Int) ≤ (q.1.length : Nat)) && (decide (((q.1.length : Nat) : Int) ≤ 8) && madeOf q.1 sSmall)) = true
      rw [decide_eq_true (show (1 : Int) ≤ (q.1.length : Nat) by omega), decide_eq_true (show ((q.1.length : Nat) : Int) ≤ 8 by omega), low_made (h.nm q hq)]
      rfl
    have a2 : isCodeD (.str q.2) = true := by
      show (!decide (V.str q.2 = V.str (Str.ofString "")) && madeOf q.2 sSigns) = true
      have := cd.pos
      rw [str_nil, decide_eq_false (show ¬ q.2.length = 0 by omega), bin_made cd.bin]
      rfl
    rw [a1, a2]; rfl
  have e3 : (bk.map ent).map nameD = bk.map (·.1) := by rw [List.map_map]; rfl
  rw [e1, e2, e3]
  have := met_nodup (l := bk.map (·.1))
  rw [List.length_map] at this
  rw [List.length_map, decide_eq_true (this.mpr un)]
  rfl
theorem bkp_of {n : Nat} {bk : List (Str × Str)} (h : BookOk n bk) (hn : n ≤ 50) (nm : ∀ q ∈ bk, 1 ≤ q.1.length ∧ q.1.length ≤ 8) : BkP 50 60 bk :=
  ⟨h.ne, h.le, fun q hq => ⟨low_asc (h.nm q hq), bin_asc (h.cd q hq).bin, by have := nm q hq; omega, by have := (h.cd q hq).le; omega⟩⟩
theorem nmG_len (i : Nat) : (nmG i).length = 2 := rfl
theorem great_nm {bk : List (Str × Str)} (nm : ∀ (i : Nat) q, bk[i]? = some q → q.1 = nmG i) : ∀ q ∈ bk, 1 ≤ q.1.length ∧ q.1.length ≤ 8 := fun q hq => by
  obtain ⟨i, hi⟩ := List.mem_iff_getElem?.mp hq
  rw [nm i q hi, nmG_len]
  decide
theorem great_bkp {bk : List (Str × Str)} (ok : BookOk 50 bk) (nm : ∀ (i : Nat) q, bk[i]? = some q → q.1 = nmG i) : BkP 50 60 bk := bkp_of ok (by decide) (great_nm nm)
theorem great_true {bk : List (Str × Str)} (ok : BookOk 50 bk) (nm : ∀ (i : Nat) q, bk[i]? = some q → q.1 = nmG i) : isBookD (bookD bk) = true := by
  refine book_true ok (great_nm nm) (List.nodup_iff_pairwise_ne.mpr (List.pairwise_iff_getElem.mpr fun i j hi hj hij e => ?_))
  rw [List.length_map] at hi hj
  rw [List.getElem_map, List.getElem_map, nm i _ (List.getElem?_eq_getElem hi), nm j _ (List.getElem?_eq_getElem hj)] at e
  have e := congrArg (fun s : Str => s.cps.toList) e
  simp only [nmG, str_append_list] at e
  have e : 97 + i % 26 = 97 + j % 26 ∧ 97 + i / 26 = 97 + j / 26 := by simpa using e
  omega
theorem any_nm {bk : List (Str × Str)} (dr : Drawn bk) : ∀ q ∈ bk, 1 ≤ q.1.length ∧ q.1.length ≤ 8 := fun q hq => by
  obtain ⟨g, _, _, hg⟩ := dr
  obtain ⟨i, hi⟩ := List.mem_iff_getElem?.mp hq
  exact ⟨(hg i q hi).pos, (hg i q hi).le⟩
theorem any_bkp {bk : List (Str × Str)} (ok : BookOk 24 bk) (l10 : bk.length ≤ 10) (dr : Drawn bk) : BkP 50 60 bk := bkp_of ok (by decide) (any_nm dr)
theorem any_true {bk : List (Str × Str)} (ok : BookOk 24 bk) (l10 : bk.length ≤ 10) (dr : Drawn bk) : isBookD (bookD bk) = true := by
  refine book_true ok (any_nm dr) (List.nodup_iff_pairwise_ne.mpr (List.pairwise_iff_getElem.mpr fun i j hi hj hij e => ?_))
  obtain ⟨g, g0, g1, hg⟩ := dr
  rw [List.length_map] at hi hj
  have h1 := (hg i _ (List.getElem?_eq_getElem hi)).last
  have h2 := (hg j _ (List.getElem?_eq_getElem hj)).last
  rw [List.getElem_map, List.getElem_map] at e
  rw [e, h2] at h1
  have h1 := Option.some.inj h1
  omega
section
variable {P : Program} {w : World} {K : PySem.W.Frag} {mg : Str → Option Value} {base : Heap} {f : Addr} {fd : FuncData}
theorem sc_law : FnScope ["_law_script", "_law_box", "_law_book", "_law_turn", "_law_thing", "_law_again", "_law_kept", "_law_found"] ["_law_script"] (defScope (top i_law)) := ⟨rfl, rfl, rfl, by decide +kernel, rfl, by decide +kernel, by decide +kernel⟩
theorem ok_law (F : Fun K "law" "law" (top i_law) f fd) (T : Nm mg) (f_law_begin : Fn P w K mg base 1 "_law_begin" ["_law_script"] (spBegin K)) (f_law_take : Fn P w K mg base 1 "_law_take" ["_law_box", "_law_many"] spTk) (f_law_great_book : Fn P w K mg base 3 "_law_great_book" ["_law_box"] (spGreat01 K)) (f_law_any_book : Fn P w K mg base 3 "_law_any_book" ["_law_box"] (spAny K)) (f_is_book : Fn P w K mg base 4 "is_book" ["thing"] (spIsBook K)) (f_law_changed : Fn P w K mg base 5 "_law_changed" ["_law_box", "_law_book"] (spChg K)) (f_law_is_entry : Fn P w K mg base 2 "_law_is_entry" ["_law_thing"] (spAskP K isEntryD)) (f_law_is_book : Fn P w K mg base 3 "_law_is_book" ["_law_thing"] (spIsB01 K)) :
    FnOk P w K mg base CX0 6 f fd ["_law_script"] (spLaw K) := by
  refine F.ok sc_law (fun vs H Q E h => ?_) (fun cdv A outer s H vs Q E hr h => ?_)
  · obtain ⟨a, ns, rfl, _⟩ := h
    rfl
  obtain ⟨a, ns, rfl, hS, hlen, q⟩ := h
  have hu6 := hr.units
  refine ⟨_, (pss_cons (ps_set (i := 1) sc_law.nd rfl (Or.inl rfl) (pe_fn (f_law_begin.mono (by first | decide | exact Nat.le_refl _)) hr rfl (pa_cons (pv 0) pa_nil)))
    (pss_cons (ps_set (i := 2) sc_law.nd rfl (Or.inl rfl) (pe_ifExp (pt_cmpR (eqK K hu6) (pe_fn (f_law_take.mono (by first | decide | exact Nat.le_refl _)) hr rfl (pa_cons (pv 1) (pa_cons pe_int pa_nil))) pe_int (nomark _)) (pe_fn (f_law_great_book.mono (by first | decide | exact Nat.le_refl _)) hr rfl (pa_cons (pv 1) pa_nil)) (pe_fn (f_law_any_book.mono (by first | decide | exact Nat.le_refl _)) hr rfl (pa_cons (pv 1) pa_nil))))
    (pss_cons (ps_if (pt_cmpR g_isnot (pe_fn (f_is_book.mono (by first | decide | exact Nat.le_refl _)) hr rfl (pa_cons (pv 2) pa_nil)) pe_bl (nomark _)) (pss_one (ps_ret pe_bl)) pss_nil)
    (pss_cons (ps_for PassesOwn.never rfl (pi_range1 rfl T.n_range (pa_cons pe_int pa_nil)) (pg_name (i := 3) sc_law.nd rfl (Or.inl rfl)) (pss_cons (ps_set (i := 4) sc_law.nd rfl (Or.inl rfl) (pe_fn (f_law_changed.mono (by first | decide | exact Nat.le_refl _)) hr rfl (pa_cons (pv 1) (pa_cons (pv 2) pa_nil))))
    (pss_cons (ps_set (i := 5) sc_law.nd rfl (Or.inl rfl) (pe_and (pe_callB (isiK K) rfl T.n_isinstance (by rfl) (pa_cons (pv 4) (pa_cons (pe_bltn rfl T.n_list (by rfl) (v := .ty "list") rfl) pa_nil))) (pe_and (pe_cmpR (neK K hu6) (pv 4) (lstN pa_nil) (nomark _)) (pe_one (pe_callB (call_all_bl rfl) rfl T.n_all (by rfl) (pa_cons (pe_lcomp rfl (comp_ok (Nc := ["_law_one"]) (Fc := []) (js := [])) (piK K (pv 4)) (gk_name (i := 0) (n := 1) (by decide)) (fun _ _ _ _ _ => (pg_name (i := 0) (show (["_law_one"] : List Str).Nodup by decide +kernel) rfl (Or.inl rfl))) (fun _ _ _ _ _ => pts_nil) (fun _ _ _ _ _ => (pe_fn (f_law_is_entry.mono (by first | decide | exact Nat.le_refl _)) hr rfl (pa_cons (pv 0) pa_nil)))) pa_nil))))))
    (pss_cons (ps_if (PW.pt (pw_and (pt_cmpR (eqK K hu6) (pe_fn (f_law_take.mono (by first | decide | exact Nat.le_refl _)) hr rfl (pa_cons (pv 1) (pa_cons pe_int pa_nil))) pe_int (nomark _)) (pw_and1 (pt_val (pv 5))))) (pss_one (ps_set (i := 4) sc_law.nd rfl (Or.inl rfl) (pe_fn (f_law_changed.mono (by first | decide | exact Nat.le_refl _)) hr rfl (pa_cons (pv 1) (pa_cons (pv 4) pa_nil))))) pss_nil)
    (pss_cons (ps_set (i := 6) sc_law.nd rfl (Or.inl rfl) (pe_callTy (strK K hr.gd hu6) rfl T.n_str (by rfl) (pa_cons (pv 4) pa_nil)))
    (pss_cons (ps_set (i := 7) sc_law.nd rfl (Or.inl rfl) (pe_fn (f_is_book.mono (by first | decide | exact Nat.le_refl _)) hr rfl (pa_cons (pv 4) pa_nil)))
    (pss_one (ps_if (PW.pt (pw_or (pt_not (pt_val (pe_callB (isiK K) rfl T.n_isinstance (by rfl) (pa_cons (pv 7) (pa_cons (pe_bltn rfl T.n_bool (by rfl) (v := .ty "bool") rfl) pa_nil))))) (pw_or (pt_cmpR (neK K hu6) (pv 7) (pe_fn (f_law_is_book.mono (by first | decide | exact Nat.le_refl _)) hr rfl (pa_cons (pv 4) pa_nil)) (nomark _)) (pw_or1 (pt_cmpR (neK K hu6) (pe_callTy (strK K hr.gd hu6) rfl T.n_str (by rfl) (pa_cons (pv 4) pa_nil)) (pv 6) (nomark _)))))) (pss_one (ps_ret pe_bl)) pss_nil))))))))
    (pss_one (ps_ret (pe_and (pe_cmpR g_is (pe_fn (f_is_book.mono (by first | decide | exact Nat.le_refl _)) hr rfl (pa_cons (lstN pa_nil) pa_nil)) pe_bl (nomark _)) (pe_one (pe_cmpR g_is (pe_fn (f_is_book.mono (by first | decide | exact Nat.le_refl _)) hr rfl (pa_cons (tupN pa_nil) pa_nil)) pe_bl (nomark _)))))))))), ?_⟩
  refine ⟨_, rfl, a, ns, rfl, hS, hlen, fun b c H1 bx1 hb hc sm1 => ?_⟩
  refine gn ?_
  dsimp only
  refine asgCut (te := tIf _ _ _) (fun v H' => ∃ (bk : List (Str × Str)) (t' : Int), BkP 50 60 bk ∧ isBookD (bookD bk) = true ∧ Den K (hid H' b c) (bookD bk) v ∧ Step b c H1 H' 0 t' 5000) (fun Qn qn => ?_) ?_
  · refine ⟨_, rfl, b, c, 0, 8, rfl, bx1, by omega, by omega, by decide, by decide, fun r H2 r0 r1 st2 => .inl ⟨rfl, _, rfl, ite2 (fun _ => ?_) (fun _ => ?_)⟩⟩
    · exact ⟨_, rfl, b, c, _, rfl, st2.bx, by omega, by omega, fun bk v H3 t3 ok nm hB st3 => qn _ _ ⟨bk, t3, great_bkp ok nm, great_true ok nm, hB.den, (st2.trans st3).more (by omega)⟩⟩
    · exact ⟨_, rfl, b, c, _, rfl, st2.bx, by omega, by omega, fun bk v H3 t3 ok l10 dr hB st3 => qn _ _ ⟨bk, t3, any_bkp ok l10 dr, any_true ok l10 dr, hB.den, (st2.trans st3).more (by omega)⟩⟩
  rintro v H2 ⟨bk, t2, ok, bt, hv, st2⟩
  refine gn ?_
  have fb := ok.fin
  refine ⟨_, rfl, _, _, rfl, hv.same hid_same, fb.wt, fb.sh, fun ds e => by have := fb.few ds e; omega, fun H3 sm3 => ?_⟩
  rw [bt]
  refine .inr ⟨true, true, rfl, rfl, _, rfl, iteF ?_⟩
  have st3 := st2.trans (Step.same st2.bx sm3)
  have hv3 := hv.same (Same.hid (b := b) (c := c) sm3)
  dsimp only [tNext]
  refine seqCut (t := tFor _ _ _) (fun _ _ => True) (fun Nx nx => ?_) ?_
  · refine ⟨10, rfl, by decide, by decide, ?_⟩
    refine for_range (lo := 0) (n := 10) (fun i σ H' => ∃ (t' : Int) (x3 x4 x5 x6 x7 : Option V), σ = [some (.ref a), some (.ref b), some v, x3, x4, x5, x6, x7] ∧ Den K (hid H' b c) (bookD bk) v ∧ Step b c H1 H' 0 t' (5000 + 30 * i)) ⟨_, _, _, _, _, _, rfl, hv3, st3.more (by omega)⟩ ?_ ?_
    · rintro i σ H4 hi ⟨t4, x3, x4, x5, x6, x7, rfl, hv4, st4⟩
      have ub4 := st4.ub
      have lo4 := st4.le
      refine ⟨_, rfl, _, rfl, b, c, t4, v, bk, 50, 60, rfl, st4.bx, by omega, by omega, ok, by decide, by decide, hv4, fun d x t5 H5 th dx st5 => gn ?_⟩
      have st15 := st4.trans st5
      have hv5 := hv4.same st5.sm
      have fd1 := th.fin1
      dsimp only
      refine asgCut (te := tAndV _ _) (fun u H' => ∃ g : Bool, u = .bl g ∧ Same H5 H' ∧ (g = true → ∃ bk', d = bookD bk' ∧ BkP 260 61 bk')) (fun Qn qn => ?_) ?_
      · refine ⟨_, rfl, .inl ⟨_, "list", d, _, rfl, dx.same hid_same, (kitT K d).2.2.2.1, _, rfl, ?_⟩⟩
        have no : Qn (.bl false) H5 := qn _ _ ⟨false, rfl, Same.refl _, fun z => (nomatch z)⟩
        cases d with
        | list ds =>
          have e := dx.same hid_same
          unfold Den at e
          obtain ⟨l, us, rfl, hSl, hds⟩ := e
          have hl := hds.len
          have few := fd1.few ds rfl
          refine iteT ⟨_, rfl, by show 0 ≤ sizeLine; decide, fun pe H6 n6 => ?_⟩
          have den0 : Den K H6 (.list []) (.ref pe) := Den.list (SqL.of n6.at) (Den.strs [])
          refine .inr ⟨_, _, (dx.same hid_same).same n6.same, den0, fd1.sh, by decide +kernel, _, rfl, ?_⟩
          rw [eqv_nil]
          refine ite2 (fun c1 => ?_) (fun c1 => ?_)
          · have hS6 := n6.same.seq hSl
            have hds6 := hds.same n6.same
            have hwt : PyData.weightAll ds ≤ 40000 := by simpa only [PyData.weight] using fd1.wt
            have hps : ∀ d ∈ ds, Pl d = true := pls_iff.mp (by simpa only [Pl] using th.pl)
            refine ⟨_, rfl, l, rfl, ⟨_, hS6⟩, ?_⟩
            refine comp_go (N := ds.length) (fun i ys H' => Same H6 H' ∧ ys = ((ds.take i).map isEntryD).map V.bl) ⟨Same.refl _, rfl⟩ ?_ ?_
            · rintro i ys H7 Nx hi ⟨sm7, rfl⟩ nx
              obtain ⟨x, hx, dx⟩ := hds6.get (i := i) (List.getElem?_eq_getElem hi)
              refine ⟨⟨_, _, sm7.seq hS6, hx⟩, Nat.lt_of_le_of_lt (show _ ≤ 40000 by rw [List.length_map, List.length_map, List.length_take]; omega) (by decide), ?_⟩
              rintro x' H8 ⟨rfl, hy⟩
              have e := hy _ (sm7.seq hS6)
              rw [hx] at e; cases e
              refine gn ⟨_, rfl, _, _, rfl, dx.same sm7, hps _ (List.getElem_mem hi), Nat.le_trans (weight_at (n := 40000) hwt (List.getElem_mem hi)) (by decide), fun H9 sm9 => nx _ _ ⟨sm7.trans sm9, ?_⟩⟩
              rw [List.take_succ_eq_append_getElem hi, List.map_append, List.map_append]
              rfl
            · rintro ys H7 ⟨sm7, rfl⟩
              refine ⟨⟨_, sm7.seq hS6, by rw [hl]; exact Nat.le_refl _⟩, fun p hp => ?_⟩
              rw [List.take_length]
              refine ⟨p, _, rfl, SqL.of upd_same, qn _ _ ⟨_, rfl, n6.same.trans (sm7.trans (same_new hp _)), fun hall => ?_⟩⟩
              have hall : ∀ e ∈ ds, isEntryD e = true := by
                rw [List.all_map] at hall
                exact List.all_eq_true.mp hall
              exact th.again (by
                intro z
                subst z
                exact absurd c1 (by decide)) hall
          · exact qn _ _ ⟨false, rfl, n6.same, fun z => (nomatch z)⟩
        | _ => exact iteF no
      rintro u H6 ⟨g, rfl, sm6, hg⟩
      refine gn ?_
      have st16 := st15.trans (Step.same st15.bx sm6)
      have hv6 := hv5.same (Same.hid (b := b) (c := c) sm6)
      have dx6 := dx.same (Same.hid (b := b) (c := c) sm6)
      refine seqCut (t := tIfS _ _ _) (fun σ H' => ∃ (d : PyData) (x : V) (t' : Int), σ = [some (.ref a), some (.ref b), some v, some (.int (0 + i)), some x, some (.bl g), x6, x7] ∧ FinP d ∧ Den K (hid H' b c) d x ∧ Den K (hid H' b c) (bookD bk) v ∧ Step b c H1 H' 0 t' (5000 + 30 * i + 25)) (fun Nx nx => ?_) ?_
      · have ub6 := st16.ub
        have lo6 := st16.le
        refine ⟨_, rfl, b, c, _, 3, rfl, st16.bx, by omega, by omega, by decide, by decide, fun r H7 r0 r1 st7 => .inl ⟨rfl, _, rfl, ?_⟩⟩
        have st17 := st16.trans st7
        have stay := nx _ _ ⟨d, x, _, rfl, fd1, dx6.same st7.sm, hv6.same st7.sm, st17.more (by omega)⟩
        refine ite2 (fun _ => ?_) (fun _ => iteF stay)
        refine ⟨_, rfl, _, rfl, ?_⟩
        cases g with
        | false => exact iteF stay
        | true =>
          obtain ⟨bk', rfl, ok'⟩ := hg rfl
          refine iteT ?_
          exact ⟨_, rfl, _, rfl, b, c, _, x, bk', 260, 61, rfl, st17.bx, by omega, by omega, ok', by decide, by decide, dx6.same st7.sm, fun d2 y t8 H8 th2 dy st8 => gn (nx _ _ ⟨d2, y, t8, rfl, th2.fin2, dy, (hv6.same st7.sm).same st8.sm, (st17.trans st8).more (by omega)⟩)⟩
      clear dx6 hg st16 sm6 dx th fd1
      rintro σ H7 ⟨d, x, t7, rfl, fd, dx, hv7, st7⟩
      have dx7 := dx.same (hid_same (H := H7))
      refine ⟨_, rfl, _, d, rfl, dx7, fd.show.1, by have := fd.dp; omega, fd.show.2, gn ?_⟩
      refine ⟨_, rfl, _, d, rfl, dx7, fd.wt, fd.sh, fun ds e => by have := fd.few ds e; omega, fun H8 sm8 => gn ?_⟩
      refine ⟨_, rfl, .inl ⟨_, "bool", .bool (isBookD d), _, rfl, dbl, (kitT K (.bool (isBookD d))).1, _, rfl, iteF ?_⟩⟩
      refine ⟨_, rfl, _, rfl, _, d, rfl, dx7.same sm8, fd.pl, fd.wt, fd.sh, fd.few, fun H9 sm9 => .inl ⟨rfl, _, rfl, ?_⟩⟩
      rw [decide_eq_true (rfl : V.bl (isBookD d) = V.bl (isBookD d))]
      refine iteF ?_
      refine ⟨_, rfl, _, d, rfl, dx7.same (sm8.trans sm9), fd.show.1, by have := fd.dp; omega, fd.show.2, _, rfl, .inl ⟨rfl, _, rfl, ?_⟩⟩
      rw [decide_eq_true (rfl : V.str (strD d) = V.str (strD d))]
      have sm79 := sm8.trans sm9
      exact iteF ⟨_, _, _, _, _, _, rfl, hv7.same (Same.hid sm79), (st7.trans (Step.same st7.bx sm79)).more (by omega)⟩
    · rintro σ H4 _
      exact nx _ _ trivial
  · rintro σ H4 _
    refine ⟨by show 0 ≤ sizeLine; decide, fun p H5 n5 => ⟨_, .list [], rfl, Den.list (SqL.of n5.at) dnil, by decide, by decide +kernel, fun ds e => by cases e; decide, fun H6 sm6 => .inr ⟨false, false, rfl, rfl, _, rfl, iteT ?_⟩⟩⟩
    exact ⟨by show 0 ≤ sizeLine; decide, fun p H7 n7 => ⟨_, .tuple [], rfl, dtup n7.at dnil, by decide, by decide +kernel, (fun ds e => nomatch e), fun H8 sm8 => .inr ⟨false, false, rfl, rfl, q _⟩⟩⟩
end
end Z

namespace Z
open PySem L2
theorem all_mk {l : PySem.W.OpenLaw} {w : World} {K : PySem.W.Frag} {h : Heap} {mg : Str → Option Value} {fa f1 f2 f3 f4 f5 f6 f7 f8 f9 f10 f11 f12 f13 f14 f15 f16 f17 f18 f19 f20 : Addr} (X : K.In h) (G : h.Ns mainGlobals mg) (hfa : mg "law" = some (.ref fa))
    {od1 an1 : Option Addr} {sl1 : Array (Option Value)} {oc1 kV1 dc1 pm1 cd1 ct1 : Value}
    {od2 an2 : Option Addr} {sl2 : Array (Option Value)} {oc2 kV2 dc2 pm2 cd2 ct2 : Value}
    {od3 an3 : Option Addr} {sl3 : Array (Option Value)} {oc3 kV3 dc3 pm3 cd3 ct3 : Value}
    {od4 an4 : Option Addr} {sl4 : Array (Option Value)} {oc4 kV4 dc4 pm4 cd4 ct4 : Value}
    {od5 an5 : Option Addr} {sl5 : Array (Option Value)} {oc5 kV5 dc5 pm5 cd5 ct5 : Value}
    {od6 an6 : Option Addr} {sl6 : Array (Option Value)} {oc6 kV6 dc6 pm6 cd6 ct6 : Value}
    {od7 an7 : Option Addr} {sl7 : Array (Option Value)} {oc7 kV7 dc7 pm7 cd7 ct7 : Value}
    {od8 an8 : Option Addr} {sl8 : Array (Option Value)} {oc8 kV8 dc8 pm8 cd8 ct8 : Value}
    {od9 an9 : Option Addr} {sl9 : Array (Option Value)} {oc9 kV9 dc9 pm9 cd9 ct9 : Value}
    {od10 an10 : Option Addr} {sl10 : Array (Option Value)} {oc10 kV10 dc10 pm10 cd10 ct10 : Value}
    {od11 an11 : Option Addr} {sl11 : Array (Option Value)} {oc11 kV11 dc11 pm11 cd11 ct11 : Value}
    {od12 an12 : Option Addr} {sl12 : Array (Option Value)} {oc12 kV12 dc12 pm12 cd12 ct12 : Value}
    {od13 an13 : Option Addr} {sl13 : Array (Option Value)} {oc13 kV13 dc13 pm13 cd13 ct13 : Value}
    {od14 an14 : Option Addr} {sl14 : Array (Option Value)} {oc14 kV14 dc14 pm14 cd14 ct14 : Value}
    {od15 an15 : Option Addr} {sl15 : Array (Option Value)} {oc15 kV15 dc15 pm15 cd15 ct15 : Value}
    {od16 an16 : Option Addr} {sl16 : Array (Option Value)} {oc16 kV16 dc16 pm16 cd16 ct16 : Value}
    {od17 an17 : Option Addr} {sl17 : Array (Option Value)} {oc17 kV17 dc17 pm17 cd17 ct17 : Value}
    {od18 an18 : Option Addr} {sl18 : Array (Option Value)} {oc18 kV18 dc18 pm18 cd18 ct18 : Value}
    {od19 an19 : Option Addr} {sl19 : Array (Option Value)} {oc19 kV19 dc19 pm19 cd19 ct19 : Value}
    {od20 an20 : Option Addr} {sl20 : Array (Option Value)} {oc20 kV20 dc20 pm20 cd20 ct20 : Value}
    {tkc0 : Tok}
    {tkc1 : Tok}
    {tkc2 : Tok}
    (a1 : PySem.W.nsIn K mainGlobals "made_of" = some (some (.ref f1))) (l1 : K.lookup f1 = some ⟨oc1, od1, .func (PySem.W.fnOf "made_of" "made_of" (defArgs (top i_made_of)) (defBody (top i_made_of)) (defScope (top i_made_of)) .none kV1 dc1 pm1 an1 cd1 ct1), sl1⟩) (c1 : PySem.W.codeIn K cd1 "made_of" = true) (k1 : PySem.W.keepIn K (.ref f1) = true)
    (a2 : PySem.W.nsIn K mainGlobals "is_name" = some (some (.ref f2))) (l2 : K.lookup f2 = some ⟨oc2, od2, .func (PySem.W.fnOf "is_name" "is_name" (defArgs (top i_is_name)) (defBody (top i_is_name)) (defScope (top i_is_name)) .none kV2 dc2 pm2 an2 cd2 ct2), sl2⟩) (c2 : PySem.W.codeIn K cd2 "is_name" = true) (k2 : PySem.W.keepIn K (.ref f2) = true)
    (a3 : PySem.W.nsIn K mainGlobals "is_code" = some (some (.ref f3))) (l3 : K.lookup f3 = some ⟨oc3, od3, .func (PySem.W.fnOf "is_code" "is_code" (defArgs (top i_is_code)) (defBody (top i_is_code)) (defScope (top i_is_code)) .none kV3 dc3 pm3 an3 cd3 ct3), sl3⟩) (c3 : PySem.W.codeIn K cd3 "is_code" = true) (k3 : PySem.W.keepIn K (.ref f3) = true)
    (a4 : PySem.W.nsIn K mainGlobals "is_entry" = some (some (.ref f4))) (l4 : K.lookup f4 = some ⟨oc4, od4, .func (PySem.W.fnOf "is_entry" "is_entry" (defArgs (top i_is_entry)) (defBody (top i_is_entry)) (defScope (top i_is_entry)) .none kV4 dc4 pm4 an4 cd4 ct4), sl4⟩) (c4 : PySem.W.codeIn K cd4 "is_entry" = true) (k4 : PySem.W.keepIn K (.ref f4) = true)
    (a5 : PySem.W.nsIn K mainGlobals "is_book" = some (some (.ref f5))) (l5 : K.lookup f5 = some ⟨oc5, od5, .func (PySem.W.fnOf "is_book" "is_book" (defArgs (top i_is_book)) (defBody (top i_is_book)) (defScope (top i_is_book)) .none kV5 dc5 pm5 an5 cd5 ct5), sl5⟩) (c5 : PySem.W.codeIn K cd5 "is_book" = true) (k5 : PySem.W.keepIn K (.ref f5) = true)
    (a6 : PySem.W.nsIn K mainGlobals "_law_begin" = some (some (.ref f6))) (l6 : K.lookup f6 = some ⟨oc6, od6, .func (PySem.W.fnOf "_law_begin" "_law_begin" (defArgs (top i_law_begin)) (defBody (top i_law_begin)) (defScope (top i_law_begin)) .none kV6 dc6 pm6 an6 cd6 ct6), sl6⟩) (c6 : PySem.W.codeIn K cd6 "_law_begin" = true) (k6 : PySem.W.keepIn K (.ref f6) = true)
    (a7 : PySem.W.nsIn K mainGlobals "_law_take" = some (some (.ref f7))) (l7 : K.lookup f7 = some ⟨oc7, od7, .func (PySem.W.fnOf "_law_take" "_law_take" (defArgs (top i_law_take)) (defBody (top i_law_take)) (defScope (top i_law_take)) .none kV7 dc7 pm7 an7 cd7 ct7), sl7⟩) (c7 : PySem.W.codeIn K cd7 "_law_take" = true) (k7 : PySem.W.keepIn K (.ref f7) = true)
    (a8 : PySem.W.nsIn K mainGlobals "_law_names" = some (some (.ref f8))) (l8 : K.lookup f8 = some ⟨oc8, od8, .func (PySem.W.fnOf "_law_names" "_law_names" (defArgs (top i_law_names)) (defBody (top i_law_names)) (defScope (top i_law_names)) .none kV8 dc8 pm8 an8 cd8 ct8), sl8⟩) (c8 : PySem.W.codeIn K cd8 "_law_names" = true) (k8 : PySem.W.keepIn K (.ref f8) = true)
    (a9 : PySem.W.nsIn K mainGlobals "_law_signs" = some (some (.ref f9))) (l9 : K.lookup f9 = some ⟨oc9, od9, .func (PySem.W.fnOf "_law_signs" "_law_signs" (defArgs (top i_law_signs)) (defBody (top i_law_signs)) (defScope (top i_law_signs)) .none kV9 dc9 pm9 an9 cd9 ct9), sl9⟩) (c9 : PySem.W.codeIn K cd9 "_law_signs" = true) (k9 : PySem.W.keepIn K (.ref f9) = true)
    (a10 : PySem.W.nsIn K mainGlobals "_law_any_book" = some (some (.ref f10))) (l10 : K.lookup f10 = some ⟨oc10, od10, .func (PySem.W.fnOf "_law_any_book" "_law_any_book" (defArgs (top i_law_any_book)) (defBody (top i_law_any_book)) (defScope (top i_law_any_book)) .none kV10 dc10 pm10 an10 cd10 ct10), sl10⟩) (c10 : PySem.W.codeIn K cd10 "_law_any_book" = true) (k10 : PySem.W.keepIn K (.ref f10) = true)
    (a11 : PySem.W.nsIn K mainGlobals "_law_odd" = some (some (.ref f11))) (l11 : K.lookup f11 = some ⟨oc11, od11, .func (PySem.W.fnOf "_law_odd" "_law_odd" (defArgs (top i_law_odd)) (defBody (top i_law_odd)) (defScope (top i_law_odd)) .none kV11 dc11 pm11 an11 cd11 ct11), sl11⟩) (c11 : PySem.W.codeIn K cd11 "_law_odd" = true) (k11 : PySem.W.keepIn K (.ref f11) = true)
    (a12 : PySem.W.nsIn K mainGlobals "_law_sign" = some (some (.ref f12))) (l12 : K.lookup f12 = some ⟨oc12, od12, .func (PySem.W.fnOf "_law_sign" "_law_sign" (defArgs (top i_law_sign)) (defBody (top i_law_sign)) (defScope (top i_law_sign)) .none kV12 dc12 pm12 an12 cd12 ct12), sl12⟩) (c12 : PySem.W.codeIn K cd12 "_law_sign" = true) (k12 : PySem.W.keepIn K (.ref f12) = true)
    (a13 : PySem.W.nsIn K mainGlobals "_law_is_text" = some (some (.ref f13))) (l13 : K.lookup f13 = some ⟨oc13, od13, .func (PySem.W.fnOf "_law_is_text" "_law_is_text" (defArgs (top i_law_is_text)) (defBody (top i_law_is_text)) (defScope (top i_law_is_text)) .none kV13 dc13 pm13 an13 cd13 ct13), sl13⟩) (c13 : PySem.W.codeIn K cd13 "_law_is_text" = true) (k13 : PySem.W.keepIn K (.ref f13) = true)
    (a14 : PySem.W.nsIn K mainGlobals "_law_is_entry" = some (some (.ref f14))) (l14 : K.lookup f14 = some ⟨oc14, od14, .func (PySem.W.fnOf "_law_is_entry" "_law_is_entry" (defArgs (top i_law_is_entry)) (defBody (top i_law_is_entry)) (defScope (top i_law_is_entry)) .none kV14 dc14 pm14 an14 cd14 ct14), sl14⟩) (c14 : PySem.W.codeIn K cd14 "_law_is_entry" = true) (k14 : PySem.W.keepIn K (.ref f14) = true)
    (a15 : PySem.W.nsIn K mainGlobals "_law_is_book" = some (some (.ref f15))) (l15 : K.lookup f15 = some ⟨oc15, od15, .func (PySem.W.fnOf "_law_is_book" "_law_is_book" (defArgs (top i_law_is_book)) (defBody (top i_law_is_book)) (defScope (top i_law_is_book)) .none kV15 dc15 pm15 an15 cd15 ct15), sl15⟩) (c15 : PySem.W.codeIn K cd15 "_law_is_book" = true) (k15 : PySem.W.keepIn K (.ref f15) = true)
    (a16 : PySem.W.nsIn K mainGlobals "_law_text_changed" = some (some (.ref f16))) (l16 : K.lookup f16 = some ⟨oc16, od16, .func (PySem.W.fnOf "_law_text_changed" "_law_text_changed" (defArgs (top i_law_text_changed)) (defBody (top i_law_text_changed)) (defScope (top i_law_text_changed)) .none kV16 dc16 pm16 an16 cd16 ct16), sl16⟩) (c16 : PySem.W.codeIn K cd16 "_law_text_changed" = true) (k16 : PySem.W.keepIn K (.ref f16) = true)
    (a17 : PySem.W.nsIn K mainGlobals "_law_entry_changed" = some (some (.ref f17))) (l17 : K.lookup f17 = some ⟨oc17, od17, .func (PySem.W.fnOf "_law_entry_changed" "_law_entry_changed" (defArgs (top i_law_entry_changed)) (defBody (top i_law_entry_changed)) (defScope (top i_law_entry_changed)) .none kV17 dc17 pm17 an17 cd17 ct17), sl17⟩) (c17 : PySem.W.codeIn K cd17 "_law_entry_changed" = true) (k17 : PySem.W.keepIn K (.ref f17) = true)
    (a18 : PySem.W.nsIn K mainGlobals "_law_changed" = some (some (.ref f18))) (l18 : K.lookup f18 = some ⟨oc18, od18, .func (PySem.W.fnOf "_law_changed" "_law_changed" (defArgs (top i_law_changed)) (defBody (top i_law_changed)) (defScope (top i_law_changed)) .none kV18 dc18 pm18 an18 cd18 ct18), sl18⟩) (c18 : PySem.W.codeIn K cd18 "_law_changed" = true) (k18 : PySem.W.keepIn K (.ref f18) = true)
    (a19 : PySem.W.nsIn K mainGlobals "_law_great_book" = some (some (.ref f19))) (l19 : K.lookup f19 = some ⟨oc19, od19, .func (PySem.W.fnOf "_law_great_book" "_law_great_book" (defArgs (top i_law_great_book)) (defBody (top i_law_great_book)) (defScope (top i_law_great_book)) .none kV19 dc19 pm19 an19 cd19 ct19), sl19⟩) (c19 : PySem.W.codeIn K cd19 "_law_great_book" = true) (k19 : PySem.W.keepIn K (.ref f19) = true)
    (a20 : PySem.W.nsIn K mainGlobals "law" = some (some (.ref f20))) (l20 : K.lookup f20 = some ⟨oc20, od20, .func (PySem.W.fnOf "law" "law" (defArgs (top i_law)) (defBody (top i_law)) (defScope (top i_law)) .none kV20 dc20 pm20 an20 cd20 ct20), sl20⟩) (c20 : PySem.W.codeIn K cd20 "law" = true) (k20 : PySem.W.keepIn K (.ref f20) = true)
    (vc0 : PySem.W.nsIn K mainGlobals "LONGEST_NAME" = some (some (.int 8 tkc0)))
    (vc1 : PySem.W.nsIn K mainGlobals "SMALL_LETTERS" = some (some (.str "abcdefghijklmnopqrstuvwxyz" tkc1)))
    (vc2 : PySem.W.nsIn K mainGlobals "SIGNS" = some (some (.str "01" tkc2)))
    (y0 : PySem.W.nsIn K mainGlobals "sorted" = some none)
    (z0 : PySem.W.nsIn K mainGlobals "len" = some none) (z1 : PySem.W.nsIn K mainGlobals "range" = some none) (z2 : PySem.W.nsIn K mainGlobals "max" = some none) (z3 : PySem.W.nsIn K mainGlobals "min" = some none) (z4 : PySem.W.nsIn K mainGlobals "sum" = some none) (z5 : PySem.W.nsIn K mainGlobals "all" = some none) (z6 : PySem.W.nsIn K mainGlobals "any" = some none) (z7 : PySem.W.nsIn K mainGlobals "list" = some none) (z8 : PySem.W.nsIn K mainGlobals "tuple" = some none) (z9 : PySem.W.nsIn K mainGlobals "int" = some none) (z10 : PySem.W.nsIn K mainGlobals "str" = some none) (z11 : PySem.W.nsIn K mainGlobals "bool" = some none) (z12 : PySem.W.nsIn K mainGlobals "zip" = some none) (z13 : PySem.W.nsIn K mainGlobals "enumerate" = some none) (z14 : PySem.W.nsIn K mainGlobals "isinstance" = some none) (z15 : PySem.W.nsIn K mainGlobals "divmod" = some none) :
    ∃ fd : FuncData, (∀ (s : Shared) (v : Value), BindsTo s fd ⟨[v], []⟩ [("_law_script", v)]) ∧ ∀ base : Heap, K.In base → base.Ns mainGlobals mg → FnOk l.prog w K mg base CX0 6 fa fd ["_law_script"] (spLaw K) := by
  have e := hfa.symm.trans (PySem.W.mg_of X G a20)
  cases e
  have T : Nm mg := ⟨PySem.W.mg_none_of X G z0, PySem.W.mg_none_of X G z1, PySem.W.mg_none_of X G z2, PySem.W.mg_none_of X G z3, PySem.W.mg_none_of X G z4, PySem.W.mg_none_of X G z5, PySem.W.mg_none_of X G z6, PySem.W.mg_none_of X G z7, PySem.W.mg_none_of X G z8, PySem.W.mg_none_of X G z9, PySem.W.mg_none_of X G z10, PySem.W.mg_none_of X G z11, PySem.W.mg_none_of X G z12, PySem.W.mg_none_of X G z13, PySem.W.mg_none_of X G z14, PySem.W.mg_none_of X G z15⟩
  have n_sorted := PySem.W.mg_none_of X G y0
  have v_LONGEST_NAME := PySem.W.mg_of X G vc0
  have v_SMALL_LETTERS := PySem.W.mg_of X G vc1
  have v_SIGNS := PySem.W.mg_of X G vc2
  have F1 := fun_mk (st := top i_made_of) l1 c1 k1
  have b1 := F1.binds (ps := ["text", "signs"]) fun _ _ _ _ _ _ us hl => match us, hl with | [_, _], _ => rfl
  have F2 := fun_mk (st := top i_is_name) l2 c2 k2
  have b2 := F2.binds (ps := ["thing"]) fun _ _ _ _ _ _ us hl => match us, hl with | [_], _ => rfl
  have F3 := fun_mk (st := top i_is_code) l3 c3 k3
  have b3 := F3.binds (ps := ["thing"]) fun _ _ _ _ _ _ us hl => match us, hl with | [_], _ => rfl
  have F4 := fun_mk (st := top i_is_entry) l4 c4 k4
  have b4 := F4.binds (ps := ["thing"]) fun _ _ _ _ _ _ us hl => match us, hl with | [_], _ => rfl
  have F5 := fun_mk (st := top i_is_book) l5 c5 k5
  have b5 := F5.binds (ps := ["thing"]) fun _ _ _ _ _ _ us hl => match us, hl with | [_], _ => rfl
  have F6 := fun_mk (st := top i_law_begin) l6 c6 k6
  have b6 := F6.binds (ps := ["_law_script"]) fun _ _ _ _ _ _ us hl => match us, hl with | [_], _ => rfl
  have F7 := fun_mk (st := top i_law_take) l7 c7 k7
  have b7 := F7.binds (ps := ["_law_box", "_law_many"]) fun _ _ _ _ _ _ us hl => match us, hl with | [_, _], _ => rfl
  have F8 := fun_mk (st := top i_law_names) l8 c8 k8
  have b8 := F8.binds (ps := ["_law_box", "_law_many"]) fun _ _ _ _ _ _ us hl => match us, hl with | [_, _], _ => rfl
  have F9 := fun_mk (st := top i_law_signs) l9 c9 k9
  have b9 := F9.binds (ps := ["_law_box", "_law_many"]) fun _ _ _ _ _ _ us hl => match us, hl with | [_, _], _ => rfl
  have F10 := fun_mk (st := top i_law_any_book) l10 c10 k10
  have b10 := F10.binds (ps := ["_law_box"]) fun _ _ _ _ _ _ us hl => match us, hl with | [_], _ => rfl
  have F11 := fun_mk (st := top i_law_odd) l11 c11 k11
  have b11 := F11.binds (ps := ["_law_box"]) fun _ _ _ _ _ _ us hl => match us, hl with | [_], _ => rfl
  have F12 := fun_mk (st := top i_law_sign) l12 c12 k12
  have b12 := F12.binds (ps := ["_law_box"]) fun _ _ _ _ _ _ us hl => match us, hl with | [_], _ => rfl
  have F13 := fun_mk (st := top i_law_is_text) l13 c13 k13
  have b13 := F13.binds (ps := ["_law_thing", "_law_signs_here", "_law_most"]) fun _ _ _ _ _ _ us hl => match us, hl with | [_, _, _], _ => rfl
  have F14 := fun_mk (st := top i_law_is_entry) l14 c14 k14
  have b14 := F14.binds (ps := ["_law_thing"]) fun _ _ _ _ _ _ us hl => match us, hl with | [_], _ => rfl
  have F15 := fun_mk (st := top i_law_is_book) l15 c15 k15
  have b15 := F15.binds (ps := ["_law_thing"]) fun _ _ _ _ _ _ us hl => match us, hl with | [_], _ => rfl
  have F16 := fun_mk (st := top i_law_text_changed) l16 c16 k16
  have b16 := F16.binds (ps := ["_law_box", "_law_text"]) fun _ _ _ _ _ _ us hl => match us, hl with | [_, _], _ => rfl
  have F17 := fun_mk (st := top i_law_entry_changed) l17 c17 k17
  have b17 := F17.binds (ps := ["_law_box", "_law_entry", "_law_book"]) fun _ _ _ _ _ _ us hl => match us, hl with | [_, _, _], _ => rfl
  have F18 := fun_mk (st := top i_law_changed) l18 c18 k18
  have b18 := F18.binds (ps := ["_law_box", "_law_book"]) fun _ _ _ _ _ _ us hl => match us, hl with | [_, _], _ => rfl
  have F19 := fun_mk (st := top i_law_great_book) l19 c19 k19
  have b19 := F19.binds (ps := ["_law_box"]) fun _ _ _ _ _ _ us hl => match us, hl with | [_], _ => rfl
  have F20 := fun_mk (st := top i_law) l20 c20 k20
  refine ⟨PySem.W.fnOf "law" "law" (defArgs (top i_law)) (defBody (top i_law)) (defScope (top i_law)) .none kV20 dc20 pm20 an20 cd20 ct20, fun s v => .of_eq rfl, fun base hB hG => ?_⟩
  have fMade : Fn l.prog w K mg base 1 "made_of" ["text", "signs"] (spMade) := ⟨f1, _, ok_made F1 T, b1, k1, PySem.W.mg_of X G a1⟩
  have fIsN : Fn l.prog w K mg base 2 "is_name" ["thing"] (spAsk K isNameD) := ⟨f2, _, ok_isname F2 T v_LONGEST_NAME v_SMALL_LETTERS fMade, b2, k2, PySem.W.mg_of X G a2⟩
  have fIsC : Fn l.prog w K mg base 2 "is_code" ["thing"] (spAsk K isCodeD) := ⟨f3, _, ok_iscode F3 T v_SIGNS fMade, b3, k3, PySem.W.mg_of X G a3⟩
  have fIsE : Fn l.prog w K mg base 3 "is_entry" ["thing"] (spAsk K isEntryD) := ⟨f4, _, ok_isentry F4 T fIsN fIsC, b4, k4, PySem.W.mg_of X G a4⟩
  have fIsB : Fn l.prog w K mg base 4 "is_book" ["thing"] (spIsBook K) := ⟨f5, _, ok_isbook F5 T fIsE, b5, k5, PySem.W.mg_of X G a5⟩
  have fBegin : Fn l.prog w K mg base 1 "_law_begin" ["_law_script"] (spBegin K) := ⟨f6, _, ok_begin F6 T, b6, k6, PySem.W.mg_of X G a6⟩
  have fTake : Fn l.prog w K mg base 1 "_law_take" ["_law_box", "_law_many"] (spTake) := ⟨f7, _, ok_take F7 T, b7, k7, PySem.W.mg_of X G a7⟩
  have fTk : Fn l.prog w K mg base 1 "_law_take" ["_law_box", "_law_many"] (spTk) := Fn.imp fTake (fun _ _ _ _ h => spTk_of h)
  have fNames : Fn l.prog w K mg base 2 "_law_names" ["_law_box", "_law_many"] (spNames) := ⟨f8, _, ok_names F8 T fTk, b8, k8, PySem.W.mg_of X G a8⟩
  have fSigns : Fn l.prog w K mg base 2 "_law_signs" ["_law_box", "_law_many"] (spSigns) := ⟨f9, _, ok_signs F9 T fTake, b9, k9, PySem.W.mg_of X G a9⟩
  have fSg : Fn l.prog w K mg base 2 "_law_signs" ["_law_box", "_law_many"] (spSg) := Fn.imp fSigns (fun _ _ _ _ h => spSg_of h)
  have fAny : Fn l.prog w K mg base 3 "_law_any_book" ["_law_box"] (spAny K) := ⟨f10, _, ok_any F10 T fTk fSg fNames, b10, k10, PySem.W.mg_of X G a10⟩
  have fOdd : Fn l.prog w K mg base 2 "_law_odd" ["_law_box"] (spOdd K) := ⟨f11, _, ok_odd F11 T fTk, b11, k11, PySem.W.mg_of X G a11⟩
  have fSgn : Fn l.prog w K mg base 2 "_law_sign" ["_law_box"] (spSgn) := ⟨f12, _, ok_sgn F12 T fTk, b12, k12, PySem.W.mg_of X G a12⟩
  have fTxt : Fn l.prog w K mg base 1 "_law_is_text" ["_law_thing", "_law_signs_here", "_law_most"] (spIsText K) := ⟨f13, _, ok_istext F13 T, b13, k13, PySem.W.mg_of X G a13⟩
  have fEnt : Fn l.prog w K mg base 2 "_law_is_entry" ["_law_thing"] (spAskP K isEntryD) := ⟨f14, _, ok_isentry01 F14 T fTxt, b14, k14, PySem.W.mg_of X G a14⟩
  have fBk : Fn l.prog w K mg base 3 "_law_is_book" ["_law_thing"] (spIsB01 K) := ⟨f15, _, ok_isbook01 F15 T n_sorted fEnt, b15, k15, PySem.W.mg_of X G a15⟩
  have fTch : Fn l.prog w K mg base 3 "_law_text_changed" ["_law_box", "_law_text"] (spTch) := ⟨f16, _, ok_tch F16 T fTk fSgn, b16, k16, PySem.W.mg_of X G a16⟩
  have fEch : Fn l.prog w K mg base 4 "_law_entry_changed" ["_law_box", "_law_entry", "_law_book"] (spEch K) := ⟨f17, _, ok_ech F17 T fTk fTch fOdd, b17, k17, PySem.W.mg_of X G a17⟩
  have fChg : Fn l.prog w K mg base 5 "_law_changed" ["_law_box", "_law_book"] (spChg K) := ⟨f18, _, ok_chg F18 T fTk fEch fOdd, b18, k18, PySem.W.mg_of X G a18⟩
  have fGr : Fn l.prog w K mg base 3 "_law_great_book" ["_law_box"] (spGreat01 K) := ⟨f19, _, ok_great01 F19 T fTk fSg, b19, k19, PySem.W.mg_of X G a19⟩
  exact ok_law F20 T fBegin fTk fGr fAny fIsB fChg fEnt fBk
theorem walk {l : PySem.W.OpenLaw} {q : Program} {loose : List Str} {XP : (Str → Option Value) → Heap → Prop} {YP : World → Heap → Prop} {d : DefRec} {K : Params → PySem.W.Frag} (hn : l.most = some 63) (hdf : d.params.defaults = [])
    (hY : ∀ (w : World) (h : Heap), YP w h → (K w.params).In h)
    (F : ∀ (w : World) (mg : Str → Option Value) (fa : Addr) (h : Heap), (K w.params).In h → h.Ns mainGlobals mg → mg d.name = some (.ref fa) →
      ∃ fd : FuncData, (∀ (s : Shared) (u : Value), BindsTo s fd ⟨[u], []⟩ [("_law_script", u)]) ∧ ∀ base : Heap, (K w.params).In base → base.Ns mainGlobals mg → FnOk l.prog w (K w.params) mg base CX0 6 fa fd ["_law_script"] (spLaw (K w.params))) :
    PySem.W.WalkO q loose XP YP l.row.toRowW d [] (fun f vs => PySem.call f vs) :=
  L2.walk_of (n := 63) (k := 6) (x := "_law_script") (CX := fun _ => CX0) (sp := fun w => spLaw (K w.params)) hn (by decide) hdf ⟨rfl, by decide, by decide, rfl⟩ hY F (fun _ _ a ns hl _ hS => ⟨a, ns, rfl, hS, hl, fun _ => rfl⟩) fun _ _ _ _ _ z => z
end Z
open PySem PySem.W PyProof.Rows L2
set_option maxRecDepth 100000 in
set_option maxHeartbeats 0 in
theorem PySem.Challenge.cw_oddlong_k01_what_a_book_is_holds : PySem.Challenge.rw_oddlong_k01_what_a_book_is.Holds := by
  w_on; o_law; k_head; (case hw => w_witness2)
  k_fill
  refine Z.walk (l := PySem.Challenge.rw_oddlong_k01_what_a_book_is) rfl rfl (fun w h Y => PySem.W.kIn_of Y) ?F
  case F =>
    intro w mg fa h KX G hmg
    refine' Z.all_mk KX G hmg ?a1 ?l1 ?c1 ?k1 ?a2 ?l2 ?c2 ?k2 ?a3 ?l3 ?c3 ?k3 ?a4 ?l4 ?c4 ?k4 ?a5 ?l5 ?c5 ?k5 ?a6 ?l6 ?c6 ?k6 ?a7 ?l7 ?c7 ?k7 ?a8 ?l8 ?c8 ?k8 ?a9 ?l9 ?c9 ?k9 ?a10 ?l10 ?c10 ?k10 ?a11 ?l11 ?c11 ?k11 ?a12 ?l12 ?c12 ?k12 ?a13 ?l13 ?c13 ?k13 ?a14 ?l14 ?c14 ?k14 ?a15 ?l15 ?c15 ?k15 ?a16 ?l16 ?c16 ?k16 ?a17 ?l17 ?c17 ?k17 ?a18 ?l18 ?c18 ?k18 ?a19 ?l19 ?c19 ?k19 ?a20 ?l20 ?c20 ?k20 ?vc0 ?vc1 ?vc2 ?y0 ?z0 ?z1 ?z2 ?z3 ?z4 ?z5 ?z6 ?z7 ?z8 ?z9 ?z10 ?z11 ?z12 ?z13 ?z14 ?z15
    (case a1 => k_is); (case l1 => k_is); (case c1 => k_is); (case k1 => k_is); (case a2 => k_is); (case l2 => k_is); (case c2 => k_is); (case k2 => k_is)
    (case a3 => k_is); (case l3 => k_is); (case c3 => k_is); (case k3 => k_is); (case a4 => k_is); (case l4 => k_is); (case c4 => k_is); (case k4 => k_is)
    (case a5 => k_is); (case l5 => k_is); (case c5 => k_is); (case k5 => k_is); (case a6 => k_is); (case l6 => k_is); (case c6 => k_is); (case k6 => k_is)
    (case a7 => k_is); (case l7 => k_is); (case c7 => k_is); (case k7 => k_is); (case a8 => k_is); (case l8 => k_is); (case c8 => k_is); (case k8 => k_is)
    (case a9 => k_is); (case l9 => k_is); (case c9 => k_is); (case k9 => k_is); (case a10 => k_is); (case l10 => k_is); (case c10 => k_is); (case k10 => k_is)
    (case a11 => k_is); (case l11 => k_is); (case c11 => k_is); (case k11 => k_is); (case a12 => k_is); (case l12 => k_is); (case c12 => k_is); (case k12 => k_is)
    (case a13 => k_is); (case l13 => k_is); (case c13 => k_is); (case k13 => k_is); (case a14 => k_is); (case l14 => k_is); (case c14 => k_is); (case k14 => k_is)
    (case a15 => k_is); (case l15 => k_is); (case c15 => k_is); (case k15 => k_is); (case a16 => k_is); (case l16 => k_is); (case c16 => k_is); (case k16 => k_is)
    (case a17 => k_is); (case l17 => k_is); (case c17 => k_is); (case k17 => k_is); (case a18 => k_is); (case l18 => k_is); (case c18 => k_is); (case k18 => k_is)
    (case a19 => k_is); (case l19 => k_is); (case c19 => k_is); (case k19 => k_is); (case a20 => k_is); (case l20 => k_is); (case c20 => k_is); (case k20 => k_is)
    (case vc0 => k_is); (case vc1 => k_is); (case vc2 => k_is); (case y0 => k_is); (case z0 => k_is); (case z1 => k_is); (case z2 => k_is); (case z3 => k_is)
    (case z4 => k_is); (case z5 => k_is); (case z6 => k_is); (case z7 => k_is); (case z8 => k_is); (case z9 => k_is); (case z10 => k_is); (case z11 => k_is)
    (case z12 => k_is); (case z13 => k_is); (case z14 => k_is); (case z15 => k_is)
