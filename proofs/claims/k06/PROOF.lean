import PyProof.Rows.All
import Wide.All
import OpenK.AllK
import Wide.FinOn
import PyProof.EqAt
import PyProof.EqKinds
import PyProof.TupleCall
import PyProof.DictCompW
import PyProof.Rows.SortWalk
import OpenK.KRaise
import PyProof.ExcClass2
import KE.KTryMore
import KE.KSortTup
import KE.KIsAll
import PyProof.ListRange
import PyProof.StrBlock2
import PyProof.Rows.SetFrom
import PyProof.SetRoads
import PyProof.ReprRoads
import PyProof.CallStr
import PyProof.Rows.BitMore
import Lean
import PySem.Challenge.RW_oddlong_k06_books_again_and_shared
set_option Elab.async false
set_option linter.all false
set_option maxRecDepth 100000
/-! THE HAND LAYER, for ints, bools, texts, own classes, LISTS and tuples (index, slices, in, append, pop ..), calls, loops. Paste it whole ahead of your own text; what your proof does not reach may be deleted. -/
namespace L2
open PySem PySem.Spec PyProof.Rows

/-- a key: an int or a str -/
abbrev Key := Sum Int Str
def keyIs : Key → Value → Bool
  | .inl k, v => Value.isInt k v
  | .inr x, v => Value.isStrOf x v
def keyH (w : World) : Key → Int
  | .inl k => hashInt k
  | .inr x => hashStr w x
theorem keyIs_shape : ∀ {k : Key} {v : Value}, keyIs k v = true → (∃ i t, k = Sum.inl i ∧ v = Value.int i t) ∨ (∃ x t, k = Sum.inr x ∧ v = Value.str x t)
  | .inl i, v, h => by
    obtain ⟨t, e⟩ := Value.isInt_shape (k := i) (v := v) h
    exact .inl ⟨i, t, rfl, e⟩
  | .inr x, v, h => by
    obtain ⟨t, e⟩ := Value.isStrOf_shape (x := x) (v := v) h
    exact .inr ⟨x, t, rfl, e⟩
theorem keyIs_int (i : Int) (t : Tok) : keyIs (.inl i) (.int i t) = true := by simp [keyIs, Value.isInt]
theorem keyIs_str (x : Str) (t : Tok) : keyIs (.inr x) (.str x t) = true := by simp [keyIs, Value.isStrOf]
theorem key_ll (a b : Int) : decide ((Sum.inl a : Key) = Sum.inl b) = (a == b) := by
  by_cases e : a = b
  · subst e; simp
  · have h : ¬ (Sum.inl a : Key) = Sum.inl b := fun q => e (Sum.inl.inj q)
    rw [decide_eq_false h]
    exact (beq_eq_false_iff_ne.mpr e).symm
theorem key_rr (a b : Str) : decide ((Sum.inr a : Key) = Sum.inr b) = decide (a = b) := by
  by_cases e : a = b
  · subst e; simp
  · have h : ¬ (Sum.inr a : Key) = Sum.inr b := fun q => e (Sum.inr.inj q)
    rw [decide_eq_false h, decide_eq_false e]
theorem key_lr (a : Int) (b : Str) : decide ((Sum.inl a : Key) = Sum.inr b) = false := decide_eq_false (fun q => nomatch q)
theorem key_rl (a : Str) (b : Int) : decide ((Sum.inr a : Key) = Sum.inl b) = false := decide_eq_false (fun q => nomatch q)

def mixKind (prog : Program) (w : World) : PySem.KeyKind prog w Key where
  is := keyIs
  hash := keyH w
  inj := fun v a b ha hb => by
    rcases keyIs_shape ha with ⟨i, t, rfl, rfl⟩ | ⟨x, t, rfl, rfl⟩
    · rcases keyIs_shape hb with ⟨j, u, rfl, e⟩ | ⟨y, u, rfl, e⟩
      · injection e with e1 _; rw [e1]
      · exact nomatch e
    · rcases keyIs_shape hb with ⟨j, u, rfl, e⟩ | ⟨y, u, rfl, e⟩
      · exact nomatch e
      · injection e with e1 _; rw [e1]
  byValue := fun k v h => by
    rcases keyIs_shape h with ⟨i, t, rfl, rfl⟩ | ⟨x, t, rfl, rfl⟩ <;> rfl
  pyHash := fun hv h => by
    rcases keyIs_shape hv with ⟨i, t, rfl, rfl⟩ | ⟨x, t, rfl, rfl⟩
    · exact wpAny_pyHash_int h
    · exact wpAny_pyHash_str h
  eqBool := fun hu hv h => by
    rcases keyIs_shape hu with ⟨i, t, rfl, rfl⟩ | ⟨x, t, rfl, rfl⟩
    · rcases keyIs_shape hv with ⟨j, u, rfl, rfl⟩ | ⟨y, u, rfl, rfl⟩
      · rw [key_ll] at h; exact wpAny_eqBool_int h
      · rw [key_lr] at h; exact SeqAt.EqAt.int_str i t y u _ _ _ _ h
    · rcases keyIs_shape hv with ⟨j, u, rfl, rfl⟩ | ⟨y, u, rfl, rfl⟩
      · rw [key_rl] at h; exact SeqAt.EqAt.str_int x t j u _ _ _ _ h
      · rw [key_rr] at h; exact wpAny_eqBool_str h
  «strs» := fun k x t v h => by
    rcases keyIs_shape h with ⟨i, u, rfl, e⟩ | ⟨y, u, rfl, e⟩
    · exact nomatch e
    · injection e with e1 _
      subst e1
      cases v <;> rfl

theorem mixKind_int (prog : Program) (w : World) (i : Int) (t : Tok) : (mixKind prog w).is (.inl i) (.int i t) = true := keyIs_int i t
theorem mixKind_str (prog : Program) (w : World) (x : Str) (t : Tok) : (mixKind prog w).is (.inr x) (.str x t) = true := keyIs_str x t
end L2

namespace L2
open PySem PySem.Spec PyProof.Rows

/-- a value, without the heap -/
inductive V where
  | non | bl (b : Bool) | int (i : Int) | str (x : Str) | byt (b : Array UInt8) | flt (b : UInt64) | ref (a : Addr) | ty (n : String)
  deriving DecidableEq

def RelV : V → Value → Prop
  | .non, u => u = Value.none
  | .bl b, u => u = Value.bool b
  | .int i, u => ∃ t, u = Value.int i t
  | .str x, u => ∃ t, u = Value.str x t
  | .byt b, u => ∃ t, u = Value.bytes b t
  | .flt b, u => ∃ t, u = Value.float b t
  | .ref a, u => u = Value.ref a
  | .ty n, u => u = Value.type n

abbrev Vals : List V → List Value → Prop := Paired RelV
theorem Vals.length {xs : List V} {us : List Value} (r : Vals xs us) : xs.length = us.length := Paired.length r
theorem Vals.get : ∀ {xs : List V} {us : List Value} {i : Nat} {x : V}, Vals xs us → xs[i]? = some x → ∃ u, us[i]? = some u ∧ RelV x u
  | _, _, _, _, .nil, e => by simp at e
  | _, _, 0, _, .cons r _, e => by simp at e; subst e; exact ⟨_, rfl, r⟩
  | _, _, i + 1, x, .cons _ t, e => by
    obtain ⟨u, h1, h2⟩ := Vals.get (i := i) (x := x) t (by simpa using e)
    exact ⟨u, by simpa using h1, h2⟩
theorem Vals.set {x : V} {u : Value} (r : RelV x u) : ∀ {xs : List V} {us : List Value} (i : Nat), Vals xs us → Vals (xs.set i x) (us.set i u)
  | _, _, _, .nil => .nil
  | _, _, 0, .cons _ t => .cons r t
  | _, _, i + 1, .cons q t => .cons q (Vals.set r i t)
theorem Vals.append : ∀ {xs ys : List V} {us ws : List Value}, Vals xs us → Vals ys ws → Vals (xs ++ ys) (us ++ ws)
  | _, _, _, _, .nil, s => s
  | _, _, _, _, .cons r t, s => .cons r (Vals.append t s)
theorem Vals.take : ∀ {xs : List V} {us : List Value} (n : Nat), Vals xs us → Vals (xs.take n) (us.take n)
  | _, _, 0, _ => .nil
  | _, _, _ + 1, .nil => .nil
  | _, _, n + 1, .cons r t => .cons r (Vals.take n t)
theorem Vals.drop : ∀ {xs : List V} {us : List Value} (n : Nat), Vals xs us → Vals (xs.drop n) (us.drop n)
  | _, _, 0, r => r
  | _, _, _ + 1, .nil => .nil
  | _, _, n + 1, .cons _ t => Vals.drop n t
def RelO : Option V → Option Value → Prop
  | some v, some u => RelV v u
  | none, none => True
  | _, _ => False
def KV {κ : Type} : List (κ × V) → List (κ × Value) → Prop := Paired fun (p : κ × V) (q : κ × Value) => p.1 = q.1 ∧ RelV p.2 q.2

/-- a key of a dict (00_mix): an int or a text -/
def kV : Key → V
  | .inl i => .int i
  | .inr x => .str x

/-- what stands at a tracked address -/
inductive HO where
  /-- a list -/
  | lst (xs : List V)
  /-- a tuple (never changes) -/
  | tup (xs : List V)
  /-- a dict whose keys are ints and texts; one whose keys are tuples of ints and texts (the empty one is both) -/
  | dK (kvs : List (Key × V)) | dT (kvs : List (List Key × V))
  /-- a set of ints: its members, its size -/
  | set (S : Int → Bool) (n : Nat)
  /-- an instance of the class at C, its dict at dx, its attributes -/
  | ins (C dx : Addr) (fs : List (Str × V))
  /-- the dict of the instance at x -/
  | own (x : Addr)
  /-- the dict of an exception -/
  | xd (fs : List (Str × V))
  /-- a bound method, f of x -/
  | met (f x : Addr)
  /-- a range object lo, lo + 1, .. below hi -/
  | rng (lo hi : Int)
  /-- a thing that is known to the object (the script; a dict while a loop walks it): read, never written while it is so -/
  | frz (o : Obj) (u : HO)
  /-- a code object's table -/
  | tbl (ps : Array Value)
  /-- any other thing, by what is true of its one object (a def of one's own: SetO a S n := HO.ext fun h => ..) -/
  | ext (φ : Heap → Prop)

abbrev Hp := Addr → Option HO
def upd (H : Hp) (a : Addr) (o : HO) : Hp := fun b => if b = a then some o else H b
theorem upd_same {H : Hp} {a : Addr} {o : HO} : upd H a o a = some o := by unfold upd; rw [if_pos rfl]
theorem upd_ne {H : Hp} {a b : Addr} {o : HO} (h : b ≠ a) : upd H a o b = H b := by unfold upd; rw [if_neg h]
/-- two objects of different content stand apart -/
theorem ne_of {H : Hp} {a b : Addr} {o u : HO} (h : H a = some o) (h' : H b = some u) (d : o ≠ u) : a ≠ b := by
  intro e; subst e; rw [h] at h'; exact d (Option.some.inj h')
theorem ne_of_none {H : Hp} {a b : Addr} {o : HO} (h : H a = some o) (h' : H b = none) : a ≠ b := by
  intro e; subst e; rw [h] at h'; cases h'

section
variable (P : Program) (w : World)
def ObjOk (H : Hp) (h : Heap) (a : Addr) : HO → Prop
  | .lst xs => xs.length ≤ sizeLine ∧ ∃ (its : List Value) (n : Nat), Vals xs its ∧ h.get? a = some { cls := .type "list", data := .seq its.toArray n }
  | .tup xs => xs.length ≤ sizeLine ∧ ∃ its : List Value, Vals xs its ∧ IsTup h a its.toArray
  | .dK kvs => kvs.length ≤ sizeLine ∧ (a == sysModules) = false ∧ ∃ vs, KV kvs vs ∧ h.DictOf (mixKind P w) a vs
  | .dT kvs => kvs.length ≤ sizeLine ∧ (a == sysModules) = false ∧ ∃ xs : List (List Key × Addr × Value),
      Paired (fun (p : List Key × V) (q : List Key × Addr × Value) => p.1 = q.1 ∧ H q.2.1 = some (.tup (p.1.map kV)) ∧ RelV p.2 q.2.2) kvs xs ∧
      ∃ o es ep, h.get? a = some o ∧ o.ExactDict ∧ o.data = .dict es ep ∧ es.toList = xs.map (entryOfKey (tupleKind (mixKind P w))) ∧ (xs.map (·.1)).Nodup
  | .set S n => h.SetOf (intKind P w) a S n
  | .ins C dx fs => H dx = some (.own a) ∧ fs.length ≤ 1000 ∧ dx ≠ a ∧ h.get? a = some (PySem.W.instObj C dx) ∧
      ∃ mA, h.Ns1 dx mA ∧ (∀ f, RelO (fs.lookup f) (mA f)) ∧ PySem.Within mA (fs.map (·.1))
  | .own _ => ∃ o, h.get? a = some o
  | .xd fs => ∃ mA, h.Ns1 a mA ∧ ∀ f, RelO (fs.lookup f) (mA f)
  | .rng lo hi => ∃ t u v, h.get? a = some { cls := .type "range", data := .fields #[.int lo t, .int hi u, .int 1 v] }
  | .frz o u => h.get? a = some o ∧ ObjOk H h a u
  | .tbl ps => h.get? a = some { cls := .none, data := .fields ps }
  | .met f x => h.get? a = some (PySem.W.methodObj (.ref f) (.ref x))
  | .ext φ => φ h ∧ (∃ o, h.get? a = some o) ∧ ∀ h1 h2 : Heap, φ h1 → (∀ o, h1.get? a = some o → h2.get? a = some o) → φ h2
/-- the abstract heap is held -/
def HOk (H : Hp) (h : Heap) : Prop := ∀ a o, H a = some o → ObjOk P w H h a o
end

section
variable {P : Program} {w : World} {H H' : Hp} {h h' : Heap} {a : Addr} {o : HO}
theorem ObjOk.lt (x : ObjOk P w H h a o) : a < h.objs.size := by
  cases o with
  | lst xs => obtain ⟨_, _, _, _, e⟩ := x; exact Heap.lt_size e
  | tup xs => obtain ⟨_, _, _, p⟩ := x; exact p.lt
  | dK kvs => obtain ⟨_, _, _, _, o, _, _, e, _⟩ := x; exact Heap.lt_size e
  | dT kvs => obtain ⟨_, _, _, _, o, _, _, e, _⟩ := x; exact Heap.lt_size e
  | set S n => obtain ⟨o, _, _, _, e, _⟩ := x; exact Heap.lt_size e
  | ins C dx fs => obtain ⟨_, _, _, e, _⟩ := x; exact Heap.lt_size e
  | own y => obtain ⟨_, e⟩ := x; exact Heap.lt_size e
  | xd fs => obtain ⟨_, ⟨_, _, _, e, _⟩, _⟩ := x; exact Heap.lt_size e
  | rng lo hi => obtain ⟨_, _, _, e⟩ := x; exact Heap.lt_size e
  | frz ob u => obtain ⟨e, _⟩ := x; exact Heap.lt_size e
  | tbl ps => exact Heap.lt_size (show h.get? a = some _ from x)
  | met f y => exact Heap.lt_size (show h.get? a = some _ from x)
  | ext φ => obtain ⟨_, ⟨_, e⟩, _⟩ := x; exact Heap.lt_size e
theorem Paired.mapP {α β : Type} {F G : α → β → Prop} : ∀ {l₁ : List α} {l₂ : List β}, Paired F l₁ l₂ → (∀ a b, F a b → G a b) → Paired G l₁ l₂
  | _, _, .nil, _ => .nil
  | _, _, .cons r t, f => .cons (f _ _ r) (Paired.mapP t f)
/-- what an object's description leans on: its own object, its own dict, the tuples -/
theorem ObjOk.stay (x : ObjOk P w H h a o) (k : ∀ b u, (b = a ∨ H b = some (.own a)) → h.get? b = some u → h'.get? b = some u)
    (ho : ∀ b, H b = some (.own a) → H' b = some (.own a)) (ht : ∀ b xs, H b = some (.tup xs) → H' b = some (.tup xs)) : ObjOk P w H' h' a o := by
  induction o with
  | lst xs => obtain ⟨z, its, n, r, e⟩ := x; exact ⟨z, its, n, r, k _ _ (.inl rfl) e⟩
  | tup xs => obtain ⟨z, its, r, ob, e, c⟩ := x; exact ⟨z, its, r, ob, k _ _ (.inl rfl) e, c⟩
  | dK kvs => obtain ⟨z, y, vs, r, ob, es, ep, e, c⟩ := x; exact ⟨z, y, vs, r, ob, es, ep, k _ _ (.inl rfl) e, c⟩
  | dT kvs =>
    obtain ⟨z, y, xs, r, ob, es, ep, e, c⟩ := x
    exact ⟨z, y, xs, Paired.mapP r fun p q z => ⟨z.1, ht _ _ z.2.1, z.2.2⟩, ob, es, ep, k _ _ (.inl rfl) e, c⟩
  | set S n => obtain ⟨ob, es, ep, t, e, c⟩ := x; exact ⟨ob, es, ep, t, k _ _ (.inl rfl) e, c⟩
  | ins C dx fs =>
    obtain ⟨d, z, ne, e, mA, ⟨od, es, ep, e2, c⟩, r⟩ := x
    exact ⟨ho _ d, z, ne, k _ _ (.inl rfl) e, mA, ⟨od, es, ep, k _ _ (.inr d) e2, c⟩, r⟩
  | own y => obtain ⟨ob, e⟩ := x; exact ⟨ob, k _ _ (.inl rfl) e⟩
  | xd fs => obtain ⟨mA, ⟨od, es, ep, e, c⟩, r⟩ := x; exact ⟨mA, ⟨od, es, ep, k _ _ (.inl rfl) e, c⟩, r⟩
  | rng lo hi => obtain ⟨t, u, v, e⟩ := x; exact ⟨t, u, v, k _ _ (.inl rfl) e⟩
  | frz ob u ih => obtain ⟨e, q⟩ := x; exact ⟨k _ _ (.inl rfl) e, ih q⟩
  | tbl ps =>
    have e : h.get? a = some { cls := .none, data := .fields ps } := x
    show h'.get? a = some { cls := .none, data := .fields ps }
    exact k a _ (.inl rfl) e
  | met f y =>
    have e : h.get? a = some (PySem.W.methodObj (.ref f) (.ref y)) := x
    show h'.get? a = some (PySem.W.methodObj (.ref f) (.ref y))
    exact k a _ (.inl rfl) e
  | ext φ => obtain ⟨p, ⟨o, e⟩, st⟩ := x; exact ⟨st _ _ p fun o q => k _ _ (.inl rfl) q, ⟨o, k _ _ (.inl rfl) e⟩, st⟩
theorem HOk.lt (x : HOk P w H h) (e : H a = some o) : a < h.objs.size := (x a o e).lt
theorem HOk.fresh (x : HOk P w H h) (e : h.objs.size ≤ a) : H a = none := by
  cases q : H a with
  | none => rfl
  | some u => exact absurd (Nat.lt_of_lt_of_le (x.lt q) e) (Nat.lt_irrefl _)
/-- every object of the heap is kept -/
theorem HOk.kept (x : HOk P w H h) (k : ∀ b u, h.get? b = some u → h'.get? b = some u) : HOk P w H h' := fun a o e =>
  (x a o e).stay (fun b u _ q => k b u q) (fun _ q => q) fun _ _ q => q
/-- a new object is laid and tracked -/
theorem HOk.laid (x : HOk P w H h) (k : ∀ b u, h.get? b = some u → h'.get? b = some u) (hp : h.objs.size ≤ a) (new : ObjOk P w (upd H a o) h' a o) : HOk P w (upd H a o) h' := fun b u e => by
  have hn := x.fresh hp
  by_cases hb : b = a
  · subst hb; rw [upd_same] at e; cases e; exact new
  · rw [upd_ne hb] at e
    exact (x b u e).stay (fun c v _ q => k c v q) (fun c q => by rw [upd_ne (ne_of_none q hn)]; exact q) fun c xs q => by rw [upd_ne (ne_of_none q hn)]; exact q
end

/-- what may be read as u: it is u, or a known u -/
def Rd (H : Hp) (a : Addr) (u : HO) : Prop := H a = some u ∨ ∃ o, H a = some (.frz o u)
theorem Rd.ok {P : Program} {w : World} {H : Hp} {h : Heap} {a : Addr} {u : HO} (r : Rd H a u) (x : HOk P w H h) : ObjOk P w H h a u := by
  rcases r with r | ⟨o, r⟩
  · exact x a u r
  · obtain ⟨_, q⟩ := x a _ r
    exact q
/-- what may be written -/
def Mut : Option HO → Prop
  | some (.lst _) => True
  | some (.dK _) => True
  | some (.dT _) => True
  | some (.set _ _) => True
  | some (.ins _ _ _) => True
  | some (.ext _) => True
  | _ => False
section
variable {P : Program} {w : World} {H : Hp} {h h' : Heap} {x e : Addr} {o' : HO}
/-- the object at e is changed: x itself, or the dict of the instance x -/
theorem HOk.write (ok : HOk P w H h) (mu : Mut (H x)) (he : e = x ∨ H e = some (.own x)) (k : ∀ b u, b ≠ e → h.get? b = some u → h'.get? b = some u) (heo : ∃ u, h'.get? e = some u)
    (new : ObjOk P w (upd H x o') h' x o') : HOk P w (upd H x o') h' := fun b u q => by
  have nown : ∀ c y, H c = some (.own y) → c ≠ x := fun c y r z => by subst z; rw [r] at mu; exact mu
  have ntup : ∀ c xs, H c = some (.tup xs) → c ≠ x := fun c xs r z => by subst z; rw [r] at mu; exact mu
  by_cases hb : b = x
  · subst hb; rw [upd_same] at q; cases q; exact new
  · rw [upd_ne hb] at q
    by_cases hbe : b = e
    · have q' : H b = some (.own x) := by
        rcases he with z | z
        · exact absurd (hbe.trans z) hb
        · rw [hbe]; exact z
      rw [q] at q'; cases q'
      obtain ⟨v, hv⟩ := heo
      exact ⟨v, by rw [hbe]; exact hv⟩
    · refine (ok b u q).stay (fun c v hc r => k c v ?_ r) (fun c r => by rw [upd_ne (nown c b r)]; exact r) fun c xs r => by rw [upd_ne (ntup c xs r)]; exact r
      rcases hc with rfl | hc
      · exact hbe
      · rintro rfl
        rcases he with z | z
        · exact nown c b hc z
        · rw [hc] at z; cases z; exact hb rfl
end

/-! ### kept unless tracked; of the frames at fs (the callers') the slots may change (an exception that passes writes there); of the records at ex (iterators) nothing is said -/
structure Un (fs ex : List Addr) (H H' : Hp) (h h' : Heap) : Prop where
  keep : ∀ b o, h.get? b = some o → H b = none → b ∉ fs → b ∉ ex → h'.get? b = some o
  slot : ∀ b o, h.get? b = some o → H b = none → b ∈ fs → b ∉ ex → ∃ sl, h'.get? b = some { o with slots := sl }
  free : ∀ b o, h.get? b = some o → H b = none → b ∉ ex → H' b = none
  there : ∀ b o, h.get? b = some o → b ∉ ex → ∃ o', h'.get? b = some o'
  tups : ∀ b xs, H b = some (.tup xs) → H' b = some (.tup xs)
  frzs : ∀ b o u, H b = some (.frz o u) → H' b = some (.frz o u)
  tbls : ∀ b ps, H b = some (.tbl ps) → ∃ more, H' b = some (.tbl (ps ++ more))
section
variable {fs fs' ex ex' : List Addr} {H H1 H2 : Hp} {h h1 h2 h' : Heap} {a x e : Addr} {o : HO}
theorem Un.any (u : Un fs ex H H1 h h1) {b : Addr} {ob : Obj} (q : h.get? b = some ob) (n : H b = none) (hx : b ∉ ex) : ∃ sl, h1.get? b = some { ob with slots := sl } := by
  by_cases hb : b ∈ fs
  · exact u.slot b ob q n hb hx
  · exact ⟨ob.slots, u.keep b ob q n hb hx⟩
theorem Un.kept (k : ∀ b u, h.get? b = some u → h'.get? b = some u) : Un fs ex H H h h' :=
  ⟨fun b ob q _ _ _ => k b ob q, fun b ob q _ _ _ => ⟨ob.slots, k b ob q⟩, fun _ _ _ n _ => n, fun b ob q _ => ⟨ob, k b ob q⟩, fun _ _ q => q, fun _ _ _ q => q, fun _ ps q => ⟨#[], by rw [q]; simp⟩⟩
theorem Un.refl : Un fs ex H H h h := Un.kept fun _ _ q => q
theorem Un.laid (k : ∀ b u, h.get? b = some u → h'.get? b = some u) (hp : h.objs.size ≤ a) (hn : H a = none) : Un fs ex H (upd H a o) h h' where
  keep := fun b u q _ _ _ => k b u q
  slot := fun b u q _ _ _ => ⟨u.slots, k b u q⟩
  free := fun b u q n _ => by rw [upd_ne (Nat.ne_of_lt (Nat.lt_of_lt_of_le (Heap.lt_size q) hp))]; exact n
  there := fun b u q _ => ⟨u, k b u q⟩
  tups := fun b xs q => by rw [upd_ne (ne_of_none q hn)]; exact q
  frzs := fun b u xs q => by rw [upd_ne (ne_of_none q hn)]; exact q
  tbls := fun b ps q => ⟨#[], by rw [upd_ne (ne_of_none q hn), q]; simp⟩
theorem Un.write (mu : Mut (H x)) (he : e = x ∨ H e = some (.own x)) (k : ∀ b u, b ≠ e → h.get? b = some u → h'.get? b = some u) (heo : ∃ u, h'.get? e = some u) : Un fs ex H (upd H x o) h h' := by
  have hx : ∀ b, H b = none → b ≠ x := fun b n z => by subst z; rw [n] at mu; exact mu
  have hb : ∀ b, H b = none → b ≠ e := fun b n z => by
    subst z
    rcases he with r | r
    · exact hx b n r
    · rw [n] at r; cases r
  have hm : ∀ b u, H b = some u → ¬ Mut (some u) → b ≠ x := fun b u q nm z => by subst z; rw [q] at mu; exact nm mu
  refine ⟨fun b u q n _ _ => k b u (hb b n) q, fun b u q n _ _ => ⟨u.slots, k b u (hb b n) q⟩, fun b u q n _ => by rw [upd_ne (hx b n)]; exact n, fun b u q _ => ?_,
    fun b xs q => by rw [upd_ne (hm b _ q fun z => z)]; exact q, fun b u xs q => by rw [upd_ne (hm b _ q fun z => z)]; exact q, fun b ps q => ⟨#[], by rw [upd_ne (hm b _ q fun z => z), q]; simp⟩⟩
  by_cases hbe : b = e
  · subst hbe; exact heo
  · exact ⟨u, k b u hbe q⟩
end

/-! ### the heap without what is tracked -/
def trk (h : Heap) (H : Hp) : List Addr := (List.range h.objs.size).filter fun a => (H a).isSome
def hidT (h : Heap) (H : Hp) : Heap := PySem.W.hideAll h (trk h H)
theorem hidT_size (h : Heap) (H : Hp) : (hidT h H).objs.size = h.objs.size := PySem.W.hideAll_size _ _
theorem hidT_get {h : Heap} {H : Hp} {b : Addr} {o : Obj} (e : h.get? b = some o) (n : H b = none) : (hidT h H).get? b = some o :=
  PySem.W.hideAll_get _ e fun hm => by
    have q : (H b).isSome = true := (List.mem_filter.mp hm).2
    rw [n] at q; simp at q
theorem of_hidT {h : Heap} {H : Hp} {b : Addr} {o : Obj} (e : (hidT h H).get? b = some o) : h.get? b = some o ∧ H b = none := by
  have e' : h.get? b = some o := PySem.W.of_hideAll (trk h H) e
  refine ⟨e', ?_⟩
  cases q : H b with
  | none => rfl
  | some x =>
    have hm : b ∈ trk h H := List.mem_filter.mpr ⟨List.mem_range.mpr (Heap.lt_size e'), by simp [q]⟩
    have z : (hidT h H).get? b = none := PySem.W.hideAll_none (trk h H) hm
    rw [z] at e; cases e

/-! ### OpenK's ledger, filled with every new object but one -/
end L2

namespace L2
open PySem PySem.Spec PyProof.Rows

/-- the module's facts, over the base: the heap at the law's entry without what is tracked there -/
structure Mod (K : PySem.W.Frag) (mg : Str → Option Value) (base : Heap) : Prop where
  kin : K.In base
  glob : base.Ns mainGlobals mg
  blt : ∃ mb, base.Ns builtinsNs mb ∧ ∀ x : Str, x ≠ "__name__" → mb x = bootBuiltins x
  nolimit : base.NoLimit

/-- the context: a def's body (or a comprehension's block) running. base: fixed through the whole law; s₀, H₀: the entry; outer: the frames whose slots others may change (a def's callers); stack: all frames that run;
   ex: iterators that were made ahead of the entry and are walked here (a comprehension's); fn: the names whose cells were made at the entry (a def: all; a comprehension's block: its own); calm: not within an except suite; pn: pins that every state bears; xe: what is wanted of an exception that leaves the code -/
structure Cx where
  prog : Program
  w : World
  K : PySem.W.Frag
  mg : Str → Option Value
  base : Heap
  A : Around
  N : List Str
  s₀ : Shared
  H₀ : Hp
  env : Env
  outer : List Env
  stack : List Env
  ex : List Addr
  fn : Str → Bool
  calm : Bool
  pn : List (Addr × Obj)
  xe : Value → Shared → Prop
/-- the callers' frames -/
def frs (l : List Env) : List Addr := l.filterMap (·.frame)
abbrev Cx.fs (X : Cx) : List Addr := frs X.outer

def Vis (sc : Scope) (x : Str) : Prop := sc.names.lookup x = some .local ∨ sc.names.lookup x = some .cell ∨ sc.names.lookup x = some .free
def Loc (sc : Scope) (x : Str) : Prop := sc.names.lookup x = some .local ∨ sc.names.lookup x = some .cell
def Look (env : Env) (h : Heap) (m : Str → Option Value) (x : Str) (u : Value) : Prop :=
  (env.kindOf x = some .local ∧ m x = some u) ∨ ((env.kindOf x = some .cell ∨ env.kindOf x = some .free) ∧ ∃ c, env.cells.lookup x = some c ∧ h.IsCell c (some u))

structure Cx.Ok (X : Cx) : Prop where
  mod : Mod X.K X.mg X.base
  kind : X.env.scope.kind = .function
  glob : X.env.globals = mainGlobals
  blt : X.env.builtins = builtinsNs
  above : X.s₀.heap.objs.size ≤ X.env.locals
  inj : ∀ x y c, X.env.cells.lookup x = some c → X.env.cells.lookup y = some c → x = y
  has : ∀ x, (X.env.kindOf x = some .cell ∨ X.env.kindOf x = some .free) → ∃ c, X.env.cells.lookup x = some c
  cab : ∀ x c, X.fn x = true → X.env.cells.lookup x = some c → X.s₀.heap.objs.size ≤ c
  hd : X.calm = true → X.A.handled = none
  frames : X.A.frames = some X.stack
  stk : X.stack = X.outer ∨ (X.stack = X.env :: X.outer ∧ X.env.frame = some X.env.locals)
  exf : ∀ b ∈ X.ex, b ≠ X.env.locals ∧ ∀ x c, X.env.cells.lookup x = some c → c ≠ b
  bs : ∀ b o, X.base.get? b = some o → X.s₀.heap.get? b = some o ∧ X.H₀ b = none
  bsz : X.base.objs.size ≤ X.s₀.heap.objs.size
  noex : ∀ b o, X.base.get? b = some o → b ∉ X.ex
  exfs : ∀ b ∈ X.ex, b ∉ X.fs
  funs : X.s₀.heap.FunFrames X.base X.outer
  frf : ∀ b ∈ X.fs, X.H₀ b = none

structure Inv (X : Cx) (pins : List (Addr × Obj)) (σ : List (Option V)) (H : Hp) (s : Shared) : Prop where
  ok : X.Ok
  os : s.os = X.s₀.os
  bare : AllBare s.gens
  base : Un X.fs X.ex X.H₀ H X.s₀.heap s.heap
  loc : ∃ m, s.heap.Ns X.env.locals m ∧ ∀ (i : Nat) (x : Str) (v : V), X.N[i]? = some x → σ[i]? = some (some v) → Vis X.env.scope x → ∃ u, RelV v u ∧ Look X.env s.heap m x u
  cell : ∀ x c, X.env.cells.lookup x = some c → ∃ v, s.heap.IsCell c v
  free : H X.env.locals = none
  freeC : ∀ x c, X.env.cells.lookup x = some c → H c = none
  pin : ∀ p ∈ X.pn ++ pins, s.heap.get? p.1 = some p.2 ∧ H p.1 = none ∧ p.1 ≠ X.env.locals ∧ p.1 ∉ X.fs ∧ ∀ v, p.2.data ≠ .cell v
  hok : HOk X.prog X.w H s.heap
  len : σ.length = X.N.length

section
variable {X : Cx} {pins : List (Addr × Obj)} {σ : List (Option V)} {H H' : Hp} {s : Shared} {h' : Heap}

theorem Cx.Ok.nofr (ok : X.Ok) {b : Addr} {o : Obj} (e : X.base.get? b = some o) : b ∉ X.fs := fun hb => by
  have := (ok.funs.mem hb).1
  rw [e] at this; cases this
theorem Inv.bs (I : Inv X pins σ H s) : ∀ b o, X.base.get? b = some o → s.heap.get? b = some o ∧ H b = none := fun b o e =>
  ⟨I.base.keep b o (I.ok.bs b o e).1 (I.ok.bs b o e).2 (I.ok.nofr e) (I.ok.noex b o e), I.base.free b o (I.ok.bs b o e).1 (I.ok.bs b o e).2 (I.ok.noex b o e)⟩
theorem Inv.bk (I : Inv X pins σ H s) : ∀ b o, X.base.get? b = some o → s.heap.get? b = some o := fun b o e => (I.bs b o e).1
theorem Inv.mod (I : Inv X pins σ H s) : Mod X.K X.mg X.base := I.ok.mod
theorem Inv.kIn (I : Inv X pins σ H s) : X.K.In s.heap := I.ok.mod.kin.keeps I.bk
theorem Inv.lt (I : Inv X pins σ H s) : X.env.locals < s.heap.objs.size := let ⟨_, hn, _⟩ := I.loc; hn.lt
theorem Inv.sz (I : Inv X pins σ H s) : X.s₀.heap.objs.size ≤ s.heap.objs.size := Nat.le_trans I.ok.above (Nat.le_of_lt I.lt)
theorem Inv.nofs (I : Inv X pins σ H s) {a : Addr} (h : s.heap.objs.size ≤ a) : a ∉ X.fs := fun hb => by
  obtain ⟨_, o, ho, _⟩ := I.ok.funs.mem hb
  exact absurd (Nat.lt_of_lt_of_le (Heap.lt_size ho) (Nat.le_trans I.sz h)) (Nat.lt_irrefl _)
theorem Inv.cne (I : Inv X pins σ H s) : ∀ x c, X.env.cells.lookup x = some c → c ≠ X.env.locals := fun x c e z => by
  obtain ⟨v, o, ho, hd⟩ := I.cell x c e
  obtain ⟨m, ⟨o', es, ep, ho', hd', _⟩, _⟩ := I.loc
  rw [z, ho'] at ho; cases ho; rw [hd'] at hd; cases hd
theorem Inv.funs (I : Inv X pins σ H s) : s.heap.FunFrames X.base X.outer := by
  have all : ∀ (l : List Env), (∀ b ∈ frs l, b ∈ X.fs) → X.s₀.heap.FunFrames X.base l → s.heap.FunFrames X.base l := by
    intro l
    induction l with
    | nil => intro _ _; trivial
    | cons env r ih =>
      intro hs hl
      obtain ⟨hk, ⟨L, o, hf, hn, ho, hd⟩, hr⟩ := hl
      have hL : L ∈ X.fs := hs L (by unfold frs; rw [List.filterMap_cons, hf]; exact List.mem_cons_self)
      obtain ⟨sl, e⟩ := I.base.slot L o ho (I.ok.frf L hL) hL fun z => I.ok.exfs L z hL
      exact ⟨hk, ⟨L, _, hf, hn, e, hd⟩, ih (fun b hb => hs b (by unfold frs; rw [List.filterMap_cons, hf]; exact List.mem_cons_of_mem _ hb)) hr⟩
  exact all X.outer (fun _ hb => hb) I.ok.funs

/-- the frames that run, for a call -/
theorem Inv.stack (I : Inv X pins σ H s) : s.heap.FunFrames X.base X.stack := by
  rcases I.ok.stk with e | ⟨e, hf⟩
  · rw [e]; exact I.funs
  · rw [e]
    obtain ⟨m, hn, _⟩ := I.loc
    refine .cons (by rw [I.ok.kind]; decide) hf hn ?_ I.funs
    exact Heap.get?_none_of_le (Nat.le_trans I.ok.bsz I.ok.above)
theorem Inv.stkSub (I : Inv X pins σ H s) : ∀ b ∈ frs X.stack, b ∈ X.env.locals :: X.fs := fun b hb => by
  rcases I.ok.stk with e | ⟨e, hf⟩
  · rw [e] at hb; exact List.mem_cons_of_mem _ hb
  · rw [e] at hb
    unfold frs at hb
    rw [List.filterMap_cons, hf] at hb
    exact hb
theorem Inv.stkFree (I : Inv X pins σ H s) : ∀ b ∈ frs X.stack, H b = none := fun b hb => by
  rcases List.mem_cons.mp (I.stkSub b hb) with e | hb
  · rw [e]; exact I.free
  · obtain ⟨_, o, ho, _⟩ := I.ok.funs.mem hb
    exact I.base.free b o ho (I.ok.frf b hb) fun z => I.ok.exfs b z hb

/-- THE STEP: the untracked objects but the frame and the records at ch are kept (the callers' frames up to slots), the frame's map is kept, the new abstract heap is held -/
theorem Inv.step {g' : Array GenState} {t' : Nat} {d' : Drawn} {ch : List Addr} (I : Inv X pins σ H s)
    (hch : ∀ b ∈ ch, (b ∈ X.ex ∨ X.s₀.heap.objs.size ≤ b) ∧ b ≠ X.env.locals ∧ (∀ x c, X.env.cells.lookup x = some c → c ≠ b) ∧ ∀ p ∈ X.pn ++ pins, p.1 ≠ b)
    (keep : ∀ b o, b ≠ X.env.locals → b ∉ X.fs → b ∉ ch → s.heap.get? b = some o → H b = none → h'.get? b = some o)
    (slot : ∀ b o, b ≠ X.env.locals → b ∈ X.fs → b ∉ ch → s.heap.get? b = some o → H b = none → ∃ sl, h'.get? b = some { o with slots := sl }) (free : ∀ b o, b ∉ ch → s.heap.get? b = some o → H b = none → H' b = none)
    (there : ∀ b o, b ∉ ch → s.heap.get? b = some o → ∃ o', h'.get? b = some o')
    (tups : ∀ b xs, H b = some (.tup xs) → H' b = some (.tup xs)) (frzs : ∀ b o u, H b = some (.frz o u) → H' b = some (.frz o u)) (tbls : ∀ b ps, H b = some (.tbl ps) → ∃ more, H' b = some (.tbl (ps ++ more)))
    (ns : ∀ m, s.heap.Ns X.env.locals m → h'.Ns X.env.locals m) (hok : HOk X.prog X.w H' h') (hg : AllBare g') :
    Inv X pins σ H' { s with heap := h', gens := g', drawn := d', toks := t' } := by
  have neL : ∀ b o, X.s₀.heap.get? b = some o → b ≠ X.env.locals := fun b o e => Nat.ne_of_lt (Nat.lt_of_lt_of_le (Heap.lt_size e) I.ok.above)
  have neC : ∀ b o, X.s₀.heap.get? b = some o → b ∉ X.ex → b ∉ ch := fun b o e hx hb => by
    rcases (hch b hb).1 with z | z
    · exact hx z
    · exact absurd (Nat.lt_of_lt_of_le (Heap.lt_size e) z) (Nat.lt_irrefl _)
  have cellK : ∀ x c, X.env.cells.lookup x = some c → ∀ v, s.heap.IsCell c v → h'.IsCell c v := fun x c e v ⟨o, ho, hd⟩ => by
    have nch : c ∉ ch := fun z => (hch c z).2.2.1 x c e rfl
    by_cases hc : c ∈ X.fs
    · obtain ⟨sl, q⟩ := slot c o (I.cne x c e) hc nch ho (I.freeC x c e)
      exact ⟨_, q, hd⟩
    · exact ⟨o, keep c o (I.cne x c e) hc nch ho (I.freeC x c e), hd⟩
  refine ⟨I.ok, I.os, hg, ⟨fun b o e n hb hx => ?_, fun b o e n hb hx => ?_, fun b o e n hx => ?_, fun b o e hx => ?_, fun b xs e => tups b xs (I.base.tups b xs e), fun b o xs e => frzs b o xs (I.base.frzs b o xs e), fun b ps e => ?_⟩, ?_, fun x c e => ?_, ?_, fun x c e => ?_, fun p hp => ?_, hok, I.len⟩
  · exact keep b o (neL b o e) hb (neC b o e hx) (I.base.keep b o e n hb hx) (I.base.free b o e n hx)
  · obtain ⟨sl, e1⟩ := I.base.slot b o e n hb hx
    obtain ⟨sl', e2⟩ := slot b _ (neL b o e) hb (neC b o e hx) e1 (I.base.free b o e n hx)
    exact ⟨sl', e2⟩
  · obtain ⟨o', e1⟩ := I.base.there b o e hx
    exact free b o' (neC b o e hx) e1 (I.base.free b o e n hx)
  · obtain ⟨o', e1⟩ := I.base.there b o e hx
    exact there b o' (neC b o e hx) e1
  · obtain ⟨m1, e1⟩ := I.base.tbls b ps e
    obtain ⟨m2, e2⟩ := tbls b _ e1
    exact ⟨m1 ++ m2, by rw [e2, Array.append_assoc]⟩
  · obtain ⟨m, hn, hl⟩ := I.loc
    refine ⟨m, ns m hn, fun i x v e1 e2 e3 => ?_⟩
    obtain ⟨u, r, l⟩ := hl i x v e1 e2 e3
    refine ⟨u, r, ?_⟩
    rcases l with l | ⟨k, c, e, z⟩
    · exact .inl l
    · exact .inr ⟨k, c, e, cellK x c e _ z⟩
  · obtain ⟨v, z⟩ := I.cell x c e
    exact ⟨v, cellK x c e v z⟩
  · obtain ⟨m, ⟨o, _, _, ho, _⟩, _⟩ := I.loc
    exact free _ o (fun z => (hch _ z).2.1 rfl) ho I.free
  · obtain ⟨v, o, ho, hd⟩ := I.cell x c e
    exact free c o (fun z => (hch c z).2.2.1 x c e rfl) ho (I.freeC x c e)
  · obtain ⟨e, n, ne, nf, d⟩ := I.pin p hp
    have nch : p.1 ∉ ch := fun z => (hch p.1 z).2.2.2 p hp rfl
    exact ⟨keep p.1 p.2 ne nf nch e n, free p.1 p.2 nch e n, ne, nf, d⟩
/-- .. where the frame's own object is kept too -/
theorem Inv.un {t' : Nat} (I : Inv X pins σ H s) (u : Un X.fs [] H H' s.heap h') (hok : HOk X.prog X.w H' h') : Inv X pins σ H' { s with heap := h', toks := t' } := by
  obtain ⟨m, ⟨o, es, ep, ho, r⟩, _⟩ := id I.loc
  obtain ⟨sl, hL⟩ := u.any ho I.free (by simp)
  exact I.step (g' := s.gens) (d' := s.drawn) (ch := []) (fun _ z => nomatch z) (fun b o _ hb _ e n => u.keep b o e n hb (by simp)) (fun b o _ hb _ e n => u.slot b o e n hb (by simp)) (fun b o _ e n => u.free b o e n (by simp)) (fun b o _ e => u.there b o e (by simp)) u.tups u.frzs u.tbls (fun m' hm => by
    obtain ⟨o', es', ep', ho', r'⟩ := hm
    rw [ho] at ho'; cases ho'
    exact ⟨_, es', ep', hL, r'⟩) hok I.bare
/-- behind a call (or a comprehension's block): the slots of this frame may have changed too, the records at ch may have turned -/
theorem Inv.call {g' : Array GenState} {t' : Nat} {d' : Drawn} {ch : List Addr} (I : Inv X pins σ H s) (u : Un (frs X.stack) ch H H' s.heap h') (hok : HOk X.prog X.w H' h') (hg : AllBare g')
    (hch : ∀ b ∈ ch, (b ∈ X.ex ∨ X.s₀.heap.objs.size ≤ b) ∧ b ≠ X.env.locals ∧ (∀ x c, X.env.cells.lookup x = some c → c ≠ b) ∧ ∀ p ∈ X.pn ++ pins, p.1 ≠ b) :
    Inv X pins σ H' { s with heap := h', gens := g', drawn := d', toks := t' } := by
  obtain ⟨m, ⟨o, es, ep, ho, r⟩, _⟩ := id I.loc
  obtain ⟨sl, hL⟩ := u.any ho I.free fun z => (hch _ z).2.1 rfl
  exact I.step (ch := ch) hch (fun b o hL hb hc e n => u.keep b o e n (fun z => (List.mem_cons.mp (I.stkSub b z)).elim hL hb) hc) (fun b o _ _ hc e n => u.any e n hc) (fun b o hc e n => u.free b o e n hc) (fun b o hc e => u.there b o e hc) u.tups u.frzs u.tbls (fun m' hm => by
    obtain ⟨o', es', ep', ho', r'⟩ := hm
    rw [ho] at ho'; cases ho'
    exact ⟨_, es', ep', hL, r'⟩) hok hg
/-- an untracked record of ours (an iterator) has turned -/
theorem Inv.turned {t' : Nat} {it : Addr} (I : Inv X pins σ H s) (k : ∀ b o, b ≠ it → s.heap.get? b = some o → h'.get? b = some o) (hn : H it = none) (hL : it ≠ X.env.locals)
    (h1 : it ∈ X.ex ∨ X.s₀.heap.objs.size ≤ it) (h2 : ∀ x c, X.env.cells.lookup x = some c → c ≠ it) (h3 : ∀ p ∈ X.pn ++ pins, p.1 ≠ it) : Inv X pins σ H { s with heap := h', toks := t' } := by
  have nit : ∀ b u, H b = some u → b ≠ it := fun b u e z => by rw [z, hn] at e; cases e
  refine I.step (g' := s.gens) (d' := s.drawn) (ch := [it]) (fun b hb => ?_) (fun b o _ _ hc e _ => k b o (fun z => hc (by simp [z])) e) (fun b o _ _ hc e _ => ⟨o.slots, k b o (fun z => hc (by simp [z])) e⟩) (fun _ _ _ _ n => n)
    (fun b o hc e => ⟨o, k b o (fun z => hc (by simp [z])) e⟩) (fun _ _ e => e) (fun _ _ _ e => e) (fun b ps e => ⟨#[], by rw [e]; simp⟩) (fun m hm => ?_) (fun b u e => ?_) I.bare
  · have e : b = it := by simpa using hb
    subst e
    exact ⟨h1, hL, h2, h3⟩
  · obtain ⟨o, es, ep, ho, r⟩ := hm
    exact ⟨o, es, ep, k _ o (Ne.symm hL) ho, r⟩
  · refine (I.hok b u e).stay (fun c v hc q => k c v ?_ q) (fun _ q => q) fun _ _ q => q
    rcases hc with z | z
    · rw [z]; exact nit b u e
    · exact nit c _ z
theorem Inv.tok (I : Inv X pins σ H s) (t : Nat) : Inv X pins σ H { s with toks := t } := I.un (h' := s.heap) (t' := t) Un.refl I.hok
/-- all objects kept -/
theorem Inv.kept {t' : Nat} (I : Inv X pins σ H s) (k : ∀ b u, s.heap.get? b = some u → h'.get? b = some u) : Inv X pins σ H { s with heap := h', toks := t' } := I.un (Un.kept k) (I.hok.kept k)
/-- a new object laid and tracked -/
theorem Inv.laid {a : Addr} {o : HO} {t' : Nat} (I : Inv X pins σ H s) (k : ∀ b u, s.heap.get? b = some u → h'.get? b = some u) (hp : s.heap.objs.size ≤ a) (new : ObjOk X.prog X.w (upd H a o) h' a o) :
    Inv X pins σ (upd H a o) { s with heap := h', toks := t' } := I.un (Un.laid k hp (I.hok.fresh hp)) (I.hok.laid k hp new)
/-- an object written -/
theorem Inv.write {x e : Addr} {o : HO} {t' : Nat} (I : Inv X pins σ H s) (mu : Mut (H x)) (he : e = x ∨ H e = some (.own x)) (k : ∀ b u, b ≠ e → s.heap.get? b = some u → h'.get? b = some u) (heo : ∃ u, h'.get? e = some u)
    (new : ObjOk X.prog X.w (upd H x o) h' x o) : Inv X pins σ (upd H x o) { s with heap := h', toks := t' } := I.un (Un.write mu he k heo) (I.hok.write mu he k heo new)
/-- forgetting slots, pins -/
theorem Inv.weak {σ' : List (Option V)} (I : Inv X pins σ H s) (hl : σ'.length = σ.length) (w : ∀ (i : Nat) v, σ'[i]? = some (some v) → σ[i]? = some (some v)) : Inv X pins σ' H s :=
  ⟨I.ok, I.os, I.bare, I.base, let ⟨m, hn, hl'⟩ := I.loc; ⟨m, hn, fun i x v e1 e2 e3 => hl' i x v e1 (w i v e2) e3⟩, I.cell, I.free, I.freeC, I.pin, I.hok, hl.trans I.len⟩
theorem Inv.pins_of {pins' : List (Addr × Obj)} (I : Inv X pins σ H s) (h : ∀ p ∈ pins', s.heap.get? p.1 = some p.2 ∧ H p.1 = none ∧ p.1 ≠ X.env.locals ∧ p.1 ∉ X.fs ∧ ∀ v, p.2.data ≠ .cell v) : Inv X pins' σ H s :=
  ⟨I.ok, I.os, I.bare, I.base, I.loc, I.cell, I.free, I.freeC, fun p hp => (List.mem_append.mp hp).elim (fun z => I.pin p (List.mem_append_left _ z)) (h p), I.hok, I.len⟩

theorem nodup_ix {N : List Str} (hN : N.Nodup) {i j : Nat} {x : Str} (a : N[i]? = some x) (b : N[j]? = some x) : i = j := by
  obtain ⟨h1, e1⟩ := List.getElem?_eq_some_iff.mp a
  obtain ⟨h2, e2⟩ := List.getElem?_eq_some_iff.mp b
  exact (List.getElem_inj hN).mp (e1.trans e2.symm)

/-- a name is stored; what changed -/
theorem store_ok2 {M : Model} {A : Around} {E : Value → Shared → Prop} {i : Nat} {x : Str} {v : V} {u : Value} {Q : Unit → Shared → Prop} (I : Inv X pins σ H s) (hN : X.N.Nodup) (hi : X.N[i]? = some x) (hx : Loc X.env.scope x) (r : RelV v u)
    (h : ∀ s', Inv X pins (σ.set i (some v)) H s' → (∃ a, Heap.SameBut a s.heap s'.heap ∧ (a = X.env.locals ∨ X.env.cells.lookup x = some a)) → Q () s') (hf : X.fn x = true ∨ X.env.scope.names.lookup x = some .local := by first | exact .inl rfl | exact .inr rfl | assumption) : wpAny M A (storeName X.env x u) Q E s := by
  obtain ⟨m, hn, hl⟩ := id I.loc
  have hcls : (X.env.scope.kind == .class || (X.env.scope.kind == .module && X.env.locals != X.env.globals)) = false := by rw [I.ok.kind]; rfl
  have hiσ : i < σ.length := by rw [I.len]; exact (List.getElem?_eq_some_iff.mp hi).1
  have cne := I.cne
  have tracked : ∀ {a : Addr} {h' : Heap}, (∃ o, s.heap.get? a = some o ∧ H a = none) → Heap.SameBut a s.heap h' → HOk X.prog X.w H h' := fun {a h'} ha hs b ob e => by
    obtain ⟨_, _, hfree⟩ := ha
    refine (I.hok b ob e).stay (fun c w' hc q => (hs.2 c ?_).trans q) (fun _ q => q) fun _ _ q => q
    rintro rfl
    rcases hc with rfl | hc
    · rw [hfree] at e; cases e
    · rw [hfree] at hc; cases hc
  rcases hx with hk | hk
  · refine wpAny_storeName_local hk hn (fun h' hn' hs => ?_) hcls
    obtain ⟨oL, _, _, hoL, _⟩ := id hn
    refine h _ ⟨I.ok, I.os, I.bare, ⟨fun b o e n hb hx => ?_, fun b o e n hb hx => ?_, I.base.free, fun b o e hx => ?_, I.base.tups, I.base.frzs, I.base.tbls⟩, ⟨_, hn', fun j y v' e1 e2 e3 => ?_⟩, fun y c e => ?_, I.free, I.freeC, fun p hp => ?_, tracked ⟨oL, hoL, I.free⟩ hs, by simpa using I.len⟩ ⟨_, hs, .inl rfl⟩
    · exact (hs.2 b (Nat.ne_of_lt (Nat.lt_of_lt_of_le (Heap.lt_size e) I.ok.above))).trans (I.base.keep b o e n hb hx)
    · obtain ⟨sl, e1⟩ := I.base.slot b o e n hb hx
      exact ⟨sl, (hs.2 b (Nat.ne_of_lt (Nat.lt_of_lt_of_le (Heap.lt_size e) I.ok.above))).trans e1⟩
    · obtain ⟨o', e1⟩ := I.base.there b o e hx
      exact ⟨o', (hs.2 b (Nat.ne_of_lt (Nat.lt_of_lt_of_le (Heap.lt_size e) I.ok.above))).trans e1⟩
    · by_cases hj : j = i
      · subst hj
        rw [hi] at e1; cases e1
        rw [List.getElem?_set_self hiσ] at e2
        cases e2
        exact ⟨u, r, .inl ⟨hk, by simp⟩⟩
      · rw [List.getElem?_set_ne (Ne.symm hj)] at e2
        obtain ⟨u', r', q⟩ := hl j y v' e1 e2 e3
        refine ⟨u', r', ?_⟩
        rcases q with ⟨k, e⟩ | ⟨k, c, e, z⟩
        · refine .inl ⟨k, ?_⟩
          have : y ≠ x := fun e => hj (nodup_ix hN e1 (e ▸ hi))
          simp [this, e]
        · exact .inr ⟨k, c, e, z.sameBut hs (cne y c e)⟩
    · obtain ⟨w', z⟩ := I.cell y c e
      exact ⟨w', z.sameBut hs (cne y c e)⟩
    · obtain ⟨e, n, ne, nf, d⟩ := I.pin p hp
      exact ⟨(hs.2 p.1 ne).trans e, n, ne, nf, d⟩
  · have hfn : X.fn x = true := by
      rcases hf with z | z
      · exact z
      · rw [z] at hk; cases hk
    obtain ⟨c, hc⟩ := I.ok.has x (.inl hk)
    obtain ⟨w', z⟩ := I.cell x c hc
    refine wpAny_storeName_cell I.ok.kind hk hc z (fun h' hc' hs => ?_)
    obtain ⟨oc, hoc, hocd⟩ := id z
    refine h { s with heap := h' } ⟨I.ok, I.os, I.bare, ⟨fun b o e n hb hx => ?_, fun b o e n hb hx => ?_, I.base.free, fun b o e hx => ?_, I.base.tups, I.base.frzs, I.base.tbls⟩, ⟨m, hn.sameBut hs (Ne.symm (cne x c hc)), fun j y v' e1 e2 e3 => ?_⟩, fun y c' e => ?_, I.free, I.freeC, fun p hp => ?_, tracked ⟨oc, hoc, I.freeC x c hc⟩ hs, by simpa using I.len⟩ ⟨c, hs, .inr hc⟩
    · exact (hs.2 b (Nat.ne_of_lt (Nat.lt_of_lt_of_le (Heap.lt_size e) (I.ok.cab x c hfn hc)))).trans (I.base.keep b o e n hb hx)
    · obtain ⟨sl, e1⟩ := I.base.slot b o e n hb hx
      exact ⟨sl, (hs.2 b (Nat.ne_of_lt (Nat.lt_of_lt_of_le (Heap.lt_size e) (I.ok.cab x c hfn hc)))).trans e1⟩
    · obtain ⟨o', e1⟩ := I.base.there b o e hx
      exact ⟨o', (hs.2 b (Nat.ne_of_lt (Nat.lt_of_lt_of_le (Heap.lt_size e) (I.ok.cab x c hfn hc)))).trans e1⟩
    · by_cases hj : j = i
      · subst hj
        rw [hi] at e1; cases e1
        rw [List.getElem?_set_self hiσ] at e2
        cases e2
        exact ⟨u, r, .inr ⟨.inl hk, c, hc, hc'⟩⟩
      · rw [List.getElem?_set_ne (Ne.symm hj)] at e2
        obtain ⟨u', r', q⟩ := hl j y v' e1 e2 e3
        refine ⟨u', r', ?_⟩
        rcases q with q | ⟨k, c', e, z'⟩
        · exact .inl q
        · refine .inr ⟨k, c', e, z'.sameBut hs ?_⟩
          rintro rfl
          exact hj (nodup_ix hN e1 (I.ok.inj _ _ _ e hc ▸ hi))
    · by_cases hcc : c' = c
      · subst hcc; exact ⟨_, hc'⟩
      · obtain ⟨w2, z2⟩ := I.cell y c' e
        exact ⟨w2, z2.sameBut hs hcc⟩
    · obtain ⟨e, n, ne, nf, d⟩ := I.pin p hp
      refine ⟨(hs.2 p.1 ?_).trans e, n, ne, nf, d⟩
      intro q
      rw [q, hoc] at e
      have q' : oc = p.2 := Option.some.inj e
      exact d w' (by rw [← q']; exact hocd)
theorem store_ok {M : Model} {A : Around} {E : Value → Shared → Prop} {i : Nat} {x : Str} {v : V} {u : Value} {Q : Unit → Shared → Prop} (I : Inv X pins σ H s) (hN : X.N.Nodup) (hi : X.N[i]? = some x) (hx : Loc X.env.scope x) (r : RelV v u)
    (h : ∀ s', Inv X pins (σ.set i (some v)) H s' → Q () s') (hf : X.fn x = true ∨ X.env.scope.names.lookup x = some .local := by first | exact .inl rfl | exact .inr rfl | assumption) : wpAny M A (storeName X.env x u) Q E s :=
  store_ok2 I hN hi hx r (fun s' I' _ => h s' I') hf
/-- behind a call or a block, the state as it is -/
theorem Inv.call' {s' : Shared} {ch : List Addr} (I : Inv X pins σ H s) (ho : s'.os = s.os) (u : Un (frs X.stack) ch H H' s.heap s'.heap) (hok : HOk X.prog X.w H' s'.heap) (hg : AllBare s'.gens)
    (hch : ∀ b ∈ ch, (b ∈ X.ex ∨ X.s₀.heap.objs.size ≤ b) ∧ b ≠ X.env.locals ∧ (∀ x c, X.env.cells.lookup x = some c → c ≠ b) ∧ ∀ p ∈ X.pn ++ pins, p.1 ≠ b) : Inv X pins σ H' s' := by
  obtain ⟨h', g', d', t', o'⟩ := s'
  have e : o' = s.os := ho
  subst e
  exact I.call (g' := g') (t' := t') (d' := d') u hok hg hch
end

/-! ### the judgements -/
/-- an exception: its class, its own dict's address (where it has one), the abstract heap behind it -/
abbrev XK := Value → Option Addr → Hp → Prop
abbrev St := List (Option V)
abbrev VK := V → Hp → Prop
/-- an expression's reading; a test's; an argument list's -/
abbrev TE := St → Hp → VK → Prop
abbrev TT := St → Hp → (Bool → Hp → Prop) → Prop
abbrev TA := St → Hp → (List V → Hp → Prop) → Prop
/-- what is wanted behind a statement -/
structure Ends where
  nx : St → Hp → Prop
  rt : VK
  bk : St → Hp → Prop := fun _ _ => False
  ct : St → Hp → Prop := fun _ _ => False
abbrev TS := Ends → St → Hp → Prop

def EP (X : Cx) (pins : List (Addr × Obj)) (σ : St) (Q : VK) (u : Value) (s' : Shared) : Prop := ∃ v H', Inv X pins σ H' s' ∧ RelV v u ∧ Q v H'
def TP (X : Cx) (pins : List (Addr × Obj)) (σ : St) (Q : Bool → Hp → Prop) (b : Bool) (s' : Shared) : Prop := ∃ H', Inv X pins σ H' s' ∧ Q b H'
def AP (X : Cx) (pins : List (Addr × Obj)) (σ : St) (Q : List V → Hp → Prop) (us : List Value) (s' : Shared) : Prop := ∃ vs H', Inv X pins σ H' s' ∧ Vals vs us ∧ Q vs H'
def SP (X : Cx) (pins : List (Addr × Obj)) (D : Ends) (f : Flow) (s' : Shared) : Prop :=
  match f with
  | .next => ∃ σ' H', Inv X pins σ' H' s' ∧ D.nx σ' H'
  | .brk => ∃ σ' H', Inv X pins σ' H' s' ∧ D.bk σ' H'
  | .cont => ∃ σ' H', Inv X pins σ' H' s' ∧ D.ct σ' H'
  | .ret u => ∃ v σ' H', Inv X pins σ' H' s' ∧ RelV v u ∧ D.rt v H'

def PE (X : Cx) (e : Expr) (t : TE) : Prop :=
  ∀ ⦃pins : List (Addr × Obj)⦄ (s : Shared) (σ : St) (H : Hp) (Q : VK), Inv X pins σ H s → t σ H Q → wpAny (model X.prog X.w) X.A (eval e X.env) (EP X pins σ Q) X.xe s
def PT (X : Cx) (e : Expr) (t : TT) : Prop :=
  ∀ ⦃pins : List (Addr × Obj)⦄ (s : Shared) (σ : St) (H : Hp) (Q : Bool → Hp → Prop), Inv X pins σ H s → t σ H Q → wpAny (model X.prog X.w) X.A (isTrue e X.env (eval e X.env)) (TP X pins σ Q) X.xe s
/-- a test whatever its 'whole' is (and, or) -/
def PW (X : Cx) (e : Expr) (t : TT) : Prop :=
  ∀ ⦃whole : Sem Value⦄ ⦃pins : List (Addr × Obj)⦄ (s : Shared) (σ : St) (H : Hp) (Q : Bool → Hp → Prop), Inv X pins σ H s → t σ H Q → wpAny (model X.prog X.w) X.A (isTrue e X.env whole) (TP X pins σ Q) X.xe s
theorem PW.pt {X : Cx} {e : Expr} {t : TT} (h : PW X e t) : PT X e t := fun pins s σ H Q I q => h s σ H Q I q
/-- an argument list (no star), from the left -/
def PA (X : Cx) (es : List Expr) (t : TA) : Prop :=
  ∀ ⦃pos : Pos⦄ ⦃pins : List (Addr × Obj)⦄ (s : Shared) (σ : St) (H : Hp) (Q : List V → Hp → Prop), Inv X pins σ H s → t σ H Q → wpAny (model X.prog X.w) X.A (spliced (backTo pos (starEach es X.env))) (AP X pins σ Q) X.xe s
def PS (X : Cx) (st : Stmt) (t : TS) : Prop :=
  ∀ ⦃pins : List (Addr × Obj)⦄ (s : Shared) (σ : St) (H : Hp) (D : Ends), Inv X pins σ H s → t D σ H → wpAny (model X.prog X.w) X.A (exec st X.env) (SP X pins D) X.xe s
def PSs (X : Cx) (st : List Stmt) (t : TS) : Prop :=
  ∀ ⦃pins : List (Addr × Obj)⦄ (s : Shared) (σ : St) (H : Hp) (D : Ends), Inv X pins σ H s → t D σ H → wpAny (model X.prog X.w) X.A (execs st X.env) (SP X pins D) X.xe s
/-- weaken the end -/
theorem thn {α : Type} {t : Sem α} {Q Q' : α → Shared → Prop} {M : Model} {A : Around} {E : Value → Shared → Prop} {s : Shared} (h : wpAny M A t Q E s) (hQ : ∀ a s, Q a s → Q' a s) : wpAny M A t Q' E s := wpAny_mono h hQ fun _ _ x => x
end L2

namespace L2
open PySem PySem.Spec PyProof.Rows
section
variable {X : Cx}

/-! ### names and constants -/
def tVar (i : Nat) : TE := fun σ H Q => ∃ v, σ[i]? = some (some v) ∧ Q v H
def tC (v : V) : TE := fun _ H Q => Q v H
theorem pe_var {i : Nat} {x : Str} {pos : Pos} (hN : X.N[i]? = some x) (hv : Vis X.env.scope x) (hd : (x == ("__debug__" : Str)) = false := by decide) (hcd : (x == ("__classdict__" : Str)) = false := by decide) : PE X (.Name x pos) (tVar i) := by
  intro pins s σ H Q I h
  obtain ⟨v, e, h⟩ := h
  obtain ⟨m, hn, hl⟩ := I.loc
  obtain ⟨u, r, l⟩ := hl i x v hN e hv
  have fin : EP X pins σ Q u s := ⟨v, H, I, r, h⟩
  rcases l with ⟨hk, hm⟩ | ⟨hk, c, hc, hcell⟩
  · exact wpAny_Name (wpAny_loadName_local I.ok.kind hk hn hm fin) hd
  · rcases hk with hk | hk
    · exact wpAny_Name (wpAny_loadName_cell I.ok.kind hk hc hcell fin) hd
    · exact wpAny_Name (wpAny_loadName_free I.ok.kind hk hc hcell fin hcd) hd
theorem pe_int {i j pos} : PE X (.Constant (.int i) j pos) (tC (.int i)) := fun _ _ _ H _ I h => wpAny_Constant_int ⟨.int i, H, I.tok _, ⟨_, rfl⟩, h⟩
theorem pe_bl {b j pos} : PE X (.Constant (.bool b) j pos) (tC (.bl b)) := fun _ _ _ H _ I h => Constant_bool ⟨.bl b, H, I, rfl, h⟩
theorem pe_non {j pos} : PE X (.Constant .none j pos) (tC .non) := fun _ _ _ H _ I h => Constant_none ⟨.non, H, I, rfl, h⟩
theorem pe_str {x j pos} : PE X (.Constant (.str x) j pos) (tC (.str x)) := fun _ _ _ H _ I h => Calls.Constant_str ⟨.str x, H, I.tok _, ⟨_, rfl⟩, h⟩

/-- a global name of the def -/
def Gl (X : Cx) (x : Str) : Prop := X.env.kindOf x = some .globalImplicit
theorem ld_glob {E : Value → Shared → Prop} {pins : List (Addr × Obj)} {s : Shared} {σ : St} {H : Hp} {x : Str} {u : Value} {pos : Pos} {Q : Value → Shared → Prop} (I : Inv X pins σ H s) (hg : Gl X x) (hm : X.mg x = some u) (h : Q u s)
    (hd : (x == ("__debug__" : Str)) = false := by decide) : wpAny (model X.prog X.w) X.A (eval (.Name x pos) X.env) Q E s :=
  Calls.Name_function_global I.ok.kind hg (Calls.loadGlobal_global (by rw [I.ok.glob]; exact I.mod.glob.keeps I.bk) hm h) hd
theorem ld_blt {E : Value → Shared → Prop} {pins : List (Addr × Obj)} {s : Shared} {σ : St} {H : Hp} {x : Str} {u : Value} {pos : Pos} {Q : Value → Shared → Prop} (I : Inv X pins σ H s) (hg : Gl X x) (hm : X.mg x = none) (hv : bootBuiltins x = some u) (h : Q u s)
    (hn : x ≠ "__name__" := by decide) (hd : (x == ("__debug__" : Str)) = false := by decide) : wpAny (model X.prog X.w) X.A (eval (.Name x pos) X.env) Q E s := by
  obtain ⟨mb, h1, h2⟩ := I.mod.blt
  exact Calls.Name_function_global I.ok.kind hg (Calls.loadGlobal_builtin (by rw [I.ok.glob]; exact I.mod.glob.keeps I.bk) hm (by rw [I.ok.blt]; exact h1.keeps I.bk) ((h2 x hn).trans hv) h) hd
/-- a module's constant, a class, a function, as a value -/
theorem pe_glob {x : Str} {v : V} {u : Value} {pos : Pos} (hg : Gl X x) (hm : X.mg x = some u) (r : RelV v u) (hd : (x == ("__debug__" : Str)) = false := by decide) : PE X (.Name x pos) (tC v) :=
  fun _ _ _ H _ I h => ld_glob I hg hm ⟨v, H, I, r, h⟩ hd
theorem pe_bltn {x : Str} {v : V} {u : Value} {pos : Pos} (hg : Gl X x) (hm : X.mg x = none) (hv : bootBuiltins x = some u) (r : RelV v u) (hn : x ≠ "__name__" := by decide) (hd : (x == ("__debug__" : Str)) = false := by decide) : PE X (.Name x pos) (tC v) :=
  fun _ _ _ H _ I h => ld_blt I hg hm hv ⟨v, H, I, r, h⟩ hn hd

/-! ### arithmetic -/
variable {a b : Expr} {ta tb : TE} {pos : Pos}
/-! ### comparisons -/
/-- a comparison as a value, as a test -/
def tB (t : TE) : TT := fun σ H Q => t σ H fun x H1 => ∃ c, x = .bl c ∧ Q c H1
/-- an expression whose value is a bool, as a test -/
theorem pt_val {e : Expr} {t : TE} (h : PE X e t) (he : ∀ whole, isTrue e X.env whole = (do let v ← whole; standAt e.pos; holding [v] (truthy v)) := by intro _; rfl) : PT X e (tB t) := by
  intro pins s σ H Q I hw
  refine isTrue_plain (thn (h s σ H _ I hw) fun v s1 ⟨x, H1, I1, r1, q1⟩ => ?_) (he _)
  obtain ⟨d, rfl, q⟩ := q1
  cases r1
  exact wpAny_truthy_bool ⟨H1, I1, q⟩

/-! ### and, or, not -/
variable {tA tB' : TT} {rest : List Expr}
def tAnd (t u : TT) : TT := fun σ H Q => t σ H fun c H1 => if c = true then u σ H1 Q else Q false H1
def tOr (t u : TT) : TT := fun σ H Q => t σ H fun c H1 => if c = true then Q true H1 else u σ H1 Q
def tNot (t : TT) : TT := fun σ H Q => t σ H fun c H1 => Q (!c) H1
theorem pw_and1 (ha : PT X a tA) : PW X (.BoolOp .And [a] pos) tA := by
  intro wh pins s σ H Q I h
  refine isTrue_and (thn (ha s σ H Q I h) fun c s1 e => ?_)
  cases c with
  | true => exact isTrue_and_nil e
  | false => exact e
theorem pw_or1 (ha : PT X a tA) : PW X (.BoolOp .Or [a] pos) tA := by
  intro wh pins s σ H Q I h
  refine isTrue_or (thn (ha s σ H Q I h) fun c s1 e => ?_)
  cases c with
  | false => exact isTrue_or_nil e
  | true => exact e
theorem pw_and (ha : PT X a tA) (hb : PW X (.BoolOp .And (b :: rest) pos) tB') : PW X (.BoolOp .And (a :: b :: rest) pos) (tAnd tA tB') := by
  intro wh pins s σ H Q I h
  refine isTrue_and (thn (ha s σ H _ I h) fun c s1 ⟨H1, I1, q1⟩ => ?_)
  cases c with
  | true => exact hb s1 σ H1 Q I1 q1
  | false => exact ⟨H1, I1, q1⟩
theorem pw_or (ha : PT X a tA) (hb : PW X (.BoolOp .Or (b :: rest) pos) tB') : PW X (.BoolOp .Or (a :: b :: rest) pos) (tOr tA tB') := by
  intro wh pins s σ H Q I h
  refine isTrue_or (thn (ha s σ H _ I h) fun c s1 ⟨H1, I1, q1⟩ => ?_)
  cases c with
  | true => exact ⟨H1, I1, q1⟩
  | false => exact hb s1 σ H1 Q I1 q1
theorem pt_not (ha : PT X a tA) : PT X (.UnaryOp .Not a pos) (tNot tA) := by
  intro pins s σ H Q I h
  exact isTrue_not (ha s σ H (fun c H1 => Q (!c) H1) I h)
/-- .. as values (bools) -/
def tAndV (ta tb : TE) : TE := fun σ H Q => ta σ H fun x H1 => ∃ c, x = .bl c ∧ if c = true then tb σ H1 Q else Q (.bl false) H1
def tNotV (ta : TE) : TE := fun σ H Q => ta σ H fun x H1 => ∃ c, x = .bl c ∧ Q (.bl (!c)) H1
theorem pe_one {op} {t : TE} (h : PE X a t) : PE X (.BoolOp op [a] pos) t := fun pins s σ H Q I hw => BoolOp_one (h s σ H Q I hw)
theorem pe_and (ha : PE X a ta) (hb : PE X (.BoolOp .And (b :: rest) pos) tb) : PE X (.BoolOp .And (a :: b :: rest) pos) (tAndV ta tb) := by
  intro pins s σ H Q I h
  refine BoolOp_and (thn (ha s σ H _ I h) fun v s1 ⟨x, H1, I1, r1, q1⟩ => ?_)
  obtain ⟨c, rfl, q1⟩ := q1
  cases r1
  refine wpAny_truthy_bool ?_
  cases c with
  | true => exact hb s1 σ H1 Q I1 q1
  | false => exact ⟨.bl false, H1, I1, rfl, q1⟩
theorem pe_not (ha : PE X a ta) : PE X (.UnaryOp .Not a pos) (tNotV ta) := by
  intro pins s σ H Q I h
  refine UnaryOp_ (thn (ha s σ H _ I h) fun v s1 ⟨x, H1, I1, r1, q1⟩ => ?_)
  obtain ⟨c, rfl, q1⟩ := q1
  cases r1
  exact not_of (wpAny_truthy_bool ⟨.bl (!c), H1, I1, rfl, q1⟩)
/-- a if t else b -/
def tIf (t : TT) (ta tb : TE) : TE := fun σ H Q => t σ H fun c H1 => if c = true then ta σ H1 Q else tb σ H1 Q
theorem pe_ifExp {c : Expr} (hc : PT X c tA) (ha : PE X a ta) (hb : PE X b tb) : PE X (.IfExp c a b pos) (tIf tA ta tb) := by
  intro pins s σ H Q I h
  refine wpAny_IfExp (thn (hc s σ H _ I h) fun d s1 ⟨H1, I1, q1⟩ => ?_)
  cases d with
  | true => exact ha s1 σ H1 Q I1 q1
  | false => exact hb s1 σ H1 Q I1 q1
end
end L2

namespace L2
open PySem PySem.Spec PyProof.Rows

/-! ### a list, a tuple that is read: tracked, frozen, or an object of the module -/
def SqL (K : PySem.W.Frag) (H : Hp) (a : Addr) (xs : List V) : Prop :=
  Rd H a (.lst xs) ∨
    ∃ (o : Obj) (its : Array Value) (n : Nat), K.lookup a = some o ∧ o.cls = .type "list" ∧ o.dict = none ∧ o.data = .seq its n ∧ its.size ≤ sizeLine ∧ Vals xs its.toList
def SqT (K : PySem.W.Frag) (H : Hp) (a : Addr) (xs : List V) : Prop :=
  Rd H a (.tup xs) ∨
    ∃ (o : Obj) (its : Array Value) (n : Nat), K.lookup a = some o ∧ o.cls = .type "tuple" ∧ o.data = .seq its n ∧ its.size ≤ sizeLine ∧ Vals xs its.toList
def absV : Value → Option V
  | .none => some .non
  | .bool b => some (.bl b)
  | .int i _ => some (.int i)
  | .str x _ => some (.str x)
  | .bytes b _ => some (.byt b)
  | .float b _ => some (.flt b)
  | .ref a => some (.ref a)
  | .type n => some (.ty n)
  | _ => none
theorem RelV.abs {x : V} {u : Value} (r : RelV x u) : absV u = some x := by
  cases x with
  | non => cases r; rfl
  | bl _ => cases r; rfl
  | int _ => obtain ⟨t, rfl⟩ := r; rfl
  | str _ => obtain ⟨t, rfl⟩ := r; rfl
  | byt _ => obtain ⟨t, rfl⟩ := r; rfl
  | flt _ => obtain ⟨t, rfl⟩ := r; rfl
  | ref _ => cases r; rfl
  | ty _ => cases r; rfl
theorem RelV.inj {x y : V} {u : Value} (r : RelV x u) (q : RelV y u) : x = y := Option.some.inj (r.abs.symm.trans q.abs)
theorem Vals.inj : ∀ {xs ys : List V} {us : List Value}, Vals xs us → Vals ys us → xs = ys
  | _, _, _, .nil, .nil => rfl
  | _, _, _, .cons r t, .cons r' t' => by rw [r.inj r', Vals.inj t t']
section
variable {X : Cx} {pins : List (Addr × Obj)} {σ : St} {H : Hp} {s : Shared} {a : Addr} {xs ys : List V}
theorem SqL.of {K : PySem.W.Frag} (h : H a = some (.lst xs)) : SqL K H a xs := .inl (.inl h)
theorem SqT.of {K : PySem.W.Frag} (h : H a = some (.tup xs)) : SqT K H a xs := .inl (.inl h)
theorem Inv.list (I : Inv X pins σ H s) (h : SqL X.K H a xs) : ∃ its : List Value, Vals xs its ∧ PlainL s.heap a its.toArray ∧ xs.length ≤ sizeLine := by
  rcases h with h | ⟨o, its, n, hk, hc, hd, hs, hz, r⟩
  · obtain ⟨z, its, n, r, e⟩ := h.ok I.hok
    exact ⟨its, r, ⟨_, n, e, rfl, rfl, rfl⟩, z⟩
  · refine ⟨its.toList, r, ⟨o, n, I.kIn a o hk, hc, hd, by simpa using hs⟩, ?_⟩
    have e := r.length
    simp only [Array.length_toList] at e
    omega
theorem Inv.tuple (I : Inv X pins σ H s) (h : SqT X.K H a xs) : ∃ its : List Value, Vals xs its ∧ IsTup s.heap a its.toArray ∧ xs.length ≤ sizeLine := by
  rcases h with h | ⟨o, its, n, hk, hc, hs, hz, r⟩
  · obtain ⟨z, its, r, p⟩ := h.ok I.hok
    exact ⟨its, r, p, z⟩
  · refine ⟨its.toList, r, ⟨o, I.kIn a o hk, hc, n, by simpa using hs⟩, ?_⟩
    have e := r.length
    simp only [Array.length_toList] at e
    omega
theorem Inv.list_inj (I : Inv X pins σ H s) (h : SqL X.K H a xs) (h' : SqL X.K H a ys) : xs = ys := by
  obtain ⟨its, r, ⟨o, n, e, _, _, d⟩, _⟩ := I.list h
  obtain ⟨its', r', ⟨o', n', e', _, _, d'⟩, _⟩ := I.list h'
  rw [e] at e'; cases e'
  rw [d] at d'
  injection d' with d1 _
  have : its = its' := by simpa using congrArg Array.toList d1
  subst this
  exact r.inj r'
theorem Inv.tuple_inj (I : Inv X pins σ H s) (h : SqT X.K H a xs) (h' : SqT X.K H a ys) : xs = ys := by
  obtain ⟨its, r, ⟨o, e, _, n, d⟩, _⟩ := I.tuple h
  obtain ⟨its', r', ⟨o', e', _, n', d'⟩, _⟩ := I.tuple h'
  rw [e] at e'; cases e'
  rw [d] at d'
  injection d' with d1 _
  have : its = its' := by simpa using congrArg Array.toList d1
  subst this
  exact r.inj r'
end

/-! ### another wish about exceptions -/
abbrev Cx.wish (X : Cx) (E : Value → Shared → Prop) : Cx := { X with xe := E }
/-- no exception leaves -/
abbrev Cx.nox (X : Cx) : Cx := X.wish fun _ _ => False
theorem Cx.Ok.wish {X : Cx} (ok : X.Ok) (E : Value → Shared → Prop) : (X.wish E).Ok :=
  ⟨ok.mod, ok.kind, ok.glob, ok.blt, ok.above, ok.inj, ok.has, ok.cab, ok.hd, ok.frames, ok.stk, ok.exf, ok.bs, ok.bsz, ok.noex, ok.exfs, ok.funs, ok.frf⟩
theorem Cx.Ok.unwish {X : Cx} {E : Value → Shared → Prop} (ok : (X.wish E).Ok) : X.Ok :=
  ⟨ok.mod, ok.kind, ok.glob, ok.blt, ok.above, ok.inj, ok.has, ok.cab, ok.hd, ok.frames, ok.stk, ok.exf, ok.bs, ok.bsz, ok.noex, ok.exfs, ok.funs, ok.frf⟩
section
variable {X : Cx} {pins : List (Addr × Obj)} {σ : St} {H : Hp} {s : Shared} {E : Value → Shared → Prop}
theorem Inv.wish (I : Inv X pins σ H s) (E : Value → Shared → Prop) : Inv (X.wish E) pins σ H s := ⟨I.ok.wish E, I.os, I.bare, I.base, I.loc, I.cell, I.free, I.freeC, I.pin, I.hok, I.len⟩
theorem Inv.unwish (I : Inv (X.wish E) pins σ H s) : Inv X pins σ H s := ⟨I.ok.unwish, I.os, I.bare, I.base, I.loc, I.cell, I.free, I.freeC, I.pin, I.hok, I.len⟩
theorem SP.unwish {D : Ends} {f : Flow} {s' : Shared} (h : SP (X.wish E) pins D f s') : SP X pins D f s' := by
  cases f with
  | next => obtain ⟨σ', H', I, q⟩ := h; exact ⟨σ', H', I.unwish, q⟩
  | brk => obtain ⟨σ', H', I, q⟩ := h; exact ⟨σ', H', I.unwish, q⟩
  | cont => obtain ⟨σ', H', I, q⟩ := h; exact ⟨σ', H', I.unwish, q⟩
  | ret u => obtain ⟨v, σ', H', I, r, q⟩ := h; exact ⟨v, σ', H', I.unwish, r, q⟩
theorem PSs.nox {st : List Stmt} {t : TS} (h : PSs X.nox st t) : PSs X st t := fun pins s σ H D I hw =>
  wpAny_mono (h s σ H D (I.wish _) hw) (fun _ _ q => q.unwish) fun _ _ z => False.elim z
end

/-! ### blocks and small statements -/
section
variable {X : Cx} {st : Stmt} {rest : List Stmt} {t u : TS} {e : Expr} {te : TE} {pos : Pos}
def tNext : TS := fun D σ H => D.nx σ H
def tSeq (t u : TS) : TS := fun D σ H => t { D with nx := u D } σ H
theorem pss_nil : PSs X [] tNext := fun _ _ σ H _ I h => wpAny_execs_nil ⟨σ, H, I, h⟩
theorem pss_cons (h1 : PS X st t) (h2 : PSs X rest u) : PSs X (st :: rest) (tSeq t u) := by
  intro pins s σ H D I h
  refine wpAny_execs_cons (thn (h1 s σ H { D with nx := u D } I h) fun f s1 q => ?_)
  cases f with
  | next =>
    obtain ⟨σ', H', I', q⟩ := q
    exact h2 s1 σ' H' D I' q
  | ret v => exact q
  | brk => exact q
  | cont => exact q
theorem pss_one (h1 : PS X st t) : PSs X [st] t := by
  intro pins s σ H D I h
  refine wpAny_execs_cons (thn (h1 s σ H D I h) fun f s1 q => ?_)
  cases f with
  | next => exact wpAny_execs_nil q
  | ret v => exact q
  | brk => exact q
  | cont => exact q
/-- in a def's body nothing is shown -/
theorem Inv.quiet {pins : List (Addr × Obj)} {σ : St} {H : Hp} {s : Shared} (I : Inv X pins σ H s) : interactive X.env = false := by simp [interactive, I.ok.kind]
/-- an expression whose value is dropped -/
def tDrop (te : TE) : TS := fun D σ H => te σ H fun _ H1 => D.nx σ H1
theorem ps_expr (he : PE X e te) (hs : swapsWith e none pos.line X.env = pure false := by rfl) : PS X (.Expr e pos) (tDrop te) := by
  intro pins s σ H D I h
  exact wpAny_Expr_any (thn (he s σ H _ I h) fun v s1 ⟨x, H1, I1, r1, q1⟩ => ⟨σ, H1, I1, q1⟩) I.quiet hs
def tRet (te : TE) : TS := fun D σ H => te σ H D.rt
theorem ps_ret (he : PE X e te) : PS X (.Return (some e) pos) (tRet te) := by
  intro pins s σ H D I h
  exact wpAny_Return_some (thn (he s σ H _ I h) fun v s1 ⟨x, H1, I1, r1, q1⟩ => ⟨x, σ, H1, I1, r1, q1⟩)
def tIfS (c : TT) (t u : TS) : TS := fun D σ H => c σ H fun b H1 => if b = true then t D σ H1 else u D σ H1
theorem ps_if {c : Expr} {a b : List Stmt} {tc : TT} (hc : PT X c tc) (ha : PSs X a t) (hb : PSs X b u) : PS X (.If c a b pos) (tIfS tc t u) := by
  intro pins s σ H D I h
  refine wpAny_If (thn (hc s σ H _ I h) fun d s1 ⟨H1, I1, q1⟩ => ?_)
  cases d with
  | true => exact ha s1 σ H1 D I1 q1
  | false => exact hb s1 σ H1 D I1 q1
end

/-! ### targets -/
abbrev TG := V → St → Hp → (St → Hp → Prop) → Prop
abbrev TGs := List V → St → Hp → (St → Hp → Prop) → Prop
def PG (X : Cx) (target : Expr) (t : TG) : Prop :=
  ∀ ⦃pins : List (Addr × Obj)⦄ (s : Shared) (σ : St) (H : Hp) (v : V) (u : Value) (Q : St → Hp → Prop), Inv X pins σ H s → RelV v u → t v σ H Q →
    wpAny (model X.prog X.w) X.A (assign target X.env u) (fun _ s' => ∃ σ' H', Inv X pins σ' H' s' ∧ Q σ' H') X.xe s
/-- several targets, one after another -/
def PGs (X : Cx) (ts : List Expr) (t : TGs) : Prop :=
  ∀ ⦃pins : List (Addr × Obj)⦄ (s : Shared) (σ : St) (H : Hp) (vs : List V) (us : List Value) (Q : St → Hp → Prop), Inv X pins σ H s → Vals vs us → t vs σ H Q →
    wpAny (model X.prog X.w) X.A (assignInOrder ((assignEach ts X.env).map (·.2)) us) (fun _ s' => ∃ σ' H', Inv X pins σ' H' s' ∧ Q σ' H') X.xe s
/-- o[i] = v, by values -/
abbrev TSet := V → V → V → Hp → (Hp → Prop) → Prop
def PSet (X : Cx) (t : TSet) : Prop :=
  ∀ ⦃pins : List (Addr × Obj)⦄ (s : Shared) (σ : St) (H : Hp) (o i v : V) (ov iv u : Value) (Q : Hp → Prop), Inv X pins σ H s → RelV o ov → RelV i iv → RelV v u → t o i v H Q →
    wpAny (model X.prog X.w) X.A (setItem ov iv u) (fun _ s' => ∃ H', Inv X pins σ H' s' ∧ Q H') X.xe s
/-- a op= b, by values -/
abbrev TIp := V → V → Hp → VK → Prop
def PIp (X : Cx) (op : Operator) (t : TIp) : Prop :=
  ∀ ⦃pins : List (Addr × Obj)⦄ (s : Shared) (σ : St) (H : Hp) (x y : V) (v u : Value) (Q : VK), Inv X pins σ H s → RelV x v → RelV y u → t x y H Q →
    wpAny (model X.prog X.w) X.A (inplaceOp op v u) (EP X pins σ Q) X.xe s
section
variable {X : Cx} {pos : Pos}
def gName (i : Nat) : TG := fun v σ H Q => Q (σ.set i (some v)) H
theorem pg_name {i : Nat} {x : Str} (hN : X.N.Nodup) (hi : X.N[i]? = some x) (hx : Loc X.env.scope x) (hf : X.fn x = true ∨ X.env.scope.names.lookup x = some .local := by first | exact .inl rfl | exact .inr rfl | assumption) : PG X (.Name x pos) (gName i) := by
  intro pins s σ H v u Q I r h
  exact wpAny_assign_Name (store_ok I hN hi hx r (fun s' I' => ⟨_, H, I', h⟩) hf)
def gNil : TGs := fun vs σ H Q => vs = [] ∧ Q σ H
def gCons (t : TG) (u : TGs) : TGs := fun vs σ H Q => ∃ v r, vs = v :: r ∧ t v σ H fun σ' H' => u r σ' H' Q
theorem pgs_nil : PGs X [] gNil := by
  intro pins s σ H vs us Q I r h
  obtain ⟨e, h⟩ := h
  subst e
  cases r
  exact assignInOrder_nil ⟨σ, H, I, h⟩
theorem pgs_cons {e : Expr} {es : List Expr} {t : TG} {u : TGs} (h1 : PG X e t) (h2 : PGs X es u)
    (hs : (assignEach (e :: es) X.env).map (·.2) = assign e X.env :: (assignEach es X.env).map (·.2) := by rfl) : PGs X (e :: es) (gCons t u) := by
  intro pins s σ H vs us Q I r h
  obtain ⟨v, vr, e1, h⟩ := h
  subst e1
  cases r with
  | cons r rr =>
    rw [hs]
    refine assignInOrder_cons (thn (h1 s σ H _ _ _ I r h) fun _ s1 ⟨σ1, H1, I1, q1⟩ => ?_)
    exact h2 s1 σ1 H1 _ _ Q I1 rr q1
/-- (a, b, ..) = a tuple of that length -/
def gTup (K : PySem.W.Frag) (n : Nat) (t : TGs) : TG := fun v σ H Q => ∃ a xs, v = .ref a ∧ SqT K H a xs ∧ xs.length = n ∧ t xs σ H Q
theorem pg_tup {es : List Expr} {k : Nat} {t : TGs} {n : Nat} (hc : X.calm = true) (h : PGs X es t)
    (hn : (assignEach es X.env).length = n := by rfl) (hst : (assignEach es X.env).findIdx? (·.1) = none := by rfl) : PG X (.Tuple es k pos) (gTup X.K n t) := by
  intro pins s σ H v u Q I r hw
  obtain ⟨a, xs, e1, hq, hl, hw⟩ := hw
  subst e1
  cases r
  obtain ⟨its, rv, ht, hz⟩ := I.tuple hq
  refine assign_Tuple_tuple (I.ok.hd hc) ht (by simp [hn, ← hl, rv.length]) hst fun h' hx => ?_
  have I1 : Inv X pins σ H { s with heap := h' } := I.kept (t' := s.toks) fun b o e => hx b o (Nat.ne_of_lt (Heap.lt_size e)) e
  exact h _ σ H xs _ Q I1 (by simpa using rv) hw
/-- o[i] = .. -/
def gSub (to ti : TE) (t : TSet) : TG := fun v σ H Q => to σ H fun o H1 => ti σ H1 fun i H2 => t o i v H2 fun H3 => Q σ H3
theorem pg_sub {o i : Expr} {to ti : TE} {t : TSet} (ho : PE X o to) (hi : PE X i ti) (hs : PSet X t)
    (ha : ∀ v, assign (.Subscript o i pos) X.env v = (do
      let ov ← holding [v] (eval o X.env)
      let iv ← holding [v, ov] (eval i X.env)
      standAt pos
      holding [v, ov, iv] (setItem ov iv v)
      release [v, ov, iv] []) := by intro _; rfl) : PG X (.Subscript o i pos) (gSub to ti t) := by
  intro pins s σ H v u Q I r h
  rw [ha]
  refine wpAny_bind (wpAny_holding (thn (ho s σ H _ I h) fun ov s1 ⟨x, H1, I1, r1, q1⟩ => ?_))
  refine wpAny_bind (wpAny_holding (thn (hi s1 σ H1 _ I1 q1) fun iv s2 ⟨y, H2, I2, r2, q2⟩ => ?_))
  refine wpAny_bind (wpAny_standAt (wpAny_bind (wpAny_holding (thn (hs s2 σ H2 x y v ov iv u _ I2 r1 r2 r q2) fun _ s3 ⟨H3, I3, q3⟩ => ?_))))
  exact wpAny_release ⟨σ, H3, I3, q3⟩
/-- target = value -/
def tAsg (te : TE) (g : TG) : TS := fun D σ H => te σ H fun x H1 => g x σ H1 D.nx
theorem ps_asg {tg e : Expr} {te : TE} {g : TG} (he : PE X e te) (hg : PG X tg g) (hs : swapsWithSole [tg] e pos.line X.env = pure false := by rfl) (hw : swappedStores [tg] e X.env = pure none := by rfl)
    (h1 : (assignEach [tg] X.env).map (·.2) = [assign tg X.env] := by rfl) : PS X (.Assign [tg] e pos) (tAsg te g) := by
  intro pins s σ H D I h
  refine wpAny_Assign_stores (thn (he s σ H _ I h) fun v s1 ⟨x, H1, I1, r1, q1⟩ => ?_) hs hw
  rw [h1]
  exact thn (hg s1 σ H1 x v _ I1 r1 q1) fun _ s2 q => q
/-- name = value -/
theorem ps_set {i : Nat} {x : Str} {e : Expr} {te : TE} {pos' : Pos} (hN : X.N.Nodup) (hi : X.N[i]? = some x) (hx : Loc X.env.scope x) (he : PE X e te) (hs : swapsWith e (some (.Name x pos')) pos.line X.env = pure false := by rfl) (hf : X.fn x = true ∨ X.env.scope.names.lookup x = some .local := by first | exact .inl rfl | exact .inr rfl | assumption) :
    PS X (.Assign [.Name x pos'] e pos) (tAsg te (gName i)) := by
  intro pins s σ H D I h
  refine wpAny_Assign_Name (thn (he s σ H _ I h) fun v s1 ⟨y, H1, I1, r1, q1⟩ => ?_) hs
  exact store_ok I1 hN hi hx r1 (fun s2 I2 => ⟨_, H1, I2, q1⟩) hf
/-- a, b = x, y with plain local names: stored from the right; the pair itself is not tracked (the opening rows as in PyProof/Rows/TupAssign.lean:23) -/
def tPar (i j : Nat) (ta : TA) : TS := fun D σ H => ta σ H fun vs H1 => ∃ v w, vs = [v, w] ∧ D.nx ((σ.set i (some v)).set j (some w)) H1
theorem ps_par {i j : Nat} {x y : Str} {a b : Expr} {ta : TA} {px py pt : Pos} {kt k2 pt2} (hc : X.calm = true) (hN : X.N.Nodup) (hi : X.N[i]? = some x) (hj : X.N[j]? = some y) (hij : i ≠ j)
    (hx : X.env.scope.names.lookup x = some .local) (hy : X.env.scope.names.lookup y = some .local) (ha : PA X [a, b] ta)
    (hw : swappedStores [.Tuple [.Name x px, .Name y py] kt pt] (.Tuple [a, b] k2 pt2) X.env = pure (some [x, y]))
    (hs : swapsWithSole [.Tuple [.Name x px, .Name y py] kt pt] (.Tuple [a, b] k2 pt2) pos.line X.env = pure false := by rfl) :
    PS X (.Assign [.Tuple [.Name x px, .Name y py] kt pt] (.Tuple [a, b] k2 pt2) pos) (tPar i j ta) := by
  intro pins s σ H D I h
  rw [exec_Assign_arm]
  refine wpAny_bind (wpAny_standAt ?_)
  rw [hs]
  refine wpAny_bind (wpAny_pure ?_)
  rw [if_neg (by decide)]
  refine wpAny_bind (Tuple_ (thn (ha s σ H _ I h) fun us s1 ⟨vs, H1, I1, r1, q1⟩ => ?_))
  obtain ⟨v, w, e1, q1⟩ := q1
  subst e1
  obtain ⟨u1, u2, rfl, rv, rw'⟩ : ∃ u1 u2, us = [u1, u2] ∧ RelV v u1 ∧ RelV w u2 := by
    cases r1 with
    | cons p q =>
      cases q with
      | cons p' q' =>
        cases q'
        exact ⟨_, _, rfl, p, p'⟩
  refine wpAny_newObj_type ?_ (by show 2 ≤ sizeLine; decide)
  have I2 : Inv X pins σ H1 { s1 with heap := s1.heap.push { cls := .type "tuple", data := .seq [u1, u2].toArray } } := I1.kept (t' := s1.toks) fun b o e => Heap.get?_push_of_some _ e
  rw [hw]
  refine wpAny_bind (wpAny_pure ?_)
  show wpAny (model X.prog X.w) X.A (do rule "assign.swapped-stores"; let items ← unpackItems (.ref s1.heap.objs.size) 2 none; assignInOrder [fun v => bindName X.env y v, fun v => bindName X.env x v] items.reverse; pure Flow.next) _ _ _
  refine wpAny_bind (wpAny_rule (wpAny_bind (unpackItems_tuple (items := #[u1, u2]) (I.ok.hd hc) (IsTup.new s1.heap _) fun h' hx' => ?_)))
  have I3 := I2.kept (h' := h') (t' := s1.toks) fun b o e => hx' b o (Nat.ne_of_lt (Heap.lt_size e)) e
  show wpAny _ _ (assignInOrder [fun v => bindName X.env y v, fun v => bindName X.env x v] [u2, u1] >>= fun _ => pure Flow.next) _ _ _
  refine wpAny_bind (assignInOrder_cons (wpAny_bindName (store_ok I3 hN hj (.inl hy) rw' (fun s2 I4 => ?_) (.inr hy))))
  refine assignInOrder_cons (wpAny_bindName (store_ok I4 hN hi (.inl hx) rv (fun s3 I5 => assignInOrder_nil (wpAny_pure ?_)) (.inr hx)))
  rw [List.set_comm _ _ (Ne.symm hij)] at I5
  exact ⟨_, H1, I5, q1⟩
/-- name op= e -/
def tAug (i : Nat) (te : TE) (ti : TIp) : TS := fun D σ H => ∃ x, σ[i]? = some (some x) ∧ te σ H fun y H1 => ti x y H1 fun z H2 => D.nx (σ.set i (some z)) H2
theorem ps_aug {i : Nat} {x : Str} {e : Expr} {te : TE} {op : Operator} {ti : TIp} {pos' : Pos} (hN : X.N.Nodup) (hi : X.N[i]? = some x) (hx : Loc X.env.scope x) (he : PE X e te) (ho : PIp X op ti) (hf : X.fn x = true ∨ X.env.scope.names.lookup x = some .local := by first | exact .inl rfl | exact .inr rfl | assumption) :
    PS X (.AugAssign (.Name x pos') op e pos) (tAug i te ti) := by
  intro pins s σ H D I h
  obtain ⟨v, e1, h⟩ := h
  obtain ⟨m, hn, hl⟩ := I.loc
  have vis : Vis X.env.scope x := by rcases hx with k | k; exact .inl k; exact .inr (.inl k)
  obtain ⟨u, r, l⟩ := hl i x v hi e1 vis
  refine wpAny_AugAssign_Name ?_
  have go : wpAny (model X.prog X.w) X.A (eval e X.env) (fun w s₂ => wpAny (model X.prog X.w) X.A (inplaceOp op u w) (fun r s₃ => wpAny (model X.prog X.w) X.A (storeName X.env x r) (fun _ => SP X pins D .next) X.xe s₃) X.xe s₂) X.xe s := by
    refine thn (he s σ H _ I h) fun w s1 ⟨y, H1, I1, r1, q1⟩ => ?_
    refine thn (ho s1 σ H1 v y u w _ I1 r r1 q1) fun z s2 ⟨zv, H2, I2, r2, q2⟩ => ?_
    exact store_ok I2 hN hi hx r2 (fun s3 I3 => ⟨_, H2, I3, q2⟩) hf
  rcases l with ⟨hk, hm⟩ | ⟨hk, c, hc, hcell⟩
  · exact wpAny_loadName_local I.ok.kind hk hn hm go
  · rcases hk with hk | hk
    · exact wpAny_loadName_cell I.ok.kind hk hc hcell go
    · rcases hx with k | k
      · have : X.env.scope.names.lookup x = some .free := hk
        rw [k] at this; cases this
      · have : X.env.scope.names.lookup x = some .free := hk
        rw [k] at this; cases this
/-- ints -/
def ipI (f : Int → Int → Int) : TIp := fun x y H Q => ∃ i j, x = .int i ∧ y = .int j ∧ Q (.int (f i j)) H
theorem ip_add : PIp X .Add (ipI fun i j => i + j) := by
  intro pins s σ H x y v u Q I r1 r2 h
  obtain ⟨i, j, e1, e2, q⟩ := h
  subst e1; subst e2
  obtain ⟨t, rfl⟩ := r1
  obtain ⟨t', rfl⟩ := r2
  exact iadd_int ⟨.int _, H, I.tok _, ⟨_, rfl⟩, q⟩
end

/-! ### while -/
section
variable {X : Cx} {pos : Pos}
/-- the invariant W with its measure -/
def tWhile (c : TT) (tb : TS) : TS := fun D σ H => ∃ W : Nat → St → Hp → Prop, (∃ m, W m σ H) ∧ ∀ m σ H, W m σ H →
  c σ H fun b H1 => if b = true then ∃ N : St → Hp → Prop, (∀ σ' H', N σ' H' → ∃ m', m' < m ∧ W m' σ' H') ∧ tb { D with nx := N, ct := N, bk := D.nx } σ H1 else D.nx σ H1
theorem ps_while {c : Expr} {body : List Stmt} {tc : TT} {tb : TS} (hp : PassesOwn (model X.prog X.w) X.A X.env X.xe) (hc : PT X c tc) (hb : PSs X body tb) : PS X (.While c body [] pos) (tWhile tc tb) := by
  intro pins s σ H D I h
  obtain ⟨W, ⟨m0, w0⟩, turn⟩ := h
  refine wpAny_While (codeAny_whileLoop (fun n s' => ∃ σ' H', Inv X pins σ' H' s' ∧ W n σ' H') ?_ m0 ⟨σ, H, I, w0⟩)
  rintro n s1 ⟨σ1, H1, I1, w1⟩
  refine wpAny_passesOwn hp (thn (hc s1 σ1 H1 _ I1 (turn n σ1 H1 w1)) fun b s2 ⟨H2, I2, q2⟩ => ?_)
  cases b with
  | true =>
    obtain ⟨N, hN, q2⟩ := q2
    rw [if_pos rfl]
    refine wpAny_passesOwn hp (thn (hb s2 σ1 H2 _ I2 q2) fun f s3 q3 => ?_)
    cases f with
    | next =>
      obtain ⟨σ3, H3, I3, n3⟩ := q3
      obtain ⟨m', hm, w3⟩ := hN σ3 H3 n3
      exact ⟨m', hm, σ3, H3, I3, w3⟩
    | cont =>
      obtain ⟨σ3, H3, I3, n3⟩ := q3
      obtain ⟨m', hm, w3⟩ := hN σ3 H3 n3
      exact ⟨m', hm, σ3, H3, I3, w3⟩
    | brk => exact q3
    | ret v => exact q3
  | false =>
    rw [if_neg Bool.false_ne_true]
    exact wpAny_execs_nil ⟨σ1, H2, I2, q2⟩
end

/-! ### what a loop or a comprehension walks -/
/-- at turn i: it yields x (the heap may grow), or it stops -/
structure It where
  go : Nat → Hp → Prop
  yld : Nat → Hp → V → Hp → Prop
  stop : Nat → Hp → Prop
/-- the iterator's own objects may turn: they are not the frame's, not pinned, younger than the entry (or a comprehension's own) -/
def FpOk (X : Cx) (pins : List (Addr × Obj)) (H : Hp) (b : Addr) : Prop :=
  H b = none ∧ b ≠ X.env.locals ∧ b ∉ X.fs ∧ (b ∈ X.ex ∨ X.s₀.heap.objs.size ≤ b) ∧ (∀ x c, X.env.cells.lookup x = some c → c ≠ b) ∧ ∀ p ∈ X.pn ++ pins, p.1 ≠ b
theorem Inv.fpOk {X : Cx} {pins : List (Addr × Obj)} {σ : St} {H H' : Hp} {s : Shared} {b : Addr} (I : Inv X pins σ H s) (hb : s.heap.objs.size ≤ b) (hn : H' b = none) : FpOk X pins H' b := by
  refine ⟨hn, Nat.ne_of_gt (Nat.lt_of_lt_of_le I.lt hb), I.nofs hb, .inr (Nat.le_trans I.sz hb), fun x c e z => ?_, fun p hp z => ?_⟩
  · obtain ⟨v, q⟩ := I.cell x c e
    exact absurd (Nat.lt_of_lt_of_le q.lt (by rw [z]; exact hb)) (Nat.lt_irrefl _)
  · exact absurd (Nat.lt_of_lt_of_le (Heap.lt_size (I.pin p hp).1) (by rw [z]; exact hb)) (Nat.lt_irrefl _)
structure Turn (P : Program) (w : World) (K : PySem.W.Frag) (tg : Expr) (J : It) (fp : List Addr) (it : Addr) (tn : Nat → Heap → Prop) : Prop where
  mem : it ∈ fp
  obj : ∀ i h, tn i h → ∀ b ∈ fp, ∃ o, h.get? b = some o ∧ ∀ v, o.data ≠ .cell v
  keep : ∀ i h h', tn i h → (∀ b ∈ fp, ∀ o, h.get? b = some o → h'.get? b = some o) → tn i h'
  item : ∀ (X : Cx), X.prog = P → X.w = w → X.K = K → X.calm = true → ∀ (i : Nat) (pins : List (Addr × Obj)) (s : Shared) (σ : St) (H : Hp) (E : Value → Shared → Prop), Inv X pins σ H s → (∀ b ∈ fp, FpOk X pins H b) → tn i s.heap → J.go i H →
    wpAny (model P w) X.A (pyNext (.ref it)) (fun r s1 => ∃ u, r = some u ∧
      wpAny (model P w) X.A (letOwnedTupleGo tg (.ref it) u) (fun _ s2 => ∃ x H', Inv X pins σ H' s2 ∧ RelV x u ∧ J.yld i H x H' ∧ tn (i + 1) s2.heap ∧ ∀ b ∈ fp, H' b = none) E s1) E s
  done : ∀ (X : Cx), X.prog = P → X.w = w → X.K = K → X.calm = true → ∀ (i : Nat) (pins : List (Addr × Obj)) (s : Shared) (σ : St) (H : Hp) (E : Value → Shared → Prop), Inv X pins σ H s → (∀ b ∈ fp, FpOk X pins H b) → tn i s.heap → J.stop i H →
    wpAny (model P w) X.A (pyNext (.ref it)) (fun r s1 => r = none ∧ Inv X pins σ H s1) E s
  self : ∀ (A : Around) (i : Nat) (s : Shared) (Q : Value → Shared → Prop) (E : Value → Shared → Prop), tn i s.heap → Q (.ref it) s → wpAny (model P w) A (pyIter (.ref it)) Q E s
abbrev TI := St → Hp → (It → Hp → Prop) → Prop
/-- an iterator has come -/
def PIE (X : Cx) (pins : List (Addr × Obj)) (σ : St) (tg : Expr) (R : It → Hp → Prop) (itv : Value) (s2 : Shared) : Prop :=
  ∃ (it : Addr) (fp : List Addr) (tn : Nat → Heap → Prop) (J : It) (H' : Hp), itv = .ref it ∧ Inv X pins σ H' s2 ∧ Turn X.prog X.w X.K tg J fp it tn ∧ tn 0 s2.heap ∧ (∀ b ∈ fp, FpOk X pins H' b) ∧ R J H'
def PI (X : Cx) (tg iter : Expr) (wi : TI) : Prop :=
  ∀ ⦃pins : List (Addr × Obj)⦄ (s : Shared) (σ : St) (H : Hp) (R : It → Hp → Prop), Inv X pins σ H s → wi σ H R →
    wpAny (model X.prog X.w) X.A (eval iter X.env) (fun v s1 => wpAny (model X.prog X.w) X.A (pyIter v) (PIE X pins σ tg R) X.xe s1) X.xe s

/-- the step ahead of the store is nothing for an iterator that keeps no tuple -/
theorem go_of {M : Model} {A : Around} {E : Value → Shared → Prop} {s : Shared} {tg : Expr} {it : Addr} {u : Value} {o : Obj} {n : String} {vs : Array Value} {Q : Unit → Shared → Prop} (ho : s.heap.get? it = some o) (hc : o.cls = .type n) (hd : o.data = .fields vs)
    (hn : ["enumerate", "zip", "dict_itemiterator", "dict_reverseitemiterator", "odict_iterator", "itertools.zip_longest", "itertools.pairwise"].contains n = false) (hQ : Q () s) : wpAny M A (letOwnedTupleGo tg (.ref it) u) Q E s := by
  unfold letOwnedTupleGo
  cases tg <;> first
    | exact wpAny_pure hQ
    | (cases u <;> first
        | exact wpAny_pure hQ
        | (refine wpAny_bind (wpAny_load ho ?_)
           rw [hc, hd]
           show wpAny M A (if (["enumerate", "zip", "dict_itemiterator", "dict_reverseitemiterator", "odict_iterator", "itertools.zip_longest", "itertools.pairwise"].contains n && vs[0]? == some (rawInt _)) = true then _ else _) Q E s
           rw [if_neg (by intro h; rw [hn, Bool.false_and] at h; cases h)]
           exact wpAny_pure hQ))

/-- the list at a, as it stands at each turn (a loop may append to it) -/
def Itl (K : PySem.W.Frag) (a : Addr) : It :=
  ⟨fun i H => ∃ xs x, SqL K H a xs ∧ xs[i]? = some x, fun i H x H' => H' = H ∧ ∀ xs, SqL K H a xs → xs[i]? = some x, fun i H => ∃ xs, SqL K H a xs ∧ xs.length ≤ i⟩
/-- lo, lo + 1, .. (n of them) -/
def Itr (lo : Int) (n : Nat) : It := ⟨fun i _ => i < n, fun i H x H' => H' = H ∧ x = .int (lo + i), fun i _ => n ≤ i⟩
theorem turn_list {P : Program} {w : World} {K : PySem.W.Frag} {tg : Expr} (a it : Addr) : Turn P w K tg (Itl K a) [it] it (fun i h => h.IsListIter it a i) where
  mem := by simp
  obj := fun i h st b hb => by
    have e : b = it := by simpa using hb
    subst e
    obtain ⟨o, e, c, d⟩ := st
    exact ⟨o, e, fun v z => by rw [d] at z; cases z⟩
  keep := fun i h h' st k => st.at fun o e => k it (by simp) o e
  item := by
    intro X hP hw hK hc i pins s σ H E I hf st hg
    subst hP hw hK
    obtain ⟨xs, x, hq, hx⟩ := hg
    obtain ⟨its, rv, p, hz⟩ := I.list hq
    obtain ⟨u, hu, ru⟩ := rv.get hx
    obtain ⟨f0, f1, f2, f3, f4, f5⟩ := hf it (by simp)
    refine wpAny_pyNext_list_item st p.isList (x := u) (by simpa using hu) fun h' st' sb => ?_
    have I1 : Inv X pins σ H { s with heap := h' } := I.turned (t' := s.toks) (fun b o hb e => (sb.2 b hb).trans e) f0 f1 f3 f4 f5
    obtain ⟨o, e, c, d⟩ := id st'
    exact ⟨u, rfl, go_of (s := { s with heap := h' }) e c d (by decide) ⟨x, H, I1, ru, ⟨rfl, fun ys hy => by rw [I.list_inj hy hq]; exact hx⟩, st', fun b hb => (hf b hb).1⟩⟩
  done := by
    intro X hP hw hK hc i pins s σ H E I hf st hg
    subst hP hw hK
    obtain ⟨xs, hq, hx⟩ := hg
    obtain ⟨its, rv, p, hz⟩ := I.list hq
    obtain ⟨f0, f1, f2, f3, f4, f5⟩ := hf it (by simp)
    have hl := rv.length
    exact wpAny_pyNext_list_end (I.ok.hd hc) st p.isList (by simp; omega) fun h' eb => ⟨rfl, I.turned (t' := s.toks) (fun b o hb e => eb b o hb e) f0 f1 f3 f4 f5⟩
  self := fun _ _ _ _ _ st h => wpAny_pyIter_listiter st h
theorem turn_range {P : Program} {w : World} {K : PySem.W.Frag} {tg : Expr} (it : Addr) (lo : Int) (n : Nat) : Turn P w K tg (Itr lo n) [it] it (fun i h => IsRangeIter h it (lo + (i : Nat) * 1) ((n : Int) - (i : Nat)) 1) where
  mem := by simp
  obj := fun i h st b hb => by
    have e : b = it := by simpa using hb
    subst e
    exact ⟨_, st, fun v z => by
      have z' : Data.fields _ = Data.cell v := z
      cases z'⟩
  keep := fun i h h' st k => k it (by simp) _ st
  item := by
    intro X hP hw hK hc i pins s σ H E I hf st hg
    subst hP hw hK
    obtain ⟨f0, f1, f2, f3, f4, f5⟩ := hf it (by simp)
    have W := Walks.range (prog := X.prog) (w := X.w) (I.ok.hd hc) it lo 1 n
    refine W.item i s _ _ hg st fun v h' tk hv st' kk => ?_
    obtain ⟨t, rfl⟩ := hv
    have I1 : Inv X pins σ H { s with heap := h', toks := tk } := I.turned (fun b o hb e => kk b o (by simpa using hb) e) f0 f1 f3 f4 f5
    refine ⟨_, rfl, go_of (s := { s with heap := h', toks := tk }) (n := "range_iterator") st' rfl rfl (by decide) ⟨.int (lo + i), H, I1, ⟨t, ?_⟩, ⟨rfl, rfl⟩, st', fun b hb => (hf b hb).1⟩⟩
    rw [Int.mul_one]
  done := by
    intro X hP hw hK hc i pins s σ H E I hf st hg
    subst hP hw hK
    obtain ⟨f0, f1, f2, f3, f4, f5⟩ := hf it (by simp)
    exact wpAny_pyNext_range_end (I.ok.hd hc) st (by have : n ≤ i := hg; omega) fun h' eb => ⟨rfl, I.turned (t' := s.toks) (fun b o hb e => eb b o hb e) f0 f1 f3 f4 f5⟩
  self := fun _ _ _ _ _ st h => wpAny_pyIter_rangeiter st h
end L2

namespace L2
open PySem PySem.Spec PyProof.Rows
section
variable {X : Cx} {tg : Expr}
def iList (K : PySem.W.Frag) (tl : TE) : TI := fun σ H R => tl σ H fun x H1 => ∃ a, x = .ref a ∧ (∃ xs, SqL K H1 a xs) ∧ R (Itl K a) H1
theorem pi_list {l : Expr} {tl : TE} (hl : PE X l tl) : PI X tg l (iList X.K tl) := by
  intro pins s σ H R I h
  refine thn (hl s σ H _ I h) fun v s1 ⟨x, H1, I1, r1, q1⟩ => ?_
  obtain ⟨a, e, ⟨xs, hq⟩, q⟩ := q1
  subst e
  cases r1
  obtain ⟨its, rv, p, hz⟩ := I1.list hq
  refine wpAny_pyIter_list p.isList ?_
  refine ⟨s1.heap.objs.size, [s1.heap.objs.size], _, _, H1, rfl, I1.kept (t' := s1.toks) fun b o e => Heap.get?_push_of_some _ e, turn_list a _, ⟨_, Heap.get?_push_size _ rfl, rfl, rfl⟩, fun b hb => ?_, q⟩
  have e : b = s1.heap.objs.size := by simpa using hb
  subst e
  exact I1.fpOk (Nat.le_refl _) (I1.hok.fresh (Nat.le_refl _))
/-- a range object just made, walked -/
theorem range_it {pins : List (Addr × Obj)} {σ : St} {H : Hp} {s : Shared} {R : It → Hp → Prop} {E : Value → Shared → Prop} {lo hi : Int} {t u v : Tok} {tk : Nat} (I : Inv X pins σ H s) (h1 : -(2 ^ 62) ≤ lo) (h2 : lo < 2 ^ 62) (h3 : -(2 ^ 62) ≤ hi) (h4 : hi < 2 ^ 62)
    (q : R (Itr lo (hi - lo).toNat) H) : wpAny (model X.prog X.w) X.A (pyIter (.ref s.heap.objs.size)) (PIE X pins σ tg R) E { s with heap := s.heap.push { cls := .type "range", data := .fields #[.int lo t, .int hi u, .int 1 v] }, toks := tk } := by
  refine wpAny_pyIter_range (IsRange.new ..) (small_one h1 h2 h3 h4) ?_
  have I1 : Inv X pins σ H { s with heap := s.heap.push { cls := .type "range", data := .fields #[.int lo t, .int hi u, .int 1 v] }, toks := tk } := I.kept fun b o e => Heap.get?_push_of_some _ e
  refine ⟨(s.heap.push { cls := .type "range", data := .fields #[.int lo t, .int hi u, .int 1 v] }).objs.size, [(s.heap.push { cls := .type "range", data := .fields #[.int lo t, .int hi u, .int 1 v] }).objs.size], _, _, H, rfl,
    I1.kept (t' := tk) fun b o e => Heap.get?_push_of_some _ e, turn_range _ lo (hi - lo).toNat, ?_, fun b hb => ?_, q⟩
  · have e1 : lo + ((0 : Nat) : Int) * 1 = lo := by simp
    have e2 : (((hi - lo).toNat : Nat) : Int) - ((0 : Nat) : Int) = Builtin.Range.rangeSize lo hi 1 := by rw [rangeSize_one]; split <;> omega
    show IsRangeIter _ _ (lo + ((0 : Nat) : Int) * 1) ((((hi - lo).toNat : Nat) : Int) - ((0 : Nat) : Int)) 1
    rw [e1, e2]
    exact Heap.get?_push_size _ rfl
  · have e : b = (s.heap.push { cls := .type "range", data := .fields #[.int lo t, .int hi u, .int 1 v] }).objs.size := by simpa using hb
    subst e
    exact I1.fpOk (Nat.le_refl _) (I1.hok.fresh (Nat.le_refl _))
def iRng1 (ta : TA) : TI := fun σ H R => ta σ H fun vs H1 => ∃ j : Int, vs = [.int j] ∧ -(2 ^ 62) ≤ j ∧ j < 2 ^ 62 ∧ R (Itr 0 j.toNat) H1
theorem pi_range1 {a : Expr} {ta : TA} {p pos : Pos} (hg : Gl X "range") (hm : X.mg "range" = none) (ha : PA X [a] ta) (hs : starEach [a] X.env = [(false, eval a X.env)] := by rfl) : PI X tg (.Call (.Name "range" p) [a] [] pos) (iRng1 ta) := by
  intro pins s σ H R I h
  refine Call_ (ld_blt I hg hm boot_range (PyProof.Rows.callWith_type1 (thn (ha s σ H _ I h) fun us s1 ⟨vs, H1, I1, r1, q1⟩ => ?_) hs rfl))
  obtain ⟨j, e, q1, q2, q⟩ := q1
  subst e
  cases r1 with
  | cons r rr =>
    cases rr
    obtain ⟨t, rfl⟩ := r
    exact call_range_1 (range_it I1 (by omega) (by omega) q1 q2 (by simpa using q))
/-! ### for -/
/-- W: the invariant by the turn and a measure; N: what the body is to reach -/
def tFor (wi : TI) (g : TG) (tb : TS) : TS := fun D σ H => wi σ H fun J H1 => ∃ W : Nat → Nat → St → Hp → Prop, (∃ m, W 0 m σ H1) ∧ ∀ i m σ H, W i m σ H →
  (J.stop i H ∧ D.nx σ H) ∨ (J.go i H ∧ ∃ N : St → Hp → Prop, (∀ σ' H', N σ' H' → ∃ m', m' < m ∧ W (i + 1) m' σ' H') ∧ ∀ x H', J.yld i H x H' → g x σ H' fun σ2 H2 => tb { D with nx := N, ct := N, bk := D.nx } σ2 H2)
/-- the records at fp as they stand -/
def pinsAt (fp : List Addr) (h : Heap) : List (Addr × Obj) := fp.filterMap fun b => (h.get? b).map fun o => (b, o)
theorem mem_pinsAt {fp : List Addr} {h : Heap} {b : Addr} {o : Obj} (hb : b ∈ fp) (e : h.get? b = some o) : (b, o) ∈ pinsAt fp h := List.mem_filterMap.mpr ⟨b, hb, by rw [e]; rfl⟩
theorem of_pinsAt {fp : List Addr} {h : Heap} {p : Addr × Obj} (hp : p ∈ pinsAt fp h) : p.1 ∈ fp ∧ h.get? p.1 = some p.2 := by
  obtain ⟨b, hb, e⟩ := List.mem_filterMap.mp hp
  cases q : h.get? b with
  | none => rw [q] at e; cases e
  | some o =>
    rw [q] at e
    have e' : (b, o) = p := Option.some.inj e
    subst e'
    exact ⟨hb, q⟩
theorem Inv.pinned {pins : List (Addr × Obj)} {σ : St} {H : Hp} {s : Shared} {fp : List Addr} (I : Inv X pins σ H s) (hf : ∀ b ∈ fp, FpOk X pins H b) (ho : ∀ b ∈ fp, ∃ o, s.heap.get? b = some o ∧ ∀ v, o.data ≠ .cell v) : Inv X (pins ++ pinsAt fp s.heap) σ H s :=
  I.pins_of fun p hp => (List.mem_append.mp hp).elim (fun z => I.pin p (List.mem_append_right _ z)) fun z => by
    obtain ⟨hb, e⟩ := of_pinsAt z
    obtain ⟨f0, f1, f2, _⟩ := hf p.1 hb
    obtain ⟨o, e', d⟩ := ho p.1 hb
    rw [e] at e'; cases e'
    exact ⟨e, f0, f1, f2, d⟩
theorem Inv.unpinned {pins pl : List (Addr × Obj)} {σ : St} {H : Hp} {s : Shared} (I : Inv X (pins ++ pl) σ H s) : Inv X pins σ H s := I.pins_of fun p hp => I.pin p (List.mem_append_right _ (List.mem_append_left _ hp))
theorem ps_for {iter : Expr} {body : List Stmt} {wi : TI} {g : TG} {tb : TS} {pos : Pos} (hp : PassesOwn (model X.prog X.w) X.A X.env X.xe) (hc : X.calm = true) (hi : PI X tg iter wi) (hg : PG X tg g) (hb : PSs X body tb)
    (hs : ∀ x, foldedSetIterable iter X.env x = pure x := by intro _; rfl) : PS X (.For tg iter body [] pos) (tFor wi g tb) := by
  intro pins s σ H D I h
  refine wpAny_For (thn (hi s σ H _ I h) fun v s1 h1 => thn h1 fun itv s2 h2 => ?_) hs
  obtain ⟨it, fp, tn, J, H2, e, I2, T, st2, f2, W, ⟨m0, w0⟩, turn⟩ := h2
  subst e
  -- what stays true of the iterator's objects through the loop
  have stat : ∀ {H' : Hp}, (∀ b ∈ fp, H' b = none) → ∀ b ∈ fp, FpOk X pins H' b := fun hn b hb => ⟨hn b hb, (f2 b hb).2⟩
  refine codeAny_forLoop_any (fun n s' => ∃ i σ' H', Inv X pins σ' H' s' ∧ tn i s'.heap ∧ (∀ b ∈ fp, H' b = none) ∧ W i n σ' H') ?_ m0 ⟨0, σ, H2, I2, st2, fun b hb => (f2 b hb).1, w0⟩
  rintro n s3 ⟨i, σ3, H3, I3, st3, fr3, w3⟩
  rcases turn i n σ3 H3 w3 with ⟨stop, qn⟩ | ⟨go, N, hN, step⟩
  · refine wpAny_passesOwn hp (thn (T.done X rfl rfl rfl hc i pins s3 σ3 H3 X.xe I3 (stat fr3) st3 stop) fun r s4 ⟨hr, I4⟩ => ?_)
    subst hr
    exact wpAny_execs_nil ⟨σ3, H3, I4, qn⟩
  · refine wpAny_passesOwn hp (thn (T.item X rfl rfl rfl hc i pins s3 σ3 H3 X.xe I3 (stat fr3) st3 go) fun r s4 ⟨u, hr, h4⟩ => ?_)
    subst hr
    refine wpAny_passesOwn hp (thn h4 fun _ s5 ⟨x, H5, I5, r5, y5, st5, fr5⟩ => ?_)
    have I5' := I5.pinned (stat fr5) (T.obj _ _ st5)
    refine wpAny_passesOwn hp (thn (hg s5 σ3 H5 x u _ I5' r5 (step x H5 y5)) fun _ s6 ⟨σ6, H6, I6, q6⟩ => ?_)
    refine wpAny_passesOwn hp (thn (hb s6 σ6 H6 _ I6 q6) fun f s7 q7 => ?_)
    have again : ∀ {σ7 : St} {H7 : Hp}, Inv X (pins ++ pinsAt fp s5.heap) σ7 H7 s7 → N σ7 H7 → ∃ m, m < n ∧ ∃ i σ' H', Inv X pins σ' H' s7 ∧ tn i s7.heap ∧ (∀ b ∈ fp, H' b = none) ∧ W i m σ' H' := fun {σ7 H7} I7 n7 => by
      obtain ⟨m', hm, w7⟩ := hN σ7 H7 n7
      refine ⟨m', hm, i + 1, σ7, H7, I7.unpinned, T.keep _ _ _ st5 fun b hb o e => (I7.pin (b, o) (List.mem_append_right _ (List.mem_append_right _ (mem_pinsAt hb e)))).1, fun b hb => ?_, w7⟩
      obtain ⟨o, e, d⟩ := T.obj _ _ st5 b hb
      exact (I7.pin (b, o) (List.mem_append_right _ (List.mem_append_right _ (mem_pinsAt hb e)))).2.1
    cases f with
    | next => obtain ⟨σ7, H7, I7, n7⟩ := q7; exact again I7 n7
    | cont => obtain ⟨σ7, H7, I7, n7⟩ := q7; exact again I7 n7
    | brk => obtain ⟨σ7, H7, I7, q7⟩ := q7; exact ⟨σ7, H7, I7.unpinned, q7⟩
    | ret v => obtain ⟨x7, σ7, H7, I7, r7, q7⟩ := q7; exact ⟨x7, σ7, H7, I7.unpinned, r7, q7⟩
end

/-! ### the forms one uses -/
/-- over a list that the body leaves as it is -/
theorem for_list {K : PySem.W.Frag} {a : Addr} {xs : List V} {g : TG} {tb : TS} {D : Ends} {σ : St} {H : Hp} (Pv : Nat → St → Hp → Prop) (h0 : Pv 0 σ H) (hl : ∀ i σ H, i ≤ xs.length → Pv i σ H → SqL K H a xs)
    (hs : ∀ i x σ H, xs[i]? = some x → Pv i σ H → g x σ H fun σ2 H2 => tb { D with nx := Pv (i + 1), ct := Pv (i + 1), bk := D.nx } σ2 H2) (hd : ∀ σ H, Pv xs.length σ H → D.nx σ H) :
    ∃ W : Nat → Nat → St → Hp → Prop, (∃ m, W 0 m σ H) ∧ ∀ i m σ H, W i m σ H →
      ((Itl K a).stop i H ∧ D.nx σ H) ∨ ((Itl K a).go i H ∧ ∃ N : St → Hp → Prop, (∀ σ' H', N σ' H' → ∃ m', m' < m ∧ W (i + 1) m' σ' H') ∧ ∀ x H', (Itl K a).yld i H x H' → g x σ H' fun σ2 H2 => tb { D with nx := N, ct := N, bk := D.nx } σ2 H2) := by
  refine ⟨fun i m σ H => m = xs.length - i ∧ i ≤ xs.length ∧ Pv i σ H, ⟨xs.length, by simp, Nat.zero_le _, h0⟩, ?_⟩
  rintro i m σ H ⟨rfl, hi, p⟩
  have q := hl i σ H hi p
  by_cases hlt : i < xs.length
  · refine .inr ⟨⟨xs, xs[i], q, by simp [hlt]⟩, Pv (i + 1), fun σ' H' p' => ⟨xs.length - (i + 1), by omega, rfl, hlt, p'⟩, fun x H' y => ?_⟩
    obtain ⟨e, y⟩ := y
    subst e
    exact hs i x σ _ (y xs q) p
  · have e : i = xs.length := by omega
    subst e
    exact .inl ⟨⟨xs, q, Nat.le_refl _⟩, hd σ H p⟩
theorem for_range {lo : Int} {n : Nat} {g : TG} {tb : TS} {D : Ends} {σ : St} {H : Hp} (Pv : Nat → St → Hp → Prop) (h0 : Pv 0 σ H)
    (hs : ∀ i σ H, i < n → Pv i σ H → g (.int (lo + i)) σ H fun σ2 H2 => tb { D with nx := Pv (i + 1), ct := Pv (i + 1), bk := D.nx } σ2 H2) (hd : ∀ σ H, Pv n σ H → D.nx σ H) :
    ∃ W : Nat → Nat → St → Hp → Prop, (∃ m, W 0 m σ H) ∧ ∀ i m σ H, W i m σ H →
      ((Itr lo n).stop i H ∧ D.nx σ H) ∨ ((Itr lo n).go i H ∧ ∃ N : St → Hp → Prop, (∀ σ' H', N σ' H' → ∃ m', m' < m ∧ W (i + 1) m' σ' H') ∧ ∀ x H', (Itr lo n).yld i H x H' → g x σ H' fun σ2 H2 => tb { D with nx := N, ct := N, bk := D.nx } σ2 H2) := by
  refine ⟨fun i m σ H => m = n - i ∧ i ≤ n ∧ Pv i σ H, ⟨n, by simp, Nat.zero_le _, h0⟩, ?_⟩
  rintro i m σ H ⟨rfl, hi, p⟩
  by_cases hlt : i < n
  · refine .inr ⟨hlt, Pv (i + 1), fun σ' H' p' => ⟨n - (i + 1), by omega, rfl, hlt, p'⟩, fun x H' y => ?_⟩
    obtain ⟨e, y⟩ := y
    subst e y
    exact hs i σ _ hlt p
  · have e : i = n := by omega
    subst e
    exact .inl ⟨Nat.le_refl _, hd σ H p⟩
end L2

namespace L2
open PySem PySem.Spec PyProof.Rows

abbrev R2 := V → V → Hp → VK → Prop
/-- a two-place operation on values: f is binaryOp op, inplaceOp op or compareOp op -/
def OpR (X : Cx) (f : Value → Value → Sem Value) (r : R2) : Prop :=
  ∀ ⦃pins : List (Addr × Obj)⦄ (s : Shared) (σ : St) (H : Hp) (x y : V) (v u : Value) (Q : VK), Inv X pins σ H s → RelV x v → RelV y u → r x y H Q →
    wpAny (model X.prog X.w) X.A (f v u) (EP X pins σ Q) X.xe s
/-- a one-place operation -/
def UnR (X : Cx) (f : Value → Sem Value) (r : V → Hp → VK → Prop) : Prop :=
  ∀ ⦃pins : List (Addr × Obj)⦄ (s : Shared) (σ : St) (H : Hp) (x : V) (v : Value) (Q : VK), Inv X pins σ H s → RelV x v → r x H Q →
    wpAny (model X.prog X.w) X.A (f v) (EP X pins σ Q) X.xe s
/-- a call of a value that is known (a builtin, a type) with values -/
def CallR (X : Cx) (f : Value) (r : List V → Hp → VK → Prop) : Prop :=
  ∀ ⦃pins : List (Addr × Obj)⦄ (s : Shared) (σ : St) (H : Hp) (xs : List V) (us : List Value) (Q : VK), Inv X pins σ H s → Vals xs us → r xs H Q →
    wpAny (model X.prog X.w) X.A (call f us) (EP X pins σ Q) X.xe s
def tOp (r : R2) (ta tb : TE) : TE := fun σ H Q => ta σ H fun x H1 => tb σ H1 fun y H2 => r x y H2 Q
def tUn (r : V → Hp → VK → Prop) (ta : TE) : TE := fun σ H Q => ta σ H fun x H1 => r x H1 Q
/-- ints in, under C, and a value out -/
def rI (C : Int → Int → Prop) (g : Int → Int → V) : R2 := fun x y H Q => ∃ i j, x = .int i ∧ y = .int j ∧ C i j ∧ Q (g i j) H
def rI0 (g : Int → Int → V) : R2 := fun x y H Q => ∃ i j, x = .int i ∧ y = .int j ∧ Q (g i j) H
def rU (g : Int → V) : V → Hp → VK → Prop := fun x H Q => ∃ i, x = .int i ∧ Q (g i) H

section
variable {X : Cx} {a b c : Expr} {ta tb tc : TE} {pos : Pos}

theorem binT (ha : PE X a ta) (hb : PE X b tb) {pins : List (Addr × Obj)} {s : Shared} {σ : St} {H : Hp} {R : V → V → Hp → Prop} (I : Inv X pins σ H s)
    (h : ta σ H fun x H1 => tb σ H1 fun y H2 => R x y H2) {Q : Value → Shared → Prop} {f : Value → Value → Sem Value}
    (hf : ∀ v u s2 x y H2, Inv X pins σ H2 s2 → RelV x v → RelV y u → R x y H2 → wpAny (model X.prog X.w) X.A (f v u) Q X.xe s2) :
    wpAny (model X.prog X.w) X.A (eval a X.env) (fun v s₁ => wpAny (model X.prog X.w) X.A (eval b X.env) (fun u s₂ => wpAny (model X.prog X.w) X.A (f v u) Q X.xe s₂) X.xe s₁) X.xe s := by
  refine thn (ha s σ H _ I h) fun v s1 ⟨x, H1, I1, r1, q1⟩ => ?_
  refine thn (hb s1 σ H1 _ I1 q1) fun u s2 ⟨y, H2, I2, r2, q2⟩ => ?_
  exact hf v u s2 x y H2 I2 r1 r2 q2

theorem pe_op {op : Operator} {r : R2} (ho : OpR X (binaryOp op) r) (ha : PE X a ta) (hb : PE X b tb) : PE X (.BinOp a op b pos) (tOp r ta tb) := by
  intro pins s σ H Q I h
  exact wpAny_BinOp (binT ha hb I h fun v u s2 x y H2 I2 rx ry q => ho s2 σ H2 x y v u Q I2 rx ry q)
theorem pe_un {op : UnaryOp} {r : V → Hp → VK → Prop} (ho : UnR X (unaryOp op) r) (ha : PE X a ta) : PE X (.UnaryOp op a pos) (tUn r ta) := by
  intro pins s σ H Q I h
  exact UnaryOp_ (thn (ha s σ H _ I h) fun v s1 ⟨x, H1, I1, r1, q1⟩ => ho s1 σ H1 x v Q I1 r1 q1)
/-! ### ints -/
theorem opI {f : Value → Value → Sem Value} {C : Int → Int → Prop} {g : Int → Int → Int}
    (rule : ∀ (i j : Int) (t u : Tok) (s : Shared) (Q : Value → Shared → Prop) (E : Value → Shared → Prop), C i j → Q (.int (g i j) s.toks) { s with toks := s.toks + 1 } → wpAny (model X.prog X.w) X.A (f (.int i t) (.int j u)) Q E s) :
    OpR X f (rI C fun i j => .int (g i j)) := by
  intro pins s σ H x y v u Q I rx ry h
  obtain ⟨i, j, rfl, rfl, hc, q⟩ := h
  obtain ⟨t, rfl⟩ := rx
  obtain ⟨t', rfl⟩ := ry
  exact rule i j t t' s _ _ hc ⟨.int (g i j), H, I.tok _, ⟨_, rfl⟩, q⟩
theorem opI0 {f : Value → Value → Sem Value} {g : Int → Int → Int}
    (rule : ∀ (i j : Int) (t u : Tok) (s : Shared) (Q : Value → Shared → Prop) (E : Value → Shared → Prop), Q (.int (g i j) s.toks) { s with toks := s.toks + 1 } → wpAny (model X.prog X.w) X.A (f (.int i t) (.int j u)) Q E s) :
    OpR X f (rI0 fun i j => .int (g i j)) := by
  intro pins s σ H x y v u Q I rx ry h
  obtain ⟨i, j, rfl, rfl, q⟩ := h
  obtain ⟨t, rfl⟩ := rx
  obtain ⟨t', rfl⟩ := ry
  exact rule i j t t' s _ _ ⟨.int (g i j), H, I.tok _, ⟨_, rfl⟩, q⟩
theorem opB0 {f : Value → Value → Sem Value} {g : Int → Int → Bool}
    (rule : ∀ (i j : Int) (t u : Tok) (s : Shared) (Q : Value → Shared → Prop) (E : Value → Shared → Prop), Q (.bool (g i j)) s → wpAny (model X.prog X.w) X.A (f (.int i t) (.int j u)) Q E s) :
    OpR X f (rI0 fun i j => .bl (g i j)) := by
  intro pins s σ H x y v u Q I rx ry h
  obtain ⟨i, j, rfl, rfl, q⟩ := h
  obtain ⟨t, rfl⟩ := rx
  obtain ⟨t', rfl⟩ := ry
  exact rule i j t t' s _ _ ⟨.bl (g i j), H, I, rfl, q⟩

def CDiv (i j : Int) : Prop := 0 < j ∧ j < 1073741824
def CPow (i j : Int) : Prop := 0 ≤ j ∧ j ≤ 1000000 ∧ i.natAbs < 2 ^ 64
def CMul (i j : Int) : Prop := (-(2 ^ 64) < i ∧ i < 2 ^ 64) ∨ (-(2 ^ 64) < j ∧ j < 2 ^ 64)
theorem CMul.ok {i j : Int} (h : CMul i j) : IntMulOk i j := by
  rcases h with ⟨h1, h2⟩ | ⟨h1, h2⟩
  · exact .of_left (intBits_le_64 h1 h2)
  · exact .of_right (intBits_le_64 h1 h2)
theorem two_pow_nn (k : Nat) : (0 : Int) ≤ 2 ^ k := by
  rw [two_pow_cast]
  exact Int.natCast_nonneg _

theorem op_add : OpR X (binaryOp .Add) (rI0 fun i j => .int (i + j)) := opI0 fun _ _ _ _ _ _ _ q => add_int q
theorem op_sub : OpR X (binaryOp .Sub) (rI0 fun i j => .int (i - j)) := opI0 fun _ _ _ _ _ _ _ q => sub_int q
theorem op_mul : OpR X (binaryOp .Mult) (rI CMul fun i j => .int (i * j)) := opI fun _ _ _ _ _ _ _ hc q => mul_int q hc.ok
/-- // by a positive divisor -/
theorem op_fdiv : OpR X (binaryOp .FloorDiv) (rI CDiv fun i j => .int (i / j)) := opI fun i j _ _ _ _ _ hc q => by
  have h1 : (0 : Int) < j := hc.1
  have h2 : j < 1073741824 := hc.2
  exact floordiv_int (by omega) (by rw [Int.fdiv_eq_ediv_of_nonneg i (by omega)]; exact q) (.inl (PyProof.noPylong_small (by omega)))
/-- % by a positive divisor of any size -/
theorem op_mod : OpR X (binaryOp .Mod) (rI (fun _ j => 0 < j) fun i j => .int (i % j)) := opI fun i j _ _ _ _ _ hc q => by
  have h1 : (0 : Int) < j := hc
  exact mod_int' (by omega) (by rw [Int.fmod_eq_emod_of_nonneg i (by omega)]; exact q)
theorem op_pow : OpR X (binaryOp .Pow) (rI CPow fun i j => .int (i ^ j.toNat)) := opI fun _ _ _ _ _ _ _ hc q => pow_int_small hc.1 hc.2.1 hc.2.2 q
theorem op_and : OpR X (binaryOp .BitAnd) (rI0 fun i j => .int (Builtin.bitAnd i j)) := opI0 fun _ _ _ _ _ _ _ q => and_int q
theorem iop_mul : OpR X (inplaceOp .Mult) (rI CMul fun i j => .int (i * j)) := opI fun _ _ _ _ _ _ _ hc q => imul_int q hc.ok
theorem iop_fdiv : OpR X (inplaceOp .FloorDiv) (rI CDiv fun i j => .int (i / j)) := opI fun i j _ _ _ _ _ hc q => by
  have h1 : (0 : Int) < j := hc.1
  have h2 : j < 1073741824 := hc.2
  exact ifloordiv_int (by omega) (by rw [Int.fdiv_eq_ediv_of_nonneg i (by omega)]; exact q) (.inl (PyProof.noPylong_small (by omega)))
theorem unI {f : Value → Sem Value} {g : Int → Int}
    (rule : ∀ (i : Int) (t : Tok) (s : Shared) (Q : Value → Shared → Prop) (E : Value → Shared → Prop), Q (.int (g i) s.toks) { s with toks := s.toks + 1 } → wpAny (model X.prog X.w) X.A (f (.int i t)) Q E s) :
    UnR X f (rU fun i => .int (g i)) := by
  intro pins s σ H x v Q I rx h
  obtain ⟨i, rfl, q⟩ := h
  obtain ⟨t, rfl⟩ := rx
  exact rule i t s _ _ ⟨.int (g i), H, I.tok _, ⟨_, rfl⟩, q⟩
theorem un_neg : UnR X (unaryOp .USub) (rU fun i => .int (-i)) := unI fun _ _ _ _ _ q => neg_int q
/-! ### bools among ints: n += (a < b) -/
end

/-! ### comparisons -/
/-- the scalars that == tells apart as data does -/
def scal : V → V → Bool
  | .non, .non => true | .non, .int _ => true | .int _, .non => true | .non, .bl _ => true | .bl _, .non => true | .non, .str _ => true | .str _, .non => true
  | .int _, .int _ => true | .bl _, .bl _ => true | .str _, .str _ => true | .byt _, .byt _ => true
  | .int _, .str _ => true | .str _, .int _ => true | .bl _, .str _ => true | .str _, .bl _ => true
  | _, _ => false
def rEq : R2 := fun x y H Q => scal x y = true ∧ Q (.bl (decide (x = y))) H
def rNe : R2 := fun x y H Q => scal x y = true ∧ Q (.bl (!decide (x = y))) H

theorem dec_int {i j : Int} : decide (V.int i = V.int j) = (i == j) := by
  rw [Bool.eq_iff_iff]
  simp
theorem dec_bl {i j : Bool} : decide (V.bl i = V.bl j) = (i == j) := by
  rw [Bool.eq_iff_iff]
  simp
theorem dec_str {i j : Str} : decide (V.str i = V.str j) = (i == j) := by
  rw [Bool.eq_iff_iff]
  simp
theorem dec_byt {i j : Array UInt8} : decide (V.byt i = V.byt j) = (i.toList == j.toList) := by
  rw [Bool.eq_iff_iff]
  cases i
  cases j
  simp

section
variable {X : Cx} {a b c : Expr} {ta tb tc : TE} {pos : Pos}
theorem fin_bl {pins : List (Addr × Obj)} {σ : St} {H : Hp} {s : Shared} {Q : VK} {k k' : Bool} (I : Inv X pins σ H s) (q : Q (.bl k) H) (e : k = k') : EP X pins σ Q (.bool k') s := by
  subst e
  exact ⟨.bl k, H, I, rfl, q⟩
theorem op_eq : OpR X (compareOp .Eq) rEq := by
  intro pins s σ H x y v u Q I rx ry h
  obtain ⟨hs, q⟩ := h
  cases x with
  | non =>
    cases rx
    cases y with
    | non => cases ry; exact PySem.EqNone.eq_none_none (fin_bl I q (by simp))
    | bl j => cases ry; exact PySem.EqNone.eq_none_bool (fin_bl I q (by simp))
    | int j => obtain ⟨t', rfl⟩ := ry; exact PySem.EqNone.eq_none_int (fin_bl I q (by simp))
    | str j => obtain ⟨t', rfl⟩ := ry; exact PySem.EqNone.eq_none_str (fin_bl I q (by simp))
    | _ => exact absurd (show false = true from hs) Bool.false_ne_true
  | bl i =>
    cases rx
    cases y with
    | non => cases ry; exact PySem.EqNone.eq_bool_none (fin_bl I q (by simp))
    | bl j => cases ry; exact eq_bool (fin_bl I q dec_bl)
    | str j => obtain ⟨t', rfl⟩ := ry; exact PySem.EqMixed.eq_bool_str (fin_bl I q (by simp))
    | _ => exact absurd (show false = true from hs) Bool.false_ne_true
  | int i =>
    obtain ⟨t, rfl⟩ := rx
    cases y with
    | non => cases ry; exact PySem.EqNone.eq_int_none (fin_bl I q (by simp))
    | int j => obtain ⟨t', rfl⟩ := ry; exact eq_int (fin_bl I q dec_int)
    | str j => obtain ⟨t', rfl⟩ := ry; exact PySem.EqMixed.eq_int_str (fin_bl I q (by simp))
    | _ => exact absurd (show false = true from hs) Bool.false_ne_true
  | str i =>
    obtain ⟨t, rfl⟩ := rx
    cases y with
    | non => cases ry; exact PySem.EqNone.eq_str_none (fin_bl I q (by simp))
    | bl j => cases ry; exact PySem.EqMixed.eq_str_bool (fin_bl I q (by simp))
    | int j => obtain ⟨t', rfl⟩ := ry; exact PySem.EqMixed.eq_str_int (fin_bl I q (by simp))
    | str j => obtain ⟨t', rfl⟩ := ry; exact eq_str (fin_bl I q dec_str)
    | _ => exact absurd (show false = true from hs) Bool.false_ne_true
  | byt i =>
    obtain ⟨t, rfl⟩ := rx
    cases y with
    | byt j => obtain ⟨t', rfl⟩ := ry; exact PySem.W.eq_bytes (fin_bl I q dec_byt)
    | _ => exact absurd (show false = true from hs) Bool.false_ne_true
  | _ => cases y <;> exact absurd (show false = true from hs) Bool.false_ne_true
theorem op_ne : OpR X (compareOp .NotEq) rNe := by
  intro pins s σ H x y v u Q I rx ry h
  obtain ⟨hs, q⟩ := h
  cases x with
  | non =>
    cases rx
    cases y with
    | non => cases ry; exact PySem.EqNone.ne_none_none (fin_bl I q (by simp))
    | bl j => cases ry; exact PySem.EqNone.ne_none_bool (fin_bl I q (by simp))
    | int j => obtain ⟨t', rfl⟩ := ry; exact PySem.EqNone.ne_none_int (fin_bl I q (by simp))
    | str j => obtain ⟨t', rfl⟩ := ry; exact PySem.EqNone.ne_none_str (fin_bl I q (by simp))
    | _ => exact absurd (show false = true from hs) Bool.false_ne_true
  | bl i =>
    cases rx
    cases y with
    | non => cases ry; exact PySem.EqNone.ne_bool_none (fin_bl I q (by simp))
    | bl j => cases ry; exact ne_bool (fin_bl I q (congrArg not dec_bl))
    | str j => obtain ⟨t', rfl⟩ := ry; exact PySem.EqMixed.ne_bool_str (fin_bl I q (by simp))
    | _ => exact absurd (show false = true from hs) Bool.false_ne_true
  | int i =>
    obtain ⟨t, rfl⟩ := rx
    cases y with
    | non => cases ry; exact PySem.EqNone.ne_int_none (fin_bl I q (by simp))
    | int j => obtain ⟨t', rfl⟩ := ry; exact ne_int (fin_bl I q (congrArg not dec_int))
    | str j => obtain ⟨t', rfl⟩ := ry; exact PySem.EqMixed.ne_int_str (fin_bl I q (by simp))
    | _ => exact absurd (show false = true from hs) Bool.false_ne_true
  | str i =>
    obtain ⟨t, rfl⟩ := rx
    cases y with
    | non => cases ry; exact PySem.EqNone.ne_str_none (fin_bl I q (by simp))
    | bl j => cases ry; exact PySem.EqMixed.ne_str_bool (fin_bl I q (by simp))
    | int j => obtain ⟨t', rfl⟩ := ry; exact PySem.EqMixed.ne_str_int (fin_bl I q (by simp))
    | str j => obtain ⟨t', rfl⟩ := ry; exact ne_str (fin_bl I q (congrArg not dec_str))
    | _ => exact absurd (show false = true from hs) Bool.false_ne_true
  | byt i =>
    obtain ⟨t, rfl⟩ := rx
    cases y with
    | byt j => obtain ⟨t', rfl⟩ := ry; exact PySem.W.ne_bytes (fin_bl I q (congrArg not dec_byt))
    | _ => exact absurd (show false = true from hs) Bool.false_ne_true
  | _ => cases y <;> exact absurd (show false = true from hs) Bool.false_ne_true

theorem op_lt : OpR X (compareOp .Lt) (rI0 fun i j => .bl (decide (i < j))) := opB0 fun _ _ _ _ _ _ _ q => lt_int q
theorem op_le : OpR X (compareOp .LtE) (rI0 fun i j => .bl (decide (i ≤ j))) := opB0 fun _ _ _ _ _ _ _ q => le_int q
theorem op_gt : OpR X (compareOp .Gt) (rI0 fun i j => .bl (decide (j < i))) := opB0 fun _ _ _ _ _ _ _ q => gt_int q
theorem op_ge : OpR X (compareOp .GtE) (rI0 fun i j => .bl (decide (j ≤ i))) := opB0 fun _ _ _ _ _ _ _ q => ge_int q
/-- is None, is not None: the right side a value none -/
theorem op_isN : OpR X (compareOp .Is) (fun x y H Q => y = .non ∧ Q (.bl (decide (x = .non))) H) := by
  intro pins s σ H x y v u Q I rx ry h
  obtain ⟨rfl, q⟩ := h
  cases ry
  refine is_none_gen (fin_bl I q ?_)
  cases x <;> first
    | (cases rx; rfl)
    | (obtain ⟨t, rfl⟩ := rx; rfl)
theorem op_notN : OpR X (compareOp .IsNot) (fun x y H Q => y = .non ∧ Q (.bl (!decide (x = .non))) H) := by
  intro pins s σ H x y v u Q I rx ry h
  obtain ⟨rfl, q⟩ := h
  cases ry
  refine isnot_none_gen (fin_bl I q ?_)
  cases x <;> first
    | (cases rx; rfl)
    | (obtain ⟨t, rfl⟩ := rx; rfl)

/-- two rules for one operation: by cases -/
theorem OpR.or {f : Value → Value → Sem Value} {r r' : R2} (h : OpR X f r) (h' : OpR X f r') : OpR X f (fun x y H Q => r x y H Q ∨ r' x y H Q) := by
  intro pins s σ H x y v u Q I rx ry q
  rcases q with q | q
  · exact h s σ H x y v u Q I rx ry q
  · exact h' s σ H x y v u Q I rx ry q

theorem nomark (b : Expr) {op : CmpOp} (h : op ≠ .In := by decide) (h2 : op ≠ .NotIn := by decide) : behindInMarks op b = false := by
  have e1 : (op == CmpOp.In) = false := by cases op <;> first | rfl | exact absurd rfl h
  have e2 : (op == CmpOp.NotIn) = false := by cases op <;> first | rfl | exact absurd rfl h2
  cases b <;> simp [behindInMarks, e1, e2]
/-- a comparison as a value; hm: nomark b, or (for in, not in) by with_unfolding_all rfl -/
theorem pe_cmpR {op : CmpOp} {r : R2} (ho : OpR X (compareOp op) r) (ha : PE X a ta) (hb : PE X b tb) (hm : behindInMarks op b = false) : PE X (.Compare a [op] [b] pos) (tOp r ta tb) := by
  intro pins s σ H Q I h
  exact wpAny_Compare1 (binT ha hb I h fun v u s2 x y H2 I2 rx ry q => ho s2 σ H2 x y v u Q I2 rx ry q) hm
/-- a reading of a value as a test -/
def tTest (t : TE) : TT := fun σ H Q => t σ H fun x H' => ∃ k, x = .bl k ∧ Q k H'
theorem pt_cmpR {op : CmpOp} {r : R2} (ho : OpR X (compareOp op) r) (ha : PE X a ta) (hb : PE X b tb) (hm : behindInMarks op b = false) : PT X (.Compare a [op] [b] pos) (tTest (tOp r ta tb)) := by
  intro pins s σ H Q I h
  refine wpAny_isTrue_Compare1 (thn (ha s σ H _ I h) fun v s1 ⟨x, H1, I1, r1, q1⟩ => thn (hb s1 σ H1 _ I1 q1) fun u s2 ⟨y, H2, I2, r2, q2⟩ =>
    thn (ho s2 σ H2 x y v u _ I2 r1 r2 q2) fun c s3 ⟨z, H3, I3, r3, k, e, q3⟩ => ?_) hm
  subst e
  cases r3
  exact wpAny_truthy_bool ⟨H3, I3, q3⟩
/-- a op1 b op2 c -/
def tChain (r r' : R2) (ta tb tc : TE) : TE := fun σ H Q => ta σ H fun x H1 => tb σ H1 fun y H2 => r x y H2 fun z H3 => ∃ k, z = .bl k ∧
  (if k = true then tc σ H3 fun w' H4 => r' y w' H4 Q else Q (.bl false) H3)
theorem pe_chain {op op' : CmpOp} {r r' : R2} (ho : OpR X (compareOp op) r) (ho' : OpR X (compareOp op') r') (ha : PE X a ta) (hb : PE X b tb) (hc : PE X c tc)
    (hm : lastMarks [op, op'] [b, c] = false := by with_unfolding_all rfl) : PE X (.Compare a [op, op'] [b, c] pos) (tChain r r' ta tb tc) := by
  intro pins s σ H Q I h
  refine Compare_chain (thn (ha s σ H _ I h) fun v s1 ⟨x, H1, I1, r1, q1⟩ => chain_link (thn (hb s1 σ H1 _ I1 q1) fun u s2 ⟨y, H2, I2, r2, q2⟩ =>
    thn (ho s2 σ H2 x y v u _ I2 r1 r2 q2) fun d s3 ⟨z, H3, I3, r3, k, e, q3⟩ => ?_)) hm
  subst e
  cases r3
  refine wpAny_truthy_bool ?_
  cases k with
  | false => exact ite_ff ⟨.bl false, H3, I3, rfl, q3⟩
  | true => exact ite_tt (chain_last (thn (hc s3 σ H3 _ I3 q3) fun w' s4 ⟨z', H4, I4, r4, q4⟩ => ho' s4 σ H4 y z' u w' Q I4 r2 r4 q4))
/-! ### truth -/
theorem line63 : (sizeLine : Nat) < 2 ^ 63 := by rw [sizeLine_eq]; decide
/-! ### strs and bytes -/
theorem op_add_str : OpR X (binaryOp .Add) (fun x y H Q => ∃ i j, x = .str i ∧ y = .str j ∧ i.length + j.length ≤ sizeLine ∧ Q (.str (i ++ j)) H) := by
  intro pins s σ H x y v u Q I rx ry h
  obtain ⟨i, j, rfl, rfl, hz, q⟩ := h
  obtain ⟨t, rfl⟩ := rx
  obtain ⟨t', rfl⟩ := ry
  exact add_str (fun t' tk => ⟨.str (i ++ j), H, I.tok _, ⟨_, rfl⟩, q⟩) hz
/-! ### scalar builtins, by CallR -/
theorem vals1 {x : V} {us : List Value} (r : Vals [x] us) : ∃ u, us = [u] ∧ RelV x u := by
  cases r with
  | cons r1 r2 => cases r2; exact ⟨_, rfl, r1⟩
theorem vals2 {x y : V} {us : List Value} (r : Vals [x, y] us) : ∃ u w', us = [u, w'] ∧ RelV x u ∧ RelV y w' := by
  cases r with
  | cons r1 r2 =>
    cases r2 with
    | cons r3 r4 => cases r4; exact ⟨_, _, rfl, r1, r3⟩
theorem call_min2 (hc : X.calm = true) : CallR X (.builtin "min") (fun xs H Q => ∃ i j, xs = [.int i, .int j] ∧ Q (.int (if j < i then j else i)) H) := by
  intro pins s σ H xs us Q I r h
  obtain ⟨i, j, rfl, q⟩ := h
  obtain ⟨u, w', rfl, ⟨t, rfl⟩, ⟨t', rfl⟩⟩ := vals2 r
  refine min_two_ints (I.ok.hd hc) fun h' tk k => ⟨_, H, I.kept k, ?_, q⟩
  by_cases hj : j < i
  · rw [if_pos hj, if_pos hj]; exact ⟨_, rfl⟩
  · rw [if_neg hj, if_neg hj]; exact ⟨_, rfl⟩
theorem call_int1 : CallR X (.type "int") (fun xs H Q => (∃ i, xs = [.int i] ∧ Q (.int i) H) ∨ ∃ k, xs = [.bl k] ∧ Q (.int (if k then 1 else 0)) H) := by
  intro pins s σ H xs us Q I r h
  rcases h with ⟨i, rfl, q⟩ | ⟨k, rfl, q⟩
  · obtain ⟨u, rfl, t, rfl⟩ := vals1 r
    exact call_int_int ⟨.int i, H, I, ⟨_, rfl⟩, q⟩
  · obtain ⟨u, rfl, r1⟩ := vals1 r
    cases r1
    exact call_int_bool ⟨.int (if k then 1 else 0), H, I.tok _, ⟨_, rfl⟩, q⟩
theorem call_str_int : CallR X (.type "str") (fun xs H Q => ∃ i, xs = [.int i] ∧ i.natAbs.log2 < 1920 ∧ Q (.str (toString i)) H) := by
  intro pins s σ H xs us Q I r h
  obtain ⟨i, rfl, hz, q⟩ := h
  obtain ⟨u, rfl, t, rfl⟩ := vals1 r
  exact PySem.P.str_of_int hz ⟨.str _, H, I.tok _, ⟨_, rfl⟩, q⟩
/-- len of a str, a bytes, a list, a tuple -/
def LenV (K : PySem.W.Frag) (x : V) (H : Hp) (n : Nat) : Prop :=
  match x with
  | .str y => y.length ≤ sizeLine ∧ n = y.length
  | .byt y => y.size ≤ sizeLine ∧ n = y.size
  | .ref p => (∃ xs, SqL K H p xs ∧ n = xs.length) ∨ ∃ xs, SqT K H p xs ∧ n = xs.length
  | _ => False
theorem call_len : CallR X (.builtin "len") (fun xs H Q => ∃ x n, xs = [x] ∧ LenV X.K x H n ∧ Q (.int n) H) := by
  intro pins s σ H xs us Q I r h
  obtain ⟨x, n, rfl, e, q⟩ := h
  obtain ⟨u, rfl, rx⟩ := vals1 r
  have hl := line63
  have hs : sizeLine = 16777216 := sizeLine_eq
  cases x with
  | str y =>
    obtain ⟨t, rfl⟩ := rx
    obtain ⟨hy, e'⟩ : y.length ≤ sizeLine ∧ n = y.length := e
    subst e'
    exact len_str (by omega) ⟨.int _, H, I.tok _, ⟨_, rfl⟩, q⟩
  | byt y =>
    obtain ⟨t, rfl⟩ := rx
    obtain ⟨hy, e'⟩ : y.size ≤ sizeLine ∧ n = y.size := e
    subst e'
    exact PySem.W.len_bytes (by omega) ⟨.int _, H, I.tok _, ⟨_, rfl⟩, q⟩
  | ref p =>
    cases rx
    have e' : (∃ xs, SqL X.K H p xs ∧ n = xs.length) ∨ ∃ xs, SqT X.K H p xs ∧ n = xs.length := e
    rcases e' with ⟨xs, hx, e'⟩ | ⟨xs, hx, e'⟩
    · subst e'
      obtain ⟨its, r', pl, hz⟩ := I.list hx
      have hlen := r'.length
      exact Calls.call_len_list pl.isList (by simp only [List.size_toArray]; omega) ⟨.int xs.length, H, I.tok _, ⟨_, by simp only [List.size_toArray]; rw [hlen]⟩, q⟩
    · subst e'
      obtain ⟨its, r', pl, hz⟩ := I.tuple hx
      have hlen := r'.length
      exact len_tuple pl (by simp only [List.size_toArray]; omega) ⟨.int xs.length, H, I.tok _, ⟨_, by simp only [List.size_toArray]; rw [hlen]⟩, q⟩
  | _ => exact (show False from e).elim
/-- divmod: a new tuple -/
theorem call_divmod : CallR X (.builtin "divmod") (fun xs H Q => ∃ i j, xs = [.int i, .int j] ∧ CDiv i j ∧ ∀ p, H p = none → Q (.ref p) (upd H p (.tup [.int (i / j), .int (i % j)]))) := by
  intro pins s σ H xs us Q I r h
  obtain ⟨i, j, rfl, ⟨h1, h2⟩, q⟩ := h
  obtain ⟨u, w', rfl, ⟨t, rfl⟩, ⟨t', rfl⟩⟩ := vals2 r
  refine divmod_int (by omega) ?_ (.inl (PyProof.noPylong_small (by omega)))
  rw [Int.fdiv_eq_ediv_of_nonneg i (by omega), Int.fmod_eq_emod_of_nonneg i (by omega)]
  have hn : H s.heap.objs.size = none := I.hok.fresh (Nat.le_refl _)
  refine ⟨.ref s.heap.objs.size, _, ?_, rfl, q _ hn⟩
  refine I.laid (fun b o e => Heap.get?_push_of_some _ e) (Nat.le_refl _) ⟨by simp only [List.length_cons, List.length_nil]; rw [sizeLine_eq]; decide, [.int (i / j) s.toks, .int (i % j) (s.toks + 1)], .cons ⟨_, rfl⟩ (.cons ⟨_, rfl⟩ .nil), ?_⟩
  exact ⟨_, Heap.get?_push_size s.heap rfl, rfl, 0, rfl⟩
end
end L2

namespace L2
open PySem PySem.Spec PyProof.Rows

/-! ### an instance, its attributes a map -/
structure ObjM (h : Heap) (x dx C : Addr) (mA : Str → Option Value) : Prop where
  obj : h.get? x = some (PySem.W.instObj C dx)
  ns : h.Ns1 dx mA
  ne : dx ≠ x

theorem lookIn_ns {h : Heap} {dx : Addr} {mA : Str → Option Value} (n : h.Ns1 dx mA) : ∃ od, h.get? dx = some od ∧ ∀ name, PySem.W.lookIn name od = some (mA name) := by
  obtain ⟨o, es, ep, ho, hd, hk, _, hm⟩ := n
  refine ⟨o, ho, fun name => ?_⟩
  have e := hm name
  unfold nsFind findBy at e
  rw [← Array.find?_toList] at e
  unfold PySem.W.lookIn
  rw [hd]
  dsimp only
  split
  · rename_i y q
    rw [q] at e
    exact congrArg some e
  · rename_i q
    rw [q] at e
    have a : es.toList.any (·.refKey) = false := by
      rw [List.any_eq_false]
      intro y hy
      obtain ⟨z, t, hkey⟩ := hk y (Array.mem_toList_iff.mp hy)
      simp [DictEntry.refKey, hkey]
    have a' : ¬ es.toList.any (·.refKey) = true := by rw [a]; exact Bool.false_ne_true
    rw [if_neg a']
    exact congrArg some e

theorem ObjM.look {h : Heap} {x dx C : Addr} {mA : Str → Option Value} (I : ObjM h x dx C mA) : ∃ od, PySem.W.InstAt h x (PySem.W.instObj C dx) C (some od) ∧ ∀ name, PySem.W.lookIn name od = some (mA name) :=
  let ⟨od, ho, hl⟩ := lookIn_ns I.ns
  ⟨od, ⟨I.obj, rfl, rfl, ho⟩, hl⟩

section
variable {prog : Program} {w : World} {A : Around} {E : Value → Shared → Prop} {s : Shared} {K : PySem.W.Frag} {x dx C f : Addr} {mA : Str → Option Value} {name : Str} {v : Value}

end

/-! ### the attributes as a list of pairs -/
theorem RelO.some_of {v : V} {o : Option Value} (r : RelO (some v) o) : ∃ u, o = some u ∧ RelV v u := by
  cases o with
  | none => exact (show False from r).elim
  | some u => exact ⟨u, rfl, r⟩
section
variable {P : Program} {w : World} {H H' : Hp} {h h' : Heap} {a C dx : Addr} {fs fs' : List (Str × V)}
theorem ins_get (hok : HOk P w H h) (e : H a = some (.ins C dx fs)) : ∃ mA, ObjM h a dx C mA ∧ (∀ f, RelO (fs.lookup f) (mA f)) ∧ PySem.Within mA (fs.map (·.1)) ∧ fs.length ≤ 1000 ∧ H dx = some (.own a) := by
  obtain ⟨d, z, ne, ob, mA, n, r, q⟩ := (show ObjOk P w H h a (.ins C dx fs) from hok a _ e)
  exact ⟨mA, ⟨ob, n, ne⟩, r, q, z, d⟩
end

/-! ### what of the text a class must have -/
structure Cls (K : PySem.W.Frag) (C : Addr) : Prop where
  pg : PySem.W.plainGet K C Str.empty = true
  hd : PySem.W.hasDictIn K C = true
  po : PySem.W.plainOver K C = true
  sa : PySem.W.findIn K (.ref C) "__setattr__" = some (some (.builtin "object.__setattr__"))
theorem Cls.get {K : PySem.W.Frag} {C : Addr} (c : Cls K C) (f : Str) : PySem.W.plainGet K C f = true := c.pg
section
variable {X : Cx} {pins : List (Addr × Obj)} {σ : St} {H : Hp} {s : Shared} {a C dx : Addr} {fs : List (Str × V)} {f : Str} {v : V} {A : Around} {E : Value → Shared → Prop}

end

/-! ### readings and rules -/
section
variable {X : Cx} {o e value : Expr} {f : Str} {pos pos' tpos : Pos} {ta tv : TE}
end

/-! ### isinstance -/
section
variable {X : Cx} {pins : List (Addr × Obj)} {σ : St} {H : Hp} {s : Shared} {A : Around} {E : Value → Shared → Prop} {Q : Value → Shared → Prop} {c : Value} {b : Bool}
/-- the type of a value, as the fragment's deciders take it; for an instance its class -/
inductive TyOf (K : PySem.W.Frag) (H : Hp) : V → Value → Prop where
  | non : TyOf K H .non (.type "NoneType")
  | bl (x : Bool) : TyOf K H (.bl x) (.type "bool")
  | int (i : Int) : TyOf K H (.int i) (.type "int")
  | str (x : Str) : TyOf K H (.str x) (.type "str")
  | flt (x : UInt64) : TyOf K H (.flt x) (.type "float")
  | lst {a : Addr} {xs : List V} (e : H a = some (.lst xs)) : TyOf K H (.ref a) (.type "list")
  | frz {a : Addr} {o : Obj} {xs : List V} (e : H a = some (.frz o (.lst xs))) : TyOf K H (.ref a) (.type "list")
  | tup {a : Addr} {xs : List V} (e : H a = some (.tup xs)) : TyOf K H (.ref a) (.type "tuple")
  | dK {a : Addr} {kvs : List (Key × V)} (e : H a = some (.dK kvs)) : TyOf K H (.ref a) (.type "dict")
  | dT {a : Addr} {kvs : List (List Key × V)} (e : H a = some (.dT kvs)) : TyOf K H (.ref a) (.type "dict")
  | ins {a C dx : Addr} {fs : List (Str × V)} (e : H a = some (.ins C dx fs)) (cl : Cls K C) (ha : PySem.W.findIn K (.ref C) "__class__" = some (some (.builtin "object.__class__")))
      (hn : PySem.W.specialIn K (.builtin "object.__class__") "__get__" = some (some (.builtin "getset_descriptor.__get__"))) (htk : PySem.W.takesIn K (.builtin "object.__class__") = some true)
      (hm : PySem.W.mroIn K C (.type "object") = some true) : TyOf K H (.ref a) (.ref C)
/-- isinstance(x, c) for one class c, a built-in or an own one: kitOne's answer -/
theorem isinst_ok {x : V} {u t : Value} (I : Inv X pins σ H s) (rx : RelV x u) (ty : TyOf X.K H x t) (e : PySem.W.kitOne X.K t c = some b) (h : ∀ tk, Q (.bool b) { s with toks := tk }) :
    wpAny (model X.prog X.w) A (call (.builtin "isinstance") [u, c]) Q E s := by
  cases ty with
  | non => cases (show u = Value.none from rx); exact PySem.W.kia_one PySem.W.kitx_none I.kIn True.intro e (fun z => nomatch z) h
  | bl y => cases (show u = Value.bool y from rx); exact PySem.W.kia_one PySem.W.kitx_bool I.kIn True.intro e (fun z => nomatch z) h
  | int i => obtain ⟨t, q⟩ := (show ∃ t, u = Value.int i t from rx); cases q; exact PySem.W.kia_one PySem.W.kitx_int I.kIn True.intro e (fun z => nomatch z) h
  | str y => obtain ⟨t, q⟩ := (show ∃ t, u = Value.str y t from rx); cases q; exact PySem.W.kia_one PySem.W.kitx_str I.kIn True.intro e (fun z => nomatch z) h
  | flt y => obtain ⟨t, q⟩ := (show ∃ t, u = Value.float y t from rx); cases q; exact PySem.W.kia_one PySem.W.kitx_float I.kIn True.intro e (fun z => nomatch z) h
  | @lst a xs ea =>
    cases (show u = Value.ref a from rx)
    obtain ⟨_, _, n, _, h1⟩ := (show ObjOk X.prog X.w H s.heap a (.lst xs) from I.hok a _ ea)
    exact PySem.W.kia_one PySem.W.kitx_list I.kIn ⟨_, h1, rfl⟩ e (fun z => nomatch z) h
  | @frz a ob xs ea =>
    cases (show u = Value.ref a from rx)
    obtain ⟨_, _, _, n, _, h1⟩ := (show ObjOk X.prog X.w H s.heap a (.frz ob (.lst xs)) from I.hok a _ ea)
    exact PySem.W.kia_one PySem.W.kitx_list I.kIn ⟨_, h1, rfl⟩ e (fun z => nomatch z) h
  | @tup a xs ea =>
    cases (show u = Value.ref a from rx)
    obtain ⟨_, _, _, p⟩ := (show ObjOk X.prog X.w H s.heap a (.tup xs) from I.hok a _ ea)
    obtain ⟨o, h1, h2, _⟩ := p
    exact PySem.W.kia_one PySem.W.kitx_tuple I.kIn ⟨o, h1, h2⟩ e (fun z => nomatch z) h
  | @dK a kvs ea =>
    cases (show u = Value.ref a from rx)
    obtain ⟨_, _, vs, _, p⟩ := (show ObjOk X.prog X.w H s.heap a (.dK kvs) from I.hok a _ ea)
    obtain ⟨o, es, ep, h1, h2, _⟩ := p
    exact PySem.W.kia_one PySem.W.kitx_dict I.kIn ⟨o, h1, h2.1⟩ e (fun z => nomatch z) h
  | @dT a kvs ea =>
    cases (show u = Value.ref a from rx)
    obtain ⟨_, _, xs, _, o, es, ep, h1, h2, _⟩ := (show ObjOk X.prog X.w H s.heap a (.dT kvs) from I.hok a _ ea)
    exact PySem.W.kia_one PySem.W.kitx_dict I.kIn ⟨o, h1, h2.1⟩ e (fun z => nomatch z) h
  | @ins a C dx fs ea cl ha hn htk hm =>
    cases (show u = Value.ref a from rx)
    obtain ⟨mA, O, _⟩ := ins_get I.hok ea
    obtain ⟨od, J, _⟩ := O.look
    exact PySem.W.kia_one (PySem.W.kitx_own (cl.get _) cl.hd ha hn htk hm) I.kIn J e (fun z => nomatch z) h
end
end L2

namespace L2
open PySem PySem.Spec PyProof.Rows

/-! ### room -/
structure Room (k : Nat) (A : Around) : Prop where
  hd : A.handled = none
  dp : A.depth + 3 * k + 5 < recursionLimit
  un : A.units + 16 * k + 200 < cLine
  gd : A.guards = some []
theorem Room.mono {j k : Nat} {A : Around} (r : Room k A) (h : j ≤ k) : Room j A := ⟨r.hd, by have := r.dp; omega, by have := r.un; omega, r.gd⟩
theorem Room.deeper {k : Nat} {A : Around} (r : Room (k + 1) A) (env : Env) : Room k (A.deeper env) :=
  ⟨r.hd, by have := r.dp; show A.depth + 1 + 3 * k + 5 < _; omega, by have := r.un; show A.units + 3 + 16 * k + 200 < _; omega, r.gd⟩
theorem Room.depth {k : Nat} {A : Around} (r : Room k A) : A.depth < recursionLimit := by have := r.dp; omega
theorem Room.units {k : Nat} {A : Around} (r : Room k A) : A.units + 64 < cLine := by have := r.un; omega
/-! ### argument lists and displays -/
def tNil : TA := fun _ H Q => Q [] H
def tCons (ta : TE) (tr : TA) : TA := fun σ H Q => ta σ H fun x H1 => tr σ H1 fun xs H2 => Q (x :: xs) H2
section
variable {X : Cx} {e : Expr} {es : List Expr} {te : TE} {t : TA} {pos : Pos}
theorem pa_nil : PA X [] tNil := fun _ _ _ _ H Q I h => Calls.spliced_nil ⟨[], H, I, .nil, h⟩
theorem pa_cons (ha : PE X e te) (hr : PA X es t) (hs : starEach (e :: es) X.env = (false, eval e X.env) :: starEach es X.env := by rfl) : PA X (e :: es) (tCons te t) := by
  intro pos pins s σ H Q I h
  rw [hs]
  show wpAny _ _ (spliced ((false, eval e X.env) :: backTo pos (starEach es X.env))) _ _ s
  refine Calls.spliced_cons (thn (ha s σ H _ I h) fun u s1 ⟨x, H1, I1, r1, q1⟩ => ?_)
  exact thn (hr s1 σ H1 _ I1 q1) fun us s2 ⟨xs, H2, I2, r2, q2⟩ => ⟨x :: xs, H2, I2, .cons r1 r2, q2⟩

/-- a tuple, a list of written items -/
def tTup (t : TA) : TE := fun σ H Q => t σ H fun xs H1 => xs.length ≤ sizeLine ∧ ∀ p, H1 p = none → Q (.ref p) (upd H1 p (.tup xs))
def tLst (t : TA) : TE := fun σ H Q => t σ H fun xs H1 => xs.length ≤ sizeLine ∧ ∀ p, H1 p = none → Q (.ref p) (upd H1 p (.lst xs))
theorem pe_tup {x1} (h : PA X es t) : PE X (.Tuple es x1 pos) (tTup t) := by
  intro pins s σ H Q I hq
  refine wpAny_Tuple_spliced (thn (h s σ H _ I hq) fun us s1 ⟨xs, H1, I1, r, z, q⟩ => ⟨by rw [← r.length]; exact z, ?_⟩)
  have hf : H1 s1.heap.objs.size = none := I1.hok.fresh (Nat.le_refl _)
  refine ⟨.ref s1.heap.objs.size, upd H1 s1.heap.objs.size (.tup xs), I1.laid (t' := s1.toks) (fun b u e => Heap.get?_push_of_some _ e) (Nat.le_refl _) ?_, rfl, q _ hf⟩
  exact ⟨z, us, r, ⟨_, Heap.get?_push_size _ rfl, rfl, _, rfl⟩⟩
theorem pe_lst (h : PA X es t) : PE X (.List es pos) (tLst t) := by
  intro pins s σ H Q I hq
  refine wpAny_List_spliced (thn (h s σ H _ I hq) fun us s1 ⟨xs, H1, I1, r, z, q⟩ => ⟨by rw [← r.length]; exact z, ?_⟩)
  have hf : H1 s1.heap.objs.size = none := I1.hok.fresh (Nat.le_refl _)
  refine ⟨.ref s1.heap.objs.size, upd H1 s1.heap.objs.size (.lst xs), I1.laid (t' := s1.toks) (fun b u e => Heap.get?_push_of_some _ e) (Nat.le_refl _) ?_, rfl, q _ hf⟩
  exact ⟨z, us, 0, r, Heap.get?_push_size _ rfl⟩
end

/-! ### what a def promises -/
/-- a def's promise: the bound arguments in the parameters' order, the heap, the wanted end, the wanted exception -/
abbrev Sp := List V → Hp → VK → XK → Prop
/-- how an exception lies behind a call (file 08 gives it): the callers' frames, abstract heap and state ahead of the call, the wish, the exception, the state -/
abbrev CXT := List Env → Hp → Shared → XK → Value → Shared → Prop

/-- the state at a call -/
structure Env0 (P : Program) (w : World) (K : PySem.W.Frag) (mg : Str → Option Value) (base : Heap) (A : Around) (outer : List Env) (s : Shared) (H : Hp) : Prop where
  frames : A.frames = some outer
  mod : Mod K mg base
  bs : ∀ b o, base.get? b = some o → s.heap.get? b = some o ∧ H b = none
  bsz : base.objs.size ≤ s.heap.objs.size
  funs : s.heap.FunFrames base outer
  frf : ∀ b ∈ frs outer, H b = none
  hok : HOk P w H s.heap
  bare : AllBare s.gens
/-- a call's end -/
def CE (outer : List Env) (P : Program) (w : World) (H : Hp) (s : Shared) (Q : VK) (u : Value) (s' : Shared) : Prop :=
  ∃ v H', s'.os = s.os ∧ AllBare s'.gens ∧ Un (frs outer) [] H H' s.heap s'.heap ∧ HOk P w H' s'.heap ∧ RelV v u ∧ Q v H'
def CR (CX : CXT) (outer : List Env) (P : Program) (w : World) (H : Hp) (s : Shared) (Q : VK) (E : XK) (r : Result) (s' : Shared) : Prop :=
  match r with
  | .ok (.ret u) => CE outer P w H s Q u s'
  | .ok _ => False
  | .error e => CX outer H s E e s'
structure FnOk (P : Program) (w : World) (K : PySem.W.Frag) (mg : Str → Option Value) (base : Heap) (CX : CXT) (k : Nat) (f : Addr) (fd : FuncData) (ps : List Str) (sp : Sp) : Prop where
  len : ∀ vs H Q E, sp vs H Q E → vs.length = ps.length
  run : ∀ (A : Around) (outer : List Env) (s : Shared) (H : Hp) (args : Args) (us : List Value) (vs : List V) (Q : VK) (E : XK), Room k A → Env0 P w K mg base A outer s H → BindsTo s fd args (ps.zip us) → Vals vs us → sp vs H Q E →
    codeAny (model P w) A (.call (.ref f) args) (CR CX outer P w H s Q E) s
theorem FnOk.mono {P : Program} {w : World} {K : PySem.W.Frag} {mg : Str → Option Value} {base : Heap} {CX : CXT} {j k : Nat} {f : Addr} {fd : FuncData} {ps : List Str} {sp : Sp} (F : FnOk P w K mg base CX j f fd ps sp) (h : j ≤ k) :
    FnOk P w K mg base CX k f fd ps sp := ⟨F.len, fun A outer s H args us vs Q E hr => F.run A outer s H args us vs Q E (hr.mono h)⟩
/-- a weaker promise -/
theorem FnOk.imp {P : Program} {w : World} {K : PySem.W.Frag} {mg : Str → Option Value} {base : Heap} {CX : CXT} {k : Nat} {f : Addr} {fd : FuncData} {ps : List Str} {sp sp' : Sp} (F : FnOk P w K mg base CX k f fd ps sp)
    (h : ∀ vs H Q E, sp' vs H Q E → sp vs H Q E) : FnOk P w K mg base CX k f fd ps sp' :=
  ⟨fun vs H Q E q => F.len vs H Q E (h _ _ _ _ q), fun A outer s H args us vs Q E hr he hb hv hs => F.run A outer s H args us vs Q E hr he hb hv (h _ _ _ _ hs)⟩

section
variable {X : Cx} {pins : List (Addr × Obj)} {σ : St} {H : Hp} {s s' : Shared}
/-- from a body: what a callee wants -/
theorem Inv.env0 (I : Inv X pins σ H s) : Env0 X.prog X.w X.K X.mg X.base X.A X.stack s H :=
  ⟨I.ok.frames, I.ok.mod, I.bs, Nat.le_trans I.ok.bsz I.sz, I.stack, I.stkFree, I.hok, I.bare⟩
/-- behind a call -/
theorem Inv.after {Q : VK} {u : Value} (I : Inv X pins σ H s) (h : CE X.stack X.prog X.w H s Q u s') : EP X pins σ Q u s' := by
  obtain ⟨v, H', os, bare, un, hok, r, q⟩ := h
  obtain ⟨hh, g, d, t, os'⟩ := s'
  obtain rfl : os' = s.os := os
  exact ⟨v, H', I.call (h' := hh) (g' := g) (d' := d) (t' := t) (ch := []) un hok bare (fun b z => absurd z (by simp)), r, q⟩
end

/-! ### calls -/
/-- f(..): the written arguments, then the defaults dvs; E: what is wanted of an exception -/
def tCall (sp : Sp) (dvs : List V) (E : XK) (t : TA) : TE := fun σ H Q => t σ H fun vs H1 => sp (vs ++ dvs) H1 Q E
/-- how the parameters are bound: us the positional arguments, kw the keywords' values by name, ds the defaults that fill up -/
def Binds (K : PySem.W.Frag) (fd : FuncData) (ps : List Str) (ds : List Value) : Prop :=
  ∀ (s : Shared) (us : List Value), K.In s.heap → (us ++ ds).length = ps.length → BindsTo s fd ⟨us, []⟩ (ps.zip (us ++ ds))
/-- every parameter is given -/
theorem Binds.all {K : PySem.W.Frag} {fd : FuncData} {ps : List Str} (h : ∀ us : List Value, us.length = ps.length → bindArgs fd ⟨us, []⟩ = pure (ps.zip us)) : Binds K fd ps [] := fun s us _ hl => by
  rw [List.append_nil] at hl ⊢
  exact .of_eq (h us hl)

/-- an exception of a callee reaches what this body wants of exceptions -/
def Passes (CX : CXT) (X : Cx) (E : XK) : Prop := ∀ (pins : List (Addr × Obj)) (σ : St) (H : Hp) (s : Shared) (e : Value) (s' : Shared), Inv X pins σ H s → CX X.stack H s E e s' → X.xe e s'

section
variable {X : Cx} {CX : CXT} {k : Nat} {f C : Addr} {fd : FuncData} {ps : List Str} {sp : Sp} {dvs : List V} {ds : List Value} {E : XK} {x m : Str} {p pos apos : Pos} {e o : Expr} {es : List Expr} {ta : TE} {t : TA}

/-- the callee runs -/
theorem run_fn {pins : List (Addr × Obj)} {σ : St} {H : Hp} {s : Shared} {Q : VK} {us : List Value} {vs : List V} (F : FnOk X.prog X.w X.K X.mg X.base CX k f fd ps sp) (hr : Room k X.A) (hb : Binds X.K fd ps ds) (hd : Vals dvs ds) (hx : Passes CX X E)
    (I : Inv X pins σ H s) (r : Vals vs us) (h : sp (vs ++ dvs) H Q E) : wpAny (model X.prog X.w) X.A (call (.ref f) us) (EP X pins σ Q) X.xe s := by
  have r2 : Vals (vs ++ dvs) (us ++ ds) := r.append hd
  have hl : (us ++ ds).length = ps.length := by rw [← r2.length]; exact F.len _ _ _ _ h
  refine wpAny_call (codeAny_mono (F.run X.A X.stack s H ⟨us, []⟩ (us ++ ds) (vs ++ dvs) Q E hr I.env0 (hb s us I.kIn hl) r2 h) fun r s' hq => ?_)
  cases r with
  | error e => exact hx pins σ H s e s' I hq
  | ok fl =>
    cases fl with
    | ret u => exact I.after hq
    | next => exact False.elim hq
    | brk => exact False.elim hq
    | cont => exact False.elim hq

theorem pe_call (F : FnOk X.prog X.w X.K X.mg X.base CX k f fd ps sp) (hr : Room k X.A) (hg : Gl X x) (hm : X.mg x = some (.ref f)) (hk : PySem.W.keepIn X.K (.ref f) = true) (hb : Binds X.K fd ps ds) (hd : Vals dvs ds) (hx : Passes CX X E)
    (ha : PA X (e :: es) t) (hdb : (x == ("__debug__" : Str)) = false := by decide) (he : starEach (e :: es) X.env = (false, eval e X.env) :: starEach es X.env := by rfl) (hpl : (backTo pos (starEach es X.env)).any (·.1) = false := by rfl) :
    PE X (.Call (.Name x p) (e :: es) [] pos) (tCall sp dvs E t) := by
  intro pins s σ H Q I h
  refine wpAny_Call_Name_kw (ld_glob I hg hm ?_ hdb)
  refine PySem.W.callWith_K (h₀ := X.base) I.ok.mod.kin hk (thn (ha s σ H _ I h) fun us s1 ⟨vs, H1, I1, r, q⟩ => ⟨I1.kIn, ?_⟩) he hpl
  exact run_fn F hr hb hd hx I1 r q
end

/-! ### keywords -/
section
variable {X : Cx} {CX : CXT} {k : Nat} {f C : Addr} {fd : FuncData} {ps ks : List Str} {sp : Sp} {E : XK} {x m : Str} {p pos apos kpos : Pos} {e o : Expr} {es : List Expr} {kws : List Keyword} {te ta : TE} {t tk : TA} {nm : Option Str}
variable {g : List Value → List Value → List Value} {gV : List V → List V → List V}
end

/-! ### a def's body keeps its promise -/
/-- names: the parameters first -/
structure FnScope (N P : List Str) (sc : Scope) : Prop where
  kind : sc.kind = .function
  co : sc.isCoroutine = false
  gen : sc.isGenerator = false
  nd : N.Nodup
  pre : N.take P.length = P
  par : ∀ x ∈ P, sc.names.lookup x = some .local ∨ sc.names.lookup x = some .cell
  nofree : ∀ y ∈ sc.names, y.2 ≠ .free

theorem bindL_out {kindOf : Str → Option NameKind} {x : Str} : ∀ {binds : List (Str × Value)} {m : Str → Option Value}, (∀ v, (x, v) ∉ binds) → bindL kindOf binds m x = m x
  | [], _, _ => rfl
  | (n, v) :: r, m, h => by
    unfold bindL
    rw [bindL_out fun w hw => h w (List.mem_cons_of_mem _ hw)]
    split
    · have : x ≠ n := by rintro rfl; exact h v List.mem_cons_self
      simp [this]
    · rfl
theorem bindC_out {kindOf : Str → Option NameKind} {x : Str} : ∀ {binds : List (Str × Value)} {m : Str → Option Value}, (∀ v, (x, v) ∉ binds) → bindC kindOf binds m x = m x
  | [], _, _ => rfl
  | (n, v) :: r, m, h => by
    unfold bindC
    rw [bindC_out fun w hw => h w (List.mem_cons_of_mem _ hw)]
    split
    · rfl
    · have : x ≠ n := by rintro rfl; exact h v List.mem_cons_self
      simp [this]
theorem bindL_get {kindOf : Str → Option NameKind} {x : Str} {v : Value} : ∀ {P : List Str} {vs : List Value} {i : Nat} {m : Str → Option Value}, P.Nodup → P[i]? = some x → vs[i]? = some v → kindOf x = some .local →
    bindL kindOf (P.zip vs) m x = some v
  | [], _, _, _, _, h, _, _ => by simp at h
  | _ :: _, [], _, _, _, _, h, _ => by simp at h
  | p :: P, w :: vs, 0, m, nd, h1, h2, hk => by
    simp at h1 h2; subst h1; subst h2
    show bindL kindOf ((p, w) :: P.zip vs) m p = _
    unfold bindL
    rw [bindL_out fun v hv => (List.nodup_cons.mp nd).1 (List.of_mem_zip hv).1, if_pos hk]
    simp
  | p :: P, w :: vs, i + 1, m, nd, h1, h2, hk => by
    show bindL kindOf ((p, w) :: P.zip vs) m x = _
    unfold bindL
    exact bindL_get (i := i) (List.nodup_cons.mp nd).2 (by simpa using h1) (by simpa using h2) hk
theorem bindC_get {kindOf : Str → Option NameKind} {x : Str} {v : Value} : ∀ {P : List Str} {vs : List Value} {i : Nat} {m : Str → Option Value}, P.Nodup → P[i]? = some x → vs[i]? = some v → kindOf x ≠ some .local →
    bindC kindOf (P.zip vs) m x = some v
  | [], _, _, _, _, h, _, _ => by simp at h
  | _ :: _, [], _, _, _, _, h, _ => by simp at h
  | p :: P, w :: vs, 0, m, nd, h1, h2, hk => by
    simp at h1 h2; subst h1; subst h2
    show bindC kindOf ((p, w) :: P.zip vs) m p = _
    unfold bindC
    rw [bindC_out fun v hv => (List.nodup_cons.mp nd).1 (List.of_mem_zip hv).1, if_neg hk]
    simp
  | p :: P, w :: vs, i + 1, m, nd, h1, h2, hk => by
    show bindC kindOf ((p, w) :: P.zip vs) m x = _
    unfold bindC
    exact bindC_get (i := i) (List.nodup_cons.mp nd).2 (by simpa using h1) (by simpa using h2) hk

/-- the names' values at the entry -/
def start (N : List Str) (vs : List V) : St := vs.map some ++ List.replicate (N.length - vs.length) none

/-- the context of a def's body, at its entry; an exception leaves the frame, then lies as CX says -/
def cxOf (CX : CXT) (P : Program) (w : World) (K : PySem.W.Frag) (mg : Str → Option Value) (base : Heap) (N : List Str) (qual : Str) (scope : Scope) (f : Addr) (cd : Value) (A : Around) (outer : List Env) (s : Shared) (H : Hp) (E : XK) : Cx where
  prog := P
  w := w
  K := K
  mg := mg
  base := base
  A := A.deeper (envOfC qual scope s.heap.objs.size f cd)
  N := N
  s₀ := s
  H₀ := H
  env := envOfC qual scope s.heap.objs.size f cd
  outer := outer
  stack := envOfC qual scope s.heap.objs.size f cd :: outer
  ex := []
  calm := true
  fn := fun _ => true
  pn := []
  xe := fun e s' => wpAny (model P w) (A.deeper (envOfC qual scope s.heap.objs.size f cd)) (leaving (envOfC qual scope s.heap.objs.size f cd) e) (fun _ s'' => CX outer H s E e s'') (fun e' s'' => CX outer H s E e' s'') s'

theorem cell_has {sc : Scope} {n : Nat} {x : Str} (h : sc.names.lookup x = some .cell) : ∃ c, (cellsFrom n sc.names []).lookup x = some c := by
  have q := PySem.W.cellsFrom_some sc.names n [] (.inl h)
  exact Option.isSome_iff_exists.mp q

theorem inv_start {CX : CXT} {P : Program} {w : World} {K : PySem.W.Frag} {mg : Str → Option Value} {base : Heap} {N ps : List Str} {qual : Str} {scope : Scope} {f : Addr} {cd : Value} {A : Around} {outer : List Env} {s s1 : Shared} {H : Hp} {E : XK} {us : List Value} {vs : List V}
    (S : FnScope N ps scope) (hd : A.handled = none) (e0 : Env0 P w K mg base A outer s H) (hl : vs.length = ps.length) (r : Vals vs us)
    (x : InCallC s s.heap.objs.size (bindL (envOfC qual scope s.heap.objs.size f cd).kindOf (ps.zip us) fun _ => none) (cellsFrom (s.heap.objs.size + 1) scope.names []) (bindC (envOfC qual scope s.heap.objs.size f cd).kindOf (ps.zip us) fun _ => none) s1) :
    Inv (cxOf CX P w K mg base N qual scope f cd A outer s H E) [] (start N vs) H s1 := by
  have hpl : ps.length ≤ N.length := by have := congrArg List.length S.pre; rw [List.length_take] at this; omega
  obtain ⟨h1, tk, rfl, hk⟩ := x.done
  have noA : ∀ b : Addr, b ∉ (cxOf CX P w K mg base N qual scope f cd A outer s H E).ex := fun b z => absurd (show b ∈ ([] : List Addr) from z) (by simp)
  refine ⟨⟨e0.mod, S.kind, rfl, rfl, Nat.le_refl _, fun y z c h1 h2 => ?_, fun y hy => ?_, fun y c _ h => ?_, fun _ => hd, Around.frames_deeper e0.frames, .inr ⟨rfl, rfl⟩, fun b z => absurd z (noA b), e0.bs, e0.bsz, fun b _ _ => noA b, fun b z => absurd z (noA b), e0.funs, e0.frf⟩,
    rfl, e0.bare, Un.kept hk, ⟨_, x.toInCall.ns, fun i y v h1 h2 h3 => ?_⟩, fun y c h => ⟨_, x.cell y c h⟩, e0.hok.fresh (Nat.le_refl _), fun y c h => ?_, fun p hp => absurd (show p ∈ ([] : List (Addr × Obj)) from hp) (by simp), e0.hok.kept hk, ?_⟩
  · exact name_of_addr x.apart (PySem.mem_of_lookup h1) (PySem.mem_of_lookup h2)
  · have hy : scope.names.lookup y = some .cell ∨ scope.names.lookup y = some .free := hy
    rcases hy with hy | hy
    · exact cell_has hy
    · exact absurd rfl (S.nofree _ (PySem.mem_of_lookup hy))
  · exact Nat.le_of_lt (x.above y c (PySem.mem_of_lookup h))
  · have hi : i < vs.length := by
      unfold start at h2
      by_cases hi : i < vs.length
      · exact hi
      · rw [List.getElem?_append_right (by simpa using hi)] at h2
        rw [List.getElem?_replicate] at h2
        split at h2 <;> cases h2
    have ha : vs[i]? = some v := by
      unfold start at h2
      rw [List.getElem?_append_left (by simpa using hi), List.getElem?_map] at h2
      cases e : vs[i]? with
      | none => rw [e] at h2; cases h2
      | some a => rw [e] at h2; cases h2; rfl
    obtain ⟨u, hu, rv⟩ := r.get ha
    have hp : ps[i]? = some y := by
      rw [← S.pre, List.getElem?_take_of_lt (by omega)]; exact h1
    have ndP : ps.Nodup := by rw [← S.pre]; exact S.nd.sublist (List.take_sublist _ _)
    refine ⟨u, rv, ?_⟩
    rcases S.par y (List.mem_of_getElem? hp) with k | k
    · exact .inl ⟨k, bindL_get ndP hp hu k⟩
    · obtain ⟨c, e⟩ := cell_has (n := s.heap.objs.size + 1) k
      refine .inr ⟨.inl k, c, e, ?_⟩
      have q := x.cell y c e
      rw [bindC_get ndP hp hu (by show scope.names.lookup y ≠ _; rw [k]; decide)] at q
      exact q
  · exact e0.hok.fresh (Nat.le_of_lt (x.above y c (PySem.mem_of_lookup h)))
  · unfold start
    show _ = N.length
    rw [List.length_append, List.length_map, List.length_replicate]
    omega

/-- THE RULE: a def (or a method) of the text, by its body. The body's reading t is chosen for each entry; it is run at the parameters' values -/
theorem fn_of {CX : CXT} {P : Program} {w : World} {K : PySem.W.Frag} {mg : Str → Option Value} {base : Heap} {k : Nat} {f : Addr} {name qual : Str} {params : Arguments} {body : List Stmt} {scope : Scope} {dV kV doc pm cdv ct oc : Value} {an od : Option Addr}
    {osl : Array (Option Value)} {N ps : List Str} {sp : Sp} (lk : K.lookup f = some ⟨oc, od, .func (PySem.W.fnOf name qual params body scope dV kV doc pm an cdv ct), osl⟩) (hcd : PySem.W.codeIn K cdv qual = true) (S : FnScope N ps scope)
    (len : ∀ vs H Q E, sp vs H Q E → vs.length = ps.length)
    (hbody : ∀ (A : Around) (outer : List Env) (s : Shared) (H : Hp) (vs : List V) (Q : VK) (E : XK), Room k (A.deeper (envOfC qual scope s.heap.objs.size f cdv)) → sp vs H Q E →
      ∃ t, PSs (cxOf CX P w K mg base N qual scope f cdv A outer s H E) body t ∧ t { nx := fun _ H' => Q .non H', rt := Q } (start N vs) H) :
    FnOk P w K mg base CX (k + 1) f (PySem.W.fnOf name qual params body scope dV kV doc pm an cdv ct) ps sp := by
  refine ⟨len, fun A outer s H args us vs Q E hr e0 hb r hsp => ?_⟩
  have hl := len _ _ _ _ hsp
  have KX : K.In s.heap := e0.mod.kin.keeps fun b o e => (e0.bs b o e).1
  have lim : s.heap.NoLimit := e0.mod.nolimit.keeps fun b o e => (e0.bs b o e).1
  have hkind : ∀ y ∈ ps.zip us, scope.names.lookup y.1 = some .local ∨ (scope.names.lookup y.1 = some .cell ∧ ((cellsFrom (s.heap.objs.size + 1) scope.names []).lookup y.1).isSome = true) := fun ⟨n, v⟩ hy => by
    rcases S.par n (List.of_mem_zip hy).1 with q | q
    · exact .inl q
    · exact .inr ⟨q, PySem.W.cellsFrom_some _ _ _ (.inl q)⟩
  refine codeAny_call_function hr.depth (KX _ _ lk) rfl S.co S.gen rfl (PySem.W.codeRec_of KX hcd) (hb _ _ _ _ ?_)
  refine wpAny_newFunctionEnv_cells S.kind hkind fun env he s1 x => ?_
  subst he
  refine ⟨lim.keeps x.toInCall.keep, codeAny_func ?_⟩
  obtain ⟨t, ht, hq⟩ := hbody A outer s H vs Q E (hr.deeper _) hsp
  have I : Inv (cxOf CX P w K mg base N qual scope f cdv A outer s H E) [] (start N vs) H s1 := inv_start S hr.hd e0 hl r x
  refine wpAny_mono (ht s1 (start N vs) H _ I hq) (fun fl s' hs => ?_) fun e s' hs => hs
  have fin : ∀ {σ' : St} {H' : Hp} {v : V} {u : Value}, Inv (cxOf CX P w K mg base N qual scope f cdv A outer s H E) [] σ' H' s' → RelV v u → Q v H' → CE outer P w H s Q u s' :=
    fun {σ' H' v u} J rv q => ⟨v, H', J.os, J.bare, J.base, J.hok, rv, q⟩
  cases fl with
  | ret u =>
    obtain ⟨v, σ', H', J, rv, q⟩ := hs
    exact fin J rv q
  | next =>
    obtain ⟨σ', H', J, q⟩ := hs
    exact fin (v := V.non) (u := Value.none) J rfl q
  | brk =>
    obtain ⟨_, _, _, q⟩ := hs
    exact False.elim q
  | cont =>
    obtain ⟨_, _, _, q⟩ := hs
    exact False.elim q
end L2

namespace L2
open PySem PySem.Spec PyProof.Rows
section
variable {X : Cx} {x : Str} {p pos : Pos} {e : Expr} {es : List Expr} {t : TA} {id T : String} {r : List V → Hp → VK → Prop}

def tCB (r : List V → Hp → VK → Prop) (t : TA) : TE := fun σ H Q => t σ H fun vs H1 => r vs H1 Q
/-- f(e, ..), f a built-in function -/
theorem pe_callB (hc : CallR X (.builtin id) r) (hg : Gl X x) (hm : X.mg x = none) (hv : bootBuiltins x = some (.builtin id)) (ha : PA X (e :: es) t) (hn : x ≠ "__name__" := by decide) (hdb : (x == ("__debug__" : Str)) = false := by decide)
    (he : starEach (e :: es) X.env = (false, eval e X.env) :: starEach es X.env := by rfl) (hpl : (backTo pos (starEach es X.env)).any (·.1) = false := by rfl) : PE X (.Call (.Name x p) (e :: es) [] pos) (tCB r t) := by
  intro pins s σ H Q I h
  refine wpAny_Call_Name_kw (ld_blt I hg hm hv ?_ hn hdb)
  exact PyProof.Rows.callWith_builtin1 (thn (ha s σ H _ I h) fun us s1 ⟨vs, H1, I1, r1, q1⟩ => hc s1 σ H1 vs us Q I1 r1 q1) he hpl
/-- T(e, ..), T a built-in type -/
theorem pe_callTy (hc : CallR X (.type T) r) (hg : Gl X x) (hm : X.mg x = none) (hv : bootBuiltins x = some (.type T)) (ha : PA X (e :: es) t) (hn : x ≠ "__name__" := by decide) (hdb : (x == ("__debug__" : Str)) = false := by decide)
    (he : starEach (e :: es) X.env = (false, eval e X.env) :: starEach es X.env := by rfl) (hpl : (backTo pos (starEach es X.env)).any (·.1) = false := by rfl) : PE X (.Call (.Name x p) (e :: es) [] pos) (tCB r t) := by
  intro pins s σ H Q I h
  refine wpAny_Call_Name_kw (ld_blt I hg hm hv ?_ hn hdb)
  exact PyProof.Rows.callWith_type1 (thn (ha s σ H _ I h) fun us s1 ⟨vs, H1, I1, r1, q1⟩ => hc s1 σ H1 vs us Q I1 r1 q1) he hpl
end
end L2

namespace L2
open PySem PySem.Spec PyProof.Rows

/-! ### lists of pairs as tables -/
section
variable {κ : Type} [DecidableEq κ]
def valV (kvs : List (κ × V)) (k : κ) : Option V := (kvs.find? fun kv => decide (kv.1 = k)).map (·.2)
/-- in its place, or at the end -/
def putK (kvs : List (κ × V)) (k : κ) (v : V) : List (κ × V) :=
  if (kvs.any fun kv => decide (kv.1 = k)) = true then kvs.map (fun kv => if kv.1 = k then (kv.1, v) else kv) else kvs ++ [(k, v)]
theorem valV_pos {p : κ × V} {r : List (κ × V)} {k : κ} (e : p.1 = k) : valV (p :: r) k = some p.2 := by simp [valV, List.find?_cons, e]
theorem valV_neg {p : κ × V} {r : List (κ × V)} {k : κ} (e : ¬ p.1 = k) : valV (p :: r) k = valV r k := by simp [valV, List.find?_cons, e]
theorem valV_any (k : κ) : ∀ kvs : List (κ × V), (kvs.any fun kv => decide (kv.1 = k)) = (valV kvs k).isSome
  | [] => rfl
  | p :: r => by
    rw [List.any_cons]
    by_cases e : p.1 = k
    · simp only [valV_pos e, decide_eq_true e, Bool.true_or, Option.isSome_some]
    · rw [valV_neg e, decide_eq_false e, Bool.false_or]; exact valV_any k r
theorem length_putK (kvs : List (κ × V)) (k : κ) (v : V) : (putK kvs k v).length ≤ kvs.length + 1 := by
  unfold putK
  split
  · rw [List.length_map]; omega
  · rw [List.length_append, List.length_cons, List.length_nil]; omega
theorem RelO.isSome_eq {o : Option V} {u : Option Value} (r : RelO o u) : o.isSome = u.isSome := by
  cases o with
  | none => cases u with
    | none => rfl
    | some _ => exact (show False from r).elim
  | some _ => cases u with
    | none => exact (show False from r).elim
    | some _ => rfl
/-- raw tables of the same keys -/
theorem KV.val {kvs : List (κ × V)} {vs : List (κ × Value)} (r : KV kvs vs) (k : κ) : RelO (valV kvs k) (valueAt vs k) := by
  unfold KV at r
  induction r with
  | nil => exact True.intro
  | @cons p q ps qs h t ih =>
    obtain ⟨h1, h2⟩ := h
    by_cases e : p.1 = k
    · have e' : q.1 = k := h1.symm.trans e
      have b : valueAt (q :: qs) k = some q.2 := by simp [valueAt, List.find?_cons, e']
      rw [valV_pos e, b]; exact h2
    · have e' : ¬ q.1 = k := fun z => e (h1.trans z)
      have b : valueAt (q :: qs) k = valueAt qs k := by simp [valueAt, List.find?_cons, e']
      rw [valV_neg e, b]; exact ih
theorem KV.any {kvs : List (κ × V)} {vs : List (κ × Value)} (r : KV kvs vs) (k : κ) : (kvs.any fun kv => decide (kv.1 = k)) = vs.any fun kv => decide (kv.1 = k) := by
  unfold KV at r
  induction r with
  | nil => rfl
  | cons h t ih => rw [List.any_cons, List.any_cons, ih, h.1]
theorem KV.repl {kvs : List (κ × V)} {vs : List (κ × Value)} (r : KV kvs vs) (k : κ) {y : V} {u : Value} (ry : RelV y u) :
    KV (kvs.map fun kv => if kv.1 = k then (kv.1, y) else kv) (vs.map fun kv => if kv.1 = k then (kv.1, u) else kv) := by
  unfold KV at r ⊢
  induction r with
  | nil => exact .nil
  | @cons p q ps qs h t ih =>
    rw [List.map_cons, List.map_cons]
    refine .cons ?_ ih
    obtain ⟨h1, h2⟩ := h
    by_cases e : p.1 = k
    · rw [if_pos e, if_pos (h1.symm.trans e)]; exact ⟨h1, ry⟩
    · rw [if_neg e, if_neg (fun z => e (h1.trans z))]; exact ⟨h1, h2⟩
theorem KV.put {kvs : List (κ × V)} {vs : List (κ × Value)} (r : KV kvs vs) (k : κ) {y : V} {u : Value} (ry : RelV y u) : KV (putK kvs k y) (stored vs k u) := by
  unfold putK stored
  rw [r.any k]
  by_cases e : (vs.any fun kv => decide (kv.1 = k)) = true
  · rw [if_pos e, if_pos e]; exact r.repl k ry
  · rw [if_neg e, if_neg e]; exact Paired.snoc r ⟨rfl, ry⟩
theorem KV.length {kvs : List (κ × V)} {vs : List (κ × Value)} (r : KV kvs vs) : kvs.length = vs.length := Paired.length r
end


/-! ### a tracked dict, its keys ints and texts or tuples of these -/
theorem kV_is {P : Program} {w : World} {k : Key} {u : Value} (r : RelV (kV k) u) : (mixKind P w).is k u = true := by
  cases k with
  | inl i => obtain ⟨t, e⟩ := (show ∃ t, u = Value.int i t from r); subst e; exact mixKind_int P w i t
  | inr x => obtain ⟨t, e⟩ := (show ∃ t, u = Value.str x t from r); subst e; exact mixKind_str P w x t
theorem items_are {P : Program} {w : World} : ∀ {ks : List Key} {us : List Value}, Vals (ks.map kV) us → ItemsAre (mixKind P w) ks us
  | [], _, r => by rw [List.map_nil] at r; cases r; exact .nil
  | k :: ks, _, r => by
    rw [List.map_cons] at r
    cases r with
    | cons h t => exact .cons (kV_is h) (items_are t)

/-- raw entries of a dict with tuple keys -/
abbrev KT (H : Hp) : List (List Key × V) → List (List Key × Addr × Value) → Prop := Paired fun p q => p.1 = q.1 ∧ H q.2.1 = some (.tup (p.1.map kV)) ∧ RelV p.2 q.2.2
theorem KT.val {H : Hp} {kvs : List (List Key × V)} {xs : List (List Key × Addr × Value)} (r : KT H kvs xs) (k : List Key) : RelO (valV kvs k) ((atKey xs k).map (·.2)) := by
  induction r with
  | nil => exact True.intro
  | @cons p q ps qs h t ih =>
    obtain ⟨h1, _, h2⟩ := h
    by_cases e : p.1 = k
    · have e' : q.1 = k := h1.symm.trans e
      have b : atKey (q :: qs) k = some q.2 := by simp [atKey, List.find?_cons, e']
      rw [valV_pos e, b]; exact h2
    · have e' : ¬ q.1 = k := fun z => e (h1.trans z)
      have b : atKey (q :: qs) k = atKey qs k := by simp [atKey, List.find?_cons, e']
      rw [valV_neg e, b]; exact ih
theorem KT.repl {H : Hp} {kvs : List (List Key × V)} {xs : List (List Key × Addr × Value)} (r : KT H kvs xs) (k : List Key) {y : V} {u : Value} (ry : RelV y u) :
    KT H (kvs.map fun kv => if kv.1 = k then (kv.1, y) else kv) (xs.map (putAt k u)) := by
  induction r with
  | nil => exact .nil
  | @cons p q ps qs h t ih =>
    rw [List.map_cons, List.map_cons]
    refine .cons ?_ ih
    obtain ⟨h1, h2, h3⟩ := h
    unfold putAt
    by_cases e : p.1 = k
    · rw [if_pos e, if_pos (h1.symm.trans e)]; exact ⟨h1, h2, ry⟩
    · rw [if_neg e, if_neg (fun z => e (h1.trans z))]; exact ⟨h1, h2, h3⟩
theorem KT.put {H : Hp} {kvs : List (List Key × V)} {xs : List (List Key × Addr × Value)} (r : KT H kvs xs) (k : List Key) {b : Addr} {y : V} {u : Value} (hb : H b = some (.tup (k.map kV))) (ry : RelV y u) :
    KT H (putK kvs k y) (storedH xs k b u) := by
  have e : (kvs.any fun kv => decide (kv.1 = k)) = (atKey xs k).isSome := by
    rw [valV_any, (r.val k).isSome_eq, Option.isSome_map]
  unfold putK storedH
  rw [e]
  by_cases q : (atKey xs k).isSome = true
  · rw [if_pos q, if_pos q]; exact r.repl k ry
  · rw [if_neg q, if_neg q]; exact Paired.snoc r ⟨rfl, hb, ry⟩
theorem KT.keeps {H H' : Hp} {kvs : List (List Key × V)} {xs : List (List Key × Addr × Value)} (r : KT H kvs xs) (ht : ∀ b ys, H b = some (.tup ys) → H' b = some (.tup ys)) : KT H' kvs xs :=
  Paired.mapP r fun _ _ z => ⟨z.1, ht _ _ z.2.1, z.2.2⟩

section
variable {P : Program} {w : World} {H : Hp} {h : Heap} {a : Addr}
theorem rd_of {u : HO} (ok : HOk P w H h) (e : Rd H a u) : ObjOk P w H h a u := e.ok ok
theorem dk_rd {kvs : List (Key × V)} (ok : HOk P w H h) (e : Rd H a (.dK kvs)) : kvs.length ≤ sizeLine ∧ (a == sysModules) = false ∧ ∃ vs, KV kvs vs ∧ h.DictOf (mixKind P w) a vs :=
  show ObjOk P w H h a (.dK kvs) from rd_of ok e
theorem dk_of {kvs : List (Key × V)} (ok : HOk P w H h) (e : H a = some (.dK kvs)) : kvs.length ≤ sizeLine ∧ (a == sysModules) = false ∧ ∃ vs, KV kvs vs ∧ h.DictOf (mixKind P w) a vs := dk_rd ok (.inl e)
/-- a tracked tuple of ints and texts is a key -/
theorem key_of {ks : List Key} (ok : HOk P w H h) (e : H a = some (.tup (ks.map kV))) : (tupleKind (mixKind P w)).is h ks a := by
  obtain ⟨_, its, r, o, h1, h2, n, h3⟩ := (show ObjOk P w H h a (.tup (ks.map kV)) from ok a _ e)
  exact ⟨o, its.toArray, n, h1, h2, h3, by simpa using items_are r⟩
theorem dt_rd {kvs : List (List Key × V)} (ok : HOk P w H h) (e : Rd H a (.dT kvs)) : kvs.length ≤ sizeLine ∧ (a == sysModules) = false ∧
    ∃ xs, KT H kvs xs ∧ h.DictOfH (tupleKind (mixKind P w)) a xs := by
  obtain ⟨z, y, xs, r, o, es, ep, h1, h2, h3, h4, h5⟩ := (show ObjOk P w H h a (.dT kvs) from rd_of ok e)
  refine ⟨z, y, xs, r, o, es, ep, h1, h2, h3, h4, fun x hx => ?_, h5⟩
  have all : ∀ {l : List (List Key × V)} {m : List (List Key × Addr × Value)}, KT H l m → ∀ x ∈ m, (tupleKind (mixKind P w)).is h x.1 x.2.1 := by
    intro l m q
    induction q with
    | nil => intro x hx; exact nomatch hx
    | @cons p q ps qs hq t ih =>
      intro x hx
      rcases List.mem_cons.mp hx with e | hx
      · subst e
        exact key_of ok (by rw [← hq.1]; exact hq.2.1)
      · exact ih x hx
  exact all r x hx
theorem dt_of {kvs : List (List Key × V)} (ok : HOk P w H h) (e : H a = some (.dT kvs)) : kvs.length ≤ sizeLine ∧ (a == sysModules) = false ∧
    ∃ xs, KT H kvs xs ∧ h.DictOfH (tupleKind (mixKind P w)) a xs := dt_rd ok (.inl e)
end

/-- what the dict at a holds at the key y -/
def DGet (H : Hp) (a : Addr) (y : V) (r : Option V) : Prop :=
  (∃ kvs k, Rd H a (.dK kvs) ∧ y = kV k ∧ r = valV kvs k) ∨ ∃ kvs k b, Rd H a (.dT kvs) ∧ y = .ref b ∧ H b = some (.tup (k.map kV)) ∧ r = valV kvs k
/-- the heap behind a[y] = v -/
def DPut (H : Hp) (a : Addr) (y v : V) (H' : Hp) : Prop :=
  (∃ kvs k, H a = some (.dK kvs) ∧ y = kV k ∧ kvs.length < sizeLine ∧ H' = upd H a (.dK (putK kvs k v))) ∨
  ∃ kvs k b, H a = some (.dT kvs) ∧ y = .ref b ∧ H b = some (.tup (k.map kV)) ∧ kvs.length < sizeLine ∧ H' = upd H a (.dT (putK kvs k v))
theorem DGet.k {H : Hp} {a : Addr} {kvs : List (Key × V)} {k : Key} (e : H a = some (.dK kvs)) : DGet H a (kV k) (valV kvs k) := .inl ⟨kvs, k, .inl e, rfl, rfl⟩
theorem DPut.k {H : Hp} {a : Addr} {kvs : List (Key × V)} {k : Key} {v : V} (e : H a = some (.dK kvs)) (hl : kvs.length < sizeLine) : DPut H a (kV k) v (upd H a (.dK (putK kvs k v))) := .inl ⟨kvs, k, e, rfl, hl, rfl⟩
section
variable {X : Cx} {pins : List (Addr × Obj)} {σ : St} {H : Hp} {s : Shared} {a : Addr} {y v : V} {u r : Value} {o : Option V} {A : Around} {E : Value → Shared → Prop}

theorem Inv.big (I : Inv X pins σ H s) : sysModules < s.heap.objs.size := by
  have h : mainGlobals < s.heap.objs.size := (I.mod.glob.keeps I.bk).lt
  exact Nat.lt_trans (by decide) h

/-- d[y], there -/
theorem d_getItem {Q : Value → Shared → Prop} (hu : A.units + 1 < cLine) (I : Inv X pins σ H s) (g : DGet H a y (some v)) (ry : RelV y u) (h : ∀ w' s', Inv X pins σ H s' → RelV v w' → Q w' s') :
    wpAny (model X.prog X.w) A (getItem (.ref a) u) Q E s := by
  rcases g with ⟨kvs, k, e, ey, l⟩ | ⟨kvs, k, b, e, ey, eb, l⟩
  · subst ey
    obtain ⟨z, hd, vs, rel, dd⟩ := dk_rd I.hok e
    obtain ⟨w', hw, rw'⟩ := RelO.some_of (v := v) (o := valueAt vs k) (by rw [l]; exact rel.val k)
    exact wpAny_getItem_of (kV_is ry) dd.mapOf hw (h w' _ (I.tok _) rw')
  · subst ey
    cases (show u = Value.ref b from ry)
    obtain ⟨z, hd, xs, rel, dd⟩ := dt_rd I.hok e
    obtain ⟨w', hw, rw'⟩ := RelO.some_of (v := v) (o := (atKey xs k).map (·.2)) (by rw [l]; exact rel.val k)
    obtain ⟨p, hp, hp2⟩ := Option.map_eq_some_iff.mp hw
    refine wpAny_getItem_heap (tupleKind_room_in1 hu) (key_of I.hok eb) dd hp ?_
    rw [hp2]
    exact h w' _ (I.tok _) rw'
/-- a dict's object is replaced -/
theorem d_write {h' : Heap} {t' : Nat} {ob : HO} (I : Inv X pins σ H s) (mu : Mut (H a)) (hs : Heap.SameBut a s.heap h') (he : ∃ q, h'.get? a = some q) (new : ObjOk X.prog X.w (upd H a ob) h' a ob) :
    Inv X pins σ (upd H a ob) { s with heap := h', toks := t' } :=
  I.write (x := a) (e := a) mu (.inl rfl) (fun b q hb z => (hs.2 b hb).trans z) he new
theorem dk_new {P : Program} {w : World} {H' : Hp} {h' : Heap} {kvs : List (Key × V)} {vs : List (Key × Value)} (z : kvs.length ≤ sizeLine) (hd : (a == sysModules) = false) (rel : KV kvs vs) (dd : h'.DictOf (mixKind P w) a vs) :
    ObjOk P w H' h' a (.dK kvs) := ⟨z, hd, vs, rel, dd⟩
/-- d[y] = v -/
theorem d_setItem {H' : Hp} {Q : Unit → Shared → Prop} (hu : A.units + 1 < cLine) (I : Inv X pins σ H s) (g : DPut H a y v H') (ry : RelV y u) (rv : RelV v r) (h : ∀ s', Inv X pins σ H' s' → Q () s') :
    wpAny (model X.prog X.w) A (setItem (.ref a) u r) Q E s := by
  rcases g with ⟨kvs, k, e, ey, l, eH⟩ | ⟨kvs, k, b, e, ey, eb, l, eH⟩
  · subst ey eH
    obtain ⟨z, hd, vs, rel, dd⟩ := dk_of I.hok e
    have hz : vs.length ≤ sizeLine := by rw [← rel.length]; exact z
    have hl : (putK kvs k v).length ≤ sizeLine := by have := length_putK kvs k v; omega
    refine wpAny_setItem_pairs (hsz := hz) (kV_is ry) dd fun h' dd' hs => h _ ?_
    have he : ∃ q, h'.get? a = some q := let ⟨q, _, _, hq, _⟩ := dd'; ⟨q, hq⟩
    exact d_write I (by rw [e]; exact True.intro) hs he (dk_new hl hd (rel.put k rv) dd')
  · subst ey eH
    cases (show u = Value.ref b from ry)
    obtain ⟨z, hd, xs, rel, dd⟩ := dt_of I.hok e
    have hz : xs.length ≤ sizeLine := by rw [← Paired.length rel]; exact z
    have hl : (putK kvs k v).length ≤ sizeLine := by have := length_putK kvs k v; omega
    refine wpAny_setItem_heap (hsz := hz) (tupleKind_room_in1 hu) (key_of I.hok eb) dd fun h' dd' hs => h _ ?_
    obtain ⟨q, es, ep, hq, h2, h3, h4, _, h5⟩ := dd'
    refine d_write I (by rw [e]; exact True.intro) hs ⟨q, hq⟩ ⟨hl, hd, _, (rel.put k eb rv).keeps fun c ys ec => ?_, q, es, ep, hq, h2, h3, h4, h5⟩
    rw [upd_ne (ne_of ec e (fun z => nomatch z))]
    exact ec
end

section
variable {X : Cx} {pins : List (Addr × Obj)} {σ : St} {H : Hp} {s : Shared} {a : Addr} {kvs : List (Key × V)} {k : Key} {u : Value} {A : Around} {E : Value → Shared → Prop}
end


/-! ### readings and rules -/
/-- the element of a subscription, not a slice -/
def NoSl (i : Expr) : Prop := ∀ ov iv, subscripted i false ov iv = operate [ov, iv] (getItem ov iv)
theorem subD_of {prog : Program} {w : World} {A : Around} {E : Value → Shared → Prop} {s : Shared} {env : Env} {value slice : Expr} {pos : Pos} {T id : String} {Q : Value → Shared → Prop}
    (hl : typeLookup (.type T) "__getitem__" = pure (some (.builtin id))) (hs : NoSl slice)
    (h : wpAny (model prog w) A (eval value env) (fun o s₁ => wpAny (model prog w) A (eval slice env) (fun i s₂ => s₂.TypeIs o T ∧ wpAny (model prog w) A (getItem o i) Q E s₂) E s₁) E s) :
    wpAny (model prog w) A (eval (.Subscript value slice pos) env) Q E s := by
  refine Subscript_ (wpAny_mono h (fun o s₁ h₁ => wpAny_mono h₁ (fun i s₂ h₂ => ?_) fun _ _ x => x) fun _ _ x => x)
  obtain ⟨hT, h₂⟩ := h₂
  unfold subscriptTail
  refine wpAny_bind ?_
  rw [getitemInPython_of_ne hT.not_modules]
  refine wpAny_bind (wpAny_specialOf hT hl ?_)
  have fin : wpAny (model prog w) A (subscripted slice false o i) (fun r s₃ => wpAny (model prog w) A (letTemporaryGo value o r >>= fun _ => pure r) Q E s₃) E s₂ := by
    rw [hs o i]
    exact wpAny_operating (wpAny_mono h₂ (fun r s₃ h₃ => wpAny_bind (wpAny_letTemporaryGo (wpAny_pure h₃))) fun _ _ x => x)
  first
    | exact wpAny_pure (wpAny_bind fin)
    | exact wpAny_bind (wpAny_pure (wpAny_bind fin))
    | exact wpAny_bind fin

theorem dict_typeIs {X : Cx} {pins : List (Addr × Obj)} {σ : St} {H : Hp} {s : Shared} {a : Addr} {y : V} {o : Option V} (I : Inv X pins σ H s) (g : DGet H a y o) : s.TypeIs (.ref a) "dict" := by
  rcases g with ⟨kvs, k, e, _, _⟩ | ⟨kvs, k, b, e, _, _, _⟩
  · obtain ⟨_, _, vs, _, dd⟩ := dk_rd I.hok e
    exact dd.typeIs
  · obtain ⟨_, _, xs, _, dd⟩ := dt_rd I.hok e
    exact dd.typeIs
/-- d[y] -/
def tDGet (td ty : TE) : TE := fun σ H Q => td σ H fun x H1 => ty σ H1 fun y H2 => ∃ a v, x = .ref a ∧ DGet H2 a y (some v) ∧ Q v H2
/-- d[y] = v -/
def sDPut (td ty tv : TE) : TS := fun D σ H => tv σ H fun v H1 => td σ H1 fun x H2 => ty σ H2 fun y H3 => ∃ a H4, x = .ref a ∧ DPut H3 a y v H4 ∧ D.nx σ H4
section
variable {X : Cx} {o i e value : Expr} {pos pos' tpos : Pos} {td ty tv : TE}
theorem pe_dget (hu : X.A.units + 1 < cLine) (ho : PE X o td) (hi : PE X i ty) (hs : NoSl i) : PE X (.Subscript o i pos) (tDGet td ty) := by
  intro pins s σ H Q I h
  refine subD_of PySem.F.slot_dict_getitem.lookup hs (thn (ho s σ H _ I h) fun u s1 ⟨x, H1, I1, rx, q1⟩ => thn (hi s1 σ H1 _ I1 q1) fun iv s2 ⟨y, H2, I2, ry, a, v, ex, g, q2⟩ => ?_)
  subst ex
  obtain rfl : u = Value.ref a := rx
  exact ⟨dict_typeIs I2 g, d_getItem hu I2 g ry fun w' s3 I3 rw' => ⟨v, H2, I3, rw', q2⟩⟩
theorem ps_dput (hu : X.A.units + 1 < cLine) (ho : PE X o td) (hi : PE X i ty) (hv : PE X value tv) (hs : swapsWith value (some (.Subscript o i pos')) pos.line X.env = pure false) :
    PS X (.Assign [.Subscript o i pos'] value pos) (sDPut td ty tv) := by
  intro pins s σ H D I h
  refine wpAny_Assign_Subscript (thn (hv s σ H _ I h) fun r s1 ⟨v, H1, I1, rv, q1⟩ => thn (ho s1 σ H1 _ I1 q1) fun u s2 ⟨x, H2, I2, rx, q2⟩ => thn (hi s2 σ H2 _ I2 q2) fun iv s3 ⟨y, H3, I3, ry, a, H4, ex, g, q3⟩ => ?_) hs
  subst ex
  obtain rfl : u = Value.ref a := rx
  exact d_setItem hu I3 g ry rv fun s4 I4 => ⟨σ, H4, I4, q3⟩
end


/-! ### displays -/
theorem dk_empty {P : Program} {w : World} {H : Hp} (h : Heap) (hb : sysModules < h.objs.size) : ObjOk P w H (h.push { cls := .type "dict", data := .dict #[] }) h.objs.size (.dK []) :=
  ⟨Nat.zero_le _, beq_eq_false_iff_ne.mpr (Ne.symm (Nat.ne_of_lt hb)), [], .nil, Heap.DictOf.new h⟩
section
variable {X : Cx} {pos : Pos}
end

/-- the pairs of a display, from the left -/
def tPairs : List (TE × TE) → St → Hp → (List (V × V) → Hp → Prop) → Prop
  | [], _, H, Q => Q [] H
  | (tk, tv) :: r, σ, H, Q => tk σ H fun x H1 => tv σ H1 fun y H2 => tPairs r σ H2 fun ps H3 => Q ((x, y) :: ps) H3
abbrev VV : List (V × V) → List (Value × Value) → Prop := Paired fun p q => RelV p.1 q.1 ∧ RelV p.2 q.2
def PPs (X : Cx) (pos : Pos) (keys : List (Option Expr)) (values : List Expr) (trs : List (TE × TE)) : Prop :=
  ∀ ⦃pins : List (Addr × Obj)⦄ (s : Shared) (σ : St) (H : Hp) (Q : List (V × V) → Hp → Prop), Inv X pins σ H s → tPairs trs σ H Q →
    wpAny (model X.prog X.w) X.A (evalPairs (pairTrees keys values X.env pos)) (fun vs s' => ∃ ps H', Inv X pins σ H' s' ∧ VV ps vs ∧ Q ps H') X.xe s
theorem pps_nil {X : Cx} {pos : Pos} : PPs X pos [] [] [] := fun pins s σ H Q I h => pairTrees_nil_walk ⟨[], H, I, .nil, h⟩
theorem pps_cons {X : Cx} {pos : Pos} {k v : Expr} {ks : List (Option Expr)} {vs : List Expr} {tk tv : TE} {trs : List (TE × TE)} (hk : PE X k tk) (hv : PE X v tv) (hr : PPs X pos ks vs trs) :
    PPs X pos (some k :: ks) (v :: vs) ((tk, tv) :: trs) := fun pins s σ H Q I h =>
  pairTrees_cons_walk (thn (hk s σ H _ I h) fun u s1 ⟨x, H1, I1, rx, q1⟩ => thn (hv s1 σ H1 _ I1 q1) fun w2 s2 ⟨y, H2, I2, ry, q2⟩ =>
    thn (hr s2 σ H2 _ I2 q2) fun ws s3 ⟨ps, H3, I3, rel, q3⟩ => ⟨(x, y) :: ps, H3, I3, .cons ⟨rx, ry⟩ rel, q3⟩)

def mergeK (kvs more : List (Key × V)) : List (Key × V) := more.foldl (fun acc kv => putK acc kv.1 kv.2) kvs
theorem KV.merge : ∀ {more : List (Key × V)} {rs : List (Key × Value)} {kvs : List (Key × V)} {vs : List (Key × Value)}, KV more rs → KV kvs vs → KV (mergeK kvs more) (merged vs rs) := by
  intro more rs kvs vs r
  unfold KV at r
  induction r generalizing kvs vs with
  | nil => intro q; exact q
  | @cons p q ps qs h t ih =>
    intro r0
    have e : KV (putK kvs p.1 p.2) (stored vs q.1 q.2) := by
      have := r0.put p.1 h.2
      rw [← h.1]; exact this
    exact ih e
theorem length_mergeK : ∀ (more kvs : List (Key × V)), (mergeK kvs more).length ≤ kvs.length + more.length
  | [], kvs => by show kvs.length ≤ kvs.length + 0; omega
  | p :: r, kvs => by
    have h1 := length_mergeK r (putK kvs p.1 p.2)
    have h2 := length_putK kvs p.1 p.2
    show (mergeK (putK kvs p.1 p.2) r).length ≤ _
    rw [List.length_cons]; omega
theorem carries_of {P : Program} {w : World} : ∀ {kvs : List (Key × V)} {ws : List (Value × Value)}, VV (kvs.map fun kv => (kV kv.1, kv.2)) ws → ∃ rs, Carries (mixKind P w) ws rs ∧ KV kvs rs
  | [], _, r => by rw [List.map_nil] at r; cases r; exact ⟨[], True.intro, .nil⟩
  | p :: kvs, _, r => by
    rw [List.map_cons] at r
    cases r with
    | @cons a b as bs h t =>
      obtain ⟨rs, c, q⟩ := carries_of (P := P) (w := w) t
      obtain ⟨b1, b2⟩ := b
      exact ⟨(p.1, b2) :: rs, ⟨kV_is h.1, rfl, c⟩, .cons ⟨rfl, h.2⟩ q⟩
/-- {k: v, ..} with keys ints and texts; the new dict stands empty while the pairs are made -/
def tDisp (trs : List (TE × TE)) : TE := fun σ H Q => ∀ p, H p = none → tPairs trs σ (upd H p (.dK [])) fun ps H2 => H2 p = some (.dK []) ∧ ∃ kvs : List (Key × V), ps = kvs.map (fun kv => (kV kv.1, kv.2)) ∧ kvs.length ≤ 15 ∧ Q (.ref p) (upd H2 p (.dK (mergeK [] kvs)))
theorem pe_disp {X : Cx} {pos : Pos} {keys : List (Option Expr)} {values : List Expr} {trs : List (TE × TE)} (h : PPs X pos keys values trs) (hall : keys.all (·.isSome) = true) (hl : keys.length = values.length) (h0 : keys ≠ [])
    (h15 : keys.length ≤ 15) : PE X (.Dict keys values pos) (tDisp trs) := by
  intro pins s σ H Q I q
  have hn := I.hok.fresh (Nat.le_refl s.heap.objs.size)
  have I1 := I.laid (a := s.heap.objs.size) (o := .dK []) (h' := s.heap.push { cls := .type "dict", data := .dict #[] }) (t' := s.toks) (fun _ _ q => Heap.get?_push_of_some _ q) (Nat.le_refl _) (dk_empty s.heap I.big)
  refine wpAny_Dict_walk (knd := mixKind X.prog X.w) hall hl h0 h15 (thn (h _ σ _ _ I1 (q _ hn)) fun ws s2 ⟨ps, H2, I2, rel, e, kvs, ep, lk, q2⟩ => ?_)
  subst ep
  obtain ⟨rs, c, rk⟩ := carries_of (P := X.prog) (w := X.w) rel
  obtain ⟨z, hd, vs0, r0, dd⟩ := dk_of I2.hok e
  cases r0
  refine ⟨rs, c, dd, fun h' dd' hs => ⟨.ref s.heap.objs.size, _, ?_, rfl, q2⟩⟩
  have hz : (mergeK [] kvs).length ≤ sizeLine := by
    have h1 := length_mergeK kvs []
    rw [List.length_nil] at h1
    rw [sizeLine_eq]; omega
  have he : ∃ q, h'.get? s.heap.objs.size = some q := let ⟨q, _, _, hq, _⟩ := dd'; ⟨q, hq⟩
  exact d_write I2 (by rw [e]; exact True.intro) hs he (dk_new hz hd (rk.merge .nil) dd')


/-! ### methods -/
section
variable {X : Cx} {pins : List (Addr × Obj)} {σ : St} {H : Hp} {s : Shared} {a : Addr} {y d : V} {u r : Value} {o : Option V} {A : Around} {E : Value → Shared → Prop}
end

section
variable {X : Cx} {o e f : Expr} {apos cpos : Pos} {td ty tx : TE}
end

/-! ### dict(d): a copy -/
section
variable {X : Cx} {pins : List (Addr × Obj)} {σ : St} {H : Hp} {s : Shared} {a : Addr} {kvs : List (Key × V)} {A : Around} {E : Value → Shared → Prop}
end


section
variable {X : Cx} {pins : List (Addr × Obj)} {σ : St} {H : Hp} {s : Shared} {a : Addr} {y : V} {u : Value} {A : Around} {E : Value → Shared → Prop}
end
end L2

namespace HT
open PySem PyProof.Rows

section
open PySem.SeqAt
open PySem.AutoSeq1 (wpAny_loadPart')
open PySem.MeetsSeq PySem.MeetsSeq2 PySem.MeetsSeq3

end

section
variable {prog : Program} {w : World} {A : Around} {E : Value → Shared → Prop} {s : Shared}

/-! ### t[a:b], not the whole -/
/-- a slice's bound as a place among n (d where it is left out) -/
def sIx (n d : Nat) : Option Int → Nat
  | none => d
  | some v => if v < 0 then (v + (n : Int)).toNat else min v.toNat n
theorem sIx_none (n d : Nat) : sIx n d none = d := rfl
theorem sIx_nat (n d k : Nat) : sIx n d (some (k : Int)) = min k n := by
  show (if (k : Int) < 0 then ((k : Int) + (n : Int)).toNat else min (k : Int).toNat n) = min k n
  rw [if_neg (by omega), Int.toNat_natCast]
end
end HT

namespace L2
open PySem PySem.Spec PyProof.Rows

/-! ### the parts of a slice -/
abbrev TO := St → Hp → (Option Int → Hp → Prop) → Prop
/-- a slice's part (left out, or an int) -/
def PO (X : Cx) (e : Option Expr) (t : TO) : Prop :=
  ∀ ⦃pins : List (Addr × Obj)⦄ (s : Shared) (σ : St) (H : Hp) (Q : Option Int → Hp → Prop), Inv X pins σ H s → t σ H Q →
    wpAny (model X.prog X.w) X.A (evalPart e X.env) (fun u s' => ∃ o H', Inv X pins σ H' s' ∧ IsPart u o ∧ Q o H') X.xe s
def tNoPart : TO := fun _ H Q => Q none H
def tPart (t : TE) : TO := fun σ H Q => t σ H fun x H1 => ∃ i, x = .int i ∧ Q (some i) H1

section
variable {X : Cx} {e : Expr} {te : TE} {lo hi : Option Expr} {tl th : TO} {pos p2 : Pos}

theorem po_none : PO X none tNoPart := by
  intro pins s σ H Q I h
  rw [evalPart_none]
  exact wpAny_pure ⟨none, H, I, .none, h⟩
theorem po_some (h : PE X e te) : PO X (some e) (tPart te) := by
  intro pins s σ H Q I hw
  rw [evalPart_some]
  refine thn (h s σ H _ I hw) fun u s1 ⟨x, H1, I1, r1, q1⟩ => ?_
  obtain ⟨i, rfl, q⟩ := q1
  obtain ⟨t, rfl⟩ := r1
  exact ⟨some i, H1, I1, .int i t, q⟩

/-- what a slice of a value is, by values: the slice object stands at sl -/
def SlR (X : Cx) (r : V → Option Int → Option Int → Hp → VK → Prop) : Prop :=
  ∀ ⦃pins : List (Addr × Obj)⦄ (s : Shared) (σ : St) (H : Hp) (x : V) (v vl vu : Value) (lo hi : Option Int) (sl : Addr) (Q : VK), Inv X pins σ H s → RelV x v → s.heap.IsSliceOf sl vl vu .none → IsPart vl lo → IsPart vu hi → r x lo hi H Q →
    ∃ T id, typeLookup (.type T) "__getitem__" = pure (some (.builtin id)) ∧ s.TypeIs v T ∧ wpAny (model X.prog X.w) X.A (getItem v (.ref sl)) (EP X pins σ Q) X.xe s
theorem SlR.or {r r' : V → Option Int → Option Int → Hp → VK → Prop} (h : SlR X r) (h' : SlR X r') : SlR X (fun x lo hi H Q => r x lo hi H Q ∨ r' x lo hi H Q) := by
  intro pins s σ H x v vl vu lo hi sl Q I rx hs pl pu q
  rcases q with q | q
  · exact h s σ H x v vl vu lo hi sl Q I rx hs pl pu q
  · exact h' s σ H x v vl vu lo hi sl Q I rx hs pl pu q
def tSl (r : V → Option Int → Option Int → Hp → VK → Prop) (te : TE) (tl th : TO) : TE := fun σ H Q => te σ H fun x H1 => tl σ H1 fun l H2 => th σ H2 fun u H3 => r x l u H3 Q
/-- a[lo:hi], any a -/
theorem pe_slice {r : V → Option Int → Option Int → Hp → VK → Prop} (hr : SlR X r) (he : PE X e te) (hl : PO X lo tl) (hu : PO X hi th) : PE X (.Subscript e (.Slice lo hi none p2) pos) (tSl r te tl th) := by
  intro pins s σ H Q I h
  refine Subscript_ (thn (he s σ H _ I h) fun v s1 ⟨x, H1, I1, r1, q1⟩ => ?_)
  refine wpAny_Slice (thn (hl s1 σ H1 _ I1 q1) fun vl s2 ⟨l, H2, I2, pl, q2⟩ => thn (hu s2 σ H2 _ I2 q2) fun vu s3 ⟨u, H3, I3, pu, q3⟩ => ?_)
  rw [evalPart_none]
  refine wpAny_pure ?_
  have I4 : Inv X pins σ H3 { s3 with heap := s3.heap.push { cls := .type "slice", data := .fields #[vl, vu, .none] } } := I3.kept (t' := s3.toks) fun b ob q => Heap.get?_push_of_some _ q
  obtain ⟨T, id, hT, ht, hg⟩ := hr { s3 with heap := s3.heap.push { cls := .type "slice", data := .fields #[vl, vu, .none] } } σ H3 x v vl vu l u s3.heap.objs.size Q I4 r1 (Heap.IsSliceOf.new ..) pl pu q3
  show wpAny (model X.prog X.w) X.A (subscriptTail e (.Slice lo hi none p2) v (.ref s3.heap.objs.size)) (EP X pins σ Q) X.xe { s3 with heap := s3.heap.push { cls := .type "slice", data := .fields #[vl, vu, .none] } }
  exact tail_any (ops := [.ref s3.heap.objs.size, v]) ht hT hg (by with_unfolding_all rfl)

/-- the items of xs[lo:hi] -/
def cutV (xs : List V) (lo hi : Option Int) : List V := (xs.drop (HT.sIx xs.length 0 lo)).take (HT.sIx xs.length xs.length hi - HT.sIx xs.length 0 lo)
theorem cutV_length (xs : List V) (lo hi : Option Int) : (cutV xs lo hi).length ≤ xs.length := by
  unfold cutV
  rw [List.length_take, List.length_drop]
  omega
/-! ### t < u, t + u -/
end
end L2

namespace L2
open PySem PySem.Spec PyProof.Rows

/-! ### places -/
/-- the place that an index of any sign means -/
def ixN (n : Nat) (i : Int) : Option Nat := if 0 ≤ i then (if i < n then some i.toNat else none) else if -(n : Int) ≤ i then some (i + n).toNat else none
def atI {α : Type} (xs : List α) (i : Int) : Option α := (ixN xs.length i).bind fun j => xs[j]?
theorem ixN_seq {n : Nat} {i : Int} {j : Nat} (h : ixN n i = some j) : seqIndex? i n = some j ∧ j < n ∧ -(n : Int) ≤ i ∧ i < n := by
  unfold ixN at h
  by_cases h0 : 0 ≤ i
  · rw [if_pos h0] at h
    by_cases h1 : i < n
    · rw [if_pos h1] at h
      have e : i.toNat = j := Option.some.inj h
      exact ⟨by rw [seqIndex_of h0 h1, e], by omega, by omega, h1⟩
    · rw [if_neg h1] at h; cases h
  · rw [if_neg h0] at h
    by_cases h1 : -(n : Int) ≤ i
    · rw [if_pos h1] at h
      have e : (i + n).toNat = j := Option.some.inj h
      exact ⟨by rw [seqIndex_neg (by omega) h1, e], by omega, h1, by omega⟩
    · rw [if_neg h1] at h; cases h
theorem atI_get {α : Type} {xs : List α} {i : Int} {v : α} (h : atI xs i = some v) : ∃ j, seqIndex? i xs.length = some j ∧ xs[j]? = some v ∧ j < xs.length ∧ -(xs.length : Int) ≤ i ∧ i < xs.length := by
  unfold atI at h
  cases e : ixN xs.length i with
  | none => rw [e] at h; cases h
  | some j =>
    rw [e] at h
    obtain ⟨h1, h2, h3, h4⟩ := ixN_seq e
    exact ⟨j, h1, h, h2, h3, h4⟩
theorem atI_nat {α : Type} {xs : List α} {j : Nat} {v : α} (h : xs[j]? = some v) : atI xs (j : Int) = some v := by
  have hj : j < xs.length := (List.getElem?_eq_some_iff.mp h).1
  have e : ixN xs.length (j : Int) = some j := by
    unfold ixN
    rw [if_pos (by omega), if_pos (by omega)]; simp
  unfold atI; rw [e]; exact h
/-! ### what may be subscripted -/
/-- what stands as an index of a plain subscript -/
def PlainIx (b : Expr) : Prop := ∀ o i, subscripted b false o i = operate [o, i] (getItem o i)
/-- a subscript by values -/
def IxR (X : Cx) (r : R2) : Prop :=
  ∀ ⦃value slice : Expr⦄ ⦃pins : List (Addr × Obj)⦄ (s : Shared) (σ : St) (H : Hp) (x y : V) (v u : Value) (Q : VK), Inv X pins σ H s → RelV x v → RelV y u → r x y H Q →
    subscripted slice false v u = operate [v, u] (getItem v u) → wpAny (model X.prog X.w) X.A (subscriptTail value slice v u) (EP X pins σ Q) X.xe s
/-- a call of a builtin's method by values: the receiver, the arguments -/
def MtR (X : Cx) (id : String) (r : V → List V → Hp → VK → Prop) : Prop :=
  ∀ ⦃pins : List (Addr × Obj)⦄ (s : Shared) (σ : St) (H : Hp) (x : V) (xs : List V) (v : Value) (us : List Value) (Q : VK), Inv X pins σ H s → RelV x v → Vals xs us → r x xs H Q →
    wpAny (model X.prog X.w) X.A (call (.builtin id) (v :: us)) (EP X pins σ Q) X.xe s
section
variable {X : Cx} {a b : Expr} {ta tb : TE} {pos : Pos}
theorem IxR.or {r r' : R2} (h : IxR X r) (h' : IxR X r') : IxR X (fun x y H Q => r x y H Q ∨ r' x y H Q) := by
  intro value slice pins s σ H x y v u Q I rx ry q hs
  rcases q with q | q
  · exact h s σ H x y v u Q I rx ry q hs
  · exact h' s σ H x y v u Q I rx ry q hs
/-- a[b] -/
theorem pe_ix {r : R2} (hr : IxR X r) (ha : PE X a ta) (hb : PE X b tb) (hs : PlainIx b) : PE X (.Subscript a b pos) (tOp r ta tb) := by
  intro pins s σ H Q I h
  exact Subscript_ (binT ha hb I h fun v u s2 x y H2 I2 rx ry q => hr s2 σ H2 x y v u Q I2 rx ry q (hs _ _))

def rIxL (K : PySem.W.Frag) : R2 := fun x y H Q => ∃ p xs i v, x = .ref p ∧ y = .int i ∧ SqL K H p xs ∧ atI xs i = some v ∧ Q v H
def rIxT (K : PySem.W.Frag) : R2 := fun x y H Q => ∃ p xs i v, x = .ref p ∧ y = .int i ∧ SqT K H p xs ∧ atI xs i = some v ∧ Q v H
def rIxS : R2 := fun x y H Q => ∃ z i c, x = .str z ∧ y = .int i ∧ z.length ≤ sizeLine ∧ atI z.cps.toList i = some c ∧ Q (.str ⟨#[c]⟩) H
theorem ix_list : IxR X (rIxL X.K) := by
  intro value slice pins s σ H x y v u Q I rx ry h hs
  obtain ⟨p, xs, i, z, rfl, rfl, hq, he, q⟩ := h
  cases rx
  obtain ⟨t, rfl⟩ := ry
  obtain ⟨its, r, pl, hz⟩ := I.list hq
  obtain ⟨j, h1, h2, h3, h4, h5⟩ := atI_get he
  obtain ⟨w, ew, rw'⟩ := r.get h2
  have hl := r.length
  have hn := line63
  have fin : EP X pins σ Q w s := ⟨z, H, I, rw', q⟩
  by_cases h0 : 0 ≤ i
  · have hj : i.toNat = j := by
      rw [seqIndex_of h0 h5] at h1
      exact Option.some.inj h1
    exact item_listR pl.isList h0 (by omega) (by rw [hj]; simpa using ew) fin hs
  · have hj : (i + (its.toArray.size : Int)).toNat = j := by
      rw [seqIndex_neg (by omega) h4] at h1
      rw [List.size_toArray, ← hl]
      exact Option.some.inj h1
    exact subscriptTail_builtinR (x := w) pl.isList.typeIs slot_list_getitem.lookup
      (wpAny_getItem_list_neg (Q := fun r s' => r = w ∧ EP X pins σ Q r s') pl.isList (by omega) (by rw [List.size_toArray] <;> omega) (by omega) (by rw [hj]; simpa using ew) ⟨rfl, fin⟩) hs
theorem ix_tup : IxR X (rIxT X.K) := by
  intro value slice pins s σ H x y v u Q I rx ry h hs
  obtain ⟨p, xs, i, z, rfl, rfl, hq, he, q⟩ := h
  cases rx
  obtain ⟨t, rfl⟩ := ry
  obtain ⟨its, r, pl, hz⟩ := I.tuple hq
  obtain ⟨j, h1, h2, h3, h4, h5⟩ := atI_get he
  obtain ⟨w, ew, rw'⟩ := r.get h2
  have hl := r.length
  have hn := line63
  have fin : EP X pins σ Q w s := ⟨z, H, I, rw', q⟩
  exact subscriptTail_builtinR (x := w) pl.typeIs slot_tuple_getitem.lookup
    (getItem_tuple (j := j) (Q := fun r s' => r = w ∧ EP X pins σ Q r s') pl (by omega) (by omega) (by rw [List.size_toArray, ← hl]; exact h1) (by simpa using ew) ⟨rfl, fin⟩) hs
theorem ix_str : IxR X rIxS := by
  intro value slice pins s σ H x y v u Q I rx ry h hs
  obtain ⟨z, i, c, rfl, rfl, hz, he, q⟩ := h
  obtain ⟨t, rfl⟩ := rx
  obtain ⟨t', rfl⟩ := ry
  obtain ⟨j, h1, h2, h3, h4, h5⟩ := atI_get he
  have hl : z.cps.toList.length = z.length := by simp [Str.length]
  rw [hl] at h1 h4 h5
  have hn := line63
  exact tail_any (typeIs_str s z t) slot_str_getitem.lookup (getItem_str (c := c) (by
    have e1 : decide (i < -(2 ^ 63 : Int)) = false := decide_eq_false (by omega)
    have e2 : decide (i ≥ 2 ^ 63) = false := decide_eq_false (by omega)
    rw [e1, e2, Bool.or_false]) (by rw [h1]; simpa using h2) ⟨.str ⟨#[c]⟩, H, I.tok _, ⟨_, rfl⟩, q⟩) hs
/-- list, tuple or str -/
def rIx (K : PySem.W.Frag) : R2 := fun x y H Q => rIxL K x y H Q ∨ rIxT K x y H Q ∨ rIxS x y H Q
theorem ix_seq : IxR X (rIx X.K) := ix_list.or (ix_tup.or ix_str)

/-! ### xs[i] = v, any sign -/
/-- the list's object behind a store -/
theorem mapSeq_set (its : List Value) (n j : Nat) (u : Value) : Obj.mapSeq (·.setIfInBounds j u) { cls := .type "list", data := .seq its.toArray n } = { cls := .type "list", data := .seq (its.set j u).toArray n } := by
  simp [Obj.mapSeq]
theorem Inv.lst {pins : List (Addr × Obj)} {σ : St} {H : Hp} {s : Shared} {p : Addr} {xs : List V} (I : Inv X pins σ H s) (h : H p = some (.lst xs)) :
    ∃ (its : List Value) (n : Nat), Vals xs its ∧ s.heap.get? p = some { cls := .type "list", data := .seq its.toArray n } ∧ xs.length ≤ sizeLine := by
  obtain ⟨z, its, n, r, e⟩ := I.hok p _ h
  exact ⟨its, n, r, e, z⟩
/-- the list at p is written by an update of its object -/
theorem Inv.lstUpd {pins : List (Addr × Obj)} {σ : St} {H : Hp} {s : Shared} {p : Addr} {xs ys : List V} {its its' : List Value} {n n' : Nat} {f : Obj → Obj} (I : Inv X pins σ H s) (h : H p = some (.lst xs))
    (ho : s.heap.get? p = some { cls := .type "list", data := .seq its.toArray n }) (hf : f { cls := .type "list", data := .seq its.toArray n } = { cls := .type "list", data := .seq its'.toArray n' }) (r : Vals ys its') (hz : ys.length ≤ sizeLine) (t : Nat) :
    Inv X pins σ (upd H p (.lst ys)) { s with heap := s.heap.update p f, toks := t } := by
  have e : (s.heap.update p f).get? p = some { cls := .type "list", data := .seq its'.toArray n' } := by
    rw [Heap.get?_update_self f ho (by rw [hf] <;> rfl), hf]
  refine I.write (x := p) (e := p) (by rw [h]; trivial) (.inl rfl) (fun b u hb q => (Heap.get?_update_other _ _ (Ne.symm hb)).trans q) ⟨_, e⟩ ?_
  exact ⟨hz, its', n', r, e⟩
def rSetL : V → V → V → Hp → (Hp → Prop) → Prop := fun o i v H Q => ∃ p xs k j, o = .ref p ∧ i = .int k ∧ H p = some (.lst xs) ∧ ixN xs.length k = some j ∧ Q (upd H p (.lst (xs.set j v)))
theorem set_list : PSet X rSetL := by
  intro pins s σ H o i v ov iv u Q I ro ri rv h
  obtain ⟨p, xs, k, j, rfl, rfl, hp, hj, q⟩ := h
  cases ro
  obtain ⟨t, rfl⟩ := ri
  obtain ⟨its, n, r, ho, hz⟩ := I.lst hp
  obtain ⟨h1, h2, h3, h4⟩ := ixN_seq hj
  have hl := r.length
  have hn := line63
  have I' : Inv X pins σ (upd H p (.lst (xs.set j v))) { s with heap := s.heap.update p (Obj.mapSeq (·.setIfInBounds j u)) } :=
    I.lstUpd hp ho (mapSeq_set its n j u) (r.set rv j) (by rw [List.length_set]; exact hz) s.toks
  by_cases h0 : 0 ≤ k
  · have hk : k.toNat = j := by
      rw [seqIndex_of h0 h4] at h1
      exact Option.some.inj h1
    exact PySem.W.ki_setAt ho h0 (by omega) (by rw [List.size_toArray, ← hl]; exact h4) (by rw [hk]; exact ⟨_, I', q⟩)
  · have hk : (k + (its.toArray.size : Int)).toNat = j := by
      rw [seqIndex_neg (by omega) h3] at h1
      rw [List.size_toArray, ← hl]
      exact Option.some.inj h1
    exact PySem.W.ki_setBack ho (by omega) (by rw [List.size_toArray, ← hl]; exact h3) (by omega) (by rw [hk]; exact ⟨_, I', q⟩)

/-! ### slices -/
theorem slice_bounds (lo hi : Option Int) (n : Nat) : (sliceBounds lo hi none n).1 = ((HT.sIx n 0 lo : Nat) : Int) ∧ (sliceBounds lo hi none n).2.1 = ((HT.sIx n n hi : Nat) : Int) ∧ (sliceBounds lo hi none n).2.2 = 1 := by
  refine ⟨?_, ?_, rfl⟩
  · cases lo with
    | none => simp [sliceBounds, HT.sIx]
    | some i =>
      simp only [sliceBounds, HT.sIx, Option.getD_none, show (1 : Int) > 0 by decide, if_true]
      by_cases h : i < 0
      · simp only [h, if_true] <;> omega
      · simp only [h, if_false] <;> omega
  · cases hi with
    | none => simp [sliceBounds, HT.sIx]
    | some i =>
      simp only [sliceBounds, HT.sIx, Option.getD_none, show (1 : Int) > 0 by decide, if_true]
      by_cases h : i < 0
      · simp only [h, if_true] <;> omega
      · simp only [h, if_false] <;> omega
theorem slicePick_cut (its : List Value) (lo hi : Option Int) : slicePick its.toArray lo hi none = ((its.drop (HT.sIx its.length 0 lo)).take (HT.sIx its.length its.length hi - HT.sIx its.length 0 lo)).toArray := by
  obtain ⟨h1, h2, h3⟩ := slice_bounds lo hi its.toArray.size
  unfold slicePick
  rw [h1, h2, h3]
  simp only [sliceRange_one, pick_run, List.size_toArray] <;> rfl
/-- xs[lo:hi] of a list: a new list -/
def rSlL (K : PySem.W.Frag) : V → Option Int → Option Int → Hp → VK → Prop := fun x lo hi H Q => ∃ a xs, x = .ref a ∧ SqL K H a xs ∧ ∀ p, H p = none → Q (.ref p) (upd H p (.lst (cutV xs lo hi)))
theorem sl_list : SlR X (rSlL X.K) := by
  intro pins s σ H x v vl vu lo hi sl Q I rx hs pl pu h
  obtain ⟨a, xs, rfl, hx, q⟩ := h
  cases rx
  obtain ⟨its, r, ht, hz⟩ := I.list hx
  have hlen := r.length
  refine ⟨"list", _, slot_list_getitem.lookup, ht.isList.typeIs, ?_⟩
  refine wpAny_getItem_list_slice ht.isList hs pl pu .none (by simp) ?_ (by rw [List.size_toArray] <;> omega)
  rw [slicePick_cut, ← hlen]
  refine ⟨.ref s.heap.objs.size, _, I.laid (t' := s.toks) (o := .lst (cutV xs lo hi)) (fun b ob q => Heap.get?_push_of_some _ q) (Nat.le_refl _) ?_, rfl, q _ (I.hok.fresh (Nat.le_refl _))⟩
  exact ⟨Nat.le_trans (cutV_length xs lo hi) hz, _, 0, (r.drop (HT.sIx xs.length 0 lo)).take (HT.sIx xs.length xs.length hi - HT.sIx xs.length 0 lo), Heap.get?_push_size _ rfl⟩

/-! ### in, not in: flat items -/
/-! ### len, list(x), tuple(x) of any list or tuple that is read -/
theorem CallR.or {f : Value} {r r' : List V → Hp → VK → Prop} (h : CallR X f r) (h' : CallR X f r') : CallR X f (fun xs H Q => r xs H Q ∨ r' xs H Q) := by
  intro pins s σ H xs us Q I rs q
  rcases q with q | q
  · exact h s σ H xs us Q I rs q
  · exact h' s σ H xs us Q I rs q
theorem call_list_of : CallR X (.type "list") (fun xs H Q => ∃ p ys, xs = [.ref p] ∧ (SqL X.K H p ys ∨ SqT X.K H p ys) ∧ ∀ l, H l = none → Q (.ref l) (upd H l (.lst ys))) := by
  intro pins s σ H xs us Q I r h
  obtain ⟨p, ys, rfl, hq, q⟩ := h
  obtain ⟨u, rfl, rx⟩ := vals1 r
  cases rx
  have fin : ∀ (its : List Value), Vals ys its → ys.length ≤ sizeLine → ∀ (h' : Heap) (c' : Nat), (∀ b o', s.heap.get? b = some o' → h'.get? b = some o') →
      h'.get? s.heap.objs.size = some { cls := .type "list", dict := none, data := .seq its.toArray c', slots := #[] } → EP X pins σ Q (.ref s.heap.objs.size) { s with heap := h' } := fun its r' hz h' c' kp e =>
    ⟨.ref s.heap.objs.size, _, I.laid (t' := s.toks) kp (Nat.le_refl _) (show ObjOk X.prog X.w _ h' _ (.lst ys) from ⟨hz, its, c', r', e⟩), rfl, q _ (I.hok.fresh (Nat.le_refl _))⟩
  rcases hq with hq | hq
  · obtain ⟨its, r', pl, hz⟩ := I.list hq
    have hlen := r'.length
    obtain ⟨o, ho, hc, n, hd⟩ := pl.isList
    exact call_list_seq p (.inl rfl) ho hc hd (fun h' c' kp e => fin its r' hz h' c' kp e) (by simp only [List.size_toArray] <;> omega)
  · obtain ⟨its, r', pl, hz⟩ := I.tuple hq
    have hlen := r'.length
    obtain ⟨o, ho, hc, n, hd⟩ := pl
    exact call_list_seq p (.inr rfl) ho hc hd (fun h' c' kp e => fin its r' hz h' c' kp e) (by simp only [List.size_toArray] <;> omega)
/-! ### the call of a builtin's method: o.m(..) -/
/-- the value is of that builtin type -/
def tyV (K : PySem.W.Frag) (T : String) (x : V) (H : Hp) : Prop := match x with
  | .str _ => T = "str"
  | .int _ => T = "int"
  | .ref p => (T = "list" ∧ ∃ xs, SqL K H p xs) ∨ (T = "tuple" ∧ ∃ o, K.lookup p = some o ∧ o.cls = .type "tuple" ∧ o.dict = none) ∨
      (T = "dict" ∧ ((∃ kvs, H p = some (.dK kvs)) ∨ ∃ kvs, H p = some (.dT kvs))) ∨ (T = "set" ∧ ∃ S n, H p = some (.set S n))
  | _ => False
theorem tyV_is {pins : List (Addr × Obj)} {σ : St} {H : Hp} {s : Shared} {T : String} {x : V} {v : Value} (I : Inv X pins σ H s) (r : RelV x v) (ty : tyV X.K T x H) :
    s.TypeIs v T ∧ ∀ a, v = .ref a → ∃ ob, s.heap.get? a = some ob ∧ ob.dict = none := by
  cases x with
  | str z =>
    obtain ⟨t, rfl⟩ := r
    cases (show T = "str" from ty)
    exact ⟨typeIs_str s z t, fun _ e => nomatch e⟩
  | int i =>
    obtain ⟨t, rfl⟩ := r
    cases (show T = "int" from ty)
    exact ⟨typeIs_int s i t, fun _ e => nomatch e⟩
  | ref p =>
    cases r
    rcases ty with ⟨rfl, xs, hq⟩ | ⟨rfl, o, hk, hc, hd⟩ | ⟨rfl, hk⟩ | ⟨rfl, S, n, hk⟩
    · obtain ⟨its, _, pl, _⟩ := I.list hq
      refine ⟨pl.isList.typeIs, fun a e => ?_⟩
      cases e
      obtain ⟨o, n, e, c, hd, _⟩ := pl
      exact ⟨o, e, hd⟩
    · refine ⟨⟨o, I.kIn p o hk, hc⟩, fun a e => ?_⟩
      cases e
      exact ⟨o, I.kIn _ o hk, hd⟩
    · have z : ∃ o, s.heap.get? p = some o ∧ o.ExactDict := by
        rcases hk with ⟨kvs, hk⟩ | ⟨kvs, hk⟩
        · obtain ⟨_, _, _, _, o, _, _, e, ex, _⟩ := I.hok p _ hk
          exact ⟨o, e, ex⟩
        · obtain ⟨_, _, _, _, o, _, _, e, ex, _⟩ := I.hok p _ hk
          exact ⟨o, e, ex⟩
      obtain ⟨o, e, ex⟩ := z
      refine ⟨⟨o, e, ex.1⟩, fun a e2 => ?_⟩
      cases e2
      exact ⟨o, e, ex.2.1⟩
    · obtain ⟨o, _, _, _, e, ex, _⟩ := I.hok p _ hk
      refine ⟨⟨o, e, ex.1⟩, fun a e2 => ?_⟩
      cases e2
      exact ⟨o, e, ex.2.1⟩
  | _ => exact False.elim ty
def tBM0 (K : PySem.W.Frag) (T : String) (r : V → List V → Hp → VK → Prop) (to : TE) : TE := fun σ H Q => to σ H fun x H1 => tyV K T x H1 ∧ r x [] H1 Q
def tBM (K : PySem.W.Frag) (T : String) (r : V → List V → Hp → VK → Prop) (to : TE) (t : TA) : TE := fun σ H Q => to σ H fun x H1 => tyV K T x H1 ∧ t σ H1 fun xs H2 => r x xs H2 Q
variable {o e : Expr} {es : List Expr} {to : TE} {t : TA} {name : Str} {apos cpos : Pos} {T id : String} {r : V → List V → Hp → VK → Prop}
theorem pe_bm0 (pa : PlainAttrs T) (slot : Slot T name id) (hty : typeOf (.builtin id) = pure (.type "method_descriptor")) (hm : MtR X id r) (ho : PE X o to)
    (hbase : attributeBase o name X.env (eval o X.env) = eval o X.env := by rfl) (hline : (apos.endLine == cpos.line) = true := by rfl) : PE X (.Call (.Attribute o name apos) [] [] cpos) (tBM0 X.K T r to) := by
  intro pins s σ H Q I h
  refine wpAny_Call_method0_late hbase hline (thn (ho s σ H _ I h) fun v s1 ⟨x, H1, I1, r1, ty, q1⟩ => ?_)
  obtain ⟨h1, h2⟩ := tyV_is I1 r1 ty
  exact ⟨T, id, pa, slot, hty, h1, h2, Calls.callWith_builtin rfl (PySem.evalArgs_none (hm s1 σ H1 x [] v [] Q I1 r1 .nil q1))⟩
theorem pe_bm (pa : PlainAttrs T) (slot : Slot T name id) (hty : typeOf (.builtin id) = pure (.type "method_descriptor")) (hm : MtR X id r) (ho : PE X o to) (ha : PA X (e :: es) t)
    (hbase : attributeBase o name X.env (eval o X.env) = eval o X.env := by rfl)
    (hfew : ((backTo cpos (starEach (e :: es) X.env)).all (fun x => !x.1) && (backToKw cpos (keywordEach [] X.env)).all (fun x => x.1.isSome)
      && decide ((e :: es).length + ([] : List Keyword).length + (if ([] : List Keyword).isEmpty then 0 else 1) < 30)) = true := by rfl)
    (hline : (apos.endLine == cpos.line) = true := by rfl) (hs : starEach (e :: es) X.env = (false, eval e X.env) :: starEach es X.env := by rfl) (hplain : (backTo cpos (starEach es X.env)).any (·.1) = false := by rfl) :
    PE X (.Call (.Attribute o name apos) (e :: es) [] cpos) (tBM X.K T r to t) := by
  intro pins s σ H Q I h
  refine wpAny_Call_method_late hbase hfew hline rfl (thn (ho s σ H _ I h) fun v s1 ⟨x, H1, I1, r1, ty, q1⟩ => ?_)
  obtain ⟨h1, h2⟩ := tyV_is I1 r1 ty
  refine ⟨T, id, pa, slot, hty, h1, h2, ?_⟩
  have hA := ha (pos := cpos) s1 σ H1 _ I1 q1
  rw [hs] at hA ⊢
  refine Calls.callWith_builtin (by show (false || (backTo cpos (starEach es X.env)).any (·.1)) = false; rw [hplain] <;> rfl) (Calls.evalArgs_plain ?_)
  exact thn hA fun us s2 ⟨vs, H2, I2, r2, q2⟩ => hm s2 σ H2 x vs v us Q I2 r1 r2 q2
/- xs.append(e), list.index on a module's tuple .. are MtR facts of 06m -/
end
end L2

namespace L2
open PySem PySem.Spec PyProof.Rows

def MtM (X : Cx) (id : String) (r : V → List V → Hp → VK → Prop) : Prop :=
  ∀ ⦃pins : List (Addr × Obj)⦄ (s : Shared) (σ : St) (H : Hp) (x : V) (xs : List V) (v : Value) (us : List Value) (Q : VK), Inv X pins σ H s → RelV x v → Vals xs us → r x xs H Q →
    wpAny (model X.prog X.w) X.A (call (.builtin id) (v :: us)) (EP X pins σ Q) X.xe s

/-! ### lists of values -/
theorem Vals.one : ∀ {x : V} {us : List Value}, Vals [x] us → ∃ u, us = [u] ∧ RelV x u
  | _, _, .cons r .nil => ⟨_, rfl, r⟩
theorem Vals.zero : ∀ {us : List Value}, Vals [] us → us = []
  | _, .nil => rfl
theorem Vals.dropLast {xs : List V} {us : List Value} (h : Vals xs us) : Vals xs.dropLast us.dropLast := by
  induction h with
  | nil => exact .nil
  | cons r t ih =>
    cases t with
    | nil => exact .nil
    | cons q t' => exact .cons r ih
theorem Vals.eraseIdx : ∀ {xs : List V} {us : List Value} (i : Nat), Vals xs us → Vals (xs.eraseIdx i) (us.eraseIdx i)
  | _, _, _, .nil => .nil
  | _, _, 0, .cons _ t => t
  | _, _, i + 1, .cons r t => .cons r (Vals.eraseIdx i t)
theorem Vals.rep {xs : List V} {us : List Value} (h : Vals xs us) : ∀ k : Nat, Vals (List.replicate k xs).flatten (List.replicate k us).flatten
  | 0 => .nil
  | k + 1 => by
    rw [List.replicate_succ, List.replicate_succ, List.flatten_cons, List.flatten_cons]
    exact Vals.append h (Vals.rep h k)
theorem erase_last {α : Type} (l : List α) : l.eraseIdx (l.length - 1) = l.dropLast := by
  induction l with
  | nil => rfl
  | cons a r ih =>
    cases r with
    | nil => rfl
    | cons b r =>
      have e : (a :: b :: r).length - 1 = ((b :: r).length - 1) + 1 := by
        have h1 : (a :: b :: r).length = r.length + 2 := rfl
        have h2 : (b :: r).length = r.length + 1 := rfl
        omega
      rw [e, List.eraseIdx_cons_succ, ih]
      all_goals rfl
theorem len_erase {α : Type} : ∀ (l : List α) (i : Nat), (l.eraseIdx i).length ≤ l.length
  | [], _ => Nat.le_refl _
  | _ :: _, 0 => Nat.le_succ _
  | _ :: r, i + 1 => Nat.succ_le_succ (len_erase r i)
theorem foldl_rep (its : List Value) : ∀ (k : Nat) (acc : List Value),
    List.foldl (fun x1 x2 => x1 ++ x2) acc.toArray (List.replicate k its.toArray) = (acc ++ (List.replicate k its).flatten).toArray
  | 0, acc => by simp
  | k + 1, acc => by
    have e : acc.toArray ++ its.toArray = (acc ++ its).toArray := by simp
    have e2 : (acc ++ its) ++ (List.replicate k its).flatten = acc ++ (List.replicate (k + 1) its).flatten := by
      rw [List.replicate_succ, List.flatten_cons, List.append_assoc]
    rw [← e2, ← foldl_rep its k (acc ++ its), ← e, List.replicate_succ, List.foldl_cons]

section
variable {X : Cx} {pins : List (Addr × Obj)} {σ : St} {H : Hp} {s : Shared} {l b : Addr} {xs ys zs : List V}

/-! ### the two steps: a tracked list is rewritten, a new list is laid -/
theorem Inv.lset {its its' : List Value} {n : Nat} {f : Array Value → Array Value} {t' : Nat} (I : Inv X pins σ H s) (hH : H l = some (.lst xs))
    (e : s.heap.get? l = some { cls := .type "list", data := .seq its.toArray n }) (hf : f its.toArray = its'.toArray) (hv : Vals ys its') (hz : ys.length ≤ sizeLine) :
    Inv X pins σ (upd H l (.lst ys)) { s with heap := s.heap.update l (Obj.mapSeq f), toks := t' } := by
  have q := PySem.IsL.update e f
  rw [hf] at q
  refine I.write (x := l) (e := l) (by rw [hH]; exact trivial) (.inl rfl) (fun b' u hb hu => (Heap.get?_update_other s.heap (Obj.mapSeq f) (Ne.symm hb)).trans hu) ⟨_, q⟩ ?_
  exact ⟨hz, its', _, hv, q⟩
theorem Inv.lnew {its : List Value} {t' : Nat} (I : Inv X pins σ H s) (hv : Vals ys its) (hz : ys.length ≤ sizeLine) :
    Inv X pins σ (upd H s.heap.objs.size (.lst ys)) { s with heap := s.heap.push { cls := .type "list", data := .seq its.toArray }, toks := t' } :=
  I.laid (fun _ _ q => Heap.get?_push_of_some _ q) (Nat.le_refl _) ⟨hz, its, 0, hv, Heap.get?_push_size _ rfl⟩
theorem Inv.fresh (I : Inv X pins σ H s) : H s.heap.objs.size = none := I.hok.fresh (Nat.le_refl _)
theorem Inv.lstM (I : Inv X pins σ H s) (hH : H l = some (.lst xs)) : xs.length ≤ sizeLine ∧ ∃ (its : List Value) (n : Nat), Vals xs its ∧ xs.length = its.length ∧ s.heap.get? l = some { cls := .type "list", data := .seq its.toArray n } := by
  obtain ⟨z, its, n, r, e⟩ := I.hok l _ hH
  exact ⟨z, its, n, r, r.length, e⟩

theorem notLongL {n : Nat} (h : n ≤ sizeLine) : Builtin.List.listTooLong n = false := by
  unfold Builtin.List.listTooLong
  exact decide_eq_false (by omega)
end

section
variable {X : Cx}

/-! ### methods -/
def rAppend : V → List V → Hp → VK → Prop := fun x vs H Q => ∃ l xs y, x = .ref l ∧ vs = [y] ∧ H l = some (.lst xs) ∧ xs.length < sizeLine ∧ Q .non (upd H l (.lst (xs ++ [y])))
theorem mt_append : MtM X "list.append" rAppend := by
  intro pins s σ H x vs v us Q I rx rv h
  obtain ⟨l, xs, y, rfl, rfl, hH, hz, q⟩ := h
  cases rx
  obtain ⟨u, rfl, ru⟩ := rv.one
  obtain ⟨z, its, n, r, hl, e⟩ := I.lstM hH
  refine call_meets F.slot_list_append ⟨_, e, rfl⟩ F.entry_list_append (F.args_list_append_2 _ _) (PySem.list_append l its.toArray n u (by rw [List.size_toArray]; omega)) ⟨e, ?_⟩
  refine ⟨.non, _, I.lset (its' := its ++ [u]) hH e (by simp) (r.append (.cons ru .nil)) ?_, rfl, q⟩
  rw [List.length_append, List.length_singleton]
  omega

def rPop : V → List V → Hp → VK → Prop := fun x vs H Q => ∃ l xs y, x = .ref l ∧ vs = [] ∧ H l = some (.lst xs) ∧ xs[xs.length - 1]? = some y ∧ Q y (upd H l (.lst xs.dropLast))
theorem mt_pop : MtM X "list.pop" rPop := by
  intro pins s σ H x vs v us Q I rx rv h
  obtain ⟨l, xs, y, rfl, rfl, hH, hy, q⟩ := h
  cases rx
  have hus := rv.zero
  subst hus
  obtain ⟨z, its, n, r, hl, e⟩ := I.lstM hH
  obtain ⟨u, hu, ru⟩ := r.get hy
  have hy' : its.toArray[its.toArray.size - 1]? = some u := by
    show its.toArray[its.length - 1]? = some u
    rw [← Array.getElem?_toList, ← hl]
    exact hu
  refine call_meets F.slot_list_pop ⟨_, e, rfl⟩ F.entry_list_pop (F.args_list_pop_1 _) (MeetsSeq.list_pop_last l its.toArray n u hy' (by rw [List.size_toArray]; omega)) ⟨e, ?_⟩
  refine ⟨y, _, I.lset (its' := its.dropLast) hH e ?_ r.dropLast ?_, ru, q⟩
  · show its.toArray.eraseIdxIfInBounds (its.toArray.size - 1) = its.dropLast.toArray
    rw [List.size_toArray, List.eraseIdxIfInBounds_toArray, erase_last]
  · rw [List.length_dropLast]
    omega

def rPopAt : V → List V → Hp → VK → Prop := fun x vs H Q => ∃ l xs i k y, x = .ref l ∧ vs = [.int i] ∧ H l = some (.lst xs) ∧ -(2 ^ 63) ≤ i ∧ i < 2 ^ 63 ∧ seqIndex? i xs.length = some k ∧ xs[k]? = some y ∧ Q y (upd H l (.lst (xs.eraseIdx k)))
theorem mt_popAt : MtM X "list.pop" rPopAt := by
  intro pins s σ H x vs v us Q I rx rv h
  obtain ⟨l, xs, i, k, y, rfl, rfl, hH, h1, h2, hk, hy, q⟩ := h
  cases rx
  obtain ⟨u, rfl, ru⟩ := rv.one
  obtain ⟨t, rfl⟩ := ru
  obtain ⟨z, its, n, r, hl, e⟩ := I.lstM hH
  obtain ⟨w, hw, rw'⟩ := r.get hy
  refine call_meets F.slot_list_pop ⟨_, e, rfl⟩ F.entry_list_pop (F.args_list_pop_2 _ _)
    (MeetsSeq.list_pop_at l its.toArray n i t k w (fitsIndex_both h1 h2) (by rw [List.size_toArray, ← hl]; exact hk) (by rw [← Array.getElem?_toList]; exact hw) (by rw [List.size_toArray]; omega)) ⟨e, ?_⟩
  refine ⟨y, _, I.lset (its' := its.eraseIdx k) hH e ?_ (r.eraseIdx k) ?_, rw', q⟩
  · show its.toArray.eraseIdxIfInBounds k = (its.eraseIdx k).toArray
    rw [List.eraseIdxIfInBounds_toArray]
  · have := len_erase xs k
    omega

/-! ### list + list, list += list, list * int -/
def rCat : R2 := fun x y H Q => ∃ l b xs zs, x = .ref l ∧ y = .ref b ∧ H l = some (.lst xs) ∧ H b = some (.lst zs) ∧ xs.length + zs.length ≤ sizeLine ∧ ∀ p, H p = none → Q (.ref p) (upd H p (.lst (xs ++ zs)))
theorem op_cat : OpR X (binaryOp .Add) rCat := by
  intro pins s σ H x y v u Q I rx ry h
  obtain ⟨l, b, xs, zs, rfl, rfl, hH, hB, hz, q⟩ := h
  cases rx
  cases ry
  obtain ⟨z, its, n, r, hl, e⟩ := I.lstM hH
  obtain ⟨z2, its2, n2, r2, hl2, e2⟩ := I.lstM hB
  refine PySem.P.add_list e e2 ?_ (by rw [List.size_toArray, List.size_toArray]; omega)
  have ea : its.toArray ++ its2.toArray = (its ++ its2).toArray := by simp
  rw [ea]
  exact ⟨.ref _, _, I.lnew (t' := s.toks) (r.append r2) (by rw [List.length_append]; omega), rfl, q _ I.fresh⟩
/-- a list times an int (a negative one is nothing) -/
def rRep : R2 := fun x y H Q => ∃ l k xs, x = .ref l ∧ y = .int k ∧ H l = some (.lst xs) ∧ -(2 ^ 63) ≤ k ∧ k < 2 ^ 63 ∧ xs.length * k.toNat ≤ sizeLine ∧
  ∀ p, H p = none → Q (.ref p) (upd H p (.lst (List.replicate k.toNat xs).flatten))
theorem len_rep {α : Type} (xs : List α) (k : Nat) : (List.replicate k xs).flatten.length = k * xs.length := by
  induction k with
  | zero => simp
  | succ k ih => rw [List.replicate_succ, List.flatten_cons, List.length_append, ih, Nat.succ_mul, Nat.add_comm]
theorem op_rep : OpR X (binaryOp .Mult) rRep := by
  intro pins s σ H x y v u Q I rx ry h
  obtain ⟨l, k, xs, rfl, rfl, hH, h1, h2, hz, q⟩ := h
  cases rx
  obtain ⟨t, rfl⟩ := ry
  obtain ⟨z, its, n, r, hl, e⟩ := I.lstM hH
  have hlen : its.toArray.size * k.toNat ≤ sizeLine := by rw [List.size_toArray, ← hl]; exact hz
  have hcap : ¬ its.toArray.size * k.toNat > (2 ^ 63 - 1) / 8 := by
    have : (sizeLine : Nat) ≤ (2 ^ 63 - 1) / 8 := by decide
    omega
  have hfit : ¬ (!Builtin.List.listFitsIndex k) = true := by
    rw [fitsIndex_both h1 h2]
    exact Bool.false_ne_true
  have hlong : ¬ Builtin.List.listTooLong (its.toArray.size * k.toNat) = true := by
    rw [notLongL hlen]
    exact Bool.false_ne_true
  have hnew : List.foldl (fun x1 x2 => x1 ++ x2) #[] (List.replicate (if its.toArray.isEmpty = true then 0 else k.toNat) its.toArray) = (List.replicate k.toNat its).flatten.toArray := by
    have f0 : ∀ m : Nat, List.foldl (fun x1 x2 => x1 ++ x2) #[] (List.replicate m its.toArray) = (List.replicate m its).flatten.toArray := fun m => by
      have := foldl_rep its m []
      rw [List.nil_append] at this
      exact this
    rw [f0]
    cases its with
    | nil => simp
    | cons a r' => rw [if_neg (by simp)]
  refine wpAny_binaryOp_repeat_ref (T := "list") (U := "int") (by decide) ⟨_, e, rfl⟩ (fun s' => typeIs_int s' k t) noFill_list_mul F.fills_int_mul F.slot_int_rmul repeat_list F.slot_int_index.lookup
    (call_meets F.slot_int_rmul (typeIs_int s k t) F.entry_int_rmul (F.args_int_rmul_2 _ _) (int___rmul___int_list k t l its.toArray n)
      ⟨e, rfl, ⟨_, e, rfl⟩, call_meets F.slot_list_mul ⟨_, e, rfl⟩ F.entry_list_mul (F.args_list_mul_2 _ _) (AutoListH.list___mul___list_int_3 l its.toArray n k t hfit hcap hlong) ⟨e, ?_⟩⟩)
  rw [hnew]
  exact ⟨.ref _, _, I.lnew (t' := s.toks) (r.rep k.toNat) (by rw [len_rep, Nat.mul_comm]; exact hz), rfl, q _ I.fresh⟩

/-! ### del xs[i] -/
end

/-! ### xs[a:b] = ys -/
section
variable {prog : Program} {w : World} {A : Around} {E : Value → Shared → Prop} {s : Shared}
set_option maxRecDepth 100000 in
end

section
variable {X : Cx}
end
end L2

namespace Att
open PySem PySem.W PySem.Calls PyProof.Rows

/-! ### the script -/
theorem ints_of_wellAll {P : Params} {h : Heap} : ∀ (ns : List Int) (vs : List Value), WellAll P h vs (ns.map WData.int) → IntsAre vs ns := by
  intro ns
  induction ns with
  | nil =>
    intro vs w
    rw [List.map_nil] at w
    cases w
    exact .nil
  | cons n ns ih =>
    intro vs w
    rw [List.map_cons] at w
    cases w with
    | cons a b =>
      cases a
      exact .cons _ _ (ih _ b)

theorem script_of {l : OpenLaw} {n : Nat} (hn : l.most = some n) {P : Params} {h : Heap} {args : List WData} {vals : List Value}
    (hpre : l.row.toRowW.claim.pre args = true) (hwl : WellAll P h vals args) :
    ∃ a vs ns, vals = [Value.ref a] ∧ args = [WData.list (ns.map WData.int)] ∧ h.get? a = some { cls := .type "list", data := .seq vs.toArray } ∧ IntsAre vs ns ∧ ns.length ≤ n := by
  have hsh : WShape.hasAll [] args [.list .int] = true := (pre_splitW hpre).1
  have hc : l.pre.holds [] { args := args } = true := (pre_splitW hpre).2
  obtain ⟨d, r, rfl, h1, h2⟩ := hasAllW_cons hsh
  obtain rfl := hasAllW_nil h2
  obtain ⟨xs, rfl, h3⟩ := hasW_list h1
  obtain ⟨ns, rfl⟩ := items_int h3
  have hlen : ns.length ≤ n := by
    unfold OpenLaw.pre at hc
    have h4 : (WTm.not (.lt (.lit (.int (n : Int))) (.len (.arg 0)))).holds [] { args := [.list (ns.map .int)] } = true := by
      have h4 := (holds_andW hc).1
      rw [hn] at h4
      exact h4
    have h5 := condW_of h4 (w_not (w_lt w_lit (w_len_list (w_arg rfl))))
    rw [List.length_map] at h5
    refine Nat.le_of_not_lt fun q => ?_
    have q' : (n : Int) < ((ns.length : Nat) : Int) := by omega
    first
      | (rw [decide_eq_true q'] at h5; exact absurd h5 (by decide))
      | (simp at h5; omega)
  cases hwl with
  | cons w1 w2 =>
    cases w2
    cases w1 with
    | list ho hall => exact ⟨_, _, ns, rfl, rfl, ho, ints_of_wellAll ns _ hall, hlen⟩

theorem post_true (l : OpenLaw) (args : List WData) : l.row.toRowW.claim.post args (.bool true) args = true :=
  postW_of (r := l.row.toRowW) (X := (true == true))
    (show WShape.has [] (.bool true) .bool = true by first | rfl | decide | simp [WShape.has, WShape.arms, WShape.armsAll])
    (show (WTm.eq .res (.lit (.bool true))).value [] { args := args, res := some (.bool true), after := args } = some (.bool (true == true)) from w_eq_bool (w_res rfl) w_lit) rfl

/-! ### the attachment: holds_open's last premise (the goal 'hc' behind k_head) from a wpAny of the law's body -/
/-- the same from a codeAny of the CALL (for a layer whose function contracts speak of calls) -/
theorem attach_call {l : OpenLaw} {n : Nat} {q : Program} {loose : List Str} {XP : (Str → Option Value) → Heap → Prop} {YP : World → Heap → Prop} {d : DefRec}
    (hn : l.most = some n) (hdf : d.params.defaults = [])
    (call : ∀ (w : World) (s₀ s₁ : Shared) (mg mb : Str → Option Value) (fa : Addr) (o : Obj) (pm cd doc : Value) (a : Addr) (vs : List Value) (ns : List Int),
      Ground q loose [] XP w s₀ mg mb s₁.heap → YP w s₁.heap →
      s₁.heap.get? fa = some o → o.data = .func (docDef d.name d.params d.body d.scope pm cd doc) → s₁.heap.CodeRec cd d.name → mg d.name = some (.ref fa) →
      s₁.heap.get? a = some { cls := .type "list", data := .seq vs.toArray } → IntsAre vs ns → ns.length ≤ n → s₁.gens = #[] →
      codeAny (model l.prog w) callerA (.call (.ref fa) ⟨[.ref a], []⟩) (fun r s' => r = .ok (.ret (.bool true)) ∧ OldK s₁.heap s'.heap ∧ s'.os = s₁.os ∧ AllBare s'.gens) s₁) :
    WalkO q loose XP YP l.row.toRowW d [] (fun f vs => PySem.call f vs) := by
  intro w s₀ s₁ mg mb G Y fa o pm cd doc dV kV ho hd hcd hD hmg hg args vals as hpre hlay hrd hwl hlo
  obtain rfl : dV = .none := Dflts.none hD hdf
  obtain rfl : kV = .none := Dflts.noKw hD
  obtain ⟨a, vs, ns, rfl, rfl, hobj, hints, hlen⟩ := script_of hn hpre hwl
  refine enter_call (codeAny_mono (call w s₀ s₁ mg mb fa o pm cd doc a vs ns G Y ho (fd_plain hd) hcd hmg hobj hints hlen hg) fun r s' hq => ?_)
  obtain ⟨rfl, h2, h3, h4⟩ := hq
  exact ⟨.inl ⟨.bool true, .bool true, [], rfl, fun _ => rfl, .bool true, post_true l _, fun _ => ⟨List.Pairwise.nil, fun _ hm => (nomatch hm)⟩⟩, h2, h3, h4⟩

/-! ### rules over ANY heap (no ledger) from facts about the written part K: the library's own take a ledger (News) for what they write -/
section
variable {prog : Program} {w : World} {A : Around} {E : Value → Shared → Prop} {s : Shared} {K : Frag}

/-! the whole heap as the ledger: makes every rule that writes through a ledger a rule over any heap -/
end
end Att

namespace L2
open PySem PySem.Spec PyProof.Rows

theorem vals_ints : ∀ {vs : List Value} {ns : List Int}, IntsAre vs ns → Vals (ns.map V.int) vs
  | _, _, .nil => .nil
  | _, _, .cons n t h => .cons ⟨t, rfl⟩ (vals_ints h)

/-- nothing is tracked but the script, known to the object (or it is an object of the module) -/
def Only (H : Hp) : Prop := ∀ b, H b = none ∨ ∃ o xs, H b = some (.frz o (.lst xs))

/-- THE HEAD: the law's promise, at the heap behind the top. F, the promise of the law's def, may use that base is part of the heap (so K.In base, base.Ns mainGlobals mg stand in Mod) -/
theorem law_call {P : Program} {w : World} {K : PySem.W.Frag} {mg mb : Str → Option Value} {CX : CXT} {k : Nat} {fa a : Addr} {fd : FuncData} {x : Str} {sp : Sp} {s₁ : Shared} {vs : List Value} {ns : List Int}
    (KX : K.In s₁.heap) (hns : s₁.heap.Ns mainGlobals mg) (hb : s₁.heap.Ns builtinsNs mb) (hbb : ∀ x : Str, x ≠ "__name__" → mb x = bootBuiltins x) (hlim : s₁.heap.NoLimit) (hg : s₁.gens = #[])
    (ha : s₁.heap.get? a = some { cls := .type "list", data := .seq vs.toArray }) (hi : IntsAre vs ns) (hl : ns.length ≤ sizeLine) (hr : Room k callerA)
    (F : ∀ base : Heap, K.In base → base.Ns mainGlobals mg → FnOk P w K mg base CX k fa fd [x] sp) (hbind : ∀ (s : Shared) (u : Value), BindsTo s fd ⟨[u], []⟩ [(x, u)])
    (hsp : ∀ H : Hp, Only H → SqL K H a (ns.map V.int) → sp [.ref a] H (fun v _ => v = .bl true) fun _ _ _ => False)
    (hCX : ∀ H e s', CX [] H s₁ (fun _ _ _ => False) e s' → False) :
    codeAny (model P w) callerA (.call (.ref fa) ⟨[.ref a], []⟩) (fun r s' => r = .ok (.ret (.bool true)) ∧ OldK s₁.heap s'.heap ∧ s'.os = s₁.os ∧ AllBare s'.gens) s₁ := by
  have rv := vals_ints hi
  have lenV := hi.length
  -- from an abstract heap in which nothing but the script may be tracked
  have core : ∀ H : Hp, Only H → SqL K H a (ns.map V.int) → HOk P w H s₁.heap → (∀ b, H b ≠ none → b = a) → (H a ≠ none → K.lookup a = none) →
      codeAny (model P w) callerA (.call (.ref fa) ⟨[.ref a], []⟩) (fun r s' => r = .ok (.ret (.bool true)) ∧ OldK s₁.heap s'.heap ∧ s'.os = s₁.os ∧ AllBare s'.gens) s₁ := by
    intro H hO hS hok hA hK
    have base_of : ∀ {b : Addr} {o : Obj}, s₁.heap.get? b = some o → H b = none → (hidT s₁.heap H).get? b = some o := fun e n => hidT_get e n
    have noA : ∀ {b : Addr} {o : Obj} {es : Array DictEntry} {ep : Nat}, s₁.heap.get? b = some o → o.data = .dict es ep → H b = none := fun {b o es ep} e d => by
      cases q : H b with
      | none => rfl
      | some u =>
        have e' : b = a := hA b (by rw [q]; simp)
        subst e'
        rw [ha] at e; cases e
        have d' : Data.seq vs.toArray _ = Data.dict es ep := d
        cases d'
    have nsK : ∀ {b : Addr} {m : Str → Option Value}, s₁.heap.Ns b m → (hidT s₁.heap H).Ns b m := fun {b m} ⟨o, es, ep, e, d, r⟩ => ⟨o, es, ep, base_of e (noA e d), d, r⟩
    have hKb : K.In (hidT s₁.heap H) := fun b o e => base_of (KX b o e) (by
      cases q : H b with
      | none => rfl
      | some u =>
        have e' : b = a := hA b (by rw [q]; simp)
        subst e'
        rw [hK (by rw [q]; simp)] at e; cases e)
    have hM : Mod K mg (hidT s₁.heap H) := ⟨hKb, nsK hns, ⟨mb, nsK hb, hbb⟩, let ⟨mc, h1, h2⟩ := hlim; ⟨mc, nsK h1, h2⟩⟩
    have e0 : Env0 P w K mg (hidT s₁.heap H) callerA [] s₁ H := ⟨rfl, hM, fun b o e => of_hidT e, Nat.le_of_eq (hidT_size _ _), trivial, fun b hb => absurd (show b ∈ ([] : List Addr) from hb) (by simp), hok, .of_eq hg⟩
    refine codeAny_mono ((F _ hKb (nsK hns)).run callerA [] s₁ H ⟨[.ref a], []⟩ [.ref a] [.ref a] _ _ hr e0 (hbind s₁ (.ref a)) (.cons rfl .nil) (hsp H hO hS)) fun r s' h => ?_
    cases r with
    | error e => exact (hCX H e s' h).elim
    | ok fl =>
      cases fl with
      | next => exact False.elim h
      | brk => exact False.elim h
      | cont => exact False.elim h
      | ret u =>
        obtain ⟨v, H', os, bare, un, hok', r', q⟩ := h
        have q' : v = .bl true := q
        subst q'
        obtain rfl : u = Value.bool true := r'
        refine ⟨rfl, OldK.of_keep fun b o e => ?_, os, bare⟩
        cases q : H b with
        | none => exact un.keep b o e q (by intro z; exact absurd (show b ∈ ([] : List Addr) from z) (by simp)) (by simp)
        | some u =>
          rcases hO b with z | ⟨ob, xs, z⟩
          · rw [q] at z; cases z
          · have z2 := un.frzs b ob _ z
            obtain ⟨e1, _⟩ := hok b _ z
            obtain ⟨e2, _⟩ := hok' b _ z2
            rw [e] at e1; cases e1
            exact e2
  cases hk : K.lookup a with
  | some o =>
    -- the script is one of the module's own objects
    have e := KX a o hk
    rw [ha] at e
    cases e
    refine core (fun _ => none) (fun _ => .inl rfl) (.inr ⟨_, vs.toArray, _, hk, rfl, rfl, rfl, by rw [List.size_toArray, lenV]; exact hl, by simpa using rv⟩) (fun b u z => by have z' : (none : Option HO) = some u := z; cases z') (fun b z => absurd rfl z) fun z => absurd rfl z
  | none =>
    refine core (fun b => if b = a then some (.frz { cls := .type "list", data := .seq vs.toArray } (.lst (ns.map V.int))) else none) (fun b => ?_) (.inl (.inr ⟨{ cls := .type "list", data := .seq vs.toArray }, if_pos rfl⟩)) (fun b u z => ?_) (fun b z => ?_) fun _ => hk
    · by_cases hb : b = a
      · exact .inr ⟨_, _, if_pos hb⟩
      · exact .inl (if_neg hb)
    · by_cases hb : b = a
      · have z' := (if_pos hb).symm.trans z
        cases z'
        subst hb
        exact ⟨ha, by rw [List.length_map]; exact hl, vs, _, rv, ha⟩
      · have z' := (if_neg hb).symm.trans z
        cases z'
    · by_cases hb : b = a
      · exact hb
      · exact absurd (if_neg hb) z
end L2

namespace L2
open PySem PySem.Spec PyProof.Rows

/-- the goal that k_head leaves (case hc), from the law's promise. F gives the function object fd (K's own) once, then the promise over every base -/
theorem walk_of {l : PySem.W.OpenLaw} {n k : Nat} {q : Program} {loose : List Str} {XP : (Str → Option Value) → Heap → Prop} {YP : World → Heap → Prop} {d : DefRec} {K : Params → PySem.W.Frag} {CX : World → CXT} {sp : World → Sp} {x : Str}
    (hn : l.most = some n) (hn2 : n ≤ sizeLine) (hdf : d.params.defaults = []) (hr : Room k callerA)
    (hY : ∀ (w : World) (h : Heap), YP w h → (K w.params).In h)
    (F : ∀ (w : World) (mg : Str → Option Value) (fa : Addr) (h : Heap), (K w.params).In h → h.Ns mainGlobals mg → mg d.name = some (.ref fa) →
      ∃ fd : FuncData, (∀ (s : Shared) (u : Value), BindsTo s fd ⟨[u], []⟩ [(x, u)]) ∧
        ∀ base : Heap, (K w.params).In base → base.Ns mainGlobals mg → FnOk l.prog w (K w.params) mg base (CX w) k fa fd [x] (sp w))
    (hsp : ∀ (w : World) (H : Hp) (a : Addr) (ns : List Int), ns.length ≤ n → Only H → SqL (K w.params) H a (ns.map V.int) → sp w [.ref a] H (fun v _ => v = .bl true) fun _ _ _ => False)
    (hCX : ∀ (w : World) (H : Hp) (s : Shared) (e : Value) (s' : Shared), CX w [] H s (fun _ _ _ => False) e s' → False) :
    PySem.W.WalkO q loose XP YP l.row.toRowW d [] (fun f vs => PySem.call f vs) := by
  refine Att.attach_call hn hdf fun w s₀ s₁ mg mb fa o pm cd doc a vs ns G Y ho hd hcd hmg hobj hints hlen hg => ?_
  have KX := hY w _ Y
  obtain ⟨fd, hb, hF⟩ := F w mg fa _ KX G.T.g hmg
  exact law_call KX G.T.g G.T.b G.T.builtins G.T.nolimit hg hobj hints (Nat.le_trans hlen hn2) hr hF hb (fun H hO hS => hsp w H a ns hlen hO hS) fun H e s' => hCX w H s₁ e s'
end L2

/- THE LAST THEOREM (shape; LID, My.* are yours):
   My.Adr: a structure of the addresses that your layer names (classes, functions); My.Txt K t: a structure (Prop) of the equations over K;
   My.txt_mk : {K} {implicit addresses ..} (e1 : nsIn K mainGlobals "law" = some (some (.ref f))) (e2 : K.lookup f = some ⟨oc, od, .func (fnOf "law" "law" params body scope dV kV doc pm an cdv ct), sl⟩) (e3 : codeIn K cdv "law" = true) .. : ∃ t, My.Txt K t

set_option maxRecDepth 100000 in
set_option maxHeartbeats 0 in
theorem PySem.Challenge.cw_LID_holds : PySem.Challenge.rw_LID.Holds := by
  w_on; o_law; k_head; (case hw => w_witness2)
  k_fill
  refine L2.walk_of (l := PySem.Challenge.rw_LID) (n := 63) (k := 40) (x := "script") (CX := fun w => ..) (sp := fun _ => My.sp_law) rfl (by decide) rfl ⟨rfl, by decide, by decide⟩ (fun w h Y => PySem.W.kIn_of Y) ?F ?S ?C
  case F =>
    intro w mg fa h KX G hmg
    have T : ∃ t, My.Txt (L2.KOf KX) t := by
      dsimp only [L2.KOf]                          -- K must stand as «<heap const> w.params» for k_is
      refine' My.txt_mk ?e1 ?e2 ?e3 ..
      (case e1 => PySem.W.k_is)                    -- in the order: a name -> its address -> its object -> its parts
      (case e2 => PySem.W.k_is)
      ..
    obtain ⟨t, T⟩ := T
    have e0 := hmg.symm.trans (PySem.W.mg_of KX G T.law)
    cases e0                                       -- fa is the law's own address
    exact ⟨_, fun s u => .of_eq rfl, fun base kb nb => My.law_fn T kb nb⟩     -- if «.of_eq rfl» comes too early: refine' ⟨_, ?b, fun base kb nb => My.law_fn T kb nb⟩; exact fun s u => .of_eq rfl
  case S => exact fun w H a ns hl hO hS => ..
  case C => exact ..
(the tactic k_is has no namespace: write k_is) -/

/-! SHORT WORDS over the layer: a def of the text, its body, what a loop and a test want. -/
namespace L2
open PySem PySem.Spec PyProof.Rows

/-! ### the text by places -/
def defArgs (s : Stmt) : Arguments := match s with
  | .FunctionDef _ a _ _ _ _ _ _ _ _ => a
  | _ => { posonlyargs := [], args := [], vararg := none, kwonlyargs := [], kw_defaults := [], kwarg := none, defaults := [] }
def defBody (s : Stmt) : List Stmt := match s with
  | .FunctionDef _ _ b _ _ _ _ _ _ _ => b
  | _ => []
def defScope (s : Stmt) : Scope := match s with
  | .FunctionDef _ _ _ _ _ _ sc _ _ _ => sc
  | _ => { kind := .function, names := [], isGenerator := false, isCoroutine := false }

/-! ### no exception leaves a def -/
abbrev CX0 : CXT := fun _ _ _ _ _ _ => False
abbrev E0 : XK := fun _ _ _ => False
theorem pass0 {X : Cx} : Passes CX0 X E0 := fun _ _ _ _ _ _ _ h => h.elim

/-! ### a def (or method) of the text as it stands behind the top -/
structure Fun (K : PySem.W.Frag) (x qual : Str) (st : Stmt) (f : Addr) (fd : FuncData) : Prop where
  ex : ∃ (oc : Value) (od : Option Addr) (kV doc pm : Value) (an : Option Addr) (cdv ct : Value) (osl : Array (Option Value)),
    fd = PySem.W.fnOf x qual (defArgs st) (defBody st) (defScope st) .none kV doc pm an cdv ct ∧ K.lookup f = some ⟨oc, od, .func fd, osl⟩ ∧ PySem.W.codeIn K cdv qual = true
  kp : PySem.W.keepIn K (.ref f) = true
section
variable {P : Program} {w : World} {K : PySem.W.Frag} {mg : Str → Option Value} {base : Heap}
/-- THE RULE for a def: its body as a term of rules, and the reading of that term -/
theorem Fun.ok {x qual : Str} {st : Stmt} {f : Addr} {fd : FuncData} {N ps : List Str} {k : Nat} {sp : Sp} (F : Fun K x qual st f fd) (S : FnScope N ps (defScope st)) (len : ∀ vs H Q E, sp vs H Q E → vs.length = ps.length)
    (hbody : ∀ (cdv : Value) (A : Around) (outer : List Env) (s : Shared) (H : Hp) (vs : List V) (Q : VK) (E : XK), Room k (A.deeper (envOfC qual (defScope st) s.heap.objs.size f cdv)) → sp vs H Q E →
      ∃ t, PSs (cxOf CX0 P w K mg base N qual (defScope st) f cdv A outer s H E).nox (defBody st) t ∧ t { nx := fun _ H' => Q .non H', rt := Q } (start N vs) H) : FnOk P w K mg base CX0 (k + 1) f fd ps sp := by
  obtain ⟨oc, od, kV, doc, pm, an, cdv, ct, osl, rfl, lk, hcd⟩ := F.ex
  refine fn_of lk hcd S len fun A outer s H vs Q E hr hsp => ?_
  obtain ⟨t, h, q⟩ := hbody cdv A outer s H vs Q E hr hsp
  exact ⟨t, h.nox, q⟩
/-- how its arguments bind (no defaults): h is «fun _ _ _ _ _ _ us hl => match us, hl with | [_, _], _ => rfl», one _ a parameter -/
theorem Fun.binds {x qual : Str} {st : Stmt} {f : Addr} {fd : FuncData} {ps : List Str} (F : Fun K x qual st f fd)
    (h : ∀ (kV doc pm : Value) (an : Option Addr) (cdv ct : Value) (us : List Value), us.length = ps.length → bindArgs (PySem.W.fnOf x qual (defArgs st) (defBody st) (defScope st) .none kV doc pm an cdv ct) ⟨us, []⟩ = pure (ps.zip us)) : Binds K fd ps [] := by
  obtain ⟨oc, od, kV, doc, pm, an, cdv, ct, osl, rfl, lk, hcd⟩ := F.ex
  exact .all (h kV doc pm an cdv ct)
theorem fun_mk {x qual : Str} {st : Stmt} {f : Addr} {oc : Value} {od an : Option Addr} {osl : Array (Option Value)} {kV doc pm cdv ct : Value} (l : K.lookup f = some ⟨oc, od, .func (PySem.W.fnOf x qual (defArgs st) (defBody st) (defScope st) .none kV doc pm an cdv ct), osl⟩)
    (c : PySem.W.codeIn K cdv qual = true) (k : PySem.W.keepIn K (.ref f) = true) : Fun K x qual st f (PySem.W.fnOf x qual (defArgs st) (defBody st) (defScope st) .none kV doc pm an cdv ct) := ⟨⟨oc, od, kV, doc, pm, an, cdv, ct, osl, rfl, l, c⟩, k⟩
end
theorem hu_of {A : Around} {k : Nat} (hr : Room k A) : A.units + 1 < cLine := Nat.lt_of_le_of_lt (Nat.add_le_add_left (by decide : 1 ≤ 64) _) hr.units
/-! ### expressions in short: the name that stands in the i-th slot -/
section
variable {X : Cx}
theorem pv (i : Nat) {x : Str} {pos : Pos} (hN : X.N[i]? = some x := by rfl) (hv : Vis X.env.scope x := by first | exact Or.inl rfl | exact Or.inr (Or.inl rfl) | exact Or.inr (Or.inr rfl)) (hd : (x == ("__debug__" : Str)) = false := by decide)
    (hcd : (x == ("__classdict__" : Str)) = false := by decide) : PE X (.Name x pos) (tVar i) := pe_var hN hv hd hcd
end

/-! ### tests -/
theorem iteF {A B : Prop} (h : B) : if false = true then A else B := by
  rw [if_neg Bool.false_ne_true]
  exact h
theorem iteT {A B : Prop} (h : A) : if true = true then A else B := by
  rw [if_pos rfl]
  exact h
theorem ite2 {c A B : Prop} [Decidable c] (h1 : c → A) (h2 : ¬ c → B) : if c then A else B := by
  by_cases h : c
  · rw [if_pos h]
    exact h1 h
  · rw [if_neg h]
    exact h2 h
/-! ### heaps -/
/-- all that was tracked is as it was -/
def Same (H H' : Hp) : Prop := ∀ b o, H b = some o → H' b = some o
theorem Same.refl (H : Hp) : Same H H := fun _ _ h => h
theorem Same.trans {H H1 H2 : Hp} (a : Same H H1) (b : Same H1 H2) : Same H H2 := fun c o h => b c o (a c o h)
theorem Same.free {H H' : Hp} (e : Same H H') {l : Addr} (h : H' l = Option.none) : H l = Option.none := by
  cases q : H l with
  | none => rfl
  | some o =>
    rw [e l o q] at h
    cases h
theorem Same.seq {K : PySem.W.Frag} {H H' : Hp} {a : Addr} {xs : List V} (e : Same H H') (h : SqL K H a xs) : SqL K H' a xs := by
  rcases h with (h | ⟨o, h⟩) | h
  · exact .inl (.inl (e _ _ h))
  · exact .inl (.inr ⟨o, e _ _ h⟩)
  · exact .inr h

end L2


namespace L2
open PySem PySem.Spec PyProof.Rows
section
variable {X : Cx}
end
end L2

namespace L2
open PySem PySem.Spec PyProof.Rows

/-! ### a dict's pairs: keys that differ -/
section
variable {κ : Type} [DecidableEq κ]
end
end L2

set_option Elab.async false
set_option linter.all false
set_option maxRecDepth 100000
set_option maxHeartbeats 4000000
/-! comprehensions over the hand layer -/
namespace L2
open PySem PySem.Spec PyProof.Rows

abbrev noE : Value → Shared → Prop := fun _ _ => False
theorem noE_to {α : Type} {M : Model} {A : Around} {t : Sem α} {Q : α → Shared → Prop} {E : Value → Shared → Prop} {s : Shared} (h : wpAny M A t Q noE s) : wpAny M A t Q E s :=
  wpAny_mono h (fun _ _ q => q) fun _ _ z => z.elim

theorem addr_ne {a b : Addr} {n : Nat} (h : a < n) (h' : n ≤ b) : a ≠ b := fun e => absurd (Nat.lt_of_lt_of_le h h') (by rw [e]; exact Nat.lt_irrefl _)
theorem addr_ne' {a b : Addr} {n : Nat} (h : a < n) (h' : n ≤ b) : b ≠ a := fun e => addr_ne h h' e.symm

theorem closure_go (env : Env) : ∀ (names : List (Str × NameKind)) (acc : List (Str × Addr)),
    (∀ y ∈ names, y.2 = .free → ∃ c, env.cells.lookup y.1 = some c) → (∀ n c, acc.lookup n = some c → env.cells.lookup n = some c) →
    ∃ cl, (forIn names acc fun (x : Str × NameKind) (cs : List (Str × Addr)) => (if (x.2 == NameKind.free) = true then do
        let a ← cellOf env x.1
        pure (ForInStep.yield ((x.1, a) :: cs)) else pure (ForInStep.yield cs) : Sem (ForInStep (List (Str × Addr))))) = pure cl ∧
      (∀ n c, cl.lookup n = some c → env.cells.lookup n = some c) ∧ (∀ n c, acc.lookup n = some c → ∃ c', cl.lookup n = some c') ∧ ∀ y ∈ names, y.2 = .free → ∃ c, cl.lookup y.1 = some c
  | [], acc, _, h2 => ⟨acc, rfl, h2, fun _ c h => ⟨c, h⟩, fun _ h => nomatch h⟩
  | (n, k) :: r, acc, h1, h2 => by
    have hr : ∀ y ∈ r, y.2 = .free → ∃ c, env.cells.lookup y.1 = some c := fun y hy => h1 y (List.mem_cons_of_mem _ hy)
    by_cases hk : k = .free
    · subst hk
      obtain ⟨c, hc⟩ := h1 (n, .free) List.mem_cons_self rfl
      obtain ⟨cl, e, p1, p2, p3⟩ := closure_go env r ((n, c) :: acc) hr (fun m d hm => by
        rw [List.lookup_cons] at hm
        by_cases q : m == n
        · rw [q] at hm
          have : m = n := by simpa using q
          subst this
          cases hm
          exact hc
        · have q' : (m == n) = false := by simpa using q
          rw [q'] at hm
          exact h2 m d hm)
      refine ⟨cl, ?_, p1, fun m d hm => ?_, fun y hy hf => ?_⟩
      · rw [List.forIn_cons]
        rw [← e]
        show (cellOf env n >>= fun a => _) >>= _ = _
        unfold cellOf
        rw [hc]
        rfl
      · by_cases q : m = n
        · subst q
          exact p2 m c (by rw [List.lookup_cons]; simp)
        · exact p2 m d (by rw [List.lookup_cons]; simp only [beq_eq_false_iff_ne.mpr q]; exact hm)
      · rcases List.mem_cons.mp hy with rfl | hy
        · exact p2 n c (by rw [List.lookup_cons]; simp)
        · exact p3 y hy hf
    · obtain ⟨cl, e, p1, p2, p3⟩ := closure_go env r acc hr h2
      refine ⟨cl, ?_, p1, p2, fun y hy hf => ?_⟩
      · rw [List.forIn_cons, ← e]
        have hb : (k == NameKind.free) = false := by simpa using hk
        simp only [hb, Bool.false_eq_true, if_false]
        rfl
      · rcases List.mem_cons.mp hy with rfl | hy
        · exact absurd hf hk
        · exact p3 y hy hf
theorem closure_of {scope : Scope} {env : Env} (h : ∀ y ∈ scope.names, y.2 = .free → ∃ c, env.cells.lookup y.1 = some c) :
    ∃ cl, closureFor scope env = pure cl ∧ (∀ n c, cl.lookup n = some c → env.cells.lookup n = some c) ∧ ∀ y ∈ scope.names, y.2 = .free → ∃ c, cl.lookup y.1 = some c := by
  obtain ⟨cl, e, p1, _, p3⟩ := closure_go env scope.names [] h (fun n c h => by simp at h)
  refine ⟨cl, ?_, p1, p3⟩
  unfold closureFor
  refine Eq.trans ?_ (congrArg (fun m => m >>= fun (cs : List (Str × Addr)) => (pure cs : Sem _)) e)
  rfl

def testsOf (ifs : List Expr) (env : Env) : Sem Bool := forIn ifs true fun c r => if r = true then do let ok ← isTrue c env (eval c env); pure (ForInStep.yield ok) else pure (ForInStep.yield r)

section
variable {prog : Program} {w : World} {A : Around} {R : Result → Shared → Prop} {s : Shared}
theorem comp_turns {elt target iter : Expr} {ifs : List Expr} {scope : Scope} {pos : Pos} {it acc : Value} {env : Env} (I : Nat → Shared → Prop)
    (turn : ∀ n s, I n s → wpAny (model prog w) A (pyNext it) (fun r s1 => match r with
      | none => R (.ok .next) s1
      | some v => wpAny (model prog w) A (letOwnedTupleGo target it v) (fun _ s1' => wpAny (model prog w) A (assign target env v) (fun _ s2 =>
          wpAny (model prog w) A (testsOf ifs env) (fun ok s3 =>
            if ok = true then wpAny (model prog w) A (eval elt env) (fun x s4 =>
              wpAny (model prog w) A (call (.builtin "list.append") [acc, x]) (fun _ s5 => ∃ m, m < n ∧ I m s5) noE s4) noE s3
            else ∃ m, m < n ∧ I m s3) noE s2) noE s1') noE s1) noE s)
    (n : Nat) (h : I n s) : codeAny (model prog w) A (.compLoop (.ListComp elt [⟨target, iter, ifs, 0⟩] scope pos) 0 it acc env) R s := by
  refine codeAny_loop rfl I (fun n s hI => (show wpAny _ A (Sem.onRaise (compTurn (.ListComp elt [⟨target, iter, ifs, 0⟩] scope pos) 0 it acc env) (fun x => do noteFrame x env; theTreesLotGoes x)) _ _ s from wpAny_noted ?_)) n h
  rw [compTurn_list]
  refine wpAny_bind (wpAny_standAt (wpAny_bind (noE_to (thn (turn n s hI) fun r s1 h1 => ?_))))
  cases r with
  | none => exact wpAny_pure h1
  | some v =>
    refine wpAny_bind (noE_to (thn h1 fun _ s1' h1' => ?_))
    refine wpAny_bind (noE_to (thn h1' fun _ s2 h2 => wpAny_bind (noE_to (thn h2 fun ok s3 h3 => ?_))))
    cases ok with
    | false => exact wpAny_pure ⟨rfl, h3⟩
    | true => exact wpAny_bind (wpAny_bind (noE_to (thn h3 fun x s4 h4 => wpAny_bind (noE_to (thn h4 fun _ s5 h5 => wpAny_pure (wpAny_pure ⟨rfl, h5⟩))))))
end

theorem HOk.adopt {P : Program} {w : World} {H : Hp} {h : Heap} {a : Addr} {o : HO} (x : HOk P w H h) (hn : H a = none) (new : ObjOk P w (upd H a o) h a o) : HOk P w (upd H a o) h := fun b u e => by
  by_cases hb : b = a
  · subst hb; rw [upd_same] at e; cases e; exact new
  · rw [upd_ne hb] at e
    exact (x b u e).stay (fun c v _ q => q) (fun c q => by rw [upd_ne (ne_of_none q hn)]; exact q) fun c xs q => by rw [upd_ne (ne_of_none q hn)]; exact q

/-- what a comprehension's block stands in: Nc its own names, Fc the captured ones, js their places among the names around -/
structure CompOk (X : Cx) (scope : Scope) (Nc Fc : List Str) (js : List Nat) : Prop where
  kind : scope.kind = .function
  nocell : ∀ y ∈ scope.names, y.2 ≠ .cell
  names : ∀ y ∈ scope.names, y.2 = .local → scope.names.lookup y.1 = some .local
  free : ∀ y ∈ scope.names, y.2 = .free → X.env.kindOf y.1 = some .cell ∨ X.env.kindOf y.1 = some .free
  frees : ∀ (k : Nat) (x : Str), Fc[k]? = some x → scope.names.lookup x = some .free ∧ ∃ j, js[k]? = some j ∧ X.N[j]? = some x
  lens : js.length = Fc.length

def cvals (σ : St) (js : List Nat) : St := js.map fun j => (σ[j]?).join

def cxC (X : Cx) (Nc Fc : List Str) (scope : Scope) (cl : List (Str × Addr)) (C : Addr) (s : Shared) (H : Hp) (fp : List Addr) : Cx :=
  { X with N := Nc ++ Fc, s₀ := s, H₀ := H, env := compEnvC scope cl C X.env, outer := X.stack, stack := X.stack, ex := fp, fn := fun _ => false, pn := [], xe := noE }

theorem relabel_free {env : Env} : ∀ {names : List (Str × NameKind)} {x : Str} {k : NameKind}, (names.map fun (n, k) => if (k == NameKind.free && env.scope.kind == .function && env.kindOf n == some .cell) then (n, NameKind.cell) else (n, k)).lookup x = some k →
    names.lookup x = some k ∨ (k = .cell ∧ names.lookup x = some .free)
  | [], _, _, h => by simp at h
  | (n, k0) :: r, x, k, h => by
    have ih := @relabel_free env r x k
    rw [List.map_cons] at h
    dsimp only at h
    by_cases hx : x = n
    · subst hx
      by_cases hc : (k0 == NameKind.free && env.scope.kind == .function && env.kindOf x == some .cell) = true
      · rw [if_pos hc] at h
        simp only [List.lookup_cons, beq_self_eq_true] at h
        have hk : k0 = .free := by
          have := (Bool.and_eq_true _ _).mp ((Bool.and_eq_true _ _).mp hc).1
          simpa using this.1
        subst hk
        cases h
        exact .inr ⟨rfl, by simp only [List.lookup_cons, beq_self_eq_true]⟩
      · rw [if_neg hc] at h
        simp only [List.lookup_cons, beq_self_eq_true] at h ⊢
        exact .inl h
    · have hb : (x == n) = false := beq_eq_false_iff_ne.mpr hx
      have e : List.lookup x ((if (k0 == NameKind.free && env.scope.kind == .function && env.kindOf n == some .cell) = true then (n, NameKind.cell) else (n, k0)) :: (r.map fun (n, k) => if (k == NameKind.free && env.scope.kind == .function && env.kindOf n == some .cell) then (n, NameKind.cell) else (n, k))) = some k := h
      have e2 : List.lookup x (r.map fun (n, k) => if (k == NameKind.free && env.scope.kind == .function && env.kindOf n == some .cell) then (n, NameKind.cell) else (n, k)) = some k := by
        by_cases hc : (k0 == NameKind.free && env.scope.kind == .function && env.kindOf n == some .cell) = true
        · rw [if_pos hc] at e; simp only [List.lookup_cons, hb] at e; exact e
        · rw [if_neg hc] at e; simp only [List.lookup_cons, hb] at e; exact e
      simp only [List.lookup_cons, hb]
      exact ih e2
theorem relabel_of_free {env : Env} : ∀ {names : List (Str × NameKind)} {x : Str}, names.lookup x = some .free →
    (names.map fun (n, k) => if (k == NameKind.free && env.scope.kind == .function && env.kindOf n == some .cell) then (n, NameKind.cell) else (n, k)).lookup x = some .cell ∨
    (names.map fun (n, k) => if (k == NameKind.free && env.scope.kind == .function && env.kindOf n == some .cell) then (n, NameKind.cell) else (n, k)).lookup x = some .free
  | [], _, h => by simp at h
  | (n, k0) :: r, x, h => by
    have ih := @relabel_of_free env r x
    rw [List.map_cons]
    dsimp only
    by_cases hx : x = n
    · subst hx
      simp only [List.lookup_cons, beq_self_eq_true] at h
      cases h
      by_cases hc : (NameKind.free == NameKind.free && env.scope.kind == .function && env.kindOf x == some .cell) = true
      · rw [if_pos hc]; left; simp only [List.lookup_cons, beq_self_eq_true]
      · rw [if_neg hc]; right; simp only [List.lookup_cons, beq_self_eq_true]
    · have hb : (x == n) = false := beq_eq_false_iff_ne.mpr hx
      simp only [List.lookup_cons, hb] at h
      by_cases hc : (k0 == NameKind.free && env.scope.kind == .function && env.kindOf n == some .cell) = true
      · rw [if_pos hc]; simp only [List.lookup_cons, hb]; exact ih h
      · rw [if_neg hc]; simp only [List.lookup_cons, hb]; exact ih h
theorem mem_of_lookup' : ∀ {l : List (Str × NameKind)} {x : Str} {k : NameKind}, l.lookup x = some k → (x, k) ∈ l := fun h => PySem.mem_of_lookup h

section
variable {X : Cx} {pins : List (Addr × Obj)} {σ : St} {H : Hp} {s : Shared} {scope : Scope} {Nc Fc : List Str} {js : List Nat} {cl : List (Str × Addr)} {C D : Addr} {fp : List Addr}

theorem cxC_kind {x : Str} : (cxC X Nc Fc scope cl C s H fp).env.kindOf x = (scope.names.map fun (n, k) => if (k == NameKind.free && X.env.scope.kind == .function && X.env.kindOf n == some .cell) then (n, NameKind.cell) else (n, k)).lookup x := rfl

theorem cxC_ok (I : Inv X pins σ H s) (c : CompOk X scope Nc Fc js) (hsub : ∀ n c, cl.lookup n = some c → X.env.cells.lookup n = some c) (hhas : ∀ y ∈ scope.names, y.2 = .free → ∃ c, cl.lookup y.1 = some c)
    (hC : s.heap.objs.size ≤ C) (hf : ∀ b ∈ fp, FpOk X pins H b) (ho : ∀ b ∈ fp, ∃ o, s.heap.get? b = some o) : (cxC X Nc Fc scope cl C s H fp).Ok where
  mod := I.ok.mod
  kind := c.kind
  glob := I.ok.glob
  blt := I.ok.blt
  above := hC
  inj := fun x y a h1 h2 => I.ok.inj x y a (hsub _ _ h1) (hsub _ _ h2)
  has := fun x hx => by
    have key : scope.names.lookup x = some .free := by
      rw [cxC_kind] at hx
      rcases hx with h | h
      · rcases relabel_free h with q | ⟨_, q⟩
        · exact absurd rfl (c.nocell _ (mem_of_lookup' q))
        · exact q
      · rcases relabel_free h with q | ⟨q, _⟩
        · exact q
        · cases q
    exact hhas _ (mem_of_lookup' key) rfl
  cab := fun _ _ h => nomatch h
  hd := I.ok.hd
  frames := I.ok.frames
  stk := .inl rfl
  exf := fun b hb => ⟨fun z => by
      obtain ⟨o, e⟩ := ho b hb
      exact addr_ne (Heap.lt_size e) hC z, fun x a e z => (hf b hb).2.2.2.2.1 x a (hsub _ _ e) z⟩
  bs := fun b o e => I.bs b o e
  bsz := Nat.le_trans I.ok.bsz I.sz
  noex := fun b o e hb => by
    rcases (hf b hb).2.2.2.1 with z | z
    · exact I.ok.noex b o e z
    · exact absurd (Nat.lt_of_lt_of_le (Heap.lt_size (I.ok.bs b o e).1) z) (Nat.lt_irrefl _)
  exfs := fun b hb z => by
    rcases List.mem_cons.mp (I.stkSub b z) with q | q
    · exact (hf b hb).2.1 q
    · exact (hf b hb).2.2.1 q
  funs := I.stack
  frf := I.stkFree

/-- the state at the block's entry -/
theorem cxC_inv (I : Inv X pins σ H s) (c : CompOk X scope Nc Fc js) (hsub : ∀ n c, cl.lookup n = some c → X.env.cells.lookup n = some c) (hhas : ∀ y ∈ scope.names, y.2 = .free → ∃ c, cl.lookup y.1 = some c)
    (hC : s.heap.objs.size ≤ C) (hD : s.heap.objs.size ≤ D) (hDC : D ≠ C) (hf : ∀ b ∈ fp, FpOk X pins H b) (ho : ∀ b ∈ fp, ∃ o, s.heap.get? b = some o) {h1 : Heap} {t1 : Nat} {m : Str → Option Value} {ob : Obj}
    (hk : ∀ b o, s.heap.get? b = some o → h1.get? b = some o) (hm : h1.Ns C m) (hob : h1.get? D = some ob) (hnc : ∀ v, ob.data ≠ .cell v) :
    Inv (cxC X Nc Fc scope cl C s H fp) [(D, ob)] (List.replicate Nc.length none ++ cvals σ js) H { s with heap := h1, toks := t1 } := by
  refine ⟨cxC_ok I c hsub hhas hC hf ho, rfl, I.bare, Un.kept hk, ⟨m, hm, fun i x v e1 e2 e3 => ?_⟩, fun x a e => ?_, I.hok.fresh hC, fun x a e => I.freeC x a (hsub x a e), fun p hp => ?_, I.hok.kept hk, ?_⟩
  · have e1 : (Nc ++ Fc)[i]? = some x := e1
    have e2 : (List.replicate Nc.length none ++ cvals σ js)[i]? = some (some v) := e2
    by_cases hi : i < Nc.length
    · rw [List.getElem?_append_left (by simpa using hi), List.getElem?_replicate] at e2
      split at e2 <;> cases e2
    · rw [List.getElem?_append_right (by omega)] at e1
      rw [List.getElem?_append_right (by rw [List.length_replicate]; omega), List.length_replicate] at e2
      obtain ⟨hfr, j, hj, hN⟩ := c.frees _ _ e1
      have hv : σ[j]? = some (some v) := by
        unfold cvals at e2
        rw [List.getElem?_map, hj] at e2
        have e2 : some ((σ[j]?).join) = some (some v) := e2
        cases q : σ[j]? with
        | none => rw [q] at e2; cases e2
        | some z => rw [q] at e2; cases e2; rfl
      have kx := c.free _ (mem_of_lookup' hfr) rfl
      obtain ⟨m0, hn0, hl0⟩ := I.loc
      have vis : Vis X.env.scope x := by
        rcases kx with k | k
        · exact .inr (.inl k)
        · exact .inr (.inr k)
      obtain ⟨u, ru, lk⟩ := hl0 j x v hN hv vis
      refine ⟨u, ru, .inr ⟨?_, ?_⟩⟩
      · rw [cxC_kind]; exact relabel_of_free hfr
      · obtain ⟨a, ha⟩ := hhas _ (mem_of_lookup' hfr) rfl
        refine ⟨a, ha, ?_⟩
        rcases lk with ⟨k, _⟩ | ⟨_, a', ha', hcell⟩
        · rcases kx with q | q <;> (rw [k] at q; cases q)
        · have e := hsub _ _ ha
          dsimp only at e
          rw [ha'] at e; cases e
          exact hcell.keeps hk
  · obtain ⟨v, z⟩ := I.cell x a (hsub x a e)
    exact ⟨v, z.keeps hk⟩
  · have hp : p = (D, ob) := by
      have : p ∈ [(D, ob)] := hp
      simpa using this
    subst hp
    refine ⟨hob, I.hok.fresh hD, hDC, fun z => ?_, hnc⟩
    have z : D ∈ frs X.stack := z
    rcases List.mem_cons.mp (I.stkSub D z) with q | q
    · exact addr_ne' I.lt hD q
    · exact I.nofs hD q
  · show (List.replicate Nc.length none ++ cvals σ js).length = (Nc ++ Fc).length
    unfold cvals
    rw [List.length_append, List.length_append, List.length_replicate, List.length_map, c.lens]
end

/-- tests of a clause: none, or one -/
def PTs (X : Cx) (ifs : List Expr) (t : TT) : Prop :=
  ∀ ⦃pins : List (Addr × Obj)⦄ (s : Shared) (σ : St) (H : Hp) (Q : Bool → Hp → Prop), Inv X pins σ H s → t σ H Q → wpAny (model X.prog X.w) X.A (testsOf ifs X.env) (TP X pins σ Q) X.xe s
def tYes : TT := fun _ H Q => Q true H
theorem pts_nil {X : Cx} : PTs X [] tYes := fun _ _ _ H _ I h => wpAny_tests_nil ⟨H, I, h⟩
/-- the reading: W i m ys H is what holds ahead of turn i, m falls -/
def CompW (J : It) (n : Nat) (js : List Nat) (g : TG) (tc : TT) (te : TE) (σ : St) (H1 : Hp) (fin : List V → Hp → Prop) : Prop :=
  ∃ W : Nat → Nat → List V → Hp → Prop, (∃ m, W 0 m [] H1) ∧ ∀ i m ys H, W i m ys H →
    (J.stop i H ∧ fin ys H) ∨
    (J.go i H ∧ ys.length < sizeLine ∧ ∀ x H', J.yld i H x H' → g x (List.replicate n none ++ cvals σ js) H' fun σ2 H2 => tc σ2 H2 fun b H3 =>
      if b = true then te σ2 H3 fun y H4 => ∃ m', m' < m ∧ W (i + 1) m' (ys ++ [y]) H4 else ∃ m', m' < m ∧ W (i + 1) m' ys H3)
def tComp (wi : TI) (n : Nat) (js : List Nat) (g : TG) (tc : TT) (te : TE) : TE := fun σ H Q => wi σ H fun J H1 =>
  CompW J n js g tc te σ H1 fun ys H2 => ∀ p, H2 p = none → Q (.ref p) (upd H2 p (.lst ys))

/-- a target that stores below place n alone -/
def Gk (n : Nat) (g : TG) : Prop := ∀ x σ H Q, g x σ H Q → g x σ H fun σ' H' => Q σ' H' ∧ (∀ j, n ≤ j → σ'[j]? = σ[j]?) ∧ σ'.length = σ.length
def Gks (n : Nat) (g : TGs) : Prop := ∀ x σ H Q, g x σ H Q → g x σ H fun σ' H' => Q σ' H' ∧ (∀ j, n ≤ j → σ'[j]? = σ[j]?) ∧ σ'.length = σ.length
theorem gk_name {n i : Nat} (h : i < n := by decide) : Gk n (gName i) := fun x σ H Q q => ⟨q, fun j hj => List.getElem?_set_ne (by omega), List.length_set⟩
theorem gks_nil {n : Nat} : Gks n gNil := fun x σ H Q q => ⟨q.1, q.2, fun _ _ => rfl, rfl⟩
theorem gks_cons {n : Nat} {t : TG} {u : TGs} (h1 : Gk n t) (h2 : Gks n u) (mt : ∀ x σ H Q Q', (∀ a b, Q a b → Q' a b) → t x σ H Q → t x σ H Q') (mu : ∀ x σ H Q Q', (∀ a b, Q a b → Q' a b) → u x σ H Q → u x σ H Q') : Gks n (gCons t u) := fun x σ H Q q => by
  obtain ⟨v, r, e, q⟩ := q
  refine ⟨v, r, e, mt _ _ _ _ _ (fun σ1 H1 z => ?_) (h1 _ _ _ _ q)⟩
  obtain ⟨z, k1, l1⟩ := z
  exact mu _ _ _ _ _ (fun σ2 H2 ⟨z2, k2, l2⟩ => ⟨z2, fun j hj => (k2 j hj).trans (k1 j hj), l2.trans l1⟩) (h2 _ _ _ _ z)
theorem gk_tup {K : PySem.W.Frag} {n m : Nat} {t : TGs} (h : Gks n t) : Gk n (gTup K m t) := fun x σ H Q q => by
  obtain ⟨a, xs, e, h1, h2, q⟩ := q
  exact ⟨a, xs, e, h1, h2, h _ _ _ _ q⟩

/-- the block, to the state behind it -/
theorem comp_core {X : Cx} {elt tg iter : Expr} {ifs : List Expr} {scope : Scope} {pos : Pos} {Nc Fc : List Str} {js : List Nat} {wi : TI} {g : TG} {tc : TT} {te : TE} {use : Option (Value → Sem Unit)} {QV : Value → Shared → Prop}
    (hcalm : X.calm = true) (c : CompOk X scope Nc Fc js) (hi : PI X tg iter wi)
    (hg : ∀ cl C s H fp, PG (cxC X Nc Fc scope cl C s H fp) tg g) (htc : ∀ cl C s H fp, PTs (cxC X Nc Fc scope cl C s H fp) ifs tc) (hte : ∀ cl C s H fp, PE (cxC X Nc Fc scope cl C s H fp) elt te) (gk : Gk Nc.length g)
    {pins : List (Addr × Obj)} {s : Shared} {σ : St} {H : Hp} {fin : List V → Hp → Prop} (I : Inv X pins σ H s)
    (h : wi σ H fun J H1 => CompW J Nc.length js g tc te σ H1 fin)
    (behind : ∀ (C D : Addr) (m : Str → Option Value) (ys : List V) (H2 : Hp) (s2 : Shared), Inv X pins σ (upd H2 D (.lst ys)) s2 → s2.heap.Ns C m → FpOk X pins (upd H2 D (.lst ys)) C → H2 D = none → fin ys H2 → compPost (model X.prog X.w) X.A X.xe use QV (.ref D) C (.ok .next) s2)
    (hs : ∀ x, foldedSetIterable iter X.env x = pure x) :
    wpAny (model X.prog X.w) X.A (comprehension (.ListComp elt [⟨tg, iter, ifs, 0⟩] scope pos) scope X.env (firstIterPos [⟨tg, iter, ifs, 0⟩] pos) (newList []) false (eval iter X.env) use) QV X.xe s := by
  obtain ⟨cl, hclos, hsub, hhas⟩ := closure_of (scope := scope) (env := X.env) fun y hy hf => I.ok.has y.1 (c.free y hy hf)
  refine wpAny_comprehension_free (use := use) rfl hs hclos c.kind c.names ?_
  refine thn (hi s σ H _ I h) fun v s1 h1 => thn h1 fun itv s2 h2 => ?_
  obtain ⟨it, fp, tn, J, H2, e, I2, T, st2, f2, W, ⟨m0, w0⟩, turn⟩ := h2
  subst e
  refine wpAny_newObj_type (wpAny_newFunctionEnv c.nocell (by intro y hy; simp at hy) (fun h1 hns1 hsb1 => ?_) c.kind)
  dsimp only at hns1 hsb1 ⊢
  generalize hG : s2.heap.push { cls := .type "list", dict := none, data := .seq ([] : List Value).toArray } = G at hns1 hsb1 ⊢
  have hC : G.objs.size = s2.heap.objs.size + 1 := by rw [← hG, Heap.size_push]
  have hDC : s2.heap.objs.size ≠ G.objs.size := by rw [hC]; exact Nat.ne_of_lt (Nat.lt_succ_self _)
  have hle : s2.heap.objs.size ≤ G.objs.size := by rw [hC]; exact Nat.le_succ _
  have old : ∀ b o, s2.heap.get? b = some o → h1.get? b = some o := fun b o e =>
    hsb1.extBut b o (addr_ne (Heap.lt_size e) hle) (Heap.get?_push_of_some _ (hG ▸ Heap.get?_push_of_some _ e))
  have hacc : h1.PlainList s2.heap.objs.size #[] := ⟨_, hsb1.extBut _ _ hDC (Heap.get?_push_of_some _ (hG ▸ Heap.get?_push_size _ rfl))⟩
  obtain ⟨n0, hacc⟩ := hacc
  have fo : ∀ b ∈ fp, ∃ o, s2.heap.get? b = some o := fun b hb => let ⟨o, e, _⟩ := T.obj 0 _ st2 b hb; ⟨o, e⟩
  have hDfp : ∀ b ∈ fp, b < s2.heap.objs.size := fun b hb => let ⟨o, e⟩ := fo b hb; Heap.lt_size e
  let Xc : Cx := cxC X Nc Fc scope cl G.objs.size s2 H2 fp
  let D : Addr := s2.heap.objs.size
  have stat : ∀ {pl : List (Addr × Obj)} {H' : Hp}, (∀ p ∈ pl, p.1 = D) → (∀ b ∈ fp, H' b = none) → ∀ b ∈ fp, FpOk Xc pl H' b := fun {pl H'} hp hn b hb => by
    refine ⟨hn b hb, ?_, ?_, .inl hb, fun x a e => ?_, fun p hq => ?_⟩
    · exact addr_ne (hDfp b hb) hle
    · exact (cxC_ok I2 c hsub hhas hle f2 fo).exfs b hb
    · exact (f2 b hb).2.2.2.2.1 x a (hsub _ _ e)
    · have q : p ∈ ([] : List (Addr × Obj)) ++ pl := hq
      rw [hp p (by simpa using q)]
      exact addr_ne' (hDfp b hb) (Nat.le_refl _)
  have loop : ∀ t1, codeAny (model X.prog X.w) X.A (.compLoop (.ListComp elt [⟨tg, iter, ifs, 0⟩] scope pos) 0 (.ref it) (.ref s2.heap.objs.size) (compEnvC scope cl G.objs.size X.env))
      (compPost (model X.prog X.w) X.A X.xe use QV (.ref s2.heap.objs.size) G.objs.size) { s2 with heap := h1, toks := t1 } := by
    intro t1
    refine comp_turns (fun n s' => ∃ i ys H' its k, Inv Xc [(D, { cls := .type "list", data := .seq its k })] (List.replicate Nc.length none ++ cvals σ js) H' s' ∧ Vals ys its.toList ∧ ys.length ≤ sizeLine ∧ tn i s'.heap ∧ (∀ b ∈ fp, H' b = none) ∧ W i n ys H') ?_ m0
      ⟨0, [], H2, #[], n0, cxC_inv I2 c hsub hhas hle (Nat.le_refl _) hDC f2 fo old hns1 hacc (fun _ z => nomatch z), .nil, Nat.zero_le _, T.keep _ _ _ st2 (fun b hb o e => old b o e), fun b hb => (f2 b hb).1, w0⟩
    rintro n s3 ⟨i, ys, H3, its, k, I3, rv, hz, st3, fr3, w3⟩
    have onlyD : ∀ p ∈ [(D, ({ cls := .type "list", data := .seq its k } : Obj))], p.1 = D := fun p hp => congrArg Prod.fst (List.mem_singleton.mp hp)
    rcases turn i n ys H3 w3 with ⟨stop, qn⟩ | ⟨go, hlt, step⟩
    · refine thn (T.done Xc rfl rfl rfl hcalm i _ s3 _ H3 noE I3 (stat onlyD fr3) st3 stop) fun r s4 ⟨hr, I4⟩ => ?_
      subst hr
      show compPost _ _ _ _ _ _ _ _ _
      obtain ⟨hDo, hDn, hDne, hDfs, _⟩ := I4.pin (D, _) (List.mem_append_right _ List.mem_cons_self)
      have hDC' : D ≠ G.objs.size := hDC
      obtain ⟨mC, hmC, _⟩ := I4.loc
      have hCn : H3 G.objs.size = none := I4.free
      have neD : ∀ b o, s2.heap.get? b = some o → b ≠ D := fun b o e => Nat.ne_of_lt (Heap.lt_size e)
      have u : Un (frs X.stack) fp H2 H3 s2.heap s4.heap := I4.base
      have hdn2 : H2 D = none := I2.hok.fresh (Nat.le_refl _)
      have u' : Un (frs X.stack) fp H2 (upd H3 D (.lst ys)) s2.heap s4.heap :=
        ⟨u.keep, u.slot, fun b o e n hx => by rw [upd_ne (neD b o e)]; exact u.free b o e n hx, u.there,
         fun b xs e => by rw [upd_ne (ne_of_none e hdn2)]; exact u.tups b xs e, fun b o xs e => by rw [upd_ne (ne_of_none e hdn2)]; exact u.frzs b o xs e,
         fun b ps e => by rw [upd_ne (ne_of_none e hdn2)]; exact u.tbls b ps e⟩
      have hok' : HOk X.prog X.w (upd H3 D (.lst ys)) s4.heap := I4.hok.adopt hDn ⟨hz, its.toList, k, rv, by simpa using hDo⟩
      have hch : ∀ b ∈ fp, (b ∈ X.ex ∨ X.s₀.heap.objs.size ≤ b) ∧ b ≠ X.env.locals ∧ (∀ x c, X.env.cells.lookup x = some c → c ≠ b) ∧ ∀ p ∈ X.pn ++ pins, p.1 ≠ b := fun b hb =>
        ⟨(f2 b hb).2.2.2.1, (f2 b hb).2.1, (f2 b hb).2.2.2.2.1, (f2 b hb).2.2.2.2.2⟩
      have os4 : s4.os = s2.os := I4.os
      have J4 : Inv X pins σ (upd H3 D (.lst ys)) s4 := I2.call' (H' := upd H3 D (.lst ys)) os4 u' hok' I4.bare hch
      refine behind G.objs.size D mC ys H3 s4 J4 hmC (I2.fpOk hle ?_) hDn qn
      rw [upd_ne (Ne.symm hDC')]
      exact hCn
    · refine thn (T.item Xc rfl rfl rfl hcalm i _ s3 _ H3 noE I3 (stat onlyD fr3) st3 go) fun r s4 ⟨u, hr, h4⟩ => ?_
      subst hr
      show wpAny _ _ (letOwnedTupleGo tg (.ref it) u) _ _ _
      refine thn h4 fun _ s5 ⟨x, H5, I5, r5, y5, st5, fr5⟩ => ?_
      have I5' := I5.pinned (stat onlyD fr5) (T.obj _ _ st5)
      refine thn (hg cl G.objs.size s2 H2 fp s5 _ H5 x u _ I5' r5 (gk _ _ _ _ (step x H5 y5))) fun _ s6 ⟨σ6, H6, I6, q6, kσ, kl⟩ => ?_
      refine thn (htc cl G.objs.size s2 H2 fp s6 σ6 H6 _ I6 q6) fun b s7 ⟨H7, I7, q7⟩ => ?_
      have later : ∀ {σ' : St} {H' : Hp} {s' : Shared}, Inv Xc ([(D, ({ cls := .type "list", data := .seq its k } : Obj))] ++ pinsAt fp s5.heap) σ' H' s' → tn (i + 1) s'.heap ∧ ∀ b ∈ fp, H' b = none := fun {σ' H' s'} Iz => by
        refine ⟨T.keep _ _ _ st5 fun b hb o e => (Iz.pin (b, o) (List.mem_append_right _ (List.mem_append_right _ (mem_pinsAt hb e)))).1, fun b hb => ?_⟩
        obtain ⟨o, e, d⟩ := T.obj _ _ st5 b hb
        exact (Iz.pin (b, o) (List.mem_append_right _ (List.mem_append_right _ (mem_pinsAt hb e)))).2.1
      have back : ∀ {pl : List (Addr × Obj)} {H' : Hp} {s' : Shared}, Inv Xc pl σ6 H' s' → Inv Xc pl (List.replicate Nc.length none ++ cvals σ js) H' s' := fun {pl H' s'} Iz => by
        refine Iz.weak (by rw [← kl]) fun j v hj => ?_
        by_cases hn : j < Nc.length
        · rw [List.getElem?_append_left (by simpa using hn), List.getElem?_replicate] at hj
          split at hj <;> cases hj
        · rw [kσ j (by omega)]; exact hj
      cases b with
      | false =>
        rw [if_neg Bool.false_ne_true] at q7 ⊢
        obtain ⟨m', hm', w7⟩ := q7
        obtain ⟨l1, l2⟩ := later I7
        exact ⟨m', hm', i + 1, ys, H7, its, k, back I7.unpinned, rv, hz, l1, l2, w7⟩
      | true =>
        rw [if_pos rfl] at q7 ⊢
        refine thn (hte cl G.objs.size s2 H2 fp s7 σ6 H7 _ I7 q7) fun yv s8 ⟨y, H8, I8, r8, q8⟩ => ?_
        obtain ⟨m', hm', w8⟩ := q8
        obtain ⟨hDo, hDn, hDne, hDfs, _⟩ := I8.pin (D, _) (List.mem_append_right _ (List.mem_append_left _ List.mem_cons_self))
        obtain ⟨l1, l2⟩ := later I8
        have hits : its.size = ys.length := by
          have e1 := rv.length
          simp only [Array.length_toList] at e1
          omega
        refine wpAny_list_append_plain (hsz := by omega) ⟨k, hDo⟩ fun h9 hl9 hs9 => ?_
        obtain ⟨k9, hD9⟩ := hl9
        have pinF : ∀ p ∈ pinsAt fp s5.heap, p.1 ≠ D := fun p hp => by
          obtain ⟨hb, _⟩ := of_pinsAt hp
          exact addr_ne (hDfp _ hb) (Nat.le_refl _)
        have I8' : Inv Xc (pinsAt fp s5.heap) σ6 H8 s8 := I8.pins_of fun p hp => I8.pin p (List.mem_append_right _ (List.mem_append_right _ hp))
        have I9 : Inv Xc (pinsAt fp s5.heap) σ6 H8 { s8 with heap := h9, toks := s8.toks } := I8'.turned (it := D) (fun b o hb e => hs9.extBut b o hb e) hDn hDC (.inr (Nat.le_refl _))
          (fun x a e z => by
            obtain ⟨v, q⟩ := I2.cell x a (hsub _ _ e)
            exact addr_ne q.lt (Nat.le_refl _) z) (fun p hp => pinF p (by
              have hp : p ∈ ([] : List (Addr × Obj)) ++ pinsAt fp s5.heap := hp
              simpa using hp))
        obtain ⟨st9, fr9⟩ : tn (i + 1) h9 ∧ ∀ b ∈ fp, H8 b = none := by
          refine ⟨T.keep _ _ _ l1 fun b hb o e => hs9.extBut b o ?_ e, l2⟩
          exact addr_ne (hDfp _ hb) (Nat.le_refl _)
        refine ⟨m', hm', i + 1, ys ++ [y], H8, its.push yv, k9, back (I9.pins_of fun p hp => ?_), ?_, ?_, st9, fr9, w8⟩
        · cases List.mem_singleton.mp hp
          exact ⟨hD9, hDn, hDne, hDfs, fun _ z => nomatch z⟩
        · rw [Array.toList_push]
          exact rv.append (.cons r8 .nil)
        · rw [List.length_append, List.length_singleton]; omega
  exact codeAny_compStart_list (loop _) (T.self _ 0 _ _ _ (T.keep _ _ _ st2 fun b hb o e => old b o e) (loop _))

theorem pe_lcomp {X : Cx} {elt tg iter : Expr} {ifs : List Expr} {scope : Scope} {pos : Pos} {Nc Fc : List Str} {js : List Nat} {wi : TI} {g : TG} {tc : TT} {te : TE}
    (hcalm : X.calm = true) (c : CompOk X scope Nc Fc js) (hi : PI X tg iter wi) (gk : Gk Nc.length g)
    (hg : ∀ cl C s H fp, PG (cxC X Nc Fc scope cl C s H fp) tg g) (htc : ∀ cl C s H fp, PTs (cxC X Nc Fc scope cl C s H fp) ifs tc) (hte : ∀ cl C s H fp, PE (cxC X Nc Fc scope cl C s H fp) elt te)
    (hs : ∀ x, foldedSetIterable iter X.env x = pure x := by intro _; rfl) :
    PE X (.ListComp elt [⟨tg, iter, ifs, 0⟩] scope pos) (tComp wi Nc.length js g tc te) := by
  intro pins s σ H Q I h
  rw [eval_ListComp]
  refine comp_core (use := none) hcalm c hi hg htc hte gk I h (fun C D m ys H2 s2 I2 hm hC hD q => ?_) hs
  refine ⟨m, hm, fun h' hs' => ?_⟩
  refine ⟨.ref D, _, I2.turned (it := C) (t' := s2.toks) (fun b o hb e => hs'.extBut b o hb e) hC.1 (hC.2.1) hC.2.2.2.1 hC.2.2.2.2.1 hC.2.2.2.2.2, rfl, q D hD⟩
/-- x = [..] in one row: the store comes ahead of the block's end -/
theorem ps_setcomp {X : Cx} {i : Nat} {y : Str} {elt tg iter : Expr} {ifs : List Expr} {scope : Scope} {pos pos' py : Pos} {Nc Fc : List Str} {js : List Nat} {wi : TI} {g : TG} {tc : TT} {te : TE} (hN : X.N.Nodup) (hy : X.N[i]? = some y) (hl : Loc X.env.scope y)
    (hcalm : X.calm = true) (c : CompOk X scope Nc Fc js) (hi : PI X tg iter wi) (gk : Gk Nc.length g)
    (hg : ∀ cl C s H fp, PG (cxC X Nc Fc scope cl C s H fp) tg g) (htc : ∀ cl C s H fp, PTs (cxC X Nc Fc scope cl C s H fp) ifs tc) (hte : ∀ cl C s H fp, PE (cxC X Nc Fc scope cl C s H fp) elt te)
    (hsw : swapsWith (.ListComp elt [⟨tg, iter, ifs, 0⟩] scope pos) (some (.Name y py)) pos'.line X.env = pure true := by rfl)
    (hs : ∀ x, foldedSetIterable iter X.env x = pure x := by intro _; rfl)
    (hf : X.fn y = true ∨ X.env.scope.names.lookup y = some .local := by first | exact .inl rfl | exact .inr rfl | assumption) :
    PS X (.Assign [.Name y py] (.ListComp elt [⟨tg, iter, ifs, 0⟩] scope pos) pos') (tAsg (tComp wi Nc.length js g tc te) (gName i)) := by
  intro pins s σ H E I h
  rw [exec_Assign_Name_used _ _ _ _ hsw]
  refine wpAny_bind (wpAny_standAt (wpAny_bind ?_))
  show wpAny _ X.A (do let _ ← comprehension (.ListComp elt [⟨tg, iter, ifs, 0⟩] scope pos) scope X.env _ (newList []) false (eval iter X.env) (some (assign (.Name y py) X.env))) _ _ s
  refine wpAny_bind (thn (comp_core (use := some (assign (.Name y py) X.env)) (QV := fun _ s' => SP X pins E .next s') hcalm c hi hg htc hte gk I h (fun C D m ys H2 s2 I2 hm hC hD q => ?_) hs) fun _ s' hq => wpAny_pure (wpAny_pure hq))
  show wpAny _ _ (assign (.Name y py) X.env (.ref D)) _ _ s2
  refine wpAny_assign_Name (store_ok2 I2 hN hy hl (v := .ref D) rfl (fun s3 I3 ⟨a, hsa, ha⟩ => ?_) hf)
  have hne : C ≠ a := by
    rcases ha with e | e
    · rw [e]; exact hC.2.1
    · exact fun z => hC.2.2.2.2.1 _ _ e z.symm
  refine ⟨m, hm.at' fun o e => hsa.extBut _ o hne e, fun h' hs' => ?_⟩
  exact ⟨_, _, I3.turned (it := C) (t' := s3.toks) (fun b o hb e => hs'.extBut b o hb e) hC.1 hC.2.1 hC.2.2.2.1 hC.2.2.2.2.1 hC.2.2.2.2.2, q D hD⟩
end L2

set_option Elab.async false
set_option linter.all false
set_option maxRecDepth 100000
set_option maxHeartbeats 4000000
/-! built-in calls over the hand layer -/
namespace L2
open PySem PySem.Spec PyProof.Rows

section
variable {X : Cx} {pins : List (Addr × Obj)} {σ : St} {H : Hp} {s : Shared} {p : Addr} {ys : List V}

/-- a list's iterator, as the consuming built-ins walk it -/
theorem walk_list {A : Around} (hh : A.handled = none) (I : Inv X pins σ H s) (hq : SqL X.K H p ys) {R : Value → Shared → Prop} {E : Value → Shared → Prop}
    (h : ∀ (its : List Value) (it : Addr) (s2 : Shared), Vals ys its → its.length ≤ sizeLine →
      Walks X.prog X.w A it [it, p] [it] its.toArray.size (fun i v => its.toArray[i]? = some v) (fun i h => h.IsListIter it p i ∧ h.IsList p its.toArray) → (s2.heap.IsListIter it p 0 ∧ s2.heap.IsList p its.toArray) → (∀ b ∈ [it, p], b < s2.heap.objs.size) →
      (∀ h' tk, (∀ b o, b ∉ [it] → s2.heap.get? b = some o → h'.get? b = some o) → Inv X pins σ H { s2 with heap := h', toks := tk }) → R (.ref it) s2) :
    wpAny (model X.prog X.w) A (pyIter (.ref p)) R E s := by
  obtain ⟨its, rv, pl, hz⟩ := I.list hq
  have hl := pl.isList
  have hp : p < s.heap.objs.size := by obtain ⟨o, e, _⟩ := hl; exact Heap.lt_size e
  refine wpAny_pyIter_list hl ?_
  refine h its s.heap.objs.size _ rv (by have := rv.length; omega) (Walks.list hh _ p (Nat.ne_of_lt hp) its.toArray) ⟨⟨_, Heap.get?_push_size _ rfl, rfl, rfl⟩, hl.push _⟩ (fun b hb => ?_) fun h' tk hk => ?_
  · show b < (s.heap.push _).objs.size
    rw [Heap.size_push]
    rcases List.mem_cons.mp hb with rfl | hb
    · exact Nat.lt_succ_self _
    · rw [List.mem_singleton.mp hb]; exact Nat.lt_succ_of_lt hp
  · exact I.kept (t' := tk) fun b o e => hk b o (fun z => addr_ne (Heap.lt_size e) (Nat.le_refl _) (List.mem_singleton.mp z)) (Heap.get?_push_of_some _ e)

theorem vals_at {ys : List V} {its : List Value} (r : Vals ys its) {i : Nat} {v : Value} (e : its.toArray[i]? = some v) : ∃ y, ys[i]? = some y ∧ RelV y v := by
  have e' : its[i]? = some v := by simpa using e
  have hi : i < its.length := (List.getElem?_eq_some_iff.mp e').1
  have hl := r.length
  obtain ⟨u, h1, h2⟩ := r.get (i := i) (x := ys[i]'(by omega)) (by simp)
  rw [e'] at h1; cases h1
  exact ⟨_, by simp, h2⟩

theorem range_all (bs : List Bool) : (List.range bs.length).all (fun i => bs.getD i false) = bs.all id := by
  induction bs with
  | nil => rfl
  | cons b r ih =>
    rw [List.length_cons, List.range_succ_eq_map, List.all_cons, List.all_map, List.all_cons, ← ih]
    rfl
theorem truth_bl {A : Around} {bs : List Bool} {its : List Value} (r : Vals (bs.map V.bl) its) : TruthOf X.prog X.w A (fun i v => its.toArray[i]? = some v) (fun i => bs.getD i false) := by
  intro i v s Q E e hQ
  obtain ⟨y, h1, h2⟩ := vals_at r e
  rw [List.getElem?_map] at h1
  cases q : bs[i]? with
  | none => rw [q] at h1; cases h1
  | some b =>
    rw [q] at h1; cases h1
    cases h2
    have : bs.getD i false = b := by simp [List.getD, q]
    have hQ : Q (bs.getD i false) s := hQ
    rw [this] at hQ
    exact wpAny_pure hQ
theorem call_all_bl (hc : X.calm = true) : CallR X (.builtin "all") (fun xs H Q => ∃ (p : Addr) (bs : List Bool), xs = [.ref p] ∧ SqL X.K H p (bs.map V.bl) ∧ Q (.bl (bs.all id)) H) := by
  intro pins s σ H xs us Q I r h
  obtain ⟨p, bs, rfl, hq, q⟩ := h
  obtain ⟨u, rfl, ru⟩ := vals1 r
  cases ru
  refine call_all_walk (walk_list (A := X.A.in1) (I.ok.hd hc) I hq fun its it s2 rv hz W st hlt hI => ?_)
  refine ⟨it, _, _, _, _, _, fun i => bs.getD i false, rfl, W, st, truth_bl rv, fun h' tk hk => ?_⟩
  have hl : its.toArray.size = bs.length := by have := rv.length; simp at this ⊢; omega
  rw [hl, range_all]
  exact ⟨.bl _, H, hI h' tk hk, rfl, q⟩
theorem int_at {ns : List Int} {its : List Value} (r : Vals (ns.map V.int) its) {i : Nat} {v : Value} (e : its.toArray[i]? = some v) : ∃ n t, ns[i]? = some n ∧ v = .int n t := by
  obtain ⟨y, h1, h2⟩ := vals_at r e
  rw [List.getElem?_map] at h1
  cases q : ns[i]? with
  | none => rw [q] at h1; cases h1
  | some b =>
    rw [q] at h1; cases h1
    obtain ⟨t, rfl⟩ := h2
    exact ⟨b, t, rfl, rfl⟩
theorem preSum_shift (val : Nat → Int) (n : Nat) : preSum val (n + 1) = val 0 + preSum (fun i => val (i + 1)) n := by
  induction n with
  | zero => simp [preSum]
  | succ n ih => rw [preSum, ih, preSum]; omega
theorem preSum_list (ns : List Int) : preSum (fun i => ns.getD i 0) ns.length = ns.sum := by
  induction ns with
  | nil => rfl
  | cons n r ih =>
    rw [List.length_cons, preSum_shift, List.sum_cons, ← ih]
    rfl
theorem call_sum_ints (hc : X.calm = true) : CallR X (.builtin "sum") (fun xs H Q => ∃ (p : Addr) (ns : List Int), xs = [.ref p] ∧ SqL X.K H p (ns.map V.int) ∧ Q (.int ns.sum) H) := by
  intro pins s σ H xs us Q I r h
  obtain ⟨p, ns, rfl, hq, q⟩ := h
  obtain ⟨u, rfl, ru⟩ := vals1 r
  cases ru
  refine call_sum_walkG (walk_list (A := X.A.in1) (I.ok.hd hc) I hq fun its it s2 rv hz W st hlt hI => ?_)
  refine ⟨it, _, _, _, _, _, fun i => ns.getD i 0, rfl, W, st, hlt, fun i v e => ?_, fun h' tk t' hk => ?_⟩
  · obtain ⟨n, t, h1, rfl⟩ := int_at rv e
    exact ⟨t, by simp [List.getD, h1]⟩
  · have hl : its.toArray.size = ns.length := by have := rv.length; simp at this ⊢; omega
    rw [hl, preSum_list]
    exact ⟨.int _, H, hI h' tk hk, ⟨_, rfl⟩, q⟩
theorem call_max_ints (hc : X.calm = true) : CallR X (.builtin "max") (fun xs H Q => ∃ (p : Addr) (ns : List Int), xs = [.ref p] ∧ SqL X.K H p (ns.map V.int) ∧ ns ≠ [] ∧ ∀ M, M ∈ ns → (∀ a ∈ ns, a ≤ M) → Q (.int M) H) := by
  intro pins s σ H xs us Q I r h
  obtain ⟨p, ns, rfl, hq, hne, q⟩ := h
  obtain ⟨u, rfl, ru⟩ := vals1 r
  cases ru
  have hn0 : 0 < ns.length := List.length_pos_iff.mpr hne
  refine call_max_walk (walk_list (A := X.A.in1) (I.ok.hd hc) I hq fun its it s2 rv hz W st hlt hI => ?_)
  have hl : its.toArray.size = ns.length := by have := rv.length; simp at this ⊢; omega
  refine ⟨it, _, _, _, _, _, fun i j => decide (ns.getD i 0 > ns.getD j 0), rfl, W, st, hlt, by omega, ?_, fun v h' tk e hk => ?_⟩
  · refine CmpOf.ints_gt (fun i => ns.getD i 0) fun {i v} e => ?_
    obtain ⟨n, t, h1, rfl⟩ := int_at rv e
    exact ⟨t, by simp [List.getD, h1]⟩
  · obtain ⟨n, t, h1, rfl⟩ := int_at rv e
    obtain ⟨b1, b2⟩ := argBest_gt (fun i => ns.getD i 0) (its.toArray.size - 1)
    refine ⟨.int n, H, hI h' tk hk, ⟨_, rfl⟩, q n (List.mem_of_getElem? h1) fun a ha => ?_⟩
    obtain ⟨j, hj⟩ := List.getElem?_of_mem ha
    have hjl : j < ns.length := (List.getElem?_eq_some_iff.mp hj).1
    have z := b2 j (by omega)
    have e1 : ns.getD j 0 = a := by simp [List.getD, hj]
    have e2 : ns.getD (argBest (fun i j => decide (ns.getD i 0 > ns.getD j 0)) (its.toArray.size - 1)) 0 = n := by rw [List.getD_eq_getElem?_getD, h1]; rfl
    rw [← e1, ← e2]
    exact z

/-! texts -/
theorem mt_startswith : MtR X "str.startswith" (fun x vs H Q => ∃ a b, x = .str a ∧ vs = [.str b] ∧ Q (.bl (Txt.startswith a b)) H) := by
  intro pins s σ H x vs v us Q I rx rv h
  obtain ⟨a, b, rfl, rfl, q⟩ := h
  obtain ⟨t, rfl⟩ := rx
  obtain ⟨u, rfl, t', rfl⟩ := rv.one
  exact SC.startswith ⟨.bl _, H, I, rfl, q⟩
theorem mt_strip1 : MtR X "str.strip" (fun x vs H Q => ∃ a b, x = .str a ∧ vs = [.str b] ∧ a.length ≤ sizeLine ∧ Q (.str (Txt.stripChars a b)) H) := by
  intro pins s σ H x vs v us Q I rx rv h
  obtain ⟨a, b, rfl, rfl, hz, q⟩ := h
  obtain ⟨t, rfl⟩ := rx
  obtain ⟨u, rfl, t', rfl⟩ := rv.one
  exact SC.stripChars (fun t' k => ⟨.str _, H, I.tok _, ⟨_, rfl⟩, q⟩) hz
theorem strs_are : ∀ {xs : List Str} {its : List Value}, Vals (xs.map V.str) its → StrsAre its xs := by
  intro xs its r
  induction xs generalizing its with
  | nil => cases r; exact StrsAre.nil
  | cons x xs ih =>
    cases r with
    | cons r1 r2 =>
      obtain ⟨t, rfl⟩ := r1
      exact StrsAre.cons x t (ih r2)
theorem mt_join : MtR X "str.join" (fun x vs H Q => ∃ (sep : Str) (p : Addr) (xs : List Str), x = .str sep ∧ vs = [.ref p] ∧ SqL X.K H p (xs.map V.str) ∧ (xs.map (·.length)).sum + xs.length * sep.length ≤ 16777216 ∧ Q (.str (Txt.join sep xs)) H) := by
  intro pins s σ H x vs v us Q I rx rv h
  obtain ⟨sep, p, xs, rfl, rfl, hq, hz, q⟩ := h
  obtain ⟨t, rfl⟩ := rx
  obtain ⟨u, rfl, ru⟩ := rv.one
  cases ru
  obtain ⟨its, r', pl, _⟩ := I.list hq
  exact join_list pl.isList (strs_are r') hz fun t' k => ⟨.str _, H, I.tok _, ⟨_, rfl⟩, q⟩
end
end L2

set_option Elab.async false
set_option linter.all false
set_option maxRecDepth 100000
set_option maxHeartbeats 4000000
/-! data in the heap, ==, isinstance, slices of texts, divmod -/
namespace L2
open PySem PySem.Spec PyProof.Rows

mutual
/-- the value tells this data -/
def Den (K : PySem.W.Frag) (H : Hp) : PyData → V → Prop
  | .none, v => v = .non
  | .bool b, v => v = .bl b
  | .int i, v => v = .int i
  | .str x, v => v = .str x
  | .list ds, v => ∃ a vs, v = .ref a ∧ SqL K H a vs ∧ Dens K H ds vs
  | .tuple ds, v => ∃ a vs, v = .ref a ∧ SqT K H a vs ∧ Dens K H ds vs
  | .dict _, _ => False
def Dens (K : PySem.W.Frag) (H : Hp) : List PyData → List V → Prop
  | [], vs => vs = []
  | d :: ds, vs => ∃ v r, vs = v :: r ∧ Den K H d v ∧ Dens K H ds r
end

theorem Same.seqT {K : PySem.W.Frag} {H H' : Hp} {a : Addr} {xs : List V} (e : Same H H') (h : SqT K H a xs) : SqT K H' a xs := by
  rcases h with (h | ⟨o, h⟩) | h
  · exact .inl (.inl (e _ _ h))
  · exact .inl (.inr ⟨o, e _ _ h⟩)
  · exact .inr h
mutual
theorem Den.same {K : PySem.W.Frag} {H H' : Hp} (e : Same H H') : ∀ {d : PyData} {v : V}, Den K H d v → Den K H' d v
  | .none, _, h => by unfold Den at h ⊢; exact h
  | .bool _, _, h => by unfold Den at h ⊢; exact h
  | .int _, _, h => by unfold Den at h ⊢; exact h
  | .str _, _, h => by unfold Den at h ⊢; exact h
  | .list ds, _, h => by
    unfold Den at h ⊢
    obtain ⟨a, vs, h1, h2, h3⟩ := h
    exact ⟨a, vs, h1, e.seq h2, Dens.same e h3⟩
  | .tuple ds, _, h => by
    unfold Den at h ⊢
    obtain ⟨a, vs, h1, h2, h3⟩ := h
    exact ⟨a, vs, h1, e.seqT h2, Dens.same e h3⟩
  | .dict _, _, h => by unfold Den at h; exact h.elim
theorem Dens.same {K : PySem.W.Frag} {H H' : Hp} (e : Same H H') : ∀ {ds : List PyData} {vs : List V}, Dens K H ds vs → Dens K H' ds vs
  | [], _, h => by unfold Dens at h ⊢; exact h
  | d :: ds, _, h => by
    unfold Dens at h ⊢
    obtain ⟨v, r, h1, h2, h3⟩ := h
    exact ⟨v, r, h1, Den.same e h2, Dens.same e h3⟩
end
mutual
theorem Den.reads {X : Cx} {pins : List (Addr × Obj)} {σ : St} {H : Hp} {s : Shared} (I : Inv X pins σ H s) : ∀ {d : PyData} {v : V} {u : Value}, Den X.K H d v → RelV v u → ∃ as, Reads s.heap u d as
  | .none, _, _, h, r => by unfold Den at h; subst h; cases r; exact ⟨_, .none⟩
  | .bool _, _, _, h, r => by unfold Den at h; subst h; cases r; exact ⟨_, .bool _⟩
  | .int _, _, _, h, r => by unfold Den at h; subst h; obtain ⟨t, rfl⟩ := r; exact ⟨_, .int _ _⟩
  | .str _, _, _, h, r => by unfold Den at h; subst h; obtain ⟨t, rfl⟩ := r; exact ⟨_, .str _ _⟩
  | .list ds, _, _, h, r => by
    unfold Den at h
    obtain ⟨a, vs, rfl, h2, h3⟩ := h
    cases r
    obtain ⟨its, rv, ⟨o, n, e1, e2, _, e4⟩, _⟩ := I.list h2
    obtain ⟨as, q⟩ := Dens.reads I h3 rv
    exact ⟨_, .list e1 e2 e4 (by simpa using q)⟩
  | .tuple ds, _, _, h, r => by
    unfold Den at h
    obtain ⟨a, vs, rfl, h2, h3⟩ := h
    cases r
    obtain ⟨its, rv, ⟨o, e1, e2, n, e4⟩, _⟩ := I.tuple h2
    obtain ⟨as, q⟩ := Dens.reads I h3 rv
    exact ⟨_, .tuple e1 e2 e4 (by simpa using q)⟩
  | .dict _, _, _, h, _ => by unfold Den at h; exact h.elim
theorem Dens.reads {X : Cx} {pins : List (Addr × Obj)} {σ : St} {H : Hp} {s : Shared} (I : Inv X pins σ H s) : ∀ {ds : List PyData} {vs : List V} {us : List Value}, Dens X.K H ds vs → Vals vs us → ∃ as, ReadsAll s.heap us ds as
  | [], _, _, h, r => by unfold Dens at h; subst h; cases r; exact ⟨_, .nil⟩
  | d :: ds, _, _, h, r => by
    unfold Dens at h
    obtain ⟨v, q, rfl, h2, h3⟩ := h
    cases r with
    | cons r1 r2 =>
      obtain ⟨as, q1⟩ := Den.reads I h2 r1
      obtain ⟨bs, q2⟩ := Dens.reads I h3 r2
      exact ⟨_, .cons q1 q2⟩
end
section
variable {X : Cx}
open PySem.SeqAt in
theorem op_eqD (hu : X.A.units + 64 < cLine) : OpR X (compareOp .Eq) (fun x y H Q => ∃ d e, Den X.K H d x ∧ Den X.K H e y ∧ shaped d = true ∧ shaped e = true ∧ Q (.bl (PyData.eqv d e)) H) := by
  intro pins s σ H x y v u Q I rx ry h
  obtain ⟨d, e, hd, he, sd, se, q⟩ := h
  obtain ⟨as, r1⟩ := hd.reads I rx
  obtain ⟨bs, r2⟩ := he.reads I ry
  exact eq_dataH r1 r2 sd se hu ⟨.bl _, H, I, rfl, q⟩
open PySem.SeqAt in
theorem op_neD (hu : X.A.units + 64 < cLine) : OpR X (compareOp .NotEq) (fun x y H Q => ∃ d e, Den X.K H d x ∧ Den X.K H e y ∧ shaped d = true ∧ shaped e = true ∧ Q (.bl (!PyData.eqv d e)) H) := by
  intro pins s σ H x y v u Q I rx ry h
  obtain ⟨d, e, hd, he, sd, se, q⟩ := h
  obtain ⟨as, r1⟩ := hd.reads I rx
  obtain ⟨bs, r2⟩ := he.reads I ry
  exact ne_dataH r1 r2 sd se hu ⟨.bl _, H, I, rfl, q⟩

/-- is True, is False -/
theorem op_isB : OpR X (compareOp .Is) (fun x y H Q => ∃ a b, x = .bl a ∧ y = .bl b ∧ Q (.bl (decide (a = b))) H) := by
  intro pins s σ H x y v u Q I rx ry h
  obtain ⟨a, b, rfl, rfl, q⟩ := h
  cases rx; cases ry
  refine wpAny_is_plain rfl (fin_bl I q ?_)
  cases a <;> cases b <;> rfl
theorem op_isnotB : OpR X (compareOp .IsNot) (fun x y H Q => ∃ a b, x = .bl a ∧ y = .bl b ∧ Q (.bl (!decide (a = b))) H) := by
  intro pins s σ H x y v u Q I rx ry h
  obtain ⟨a, b, rfl, rfl, q⟩ := h
  cases rx; cases ry
  refine wpAny_isNot_plain rfl (fin_bl I q ?_)
  cases a <;> cases b <;> rfl

/-! isinstance -/
theorem call_isi : CallR X (.builtin "isinstance") (fun xs H Q => ∃ x T t b, xs = [x, .ty T] ∧ TyOf X.K H x t ∧ PySem.W.kitOne X.K t (.type T) = some b ∧ Q (.bl b) H) := by
  intro pins s σ H xs us Q I r h
  obtain ⟨x, T, t, b, rfl, ty, e, q⟩ := h
  obtain ⟨u, w', rfl, r1, r2⟩ := vals2 r
  cases r2
  exact isinst_ok I r1 ty e fun tk => ⟨.bl b, H, I.tok _, rfl, q⟩
/-! a slice of a text -/
theorem sl_str : SlR X (fun x lo hi H Q => ∃ z, x = .str z ∧ z.length ≤ sizeLine ∧ Q (.str (Txt.slice z lo hi)) H) := by
  intro pins s σ H x v vl vu lo hi sl Q I rx hs pl pu q
  obtain ⟨z, rfl, hz, q⟩ := q
  obtain ⟨t, rfl⟩ := rx
  refine ⟨"str", _, F.slot_str_getitem.lookup, typeIs_str _ _ _, ?_⟩
  have fin : ∀ t' k, EP X pins σ Q (.str (Txt.slice z lo hi) t') { s with toks := k } := fun t' k => ⟨.str _, H, I.tok _, ⟨_, rfl⟩, q⟩
  cases pl with
  | none =>
    cases pu with
    | none => exact wpAny_getItem_str_slice (l := none) (u := none) (st := none) hs rfl (post_val_or_str ⟨Nat.le_trans (Txt.slice_le z _ _) hz, fin⟩)
    | int j uj => exact wpAny_getItem_str_slice (l := none) (u := some (j, uj)) (st := none) hs rfl (post_val_or_str ⟨Nat.le_trans (Txt.slice_le z _ _) hz, fin⟩)
  | int i ui =>
    cases pu with
    | none => exact wpAny_getItem_str_slice (l := some (i, ui)) (u := none) (st := none) hs rfl (post_val_or_str ⟨Nat.le_trans (Txt.slice_le z _ _) hz, fin⟩)
    | int j uj => exact wpAny_getItem_str_slice (l := some (i, ui)) (u := some (j, uj)) (st := none) hs rfl (post_val_or_str ⟨Nat.le_trans (Txt.slice_le z _ _) hz, fin⟩)

end
end L2

set_option Elab.async false
set_option linter.all false
set_option maxRecDepth 100000
set_option maxHeartbeats 4000000
/-! zip and enumerate over lists -/
namespace L2
open PySem PySem.Spec PyProof.Rows

section
variable {X : Cx} {pins : List (Addr × Obj)} {σ : St} {H : Hp} {s : Shared} {h' : Heap}
theorem Inv.iter {t' : Nat} {ch : List Addr} (I : Inv X pins σ H s) (hf : ∀ b ∈ ch, FpOk X pins H b) (keep : ∀ b o, b ∉ ch → s.heap.get? b = some o → h'.get? b = some o) : Inv X pins σ H { s with heap := h', toks := t' } := by
  have nch : ∀ b u, H b = some u → b ∉ ch := fun b u e z => by rw [(hf b z).1] at e; cases e
  refine I.step (g' := s.gens) (d' := s.drawn) (ch := ch) (fun b hb => ⟨(hf b hb).2.2.2.1, (hf b hb).2.1, (hf b hb).2.2.2.2.1, (hf b hb).2.2.2.2.2⟩) (fun b o _ _ hc e _ => keep b o hc e) (fun b o _ _ hc e _ => ⟨o.slots, keep b o hc e⟩)
    (fun _ _ _ _ n => n) (fun b o hc e => ⟨o, keep b o hc e⟩) (fun _ _ e => e) (fun _ _ _ e => e) (fun b ps e => ⟨#[], by rw [e]; simp⟩) (fun m hm => hm.at' fun o e => keep _ o (fun z => (hf _ z).2.1 rfl) e) (fun b u e => ?_) I.bare
  refine (I.hok b u e).stay (fun c v hc q => keep c v ?_ q) (fun _ q => q) fun _ _ q => q
  rcases hc with z | z
  · rw [z]; exact nch b u e
  · exact nch c _ z
theorem Inv.adopt {T : Addr} {o : HO} (I : Inv X pins σ H s) (hT : FpOk X pins H T) (hex : X.s₀.heap.objs.size ≤ T) (new : ObjOk X.prog X.w (upd H T o) s.heap T o) : Inv X pins σ (upd H T o) s :=
  ⟨I.ok, I.os, I.bare, ⟨I.base.keep, I.base.slot, fun b ob e n hx => by rw [upd_ne (addr_ne (Heap.lt_size e) hex)]; exact I.base.free b ob e n hx, I.base.there,
      fun b xs e => by rw [upd_ne (ne_of_none (I.base.tups b xs e) hT.1)]; exact I.base.tups b xs e, fun b ob xs e => by rw [upd_ne (ne_of_none (I.base.frzs b ob xs e) hT.1)]; exact I.base.frzs b ob xs e,
      fun b ps e => by
        obtain ⟨m, q⟩ := I.base.tbls b ps e
        exact ⟨m, by rw [upd_ne (ne_of_none q hT.1)]; exact q⟩⟩,
    I.loc, I.cell, by rw [upd_ne (Ne.symm hT.2.1)]; exact I.free, fun x c e => by rw [upd_ne (hT.2.2.2.2.1 x c e)]; exact I.freeC x c e,
    fun p hp => by
      obtain ⟨a, b, c, d, f⟩ := I.pin p hp
      exact ⟨a, by rw [upd_ne (hT.2.2.2.2.2 p hp)]; exact b, c, d, f⟩, I.hok.adopt hT.1 new, I.len⟩
end

theorem vals_get {xs : List V} {its : List Value} {i : Nat} {x : V} (r : Vals xs its) (e : xs[i]? = some x) : ∃ u, its.toArray[i]? = some u ∧ RelV x u := by
  obtain ⟨u, h1, h2⟩ := r.get e
  exact ⟨u, by simpa using h1, h2⟩
section
variable {X : Cx}
end
end L2

set_option Elab.async false
set_option linter.all false
set_option maxRecDepth 100000
set_option maxHeartbeats 4000000
/-! enumerate of a list -/
namespace L2
open PySem PySem.Spec PyProof.Rows

def Ite (K : PySem.W.Frag) (a : Addr) : It :=
  ⟨fun i H => ∃ xs x, SqL K H a xs ∧ xs[i]? = some x,
   fun i H v H' => ∃ T, v = .ref T ∧ H T = none ∧ ∀ xs x, SqL K H a xs → xs[i]? = some x → H' = upd H T (.tup [.int i, x]),
   fun i H => ∃ xs, SqL K H a xs ∧ xs.length ≤ i⟩
theorem turn_enum {P : Program} {w : World} {K : PySem.W.Frag} {elts : List Expr} {k : Nat} {tp : Pos} (e it l : Addr) (hei : e ≠ it) (hle : l ≠ e) (hli : l ≠ it) :
    Turn P w K (.Tuple elts k tp) (Ite K l) [e, it] e (fun i h => (∃ old, IsEnum h e it i old) ∧ h.IsListIter it l i) where
  mem := by simp
  obj := fun i h st b hb => by
    obtain ⟨⟨_, h1⟩, ⟨o4, h4, _, d4⟩⟩ := st
    simp at hb
    rcases hb with rfl | rfl
    · exact ⟨_, h1, fun _ z => nomatch z⟩
    · exact ⟨_, h4, fun v q => by rw [d4] at q; cases q⟩
  keep := fun i h h' st hk => by
    obtain ⟨⟨a, h1⟩, h4⟩ := st
    exact ⟨⟨a, hk e (by simp) _ h1⟩, h4.at fun o e => hk it (by simp) o e⟩
  item := fun X hP hw hK hc i pins s σ H E I hf st go => by
    subst hP hw hK
    obtain ⟨⟨old, he⟩, h1⟩ := st
    obtain ⟨xs, x, q1, e1⟩ := go
    obtain ⟨its1, r1, p1, _⟩ := I.list q1
    obtain ⟨u1, g1, ru1⟩ := vals_get r1 e1
    refine wpAny_pyNext_enum_item he h1 p1.isList g1 hei fun h' a1 a3 a5 a6 a7 => ⟨_, rfl, ?_⟩
    refine wpAny_letOwnedTupleGo_enum a1 fun h'' b1 b2 => ?_
    have hTz : s.heap.objs.size ≠ e := addr_ne' (Heap.lt_size he) (Nat.le_refl _)
    have kp : ∀ c o, c ∉ [e, it] → s.heap.get? c = some o → h''.get? c = some o := fun c o hc z => by
      simp only [List.mem_cons, List.not_mem_nil, or_false, not_or] at hc
      exact b2.extBut c o hc.1 (a7 c o hc.1 hc.2 z)
    have I1 : Inv X pins σ H { s with heap := h'', toks := s.toks + 1 } := I.iter hf kp
    have fT : FpOk X pins H s.heap.objs.size := I.fpOk (Nat.le_refl _) (I.hok.fresh (Nat.le_refl _))
    have oT : h''.get? s.heap.objs.size = some { cls := .type "tuple", data := .seq #[.int i s.toks, u1] } := b2.extBut _ _ hTz a5
    have I2 := I1.adopt (T := s.heap.objs.size) (o := .tup [.int i, x]) fT I.sz ⟨by show 2 ≤ sizeLine; decide, [.int i s.toks, u1], .cons ⟨_, rfl⟩ (.cons ru1 .nil), ⟨_, oT, rfl, _, rfl⟩⟩
    refine ⟨.ref s.heap.objs.size, _, I2, rfl, ⟨_, rfl, fT.1, fun xs' x' q1' e1' => ?_⟩, ⟨⟨_, by
      have b1 : IsEnum h'' e it ((i : Int) + 1) u1 := b1
      have z : (((i + 1 : Nat) : Int)) = (i : Int) + 1 := by omega
      show IsEnum h'' e it ((i + 1 : Nat) : Int) _
      rw [z]; exact b1⟩, a3.extBut b2.extBut (Ne.symm hei)⟩, fun c hc => ?_⟩
    · rw [I.list_inj q1' q1] at e1'
      rw [e1] at e1'; cases e1'; rfl
    · have hcs : c < s.heap.objs.size := by
        simp at hc
        obtain ⟨_, h1, _⟩ := h1
        rcases hc with rfl | rfl
        · exact Heap.lt_size he
        · exact Heap.lt_size h1
      rw [upd_ne (addr_ne hcs (Nat.le_refl _))]
      exact (hf c hc).1
  done := fun X hP hw hK hc i pins s σ H E I hf st stop => by
    subst hP hw hK
    obtain ⟨⟨old, he⟩, h1⟩ := st
    obtain ⟨xs, q1, e⟩ := stop
    obtain ⟨its1, r1, p1, _⟩ := I.list q1
    have l1' := r1.length
    refine wpAny_pyNext_enum_end (I.ok.hd hc) he h1 p1.isList (by simp; omega) fun h' kp => ⟨rfl, ?_⟩
    refine I.iter (ch := [it]) (t' := s.toks) (fun c hc => hf c (by simp at hc ⊢; simp [hc])) fun c o hc z => kp c o (fun q => hc (by simp [q])) z
  self := fun A i s Q E st hQ => by
    obtain ⟨⟨old, he⟩, _⟩ := st
    exact wpAny_pyIter_enum he hQ
section
variable {X : Cx}
def iEnum (K : PySem.W.Frag) (ta : TA) : TI := fun σ H R => ta σ H fun vs H1 => ∃ a, vs = [.ref a] ∧ (∃ xs, SqL K H1 a xs) ∧ R (Ite K a) H1
theorem pi_enum {elts : List Expr} {k : Nat} {tp : Pos} {a : Expr} {ta : TA} {p pos : Pos} (hg : Gl X "enumerate") (hm : X.mg "enumerate" = none) (ha : PA X [a] ta) (hb : bootBuiltins "enumerate" = some (.type "enumerate") := by first | rfl | decide) (hs : starEach [a] X.env = [(false, eval a X.env)] := by rfl) :
    PI X (.Tuple elts k tp) (.Call (.Name "enumerate" p) [a] [] pos) (iEnum X.K ta) := by
  intro pins s σ H R I h
  refine Call_ (ld_blt I hg hm hb (PyProof.Rows.callWith_type1 (thn (ha s σ H _ I h) fun us s1 ⟨vs, H1, I1, r1, q1⟩ => ?_) hs rfl))
  obtain ⟨l1, e, ⟨xs, q1⟩, q⟩ := q1
  subst e
  obtain ⟨u, rfl, ru⟩ := vals1 r1
  cases ru
  obtain ⟨its1, rv1, p1, _⟩ := I1.list q1
  have a1 : l1 < s1.heap.objs.size := by obtain ⟨_, e, _⟩ := p1.isList; exact Heap.lt_size e
  refine call_enumerate_list p1.isList (fun h' he hi1 hsz hk => ?_)
  refine wpAny_pyIter_enum he ?_
  have I2 : Inv X pins σ H1 { s1 with heap := h' } := I1.kept (t' := s1.toks) hk
  refine ⟨_, _, _, _, H1, rfl, I2, turn_enum _ _ _ (Nat.succ_ne_self _) (Nat.ne_of_lt (Nat.lt_succ_of_lt a1)) (Nat.ne_of_lt a1), ⟨⟨_, he⟩, hi1⟩, fun c hc => ?_, q⟩
  have hcs : s1.heap.objs.size ≤ c := by
    simp at hc
    rcases hc with rfl | rfl
    · exact Nat.le_add_right _ _
    · exact Nat.le_refl _
  exact I1.fpOk hcs (I1.hok.fresh hcs)
end
end L2

set_option Elab.async false
set_option linter.all false
set_option maxRecDepth 100000
set_option maxHeartbeats 4000000
/-! rules that do not ask for the kinds, calls of own defs, loops by turns -/
namespace L2
open PySem PySem.Spec PyProof.Rows

section
variable {X : Cx}
def rAddA : R2 := fun x y H Q => (∃ i j, x = .int i ∧ y = .int j ∧ Q (.int (i + j)) H) ∨ (∃ i j, x = .str i ∧ y = .str j ∧ i.length + j.length ≤ sizeLine ∧ Q (.str (i ++ j)) H) ∨ rCat x y H Q
theorem g_add : OpR X (binaryOp .Add) rAddA := op_add.or (op_add_str.or op_cat)
def rMulA : R2 := fun x y H Q => (∃ i j, x = .int i ∧ y = .int j ∧ CMul i j ∧ Q (.int (i * j)) H) ∨ rRep x y H Q
theorem g_mul : OpR X (binaryOp .Mult) rMulA := op_mul.or op_rep
/-- an own def, as callers use it -/
structure Fn (P : Program) (w : World) (K : PySem.W.Frag) (mg : Str → Option Value) (base : Heap) (k : Nat) (x : Str) (ps : List Str) (sp : Sp) : Prop where
  ex : ∃ f fd, FnOk P w K mg base CX0 k f fd ps sp ∧ Binds K fd ps [] ∧ PySem.W.keepIn K (.ref f) = true ∧ mg x = some (.ref f)
theorem Fn.mono {P : Program} {w : World} {K : PySem.W.Frag} {mg : Str → Option Value} {base : Heap} {j k : Nat} {x : Str} {ps : List Str} {sp : Sp} (F : Fn P w K mg base j x ps sp) (h : j ≤ k) : Fn P w K mg base k x ps sp := by
  obtain ⟨f, fd, a, b, c, d⟩ := F.ex
  exact ⟨f, fd, a.mono h, b, c, d⟩
theorem pe_fn {k : Nat} {x : Str} {ps : List Str} {sp : Sp} {p pos : Pos} {e : Expr} {es : List Expr} {t : TA} (F : Fn X.prog X.w X.K X.mg X.base k x ps sp) (hr : Room k X.A) (hg : Gl X x)
    (ha : PA X (e :: es) t) (hdb : (x == ("__debug__" : Str)) = false := by decide) (he : starEach (e :: es) X.env = (false, eval e X.env) :: starEach es X.env := by rfl) (hpl : (backTo pos (starEach es X.env)).any (·.1) = false := by rfl) :
    PE X (.Call (.Name x p) (e :: es) [] pos) (tCall sp [] E0 t) := by
  obtain ⟨f, fd, a, b, c, d⟩ := F.ex
  exact pe_call a hr hg d c b .nil pass0 ha hdb he hpl
end

/-- the closed look at a comprehension's scope -/
def compChk (pn sn : List (Str × NameKind)) (N Fc : List Str) (js : List Nat) : Bool :=
  sn.all (fun y => y.2 != .cell) && sn.all (fun y => y.2 != .local || sn.lookup y.1 == some .local) && sn.all (fun y => y.2 != .free || pn.lookup y.1 == some .cell || pn.lookup y.1 == some .free) && js.length == Fc.length &&
  (List.range Fc.length).all fun k => match Fc[k]?, js[k]? with
    | some x, some j => sn.lookup x == some .free && N[j]? == some x
    | _, _ => false
theorem comp_ok {X : Cx} {scope : Scope} {Nc Fc : List Str} {js : List Nat} (hk : scope.kind = .function := by rfl) (h : compChk X.env.scope.names scope.names X.N Fc js = true := by rfl) : CompOk X scope Nc Fc js := by
  unfold compChk at h
  simp only [Bool.and_eq_true, List.all_eq_true, Bool.or_eq_true, bne_iff_ne, beq_iff_eq, ne_eq] at h
  obtain ⟨⟨⟨⟨h1, h2⟩, h3⟩, h4⟩, h5⟩ := h
  refine ⟨hk, h1, fun y hy hl => (h2 y hy).resolve_left (fun z => z hl), fun y hy hf => ?_, fun k x hx => ?_, h4⟩
  · rcases h3 y hy with (z | z) | z
    · exact absurd hf z
    · exact .inl z
    · exact .inr z
  · have hk' : k < Fc.length := (List.getElem?_eq_some_iff.mp hx).1
    have q := h5 k (List.mem_range.mpr hk')
    have hj : k < js.length := by omega
    rw [hx, List.getElem?_eq_getElem hj] at q
    simp only [Bool.and_eq_true, beq_iff_eq] at q
    exact ⟨q.1, _, List.getElem?_eq_getElem hj, q.2⟩
end L2
namespace L2
open PySem PySem.Spec PyProof.Rows
section
variable {X : Cx}
theorem g_eq (hu : X.A.units + 64 < cLine) : OpR X (compareOp .Eq) (fun x y H Q => rEq x y H Q ∨ (∃ d e, Den X.K H d x ∧ Den X.K H e y ∧ SeqAt.shaped d = true ∧ SeqAt.shaped e = true ∧ Q (.bl (PyData.eqv d e)) H)) := op_eq.or (op_eqD hu)
theorem g_ne (hu : X.A.units + 64 < cLine) : OpR X (compareOp .NotEq) (fun x y H Q => rNe x y H Q ∨ (∃ d e, Den X.K H d x ∧ Den X.K H e y ∧ SeqAt.shaped d = true ∧ SeqAt.shaped e = true ∧ Q (.bl (!PyData.eqv d e)) H)) := op_ne.or (op_neD hu)
theorem g_is : OpR X (compareOp .Is) (fun x y H Q => (y = .non ∧ Q (.bl (decide (x = .non))) H) ∨ (∃ a b, x = .bl a ∧ y = .bl b ∧ Q (.bl (decide (a = b))) H)) := op_isN.or op_isB
theorem g_isnot : OpR X (compareOp .IsNot) (fun x y H Q => (y = .non ∧ Q (.bl (!decide (x = .non))) H) ∨ (∃ a b, x = .bl a ∧ y = .bl b ∧ Q (.bl (!decide (a = b))) H)) := op_notN.or op_isnotB
theorem g_sl : SlR X (fun x lo hi H Q => rSlL X.K x lo hi H Q ∨ (∃ z, x = .str z ∧ z.length ≤ sizeLine ∧ Q (.str (Txt.slice z lo hi)) H)) := sl_list.or sl_str
/-- the built-in names that no def of the text hides -/
structure Nm (mg : Str → Option Value) : Prop where
  n_len : mg "len" = none
  n_range : mg "range" = none
  n_max : mg "max" = none
  n_min : mg "min" = none
  n_sum : mg "sum" = none
  n_all : mg "all" = none
  n_any : mg "any" = none
  n_list : mg "list" = none
  n_tuple : mg "tuple" = none
  n_int : mg "int" = none
  n_str : mg "str" = none
  n_bool : mg "bool" = none
  n_zip : mg "zip" = none
  n_enumerate : mg "enumerate" = none
  n_isinstance : mg "isinstance" = none
  n_divmod : mg "divmod" = none
end
end L2

set_option Elab.async false
set_option linter.all false
set_option maxRecDepth 100000
set_option maxHeartbeats 4000000
/-! the same rules with the text's own objects K named (inside a comprehension no hole may hang on the block) -/
namespace L2
open PySem PySem.Spec PyProof.Rows
/-- a comprehension of N turns by what holds ahead of turn i; Nx is what is to be reached behind it -/
theorem comp_go {J : It} {n : Nat} {js : List Nat} {g : TG} {tc : TT} {te : TE} {σ : St} {H1 : Hp} {fin : List V → Hp → Prop} (N : Nat) (Pv : Nat → List V → Hp → Prop) (h0 : Pv 0 [] H1)
    (go : ∀ i ys H (Nx : List V → Hp → Prop), i < N → Pv i ys H → (∀ ys' H', Pv (i + 1) ys' H' → Nx ys' H') → J.go i H ∧ ys.length < sizeLine ∧
      ∀ x H', J.yld i H x H' → g x (List.replicate n none ++ cvals σ js) H' fun σ2 H2 => tc σ2 H2 fun b H3 => if b = true then te σ2 H3 fun y H4 => Nx (ys ++ [y]) H4 else Nx ys H3)
    (stop : ∀ ys H, Pv N ys H → J.stop N H ∧ fin ys H) : CompW J n js g tc te σ H1 fin := by
  refine ⟨fun i m ys H => m = N - i ∧ i ≤ N ∧ Pv i ys H, ⟨N, by simp, Nat.zero_le _, h0⟩, ?_⟩
  rintro i m ys H ⟨rfl, hi, p⟩
  by_cases hlt : i < N
  · exact .inr (go i ys H (fun ys' H' => ∃ m', m' < N - i ∧ (m' = N - (i + 1) ∧ i + 1 ≤ N ∧ Pv (i + 1) ys' H')) hlt p fun ys' H' q => ⟨_, by omega, rfl, hlt, q⟩)
  · have e : i = N := by omega
    subst e
    exact .inl (stop ys H p)
section
variable {X : Cx} (K : PySem.W.Frag)
theorem ixK (hK : X.K = K := by rfl) : IxR X (rIx K) := by subst hK; exact ix_seq
theorem slK (hK : X.K = K := by rfl) : SlR X (fun x lo hi H Q => rSlL K x lo hi H Q ∨ (∃ z, x = .str z ∧ z.length ≤ sizeLine ∧ Q (.str (Txt.slice z lo hi)) H)) := by subst hK; exact g_sl
theorem lenK (hK : X.K = K := by rfl) : CallR X (.builtin "len") (fun xs H Q => ∃ x n, xs = [x] ∧ LenV K x H n ∧ Q (.int n) H) := by subst hK; exact call_len
theorem joinK (hK : X.K = K := by rfl) : MtR X "str.join" (fun x vs H Q => ∃ (sep : Str) (p : Addr) (xs : List Str), x = .str sep ∧ vs = [.ref p] ∧ SqL K H p (xs.map V.str) ∧ (xs.map (·.length)).sum + xs.length * sep.length ≤ 16777216 ∧ Q (.str (Txt.join sep xs)) H) := by subst hK; exact mt_join
theorem piK {tg l : Expr} {tl : TE} (hl : PE X l tl) (hK : X.K = K := by rfl) : PI X tg l (iList K tl) := by subst hK; exact pi_list hl
theorem tupK {pos : Pos} {es : List Expr} {k : Nat} {t : TGs} (n : Nat) (hc : X.calm = true) (h : PGs X es t) (hn : (assignEach es X.env).length = n := by rfl) (hst : (assignEach es X.env).findIdx? (·.1) = none := by rfl) (hK : X.K = K := by rfl) : PG X (.Tuple es k pos) (gTup K n t) := by subst hK; exact pg_tup hc h hn hst
theorem bmK {o e : Expr} {es : List Expr} {to : TE} {t : TA} {name : Str} {apos cpos : Pos} {T id : String} {r : V → List V → Hp → VK → Prop} (pa : PlainAttrs T) (slot : Slot T name id) (hty : typeOf (.builtin id) = pure (.type "method_descriptor")) (hm : MtR X id r) (ho : PE X o to) (ha : PA X (e :: es) t)
    (hbase : attributeBase o name X.env (eval o X.env) = eval o X.env := by rfl)
    (hfew : ((backTo cpos (starEach (e :: es) X.env)).all (fun x => !x.1) && (backToKw cpos (keywordEach [] X.env)).all (fun x => x.1.isSome)
      && decide ((e :: es).length + ([] : List Keyword).length + (if ([] : List Keyword).isEmpty then 0 else 1) < 30)) = true := by rfl)
    (hline : (apos.endLine == cpos.line) = true := by rfl) (hs : starEach (e :: es) X.env = (false, eval e X.env) :: starEach es X.env := by rfl) (hplain : (backTo cpos (starEach es X.env)).any (·.1) = false := by rfl) (hK : X.K = K := by rfl) :
    PE X (.Call (.Attribute o name apos) (e :: es) [] cpos) (tBM K T r to t) := by subst hK; exact pe_bm pa slot hty hm ho ha hbase hfew hline hs hplain
theorem eqK (hu : X.A.units + 64 < cLine) (hK : X.K = K := by rfl) : OpR X (compareOp .Eq) (fun x y H Q => rEq x y H Q ∨ (∃ d e, Den K H d x ∧ Den K H e y ∧ SeqAt.shaped d = true ∧ SeqAt.shaped e = true ∧ Q (.bl (PyData.eqv d e)) H)) := by subst hK; exact g_eq hu
theorem neK (hu : X.A.units + 64 < cLine) (hK : X.K = K := by rfl) : OpR X (compareOp .NotEq) (fun x y H Q => rNe x y H Q ∨ (∃ d e, Den K H d x ∧ Den K H e y ∧ SeqAt.shaped d = true ∧ SeqAt.shaped e = true ∧ Q (.bl (!PyData.eqv d e)) H)) := by subst hK; exact g_ne hu
end
end L2

set_option Elab.async false
set_option linter.all false
set_option maxRecDepth 100000
set_option maxHeartbeats 4000000
/-! list(it) of anything that hands out items: what it must promise (Feed), and the list that comes of it -/
namespace L2
open PySem PySem.Spec PyProof.Rows

/-- keeps g h c: what stands outside c in g stands in h -/
abbrev Keeps (g h : Heap) (c : Addr → Prop) : Prop := ∀ b o, ¬ c b → g.get? b = some o → h.get? b = some o
/-- the thing at it hands out n items, while a list grows at S; fp: what a turn may change; St: its state; P: what is true of an item; R: of two items -/
structure Feed (prog : Program) (w : World) (A : Around) (it S : Addr) (T : String) (fp : Addr → Prop) (n : Nat) (P : Nat → Value → Heap → Prop) (R : Value → Value → Prop) (St : Nat → Heap → Prop) : Prop where
  sfp : ¬ fp S
  ne : it ≠ S
  ty : ∀ i h, St i h → ∃ o, h.get? it = some o ∧ o.cls = .type T
  self : ∀ (s : Shared) (Q : Value → Shared → Prop) (E : Value → Shared → Prop), St 0 s.heap → Q (.ref it) s → wpAny (model prog w) A (pyIter (.ref it)) Q E s
  item : ∀ i (s : Shared) (Q : Option Value → Shared → Prop) (E : Value → Shared → Prop), i < n → St i s.heap → S < s.heap.objs.size →
    (∀ v h' tk, Keeps s.heap h' fp → St (i + 1) h' → P i v h' → (∀ j u, P j u s.heap → R u v) → Q (some v) { s with heap := h', toks := tk }) → wpAny (model prog w) A (pyNext (.ref it)) Q E s
  stop : ∀ (s : Shared) (Q : Option Value → Shared → Prop) (E : Value → Shared → Prop), St n s.heap → S < s.heap.objs.size → (∀ h' tk, Keeps s.heap h' fp → Q none { s with heap := h', toks := tk }) → wpAny (model prog w) A (pyNext (.ref it)) Q E s
  keepS : ∀ i h h', St i h → Keeps h h' (· = S) → St i h'
  keepP : ∀ j v h h', P j v h → Keeps h h' (fun b => fp b ∨ b = S) → P j v h'
  nolen : typeLookup (.type T) "__len__" = pure none
  nohint : typeLookup (.type T) "__length_hint__" = pure none
  nl : (Value.type T == Value.type "list") = false
  nt : (Value.type T == Value.type "tuple") = false

/-- the list as far as it has grown -/
structure Grown (h : Heap) (S : Addr) (i : Nat) (P : Nat → Value → Heap → Prop) (R : Value → Value → Prop) (acc : Array Value) (c : Nat) : Prop where
  ob : h.get? S = some { cls := .type "list", data := .seq acc c }
  sz : acc.size = i
  pw : acc.toList.Pairwise R
  all : ∀ (j : Nat) v, acc[j]? = some v → P j v h
abbrev RunsTo (prog : Program) (w : World) (A : Around) (R : Result → Shared → Prop) : Fin → Shared → Prop := fun fin s' => match fin with
  | .done f => R (.ok f) s'
  | .again c' => c'.quiet = true ∧ codeAny (model prog w) A c' R s'

section
variable {prog : Program} {w : World} {A : Around} {it S : Addr} {T : String} {fp : Addr → Prop} {n : Nat} {P : Nat → Value → Heap → Prop} {R : Value → Value → Prop} {St : Nat → Heap → Prop}
/-- what the list is at the end, over the heap g at the start -/
abbrev FeedEnd (g : Heap) (S : Addr) (fp : Addr → Prop) (n : Nat) (P : Nat → Value → Heap → Prop) (R : Value → Value → Prop) (s : Shared) (Z : Shared → Prop) : Prop :=
  ∀ h' tk acc c, Keeps g h' (fun b => fp b ∨ b = S) → Grown h' S n P R acc c → Z { s with heap := h', toks := tk }

theorem feed_loop (Fd : Feed prog w A.in1 it S T fp n P R St) (hn : n ≤ sizeLine) {s : Shared} {Z : Result → Shared → Prop} {res : Value} {g : Heap} (fin : FeedEnd g S fp n P R s (Z (.ok (.ret res)))) :
    ∀ (k i : Nat) (h : Heap) (tk : Nat) (acc : Array Value) (c : Nat), i + k = n → St i h → Grown h S i P R acc c → Keeps g h (fun b => fp b ∨ b = S) →
      codeAny (model prog w) A (.builtin "list.extend.loop" ⟨[.ref S, .ref it, res], []⟩) Z { s with heap := h, toks := tk }
  | 0, i, h, tk, acc, c, hk, hst, G, kp => by
    have e : i = n := by omega
    subst e
    refine codeAny_builtin PySem.F.entry_extend_loop ?_
    rw [Around.under_plainId PySem.F.plain_extend_loop _]
    refine wpAny_bind (Fd.stop { s with heap := h, toks := tk } _ _ hst (Heap.lt_size G.ob) fun h' tk' k' => wpAny_pure ?_)
    exact fin h' tk' acc c (fun b o nb q => k' b o (fun z => nb (.inl z)) (kp b o nb q)) ⟨k' _ _ Fd.sfp G.ob, G.sz, G.pw, fun j v e => Fd.keepP _ _ _ _ (G.all j v e) fun b o nb q => k' b o (fun z => nb (.inl z)) q⟩
  | k + 1, i, h, tk, acc, c, hk, hst, G, kp => by
    refine codeAny_builtin PySem.F.entry_extend_loop ?_
    rw [Around.under_plainId PySem.F.plain_extend_loop _]
    refine wpAny_bind (Fd.item i { s with heap := h, toks := tk } _ _ (by omega) hst (Heap.lt_size G.ob) fun v h' tk' k' st' pv rv => ?_)
    have ob' := k' _ _ Fd.sfp G.ob
    have other : Keeps h' (h'.update S (Obj.mapSeq (·.push v))) (· = S) := fun b o nb q => (Heap.get?_update_other _ _ (Ne.symm nb)).trans q
    have k2 : Keeps h (h'.update S (Obj.mapSeq (·.push v))) (fun b => fp b ∨ b = S) := fun b o nb q => other b o (fun z => nb (.inr z)) (k' b o (fun z => nb (.inl z)) q)
    have sz := G.sz
    refine wpAny_bind (wpAny_updateSeq ob' rfl (wpAny_pure ⟨plainId_quiet PySem.F.plain_extend_loop _, ?_⟩) (by rw [sz]; omega) (by show (acc.push v).size ≤ sizeLine + 1; rw [Array.size_push, sz]; omega))
    refine feed_loop Fd hn fin k (i + 1) _ tk' (acc.push v) _ (by omega) (Fd.keepS _ _ _ st' other) ⟨Heap.get?_update_self _ ob' rfl, by rw [Array.size_push, sz], ?_, fun j u e => ?_⟩ (fun b o nb q => k2 b o nb (kp b o nb q))
    · rw [Array.toList_push]
      refine List.pairwise_append.mpr ⟨G.pw, List.pairwise_singleton _ _, fun a ha b hb => ?_⟩
      obtain ⟨j, hj⟩ := List.mem_iff_getElem?.mp ha
      rw [List.mem_singleton.mp hb]
      exact rv j a (G.all j a (by simpa using hj))
    · by_cases hj : j < i
      · rw [Array.getElem?_push_lt (by omega)] at e
        exact Fd.keepP _ _ _ _ (G.all j u (by rw [Array.getElem?_eq_getElem (by omega)]; exact e)) k2
      · have hj' : j = i := by
          have := (Array.getElem?_eq_some_iff.mp e).1
          rw [Array.size_push] at this
          omega
        subst hj'
        have e' : (acc.push v)[acc.size]? = some u := by rw [sz]; exact e
        rw [Array.getElem?_push_size] at e'
        cases e'
        exact Fd.keepP _ _ _ _ pv fun b o nb q => other b o (fun z => nb (.inr z)) q

theorem feed_extend (Fd : Feed prog w A.in1 it S T fp n P R St) (hn : n ≤ sizeLine) {s : Shared} {Z : Result → Shared → Prop} {res : Value} {c₀ : Nat} (hst : St 0 s.heap) (hS : s.heap.get? S = some { cls := .type "list", data := .seq #[] c₀ })
    (fin : FeedEnd s.heap S fp n P R s (Z (.ok (.ret res)))) :
    wpAny (model prog w) A.in1 (Builtin.List.listExtendWith (.ref S) (.ref it) res) (RunsTo prog w A Z) (fun e s' => Z (.error e) s') s := by
  have go : ∀ (h : Heap) (c tk : Nat), Keeps s.heap h (· = S) → h.get? S = some { cls := .type "list", data := .seq #[] c } → codeAny (model prog w) A (.builtin "list.extend.loop" ⟨[.ref S, .ref it, res], []⟩) Z { s with heap := h, toks := tk } :=
    fun h c tk k o => feed_loop Fd hn fin n 0 h tk #[] c (by omega) (Fd.keepS _ _ _ hst k) ⟨o, rfl, .nil, fun j v e => by simp at e⟩ fun b o nb q => k b o (fun z => nb (.inr z)) q
  obtain ⟨oi, hoi, hci⟩ := Fd.ty 0 _ hst
  have hT : s.TypeIs (.ref it) T := ⟨oi, hoi, hci⟩
  have nsame : Builtin.List.listSameRef (.ref S) (.ref it) = false := by simp [Builtin.List.listSameRef, Ne.symm Fd.ne]
  unfold Builtin.List.listExtendWith
  refine wpAny_bind (wpAny_typeOf hT ?_)
  simp only [nsame, Fd.nl, Fd.nt, Bool.or_false, Bool.false_eq_true, if_false]
  refine wpAny_bind (Fd.self s _ _ hst ?_)
  have hint : ∀ (Q : Bool → Shared → Prop), Q true s → wpAny (model prog w) A.in1 (Builtin.List.listLengthHint (.ref it)) Q (fun e s' => Z (.error e) s') s := fun Q q => by
    unfold Builtin.List.listLengthHint
    refine wpAny_bind (wpAny_specialOf hT Fd.nolen ?_)
    refine wpAny_ite_split (fun z => absurd z (by decide)) fun _ => wpAny_ite_split (fun z => absurd z (by decide)) fun _ => ?_
    exact wpAny_bind (wpAny_specialOf hT Fd.nohint (wpAny_pure q))
  refine wpAny_bind (wpAny_holding (hint _ ?_))
  refine wpAny_ite_split (fun _ => ?_) fun _ => wpAny_pure ⟨plainId_quiet PySem.F.plain_extend_loop _, go _ c₀ _ (fun _ _ _ q => q) hS⟩
  refine wpAny_bind (wpAny_rule (wpAny_bind ?_))
  have o1 := Heap.get?_update_self (Obj.mapSeq (·.push Value.none)) hS rfl
  have o2 := Heap.get?_update_self (Obj.mapSeq (·.pop)) o1 rfl
  refine wpAny_bind (wpAny_updateSeq hS rfl (wpAny_updateSeq (hz := by seq_fits) o1 rfl (wpAny_pure ⟨plainId_quiet PySem.F.plain_extend_loop _, go _ _ _ (fun b o nb q => ?_) o2⟩)))
  exact (Heap.get?_update_other _ _ (Ne.symm nb)).trans ((Heap.get?_update_other _ _ (Ne.symm nb)).trans q)

theorem feed_init (Fd : Feed prog w A.in1 it S T fp n P R St) (hn : n ≤ sizeLine) {s : Shared} {Z : Result → Shared → Prop} (hst : St 0 s.heap) (hS : s.heap.get? S = some { cls := .type "list", data := .seq #[] })
    (fin : FeedEnd s.heap S fp n P R s (Z (.ok (.ret .none)))) :
    wpAny (model prog w) A.in1 (Builtin.«list.__init__» ⟨[.ref S, .ref it], []⟩) (RunsTo prog w A Z) (fun e s' => Z (.error e) s') s := by
  refine wpAny_bind ?_
  unfold Builtin.List.listItems
  refine wpAny_bind (wpAny_seqItems hS rfl (wpAny_pure ?_))
  have o1 := Heap.get?_update_self (Obj.mapSeq (fun _ => (#[] : Array Value))) hS rfl
  have k1 : Keeps s.heap (s.heap.update S (Obj.mapSeq (fun _ => (#[] : Array Value)))) (· = S) := fun b o nb q => (Heap.get?_update_other _ _ (Ne.symm nb)).trans q
  refine wpAny_bind (wpAny_updateSeq hS rfl (wpAny_bind (wpAny_letGo ?_)))
  refine feed_extend (s := { s with heap := _ }) Fd hn (Fd.keepS _ _ _ hst k1) o1 fun h' tk acc c k G => ?_
  exact fin h' tk acc c (fun b o nb q => k b o nb (k1 b o (fun z => nb (.inr z)) q)) G

/-- list(it): the list stands at the first free address -/
theorem feed_call {s : Shared} {Q : Value → Shared → Prop} {E : Value → Shared → Prop} (Fd : Feed prog w A.in1.in1 it s.heap.objs.size T fp n P R St) (hn : n ≤ sizeLine) (hst : ∀ o, St 0 (s.heap.push o))
    (fin : ∀ h' tk acc c, Keeps s.heap h' fp → Grown h' s.heap.objs.size n P R acc c → Q (.ref s.heap.objs.size) { s with heap := h', toks := tk }) :
    wpAny (model prog w) A (call (.type "list") [.ref it]) Q E s := by
  refine callType_codes (Q₁ := fun obj s₁ => obj = .ref s.heap.objs.size ∧ s₁ = { s with heap := s.heap.push { cls := .type "list", data := .seq #[] } }) F.called_list (F.typeCall_list_1 _) F.entry_list_init
    (code_list_new _ ⟨rfl, rfl⟩) fun obj s₁ h₁ => ?_
  obtain ⟨rfl, rfl⟩ := h₁
  have hS : (s.heap.push { cls := .type "list", data := .seq #[] }).get? s.heap.objs.size = some { cls := .type "list", data := .seq #[] } := Heap.get?_push_size _ rfl
  refine ⟨⟨_, hS, rfl⟩, F.args_list_init_2 _ _, feed_init (s := { s with heap := _ }) (A := A.in1) Fd hn (hst _) hS fun h' tk acc c k G => ⟨rfl, fin h' tk acc c (fun b o nb q => ?_) G⟩⟩
  exact k b o (fun z => z.elim nb fun z => addr_ne (Heap.lt_size q) (Nat.le_refl _) z) (Heap.get?_push_of_some _ q)
end
end L2

set_option Elab.async false
set_option linter.all false
set_option maxRecDepth 100000
set_option maxHeartbeats 4000000
/-! zip of two lists as a Feed: every pair that it has handed out is still held, so it lays a new one each turn -/
namespace L2
open PySem PySem.Spec PyProof.Rows

/-- a zip whose last pair stands at a -/
abbrev ZipOut (h : Heap) (z TI TO a : Addr) (f : Bool) : Prop :=
  h.get? z = some { cls := .type "zip", dict := none, data := .fields #[rawInt a, .bool f, .bool false, .ref TI, .ref TO], slots := #[] }
section
variable {prog : Program} {w : World} {A : Around} {E : Value → Shared → Prop} {s : Shared} {z TI TO i1 i2 l1 l2 a : Addr} {f : Bool} {oa : Obj}
theorem zip_busy {Q : Bool → Shared → Prop} (hz : ZipOut s.heap z TI TO a f) (ha : s.heap.get? a = some oa)
    (q : ∀ h, ZipOut h z TI TO a true → Heap.SameBut z s.heap h → Q false { s with heap := h }) : wpAny (model prog w) A (Builtin.SmallTypes.ownedTupleIsFree (.ref z)) Q E s := by
  unfold Builtin.SmallTypes.ownedTupleIsFree
  refine wpAny_bind (wpAny_field hz rfl (x := rawInt a) rfl ?_)
  show wpAny _ _ (loadIfAlive ((a : Int).toNat) >>= _) _ _ _
  rw [Int.toNat_natCast]
  refine wpAny_bind (PySem.W.kdx_alive ha ?_)
  simp only [Option.isNone_some, Bool.false_eq_true, if_false]
  refine wpAny_bind (wpAny_field hz rfl (x := .bool f) rfl ?_)
  cases f
  · exact wpAny_bind (wpAny_setField_rec hz (by simp) fun h e k => wpAny_pure (q h e k))
  · exact wpAny_pure (q s.heap hz (Heap.SameBut.refl _ _))
theorem zip_out_item {k : Nat} {xs ys : Array Value} {x y : Value} {Q : Option Value → Shared → Prop} (D : ZipApart z TI TO i1 i2 l1 l2) (hz : ZipOut s.heap z TI TO a f) (ha : s.heap.get? a = some oa) (hTI : IsPair s.heap TI (.ref i1) (.ref i2))
    (h1 : s.heap.IsListIter i1 l1 k) (h2 : s.heap.IsListIter i2 l2 k) (hl1 : s.heap.IsList l1 xs) (hl2 : s.heap.IsList l2 ys) (hx : xs[k]? = some x) (hy : ys[k]? = some y)
    (q : ∀ h', ZipOut h' z TI TO a true → h'.IsListIter i1 l1 (k + 1) → h'.IsListIter i2 l2 (k + 1) → IsPair h' s.heap.objs.size x y → Keeps s.heap h' (fun b => b = z ∨ b = i1 ∨ b = i2) → Q (some (.ref s.heap.objs.size)) { s with heap := h' }) :
    wpAny (model prog w) A (pyNext (.ref z)) Q E s := by
  have hT : s.TypeIs (.ref z) "zip" := ⟨_, hz, rfl⟩
  unfold pyNext
  refine wpAny_bind (wpAny_attempt (wpAny_callSpecial?_slot (name := Str.ofString "__next__") hT F.slot_zip_next (wpAny_call_entry F.slot_zip_next hT F.entry_zip_next ?_ (F.args_zip_next_1 _))))
  change wpAny _ _ (Bind.bind (field (.ref z) 2) _) _ _ _
  refine wpAny_bind (wpAny_field hz rfl (x := .bool false) rfl ?_)
  change wpAny _ _ (Bind.bind (field (.ref z) 3) _) _ _ _
  refine wpAny_bind (wpAny_field hz rfl (x := .ref TI) rfl (wpAny_bind (wpAny_seqItems hTI rfl ?_)))
  change wpAny _ _ (Bind.bind (Builtin.SmallTypes.ownedTupleIsFree (.ref z)) _) _ _ _
  refine wpAny_bind (zip_busy hz ha fun h0 z0 k0 => ?_)
  simp only [Bool.false_eq_true, if_false, ← Array.forIn_toList, List.forIn_cons, List.forIn_nil]
  refine wpAny_bind (wpAny_bind (wpAny_bind (wpAny_holding (wpAny_bind (wpAny_nextOf_list_item (h1.extBut k0.extBut D.i1z) (hl1.extBut k0.extBut D.l1z) hx fun h4 e4 k4 => wpAny_pure (wpAny_pure ?_))))))
  refine wpAny_bind (wpAny_bind (wpAny_holding (wpAny_bind (wpAny_nextOf_list_item ((h2.extBut k0.extBut D.i2z).extBut k4.extBut D.i12.symm) ((hl2.extBut k0.extBut D.l2z).extBut k4.extBut D.l2i1) hy fun h5 e5 k5 => wpAny_pure (wpAny_pure (wpAny_pure ?_))))))
  refine wpAny_bind (wpAny_newTuple (hsz := by show 2 ≤ sizeLine; decide) (wpAny_pure ⟨_, rfl, wpAny_pure ?_⟩))
  have hsz : h5.objs.size = s.heap.objs.size := by rw [k5.1, k4.1, k0.1]
  show Q (some (.ref h5.objs.size)) _
  rw [hsz]
  refine q (h5.push { cls := .type "tuple", data := .seq #[x, y] }) (Heap.get?_push_of_some _ (k5.extBut _ _ D.i2z.symm (k4.extBut _ _ D.i1z.symm z0))) ((e4.extBut k5.extBut D.i12).at fun o e => Heap.get?_push_of_some _ e) (e5.at fun o e => Heap.get?_push_of_some _ e) (by rw [← hsz]; exact Heap.get?_push_size _ rfl) fun b o nb e => ?_
  exact Heap.get?_push_of_some _ (k5.extBut _ _ (fun z => nb (.inr (.inr z))) (k4.extBut _ _ (fun z => nb (.inr (.inl z))) (k0.extBut _ _ (fun z => nb (.inl z)) e)))
theorem zip_out_stop {k : Nat} {xs ys : Array Value} {Q : Option Value → Shared → Prop} (hh : A.handled = none) (D : ZipApart z TI TO i1 i2 l1 l2) (hz : ZipOut s.heap z TI TO a f) (ha : s.heap.get? a = some oa) (hTI : IsPair s.heap TI (.ref i1) (.ref i2))
    (h1 : s.heap.IsListIter i1 l1 k) (h2 : s.heap.IsListIter i2 l2 k) (hl1 : s.heap.IsList l1 xs) (hl2 : s.heap.IsList l2 ys) (he : xs[k]? = none ∨ ys[k]? = none)
    (q : ∀ h', Keeps s.heap h' (fun b => b = z ∨ b = i1 ∨ b = i2) → Q none { s with heap := h' }) :
    wpAny (model prog w) A (pyNext (.ref z)) Q E s := by
  have hT : s.TypeIs (.ref z) "zip" := ⟨_, hz, rfl⟩
  unfold pyNext
  refine wpAny_bind (wpAny_attempt (wpAny_callSpecial?_slot (name := Str.ofString "__next__") hT F.slot_zip_next (wpAny_call_entry F.slot_zip_next hT F.entry_zip_next ?_ (F.args_zip_next_1 _))))
  change wpAny _ _ (Bind.bind (field (.ref z) 2) _) _ _ _
  refine wpAny_bind (wpAny_field hz rfl (x := .bool false) rfl ?_)
  change wpAny _ _ (Bind.bind (field (.ref z) 3) _) _ _ _
  refine wpAny_bind (wpAny_field hz rfl (x := .ref TI) rfl (wpAny_bind (wpAny_seqItems hTI rfl ?_)))
  change wpAny _ _ (Bind.bind (Builtin.SmallTypes.ownedTupleIsFree (.ref z)) _) _ _ _
  refine wpAny_bind (zip_busy hz ha fun h0 z0 k0 => ?_)
  simp only [Bool.false_eq_true, if_false, ← Array.forIn_toList, List.forIn_cons, List.forIn_nil]
  refine wpAny_bind (wpAny_bind (wpAny_bind (wpAny_holding ?_)))
  cases hx : xs[k]? with
  | none =>
    refine wpAny_bind (wpAny_nextOf_list_end hh (h1.extBut k0.extBut D.i1z) (hl1.extBut k0.extBut D.l1z) hx fun h4 e k4 oe => ?_)
    obtain ⟨o, ho, hc⟩ := oe
    exact wpAny_bind (wpAny_isInstance (T := "StopIteration") (b := true) ⟨o, ho, hc⟩ isSubtype_stop (wpAny_pure (q h4 fun b o nb x => k4 _ _ (fun z => nb (.inr (.inl z))) (k0.extBut _ _ (fun z => nb (.inl z)) x))))
  | some x =>
    have hy : ys[k]? = none := he.resolve_left (by rw [hx]; exact fun z => nomatch z)
    refine wpAny_bind (wpAny_nextOf_list_item (h1.extBut k0.extBut D.i1z) (hl1.extBut k0.extBut D.l1z) hx fun h4 e4 k4 => wpAny_pure (wpAny_pure ?_))
    refine wpAny_bind (wpAny_bind (wpAny_holding (wpAny_bind (wpAny_nextOf_list_end hh ((h2.extBut k0.extBut D.i2z).extBut k4.extBut D.i12.symm) ((hl2.extBut k0.extBut D.l2z).extBut k4.extBut D.l2i1) hy fun h5 e k5 oe => ?_))))
    obtain ⟨o, ho, hc⟩ := oe
    exact wpAny_bind (wpAny_isInstance (T := "StopIteration") (b := true) ⟨o, ho, hc⟩ isSubtype_stop (wpAny_pure (q h5 fun b o nb x => k5 _ _ (fun z => nb (.inr (.inr z))) (k4.extBut _ _ (fun z => nb (.inr (.inl z))) (k0.extBut _ _ (fun z => nb (.inl z)) x)))))
end
/-- the zip ahead of its i-th pair; S: where the list of its pairs grows -/
structure ZipFeeds (z TI TO i1 i2 l1 l2 S : Addr) (xs ys : Array Value) (i : Nat) (h : Heap) : Prop where
  ti : IsPair h TI (.ref i1) (.ref i2)
  to : ∃ a b, IsPair h TO a b
  it1 : h.IsListIter i1 l1 i
  it2 : h.IsListIter i2 l2 i
  a1 : h.IsList l1 xs
  a2 : h.IsList l2 ys
  zp : IsZip h z TI TO .none ∨ 0 < i ∧ ∃ a f oa, ZipOut h z TI TO a f ∧ h.get? a = some oa ∧ S < a
abbrev zipFp (z TO i1 i2 : Addr) (b : Addr) : Prop := b = z ∨ b = TO ∨ b = i1 ∨ b = i2
abbrev ZipPair (S : Addr) (xs ys : Array Value) (j : Nat) (v : Value) (h : Heap) : Prop := ∃ a x y, v = .ref a ∧ S < a ∧ xs[j]? = some x ∧ ys[j]? = some y ∧ IsPair h a x y
abbrev Rising (u v : Value) : Prop := ∃ a b : Addr, u = .ref a ∧ v = .ref b ∧ a < b
theorem zip_feed {prog : Program} {w : World} {A : Around} {z TI TO i1 i2 l1 l2 S : Addr} {xs ys : Array Value} (hh : A.handled = none) (D : ZipApart z TI TO i1 i2 l1 l2) (b1 : z < S) (b2 : TI < S) (b3 : TO < S) (b4 : i1 < S) (b5 : i2 < S) (b6 : l1 < S) (b7 : l2 < S) :
    Feed prog w A z S "zip" (zipFp z TO i1 i2) (min xs.size ys.size) (ZipPair S xs ys) Rising (ZipFeeds z TI TO i1 i2 l1 l2 S xs ys) where
  sfp := fun q => by
    rcases q with q | q | q | q <;> (rw [q] at b1 b3 b4 b5; first | exact absurd b1 (Nat.lt_irrefl _) | exact absurd b3 (Nat.lt_irrefl _) | exact absurd b4 (Nat.lt_irrefl _) | exact absurd b5 (Nat.lt_irrefl _))
  ne := Nat.ne_of_lt b1
  ty := fun i h st => by
    rcases st.zp with q | ⟨_, a, f, oa, q, _⟩
    · exact ⟨_, q, rfl⟩
    · exact ⟨_, q, rfl⟩
  self := fun s Q E st q => by
    rcases st.zp with r | ⟨r, _⟩
    · exact wpAny_pyIter_zip r q
    · exact absurd r (Nat.lt_irrefl _)
  item := fun i s Q E hi st hS q => by
    obtain ⟨ti, ⟨a, b, to⟩, it1, it2, a1, a2, zp⟩ := st
    have hx : xs[i]? = some (xs[i]'(by omega)) := Array.getElem?_eq_getElem (by omega)
    have hy : ys[i]? = some (ys[i]'(by omega)) := Array.getElem?_eq_getElem (by omega)
    have old : ∀ j u, ZipPair S xs ys j u s.heap → Rising u (.ref s.heap.objs.size) := fun j u ⟨a, x, y, e, _, _, _, p⟩ => ⟨a, _, e, rfl, Heap.lt_size p⟩
    rcases zp with r | ⟨hi0, c, f, oc, r, oc', hc⟩
    · refine wpAny_pyNext_zip_item D r ti to it1 it2 a1 a2 hx hy fun h' r1 r2 r3 r4 r5 r6 r7 => ?_
      have kp : Keeps s.heap h' (zipFp z TO i1 i2) := fun b o nb e => r7 b o (fun z => nb (.inl z)) (fun z => nb (.inr (.inl z))) (fun z => nb (.inr (.inr (.inl z)))) (fun z => nb (.inr (.inr (.inr z)))) e
      refine q _ h' s.toks kp ⟨r7 _ _ D.TIz D.TITO D.TIi1 D.TIi2 ti, ⟨_, _, r2⟩, r3, r4, a1.at fun o e => r7 _ _ D.l1z D.l1TO D.l1i1 D.l1i2 e, a2.at fun o e => r7 _ _ D.l2z D.l2TO D.l2i1 D.l2i2 e, .inr ⟨Nat.succ_pos _, _, _, _, r1, r5, hS⟩⟩ ⟨_, _, _, rfl, hS, hx, hy, r5⟩ old
    · have ne : ∀ {b : Addr}, b < S → c ≠ b := fun hb => Nat.ne_of_gt (Nat.lt_trans hb hc)
      refine zip_out_item D r oc' ti it1 it2 a1 a2 hx hy fun h' r1 r2 r3 r4 r5 => ?_
      have kp : Keeps s.heap h' (zipFp z TO i1 i2) := fun b o nb e => r5 b o (fun z => z.elim (fun z => nb (.inl z)) fun z => nb (.inr (.inr z))) e
      refine q _ h' s.toks kp ⟨r5 _ _ (fun z => z.elim D.TIz fun z => z.elim D.TIi1 D.TIi2) ti, ⟨_, _, r5 _ _ (fun z => z.elim D.TOz fun z => z.elim D.TOi1 D.TOi2) to⟩, r2, r3, a1.at fun o e => r5 _ _ (fun z => z.elim D.l1z fun z => z.elim D.l1i1 D.l1i2) e, a2.at fun o e => r5 _ _ (fun z => z.elim D.l2z fun z => z.elim D.l2i1 D.l2i2) e,
        .inr ⟨Nat.succ_pos _, _, _, _, r1, r5 _ _ (fun z => z.elim (ne b1) fun z => z.elim (ne b4) (ne b5)) oc', hc⟩⟩ ⟨_, _, _, rfl, hS, hx, hy, r4⟩ old
  stop := fun s Q E st hS q => by
    obtain ⟨ti, ⟨a, b, to⟩, it1, it2, a1, a2, zp⟩ := st
    have he : xs[min xs.size ys.size]? = none ∨ ys[min xs.size ys.size]? = none := by
      rcases Nat.le_total xs.size ys.size with h | h
      · exact .inl (Array.getElem?_eq_none (by omega))
      · exact .inr (Array.getElem?_eq_none (by omega))
    rcases zp with r | ⟨hi0, c, f, oc, r, oc', hc⟩
    · exact wpAny_pyNext_zip_end hh D r ti to it1 it2 a1 a2 he fun h' k => q h' s.toks fun b o nb e => k b o (fun z => nb (.inl z)) (fun z => nb (.inr (.inl z))) (fun z => nb (.inr (.inr (.inl z)))) (fun z => nb (.inr (.inr (.inr z)))) e
    · exact zip_out_stop hh D r oc' ti it1 it2 a1 a2 he fun h' k => q h' s.toks fun b o nb e => k b o (fun z => z.elim (fun z => nb (.inl z)) fun z => nb (.inr (.inr z))) e
  keepS := fun i h h' st k => by
    obtain ⟨ti, ⟨a, b, to⟩, it1, it2, a1, a2, zp⟩ := st
    refine ⟨k _ _ (Nat.ne_of_lt b2) ti, ⟨a, b, k _ _ (Nat.ne_of_lt b3) to⟩, it1.at fun o e => k _ o (Nat.ne_of_lt b4) e, it2.at fun o e => k _ o (Nat.ne_of_lt b5) e, a1.at fun o e => k _ o (Nat.ne_of_lt b6) e, a2.at fun o e => k _ o (Nat.ne_of_lt b7) e, ?_⟩
    rcases zp with r | ⟨hi0, c, f, oc, r, oc', hc⟩
    · exact .inl (k _ _ (Nat.ne_of_lt b1) r)
    · exact .inr ⟨hi0, c, f, oc, k _ _ (Nat.ne_of_lt b1) r, k _ _ (Nat.ne_of_gt hc) oc', hc⟩
  keepP := fun j v h h' ⟨a, x, y, e, ha, h1, h2, p⟩ k => by
    have ne : ∀ {b : Addr}, b < S → a ≠ b := fun hb => Nat.ne_of_gt (Nat.lt_trans hb ha)
    exact ⟨a, x, y, e, ha, h1, h2, k _ _ (fun z => z.elim (fun z => z.elim (ne b1) fun z => z.elim (ne b3) fun z => z.elim (ne b4) (ne b5)) (Nat.ne_of_gt ha)) p⟩
  nolen := by rw [typeLookup_type, builtinLookup_eq_fast]; kernel_rfl
  nohint := by rw [typeLookup_type, builtinLookup_eq_fast]; kernel_rfl
  nl := by decide
  nt := by decide
end L2

set_option Elab.async false
set_option linter.all false
set_option maxRecDepth 100000
set_option maxHeartbeats 4000000
/-! list(zip(a, b)) over the hand layer -/
namespace L2
open PySem PySem.Spec PyProof.Rows

/-- many tuples adopted -/
theorem Inv.adoptAll {X : Cx} {pins : List (Addr × Obj)} {σ : St} : ∀ (as : List Addr) (ps : List (List V)) {H : Hp} {s : Shared}, Inv X pins σ H s → as.Nodup → as.length = ps.length → (∀ a ∈ as, FpOk X pins H a ∧ X.s₀.heap.objs.size ≤ a) →
    (∀ (j : Nat) a p, as[j]? = some a → ps[j]? = some p → p.length ≤ sizeLine ∧ ∃ its : List Value, Vals p its ∧ IsTup s.heap a its.toArray) →
    ∃ H', Inv X pins σ H' s ∧ Same H H' ∧ (∀ b, b ∉ as → H' b = H b) ∧ ∀ (j : Nat) a p, as[j]? = some a → ps[j]? = some p → H' a = some (.tup p)
  | [], ps, H, s, I, _, _, _, _ => ⟨H, I, Same.refl H, fun _ _ => rfl, fun j a p h _ => by simp at h⟩
  | a :: as, [], H, s, I, _, hl, _, _ => by simp at hl
  | a :: as, p :: ps, H, s, I, nd, hl, hf, ho => by
    obtain ⟨na, nd'⟩ := List.nodup_cons.mp nd
    obtain ⟨fa, sa⟩ := hf a List.mem_cons_self
    obtain ⟨hz, its, rv, ht⟩ := ho 0 a p rfl rfl
    have I1 := I.adopt (T := a) (o := .tup p) fa sa ⟨hz, its, rv, ht⟩
    obtain ⟨H', I', sm, same, all⟩ := Inv.adoptAll as ps I1 nd' (by simpa using hl) (fun b hb => by
      obtain ⟨fb, sb⟩ := hf b (List.mem_cons_of_mem _ hb)
      exact ⟨⟨by rw [upd_ne (fun (e : b = a) => na (by rw [← e]; exact hb))]; exact fb.1, fb.2⟩, sb⟩) (fun j b q h1 h2 => ho (j + 1) b q h1 h2)
    refine ⟨H', I', fun b o e => sm b o (by rw [upd_ne (ne_of_none e fa.1)]; exact e), fun b hb => ?_, fun j b q h1 h2 => ?_⟩
    · rw [same b fun z => hb (List.mem_cons_of_mem _ z), upd_ne (fun (z : b = a) => hb (by rw [z]; exact List.mem_cons_self))]
    · cases j with
      | zero =>
        cases h1; cases h2
        rw [same a na]; exact upd_same
      | succ j => exact all j b q h1 h2
theorem refs_of : ∀ {l : List Value}, (∀ v ∈ l, ∃ a : Addr, v = .ref a) → ∃ as : List Addr, l = as.map Value.ref
  | [], _ => ⟨[], rfl⟩
  | v :: r, h => by
    obtain ⟨a, rfl⟩ := h v List.mem_cons_self
    obtain ⟨as, rfl⟩ := refs_of fun u hu => h u (List.mem_cons_of_mem _ hu)
    exact ⟨a :: as, rfl⟩
section
variable {X : Cx}
def tLZ (K : PySem.W.Frag) (ta : TA) : TE := fun σ H Q => ta σ H fun vs H1 => ∃ l1 l2 xs ys, vs = [.ref l1, .ref l2] ∧ SqL K H1 l1 xs ∧ SqL K H1 l2 ys ∧
  ∀ H' p (as : List Addr), Same H1 H' → H1 p = none → H' p = some (.lst (as.map V.ref)) → as.length = min xs.length ys.length →
    (∀ (j : Nat) a x y, as[j]? = some a → xs[j]? = some x → ys[j]? = some y → H1 a = none ∧ H' a = some (.tup [x, y])) → Q (.ref p) H'
theorem zip_pairs {xs ys : List V} (j : Nat) (x y : V) (hx : xs[j]? = some x) (hy : ys[j]? = some y) : ((xs.zip ys).map fun q => [q.1, q.2])[j]? = some [x, y] := by
  rw [List.getElem?_map, (List.getElem?_zip_eq_some (z := (x, y))).mpr ⟨hx, hy⟩]
  rfl
theorem pe_listzip {a b : Expr} {ta : TA} {p p2 pos pos2 : Pos} (hc : X.calm = true) (hgl : Gl X "list") (hml : X.mg "list" = none) (hgz : Gl X "zip") (hmz : X.mg "zip" = none) (ha : PA X [a, b] ta)
    (hbl : bootBuiltins "list" = some (.type "list") := by first | rfl | decide) (hbz : bootBuiltins "zip" = some (.type "zip") := by first | rfl | decide)
    (hs0 : starEach [.Call (.Name "zip" p2) [a, b] [] pos2] X.env = [(false, eval (.Call (.Name "zip" p2) [a, b] [] pos2) X.env)] := by rfl)
    (hs : starEach [a, b] X.env = [(false, eval a X.env), (false, eval b X.env)] := by rfl) (hs2 : starEach [b] X.env = [(false, eval b X.env)] := by rfl) :
    PE X (.Call (.Name "list" p) [.Call (.Name "zip" p2) [a, b] [] pos2] [] pos) (tLZ X.K ta) := by
  intro pins s σ H Q I h
  refine wpAny_Call_Name_kw (ld_blt I hgl hml hbl ?_)
  refine PyProof.Rows.callWith_type1 ?_ hs0 rfl
  rw [hs0]
  show wpAny _ _ (spliced ((false, eval (.Call (.Name "zip" p2) [a, b] [] pos2) X.env) :: [])) _ _ _
  refine Calls.spliced_cons ?_
  refine Call_ (ld_blt I hgz hmz hbz (PyProof.Rows.callWith_type1 (thn (ha s σ H _ I h) fun us s1 ⟨vs, H1, I1, r1, q1⟩ => ?_) (by rw [hs, hs2]) (by rw [hs2]; rfl)))
  obtain ⟨l1, l2, xs, ys, e, q1, q2, q⟩ := q1
  subst e
  obtain ⟨u, w', rfl, r1, r2⟩ := vals2 r1
  cases r1; cases r2
  obtain ⟨its1, rv1, p1, hz1⟩ := I1.list q1
  obtain ⟨its2, rv2, p2, hz2⟩ := I1.list q2
  have e1 := rv1.length
  have e2 := rv2.length
  have a1 : l1 < s1.heap.objs.size := by obtain ⟨_, e, _⟩ := p1.isList; exact Heap.lt_size e
  have a2 : l2 < s1.heap.objs.size := by obtain ⟨_, e, _⟩ := p2.isList; exact Heap.lt_size e
  refine call_zip_2 p1.isList p2.isList fun h' hz hTI hTO hi1 hi2 hsz hk => ?_
  refine Calls.spliced_nil ?_
  have hSz : s1.heap.objs.size ≤ h'.objs.size := by rw [hsz]; exact Nat.le_add_right _ _
  have hin : ∀ n, n < 5 → s1.heap.objs.size + n < h'.objs.size := fun n hn => by rw [hsz]; exact Nat.add_lt_add_left hn _
  have zs : ∀ o, ZipFeeds (s1.heap.objs.size + 4) (s1.heap.objs.size + 2) (s1.heap.objs.size + 3) s1.heap.objs.size (s1.heap.objs.size + 1) l1 l2 h'.objs.size its1.toArray its2.toArray 0 (h'.push o) := fun o =>
    ⟨Heap.get?_push_of_some _ hTI, ⟨_, _, Heap.get?_push_of_some _ hTO⟩, hi1.at fun o e => Heap.get?_push_of_some _ e, hi2.at fun o e => Heap.get?_push_of_some _ e, (p1.isList.at fun o e => hk _ o e).push _, (p2.isList.at fun o e => hk _ o e).push _, .inl (Heap.get?_push_of_some _ hz)⟩
  refine feed_call (s := { s1 with heap := h' }) (zip_feed (I.ok.hd hc) (zipApart_new a1 a2) (hin 4 (by decide)) (hin 2 (by decide)) (hin 3 (by decide)) (hin 0 (by decide)) (hin 1 (by decide)) (Nat.lt_of_lt_of_le a1 hSz) (Nat.lt_of_lt_of_le a2 hSz)) (by simp; omega) zs fun h2 tk acc c hk2 G => ?_
  obtain ⟨hS2, hsz2, hpw, hall⟩ := G
  obtain ⟨as, hacc⟩ := refs_of (l := acc.toList) fun v hv => by
    obtain ⟨j, hj⟩ := List.mem_iff_getElem?.mp hv
    obtain ⟨a, _, _, e, _⟩ := hall j v (by simpa using hj)
    exact ⟨a, e⟩
  have at_as : ∀ (j : Nat) a, as[j]? = some a → ∃ x y, h'.objs.size < a ∧ its1.toArray[j]? = some x ∧ its2.toArray[j]? = some y ∧ IsPair h2 a x y := fun j a h => by
    obtain ⟨a', x, y, e, g⟩ := hall j (.ref a) (by
      have : acc.toList[j]? = some (.ref a) := by rw [hacc, List.getElem?_map, h]; rfl
      simpa using this)
    cases e
    exact ⟨x, y, g⟩
  have above : ∀ a ∈ as, h'.objs.size < a := fun a ha => by
    obtain ⟨j, hj⟩ := List.mem_iff_getElem?.mp ha
    obtain ⟨_, _, g, _⟩ := at_as j a hj
    exact g
  have old : ∀ b o, s1.heap.get? b = some o → h2.get? b = some o := fun b o e => by
    have hb := Heap.lt_size e
    have gt : ∀ n, b ≠ s1.heap.objs.size + n := fun n => Nat.ne_of_lt (Nat.lt_of_lt_of_le hb (Nat.le_add_right _ _))
    exact hk2 b o (fun z => z.elim (gt 4) fun z => z.elim (gt 3) fun z => z.elim (gt 0) (gt 1)) (hk b o e)
  have I2 : Inv X pins σ H1 { s1 with heap := h2, toks := tk } := I1.kept old
  have hab : ∀ a ∈ as, s1.heap.objs.size ≤ a := fun a ha => Nat.le_of_lt (Nat.lt_of_le_of_lt hSz (above a ha))
  have nd : as.Nodup := by
    rw [hacc, List.pairwise_map] at hpw
    exact hpw.imp fun ⟨a, b, e1, e2, h⟩ => by cases e1; cases e2; exact Nat.ne_of_lt h
  have fpOk : ∀ a, s1.heap.objs.size ≤ a → FpOk X pins H1 a ∧ X.s₀.heap.objs.size ≤ a := fun a ha => ⟨I1.fpOk ha (I1.hok.fresh ha), Nat.le_trans I1.sz ha⟩
  have hal : as.length = min xs.length ys.length := by
    have z : acc.toList.length = as.length := by rw [hacc, List.length_map]
    simp at z hsz2
    omega
  obtain ⟨H', I', sm, same, all⟩ := I2.adoptAll as ((xs.zip ys).map fun q => [q.1, q.2]) nd (by rw [List.length_map, List.length_zip]; omega) (fun a ha => fpOk a (hab a ha)) (fun j a pp h1 h2' => by
    obtain ⟨x, y, _, g1, g2, g3⟩ := at_as j a h1
    obtain ⟨vx, gx, rx⟩ := vals_at rv1 g1
    obtain ⟨vy, gy, ry⟩ := vals_at rv2 g2
    have z := zip_pairs j vx vy gx gy
    rw [z] at h2'; cases h2'
    exact ⟨by show 2 ≤ sizeLine; decide, [x, y], .cons rx (.cons ry .nil), ⟨_, g3, rfl, _, rfl⟩⟩)
  have hSn : h'.objs.size ∉ as := fun hm => Nat.lt_irrefl _ (above _ hm)
  have hS1 : H1 h'.objs.size = none := I1.hok.fresh hSz
  obtain ⟨fS, sS⟩ := fpOk h'.objs.size hSz
  have fS' : FpOk X pins H' h'.objs.size := ⟨by rw [same _ hSn]; exact hS1, fS.2⟩
  have I3 := I'.adopt (T := h'.objs.size) (o := .lst (as.map V.ref)) fS' sS ⟨by rw [List.length_map]; omega, acc.toList, c, by
    rw [hacc]
    clear hS2 hacc all same I' sm hab nd hal hSn above at_as
    induction as with
    | nil => exact .nil
    | cons a r ih => exact .cons rfl ih, by simpa using hS2⟩
  refine ⟨.ref h'.objs.size, _, I3, rfl, q _ _ as (fun b o e => ?_) hS1 upd_same hal fun j a x y h1 h2' h3' => ⟨(fpOk a (hab a (List.mem_of_getElem? h1))).1.1, ?_⟩⟩
  · rw [upd_ne (ne_of_none e hS1)]; exact sm b o e
  · rw [upd_ne (fun (z : a = h'.objs.size) => hSn (by rw [← z]; exact List.mem_of_getElem? h1))]
    exact all j a [x, y] h1 (zip_pairs j x y h2' h3')
end
end L2

set_option Elab.async false
set_option linter.all false
set_option maxRecDepth 100000
set_option maxHeartbeats 4000000
/-! the rules that lay or change an object, with the heap behind them as a letter -/
namespace L2
open PySem PySem.Spec PyProof.Rows
structure New (H : Hp) (p : Addr) (o : HO) (H' : Hp) : Prop where
  nn : H p = none
  eq : H' = upd H p o
theorem New.at {H H' : Hp} {p : Addr} {o : HO} (n : New H p o H') : H' p = some o := by rw [n.eq]; exact upd_same
theorem New.ne {H H' : Hp} {p a : Addr} {o : HO} (n : New H p o H') (h : a ≠ p) : H' a = H a := by rw [n.eq]; exact upd_ne h
theorem New.same {H H' : Hp} {p : Addr} {o : HO} (n : New H p o H') : Same H H' := fun a u e => by rw [n.ne (ne_of_none e n.nn)]; exact e
structure Chg (H : Hp) (p : Addr) (o : HO) (H' : Hp) : Prop where
  eq : H' = upd H p o
theorem Chg.at {H H' : Hp} {p : Addr} {o : HO} (n : Chg H p o H') : H' p = some o := by rw [n.eq]; exact upd_same
theorem Chg.ne {H H' : Hp} {p a : Addr} {o : HO} (n : Chg H p o H') (h : a ≠ p) : H' a = H a := by rw [n.eq]; exact upd_ne h
theorem new_all {H : Hp} {o : HO} {F : Addr → Hp → Prop} : (∀ p, H p = none → F p (upd H p o)) = ∀ p H', New H p o H' → F p H' :=
  propext ⟨fun h p H' n => by rw [n.eq]; exact h p n.nn, fun h p hp => h p _ ⟨hp, rfl⟩⟩
theorem chg_all {H : Hp} {p : Addr} {o : HO} {F : Hp → Prop} : F (upd H p o) = ∀ H', Chg H p o H' → F H' :=
  propext ⟨fun h H' n => by rw [n.eq]; exact h, fun h => h _ ⟨rfl⟩⟩
section
variable {X : Cx} {pos : Pos} {es : List Expr} {t : TA}
def tTupN (t : TA) : TE := fun σ H Q => t σ H fun xs H1 => xs.length ≤ sizeLine ∧ ∀ p H', New H1 p (.tup xs) H' → Q (.ref p) H'
def tLstN (t : TA) : TE := fun σ H Q => t σ H fun xs H1 => xs.length ≤ sizeLine ∧ ∀ p H', New H1 p (.lst xs) H' → Q (.ref p) H'
theorem tupN {x1} (h : PA X es t) : PE X (.Tuple es x1 pos) (tTupN t) := by
  have e : tTupN t = tTup t := by
    funext σ H Q
    show t σ H _ = t σ H _
    congr 1; funext xs H1
    exact congrArg (_ ∧ ·) (new_all (F := fun p H' => Q (.ref p) H')).symm
  rw [e]; exact pe_tup h
theorem lstN (h : PA X es t) : PE X (.List es pos) (tLstN t) := by
  have e : tLstN t = tLst t := by
    funext σ H Q
    show t σ H _ = t σ H _
    congr 1; funext xs H1
    exact congrArg (_ ∧ ·) (new_all (F := fun p H' => Q (.ref p) H')).symm
  rw [e]; exact pe_lst h
def tDispN (trs : List (TE × TE)) : TE := fun σ H Q => ∀ p H0, New H p (.dK []) H0 → tPairs trs σ H0 fun ps H2 => H2 p = some (.dK []) ∧ ∃ kvs : List (Key × V), ps = kvs.map (fun kv => (kV kv.1, kv.2)) ∧ kvs.length ≤ 15 ∧ ∀ H3, Chg H2 p (.dK (mergeK [] kvs)) H3 → Q (.ref p) H3
theorem dispN {keys : List (Option Expr)} {values : List Expr} {trs : List (TE × TE)} (h : PPs X pos keys values trs) (hall : keys.all (·.isSome) = true) (hl : keys.length = values.length) (h0 : keys ≠ [])
    (h15 : keys.length ≤ 15) : PE X (.Dict keys values pos) (tDispN trs) := by
  have e : tDispN trs = tDisp trs := by
    funext σ H Q
    unfold tDispN tDisp
    rw [new_all (F := fun p H0 => tPairs trs σ H0 fun ps H2 => H2 p = some (.dK []) ∧ ∃ kvs : List (Key × V), ps = kvs.map (fun kv => (kV kv.1, kv.2)) ∧ kvs.length ≤ 15 ∧ Q (.ref p) (upd H2 p (.dK (mergeK [] kvs))))]
    simp only [← chg_all (F := fun H3 => Q (.ref _) H3)]
  rw [e]; exact pe_disp h hall hl h0 h15
end
section
variable {X : Cx} (K : PySem.W.Frag)
/-- x[lo:hi] of a list or a text -/
def rSlN (K : PySem.W.Frag) : V → Option Int → Option Int → Hp → VK → Prop := fun x lo hi H Q => (∃ a xs, x = .ref a ∧ SqL K H a xs ∧ ∀ p H', New H p (.lst (cutV xs lo hi)) H' → Q (.ref p) H') ∨ (∃ z, x = .str z ∧ z.length ≤ sizeLine ∧ Q (.str (Txt.slice z lo hi)) H)
theorem slN (hK : X.K = K := by rfl) : SlR X (rSlN K) := by
  subst hK
  intro pins s σ H x v vl vu lo hi sl Q I rx hs pl pu q
  refine g_sl s σ H x v vl vu lo hi sl Q I rx hs pl pu ?_
  rcases q with ⟨a, xs, e, h, q⟩ | q
  · exact .inl ⟨a, xs, e, h, fun p hp => q p _ ⟨hp, rfl⟩⟩
  · exact .inr q
theorem listN (hK : X.K = K := by rfl) : CallR X (.type "list") (fun xs H Q => ∃ p ys, xs = [.ref p] ∧ (SqL K H p ys ∨ SqT K H p ys) ∧ ∀ l H', New H l (.lst ys) H' → Q (.ref l) H') := by
  subst hK
  intro pins s σ H xs us Q I r h
  obtain ⟨p, ys, e, h, q⟩ := h
  exact call_list_of s σ H xs us Q I r ⟨p, ys, e, h, fun l hl => q l _ ⟨hl, rfl⟩⟩
end
section
variable {X : Cx}
def rAddN : R2 := fun x y H Q => (∃ i j, x = .int i ∧ y = .int j ∧ Q (.int (i + j)) H) ∨ (∃ i j, x = .str i ∧ y = .str j ∧ i.length + j.length ≤ sizeLine ∧ Q (.str (i ++ j)) H) ∨
  ∃ l b xs zs, x = .ref l ∧ y = .ref b ∧ H l = some (.lst xs) ∧ H b = some (.lst zs) ∧ xs.length + zs.length ≤ sizeLine ∧ ∀ p H', New H p (.lst (xs ++ zs)) H' → Q (.ref p) H'
theorem addN : OpR X (binaryOp .Add) rAddN := by
  intro pins s σ H x y v u Q I rx ry h
  refine g_add s σ H x y v u Q I rx ry ?_
  rcases h with h | h | ⟨l, b, xs, zs, e1, e2, h1, h2, h3, q⟩
  · exact .inl h
  · exact .inr (.inl h)
  · exact .inr (.inr ⟨l, b, xs, zs, e1, e2, h1, h2, h3, fun p hp => q p _ ⟨hp, rfl⟩⟩)
def rMulN : R2 := fun x y H Q => (∃ i j, x = .int i ∧ y = .int j ∧ CMul i j ∧ Q (.int (i * j)) H) ∨
  ∃ l k xs, x = .ref l ∧ y = .int k ∧ H l = some (.lst xs) ∧ -(2 ^ 63) ≤ k ∧ k < 2 ^ 63 ∧ xs.length * k.toNat ≤ sizeLine ∧ ∀ p H', New H p (.lst (List.replicate k.toNat xs).flatten) H' → Q (.ref p) H'
theorem mulN : OpR X (binaryOp .Mult) rMulN := by
  intro pins s σ H x y v u Q I rx ry h
  refine g_mul s σ H x y v u Q I rx ry ?_
  rcases h with h | ⟨l, k, xs, e1, e2, h1, h2, h3, h4, q⟩
  · exact .inl h
  · exact .inr ⟨l, k, xs, e1, e2, h1, h2, h3, h4, fun p hp => q p _ ⟨hp, rfl⟩⟩
theorem appendN : MtM X "list.append" (fun x vs H Q => ∃ l xs y, x = .ref l ∧ vs = [y] ∧ H l = some (.lst xs) ∧ xs.length < sizeLine ∧ ∀ H', Chg H l (.lst (xs ++ [y])) H' → Q .non H') := by
  intro pins s σ H x xs v us Q I rx rv h
  obtain ⟨l, ys, y, e1, e2, h1, h2, q⟩ := h
  exact mt_append s σ H x xs v us Q I rx rv ⟨l, ys, y, e1, e2, h1, h2, q _ ⟨rfl⟩⟩
theorem popN : MtM X "list.pop" (fun x vs H Q => ∃ l xs y, x = .ref l ∧ vs = [] ∧ H l = some (.lst xs) ∧ xs[xs.length - 1]? = some y ∧ ∀ H', Chg H l (.lst xs.dropLast) H' → Q y H') := by
  intro pins s σ H x xs v us Q I rx rv h
  obtain ⟨l, ys, y, e1, e2, h1, h2, q⟩ := h
  exact mt_pop s σ H x xs v us Q I rx rv ⟨l, ys, y, e1, e2, h1, h2, q _ ⟨rfl⟩⟩
/-- pop(i), i in bounds from the left -/
theorem popAtN : MtM X "list.pop" (fun x vs H Q => ∃ l xs i y, x = .ref l ∧ vs = [.int i] ∧ H l = some (.lst xs) ∧ 0 ≤ i ∧ i < 2 ^ 63 ∧ xs[i.toNat]? = some y ∧ ∀ H', Chg H l (.lst (xs.eraseIdx i.toNat)) H' → Q y H') := by
  intro pins s σ H x xs v us Q I rx rv h
  obtain ⟨l, ys, i, y, e1, e2, h1, h2, h3, h4, q⟩ := h
  refine mt_popAt s σ H x xs v us Q I rx rv ⟨l, ys, i, i.toNat, y, e1, e2, h1, by omega, h3, ?_, h4, q _ ⟨rfl⟩⟩
  have hl := (List.getElem?_eq_some_iff.mp h4).1
  have q : atI ys ((i.toNat : Nat) : Int) = some y := atI_nat h4
  have ei : ((i.toNat : Nat) : Int) = i := by omega
  rw [ei] at q
  obtain ⟨j, hj, hj2, _⟩ := atI_get q
  have : ixN ys.length i = some i.toNat := by unfold ixN; rw [if_pos h2, if_pos (by omega)]
  exact (ixN_seq this).1
end
/-- a comprehension of N turns, its list a letter -/
theorem comp_goN {J : It} {n : Nat} {js : List Nat} {g : TG} {tc : TT} {te : TE} {σ : St} {H1 : Hp} {Q : V → Hp → Prop} (N : Nat) (Pv : Nat → List V → Hp → Prop) (h0 : Pv 0 [] H1)
    (go : ∀ i ys H (Nx : List V → Hp → Prop), i < N → Pv i ys H → (∀ ys' H', Pv (i + 1) ys' H' → Nx ys' H') → J.go i H ∧ ys.length < sizeLine ∧
      ∀ x H', J.yld i H x H' → g x (List.replicate n none ++ cvals σ js) H' fun σ2 H2 => tc σ2 H2 fun b H3 => if b = true then te σ2 H3 fun y H4 => Nx (ys ++ [y]) H4 else Nx ys H3)
    (stop : ∀ ys H, Pv N ys H → J.stop N H ∧ ∀ p H', New H p (.lst ys) H' → Q (.ref p) H') : CompW J n js g tc te σ H1 fun ys H2 => ∀ p, H2 p = none → Q (.ref p) (upd H2 p (.lst ys)) :=
  comp_go N Pv h0 go fun ys H h => ⟨(stop ys H h).1, fun p hp => (stop ys H h).2 p _ ⟨hp, rfl⟩⟩
/-- the reading of an index at a place in bounds -/
theorem at_nat {α : Type} {xs : List α} {i : Int} {v : α} (h0 : 0 ≤ i) (h : xs[i.toNat]? = some v) : atI xs i = some v := by
  have q := atI_nat h
  have e : ((i.toNat : Nat) : Int) = i := by omega
  rw [e] at q
  exact q
end L2

set_option Elab.async false
set_option linter.all false
set_option maxRecDepth 100000
set_option maxHeartbeats 4000000
/-! isinstance of data -/
namespace L2
open PySem PySem.Spec PyProof.Rows
/-- a data's type -/
def tyD : PyData → String
  | .none => "NoneType"
  | .bool _ => "bool"
  | .int _ => "int"
  | .str _ => "str"
  | .list _ => "list"
  | .tuple _ => "tuple"
  | .dict _ => "dict"
/-- is it one of this type -/
def isD (d : PyData) (T : String) : Bool := tyD d == T || (tyD d == "bool" && T == "int")
theorem kitT (K : PySem.W.Frag) (d : PyData) : PySem.W.kitOne K (.type (tyD d)) (.type "bool") = some (isD d "bool") ∧ PySem.W.kitOne K (.type (tyD d)) (.type "int") = some (isD d "int") ∧ PySem.W.kitOne K (.type (tyD d)) (.type "str") = some (isD d "str") ∧
    PySem.W.kitOne K (.type (tyD d)) (.type "list") = some (isD d "list") ∧ PySem.W.kitOne K (.type (tyD d)) (.type "tuple") = some (isD d "tuple") := by
  cases d <;> exact ⟨rfl, rfl, rfl, rfl, rfl⟩
section
variable {X : Cx}
theorem den_kit {pins : List (Addr × Obj)} {σ : St} {H : Hp} {s : Shared} {x : V} {u : Value} {d : PyData} (I : Inv X pins σ H s) (rx : RelV x u) (h : Den X.K H d x) : ∃ HH : Heap → Prop, PySem.W.KitX X.K u (.type (tyD d)) HH ∧ HH s.heap ∧ u ≠ .builtin "__main__.__loader__#opaque" := by
  cases d with
  | none => unfold Den at h; subst h; cases rx; exact ⟨_, PySem.W.kitx_none, True.intro, fun z => nomatch z⟩
  | bool b => unfold Den at h; subst h; cases rx; exact ⟨_, PySem.W.kitx_bool, True.intro, fun z => nomatch z⟩
  | int i => unfold Den at h; subst h; obtain ⟨t, rfl⟩ := rx; exact ⟨_, PySem.W.kitx_int, True.intro, fun z => nomatch z⟩
  | str y => unfold Den at h; subst h; obtain ⟨t, rfl⟩ := rx; exact ⟨_, PySem.W.kitx_str, True.intro, fun z => nomatch z⟩
  | list ds =>
    unfold Den at h
    obtain ⟨a, vs, rfl, h2, _⟩ := h
    cases rx
    obtain ⟨its, _, ⟨o, n, e1, e2, _⟩, _⟩ := I.list h2
    exact ⟨_, PySem.W.kitx_list, ⟨o, e1, e2⟩, fun z => nomatch z⟩
  | tuple ds =>
    unfold Den at h
    obtain ⟨a, vs, rfl, h2, _⟩ := h
    cases rx
    obtain ⟨its, _, ⟨o, e1, e2, _⟩, _⟩ := I.tuple h2
    exact ⟨_, PySem.W.kitx_tuple, ⟨o, e1, e2⟩, fun z => nomatch z⟩
  | dict _ => unfold Den at h; exact h.elim
theorem call_isiD : CallR X (.builtin "isinstance") (fun xs H Q => ∃ (x : V) (T : String) (d : PyData) (b : Bool), xs = [x, .ty T] ∧ Den X.K H d x ∧ PySem.W.kitOne X.K (.type (tyD d)) (.type T) = some b ∧ Q (.bl b) H) := by
  intro pins s σ H xs us Q I r h
  obtain ⟨x, T, d, b, rfl, hd, e, q⟩ := h
  obtain ⟨u, w', rfl, r1, r2⟩ := vals2 r
  cases r2
  obtain ⟨HH, Z, hh, hx⟩ := den_kit I r1 hd
  exact PySem.W.kia_one Z I.kIn hh e hx fun tk => ⟨.bl b, H, I.tok _, rfl, q⟩
theorem call_isiTD : CallR X (.builtin "isinstance") (fun xs H Q => ∃ (x : V) (p : Addr) (Ts : List String) (d : PyData) (b : Bool), xs = [x, .ref p] ∧ H p = some (.tup (Ts.map V.ty)) ∧ Den X.K H d x ∧ PySem.W.kitAny X.K (.type (tyD d)) (Ts.map Value.type) = some b ∧ Q (.bl b) H) := by
  intro pins s σ H xs us Q I r h
  obtain ⟨x, p, Ts, d, b, rfl, hp, hd, e, q⟩ := h
  obtain ⟨u, w', rfl, r1, r2⟩ := vals2 r
  cases r2
  obtain ⟨HH, Z, hh, hx⟩ := den_kit I r1 hd
  obtain ⟨_, its, rv, o, h1, h2, n, h3⟩ := (show ObjOk X.prog X.w H s.heap p (.tup (Ts.map V.ty)) from I.hok p _ hp)
  have ei : its = Ts.map Value.type := by
    clear e hp h3 h2 h1
    rename_i hz
    clear hz
    induction Ts generalizing its with
    | nil => cases rv; rfl
    | cons T Ts ih =>
      cases rv with
      | cons q1 q2 => cases q1; rw [ih _ q2]; rfl
  subst ei
  obtain ⟨cls, dd, data, sl⟩ := o
  simp only at h2 h3
  subst h2 h3
  exact PySem.W.kia_tup Z I.kIn hh h1 e hx fun tk => ⟨.bl b, H, I.tok _, rfl, q⟩
/-- by data, or by the type -/
def rIsi (K : PySem.W.Frag) : List V → Hp → VK → Prop := fun xs H Q => (∃ (x : V) (T : String) (d : PyData) (b : Bool), xs = [x, .ty T] ∧ Den K H d x ∧ PySem.W.kitOne K (.type (tyD d)) (.type T) = some b ∧ Q (.bl b) H) ∨
  ∃ x T t b, xs = [x, .ty T] ∧ TyOf K H x t ∧ PySem.W.kitOne K t (.type T) = some b ∧ Q (.bl b) H
theorem isiK (K : PySem.W.Frag) (hK : X.K = K := by rfl) : CallR X (.builtin "isinstance") (rIsi K) := by subst hK; exact call_isiD.or call_isi
def rIsiT (K : PySem.W.Frag) : List V → Hp → VK → Prop := fun xs H Q => ∃ (x : V) (p : Addr) (Ts : List String) (d : PyData) (b : Bool), xs = [x, .ref p] ∧ H p = some (.tup (Ts.map V.ty)) ∧ Den K H d x ∧ PySem.W.kitAny K (.type (tyD d)) (Ts.map Value.type) = some b ∧ Q (.bl b) H
theorem isiTK (K : PySem.W.Frag) (hK : X.K = K := by rfl) : CallR X (.builtin "isinstance") (rIsiT K) := by subst hK; exact call_isiTD
end
end L2

set_option Elab.async false
set_option linter.all false
set_option maxRecDepth 100000
set_option maxHeartbeats 4000000
/-! zip over lists and tuples (k: is it a tuple) -/
namespace L2
open PySem PySem.Spec PyProof.Rows
def kSeq (k : Bool) : String := if k then "tuple" else "list"
def kIter (k : Bool) : String := if k then "tuple_iterator" else "list_iterator"
/-- a list's or a tuple's items; its iterator ahead of item i -/
def SeqOf (k : Bool) (h : Heap) (a : Addr) (its : Array Value) : Prop := ∃ o, h.get? a = some o ∧ o.cls = .type (kSeq k) ∧ ∃ n, o.data = .seq its n
def SeqIt (k : Bool) (h : Heap) (it a : Addr) (i : Nat) : Prop := ∃ o, h.get? it = some o ∧ o.cls = .type (kIter k) ∧ o.data = .fields #[.ref a, .int i 0]
theorem SeqOf.at {k : Bool} {h h' : Heap} {a : Addr} {its : Array Value} (x : SeqOf k h a its) (e : ∀ o, h.get? a = some o → h'.get? a = some o) : SeqOf k h' a its := let ⟨o, ho, r⟩ := x; ⟨o, e _ ho, r⟩
theorem SeqIt.at {k : Bool} {h h' : Heap} {it a : Addr} {i : Nat} (x : SeqIt k h it a i) (e : ∀ o, h.get? it = some o → h'.get? it = some o) : SeqIt k h' it a i := let ⟨o, ho, r⟩ := x; ⟨o, e _ ho, r⟩
theorem SeqOf.lt {k : Bool} {h : Heap} {a : Addr} {its : Array Value} (x : SeqOf k h a its) : a < h.objs.size := let ⟨_, e, _⟩ := x; Heap.lt_size e
theorem SeqIt.lt {k : Bool} {h : Heap} {it a : Addr} {i : Nat} (x : SeqIt k h it a i) : it < h.objs.size := let ⟨_, e, _⟩ := x; Heap.lt_size e
section
variable {prog : Program} {w : World} {A : Around} {E : Value → Shared → Prop} {s : Shared} {k : Bool} {it a : Addr} {i : Nat} {its : Array Value}
theorem seq_next {x : Value} {Q : Value → Shared → Prop} (h1 : SeqIt k s.heap it a i) (h2 : SeqOf k s.heap a its) (hx : its[i]? = some x)
    (q : ∀ h', SeqIt k h' it a (i + 1) → Heap.SameBut it s.heap h' → Q x { s with heap := h' }) : wpAny (model prog w) A (Builtin.SmallTypes.nextOf (.ref it)) Q E s := by
  cases k with
  | false => exact wpAny_nextOf_list_item h1 h2 hx q
  | true =>
    obtain ⟨o, ho, hc, hd⟩ := h1
    obtain ⟨ol, hol, _, nl, hdl⟩ := h2
    have hT : s.TypeIs (.ref it) "tuple_iterator" := ⟨o, ho, hc⟩
    unfold Builtin.SmallTypes.nextOf
    refine wpAny_bind (wpAny_callSpecial?_slot (name := Str.ofString "__next__") hT F.slot_tuple_iterator_next (wpAny_call_entry F.slot_tuple_iterator_next hT F.entry_tuple_iterator_next ?_ (F.args_tuple_iterator_next_1 _)))
    change wpAny _ _ (Bind.bind (field (.ref it) 0) _) _ _ s
    refine wpAny_bind (wpAny_field ho hd (x := .ref a) rfl ?_)
    rw [if_neg (by intro z; cases z)]
    refine wpAny_bind (wpAny_field ho hd (x := .int i 0) rfl (wpAny_bind (wpAny_seqItems hol hdl ?_)))
    simp only [Int.toNat_natCast, hx]
    refine wpAny_bind (wpAny_setField ho hd (by simp) (wpAny_pure ⟨x, rfl, wpAny_pure (q _ ⟨_, Heap.get?_update_self _ ho (Obj.isFreed_of_fields (Obj.data_mapFields hd _)), (Obj.cls_mapFields ..).trans hc, ?_⟩ (Heap.SameBut.update ..))⟩))
    rw [Obj.data_mapFields hd]
    simp [rawInt]
theorem seq_stop {Q : Value → Shared → Prop} (hh : A.handled = none) (h1 : SeqIt k s.heap it a i) (h2 : SeqOf k s.heap a its) (hx : its[i]? = none)
    (q : ∀ h' e, Heap.ExtBut it s.heap h' → (∃ o, h'.get? e = some o ∧ o.cls = .type "StopIteration") → E (.ref e) { s with heap := h' }) : wpAny (model prog w) A (Builtin.SmallTypes.nextOf (.ref it)) Q E s := by
  cases k with
  | false => exact wpAny_nextOf_list_end hh h1 h2 hx q
  | true =>
    obtain ⟨o, ho, hc, hd⟩ := h1
    obtain ⟨ol, hol, _, nl, hdl⟩ := h2
    have hT : s.TypeIs (.ref it) "tuple_iterator" := ⟨o, ho, hc⟩
    unfold Builtin.SmallTypes.nextOf
    refine wpAny_bind (wpAny_callSpecial?_slot (name := Str.ofString "__next__") hT F.slot_tuple_iterator_next (wpAny_call_entry F.slot_tuple_iterator_next hT F.entry_tuple_iterator_next ?_ (F.args_tuple_iterator_next_1 _)))
    change wpAny _ _ (Bind.bind (field (.ref it) 0) _) _ _ s
    refine wpAny_bind (wpAny_field ho hd (x := .ref a) rfl ?_)
    rw [if_neg (by intro z; cases z)]
    refine wpAny_bind (wpAny_field ho hd (x := .int i 0) rfl (wpAny_bind (wpAny_seqItems hol hdl ?_)))
    simp only [Int.toNat_natCast, hx]
    refine wpAny_bind (wpAny_rule (wpAny_bind (wpAny_setField ho hd (by simp) (wpAny_bind ?_))))
    simp only [newExc, newTuple]
    refine wpAny_bind (wpAny_newObj_type ?_ (by size_fits))
    refine wpAny_bind (m := firstArgMember _ _) (wpAny_of_eq (a := Value.none) (by first | rfl | (simp only [firstArgMember]; rfl)) (wpAny_newObj_type ?_ (by size_fits)))
    simp only [raiseNew]
    refine wpAny_bind (wpAny_handled ?_)
    rw [show A.in1.handled = none from hh]
    exact wpAny_bind (wpAny_pure (wpAny_throw (q _ _ (((Heap.SameBut.update ..).extBut.push _).push _) ⟨_, Heap.get?_push_size _ rfl, rfl⟩)))
end
/-- a zip that holds no pair: its two iterators, its own pair -/
structure ZipSt (k1 k2 : Bool) (z TI TO i1 i2 l1 l2 : Addr) (i : Nat) (h : Heap) : Prop where
  zp : IsZip h z TI TO .none
  ti : IsPair h TI (.ref i1) (.ref i2)
  to : ∃ a b, IsPair h TO a b
  it1 : SeqIt k1 h i1 l1 i
  it2 : SeqIt k2 h i2 l2 i
section
variable {prog : Program} {w : World} {A : Around} {E : Value → Shared → Prop} {s : Shared} {k1 k2 : Bool} {z TI TO i1 i2 l1 l2 : Addr} {i : Nat} {xs ys : Array Value}
abbrev zipW (z TO i1 i2 : Addr) (b : Addr) : Prop := b = z ∨ b = TO ∨ b = i1 ∨ b = i2
theorem zipk_item {x y : Value} {Q : Option Value → Shared → Prop} (D : ZipApart z TI TO i1 i2 l1 l2) (st : ZipSt k1 k2 z TI TO i1 i2 l1 l2 i s.heap) (hl1 : SeqOf k1 s.heap l1 xs) (hl2 : SeqOf k2 s.heap l2 ys) (hx : xs[i]? = some x) (hy : ys[i]? = some y)
    (q : ∀ h', IsZip h' z TI TO (rawInt s.heap.objs.size) → IsPair h' TO x y → SeqIt k1 h' i1 l1 (i + 1) → SeqIt k2 h' i2 l2 (i + 1) → IsPair h' s.heap.objs.size x y → Keeps s.heap h' (zipW z TO i1 i2) → Q (some (.ref s.heap.objs.size)) { s with heap := h' }) :
    wpAny (model prog w) A (pyNext (.ref z)) Q E s := by
  obtain ⟨hz, hTI, ⟨a, b, hTO⟩, h1, h2⟩ := st
  have hT : s.TypeIs (.ref z) "zip" := ⟨_, hz, rfl⟩
  unfold pyNext
  refine wpAny_bind (wpAny_attempt (wpAny_callSpecial?_slot (name := Str.ofString "__next__") hT F.slot_zip_next (wpAny_call_entry F.slot_zip_next hT F.entry_zip_next ?_ (F.args_zip_next_1 _))))
  change wpAny _ _ (Bind.bind (field (.ref z) 2) _) _ _ _
  refine wpAny_bind (wpAny_field hz rfl (x := .bool false) rfl ?_)
  change wpAny _ _ (Bind.bind (field (.ref z) 3) _) _ _ _
  refine wpAny_bind (wpAny_field hz rfl (x := .ref TI) rfl (wpAny_bind (wpAny_seqItems hTI rfl ?_)))
  change wpAny _ _ (Bind.bind (Builtin.SmallTypes.ownedTupleIsFree (.ref z)) _) _ _ _
  refine wpAny_bind ?_
  unfold Builtin.SmallTypes.ownedTupleIsFree
  refine wpAny_bind (wpAny_field hz rfl (x := .none) rfl (wpAny_pure ?_))
  simp only [if_true]
  refine wpAny_bind (wpAny_rule (wpAny_bind (wpAny_field hz rfl (x := .ref TO) rfl (wpAny_bind (wpAny_setField_rec hz (by simp) fun g1 z1 e1 => wpAny_bind ?_)))))
  simp only [List.zipIdx_cons, List.zipIdx_nil, List.forIn_cons, List.forIn_nil]
  refine wpAny_bind (wpAny_bind (wpAny_onRaise ?_))
  change wpAny _ _ (Bind.bind (Builtin.SmallTypes.nextOf (.ref i1)) _) _ _ _
  refine wpAny_bind (seq_next (h1.at fun o e => e1.extBut _ _ D.i1z e) (hl1.at fun o e => e1.extBut _ _ D.l1z e) hx fun g2 it1 e2 => wpAny_pure ?_)
  have to2 : IsPair g2 TO a b := e2.extBut _ _ D.TOi1 (e1.extBut _ _ D.TOz hTO)
  refine wpAny_bind (wpAny_seqItems to2 rfl (wpAny_bind (wpAny_updateSeq_pair to2 fun g3 to3 e3 => wpAny_bind (wpAny_letGo (wpAny_pure ?_)))))
  have to3 : IsPair g3 TO x b := to3
  have k13 : Keeps s.heap g3 (fun c => c = z ∨ c = i1 ∨ c = TO) := fun c o nc e => e3.extBut _ _ (fun q => nc (.inr (.inr q))) (e2.extBut _ _ (fun q => nc (.inr (.inl q))) (e1.extBut _ _ (fun q => nc (.inl q)) e))
  refine wpAny_bind (wpAny_bind (wpAny_onRaise ?_))
  change wpAny _ _ (Bind.bind (Builtin.SmallTypes.nextOf (.ref i2)) _) _ _ _
  refine wpAny_bind (seq_next (h2.at fun o e => k13 _ _ (fun q => q.elim D.i2z fun q => q.elim D.i12.symm D.TOi2.symm) e) (hl2.at fun o e => k13 _ _ (fun q => q.elim D.l2z fun q => q.elim D.l2i1 D.l2TO) e) hy fun g4 it2 e4 => wpAny_pure ?_)
  have to4 : IsPair g4 TO x b := e4.extBut _ _ D.TOi2 to3
  refine wpAny_bind (wpAny_seqItems to4 rfl (wpAny_bind (wpAny_updateSeq_pair to4 fun g5 to5 e5 => wpAny_bind (wpAny_letGo (wpAny_pure (wpAny_pure ?_))))))
  have to5 : IsPair g5 TO x y := to5
  refine wpAny_bind (wpAny_seqItems to5 rfl (wpAny_bind (wpAny_newTuple ?_)))
  have hsz : g5.objs.size = s.heap.objs.size := by rw [e5.1, e4.1, e3.1, e2.1, e1.1]
  have z5 : IsZip g5 z TI TO .ellipsis := e5.extBut _ _ D.TOz.symm (e4.extBut _ _ D.i2z.symm (e3.extBut _ _ D.TOz.symm (e2.extBut _ _ D.i1z.symm z1)))
  have k5 : Keeps s.heap g5 (zipW z TO i1 i2) := fun c o nc e => e5.extBut _ _ (fun q => nc (.inr (.inl q))) (e4.extBut _ _ (fun q => nc (.inr (.inr (.inr q)))) (k13 c o (fun q => q.elim (fun q => nc (.inl q)) fun q => q.elim (fun q => nc (.inr (.inr (.inl q)))) fun q => nc (.inr (.inl q))) e))
  have it1' : SeqIt k1 g5 i1 l1 (i + 1) := it1.at fun o e => e5.extBut _ _ D.TOi1.symm (e4.extBut _ _ D.i12 (e3.extBut _ _ D.TOi1.symm e))
  have it2' : SeqIt k2 g5 i2 l2 (i + 1) := it2.at fun o e => e5.extBut _ _ D.TOi2.symm e
  have zlt : z < g5.objs.size := Heap.lt_size z5
  change wpAny _ _ (Bind.bind (Builtin.SmallTypes.ownedTupleHandOut (.ref z) (.ref g5.objs.size)) _) _ _ _
  refine wpAny_bind ?_
  unfold Builtin.SmallTypes.ownedTupleHandOut
  have z6 : IsZip (g5.push { cls := .type "tuple", data := .seq #[x, y] }) z TI TO .ellipsis := Heap.get?_push_of_some _ z5
  refine wpAny_bind (wpAny_setField_rec z6 (by simp) fun g7 z7 e7 => ?_)
  have z7 : IsZip g7 z TI TO (rawInt g5.objs.size) := z7
  refine wpAny_setField_rec z7 (by simp) fun g8 z8 e8 => wpAny_pure ⟨_, rfl, wpAny_pure ?_⟩
  have up : ∀ c o, c ≠ z → g5.get? c = some o → g8.get? c = some o := fun c o c1 e => e8.extBut _ _ c1 (e7.extBut _ _ c1 (Heap.get?_push_of_some _ e))
  have tp : IsPair g8 g5.objs.size x y := e8.extBut _ _ (Nat.ne_of_gt zlt) (e7.extBut _ _ (Nat.ne_of_gt zlt) (Heap.get?_push_size _ rfl))
  have z8 : IsZip g8 z TI TO (rawInt g5.objs.size) := z8
  show Q (some (.ref g5.objs.size)) _
  rw [hsz] at z8 tp ⊢
  exact q g8 z8 (up _ _ D.TOz to5) (it1'.at fun o e => up _ o D.i1z e) (it2'.at fun o e => up _ o D.i2z e) tp fun c o nc e => up c o (fun q => nc (.inl q)) (k5 c o nc e)
theorem zipk_stop {Q : Option Value → Shared → Prop} (hh : A.handled = none) (D : ZipApart z TI TO i1 i2 l1 l2) (st : ZipSt k1 k2 z TI TO i1 i2 l1 l2 i s.heap) (hl1 : SeqOf k1 s.heap l1 xs) (hl2 : SeqOf k2 s.heap l2 ys) (hend : xs[i]? = none ∨ ys[i]? = none)
    (q : ∀ h', Keeps s.heap h' (zipW z TO i1 i2) → Q none { s with heap := h' }) : wpAny (model prog w) A (pyNext (.ref z)) Q E s := by
  obtain ⟨hz, hTI, ⟨a, b, hTO⟩, h1, h2⟩ := st
  have hT : s.TypeIs (.ref z) "zip" := ⟨_, hz, rfl⟩
  unfold pyNext
  refine wpAny_bind (wpAny_attempt (wpAny_callSpecial?_slot (name := Str.ofString "__next__") hT F.slot_zip_next (wpAny_call_entry F.slot_zip_next hT F.entry_zip_next ?_ (F.args_zip_next_1 _))))
  change wpAny _ _ (Bind.bind (field (.ref z) 2) _) _ _ _
  refine wpAny_bind (wpAny_field hz rfl (x := .bool false) rfl ?_)
  change wpAny _ _ (Bind.bind (field (.ref z) 3) _) _ _ _
  refine wpAny_bind (wpAny_field hz rfl (x := .ref TI) rfl (wpAny_bind (wpAny_seqItems hTI rfl ?_)))
  change wpAny _ _ (Bind.bind (Builtin.SmallTypes.ownedTupleIsFree (.ref z)) _) _ _ _
  refine wpAny_bind ?_
  unfold Builtin.SmallTypes.ownedTupleIsFree
  refine wpAny_bind (wpAny_field hz rfl (x := .none) rfl (wpAny_pure ?_))
  simp only [if_true]
  refine wpAny_bind (wpAny_rule (wpAny_bind (wpAny_field hz rfl (x := .ref TO) rfl (wpAny_bind (wpAny_setField_rec hz (by simp) fun g1 z1 e1 => wpAny_bind ?_)))))
  have z1 : IsZip g1 z TI TO .ellipsis := z1
  simp only [List.zipIdx_cons, List.zipIdx_nil, List.forIn_cons, List.forIn_nil]
  refine wpAny_bind (wpAny_bind (wpAny_onRaise ?_))
  change wpAny _ _ (Bind.bind (Builtin.SmallTypes.nextOf (.ref i1)) _) _ _ _
  cases hx : xs[i]? with
  | none =>
    refine wpAny_bind (seq_stop hh (h1.at fun o e => e1.extBut _ _ D.i1z e) (hl1.at fun o e => e1.extBut _ _ D.l1z e) hx fun g2 e e2 oe => ?_)
    obtain ⟨o, ho, hc⟩ := oe
    have z2 : IsZip g2 z TI TO .ellipsis := e2 _ _ D.i1z.symm z1
    have ez : e ≠ z := fun q => by subst q; rw [z2] at ho; cases ho; simp at hc
    refine wpAny_setField_rec z2 (by simp) fun g3 _ e3 => ?_
    refine wpAny_bind (wpAny_isInstance (T := "StopIteration") (b := true) ⟨o, e3.extBut _ _ ez ho, hc⟩ isSubtype_stop (wpAny_pure (q g3 fun c o nc h => ?_)))
    exact e3.extBut _ _ (fun q => nc (.inl q)) (e2 _ _ (fun q => nc (.inr (.inr (.inl q)))) (e1.extBut _ _ (fun q => nc (.inl q)) h))
  | some x =>
    have hy : ys[i]? = none := hend.resolve_left (by rw [hx]; exact fun z => nomatch z)
    refine wpAny_bind (seq_next (h1.at fun o e => e1.extBut _ _ D.i1z e) (hl1.at fun o e => e1.extBut _ _ D.l1z e) hx fun g2 it1 e2 => wpAny_pure ?_)
    have to2 : IsPair g2 TO a b := e2.extBut _ _ D.TOi1 (e1.extBut _ _ D.TOz hTO)
    refine wpAny_bind (wpAny_seqItems to2 rfl (wpAny_bind (wpAny_updateSeq_pair to2 fun g3 to3 e3 => wpAny_bind (wpAny_letGo (wpAny_pure ?_)))))
    have k13 : Keeps s.heap g3 (fun c => c = z ∨ c = i1 ∨ c = TO) := fun c o nc e => e3.extBut _ _ (fun q => nc (.inr (.inr q))) (e2.extBut _ _ (fun q => nc (.inr (.inl q))) (e1.extBut _ _ (fun q => nc (.inl q)) e))
    refine wpAny_bind (wpAny_bind (wpAny_onRaise ?_))
    change wpAny _ _ (Bind.bind (Builtin.SmallTypes.nextOf (.ref i2)) _) _ _ _
    refine wpAny_bind (seq_stop hh (h2.at fun o e => k13 _ _ (fun q => q.elim D.i2z fun q => q.elim D.i12.symm D.TOi2.symm) e) (hl2.at fun o e => k13 _ _ (fun q => q.elim D.l2z fun q => q.elim D.l2i1 D.l2TO) e) hy fun g4 e e4 oe => ?_)
    obtain ⟨o, ho, hc⟩ := oe
    have z4 : IsZip g4 z TI TO .ellipsis := e4 _ _ D.i2z.symm (e3.extBut _ _ D.TOz.symm (e2.extBut _ _ D.i1z.symm z1))
    have ez : e ≠ z := fun q => by subst q; rw [z4] at ho; cases ho; simp at hc
    refine wpAny_setField_rec z4 (by simp) fun g5 _ e5 => ?_
    refine wpAny_bind (wpAny_isInstance (T := "StopIteration") (b := true) ⟨o, e5.extBut _ _ ez ho, hc⟩ isSubtype_stop (wpAny_pure (q g5 fun c o nc h => ?_)))
    exact e5.extBut _ _ (fun q => nc (.inl q)) (e4 _ _ (fun q => nc (.inr (.inr (.inr q)))) (k13 c o (fun q => q.elim (fun q => nc (.inl q)) fun q => q.elim (fun q => nc (.inr (.inr (.inl q)))) fun q => nc (.inr (.inl q))) h))
theorem seq_iter {k : Bool} {a : Addr} {its : Array Value} {Q : Value → Shared → Prop} (h : SeqOf k s.heap a its) (q : Q (.ref s.heap.objs.size) { s with heap := s.heap.push { cls := .type (kIter k), data := .fields #[.ref a, .int 0 0] } }) : wpAny (model prog w) A (pyIter (.ref a)) Q E s := by
  cases k with
  | false => exact wpAny_pyIter_list h q
  | true => exact wpAny_pyIter_tuple h q
end
/-- the heap behind zip(a, b) -/
abbrev zpO (k : Bool) (a : Addr) : Obj := { cls := .type (kIter k), data := .fields #[.ref a, .int 0 0] }
abbrev zpH (k1 k2 : Bool) (h : Heap) (a b : Addr) : Heap := ((((h.push (zpO k1 a)).push (zpO k2 b)).push { cls := .type "tuple", data := .seq #[.ref h.objs.size, .ref (h.objs.size + 1)] }).push { cls := .type "tuple", data := .seq #[.none, .none] }).push
  { cls := .type "zip", data := .fields #[.none, .bool false, .bool false, .ref (h.objs.size + 2), .ref (h.objs.size + 3)] }
theorem zipk_new (k1 k2 : Bool) (a b : Addr) (xs ys : Array Value) :
    Meets (Builtin.«zip.__new__» ⟨[.type "zip", .ref a, .ref b], []⟩) (fun _ R s => SeqOf k1 s.heap a xs ∧ SeqOf k2 s.heap b ys ∧ R (.ok (.ret (.ref (s.heap.objs.size + 4)))) { s with heap := zpH k1 k2 s.heap a b }) :=
  .of_wp fun prog w A R s h => by
    obtain ⟨hp, g, d, tk, os⟩ := s; obtain ⟨hl1, hl2, h⟩ := h
    have hsub := sub_zip
    have hL1 : SeqOf k1 (Shared.heap ⟨hp, g, d, tk, os⟩) a xs := hl1
    have hL2 : SeqOf k2 (Shared.heap ⟨hp.push (zpO k1 a), g, d, tk, os⟩) b ys := hl2.at fun o e => Heap.get?_push_of_some _ e
    have s1 : (hp.push (zpO k1 a)).objs.size = hp.objs.size + 1 := Heap.size_push ..
    wp_walk using seq_iter hL1, seq_iter hL2
    refine ⟨_, rfl, ?_⟩
    simp only [Heap.size_push] at h ⊢
    exact h
end L2

set_option Elab.async false
set_option linter.all false
set_option maxRecDepth 100000
set_option maxHeartbeats 4000000
/-! zip in a loop's head, over lists and tuples -/
namespace L2
open PySem PySem.Spec PyProof.Rows
section
variable {prog : Program} {w : World} {A : Around} {E : Value → Shared → Prop} {s : Shared}
theorem call_zipk {k1 k2 : Bool} {a b : Addr} {xs ys : Array Value} {Q : Value → Shared → Prop} (h1 : SeqOf k1 s.heap a xs) (h2 : SeqOf k2 s.heap b ys)
    (q : ∀ h', ZipSt k1 k2 (s.heap.objs.size + 4) (s.heap.objs.size + 2) (s.heap.objs.size + 3) s.heap.objs.size (s.heap.objs.size + 1) a b 0 h' → (∀ c o, s.heap.get? c = some o → h'.get? c = some o) → Q (.ref (s.heap.objs.size + 4)) { s with heap := h' }) :
    wpAny (model prog w) A (call (.type "zip") [.ref a, .ref b]) Q E s := by
  refine callType_new F.called_zip (by decide) (F.typeCall_zip_2 _ _) (F.newCall_zip_2 _ _) (fun obj => F.args_object_init_3 obj _ _) F.entry_zip_new (zipk_new k1 k2 a b xs ys) ⟨h1, h2, ?_⟩
  have up : ∀ {h : Heap} {c : Addr} {o : Obj} (p : Obj), h.get? c = some o → (h.push p).get? c = some o := fun p e => Heap.get?_push_of_some p e
  have last : ∀ {h : Heap} {n : Nat} {p : Obj}, h.objs.size = n → p.isFreed = false → (h.push p).get? n = some p := fun e hf => by rw [← e]; exact Heap.get?_push_size _ hf
  have z1 : (s.heap.push (zpO k1 a)).objs.size = s.heap.objs.size + 1 := Heap.size_push ..
  have z2 : ((s.heap.push (zpO k1 a)).push (zpO k2 b)).objs.size = s.heap.objs.size + 2 := by rw [Heap.size_push, z1]
  have z3 : (((s.heap.push (zpO k1 a)).push (zpO k2 b)).push { cls := .type "tuple", data := .seq #[.ref s.heap.objs.size, .ref (s.heap.objs.size + 1)] }).objs.size = s.heap.objs.size + 3 := by rw [Heap.size_push, z2]
  have z4 : ((((s.heap.push (zpO k1 a)).push (zpO k2 b)).push { cls := .type "tuple", data := .seq #[.ref s.heap.objs.size, .ref (s.heap.objs.size + 1)] }).push { cls := .type "tuple", data := .seq #[.none, .none] }).objs.size = s.heap.objs.size + 4 := by rw [Heap.size_push, z3]
  have st : ZipSt k1 k2 (s.heap.objs.size + 4) (s.heap.objs.size + 2) (s.heap.objs.size + 3) s.heap.objs.size (s.heap.objs.size + 1) a b 0 (zpH k1 k2 s.heap a b) :=
    ⟨last z4 rfl, up _ (up _ (last z2 rfl)), ⟨.none, .none, up _ (last z3 rfl)⟩, ⟨_, up _ (up _ (up _ (up _ (last rfl rfl)))), rfl, rfl⟩, ⟨_, up _ (up _ (up _ (last z1 rfl))), rfl, rfl⟩⟩
  have kp : ∀ c o, s.heap.get? c = some o → (zpH k1 k2 s.heap a b).get? c = some o := fun c o e => up _ (up _ (up _ (up _ (up _ e))))
  have ob : (zpH k1 k2 s.heap a b).get? (s.heap.objs.size + 4) = some _ := st.zp
  exact ⟨⟨_, ob, rfl⟩, q _ st kp⟩
end
/-- a list or a tuple that is known -/
def SqK (k : Bool) (K : PySem.W.Frag) (H : Hp) (a : Addr) (xs : List V) : Prop := if k = true then SqT K H a xs else SqL K H a xs
theorem Inv.seqk {X : Cx} {pins : List (Addr × Obj)} {σ : St} {H : Hp} {s : Shared} {k : Bool} {a : Addr} {xs : List V} (I : Inv X pins σ H s) (h : SqK k X.K H a xs) : ∃ its : List Value, Vals xs its ∧ SeqOf k s.heap a its.toArray ∧ xs.length ≤ sizeLine := by
  cases k with
  | false =>
    obtain ⟨its, r, ⟨o, n, e1, e2, _, e4⟩, z⟩ := I.list h
    exact ⟨its, r, ⟨o, e1, e2, n, e4⟩, z⟩
  | true =>
    obtain ⟨its, r, ⟨o, e1, e2, n, e4⟩, z⟩ := I.tuple h
    exact ⟨its, r, ⟨o, e1, e2, n, e4⟩, z⟩
theorem Inv.seqk_inj {X : Cx} {pins : List (Addr × Obj)} {σ : St} {H : Hp} {s : Shared} {k : Bool} {a : Addr} {xs ys : List V} (I : Inv X pins σ H s) (h : SqK k X.K H a xs) (h' : SqK k X.K H a ys) : xs = ys := by
  cases k with
  | false => exact I.list_inj h h'
  | true => exact I.tuple_inj h h'
def ItzK (K : PySem.W.Frag) (k1 k2 : Bool) (a b : Addr) : It :=
  ⟨fun i H => ∃ xs ys x y, SqK k1 K H a xs ∧ SqK k2 K H b ys ∧ xs[i]? = some x ∧ ys[i]? = some y,
   fun i H v H' => ∃ T, v = .ref T ∧ ∀ xs ys x y, SqK k1 K H a xs → SqK k2 K H b ys → xs[i]? = some x → ys[i]? = some y → New H T (.tup [x, y]) H',
   fun i H => ∃ xs ys, SqK k1 K H a xs ∧ SqK k2 K H b ys ∧ (xs.length ≤ i ∨ ys.length ≤ i)⟩
theorem turn_zipk {P : Program} {w : World} {K : PySem.W.Frag} {elts : List Expr} {k : Nat} {tp : Pos} (k1 k2 : Bool) (z TI TO i1 i2 l1 l2 : Addr) (D : ZipApart z TI TO i1 i2 l1 l2) :
    Turn P w K (.Tuple elts k tp) (ItzK K k1 k2 l1 l2) [z, TI, TO, i1, i2] z (ZipSt k1 k2 z TI TO i1 i2 l1 l2) where
  mem := by simp
  obj := fun i h st b hb => by
    obtain ⟨h1, h2, ⟨_, _, h3⟩, ⟨o4, h4, _, d4⟩, ⟨o5, h5, _, d5⟩⟩ := st
    simp at hb
    rcases hb with rfl | rfl | rfl | rfl | rfl
    · exact ⟨_, h1, fun _ z => nomatch z⟩
    · exact ⟨_, h2, fun _ z => nomatch z⟩
    · exact ⟨_, h3, fun _ z => nomatch z⟩
    · exact ⟨_, h4, fun v q => by rw [d4] at q; cases q⟩
    · exact ⟨_, h5, fun v q => by rw [d5] at q; cases q⟩
  keep := fun i h h' st hk => by
    obtain ⟨h1, h2, ⟨a, b, h3⟩, h4, h5⟩ := st
    exact ⟨hk z (by simp) _ h1, hk TI (by simp) _ h2, ⟨a, b, hk TO (by simp) _ h3⟩, h4.at fun o e => hk i1 (by simp) o e, h5.at fun o e => hk i2 (by simp) o e⟩
  item := fun X hP hw hK hc i pins s σ H E I hf st go => by
    subst hP hw hK
    obtain ⟨xs, ys, x, y, q1, q2, e1, e2⟩ := go
    obtain ⟨its1, r1, p1, _⟩ := I.seqk q1
    obtain ⟨its2, r2, p2, _⟩ := I.seqk q2
    obtain ⟨u1, g1, ru1⟩ := vals_get r1 e1
    obtain ⟨u2, g2, ru2⟩ := vals_get r2 e2
    have hz := st.zp
    have hTI := st.ti
    refine zipk_item D st p1 p2 g1 g2 fun h' a1 a2 a3 a4 a5 a7 => ⟨_, rfl, ?_⟩
    refine wpAny_letOwnedTupleGo_zip a1 fun h'' b1 b2 => ?_
    have hTz : s.heap.objs.size ≠ z := addr_ne' (Heap.lt_size hz) (Nat.le_refl _)
    have hf' : ∀ c ∈ [z, TO, i1, i2], FpOk X pins H c := fun c hc => hf c (by simp at hc ⊢; rcases hc with q | q | q | q <;> simp [q])
    have kp : ∀ c o, c ∉ [z, TO, i1, i2] → s.heap.get? c = some o → h''.get? c = some o := fun c o hc e => by
      simp only [List.mem_cons, List.not_mem_nil, or_false] at hc
      exact b2.extBut c o (fun q => hc (.inl q)) (a7 c o hc e)
    have I1 : Inv X pins σ H { s with heap := h'', toks := s.toks } := I.iter hf' kp
    have fT : FpOk X pins H s.heap.objs.size := I.fpOk (Nat.le_refl _) (I.hok.fresh (Nat.le_refl _))
    have oT : h''.get? s.heap.objs.size = some { cls := .type "tuple", data := .seq #[u1, u2] } := b2.extBut _ _ hTz a5
    have I2 := I1.adopt (T := s.heap.objs.size) (o := .tup [x, y]) fT I.sz ⟨by show 2 ≤ sizeLine; decide, [u1, u2], .cons ru1 (.cons ru2 .nil), ⟨_, oT, rfl, _, rfl⟩⟩
    refine ⟨.ref s.heap.objs.size, _, I2, rfl, ⟨_, rfl, fun xs' ys' x' y' q1' q2' e1' e2' => ?_⟩, ⟨b1, b2.extBut _ _ D.TIz (a7 _ _ (fun q => q.elim D.TIz fun q => q.elim D.TITO fun q => q.elim D.TIi1 D.TIi2) hTI), ⟨_, _, b2.extBut _ _ D.TOz a2⟩, a3.at fun o e => b2.extBut _ _ D.i1z e, a4.at fun o e => b2.extBut _ _ D.i2z e⟩, fun c hc => ?_⟩
    · rw [I.seqk_inj q1' q1] at e1'
      rw [I.seqk_inj q2' q2] at e2'
      rw [e1] at e1'; rw [e2] at e2'; cases e1'; cases e2'
      exact ⟨fT.1, rfl⟩
    · obtain ⟨_, _, ⟨_, _, hTO⟩, h1, h2⟩ := st
      have hcs : c < s.heap.objs.size := by
        simp at hc
        rcases hc with rfl | rfl | rfl | rfl | rfl
        · exact Heap.lt_size hz
        · exact Heap.lt_size hTI
        · exact Heap.lt_size hTO
        · exact h1.lt
        · exact h2.lt
      rw [upd_ne (addr_ne hcs (Nat.le_refl _))]
      exact (hf c hc).1
  done := fun X hP hw hK hc i pins s σ H E I hf st stop => by
    subst hP hw hK
    obtain ⟨xs, ys, q1, q2, e⟩ := stop
    obtain ⟨its1, r1, p1, _⟩ := I.seqk q1
    obtain ⟨its2, r2, p2, _⟩ := I.seqk q2
    have l1' := r1.length
    have l2' := r2.length
    refine zipk_stop (I.ok.hd hc) D st p1 p2 ?_ fun h' kp => ⟨rfl, ?_⟩
    · rcases e with e | e
      · exact .inl (by simp; omega)
      · exact .inr (by simp; omega)
    · refine I.iter (ch := [z, TO, i1, i2]) (t' := s.toks) (fun c hc => hf c (by simp at hc ⊢; rcases hc with q | q | q | q <;> simp [q])) fun c o hc e => ?_
      simp only [List.mem_cons, List.not_mem_nil, or_false] at hc
      exact kp c o hc e
  self := fun A i s Q E st hQ => wpAny_pyIter_zip st.zp hQ
section
variable {X : Cx}
def iZipK (K : PySem.W.Frag) (ta : TA) : TI := fun σ H R => ta σ H fun vs H1 => ∃ k1 k2 a b, vs = [.ref a, .ref b] ∧ (∃ xs, SqK k1 K H1 a xs) ∧ (∃ ys, SqK k2 K H1 b ys) ∧ R (ItzK K k1 k2 a b) H1
theorem pi_zipK (K : PySem.W.Frag) {elts : List Expr} {k : Nat} {tp : Pos} {a b : Expr} {ta : TA} {p pos : Pos} (hg : Gl X "zip") (hm : X.mg "zip" = none) (ha : PA X [a, b] ta) (hb : bootBuiltins "zip" = some (.type "zip") := by first | rfl | decide)
    (hs : starEach [a, b] X.env = [(false, eval a X.env), (false, eval b X.env)] := by rfl) (hs2 : starEach [b] X.env = [(false, eval b X.env)] := by rfl) (hK : X.K = K := by rfl) :
    PI X (.Tuple elts k tp) (.Call (.Name "zip" p) [a, b] [] pos) (iZipK K ta) := by
  subst hK
  intro pins s σ H R I h
  refine Call_ (ld_blt I hg hm hb (PyProof.Rows.callWith_type1 (thn (ha s σ H _ I h) fun us s1 ⟨vs, H1, I1, r1, q1⟩ => ?_) (by rw [hs, hs2]) (by rw [hs2]; rfl)))
  obtain ⟨k1, k2, l1, l2, e, ⟨xs, q1⟩, ⟨ys, q2⟩, q⟩ := q1
  subst e
  obtain ⟨u, w', rfl, r1, r2⟩ := vals2 r1
  cases r1; cases r2
  obtain ⟨its1, rv1, p1, _⟩ := I1.seqk q1
  obtain ⟨its2, rv2, p2, _⟩ := I1.seqk q2
  refine call_zipk p1 p2 fun h' st hk => wpAny_pyIter_zip st.zp ?_
  have I2 : Inv X pins σ H1 { s1 with heap := h' } := I1.kept (t' := s1.toks) hk
  refine ⟨_, _, _, _, H1, rfl, I2, turn_zipk k1 k2 _ _ _ _ _ _ _ (zipApart_new p1.lt p2.lt), st, fun c hc => ?_, q⟩
  have hcs : s1.heap.objs.size ≤ c := by
    simp at hc
    rcases hc with rfl | rfl | rfl | rfl | rfl
    · exact Nat.le_add_right _ _
    · exact Nat.le_add_right _ _
    · exact Nat.le_add_right _ _
    · exact Nat.le_refl _
    · exact Nat.le_add_right _ _
  exact I1.fpOk hcs (I1.hok.fresh hcs)
end
end L2

set_option Elab.async false
set_option linter.all false
set_option maxRecDepth 100000
set_option maxHeartbeats 4000000
/-! insert; loops over a list, a tuple or a text; xs[::-1]; the least of a list -/
namespace L2
open PySem PySem.Spec PyProof.Rows
section
variable {X : Cx}
end
section
variable {X : Cx} {tg : Expr}
end
/-! xs[::-1] -/
theorem range_rev (n : Nat) : sliceRange (sliceBounds none none (some (-1)) n).1 (sliceBounds none none (some (-1)) n).2.1 (sliceBounds none none (some (-1)) n).2.2 = (List.range n).map fun k => n - 1 - k := by
  have e := PyProof.Rows.picked_rev n
  rw [← e]
  rfl
theorem fm_map {α β : Type} {f : α → Option β} {g : α → β} : ∀ {l : List α}, (∀ k ∈ l, f k = some (g k)) → l.filterMap f = l.map g
  | [], _ => rfl
  | a :: l, h => by
    rw [List.filterMap_cons_some (h a List.mem_cons_self), List.map_cons, fm_map fun k hk => h k (List.mem_cons_of_mem _ hk)]
theorem pick_rev (its : List Value) : slicePick its.toArray none none (some (-1)) = its.reverse.toArray := by
  unfold slicePick
  rw [range_rev, List.size_toArray]
  congr 1
  apply List.ext_getElem?
  intro i
  rw [List.filterMap_map]
  have hm : ∀ k ∈ List.range its.length, ((fun x => its.toArray[x]?) ∘ fun k => its.length - 1 - k) k = some (its.reverse.getD k .none) := fun k hk => by
    have hk := List.mem_range.mp hk
    simp only [Function.comp]
    rw [List.getD_eq_getElem?_getD, List.getElem?_reverse (by omega)]
    rw [List.getElem?_toArray, List.getElem?_eq_getElem (by omega)]
    rfl
  have e2 : (List.range its.length).filterMap ((fun x => its.toArray[x]?) ∘ fun k => its.length - 1 - k) = (List.range its.length).map fun k => its.reverse.getD k .none := by
    exact fm_map hm
  rw [e2, List.getElem?_map]
  by_cases hi : i < its.length
  · rw [List.getElem?_range hi, List.getElem?_eq_getElem (by simpa using hi)]
    simp [List.getD, hi]
  · rw [List.getElem?_eq_none (by simp; omega), List.getElem?_eq_none (by simp; omega)]
    rfl
section
variable {X : Cx} {e : Expr} {te : TE} {pos p2 p3 p4 : Pos} {j : Nat}
def tRev (K : PySem.W.Frag) (te : TE) : TE := fun σ H Q => te σ H fun x H1 => ∃ a xs, x = .ref a ∧ SqL K H1 a xs ∧ ∀ p H', New H1 p (.lst xs.reverse) H' → Q (.ref p) H'
theorem Vals.rev : ∀ {xs : List V} {us : List Value}, Vals xs us → Vals xs.reverse us.reverse
  | _, _, .nil => .nil
  | _, _, .cons r t => by
    rw [List.reverse_cons, List.reverse_cons]
    exact (Vals.rev t).append (.cons r .nil)
theorem pe_rev (K : PySem.W.Frag) (he : PE X e te) (hK : X.K = K := by rfl) : PE X (.Subscript e (.Slice none none (some (.UnaryOp .USub (.Constant (.int 1) j p4) p3)) p2) pos) (tRev K te) := by
  subst hK
  intro pins s σ H Q I h
  refine Subscript_ (thn (he s σ H _ I h) fun v s1 ⟨x, H1, I1, r1, q1⟩ => ?_)
  obtain ⟨a, xs, rfl, hx, q⟩ := q1
  cases r1
  refine wpAny_Slice ?_
  rw [evalPart_none]
  refine wpAny_pure ?_
  refine wpAny_pure ?_
  have hs : PE X (.UnaryOp .USub (.Constant (.int 1) j p4) p3) (tUn (rU fun i => .int (-i)) (tC (.int 1))) := pe_un un_neg pe_int
  have hp := po_some hs s1 σ H1 (fun o H2 => o = some (-1) ∧ H2 = H1) I1 ⟨1, rfl, -1, rfl, rfl, rfl⟩
  refine thn hp fun vs s3 ⟨o, H3, I3, ps, eo, eh⟩ => ?_
  subst eo eh
  have I4 : Inv X pins σ H3 { s3 with heap := s3.heap.push { cls := .type "slice", data := .fields #[.none, .none, vs] } } := I3.kept (t' := s3.toks) fun b ob q => Heap.get?_push_of_some _ q
  obtain ⟨its, r, ht, hz⟩ := I4.list hx
  have hlen := r.length
  refine tail_any (ops := [.ref a, .ref s3.heap.objs.size]) ht.isList.typeIs slot_list_getitem.lookup ?_ (by with_unfolding_all rfl)
  refine wpAny_getItem_list_slice (st := some (-1)) ht.isList (Heap.IsSliceOf.new ..) .none .none ps (by decide) ?_ (by rw [List.size_toArray]; omega)
  rw [pick_rev]
  refine ⟨.ref _, _, I4.laid (t' := s3.toks) (o := .lst xs.reverse) (fun b ob q => Heap.get?_push_of_some _ q) (Nat.le_refl _) ?_, rfl, q _ _ ⟨I4.hok.fresh (Nat.le_refl _), rfl⟩⟩
  exact ⟨by rw [List.length_reverse]; exact hz, _, 0, r.rev, Heap.get?_push_size _ rfl⟩
end
end L2

set_option Elab.async false
set_option linter.all false
set_option maxRecDepth 100000
set_option maxHeartbeats 4000000
/-! the least of a list of things that are compared by what stands in the heap -/
namespace L2
open PySem PySem.Spec PyProof.Rows
section
variable {prog : Program} {w : World} {A : Around} {R : Result → Shared → Prop} {I S : Addr} {fp wr : List Addr} {n : Nat} {P : Nat → Value → Prop} {St : Nat → Heap → Prop}
end
/-! the least of a list of tuples of ints -/
section
variable {X : Cx} (K : PySem.W.Frag)
end
end L2
namespace L2
open PySem
section
variable {X : Cx} (K : PySem.W.Frag)
theorem enumK {elts : List Expr} {k : Nat} {tp : Pos} {a : Expr} {ta : TA} {p pos : Pos} (hg : Gl X "enumerate") (hm : X.mg "enumerate" = none) (ha : PA X [a] ta) (hb : bootBuiltins "enumerate" = some (.type "enumerate") := by first | rfl | decide) (hs : starEach [a] X.env = [(false, eval a X.env)] := by rfl) (hK : X.K = K := by rfl) :
    PI X (.Tuple elts k tp) (.Call (.Name "enumerate" p) [a] [] pos) (iEnum K ta) := by subst hK; exact pi_enum hg hm ha hb hs
end
end L2

set_option Elab.async false
set_option linter.all false
set_option maxRecDepth 100000
set_option maxHeartbeats 4000000
/-! {k: v for t in xs if c}: the new dict stands in the heap's letters from the start -/
namespace L2
open PySem PySem.Spec PyProof.Rows
section
variable {prog : Program} {w : World} {A : Around} {R : Result → Shared → Prop} {s : Shared}
end
section
variable {X : Cx} {pins : List (Addr × Obj)} {σ : St} {H : Hp} {s : Shared} {a : Addr} {y v : V} {u r : Value} {A : Around} {E : Value → Shared → Prop}
end

section
variable {X : Cx} {pins : List (Addr × Obj)} {σ : St} {H : Hp} {s : Shared} {scope : Scope} {Nc Fc : List Str} {js : List Nat} {cl : List (Str × Addr)} {C : Addr} {fp : List Addr}
/-- the state at the block's entry, nothing pinned -/
theorem cxC_inv0 (I : Inv X pins σ H s) (c : CompOk X scope Nc Fc js) (hsub : ∀ n c, cl.lookup n = some c → X.env.cells.lookup n = some c) (hhas : ∀ y ∈ scope.names, y.2 = .free → ∃ c, cl.lookup y.1 = some c)
    (hC : s.heap.objs.size ≤ C) (hf : ∀ b ∈ fp, FpOk X pins H b) (ho : ∀ b ∈ fp, ∃ o, s.heap.get? b = some o) {h1 : Heap} {t1 : Nat} {m : Str → Option Value}
    (hk : ∀ b o, s.heap.get? b = some o → h1.get? b = some o) (hm : h1.Ns C m) :
    Inv (cxC X Nc Fc scope cl C s H fp) [] (List.replicate Nc.length none ++ cvals σ js) H { s with heap := h1, toks := t1 } := by
  refine ⟨cxC_ok I c hsub hhas hC hf ho, rfl, I.bare, Un.kept hk, ⟨m, hm, fun i x v e1 e2 e3 => ?_⟩, fun x a e => ?_, I.hok.fresh hC, fun x a e => I.freeC x a (hsub x a e), fun p hp => ?_, I.hok.kept hk, ?_⟩
  · have e1 : (Nc ++ Fc)[i]? = some x := e1
    have e2 : (List.replicate Nc.length none ++ cvals σ js)[i]? = some (some v) := e2
    by_cases hi : i < Nc.length
    · rw [List.getElem?_append_left (by simpa using hi), List.getElem?_replicate] at e2
      split at e2 <;> cases e2
    · rw [List.getElem?_append_right (by omega)] at e1
      rw [List.getElem?_append_right (by rw [List.length_replicate]; omega), List.length_replicate] at e2
      obtain ⟨hfr, j, hj, hN⟩ := c.frees _ _ e1
      have hv : σ[j]? = some (some v) := by
        unfold cvals at e2
        rw [List.getElem?_map, hj] at e2
        have e2 : some ((σ[j]?).join) = some (some v) := e2
        cases q : σ[j]? with
        | none => rw [q] at e2; cases e2
        | some z => rw [q] at e2; cases e2; rfl
      have kx := c.free _ (mem_of_lookup' hfr) rfl
      obtain ⟨m0, hn0, hl0⟩ := I.loc
      have vis : Vis X.env.scope x := by
        rcases kx with k | k
        · exact .inr (.inl k)
        · exact .inr (.inr k)
      obtain ⟨u, ru, lk⟩ := hl0 j x v hN hv vis
      refine ⟨u, ru, .inr ⟨?_, ?_⟩⟩
      · rw [cxC_kind]; exact relabel_of_free hfr
      · obtain ⟨a, ha⟩ := hhas _ (mem_of_lookup' hfr) rfl
        refine ⟨a, ha, ?_⟩
        rcases lk with ⟨k, _⟩ | ⟨_, a', ha', hcell⟩
        · rcases kx with q | q <;> (rw [k] at q; cases q)
        · have e := hsub _ _ ha
          dsimp only at e
          rw [ha'] at e; cases e
          exact hcell.keeps hk
  · obtain ⟨v, z⟩ := I.cell x a (hsub x a e)
    exact ⟨v, z.keeps hk⟩
  · have hp : p ∈ ([] : List (Addr × Obj)) := hp
    cases hp
  · show (List.replicate Nc.length none ++ cvals σ js).length = (Nc ++ Fc).length
    unfold cvals
    rw [List.length_append, List.length_append, List.length_replicate, List.length_map, c.lens]
end
end L2

set_option Elab.async false
set_option linter.all false
set_option maxRecDepth 100000
set_option maxHeartbeats 4000000
/-! sorted(xs) of fewer than 64 ints -/
namespace L2
open PySem PySem.Spec PyProof.Rows
section
variable {X : Cx} (K : PySem.W.Frag)
end
end L2

set_option Elab.async false
set_option linter.all false
set_option maxRecDepth 100000
set_option maxHeartbeats 4000000
/-! an exception of an own class: raised, passing the frames -/
namespace L2
open PySem PySem.Spec PyProof.Rows PySem.W
theorem ObjOk.ex {P : Program} {w : World} {H : Hp} {h : Heap} {a : Addr} : ∀ {o : HO}, ObjOk P w H h a o → ∃ q, h.get? a = some q
  | .lst _, ⟨_, _, _, _, e⟩ => ⟨_, e⟩
  | .tup _, ⟨_, _, _, ⟨_, e, _⟩⟩ => ⟨_, e⟩
  | .dK _, ⟨_, _, _, _, ⟨_, _, _, e, _⟩⟩ => ⟨_, e⟩
  | .dT _, ⟨_, _, _, _, _, _, _, e, _⟩ => ⟨_, e⟩
  | .set _ _, ⟨_, _, _, _, e, _⟩ => ⟨_, e⟩
  | .ins _ _ _, ⟨_, _, _, e, _⟩ => ⟨_, e⟩
  | .own _, ⟨_, e⟩ => ⟨_, e⟩
  | .xd _, ⟨_, ⟨_, _, _, e, _⟩, _⟩ => ⟨_, e⟩
  | .rng _ _, ⟨_, _, _, e⟩ => ⟨_, e⟩
  | .frz _ _, ⟨e, _⟩ => ⟨_, e⟩
  | .tbl _, e => ⟨_, e⟩
  | .met _ _, e => ⟨_, e⟩
  | .ext _, ⟨_, e, _⟩ => e
/-- tracked things stand in a part B of the heap that stays -/
theorem HOk.part {P : Program} {w : World} {H : Hp} {h h' B : Heap} (x : HOk P w H h) (hB : B.StaysIn h) (hB' : B.StaysIn h') (hin : ∀ b u, H b = some u → ∃ o, B.get? b = some o) : HOk P w H h' := fun a o e =>
  (x a o e).stay (fun b u hb q => by
    obtain ⟨o', eo⟩ : ∃ o', B.get? b = some o' := by
      rcases hb with hb | hb
      · subst hb; exact hin _ _ e
      · exact hin _ _ hb
    have := hB b o' eo
    rw [q] at this; cases this
    exact hB' b _ eo) (fun _ q => q) fun _ _ q => q
/-- how an exception lies behind a call: B is what is not a frame and stays -/
def CXE (P : Program) (w : World) (base : Heap) : CXT := fun outer H s E e s' => ∃ ea cls t B H', e = .ref ea ∧ s'.os = s.os ∧ AllBare s'.gens ∧ Un (frs outer) [] H H' s.heap s'.heap ∧ HOk P w H' s'.heap ∧
  base.StaysIn B ∧ (∀ b o, s.heap.get? b = some o → b ∉ frs outer → ∃ o', B.get? b = some o') ∧ (∀ b u, H' b = some u → ∃ o', B.get? b = some o') ∧ Heap.FlyingW B outer ea cls (.ref t) s'.heap ∧ E cls none H'
theorem fun_data {base h : Heap} : ∀ {l : List Env} {b : Addr}, h.FunFrames base l → b ∈ frs l → ∃ o, h.get? b = some o ∧ ∀ vs, o.data ≠ .fields vs := fun {l b} hl hb => by
  obtain ⟨_, o, e, n⟩ := hl.mem hb
  exact ⟨o, e, n⟩
section
variable {P : Program} {w : World} {K : PySem.W.Frag} {mg : Str → Option Value} {base : Heap} {N : List Str} {qual : Str} {scope : Scope} {f : Addr} {cd : Value} {A : Around} {outer : List Env} {s0 : Shared} {H0 : Hp} {E : XK}
/-- a made exception leaves the def's frame -/
theorem made_leaves {pins : List (Addr × Obj)} {σ : St} {H : Hp} {s : Shared} {h1 : Heap} {e : Addr} {cls : Value} {us : List Value}
    (I : Inv (cxOf (CXE P w base) P w K mg base N qual scope f cd A outer s0 H0 E) pins σ H s) (hx : Heap.MadeExcOf s.heap h1 e cls us) (hE : E cls none H) :
    (cxOf (CXE P w base) P w K mg base N qual scope f cd A outer s0 H0 E).xe (.ref e) { s with heap := h1 } := by
  let env := envOfC qual scope s0.heap.objs.size f cd
  let B := hideAll s.heap (frs (env :: outer))
  have hst : B.StaysIn s.heap := fun b o q => of_hideAll _ q
  have hfun : s.heap.FunFrames base (env :: outer) := I.stack
  have hfr : (A.deeper env).frames = some (env :: outer) := I.ok.frames
  have hLs : ∀ b o, s0.heap.get? b = some o → b ≠ s0.heap.objs.size := fun b o q => Nat.ne_of_lt (Heap.lt_size q)
  have hmem : ∀ b, b ∈ frs (env :: outer) → b = s0.heap.objs.size ∨ b ∈ frs outer := fun b hb => by
    have : b ∈ (env :: outer).filterMap (·.frame) := hb
    rw [List.filterMap_cons] at this
    exact List.mem_cons.mp this
  have hin : ∀ b u, H b = some u → ∃ o, B.get? b = some o := fun b u q => by
    obtain ⟨o, eo⟩ := (I.hok b u q).ex
    refine ⟨o, hideAll_get _ eo fun z => ?_⟩
    have := I.stkFree b z
    rw [q] at this; cases this
  have hbB : base.StaysIn B := fun b o q => by
    refine hideAll_get _ (I.bs b o q).1 fun z => ?_
    have := (hfun.mem z).1
    rw [q] at this; cases this
  have ub : Un (frs outer) [] H0 H s0.heap s.heap := I.base
  show wpAny _ _ (leaving env (.ref e)) _ _ _
  refine wpAny_leaves_madeW (base := B) (h := s.heap) hfr rfl hst (funFrames_hide hfun fun v hv a ha => List.mem_filterMap.mpr ⟨v, hv, ha⟩) hx fun h' t fly _ _ up => ?_
  have hk : ∀ b o, b ∉ frs (env :: outer) → s.heap.get? b = some o → h'.get? b = some o := fun b o hb q => fly.1 b o (hideAll_get _ q hb)
  have hslot : ∀ b o, b ∈ frs (env :: outer) → s.heap.get? b = some o → ∃ sl, h'.get? b = some { o with slots := sl } := fun b o hb q => by
    obtain ⟨o', e', nf⟩ := fun_data hfun hb
    rw [q] at e'; cases e'
    exact up b o (hx.keeps b o q) nf
  have old : ∀ b o, s0.heap.get? b = some o → b ∉ frs outer → b ∉ frs (env :: outer) := fun b o q hb z => (hmem b z).elim (hLs b o q) hb
  refine ⟨e, cls, t, B, H, rfl, I.os, I.bare, ⟨?_, ?_, ub.free, ?_, ub.tups, ub.frzs, ub.tbls⟩, I.hok.part hst fly.1 hin, hbB, ?_, hin, fly, hE⟩
  · exact fun b o q n hb hx' => hk b o (old b o q hb) (ub.keep b o q n hb hx')
  · intro b o q n hb hx'
    obtain ⟨sl, e1⟩ := ub.slot b o q n hb hx'
    obtain ⟨sl', e2⟩ := hslot b _ (by show b ∈ (env :: outer).filterMap (·.frame); rw [List.filterMap_cons]; exact List.mem_cons_of_mem _ hb) e1
    exact ⟨sl', e2⟩
  · intro b o q hx'
    obtain ⟨o1, e1⟩ := ub.there b o q hx'
    by_cases hb : b ∈ frs (env :: outer)
    · obtain ⟨sl, e2⟩ := hslot b o1 hb e1
      exact ⟨_, e2⟩
    · exact ⟨o1, hk b o1 hb e1⟩
  · intro b o q hb
    obtain ⟨o1, e1⟩ := ub.there b o q (by simp)
    exact ⟨o1, hideAll_get _ e1 (old b o q hb)⟩
/-- raise C(e, ..), C an own class under ValueError or the like, with no __init__ of its own -/
def sRaise (C : Addr) (E : XK) (t : TA) : TS := fun _ σ H => t σ H fun vs H1 => vs.length ≤ sizeLine ∧ E (.ref C) none H1
theorem ps_raise {x : Str} {C : Addr} {bmB : List Value} {B newId initId : String} {e : Expr} {es : List Expr} {t : TA} {np cpos pos : Pos} (O : OwnCls x C bmB newId mg base) (FB : ExcBaseFacts B newId initId bmB)
    (hg : Gl (cxOf (CXE P w base) P w K mg base N qual scope f cd A outer s0 H0 E) x) (ha : PA (cxOf (CXE P w base) P w K mg base N qual scope f cd A outer s0 H0 E) (e :: es) t)
    (he : starEach (e :: es) (envOfC qual scope s0.heap.objs.size f cd) = (false, eval e (envOfC qual scope s0.heap.objs.size f cd)) :: starEach es (envOfC qual scope s0.heap.objs.size f cd) := by rfl)
    (hpl : (backTo cpos (starEach es (envOfC qual scope s0.heap.objs.size f cd))).any (·.1) = false := by rfl) (hd : (x == ("__debug__" : Str)) = false := by decide) :
    PS (cxOf (CXE P w base) P w K mg base N qual scope f cd A outer s0 H0 E) (.Raise (some (.Call (.Name x np) (e :: es) [] cpos)) none pos) (sRaise C E t) := by
  intro pins s σ H D I h
  obtain ⟨tl, Nn, nm, q, bs, hdct, sn, sub, ab, col, dd, k0, k1, k2, k3, k5, mN, hC, hN, hni, T⟩ := O.obj
  refine wpAny_Raise_call_subT (nm := nm) (q := q) (C := C) (N := Nn) (bs := bs) (bm := tl) (hdct := hdct) (sn := sn) (sub := sub) (ab := ab) (col := col)
    (dd := dd) (k0 := k0) (k1 := k1) (k2 := k2) (k3 := k3) (k5 := k5) (newId := newId) FB (mN := mN) (T.hasType FB.hasBase) (I.ok.hd rfl) ?_ hni (ld_glob I hg O.bound ⟨rfl, ?_⟩ hd)
  · show (backTo cpos (starEach (e :: es) (envOfC qual scope s0.heap.objs.size f cd))).any (·.1) = false
    rw [he]
    show (false || (backTo cpos (starEach es (envOfC qual scope s0.heap.objs.size f cd))).any (·.1)) = false
    rw [hpl]; rfl
  · have h2 := ha (pos := cpos) s σ H _ I h
    have he' : starEach (e :: es) (cxOf (CXE P w base) P w K mg base N qual scope f cd A outer s0 H0 E).env = (false, eval e (cxOf (CXE P w base) P w K mg base N qual scope f cd A outer s0 H0 E).env) :: starEach es (cxOf (CXE P w base) P w K mg base N qual scope f cd A outer s0 H0 E).env := he
    rw [he'] at h2 ⊢
    refine Calls.evalArgs_plain (thn h2 fun us s2 ⟨vs, H2, I2, rv, hl, q2⟩ => ?_)
    have kp : ∀ b o, base.get? b = some o → s2.heap.get? b = some o := fun b o z => (I2.bs b o z).1
    exact ⟨rfl, by rw [← rv.length]; exact hl, kp _ _ hC, hN.keeps kp, T.keeps kp, fun h' ea hm => made_leaves I2 hm q2⟩
end
end L2

set_option Elab.async false
set_option linter.all false
set_option maxRecDepth 100000
set_option maxHeartbeats 4000000
/-! try: body, except C: suite -/
namespace L2
open PySem PySem.Spec PyProof.Rows PySem.W
section
variable {X : Cx} {pins pins' : List (Addr × Obj)} {σ σ0 : St} {E' : XK} {H : Hp} {s : Shared}
end
section
variable {X : Cx} {L : Addr}
end
section
variable {X : Cx} {L : Addr} {pins : List (Addr × Obj)} {σ : St} {H : Hp} {s : Shared}
end
section
variable {X : Cx} {L : Addr} {pins : List (Addr × Obj)} {σ : St} {H : Hp} {s : Shared}
end
section
variable {P : Program} {w : World} {K : PySem.W.Frag} {mg : Str → Option Value} {base : Heap}
/-- a def that may be left by an exception -/
theorem Fun.okX {x qual : Str} {st : Stmt} {f : Addr} {fd : FuncData} {N ps : List Str} {k : Nat} {sp : Sp} (F : Fun K x qual st f fd) (S : FnScope N ps (defScope st)) (len : ∀ vs H Q E, sp vs H Q E → vs.length = ps.length)
    (hbody : ∀ (cdv : Value) (A : Around) (outer : List Env) (s : Shared) (H : Hp) (vs : List V) (Q : VK) (E : XK), Room k (A.deeper (envOfC qual (defScope st) s.heap.objs.size f cdv)) → sp vs H Q E →
      ∃ t, PSs (cxOf (CXE P w base) P w K mg base N qual (defScope st) f cdv A outer s H E) (defBody st) t ∧ t { nx := fun _ H' => Q .non H', rt := Q } (start N vs) H) : FnOk P w K mg base (CXE P w base) (k + 1) f fd ps sp := by
  obtain ⟨oc, od, kV, doc, pm, an, cdv, ct, osl, rfl, lk, hcd⟩ := F.ex
  exact fn_of lk hcd S len fun A outer s H vs Q E hr hsp => hbody cdv A outer s H vs Q E hr hsp
structure FnX (P : Program) (w : World) (K : PySem.W.Frag) (mg : Str → Option Value) (base : Heap) (k : Nat) (x : Str) (ps : List Str) (sp : Sp) : Prop where
  ex : ∃ f fd, FnOk P w K mg base (CXE P w base) k f fd ps sp ∧ Binds K fd ps [] ∧ PySem.W.keepIn K (.ref f) = true ∧ mg x = some (.ref f)
end
end L2

set_option Elab.async false
set_option linter.all false
set_option maxRecDepth 100000
set_option maxHeartbeats 4000000
/-! the sort of fewer than 64 things whose keys are all unlike -/
namespace L2
open PySem PySem.Spec PyProof.Rows PySem.W
section
variable {n : Nat} {key : Nat → Int} {cmp : Nat → Nat → (Bool → Shared → Prop) → Shared → Prop} {s : Shared}
/-- the things in the order p: as many as at the start, keys unlike -/
structure Ord (n : Nat) (key : Nat → Int) (p : Array Nat) : Prop where
  sz : p.size = n
  lt : ∀ i, i < n → p.getD i 0 < n
  un : ∀ i j, i < n → j < n → i ≠ j → key (p.getD i 0) ≠ key (p.getD j 0)
/-- rising below m -/
def Ris (key : Nat → Int) (p : Array Nat) (m : Nat) : Prop := ∀ i j, i < j → j < m → key (p.getD i 0) < key (p.getD j 0)
theorem Ris.step {p : Array Nat} {m : Nat} (h : Ris key p m) (q : 0 < m → key (p.getD (m - 1) 0) < key (p.getD m 0)) : Ris key p (m + 1) := fun i j hij hj => by
  by_cases e : j < m
  · exact h i j hij e
  · have ej : j = m := by omega
    subst ej
    have q := q (by omega)
    by_cases e2 : i = j - 1
    · rw [e2]; exact q
    · exact Int.lt_trans (h i (j - 1) (by omega) (by omega)) q
theorem asc_wp {p : Array Nat} {Q : Nat → Shared → Prop} (hc : ∀ i j C, i < n → j < n → C (decide (key i < key j)) s → cmp i j C s) (o : Ord n key p) : ∀ (f m : Nat), 1 ≤ m → m + f ≤ n → Ris key p m →
    (∀ r, m ≤ r → r ≤ m + f → Ris key p r → (r = m + f ∨ (r < n ∧ key (p.getD r 0) < key (p.getD (r - 1) 0))) → Q r s) → (kas_asc p f m).kasWp cmp Q s
  | 0, m, h1, h2, hr, k => k m (Nat.le_refl _) (Nat.le_refl _) hr (.inl rfl)
  | f + 1, m, h1, h2, hr, k => by
    unfold kas_asc
    show cmp _ _ _ s
    refine hc _ _ _ (o.lt m (by omega)) (o.lt (m - 1) (by omega)) ?_
    by_cases hlt : key (p.getD m 0) < key (p.getD (m - 1) 0)
    · rw [decide_eq_true hlt]
      dsimp only
      rw [if_pos rfl]
      exact k m (Nat.le_refl _) (by omega) hr (.inr ⟨by omega, hlt⟩)
    · rw [decide_eq_false hlt]
      dsimp only
      rw [if_neg Bool.false_ne_true]
      have ne := o.un m (m - 1) (by omega) (by omega) (by omega)
      exact asc_wp hc o f (m + 1) (by omega) (by omega) (hr.step fun _ => by omega) fun r a1 a2 a3 a4 => k r (by omega) (by omega) a3 (a4.imp (fun z => by omega) id)
/-- falling below m -/
def Fal (key : Nat → Int) (p : Array Nat) (m : Nat) : Prop := ∀ i j, i < j → j < m → key (p.getD j 0) < key (p.getD i 0)
theorem Fal.step {p : Array Nat} {m : Nat} (h : Fal key p m) (q : 0 < m → key (p.getD m 0) < key (p.getD (m - 1) 0)) : Fal key p (m + 1) := fun i j hij hj => by
  by_cases e : j < m
  · exact h i j hij e
  · have ej : j = m := by omega
    subst ej
    have q := q (by omega)
    by_cases e2 : i = j - 1
    · rw [e2]; exact q
    · exact Int.lt_trans q (h i (j - 1) (by omega) (by omega))
theorem desc_wp {p : Array Nat} {Q : Array Nat × Nat × Nat → Shared → Prop} (hc : ∀ i j C, i < n → j < n → C (decide (key i < key j)) s → cmp i j C s) (o : Ord n key p) : ∀ (f m : Nat), 1 ≤ m → m + f ≤ n → Fal key p m →
    (∀ r, m ≤ r → r ≤ m + f → Fal key p r → Q (p, r, 0) s) → (kas_desc f p m 0).kasWp cmp Q s
  | 0, m, h1, h2, hr, k => k m (Nat.le_refl _) (Nat.le_refl _) hr
  | f + 1, m, h1, h2, hr, k => by
    unfold kas_desc
    show cmp _ _ _ s
    refine hc _ _ _ (o.lt m (by omega)) (o.lt (m - 1) (by omega)) ?_
    by_cases hlt : key (p.getD m 0) < key (p.getD (m - 1) 0)
    · rw [decide_eq_true hlt]
      dsimp only
      rw [if_pos rfl, if_neg (by omega)]
      exact desc_wp hc o f (m + 1) (by omega) (by omega) (hr.step fun _ => hlt) fun r a1 a2 a3 => k r (by omega) (by omega) a3
    · rw [decide_eq_false hlt]
      dsimp only
      rw [if_neg Bool.false_ne_true]
      have ne := o.un m (m - 1) (by omega) (by omega) (by omega)
      show cmp _ _ _ s
      refine hc _ _ _ (o.lt (m - 1) (by omega)) (o.lt m (by omega)) ?_
      rw [decide_eq_true (show key (p.getD (m - 1) 0) < key (p.getD m 0) by omega)]
      dsimp only
      rw [if_pos rfl]
      exact k m (Nat.le_refl _) (by omega) hr
theorem getD_q {p : Array Nat} {i : Nat} : p.getD i 0 = (p[i]?).getD 0 := by
  rw [Array.getD_eq_getD_getElem?]
theorem Ord.perm {p q : Array Nat} (o : Ord n key p) (h : q.Perm p) : Ord n key q := by
  have hl : q.toList.Perm p.toList := Array.perm_iff_toList_perm.mp h
  have sz : q.size = n := by rw [← o.sz]; exact h.size_eq
  have nd : (p.toList.map key).Nodup := by
    rw [List.nodup_iff_pairwise_ne, List.pairwise_iff_getElem]
    intro i j hi hj hij
    rw [List.length_map, Array.length_toList, o.sz] at hi hj
    have := o.un i j hi hj (by omega)
    rw [List.getElem_map, List.getElem_map]
    simpa [Array.getD, o.sz, hi, hj] using this
  have nd2 : (q.toList.map key).Nodup := ((hl.map key).nodup_iff).mpr nd
  refine ⟨sz, fun i hi => ?_, fun i j hi hj hij => ?_⟩
  · have hm : q[i]'(by omega) ∈ q.toList := Array.getElem_mem_toList _
    have hm2 := hl.subset hm
    obtain ⟨k, hk, e⟩ := List.mem_iff_getElem.mp hm2
    rw [Array.length_toList, o.sz] at hk
    have := o.lt k hk
    have e2 : p.getD k 0 = q[i]'(by omega) := by rw [← e]; simp [Array.getD, o.sz, hk]
    rw [e2] at this
    have e3 : q.getD i 0 = q[i]'(by omega) := by simp [Array.getD, sz, hi]
    rw [e3]; exact this
  · have key' : ∀ a b, a < b → a < n → b < n → key (q.getD a 0) ≠ key (q.getD b 0) := fun a b hab ha hb => by
      have := List.pairwise_iff_getElem.mp (List.nodup_iff_pairwise_ne.mp nd2) a b (by simpa [sz] using ha) (by simpa [sz] using hb) hab
      rw [List.getElem_map, List.getElem_map] at this
      simpa [Array.getD, sz, ha, hb] using this
    rcases Nat.lt_or_gt_of_ne hij with z | z
    · exact key' i j z hi hj
    · exact Ne.symm (key' j i z hj hi)
theorem getD_of {p q : Array Nat} {i j : Nat} (h : p[i]? = q[j]?) : p.getD i 0 = q.getD j 0 := by rw [getD_q, getD_q, h]
theorem rev_get {p : Array Nat} {m k : Nat} (hm : m ≤ p.size) (hk : k < m) : (kas_rev p 0 m).getD k 0 = p.getD (m - 1 - k) 0 := by
  refine getD_of ?_
  unfold kas_rev
  rw [getElem?_mirror hm _ (by omega)]
  by_cases c : (0 ≤ k ∧ k < 0 + (m - 0) / 2) ∨ (m - (m - 0) / 2 ≤ k ∧ k < m)
  · rw [if_pos c]; congr 1; omega
  · rw [if_neg c]; congr 1; omega
theorem rev_perm (p : Array Nat) (m : Nat) : (kas_rev p 0 m).Perm p := mirror_perm _ _ _ _
theorem rev_ris {p : Array Nat} {m : Nat} (hm : m ≤ p.size) (h : Fal key p m) : Ris key (kas_rev p 0 m) m := fun i j hij hj => by
  rw [rev_get hm (by omega), rev_get hm hj]
  exact h _ _ (by omega) (by omega)
theorem tail3_wp {p : Array Nat} {m : Nat} {Q : Nat × Array Nat → Shared → Prop} (hc : ∀ i j C, i < n → j < n → C (decide (key i < key j)) s → cmp i j C s) (o : Ord n key p) (h1 : 1 ≤ m) (h2 : m ≤ n) (hf : Fal key p m)
    (k : ∀ r q, q.Perm p → 1 ≤ r → r ≤ n → Ris key q r → Q (r, q) s) : (kas_tail3 m n p).kasWp cmp Q s := by
  unfold kas_tail3
  rw [KasT.kasWp_bind]
  have pm := rev_perm p m
  refine asc_wp hc (o.perm pm) (n - m) m h1 (by omega) (rev_ris (by rw [o.sz]; exact h2) hf) fun r a1 a2 a3 _ => ?_
  exact k r _ pm (by omega) (by omega) a3
theorem count_wp {p : Array Nat} {Q : Nat × Array Nat → Shared → Prop} (hc : ∀ i j C, i < n → j < n → C (decide (key i < key j)) s → cmp i j C s) (o : Ord n key p) (h1 : 1 ≤ n)
    (k : ∀ r q, q.Perm p → 1 ≤ r → r ≤ n → Ris key q r → Q (r, q) s) : (kas_count n p).kasWp cmp Q s := by
  unfold kas_count
  rw [KasT.kasWp_bind]
  refine asc_wp hc o (n - 1) 1 (Nat.le_refl _) (by omega) (fun i j hij hj => by omega) fun r a1 a2 a3 a4 => ?_
  by_cases e : r = n
  · rw [if_pos (by simpa using e)]
    exact k r p (.refl _) a1 (by omega) a3
  rw [if_neg (by simpa using e)]
  by_cases e2 : r > 1
  · rw [if_pos e2]
    show cmp _ _ _ s
    refine hc _ _ _ (o.lt 0 (by omega)) (o.lt (r - 1) (by omega)) ?_
    rw [decide_eq_true (a3 0 (r - 1) (by omega) (by omega))]
    dsimp only
    rw [if_pos rfl]
    exact k r p (.refl _) a1 (by omega) a3
  · rw [if_neg e2]
    have er : r = 1 := by omega
    subst er
    have hlt : key (p.getD 1 0) < key (p.getD 0 0) := by
      rcases a4 with z | z
      · omega
      · exact z.2
    unfold kas_descPart
    rw [KasT.kasWp_bind]
    refine desc_wp hc o (n - (1 + 1)) (1 + 1) (by omega) (by omega) (fun i j hij hj => by
      have ei : i = 0 := by omega
      have ej : j = 1 := by omega
      subst ei ej
      exact hlt) fun r b1 b2 b3 => ?_
    rw [if_neg (by simp)]
    show (kas_tail3 r n p).kasWp cmp Q s
    exact tail3_wp hc o (by omega) (by omega) b3 k
theorem place_wp {p : Array Nat} {k : Nat} {Q : Nat → Shared → Prop} (hc : ∀ i j C, i < n → j < n → C (decide (key i < key j)) s → cmp i j C s) (o : Ord n key p) (hk : k < n) (hr : Ris key p k) : ∀ (f l r : Nat), l ≤ r → r ≤ k → r - l ≤ f →
    (∀ i, i < l → key (p.getD i 0) < key (p.getD k 0)) → (∀ i, r ≤ i → i < k → key (p.getD k 0) < key (p.getD i 0)) →
    (∀ m, m ≤ k → (∀ i, i < m → key (p.getD i 0) < key (p.getD k 0)) → (∀ i, m ≤ i → i < k → key (p.getD k 0) < key (p.getD i 0)) → Q m s) → (kas_place p k f l r).kasWp cmp Q s
  | 0, l, r, h1, h2, h3, a, b, q => q l (by omega) a fun i hi hk => b i (by omega) hk
  | f + 1, l, r, h1, h2, h3, a, b, q => by
    unfold kas_place
    by_cases e : l ≥ r
    · rw [if_pos e]
      exact q l (by omega) a fun i hi hk => b i (by omega) hk
    rw [if_neg e]
    show cmp _ _ _ s
    refine hc _ _ _ (o.lt k hk) (o.lt _ (by omega)) ?_
    by_cases hlt : key (p.getD k 0) < key (p.getD ((l + r) / 2) 0)
    · rw [decide_eq_true hlt]
      dsimp only
      rw [if_pos rfl]
      refine place_wp hc o hk hr f l ((l + r) / 2) (by omega) (by omega) (by omega) a (fun i hi hik => ?_) q
      by_cases z : i = (l + r) / 2
      · rw [z]; exact hlt
      · exact Int.lt_trans hlt (hr _ _ (by omega) hik)
    · rw [decide_eq_false hlt]
      dsimp only
      rw [if_neg Bool.false_ne_true]
      have ne := o.un k ((l + r) / 2) hk (by omega) (by omega)
      have gt : key (p.getD ((l + r) / 2) 0) < key (p.getD k 0) := by omega
      refine place_wp hc o hk hr f ((l + r) / 2 + 1) r (by omega) h2 (by omega) (fun i hi => ?_) b q
      by_cases z : i = (l + r) / 2
      · rw [z]; exact gt
      · exact Int.lt_trans (hr i ((l + r) / 2) (by omega) (by omega)) gt
theorem bub_get {p : Array Nat} {k l i : Nat} (hk : k < p.size) (hl : l ≤ k) : (bubble p k (k - l)).getD i 0 = if i = l then p.getD k 0 else if l < i ∧ i ≤ k then p.getD (i - 1) 0 else p.getD i 0 := by
  have h := getElem?_bubble hk (k - l) (by omega) i
  have e : k - (k - l) = l := by omega
  rw [e] at h
  by_cases c : i = l
  · rw [if_pos c] at h ⊢; exact getD_of h
  · rw [if_neg c] at h ⊢
    by_cases d : l < i ∧ i ≤ k
    · rw [if_pos d] at h ⊢; exact getD_of h
    · rw [if_neg d] at h ⊢; exact getD_of h
theorem bin_wp {Q : Array Nat → Shared → Prop} (hc : ∀ i j C, i < n → j < n → C (decide (key i < key j)) s → cmp i j C s) : ∀ (f : Nat) (p : Array Nat) (k : Nat), Ord n key p → k + f = n → Ris key p k →
    (∀ q, q.Perm p → Ris key q n → Q q s) → (kas_bin f p k).kasWp cmp Q s
  | 0, p, k, o, h, hr, q => q p (.refl _) (by rw [← h]; exact hr)
  | f + 1, p, k, o, h, hr, q => by
    unfold kas_bin
    rw [KasT.kasWp_bind]
    have hk : k < n := by omega
    refine place_wp hc o hk hr k 0 k (by omega) (Nat.le_refl _) (by omega) (fun i hi => by omega) (fun i h1 h2 => by omega) fun l hl a b => ?_
    have pm : (bubble p k (k - l)).Perm p := bubble_perm _ _ _
    refine bin_wp hc f _ (k + 1) (o.perm pm) (by omega) (fun i j hij hj => ?_) fun r hp hr' => q r (hp.trans pm) hr'
    rw [bub_get (by rw [o.sz]; exact hk) hl, bub_get (by rw [o.sz]; exact hk) hl]
    by_cases c1 : i = l
    · rw [if_pos c1, if_neg (by omega), if_pos (by omega)]
      exact b _ (by omega) (by omega)
    rw [if_neg c1]
    by_cases c2 : j = l
    · rw [if_pos c2, if_neg (by omega)]
      exact a i (by omega)
    rw [if_neg c2]
    by_cases c3 : l < i ∧ i ≤ k
    · rw [if_pos c3, if_pos (by omega)]
      exact hr _ _ (by omega) (by omega)
    rw [if_neg c3]
    by_cases c4 : l < j ∧ j ≤ k
    · rw [if_pos c4]
      by_cases z : i = j - 1
      · omega
      · exact hr _ _ (by omega) (by omega)
    · rw [if_neg c4]
      exact hr _ _ hij (by omega)
theorem range_ord (un : ∀ i j, i < n → j < n → i ≠ j → key i ≠ key j) : Ord n key (List.toArray (List.range n)) := by
  have g : ∀ i, i < n → (List.toArray (List.range n)).getD i 0 = i := fun i hi => by rw [getD_q]; simp [hi]
  refine ⟨by simp, fun i hi => by rw [g i hi]; exact hi, fun i j hi hj hij => by rw [g i hi, g j hj]; exact un i j hi hj hij⟩
theorem sort_wp {Q : Array Nat → Shared → Prop} (hc : ∀ i j C, i < n → j < n → C (decide (key i < key j)) s → cmp i j C s) (h1 : 1 ≤ n) (un : ∀ i j, i < n → j < n → i ≠ j → key i ≠ key j)
    (q : ∀ p, p.Perm (List.toArray (List.range n)) → Ris key p n → Q p s) : (kas_sort n).kasWp cmp Q s := by
  unfold kas_sort
  rw [KasT.kasWp_bind]
  have o := range_ord (key := key) un
  refine count_wp hc o h1 fun r p pm r1 r2 hr => ?_
  dsimp only
  by_cases e : r < n
  · rw [if_pos e]
    have em : max r 1 = r := by omega
    rw [em]
    exact bin_wp hc _ p r (o.perm pm) (by omega) hr fun p' hp hr' => q p' (hp.trans pm) hr'
  · rw [if_neg e]
    have er : r = n := by omega
    subst er
    exact q p pm hr
end
end L2

set_option Elab.async false
set_option linter.all false
set_option maxRecDepth 100000
set_option maxHeartbeats 4000000
/-! sorted(xs) of int tuples, all unlike -/
namespace L2
open PySem PySem.Spec PyProof.Rows PySem.W
section
variable {prog : Program} {w : World} {A : Around} {E : Value → Shared → Prop} {s : Shared} {κ : SortKind} {key : Nat → Int}
theorem sort_tups {a : Addr} {vs : List Value} {n : Nat} {P : PySem.Fin → Shared → Prop} (hq : s.heap.get? a = some (seqObj "list" vs.toArray n)) (h2 : 2 ≤ vs.length) (h64 : vs.length < 64)
    (kk : ∀ s6 : Shared, (∀ b o, b ≠ a → s.heap.get? b = some o → s6.heap.get? b = some o) → ∀ Q : SortKind → Shared → Prop, Q κ s6 → wpAny (model prog w) A (keyKind' vs.toArray) Q (fun _ _ => False) s6)
    (ask : ∀ s6 : Shared, (∀ b o, b ≠ a → s.heap.get? b = some o → s6.heap.get? b = some o) → ∀ G : Array Nat → Shared → Prop, (∀ p, p.Perm (List.toArray (List.range vs.length)) → Ris key p vs.length → G p s6) → (kas_sort vs.length).kasWp (kas_ask prog w A κ vs) G s6)
    (fin : ∀ p : Array Nat, p.Perm (List.toArray (List.range vs.length)) → Ris key p vs.length → P (.done (.ret .none)) { s with heap := sortedHeap s.heap a vs (List.toArray (p.toList.map fun i => vs.getD i Value.none)) }) :
    wpAny (model prog w) A (Builtin.«list.sort» ⟨[.ref a], []⟩) P E s := by
  have la : a < s.heap.objs.size := Heap.lt_size hq
  have small : vs.length ≤ sizeLine := by rw [sizeLine_eq]; omega
  obtain ⟨c1, q1⟩ : ∃ c1, (s.heap.update a (Obj.mapSeq fun _ => #[])).get? a = some (seqObj "list" #[] c1) := ⟨_, get?_update_seq hq (fun _ => #[])⟩
  rw [list_sort_plain]
  refine wpAny_bind (listItems_at hq rfl (wpAny_bind (listUpdate_at hq rfl (wpAny_bind (seqEpoch_at q1 rfl (wpAny_bind (wpAny_newTuple (wpAny_bind (wpAny_newList (wpAny_holding ?_) (Nat.zero_le _))) ?_)))) ?_ (Nat.zero_le _))))
  rotate_left
  · show vs.length ≤ _; exact small
  · rw [List.size_toArray]; exact small
  have q6 : (((s.heap.update a (Obj.mapSeq fun _ => #[])).push (seqObj "tuple" vs.toArray 0)).push (seqObj "list" #[] 0)).get? a = some (seqObj "list" #[] c1) := Heap.get?_push_of_some _ (Heap.get?_push_of_some _ q1)
  have keep6 : ∀ b o, b ≠ a → s.heap.get? b = some o → (((s.heap.update a (Obj.mapSeq fun _ => #[])).push (seqObj "tuple" vs.toArray 0)).push (seqObj "list" #[] 0)).get? b = some o := fun b o hb e =>
    Heap.get?_push_of_some _ (Heap.get?_push_of_some _ (by rw [Heap.get?_update_ne _ _ _ _ hb]; exact e))
  show wpAny _ A _ P E { s with heap := ((s.heap.update a (Obj.mapSeq fun _ => #[])).push (seqObj "tuple" vs.toArray 0)).push (seqObj "list" #[] 0) }
  dsimp only
  have two : ¬ vs.toArray.size < 2 := by rw [List.size_toArray]; omega
  rw [if_neg two, if_neg two]
  refine wpAny_bind (wpAny_mono (kk { s with heap := ((s.heap.update a (Obj.mapSeq fun _ => #[])).push (seqObj "tuple" vs.toArray 0)).push (seqObj "list" #[] 0) } keep6 (fun κ' s7 => κ' = κ ∧ s7 = { s with heap := ((s.heap.update a (Obj.mapSeq fun _ => #[])).push (seqObj "tuple" vs.toArray 0)).push (seqObj "list" #[] 0) }) ⟨rfl, rfl⟩) (fun κ' s7 hk => ?_) fun _ _ z => z.elim)
  obtain ⟨rfl, rfl⟩ := hk
  refine wpAny_bind (wpAny_mono (kat_run (Q := fun st' s' => ∃ p : Array Nat, arrOf st' = p.map (kas_item (vs.toArray.zip vs.toArray)) ∧ failedOf st' = none ∧ p.Perm (List.toArray (List.range vs.length)) ∧ Ris key p vs.length ∧
      s' = { s with heap := ((s.heap.update a (Obj.mapSeq fun _ => #[])).push (seqObj "tuple" vs.toArray 0)).push (seqObj "list" #[] 0) }) rfl h2 h64
    (G := fun p s' => p.Perm (List.toArray (List.range vs.length)) ∧ Ris key p vs.length ∧ s' = { s with heap := ((s.heap.update a (Obj.mapSeq fun _ => #[])).push (seqObj "tuple" vs.toArray 0)).push (seqObj "list" #[] 0) })
    (fun p st' s' _ a2 a3 a4 => ⟨p, a2, a3, a4⟩) (ask _ keep6 _ fun p p1 p2 => ⟨p1, p2, rfl⟩)) (fun r s' hr => ?_) fun _ _ z => z)
  obtain ⟨u, st'⟩ := r
  obtain ⟨p, har, hf, p1, p2, rfl⟩ := hr
  dsimp only
  rw [kat_snds rfl har]
  have len : (List.toArray (p.toList.map fun i => vs.getD i Value.none)).size ≤ sizeLine := by
    rw [List.size_toArray, List.length_map, Array.length_toList, p1.size_eq]
    simpa using small
  refine wpAny_bind (seqEpoch_at q6 rfl (wpAny_bind (listUpdate_at q6 rfl ?_ (Nat.zero_le _) (Nat.le_succ_of_le len))))
  rw [hf]
  simp only [bne_self_eq_false, Bool.false_eq_true, if_false]
  exact wpAny_pure (fin p p1 p2)
theorem sorted_tups {l : Addr} {vs : List Value} {Q : Value → Shared → Prop} (hl : s.heap.IsList l vs.toArray) (h2 : 2 ≤ vs.length) (h64 : vs.length < 64)
    (kk : ∀ s6 : Shared, (∀ b o, s.heap.get? b = some o → s6.heap.get? b = some o) → ∀ Q : SortKind → Shared → Prop, Q κ s6 → wpAny (model prog w) A.in1.in1 (keyKind' vs.toArray) Q (fun _ _ => False) s6)
    (ask : ∀ s6 : Shared, (∀ b o, s.heap.get? b = some o → s6.heap.get? b = some o) → ∀ i j (C : Bool → Shared → Prop), i < vs.length → j < vs.length → C (decide (key i < key j)) s6 → kas_ask prog w A.in1.in1 κ vs i j C s6)
    (un : ∀ i j, i < vs.length → j < vs.length → i ≠ j → key i ≠ key j)
    (fin : ∀ p : Array Nat, p.Perm (List.toArray (List.range vs.length)) → Ris key p vs.length → Q (.ref (s.heap.objs.size + 1)) { s with heap := sortedAll s.heap vs (List.toArray (p.toList.map fun i => vs.getD i Value.none)) }) :
    wpAny (model prog w) A (call (.builtin "sorted") [.ref l]) Q E s := by
  have small : vs.length ≤ sizeLine := by rw [sizeLine_eq]; omega
  have z1 : ((s.heap.push (seqObj "list" #[] 0)).update s.heap.objs.size (Obj.mapSeq (· ++ vs.toArray))).objs.size = s.heap.objs.size + 1 := by rw [Heap.size_update, size_push']
  have q1 : (((s.heap.push (seqObj "list" #[] 0)).update s.heap.objs.size (Obj.mapSeq (· ++ vs.toArray))).push (seqObj "list" vs.toArray 0)).get? (s.heap.objs.size + 1) = some (seqObj "list" vs.toArray 0) := by
    rw [← z1]; exact Heap.get?_push_size _ rfl
  have keep : ∀ b o, s.heap.get? b = some o → (((s.heap.push (seqObj "list" #[] 0)).update s.heap.objs.size (Obj.mapSeq (· ++ vs.toArray))).push (seqObj "list" vs.toArray 0)).get? b = some o := fun b o e =>
    Heap.get?_push_of_some _ (by rw [Heap.get?_update_ne _ _ _ _ (Nat.ne_of_lt (Heap.lt_size e))]; exact Heap.get?_push_of_some _ e)
  have old : ∀ b o, s.heap.get? b = some o → b ≠ s.heap.objs.size + 1 := fun b o e => Nat.ne_of_lt (Nat.lt_succ_of_lt (Heap.lt_size e))
  refine Calls.call_function_entry kind_sorted plain_sorted entry_sorted (args_sorted1 _) ?_
  unfold Builtin.«sorted»
  refine wpAny_bind (m := checkCount "sorted" 1 1 _) (wpAny_pure (wpAny_bind (collect_list hl (wpAny_bind (wpAny_newList ?_ small)) small)))
  show wpAny _ _ _ _ _ { s with heap := ((s.heap.push (seqObj "list" #[] 0)).update s.heap.objs.size (Obj.mapSeq (· ++ vs.toArray))).push (seqObj "list" vs.toArray 0) }
  rw [z1]
  refine wpAny_bind (wpAny_holding (wpAny_call_entry slot_list_sort ⟨_, q1, rfl⟩ entry_list_sort ?_ (args_list_sort _)))
  refine sort_tups (κ := κ) (key := key) q1 h2 h64 (fun s6 k6 => kk s6 fun b o e => k6 b o (old b o e) (keep b o e)) (fun s6 k6 G hG => ?_) fun p p1 p2 => ⟨_, rfl, wpAny_pure ⟨_, rfl, fin p p1 p2⟩⟩
  exact sort_wp (fun i j C hi hj hC => ask s6 (fun b o e => k6 b o (old b o e) (keep b o e)) i j C hi hj hC) (by omega) un hG
end
theorem tups_of {h : Heap} : ∀ (as : List Addr), (∀ a ∈ as, ∃ o n z1 z2 t1 t2, h.get? a = some o ∧ o.cls = .type "tuple" ∧ o.data = .seq #[Value.int z1 t1, Value.int z2 t2] n) →
    ∃ fs, KatTups h (as.map Value.ref) fs ∧ fs.length = as.length ∧ ∀ v ∈ fs, ∃ z t, v = Value.int z t
  | [], _ => ⟨[], .nil, rfl, fun v hv => by cases hv⟩
  | a :: as, g => by
    obtain ⟨fs, k, l, q⟩ := tups_of as fun b hb => g b (List.mem_cons_of_mem _ hb)
    obtain ⟨o, n, z1, z2, t1, t2, e1, e2, e3⟩ := g a List.mem_cons_self
    refine ⟨.int z1 t1 :: fs, .cons e1 e2 e3 rfl k, by rw [List.length_cons, List.length_cons, l], fun v hv => ?_⟩
    rcases List.mem_cons.mp hv with rfl | hv
    · exact ⟨_, _, rfl⟩
    · exact q v hv
theorem refs_vals : ∀ (as : List Addr), Vals (as.map V.ref) (as.map Value.ref)
  | [] => .nil
  | _ :: as => .cons rfl (refs_vals as)
theorem vals_refs : ∀ {as : List Addr} {us : List Value}, Vals (as.map V.ref) us → us = as.map Value.ref
  | [], _, .nil => rfl
  | a :: as, _, .cons r t => by rw [vals_refs t]; cases r; rfl
section
variable {X : Cx} (K : PySem.W.Frag)
theorem sortedT (hK : X.K = K := by rfl) : CallR X (.builtin "sorted") (fun xs H Q => ∃ (p : Addr) (as : List Addr) (x y key : Nat → Int), xs = [.ref p] ∧ SqL K H p (as.map V.ref) ∧ 2 ≤ as.length ∧ as.length < 64 ∧
    (∀ (i : Nat) a, as[i]? = some a → SqT K H a [.int (x i), .int (y i)]) ∧ (∀ i j, i < as.length → j < as.length → (key i < key j ↔ (x i < x j ∨ (x i = x j ∧ y i < y j)))) ∧ (∀ i j, i < as.length → j < as.length → i ≠ j → key i ≠ key j) ∧
    ∀ (o : List Nat) (bs : List Addr) (q : Addr) (H' : Hp), o.Perm (List.range as.length) → o.Pairwise (fun i j => key i < key j) → bs.length = o.length → (∀ (k i : Nat), o[k]? = some i → bs[k]? = as[i]?) → New H q (.lst (bs.map V.ref)) H' → Q (.ref q) H') := by
  subst hK
  intro pins s σ H xs us Q I r h
  obtain ⟨p, as, x, y, key, rfl, hq, h2, h64, ht, hkey, hun, q⟩ := h
  obtain ⟨u, rfl, ru⟩ := vals1 r
  cases ru
  obtain ⟨its, rv, pl, hz⟩ := I.list hq
  have e := vals_refs rv
  subst e
  have hlen : (as.map Value.ref).length = as.length := List.length_map _
  have tup : ∀ i (hi : i < as.length), ∃ o n t1 t2, s.heap.get? as[i] = some o ∧ o.cls = .type "tuple" ∧ o.data = .seq #[.int (x i) t1, .int (y i) t2] n := fun i hi => by
    obtain ⟨its, r1, p1, _⟩ := I.tuple (ht i _ (List.getElem?_eq_getElem hi))
    obtain ⟨w1, w2, rfl, ⟨t1, rfl⟩, ⟨t2, rfl⟩⟩ := vals2 r1
    obtain ⟨o, e1, e2, n, e3⟩ := p1
    exact ⟨o, n, t1, t2, e1, e2, e3⟩
  have getv : ∀ i (hi : i < as.length), (as.map Value.ref).getD i Value.none = .ref as[i] := fun i hi => by simp [List.getD, hi]
  refine sorted_tups (κ := tuples' (Value.type "int" != Value.type "tuple")) (key := key) pl.isList (by rw [hlen]; exact h2) (by rw [hlen]; exact h64) (fun s6 k6 Q6 q6 => ?_) (fun s6 k6 i j C hi hj hC => ?_) (fun i j hi hj => hun i j (by omega) (by omega)) fun pr p1 p2 => ?_
  · obtain ⟨fs, kt, lf, hf⟩ := tups_of (h := s6.heap) as fun a ha => by
      obtain ⟨i, hi, rfl⟩ := List.mem_iff_getElem.mp ha
      obtain ⟨o, n, t1, t2, e1, e2, e3⟩ := tup i hi
      exact ⟨o, n, _, _, t1, t2, k6 _ _ e1, e2, e3⟩
    refine kat_kind kt (by omega) (fun v hv => ?_) (by decide) q6
    obtain ⟨z, t, rfl⟩ := hf v hv
    exact Looks.of_pure rfl
  · rw [hlen] at hi hj
    unfold kas_ask
    rw [getv i hi, getv j hj]
    obtain ⟨o1, n1, t1, t2, e1, _, e3⟩ := tup i hi
    obtain ⟨o2, n2, u1, u2, g1, _, g3⟩ := tup j hj
    refine kat_lt (k6 _ _ e1) e3 (k6 _ _ g1) g3 ?_
    show KatLex _ _ _ _ _ _ [(_, _), (_, _)] 0 s6
    refine kat_cons (wpAny_eqBool_int ?_)
    by_cases c : x i = x j
    · rw [show (x i == x j) = true by simpa using c]
      refine kat_yes (kat_cons (wpAny_eqBool_int ?_))
      by_cases d : y i = y j
      · rw [show (y i == y j) = true by simpa using d]
        refine kat_yes (kat_nil ?_)
        have : decide (key i < key j) = false := decide_eq_false fun z => by rcases (hkey i j hi hj).mp z with z | z <;> omega
        rw [this] at hC
        exact hC
      · rw [show (y i == y j) = false by simpa using d]
        refine kat_no (kat_one _ _ (lt_int ?_))
        have : decide (key i < key j) = decide (y i < y j) := by
          have := hkey i j hi hj
          by_cases z : y i < y j
          · rw [decide_eq_true z]; exact decide_eq_true (this.mpr (.inr ⟨c, z⟩))
          · rw [decide_eq_false z]; exact decide_eq_false fun w => by rcases this.mp w with w | w <;> omega
        rw [this] at hC
        exact hC
    · rw [show (x i == x j) = false by simpa using c]
      refine kat_no (oneLt_int ?_)
      have : decide (key i < key j) = decide (x i < x j) := by
        have := hkey i j hi hj
        by_cases z : x i < x j
        · rw [decide_eq_true z]; exact decide_eq_true (this.mpr (.inl z))
        · rw [decide_eq_false z]; exact decide_eq_false fun w => by rcases this.mp w with w | w <;> omega
      rw [this] at hC
      exact hC
  · rw [hlen] at p1 p2
    have po : pr.toList.Perm (List.range as.length) := by
      have := Array.perm_iff_toList_perm.mp p1
      simpa using this
    have sz : pr.size = as.length := by rw [p1.size_eq]; simp
    have inb : ∀ i ∈ pr.toList, i < as.length := fun i hi => List.mem_range.mp (po.subset hi)
    obtain ⟨bs, hbs⟩ : ∃ bs : List Addr, bs = pr.toList.map fun i => as.getD i 0 := ⟨_, rfl⟩
    have ov : (pr.toList.map fun i => (as.map Value.ref).getD i Value.none) = bs.map Value.ref := by
      rw [hbs, List.map_map]
      refine List.map_congr_left fun i hi => ?_
      rw [getv i (inb i hi)]
      simp [List.getD, inb i hi]
    rw [ov]
    obtain ⟨e, he⟩ := sortedAll_at s.heap (as.map Value.ref) (List.toArray (bs.map Value.ref))
    have lb : bs.length = pr.toList.length := by rw [hbs, List.length_map]
    refine ⟨.ref (s.heap.objs.size + 1), _, I.laid (a := s.heap.objs.size + 1) (o := .lst (bs.map V.ref)) (t' := s.toks) (fun _ _ => sortedAll_old) (Nat.le_succ _) ⟨?_, bs.map Value.ref, e, refs_vals bs, ?_⟩, rfl, q pr.toList bs _ _ po ?_ lb ?_ ⟨I.hok.fresh (Nat.le_succ _), rfl⟩⟩
    · rw [List.length_map, lb, Array.length_toList, sz]; exact Nat.le_trans (show as.length ≤ 64 by omega) (by decide)
    · simpa [seqObj] using he
    · rw [List.pairwise_iff_getElem]
      intro i j hi hj hij
      rw [Array.length_toList] at hi hj
      have := p2 i j hij (by omega)
      simpa [Array.getD, hi, hj] using this
    · intro k i hk
      have hi := inb i (List.mem_of_getElem? hk)
      rw [hbs, List.getElem?_map, hk]
      simp [List.getD, hi]
end
section
variable {prog : Program} {w : World} {A : Around} {E : Value → Shared → Prop} {s : Shared}
theorem sort_one {a : Addr} {v : Value} {n : Nat} {P : PySem.Fin → Shared → Prop} (hq : s.heap.get? a = some (seqObj "list" #[v] n)) (fin : P (.done (.ret .none)) { s with heap := sortedHeap s.heap a [v] #[v] }) :
    wpAny (model prog w) A (Builtin.«list.sort» ⟨[.ref a], []⟩) P E s := by
  obtain ⟨c1, q1⟩ : ∃ c1, (s.heap.update a (Obj.mapSeq fun _ => #[])).get? a = some (seqObj "list" #[] c1) := ⟨_, get?_update_seq hq (fun _ => #[])⟩
  have one : 1 ≤ sizeLine := by decide
  rw [list_sort_plain]
  refine wpAny_bind (listItems_at hq rfl (wpAny_bind (listUpdate_at hq rfl (wpAny_bind (seqEpoch_at q1 rfl (wpAny_bind (wpAny_newTuple (wpAny_bind (wpAny_newList (wpAny_holding ?_) (Nat.zero_le _))) ?_)))) ?_ (Nat.zero_le _))))
  rotate_left
  · exact one
  · exact one
  have q6 : (((s.heap.update a (Obj.mapSeq fun _ => #[])).push (seqObj "tuple" #[v] 0)).push (seqObj "list" #[] 0)).get? a = some (seqObj "list" #[] c1) := Heap.get?_push_of_some _ (Heap.get?_push_of_some _ q1)
  show wpAny _ A _ P E { s with heap := ((s.heap.update a (Obj.mapSeq fun _ => #[])).push (seqObj "tuple" #[v] 0)).push (seqObj "list" #[] 0) }
  dsimp only
  have two : (#[v] : Array Value).size < 2 := by show 1 < 2; decide
  rw [if_pos two, if_pos two]
  refine wpAny_bind (wpAny_pure ?_)
  rw [StateT.run_pure]
  refine wpAny_bind (wpAny_pure ?_)
  dsimp only
  have ea : (arrOf (SortSt.mk' general' ((#[v] : Array Value).zip #[v]) #[] 7 none)).map (·.2) = #[v] := by
    show ((#[v] : Array Value).zip #[v]).map (·.2) = #[v]
    simp
  rw [ea]
  refine wpAny_bind (seqEpoch_at q6 rfl (wpAny_bind (listUpdate_at q6 rfl ?_ (Nat.zero_le _) (Nat.le_succ_of_le one))))
  simp only [bne_self_eq_false, Bool.false_eq_true, if_false]
  exact wpAny_pure fin
theorem sorted_one {l : Addr} {v : Value} {Q : Value → Shared → Prop} (hl : s.heap.IsList l [v].toArray) (fin : Q (.ref (s.heap.objs.size + 1)) { s with heap := sortedAll s.heap [v] #[v] }) :
    wpAny (model prog w) A (call (.builtin "sorted") [.ref l]) Q E s := by
  have one : 1 ≤ sizeLine := by decide
  have z1 : ((s.heap.push (seqObj "list" #[] 0)).update s.heap.objs.size (Obj.mapSeq (· ++ [v].toArray))).objs.size = s.heap.objs.size + 1 := by rw [Heap.size_update, size_push']
  have q1 : (((s.heap.push (seqObj "list" #[] 0)).update s.heap.objs.size (Obj.mapSeq (· ++ [v].toArray))).push (seqObj "list" [v].toArray 0)).get? (s.heap.objs.size + 1) = some (seqObj "list" #[v] 0) := by
    rw [← z1]; exact Heap.get?_push_size _ rfl
  refine Calls.call_function_entry kind_sorted plain_sorted entry_sorted (args_sorted1 _) ?_
  unfold Builtin.«sorted»
  refine wpAny_bind (m := checkCount "sorted" 1 1 _) (wpAny_pure (wpAny_bind (collect_list hl (wpAny_bind (wpAny_newList ?_ one)) one)))
  show wpAny _ _ _ _ _ { s with heap := ((s.heap.push (seqObj "list" #[] 0)).update s.heap.objs.size (Obj.mapSeq (· ++ [v].toArray))).push (seqObj "list" [v].toArray 0) }
  rw [z1]
  exact wpAny_bind (wpAny_holding (wpAny_call_entry slot_list_sort ⟨_, q1, rfl⟩ entry_list_sort (sort_one q1 ⟨_, rfl, wpAny_pure ⟨_, rfl, fin⟩⟩) (args_list_sort _)))
end
section
variable {X : Cx} (K : PySem.W.Frag)
/-- sorted of a list of one thing -/
theorem sorted1 (hK : X.K = K := by rfl) : CallR X (.builtin "sorted") (fun xs H Q => ∃ (p : Addr) (v : V), xs = [.ref p] ∧ SqL K H p [v] ∧ ∀ (q : Addr) (H' : Hp), New H q (.lst [v]) H' → Q (.ref q) H') := by
  subst hK
  intro pins s σ H xs us Q I r h
  obtain ⟨p, v, rfl, hq, q⟩ := h
  obtain ⟨u, rfl, ru⟩ := vals1 r
  cases ru
  obtain ⟨its, rv, pl, hz⟩ := I.list hq
  obtain ⟨u, rfl, r1⟩ := vals1 rv
  refine sorted_one pl.isList ?_
  obtain ⟨e, he⟩ := sortedAll_at s.heap [u] #[u]
  refine ⟨.ref (s.heap.objs.size + 1), _, I.laid (a := s.heap.objs.size + 1) (o := .lst [v]) (t' := s.toks) (fun _ _ => sortedAll_old) (Nat.le_succ _) ⟨by show 1 ≤ sizeLine; decide, [u], e, .cons r1 .nil, ?_⟩, rfl, q _ _ ⟨I.hok.fresh (Nat.le_succ _), rfl⟩⟩
  simpa [seqObj] using he
/-- sorted of int pairs that are unlike, one or more -/
def rSrt (K : PySem.W.Frag) : List V → Hp → VK → Prop := fun xs H Q => (∃ (p : Addr) (v : V), xs = [.ref p] ∧ SqL K H p [v] ∧ ∀ (q : Addr) (H' : Hp), New H q (.lst [v]) H' → Q (.ref q) H') ∨
    ∃ (p : Addr) (as : List Addr) (x y key : Nat → Int), xs = [.ref p] ∧ SqL K H p (as.map V.ref) ∧ 2 ≤ as.length ∧ as.length < 64 ∧
    (∀ (i : Nat) a, as[i]? = some a → SqT K H a [.int (x i), .int (y i)]) ∧ (∀ i j, i < as.length → j < as.length → (key i < key j ↔ (x i < x j ∨ (x i = x j ∧ y i < y j)))) ∧ (∀ i j, i < as.length → j < as.length → i ≠ j → key i ≠ key j) ∧
    ∀ (o : List Nat) (bs : List Addr) (q : Addr) (H' : Hp), o.Perm (List.range as.length) → o.Pairwise (fun i j => key i < key j) → bs.length = o.length → (∀ (k i : Nat), o[k]? = some i → bs[k]? = as[i]?) → New H q (.lst (bs.map V.ref)) H' → Q (.ref q) H'
theorem sortedP (hK : X.K = K := by rfl) : CallR X (.builtin "sorted") (rSrt K) := by
  intro pins s σ H xs us Q I r h
  rcases h with h | h
  · exact sorted1 K hK s σ H xs us Q I r h
  · exact sortedT K hK s σ H xs us Q I r h
/-- pairs (a number, its place) -/
theorem rSrt_of {H : Hp} {p : Addr} {as : List Addr} {x key : Nat → Int} {Q : VK} (hq : SqL K H p (as.map V.ref)) (h1 : 1 ≤ as.length) (h64 : as.length < 64) (ht : ∀ (i : Nat) a, as[i]? = some a → SqT K H a [.int (x i), .int i])
    (hk : ∀ i, key i = x i * 64 + i)
    (k : ∀ (o : List Nat) (bs : List Addr) (q : Addr) (H' : Hp), o.Perm (List.range as.length) → o.Pairwise (fun i j => key i < key j) → bs.length = o.length → (∀ (k i : Nat), o[k]? = some i → bs[k]? = as[i]?) → New H q (.lst (bs.map V.ref)) H' → Q (.ref q) H') :
    rSrt K [.ref p] H Q := by
  by_cases h2 : 2 ≤ as.length
  · refine .inr ⟨p, as, x, fun i => i, key, rfl, hq, h2, h64, ht, fun i j hi hj => ?_, fun i j hi hj hij => ?_, k⟩
    · rw [hk, hk]
      show _ ↔ (x i < x j ∨ (x i = x j ∧ (i : Int) < (j : Int)))
      omega
    · rw [hk, hk]; omega
  · obtain ⟨a, rfl⟩ : ∃ a, as = [a] := by
      match as, h1, h2 with
      | [a], _, _ => exact ⟨a, rfl⟩
      | _ :: _ :: _, _, h2 => exact absurd (by simp) h2
    refine .inl ⟨p, _, rfl, hq, fun q H' n => k [0] [a] q H' (by simp) (by simp) rfl (fun k i e => ?_) n⟩
    match k, e with
    | 0, e => cases e; rfl
    | k + 1, e => simp at e
end
end L2

set_option Elab.async false
set_option linter.all false
set_option maxRecDepth 100000
set_option maxHeartbeats 4000000
/-! a new dict, its heap a letter -/
namespace L2
open PySem PySem.Spec PyProof.Rows
section
variable {X : Cx} {pos : Pos}
end
end L2

set_option Elab.async false
set_option linter.all false
set_option maxRecDepth 100000
set_option maxHeartbeats 4000000
/-! a def that may raise, called where it is known that it doesn't -/
namespace L2
open PySem PySem.Spec PyProof.Rows PySem.W
theorem FnX.calm {P : Program} {w : World} {K : PySem.W.Frag} {mg : Str → Option Value} {base : Heap} {k : Nat} {x : Str} {ps : List Str} {sp sp' : Sp} (F : FnX P w K mg base k x ps sp) (h : ∀ vs H Q E, sp' vs H Q E → sp vs H Q (fun _ _ _ => False)) : Fn P w K mg base k x ps sp' := by
  obtain ⟨f, fd, a, b, c, d⟩ := F.ex
  refine ⟨f, fd, ⟨fun vs H Q E q => a.len _ _ _ _ (h _ _ _ _ q), fun A outer s H args us vs Q E hr he hb hv hs => codeAny_mono (a.run A outer s H args us vs Q _ hr he hb hv (h _ _ _ _ hs)) fun r s' q => ?_⟩, b, c, d⟩
  cases r with
  | error e => obtain ⟨_, _, _, _, _, _, _, _, _, _, _, _, _, _, z⟩ := q; exact z
  | ok fl => cases fl <;> exact q
end L2

set_option Elab.async false
set_option linter.all false
set_option maxRecDepth 100000
set_option maxHeartbeats 4000000
/-! an own class of exceptions, read off the written part of the heap -/
namespace L2
open PySem PySem.Spec PyProof.Rows PySem.W
theorem own_in {K : Frag} {B : Heap} {mg : Str → Option Value} {x : Str} {C : Addr} {tail : List Value} {new : String} (kin : K.In B) (G : B.Ns mainGlobals mg) (named : nsIn K mainGlobals x = some (some (.ref C))) (made : excIn K C tail new = true) : OwnCls x C tail new mg B := by
  constructor
  · exact mg_of kin G named
  cases ob : K.lookup C with
  | none => simp [excIn, ob] at made
  | some o =>
    unfold excIn at made
    rw [ob] at made
    split at made
    case h_2 => cases made
    case h_1 dct c slots eo =>
      split at made
      case h_2 => cases made
      case h_1 C2 up a0 a1 a2 a3 id a5 em es =>
        simp only [Bool.and_eq_true, beq_iff_eq, Bool.not_eq_true'] at made
        obtain ⟨⟨⟨⟨⟨e1, e2⟩, e3⟩, e4⟩, e5⟩, e6⟩ := made
        have look := kin _ _ ob
        cases eo
        obtain ⟨l⟩ := slots
        have es : l = [a0, a1, a2, a3, some (.builtin id), a5] := es
        obtain ⟨z1, z2, z3, z4, z5, z6, z7, z8, z9, z10, z11⟩ := c
        subst e1 e2 es
        have em : z3 = .ref C2 :: up := em
        have e3 : z11 = false := e3
        subst em e3
        exact ⟨up, z4, z1, z5, z2, z6, z7, z8, z9, z10, dct, a0, a1, a2, a3, a5, _, look, .of_isNs (isNs_of_in kin e5), nsMap_none_of_in kin e5 e6, tail_of_in kin e4⟩
theorem exm_self {K : Frag} {C : Addr} {cd} (h1 : subIn K (.ref C) (.type "BaseException") = some true) (h2 : clsIn K C = some cd) (h3 : typeIn K (.ref C) = some (.type "type")) (h4 : subIn K (.ref C) (.ref C) = some true) : exmOne K (.ref C) (.ref C) = some true := by
  unfold exmOne kitCls
  rw [h1]
  simp [h2, h3, h4]
end L2

set_option Elab.async false
set_option linter.all false
set_option maxRecDepth 100000
set_option maxHeartbeats 4000000
/-! isinstance of an exception of an own class -/
namespace L2
open PySem PySem.Spec PyProof.Rows PySem.W PySem.Calls Builtin Builtin.ObjectAttr Builtin.Getset_descriptor
section
variable {K : Frag} {e C : Addr}
variable {prog : Program} {w : World} {A : Around} {E : Value → Shared → Prop} {s : Shared}
end
section
variable {X : Cx}
end
end L2

set_option Elab.async false
set_option linter.all false
set_option maxRecDepth 100000
set_option maxHeartbeats 4000000
/-! list(range(n)); a text n times -/
namespace L2
open PySem PySem.Spec PyProof.Rows
section
variable {X : Cx}
/-- a text, so many times -/
theorem op_mulS : OpR X (binaryOp .Mult) (fun x y H Q => ∃ (z : Str) (n : Int), x = .str z ∧ y = .int n ∧ MulOk z n ∧ Q (.str (Txt.mul z n)) H) := by
  intro pins s σ H x y v u Q I rx ry h
  obtain ⟨z, n, rfl, rfl, ok, q⟩ := h
  obtain ⟨t, rfl⟩ := rx
  obtain ⟨t', rfl⟩ := ry
  exact SB.mul ok fun t' k => ⟨.str _, H, I.tok _, ⟨_, rfl⟩, q⟩
def rMulS : R2 := fun x y H Q => rMulN x y H Q ∨ ∃ (z : Str) (n : Int), x = .str z ∧ y = .int n ∧ MulOk z n ∧ Q (.str (Txt.mul z n)) H
theorem mulS : OpR X (binaryOp .Mult) rMulS := mulN.or op_mulS
theorem mulOk_small {z : Str} {n : Int} (h1 : z.length ≤ 1000) (h2 : n ≤ 1000) (h3 : -1000 ≤ n) : MulOk z n := by
  refine ⟨?_, fun a _ => ?_, fun a _ => ?_⟩
  · rw [decide_eq_false (by omega), decide_eq_false (by omega)]; rfl
  · have : (1000 : Int) ≤ (2 ^ 63 - 1) / n := by
      rw [Int.le_ediv_iff_mul_le (by omega)]
      omega
    omega
  · have : z.length * n.toNat ≤ 1000 * 1000 := Nat.mul_le_mul h1 (by omega)
    show decide (_ > sizeLine) = false
    simp
    exact Nat.le_trans this (by decide)
end
end L2

set_option Elab.async false
set_option linter.all false
set_option maxRecDepth 100000
set_option maxHeartbeats 4000000
/-! set(xs) of texts, and its len -/
namespace L2
open PySem PySem.Spec PyProof.Rows
/-- one more key, unless it is there -/
def oneMore {K : Type} [DecidableEq K] (D : List K) (k : K) : List K := if k ∈ D then D else D ++ [k]
/-- the keys at the first i places, each once -/
def metKeys {K : Type} [DecidableEq K] (ks : Nat → K) : Nat → List K
  | 0 => []
  | i + 1 => oneMore (metKeys ks i) (ks i)
theorem metKeys_le {K : Type} [DecidableEq K] (ks : Nat → K) : ∀ i, (metKeys ks i).length ≤ i
  | 0 => Nat.le_refl _
  | i + 1 => by
    have := metKeys_le ks i
    unfold metKeys oneMore
    split
    · omega
    · rw [List.length_append]; exact Nat.succ_le_succ this
section
variable {prog : Program} {w : World} {K : Type} [DecidableEq K] {knd : PySem.KeyKind prog w K}
/-- the set at a has just these keys -/
def HasKeys (knd : PySem.KeyKind prog w K) (h : Heap) (a : Addr) (D : List K) : Prop := h.SetOf knd a (fun k => decide (k ∈ D)) D.length
theorem HasKeys.at' {h h' : Heap} {a : Addr} {D : List K} (x : HasKeys knd h a D) (k : ∀ o, h.get? a = some o → h'.get? a = some o) : HasKeys knd h' a D := by
  obtain ⟨o, es, ep, t, e, r⟩ := x
  exact ⟨o, es, ep, t, k _ e, r⟩
theorem HasKeys.more {h : Heap} {a : Addr} {D : List K} {k : K} (x : h.SetOf knd a (fun k' => decide (k' ∈ D) || decide (k' = k)) (if decide (k ∈ D) = true then D.length else D.length + 1)) : HasKeys knd h a (oneMore D k) := by
  unfold HasKeys oneMore
  by_cases q : k ∈ D
  · rw [if_pos q]
    rw [if_pos (decide_eq_true q)] at x
    have e : (fun k' => decide (k' ∈ D) || decide (k' = k)) = fun k' => decide (k' ∈ D) := by
      funext k'
      by_cases z : k' = k
      · subst z; simp [q]
      · simp [z]
    rwa [e] at x
  · rw [if_neg q]
    rw [if_neg (by simpa using q)] at x
    have e : (fun k' => decide (k' ∈ D) || decide (k' = k)) = fun k' => decide (k' ∈ D ++ [k]) := by
      funext k'
      simp [Bool.decide_or]
    rw [e] at x
    rw [List.length_append]
    exact x
variable {A : Around} {R : Result → Shared → Prop} {I : Addr} {fp wr : List Addr} {G : Array GenState → Array GenState → Prop} {n : Nat} {P : Nat → Value → Prop} {St : Nat → Shared → Prop}
end
/-- what stands at the new set's address -/
abbrev setObj0 (led : Bool) : Obj := { cls := .type "set", dict := none, data := .set #[] 0 (.fresh 0 0 led) }
section
variable {prog : Program} {w : World} {K : Type} [DecidableEq K] {knd : PySem.KeyKind prog w K} {A : Around} {E : Value → Shared → Prop} {s : Shared}
end
section
variable {X : Cx}
end
end L2

set_option Elab.async false
set_option linter.all false
set_option maxRecDepth 100000
set_option maxHeartbeats 4000000
/-! str(x) of data, however nested -/
namespace L2
open PySem PySem.Spec PyProof.Rows
section
variable {X : Cx} {pins : List (Addr × Obj)} {σ : St} {H : Hp} {s : Shared}
end
end L2

set_option Elab.async false
set_option linter.all false
set_option maxRecDepth 100000
set_option maxHeartbeats 4000000
/-! {e for t in xs if c}: a set's comprehension, of texts or of ints -/
namespace L2
open PySem PySem.Spec PyProof.Rows
/-- keys of one kind: how they look in the heap's letters -/
structure KeyV (P : Program) (w : World) (K : Type) [DecidableEq K] where
  knd : PySem.KeyKind P w K
  v : K → V
  ok : ∀ k u, RelV (v k) u → knd.is k u = true ∧ u.scannable = true
def strV (P : Program) (w : World) : KeyV P w Str := ⟨strKind P w, V.str, fun k u r => by obtain ⟨t, rfl⟩ := r; exact ⟨strKind_is _ _ _ _, rfl⟩⟩
/-- a set of such keys -/
def setK {P : Program} {w : World} {K : Type} [DecidableEq K] (kv : KeyV P w K) (a : Addr) (D : List K) : HO := .ext fun h => HasKeys kv.knd h a D
theorem setK_ok {P : Program} {w : World} {K : Type} [DecidableEq K] {kv : KeyV P w K} {a : Addr} {D : List K} {H : Hp} {h : Heap} (x : HasKeys kv.knd h a D) : ObjOk P w H h a (setK kv a D) := by
  have x' := x
  obtain ⟨o, es, ep, t, e, rest⟩ := x'
  exact ⟨x, ⟨o, e⟩, fun h1 h2 y k => HasKeys.at' y k⟩
section
variable {prog : Program} {w : World} {A : Around} {R : Result → Shared → Prop} {s : Shared}
theorem scomp_turn (ex target iter : Expr) (ifs : List Expr) (scope : Scope) (pos : Pos) (it : Value) (D : Addr) (env : Env) :
    compTurn (.SetComp ex [⟨target, iter, ifs, 0⟩] scope pos) 0 it (.ref D) env = (do
      standAt iter.pos
      match ← pyNext it with
      | none => pure (.done .next)
      | some v =>
        letOwnedTupleGo target it v
        assign target env v
        let mut ok := true
        for c in ifs do
          if ok then ok ← isTrue c env (eval c env)
        if ok then
          (do
            let ev ← eval ex env
            standAt ex.pos
            let _ ← call (.builtin "set.add") [.ref D, ev])
        again (.compLoop (.SetComp ex [⟨target, iter, ifs, 0⟩] scope pos) 0 it (.ref D) env)) := by rfl
theorem scomp_turns {ex target iter : Expr} {ifs : List Expr} {scope : Scope} {pos : Pos} {it : Value} {D : Addr} {env : Env} (I : Nat → Shared → Prop)
    (turn : ∀ n s, I n s → wpAny (model prog w) A (pyNext it) (fun r s1 => match r with
      | none => R (.ok .next) s1
      | some v => wpAny (model prog w) A (letOwnedTupleGo target it v) (fun _ s1' => wpAny (model prog w) A (assign target env v) (fun _ s2 =>
          wpAny (model prog w) A (testsOf ifs env) (fun ok s3 =>
            if ok = true then wpAny (model prog w) A (eval ex env) (fun ev s4 => wpAny (model prog w) A (call (.builtin "set.add") [.ref D, ev]) (fun _ s6 => ∃ m, m < n ∧ I m s6) noE s4) noE s3
            else ∃ m, m < n ∧ I m s3) noE s2) noE s1') noE s1) noE s)
    (n : Nat) (h : I n s) : codeAny (model prog w) A (.compLoop (.SetComp ex [⟨target, iter, ifs, 0⟩] scope pos) 0 it (.ref D) env) R s := by
  refine codeAny_loop rfl I (fun n s hI => (show wpAny _ A (Sem.onRaise (compTurn (.SetComp ex [⟨target, iter, ifs, 0⟩] scope pos) 0 it (.ref D) env) (fun x => do noteFrame x env; theTreesLotGoes x)) _ _ s from wpAny_noted ?_)) n h
  rw [scomp_turn]
  refine wpAny_bind (wpAny_standAt (wpAny_bind (noE_to (thn (turn n s hI) fun r s1 h1 => ?_))))
  cases r with
  | none => exact wpAny_pure h1
  | some v =>
    refine wpAny_bind (noE_to (thn h1 fun _ s1' h1' => ?_))
    refine wpAny_bind (noE_to (thn h1' fun _ s2 h2 => wpAny_bind (noE_to (thn h2 fun ok s3 h3 => ?_))))
    cases ok with
    | false => exact wpAny_pure ⟨rfl, h3⟩
    | true =>
      exact wpAny_bind (wpAny_bind (noE_to (thn h3 fun ev s4 h4 => wpAny_bind (wpAny_standAt (wpAny_bind (noE_to (thn h4 fun _ s6 h6 => wpAny_pure (wpAny_pure ⟨rfl, h6⟩))))))))
theorem scomp_start {ex target iter ifs rest scope pos it acc env} (h0 : codeAny (model prog w) A (.compLoop (.SetComp ex (⟨target, iter, ifs, 0⟩ :: rest) scope pos) 0 it acc env) R s)
    (h : wpAny (model prog w) A (pyIter it) (fun it' s' => codeAny (model prog w) A (.compLoop (.SetComp ex (⟨target, iter, ifs, 0⟩ :: rest) scope pos) 0 it' acc env) R s') (notedBy (model prog w) A env fun x s' => R (.error x) s') s) :
    codeAny (model prog w) A (.compStart (.SetComp ex (⟨target, iter, ifs, 0⟩ :: rest) scope pos) 0 it acc env) R s := by
  refine codeAny_of_tree (show wpAny _ A ((compStart (.SetComp ex (⟨target, iter, ifs, 0⟩ :: rest) scope pos) 0 it acc env).onRaise (fun x => do noteFrame x env; standAt theWindowsPlace)) _ _ s from wpAny_notedAt ?_)
  unfold compStart
  refine wpAny_bind (m := ask) (wpAny_askSetting (wpAny_ite ?_))
  split
  · first
      | exact wpAny_bind (wpAny_pure (wpAny_pure ⟨rfl, h0⟩))
      | exact wpAny_pure ⟨rfl, h0⟩
  · refine wpAny_bind (wpAny_rule ?_)
    refine wpAny_bind (m := standAt iter.pos) (wpAny_standAt ?_)
    exact wpAny_bind (wpAny_mono h (fun it' s' h' => wpAny_pure ⟨rfl, h'⟩) fun _ _ x => x)
end
section
variable {X : Cx} {pins : List (Addr × Obj)} {σ : St} {H : Hp} {s : Shared} {a : Addr} {u : Value} {A : Around} {E : Value → Shared → Prop} {K : Type} [DecidableEq K] {kv : KeyV X.prog X.w K}
theorem s_add {D : List K} {k : K} {Q : Value → Shared → Prop} (I : Inv X pins σ H s) (e : H a = some (setK kv a D)) (l : D.length ≤ 4000) (ry : RelV (kv.v k) u)
    (h : ∀ v s', Inv X pins σ (upd H a (setK kv a (oneMore D k))) s' → Q v s') : wpAny (model X.prog X.w) A (call (.builtin "set.add") [.ref a, u]) Q E s := by
  have x := (show ObjOk X.prog X.w H s.heap a (setK kv a D) from I.hok a _ e).1
  obtain ⟨h1, h2⟩ := kv.ok k u ry
  refine call_set_add h1 h2 x (by unfold scanBound; omega) fun h' sb x' => ?_
  have y : HasKeys kv.knd h' a (oneMore D k) := HasKeys.more x'
  have y' := y
  obtain ⟨o, es, ep, t, eo, _⟩ := y'
  exact h _ _ (d_write I (by rw [e]; exact True.intro) sb ⟨o, eo⟩ (setK_ok y))
end
/-- the reading of a set's comprehension: W i m H is what holds ahead of turn i (D is the new set), m falls -/
def CompS {P : Program} {w : World} {KT : Type} [DecidableEq KT] (kv : KeyV P w KT) (J : It) (n : Nat) (js : List Nat) (g : TG) (tc : TT) (te : TE) (σ : St) (D : Addr) (H1 : Hp) (fin : Hp → Prop) : Prop :=
  ∃ W : Nat → Nat → Hp → Prop, (∃ m, W 0 m H1) ∧ ∀ i m H, W i m H →
    (J.stop i H ∧ fin H) ∨
    (J.go i H ∧ ∀ x H', J.yld i H x H' → g x (List.replicate n none ++ cvals σ js) H' fun σ2 H2 => tc σ2 H2 fun b H3 =>
      if b = true then te σ2 H3 fun y H4 => ∃ ks k, H4 D = some (setK kv D ks) ∧ y = kv.v k ∧ ks.length ≤ 4000 ∧ ∃ m', m' < m ∧ W (i + 1) m' (upd H4 D (setK kv D (oneMore ks k))) else ∃ m', m' < m ∧ W (i + 1) m' H3)
def tSComp {P : Program} {w : World} {KT : Type} [DecidableEq KT] (kv : KeyV P w KT) (wi : TI) (n : Nat) (js : List Nat) (g : TG) (tc : TT) (te : TE) : TE := fun σ H Q => wi σ H fun J H1 => ∀ D, H1 D = none → CompS kv J n js g tc te σ D (upd H1 D (setK kv D [])) fun H2 => Q (.ref D) H2
theorem new_set {prog : Program} {w : World} {A : Around} {s : Shared} {Q : Value → Shared → Prop} {E : Value → Shared → Prop} (h : ∀ led, Q (.ref s.heap.objs.size) { s with heap := s.heap.push (setObj0 led) }) : wpAny (model prog w) A (newSet (.type "set")) Q E s := by
  unfold newSet setsByText
  refine wpAny_bind (wpAny_bind (wpAny_askSetting (wpAny_pure ?_)))
  show wpAny _ _ (newObj _ _) _ _ _
  simp only [newObj]
  exact wpAny_bind (wpAny_alloc (wpAny_pure (h _)))
theorem fresh_keys {prog : Program} {w : World} {K : Type} [DecidableEq K] {knd : PySem.KeyKind prog w K} {h : Heap} {a : Addr} {led : Bool} (e : h.get? a = some (setObj0 led)) : HasKeys knd h a [] := by
  have z := (setObjOf_fresh (knd := knd) led).setOf e (by decide)
  have q : (fun k : K => decide (k ∈ ([] : List K))) = fun _ => false := by funext k; simp
  show Heap.SetOf knd _ _ (fun k => decide (k ∈ ([] : List K))) 0
  rw [q]
  exact z
theorem scomp_core {X : Cx} {KT : Type} [DecidableEq KT] (kv : KeyV X.prog X.w KT) {ex tg iter : Expr} {ifs : List Expr} {scope : Scope} {pos : Pos} {Nc Fc : List Str} {js : List Nat} {wi : TI} {g : TG} {tc : TT} {te : TE} {use : Option (Value → Sem Unit)} {QV : Value → Shared → Prop}
    (hcalm : X.calm = true) (c : CompOk X scope Nc Fc js) (hi : PI X tg iter wi)
    (hg : ∀ cl C s H fp, PG (cxC X Nc Fc scope cl C s H fp) tg g) (htc : ∀ cl C s H fp, PTs (cxC X Nc Fc scope cl C s H fp) ifs tc) (hte : ∀ cl C s H fp, PE (cxC X Nc Fc scope cl C s H fp) ex te) (gk : Gk Nc.length g)
    {pins : List (Addr × Obj)} {s : Shared} {σ : St} {H : Hp} {fin : Addr → Hp → Prop} (I : Inv X pins σ H s)
    (h : wi σ H fun J H1 => ∀ D, H1 D = none → CompS kv J Nc.length js g tc te σ D (upd H1 D (setK kv D [])) (fin D))
    (behind : ∀ (C D : Addr) (m : Str → Option Value) (H2 : Hp) (s2 : Shared), Inv X pins σ H2 s2 → s2.heap.Ns C m → FpOk X pins H2 C → fin D H2 → compPost (model X.prog X.w) X.A X.xe use QV (.ref D) C (.ok .next) s2)
    (hs : ∀ x, foldedSetIterable iter X.env x = pure x) :
    wpAny (model X.prog X.w) X.A (comprehension (.SetComp ex [⟨tg, iter, ifs, 0⟩] scope pos) scope X.env (firstIterPos [⟨tg, iter, ifs, 0⟩] pos) (newSet (.type "set")) false (eval iter X.env) use) QV X.xe s := by
  obtain ⟨cl, hclos, hsub, hhas⟩ := closure_of (scope := scope) (env := X.env) fun y hy hf => I.ok.has y.1 (c.free y hy hf)
  refine wpAny_comprehension_free (use := use) rfl hs hclos c.kind c.names ?_
  refine thn (hi s σ H _ I h) fun v s1 h1 => thn h1 fun itv s2 h2 => ?_
  obtain ⟨it, fp, tn, J, H2, e, I2, T, st2, f2, all⟩ := h2
  subst e
  refine new_set fun led => ?_
  refine (wpAny_newFunctionEnv c.nocell (by intro y hy; simp at hy) (fun h1 hns1 hsb1 => ?_) c.kind)
  dsimp only at hns1 hsb1 ⊢
  have hDn : H2 s2.heap.objs.size = none := I2.hok.fresh (Nat.le_refl _)
  have I2' := I2.laid (a := s2.heap.objs.size) (o := setK kv s2.heap.objs.size []) (h' := s2.heap.push (setObj0 led)) (t' := s2.toks) (fun _ _ q => Heap.get?_push_of_some _ q) (Nat.le_refl _) (setK_ok (fresh_keys (Heap.get?_push_size _ rfl)))
  obtain ⟨W, ⟨m0, w0⟩, turn⟩ := all _ hDn
  have fo2 : ∀ b ∈ fp, ∃ o, s2.heap.get? b = some o := fun b hb => let ⟨o, e, _⟩ := T.obj 0 _ st2 b hb; ⟨o, e⟩
  have hDfp : ∀ b ∈ fp, b < s2.heap.objs.size := fun b hb => let ⟨o, e⟩ := fo2 b hb; Heap.lt_size e
  generalize hG : s2.heap.push (setObj0 led) = G at hns1 hsb1 I2' ⊢
  have toG : ∀ b o, s2.heap.get? b = some o → G.get? b = some o := fun b o e => hG ▸ Heap.get?_push_of_some _ e
  have hC : G.objs.size = s2.heap.objs.size + 1 := by rw [← hG, Heap.size_push]
  have old : ∀ b o, G.get? b = some o → h1.get? b = some o := fun b o e =>
    hsb1.extBut b o (addr_ne (Heap.lt_size e) (Nat.le_refl _)) (Heap.get?_push_of_some _ e)
  let D : Addr := s2.heap.objs.size
  let s2' : Shared := { s2 with heap := G, toks := s2.toks }
  let H2' : Hp := upd H2 D (setK kv D [])
  have f2' : ∀ b ∈ fp, FpOk X pins H2' b := fun b hb => by
    obtain ⟨a1, a2⟩ := f2 b hb
    refine ⟨?_, a2⟩
    show upd H2 D (setK kv D []) b = none
    rw [upd_ne (Nat.ne_of_lt (hDfp b hb))]; exact a1
  have fo : ∀ b ∈ fp, ∃ o, s2'.heap.get? b = some o := fun b hb => let ⟨o, e⟩ := fo2 b hb; ⟨o, toG b o e⟩
  have hfG : ∀ b ∈ fp, b < G.objs.size := fun b hb => by have := hDfp b hb; rw [hC]; exact Nat.lt_succ_of_lt this
  let Xc : Cx := cxC X Nc Fc scope cl G.objs.size s2' H2' fp
  have stat : ∀ {H' : Hp}, (∀ b ∈ fp, H' b = none) → ∀ b ∈ fp, FpOk Xc [] H' b := fun {H'} hn b hb => by
    refine ⟨hn b hb, ?_, ?_, .inl hb, fun x a e => ?_, fun p hq => ?_⟩
    · exact addr_ne (hfG b hb) (Nat.le_refl _)
    · exact (cxC_ok I2' c hsub hhas (Nat.le_refl _) f2' fo).exfs b hb
    · exact (f2 b hb).2.2.2.2.1 x a (hsub _ _ e)
    · have q : p ∈ ([] : List (Addr × Obj)) ++ [] := hq
      simp at q
  have loop : ∀ t1, codeAny (model X.prog X.w) X.A (.compLoop (.SetComp ex [⟨tg, iter, ifs, 0⟩] scope pos) 0 (.ref it) (.ref s2.heap.objs.size) (compEnvC scope cl G.objs.size X.env))
      (compPost (model X.prog X.w) X.A X.xe use QV (.ref s2.heap.objs.size) G.objs.size) { s2 with heap := h1, toks := t1 } := by
    intro t1
    refine scomp_turns (fun n s' => ∃ i H', Inv Xc [] (List.replicate Nc.length none ++ cvals σ js) H' s' ∧ tn i s'.heap ∧ (∀ b ∈ fp, H' b = none) ∧ W i n H') ?_ m0
      ⟨0, H2', cxC_inv0 I2' c hsub hhas (Nat.le_refl _) f2' fo old hns1, T.keep _ _ _ st2 (fun b hb o e => old b o (toG b o e)), fun b hb => (f2' b hb).1, w0⟩
    rintro n s3 ⟨i, H3, I3, st3, fr3, w3⟩
    rcases turn i n H3 w3 with ⟨stop, qn⟩ | ⟨go, step⟩
    · refine thn (T.done Xc rfl rfl rfl hcalm i _ s3 _ H3 noE I3 (stat fr3) st3 stop) fun r s4 ⟨hr, I4⟩ => ?_
      subst hr
      show compPost _ _ _ _ _ _ _ _ _
      obtain ⟨mC, hmC, _⟩ := I4.loc
      have hCn : H3 G.objs.size = none := I4.free
      have u : Un (frs X.stack) fp H2' H3 G s4.heap := I4.base
      have hch : ∀ b ∈ fp, (b ∈ X.ex ∨ X.s₀.heap.objs.size ≤ b) ∧ b ≠ X.env.locals ∧ (∀ x c, X.env.cells.lookup x = some c → c ≠ b) ∧ ∀ p ∈ X.pn ++ pins, p.1 ≠ b := fun b hb =>
        ⟨(f2 b hb).2.2.2.1, (f2 b hb).2.1, (f2 b hb).2.2.2.2.1, (f2 b hb).2.2.2.2.2⟩
      have os4 : s4.os = s2'.os := I4.os
      have J4 : Inv X pins σ H3 s4 := I2'.call' (H' := H3) os4 u I4.hok I4.bare hch
      exact behind G.objs.size D mC H3 s4 J4 hmC (I2'.fpOk (Nat.le_refl _) hCn) qn
    · refine thn (T.item Xc rfl rfl rfl hcalm i _ s3 _ H3 noE I3 (stat fr3) st3 go) fun r s4 ⟨u, hr, h4⟩ => ?_
      subst hr
      show wpAny _ _ (letOwnedTupleGo tg (.ref it) u) _ _ _
      refine thn h4 fun _ s5 ⟨x, H5, I5, r5, y5, st5, fr5⟩ => ?_
      have I5' := I5.pinned (stat fr5) (T.obj _ _ st5)
      refine thn (hg cl G.objs.size s2' H2' fp s5 _ H5 x u _ I5' r5 (gk _ _ _ _ (step x H5 y5))) fun _ s6 ⟨σ6, H6, I6, q6, kσ, kl⟩ => ?_
      refine thn (htc cl G.objs.size s2' H2' fp s6 σ6 H6 _ I6 q6) fun b s7 ⟨H7, I7, q7⟩ => ?_
      have later : ∀ {σ' : St} {H' : Hp} {s' : Shared}, Inv Xc ([] ++ pinsAt fp s5.heap) σ' H' s' → tn (i + 1) s'.heap ∧ ∀ b ∈ fp, H' b = none := fun {σ' H' s'} Iz => by
        refine ⟨T.keep _ _ _ st5 fun b hb o e => (Iz.pin (b, o) (List.mem_append_right _ (List.mem_append_right _ (mem_pinsAt hb e)))).1, fun b hb => ?_⟩
        obtain ⟨o, e, d⟩ := T.obj _ _ st5 b hb
        exact (Iz.pin (b, o) (List.mem_append_right _ (List.mem_append_right _ (mem_pinsAt hb e)))).2.1
      have back : ∀ {pl : List (Addr × Obj)} {H' : Hp} {s' : Shared}, Inv Xc pl σ6 H' s' → Inv Xc pl (List.replicate Nc.length none ++ cvals σ js) H' s' := fun {pl H' s'} Iz => by
        refine Iz.weak (by rw [← kl]) fun j v hj => ?_
        by_cases hn : j < Nc.length
        · rw [List.getElem?_append_left (by simpa using hn), List.getElem?_replicate] at hj
          split at hj <;> cases hj
        · rw [kσ j (by omega)]; exact hj
      cases b with
      | false =>
        rw [if_neg Bool.false_ne_true] at q7 ⊢
        obtain ⟨m', hm', w7⟩ := q7
        obtain ⟨l1, l2⟩ := later I7
        exact ⟨m', hm', i + 1, H7, back I7.unpinned, l1, l2, w7⟩
      | true =>
        rw [if_pos rfl] at q7 ⊢
        refine thn (hte cl G.objs.size s2' H2' fp s7 σ6 H7 _ I7 q7) fun yv s8 ⟨y, H8, I8, r8, q8⟩ => ?_
        obtain ⟨ks, k, eD, ey, hl, m', hm', w9⟩ := q8
        subst ey
        refine s_add (X := Xc) (kv := kv) I8 eD hl r8 fun _ s10 I10 => ?_
        obtain ⟨l1, l2⟩ := later I10
        exact ⟨m', hm', i + 1, _, back I10.unpinned, l1, l2, w9⟩
  exact scomp_start (loop _) (T.self _ 0 _ _ _ (T.keep _ _ _ st2 fun b hb o e => old b o (toG b o e)) (loop _))
theorem pe_scomp {X : Cx} {KT : Type} [DecidableEq KT] (kv : KeyV X.prog X.w KT) {ex tg iter : Expr} {ifs : List Expr} {scope : Scope} {pos : Pos} {Nc Fc : List Str} {js : List Nat} {wi : TI} {g : TG} {tc : TT} {te : TE}
    (hcalm : X.calm = true) (c : CompOk X scope Nc Fc js) (hi : PI X tg iter wi) (gk : Gk Nc.length g)
    (hg : ∀ cl C s H fp, PG (cxC X Nc Fc scope cl C s H fp) tg g) (htc : ∀ cl C s H fp, PTs (cxC X Nc Fc scope cl C s H fp) ifs tc) (hte : ∀ cl C s H fp, PE (cxC X Nc Fc scope cl C s H fp) ex te)
    (hs : ∀ x, foldedSetIterable iter X.env x = pure x := by intro _; rfl) :
    PE X (.SetComp ex [⟨tg, iter, ifs, 0⟩] scope pos) (tSComp kv wi Nc.length js g tc te) := by
  intro pins s σ H Q I h
  rw [arm_eval_SetComp]
  refine scomp_core kv (use := none) (fin := fun D H2 => Q (.ref D) H2) hcalm c hi hg htc hte gk I h (fun C D m H2 s2 I2 hm hC q => ?_) hs
  refine ⟨m, hm, fun h' hs' => ?_⟩
  exact ⟨.ref D, _, I2.turned (it := C) (t' := s2.toks) (fun b o hb e => hs'.extBut b o hb e) hC.1 (hC.2.1) hC.2.2.2.1 hC.2.2.2.2.1 hC.2.2.2.2.2, rfl, q⟩
/-- len of such a set -/
theorem call_lenK {X : Cx} {KT : Type} [DecidableEq KT] (kv : KeyV X.prog X.w KT) : CallR X (.builtin "len") (fun xs H Q => ∃ (a : Addr) (D : List KT), xs = [.ref a] ∧ H a = some (setK kv a D) ∧ Q (.int (D.length : Nat)) H) := by
  intro pins s σ H xs us Q I r h
  obtain ⟨a, D, rfl, ha, q⟩ := h
  obtain ⟨u, rfl, ru⟩ := vals1 r
  cases ru
  obtain ⟨o, es, ep, t, h1, h2, h3, h4, h5, h6, h7, h8⟩ := (show ObjOk X.prog X.w H s.heap a (setK kv a D) from I.hok a _ ha).1
  have hb : scanBound = 4096 := rfl
  refine call_len_set h1 h2 h3 h7 (by omega) ⟨.int (D.length : Nat), H, I.tok _, ⟨_, by rw [h8]⟩, q⟩
/-- a set's comprehension of N turns, each with one more key -/
theorem scomp_go {P : Program} {w : World} {KT : Type} [DecidableEq KT] {kv : KeyV P w KT} {J : It} {n : Nat} {js : List Nat} {g : TG} {tc : TT} {te : TE} {σ : St} {D : Addr} {H1 : Hp} {fin : Hp → Prop} (N : Nat) (Pv : Nat → Hp → Prop) (h0 : Pv 0 H1)
    (go : ∀ i H (Nx : Hp → Prop), i < N → Pv i H → (∀ H', Pv (i + 1) H' → Nx H') → J.go i H ∧
      ∀ x H', J.yld i H x H' → g x (List.replicate n none ++ cvals σ js) H' fun σ2 H2 => tc σ2 H2 fun b H3 => if b = true then te σ2 H3 fun y H4 => ∃ ks k, H4 D = some (setK kv D ks) ∧ y = kv.v k ∧ ks.length ≤ 4000 ∧ Nx (upd H4 D (setK kv D (oneMore ks k))) else Nx H3)
    (stop : ∀ H, Pv N H → J.stop N H ∧ fin H) : CompS kv J n js g tc te σ D H1 fin := by
  refine ⟨fun i m H => m = N - i ∧ i ≤ N ∧ Pv i H, ⟨N, by simp, Nat.zero_le _, h0⟩, ?_⟩
  rintro i m H ⟨rfl, hi, p⟩
  by_cases hlt : i < N
  · obtain ⟨g1, g2⟩ := go i H (fun H' => ∃ m', m' < N - i ∧ (m' = N - (i + 1) ∧ i + 1 ≤ N ∧ Pv (i + 1) H')) hlt p fun H' q => ⟨_, by omega, rfl, hlt, q⟩
    exact .inr ⟨g1, fun x H' y => g2 x H' y⟩
  · have e : i = N := by omega
    subst e
    exact .inl (stop H p)
end L2

set_option Elab.async false
set_option linter.all false
set_option maxRecDepth 100000
set_option maxHeartbeats 4000000
/-! reverse, clear, count of a list; texts and numbers of the module -/
namespace L2
open PySem PySem.Spec PyProof.Rows
section
variable {X : Cx}
theorem reverseN : MtM X "list.reverse" (fun x vs H Q => ∃ l xs, x = .ref l ∧ vs = [] ∧ H l = some (.lst xs) ∧ ∀ H', Chg H l (.lst xs.reverse) H' → Q .non H') := by
  intro pins s σ H x vs v us Q I rx rv h
  obtain ⟨l, xs, rfl, rfl, hH, q⟩ := h
  cases rx
  cases rv
  obtain ⟨z, its, n, r, hl, e⟩ := I.lstM hH
  refine call_meets F.slot_list_reverse ⟨_, e, rfl⟩ F.entry_list_reverse (F.args_list_reverse_1 _) (AutoListH.list_reverse_list_0 l its.toArray n (by rw [List.size_toArray]; omega)) ⟨e, ?_⟩
  exact ⟨.non, _, I.lset (its' := its.reverse) hH e (by simp) r.rev (by rw [List.length_reverse]; omega), rfl, q _ ⟨rfl⟩⟩
theorem clear_meets (l : Addr) (items : Array Value) (n : Nat) (hsz : items.size ≤ sizeLine) :
    Meets (Builtin.«list.clear» ⟨[.ref l], []⟩) (fun _ R s => s.heap.get? l = some { cls := .type "list", dict := none, data := .seq items n, slots := #[] } ∧ R (.ok (.ret Value.none)) { s with heap := s.heap.update l (Obj.mapSeq fun _ => #[]), toks := s.toks }) :=
  .of_wp fun prog w A R s h => by
    obtain ⟨hp, g, d, tk, os⟩ := s
    obtain ⟨hl, h⟩ := h
    unfold Builtin.«list.clear»
    refine wpAny_bind (wpAny_pure ?_)
    unfold Builtin.List.listItems
    refine wpAny_bind (wpAny_bind (wpAny_seqItems hl rfl (wpAny_pure ?_)))
    unfold Builtin.List.listUpdate
    refine wpAny_bind (wpAny_updateSeq hl rfl (hz := hsz) (_hz' := Nat.zero_le _) ?_)
    refine wpAny_bind (wpAny_letGo ?_)
    exact wpAny_pure ⟨_, rfl, h⟩
theorem clearN : MtM X "list.clear" (fun x vs H Q => ∃ l xs, x = .ref l ∧ vs = [] ∧ H l = some (.lst xs) ∧ ∀ H', Chg H l (.lst []) H' → Q .non H') := by
  intro pins s σ H x vs v us Q I rx rv h
  obtain ⟨l, xs, rfl, rfl, hH, q⟩ := h
  cases rx
  cases rv
  obtain ⟨z, its, n, r, hl, e⟩ := I.lstM hH
  refine call_meets F.slot_list_clear ⟨_, e, rfl⟩ F.entry_list_clear (F.args_list_clear_1 _) (clear_meets l its.toArray n (by rw [List.size_toArray]; omega)) ⟨e, ?_⟩
  exact ⟨.non, _, I.lset (its' := []) hH e rfl .nil (Nat.zero_le _), rfl, q _ ⟨rfl⟩⟩
/-- how often a text stands in a list of texts -/
theorem countN : MtM X "list.count" (fun x vs H Q => ∃ (l : Addr) (xs : List Str) (y : Str), x = .ref l ∧ vs = [.str y] ∧ H l = some (.lst (xs.map V.str)) ∧ Q (.int (xs.countP (· == y) : Nat)) H) := by
  intro pins s σ H x vs v us Q I rx rv h
  obtain ⟨l, xs, y, rfl, rfl, hH, q⟩ := h
  cases rx
  obtain ⟨u, rfl, ru⟩ := vals1 rv
  obtain ⟨t, rfl⟩ := ru
  obtain ⟨z, its, n, r, hl, e⟩ := I.lstM hH
  let ev : Value → Bool := fun u => match u with | .str a _ => a == y | _ => false
  refine call_meets F.slot_list_count ⟨_, e, rfl⟩ F.entry_list_count (F.args_list_count_2 _ _) (SeqAt.list_countAt l its.toArray n none #[] (.str y t) ev) ⟨e, fun w hw => ?_, ?_⟩
  · have hw : w ∈ its := by simpa using hw
    obtain ⟨i, hi, ew⟩ := List.mem_iff_getElem.mp hw
    obtain ⟨a, h1, h2⟩ := vals_at r (i := i) (v := w) (by simp [hi, ew])
    rw [List.getElem?_map] at h1
    cases e1 : xs[i]? with
    | none => rw [e1] at h1; cases h1
    | some b =>
      rw [e1] at h1; cases h1
      obtain ⟨t', rfl⟩ := h2
      exact SeqAt.EqAt.str_str b t' y t
  · have ec : its.toArray.toList.countP ev = xs.countP (· == y) := by
      show its.countP ev = _
      clear e hH q hl
      induction xs generalizing its with
      | nil => cases r; rfl
      | cons b xs ih =>
        cases r with
        | cons r1 r2 =>
          obtain ⟨t', rfl⟩ := r1
          rw [List.countP_cons, List.countP_cons, ih (by simp at z ⊢; omega) _ r2]
    exact ⟨.int _, H, I.tok _, ⟨_, by rw [ec]⟩, q⟩
/-- a text of the module -/
theorem pe_gstr {x : Str} {z : Str} {t : Tok} {pos : Pos} (hg : Gl X x) (hm : X.mg x = some (.str z t)) (hd : (x == ("__debug__" : Str)) = false := by decide) : PE X (.Name x pos) (tC (.str z)) := pe_glob (v := .str z) hg hm ⟨t, rfl⟩ hd
theorem pe_gint {x : Str} {z : Int} {t : Tok} {pos : Pos} (hg : Gl X x) (hm : X.mg x = some (.int z t)) (hd : (x == ("__debug__" : Str)) = false := by decide) : PE X (.Name x pos) (tC (.int z)) := pe_glob (v := .int z) hg hm ⟨t, rfl⟩ hd
end
end L2

set_option Elab.async false
set_option linter.all false
namespace Z
open PySem L2
def top (i : Nat) : Stmt := PySem.Challenge.pw_oddlong_k06_books_again_and_shared.main.body.getD i (.Pass ⟨0, 0, 0, 0⟩)
abbrev i_OddError : Nat := 1
abbrev i_TooFull : Nat := 2
abbrev i_made_of : Nat := 7
abbrev i_is_name : Nat := 8
abbrev i_is_code : Nat := 9
abbrev i_two_to : Nat := 10
abbrev i_figures_of : Nat := 11
abbrev i_rest_of : Nat := 12
abbrev i_is_book : Nat := 14
abbrev i_is_entry : Nat := 15
abbrev i_free : Nat := 16
abbrev i_clash : Nat := 17
abbrev i_halves : Nat := 18
abbrev i_halves_by : Nat := 19
abbrev i_codes_by : Nat := 20
abbrev i_least_codes : Nat := 21
abbrev i_law_begin : Nat := 23
abbrev i_law_take : Nat := 24
abbrev i_law_same : Nat := 25
abbrev i_law_names : Nat := 26
abbrev i_law_signs : Nat := 27
abbrev i_law_any_book : Nat := 28
abbrev i_law_free_codes : Nat := 29
abbrev i_law_free_book : Nat := 30
abbrev i_law_all : Nat := 31
abbrev i_law_changed : Nat := 32
abbrev i_law : Nat := 33
end Z

set_option Elab.async false
set_option linter.all false
set_option maxRecDepth 100000
set_option maxHeartbeats 4000000
namespace Z
open PySem L2
theorem sizeOk {n : Nat} (h : n ≤ 10000000) : n ≤ sizeLine := Nat.le_trans h (by decide)
theorem two_succ (i : Nat) : (2 : Int) ^ i + 2 ^ i = 2 ^ (i + 1) := by rw [Int.pow_succ]; omega
end Z

set_option Elab.async false
set_option linter.all false
set_option maxRecDepth 100000
set_option maxHeartbeats 4000000
namespace Z
open PySem L2
/-- 2 to a power -/
def spTwo : Sp := fun vs H Q _ => ∃ n : Nat, vs = [.int n] ∧ n ≤ 1000 ∧ Q (.int (2 ^ n)) H
section
variable {P : Program} {w : World} {K : PySem.W.Frag} {mg : Str → Option Value} {base : Heap} {f : Addr} {fd : FuncData}
theorem sc_two : FnScope ["power", "whole", "step"] ["power"] (defScope (top i_two_to)) := ⟨rfl, rfl, rfl, by decide +kernel, rfl, by decide +kernel, by decide +kernel⟩
theorem ok_two (F : Fun K "two_to" "two_to" (top i_two_to) f fd) (T : Nm mg) : FnOk P w K mg base CX0 1 f fd ["power"] spTwo := by
  refine F.ok sc_two (fun vs H Q E h => ?_) (fun cdv A outer s H vs Q E hr h => ?_)
  · obtain ⟨n, rfl, _⟩ := h
    rfl
  obtain ⟨n, rfl, hn, q⟩ := h
  refine ⟨_, (pss_cons (ps_set (i := 1) sc_two.nd rfl (Or.inl rfl) pe_int)
    (pss_cons (ps_for PassesOwn.never rfl (pi_range1 rfl T.n_range (pa_cons (pv 0) pa_nil)) (pg_name (i := 2) sc_two.nd rfl (Or.inl rfl)) (pss_one (ps_aug (i := 1) sc_two.nd rfl (Or.inl rfl) (pv 1) ip_add)))
    (pss_one (ps_ret (pv 1))))), ?_⟩
  refine ⟨_, rfl, _, rfl, by omega, by omega, ?_⟩
  refine for_range (lo := 0) (n := n) (fun i σ H' => H' = H ∧ ∃ st, σ = [some (.int n), some (.int (2 ^ i)), st]) ⟨rfl, _, rfl⟩ ?_ ?_
  · rintro i σ H' hi ⟨rfl, st, rfl⟩
    refine ⟨_, rfl, _, rfl, _, _, rfl, rfl, rfl, some (.int (0 + i)), ?_⟩
    rw [← two_succ]
    rfl
  · rintro σ H' ⟨rfl, st, rfl⟩
    exact ⟨_, rfl, q⟩
end
end Z

set_option Elab.async false
set_option linter.all false
set_option maxRecDepth 100000
set_option maxHeartbeats 4000000
namespace Z
open PySem L2
/-! the draws -/
structure Box (H : Hp) (b c : Addr) (t : Int) (ns : List Int) : Prop where
  d : H b = some (.dK [(.inr "cells", .ref c), (.inr "turn", .int t)])
  l : H c = some (.lst (ns.map V.int))
  ne : 0 < ns.length
  le : ns.length ≤ 64
def hid (H : Hp) (b c : Addr) : Hp := fun a => if a = b ∨ a = c then none else H a
theorem hid_of {H : Hp} {b c a : Addr} (h1 : a ≠ b) (h2 : a ≠ c) : hid H b c a = H a := if_neg (fun z => z.elim h1 h2)
theorem of_hid {H : Hp} {b c a : Addr} {o : HO} (h : hid H b c a = some o) : H a = some o ∧ a ≠ b ∧ a ≠ c := by
  unfold hid at h
  split at h
  · cases h
  · rename_i n
    exact ⟨h, fun z => n (.inl z), fun z => n (.inr z)⟩
theorem Box.bc {H : Hp} {b c : Addr} {t : Int} {ns : List Int} (x : Box H b c t ns) : b ≠ c := ne_of x.d x.l (by intro z; cases z)
theorem Box.get_turn {H : Hp} {b c : Addr} {t : Int} {ns : List Int} (x : Box H b c t ns) : DGet H b (.str "turn") (some (.int t)) := DGet.k (k := Sum.inr "turn") x.d
theorem Box.get_cells {H : Hp} {b c : Addr} {t : Int} {ns : List Int} (x : Box H b c t ns) : DGet H b (.str "cells") (some (.ref c)) := DGet.k (k := Sum.inr "cells") x.d
theorem Box.put_turn {H : Hp} {b c : Addr} {t : Int} {ns : List Int} (x : Box H b c t ns) (t' : Int) : DPut H b (.str "turn") (.int t') (upd H b (.dK [(.inr "cells", .ref c), (.inr "turn", .int t')])) :=
  DPut.k (k := Sum.inr "turn") x.d (by show 2 < sizeLine; decide)
theorem Box.turned {H : Hp} {b c : Addr} {t : Int} {ns : List Int} (x : Box H b c t ns) (t' : Int) : Box (upd H b (.dK [(.inr "cells", .ref c), (.inr "turn", .int t')])) b c t' ns :=
  ⟨upd_same, by rw [upd_ne (Ne.symm x.bc)]; exact x.l, x.ne, x.le⟩
theorem hid_upd_b {H : Hp} {b c : Addr} {o : HO} : hid (upd H b o) b c = hid H b c := by
  funext a; unfold hid; split
  · rfl
  · rename_i n; exact upd_ne (fun z => n (.inl z))
def spTake : Sp := fun vs H Q _ => ∃ (b c : Addr) (t : Int) (ns : List Int) (many : Int), vs = [.ref b, .int many] ∧ Box H b c t ns ∧ 0 ≤ t ∧ t < 100000000 ∧ 0 < many ∧ many < 1000000000 ∧
  ∀ (r : Int) (H' : Hp) (ns' : List Int), 0 ≤ r → r < many → Box H' b c (t + 1) ns' → Same (hid H b c) (hid H' b c) → Q (.int r) H'
section
variable {P : Program} {w : World} {K : PySem.W.Frag} {mg : Str → Option Value} {base : Heap} {f : Addr} {fd : FuncData}
theorem sc_take : FnScope ["_law_box", "_law_many", "_law_turn", "_law_place", "_law_cell", "_law_digit", "_law_mixed"] ["_law_box", "_law_many"] (defScope (top i_law_take)) := ⟨rfl, rfl, rfl, by decide +kernel, rfl, by decide +kernel, by decide +kernel⟩
theorem at_of {ns : List Int} {p : Int} (h0 : 0 ≤ p) (h1 : p < ns.length) : ∃ v, atI (ns.map V.int) p = some (.int v) ∧ ns[p.toNat]? = some v := by
  have hk : p.toNat < ns.length := by omega
  have ek : p = ((p.toNat : Nat) : Int) := by omega
  have q : atI (ns.map V.int) ((p.toNat : Nat) : Int) = some (.int ns[p.toNat]) := atI_nat (by rw [List.getElem?_map, List.getElem?_eq_getElem hk] <;> rfl)
  rw [← ek] at q
  exact ⟨_, q, List.getElem?_eq_getElem hk⟩
theorem cm_mod {a j m : Int} (h0 : 0 < m) (h : m < 2 ^ 64) : CMul (a % m) j := by
  have h1 := Int.emod_nonneg a (b := m) (by omega)
  have h2 := Int.emod_lt_of_pos a h0
  exact .inl ⟨by omega, by omega⟩
theorem ixN_of {n : Nat} {p : Int} (h0 : 0 ≤ p) (h1 : p < n) : ixN n p = some p.toNat := by unfold ixN; rw [if_pos h0, if_pos h1]
theorem hid_more {H H' : Hp} {b c : Addr} (h : ∀ a o, a ≠ b → a ≠ c → H a = some o → H' a = some o) : Same (hid H b c) (hid H' b c) := fun a o e => by
  obtain ⟨e, h1, h2⟩ := of_hid e
  rw [hid_of h1 h2]
  exact h a o h1 h2 e
theorem ok_take (F : Fun K "_law_take" "_law_take" (top i_law_take) f fd) (T : Nm mg) : FnOk P w K mg base CX0 1 f fd ["_law_box", "_law_many"] spTake := by
  refine F.ok sc_take (fun vs H Q E h => ?_) (fun cdv A outer s H vs Q E hr h => ?_)
  · obtain ⟨b, c, t, ns, many, rfl, _⟩ := h
    rfl
  obtain ⟨b, c, t, ns, many, rfl, bx, t0, t1, m0, m1, q⟩ := h
  have hu := hu_of hr
  refine ⟨_, (pss_cons (ps_set (i := 2) sc_take.nd rfl (Or.inl rfl) (pe_op g_add (pe_dget hu (pv 0) pe_str (fun _ _ => rfl)) pe_int))
    (pss_cons (ps_dput hu (pv 0) pe_str (pv 2) rfl)
    (pss_cons (ps_set (i := 3) sc_take.nd rfl (Or.inl rfl) (pe_op op_mod (pv 2) (pe_callB call_len rfl T.n_len PySem.boot_len (pa_cons (pe_dget hu (pv 0) pe_str (fun _ _ => rfl)) pa_nil))))
    (pss_cons (ps_set (i := 4) sc_take.nd rfl (Or.inl rfl) (pe_ix ix_seq (pe_dget hu (pv 0) pe_str (fun _ _ => rfl)) (pv 3) (fun _ _ => rfl)))
    (pss_cons (ps_if (pt_cmpR op_ge (pv 4) (pe_op op_pow pe_int pe_int) (nomark _)) (pss_cons (ps_asg (pe_callB call_divmod rfl T.n_divmod (by rfl) (pa_cons (pv 4) (pa_cons (pv 1) pa_nil))) (pg_tup rfl (pgs_cons (pg_sub (pe_dget hu (pv 0) pe_str (fun _ _ => rfl)) (pv 3) set_list) (pgs_cons (pg_name (i := 5) sc_take.nd rfl (Or.inl rfl)) pgs_nil))))
    (pss_one (ps_ret (pv 5)))) pss_nil)
    (pss_cons (ps_set (i := 6) sc_take.nd rfl (Or.inl rfl) (pe_op op_mod (pe_op g_mul (pe_op g_add (pe_op g_add (pe_op g_add (pe_op op_mod (pv 4) pe_int) (pe_op g_mul (pe_op g_mul pe_int (pv 2)) (pv 2))) (pe_op g_mul pe_int (pv 2))) pe_int) pe_int) pe_int))
    (pss_cons (ps_set (i := 6) sc_take.nd rfl (Or.inl rfl) (pe_op op_mod (pe_op g_mul (pv 6) (pe_op g_add (pe_op op_mod (pv 6) pe_int) (pe_op g_mul pe_int (pv 2)))) pe_int))
    (pss_one (ps_ret (pe_op op_mod (pe_op op_fdiv (pe_op op_mod (pe_op g_mul (pv 6) (pe_op g_add (pe_op op_mod (pv 6) pe_int) (pv 2))) pe_int) pe_int) (pv 1))))))))))), ?_⟩
  refine ⟨_, rfl, b, _, rfl, bx.get_turn, .inl ⟨_, _, rfl, rfl, ?_⟩⟩
  refine ⟨_, rfl, _, rfl, b, _, rfl, bx.put_turn (t + 1), ?_⟩
  have bx1 := bx.turned (t + 1)
  refine ⟨_, rfl, _, rfl, b, _, rfl, bx1.get_cells, _, _, rfl, .inl ⟨_, SqL.of bx1.l, rfl⟩, _, _, rfl, rfl, ?_, ?_⟩
  · rw [List.length_map]; have := bx1.ne; omega
  have hlen : (ns.map V.int).length = ns.length := List.length_map _
  have hp0 : 0 ≤ (t + 1) % ((ns.map V.int).length : Int) := Int.emod_nonneg _ (by have := bx1.ne; omega)
  have hp1 : (t + 1) % ((ns.map V.int).length : Int) < ns.length := by rw [hlen]; exact Int.emod_lt_of_pos _ (by have := bx1.ne; omega)
  obtain ⟨v, hv, hv'⟩ := at_of hp0 hp1
  refine ⟨_, rfl, b, _, rfl, bx1.get_cells, _, rfl, .inl ⟨c, _, _, _, rfl, rfl, SqL.of bx1.l, hv, ?_⟩⟩
  refine ⟨_, rfl, _, _, rfl, rfl, ⟨by decide, by decide, by decide⟩, _, _, rfl, rfl, _, rfl, ?_⟩
  refine ite2 (fun _ => ?_) (fun _ => ?_)
  · refine ⟨_, rfl, _, rfl, v, many, rfl, ⟨m0, by omega⟩, fun pt hpt => ?_⟩
    have hpb : pt ≠ b := fun z => by rw [z, bx1.d] at hpt; cases hpt
    have hpc : pt ≠ c := fun z => by rw [z, bx1.l] at hpt; cases hpt
    have bx2 : Box (upd (upd H b (.dK [(.inr "cells", .ref c), (.inr "turn", .int (t + 1))])) pt (.tup [.int (v / many), .int (v % many)])) b c (t + 1) ns :=
      ⟨by rw [upd_ne (Ne.symm hpb)]; exact bx1.d, by rw [upd_ne (Ne.symm hpc)]; exact bx1.l, bx1.ne, bx1.le⟩
    refine ⟨pt, _, rfl, SqT.of upd_same, rfl, _, _, rfl, ?_⟩
    refine ⟨_, rfl, b, _, rfl, bx2.get_cells, _, rfl, c, _, _, _, rfl, rfl, bx2.l, ixN_of hp0 (by simpa only [hlen] using hp1), ?_⟩
    refine ⟨_, _, rfl, rfl, _, rfl, ?_⟩
    refine q (v % many) _ (ns.set ((t + 1) % ((ns.map V.int).length : Int)).toNat (v / many)) (Int.emod_nonneg _ (by omega)) (Int.emod_lt_of_pos _ m0) ⟨?_, ?_, ?_, ?_⟩ ?_
    · rw [upd_ne bx2.bc]; exact bx2.d
    · rw [upd_same, List.map_set]
    · rw [List.length_set]; exact bx1.ne
    · rw [List.length_set]; exact bx1.le
    · refine hid_more fun a o h1 h2 e => ?_
      rw [upd_ne h2, upd_ne (fun z => ?_), upd_ne h1]
      · exact e
      · rw [z] at e
        rw [upd_ne hpb] at hpt
        rw [hpt] at e; cases e
  · refine ⟨_, rfl, _, _, rfl, rfl, (by dsimp only; decide), _, rfl, .inl ⟨_, _, rfl, rfl, .inl ⟨by decide, by decide⟩, _, rfl, .inl ⟨_, _, rfl, rfl, .inr ⟨by omega, by omega⟩, .inl ⟨_, _, rfl, rfl, ?_⟩⟩⟩⟩
    refine ⟨_, rfl, .inl ⟨_, _, rfl, rfl, .inl ⟨by decide, by decide⟩, .inl ⟨_, _, rfl, rfl, .inl ⟨_, _, rfl, rfl, .inl ⟨_, _, rfl, rfl, .inr ⟨by decide, by decide⟩, _, _, rfl, rfl, (by dsimp only; decide), ?_⟩⟩⟩⟩⟩
    refine ⟨_, rfl, _, rfl, _, _, rfl, rfl, (by dsimp only; decide), _, rfl, .inl ⟨_, _, rfl, rfl, .inl ⟨by decide, by decide⟩, .inl ⟨_, _, rfl, rfl, .inl ⟨_, _, rfl, rfl, cm_mod (by decide) (by decide), _, _, rfl, rfl, (by dsimp only; decide), ?_⟩⟩⟩⟩
    refine ⟨_, rfl, _, rfl, _, _, rfl, rfl, (by dsimp only; decide), _, rfl, .inl ⟨_, _, rfl, rfl, .inl ⟨_, _, rfl, rfl, cm_mod (by decide) (by decide), _, _, rfl, rfl, (by dsimp only; decide), _, _, rfl, rfl, ⟨by decide, by decide⟩, _, rfl, _, _, rfl, rfl, m0, ?_⟩⟩⟩
    exact q _ _ ns (Int.emod_nonneg _ (by omega)) (Int.emod_lt_of_pos _ m0) bx1 (by rw [hid_upd_b]; exact Same.refl _)
end
end Z

set_option Elab.async false
set_option linter.all false
set_option maxRecDepth 100000
set_option maxHeartbeats 4000000
namespace L2
open PySem
def Gm (t : TG) : Prop := ∀ x σ H (Q Q' : St → Hp → Prop), (∀ a b, Q a b → Q' a b) → t x σ H Q → t x σ H Q'
def Gms (t : TGs) : Prop := ∀ x σ H (Q Q' : St → Hp → Prop), (∀ a b, Q a b → Q' a b) → t x σ H Q → t x σ H Q'
theorem gm_name {i : Nat} : Gm (gName i) := fun _ _ _ _ _ h q => h _ _ q
theorem gms_nil : Gms gNil := fun _ _ _ _ _ h q => ⟨q.1, h _ _ q.2⟩
theorem gms_cons {t : TG} {u : TGs} (a : Gm t) (b : Gms u) : Gms (gCons t u) := fun _ _ _ _ _ h ⟨v, r, e, q⟩ => ⟨v, r, e, a _ _ _ _ _ (fun _ _ z => b _ _ _ _ _ h z) q⟩
theorem gm_tup {K : PySem.W.Frag} {n : Nat} {t : TGs} (a : Gms t) : Gm (gTup K n t) := fun _ _ _ _ _ h ⟨v, r, e, h1, h2, q⟩ => ⟨v, r, e, h1, h2, a _ _ _ _ _ h q⟩
theorem Dens.get {K : PySem.W.Frag} {H : Hp} : ∀ {ds : List PyData} {vs : List V} {i : Nat} {d : PyData}, Dens K H ds vs → ds[i]? = some d → ∃ v, vs[i]? = some v ∧ Den K H d v
  | [], _, _, _, _, e => by simp at e
  | d :: ds, vs, i, d', h, e => by
    unfold Dens at h
    obtain ⟨v, r, rfl, h1, h2⟩ := h
    cases i with
    | zero => cases e; exact ⟨v, rfl, h1⟩
    | succ i => exact Dens.get (i := i) h2 e
theorem Dens.len {K : PySem.W.Frag} {H : Hp} : ∀ {ds : List PyData} {vs : List V}, Dens K H ds vs → vs.length = ds.length
  | [], _, h => by unfold Dens at h; subst h; rfl
  | d :: ds, vs, h => by
    unfold Dens at h
    obtain ⟨v, r, rfl, h1, h2⟩ := h
    rw [List.length_cons, List.length_cons, Dens.len h2]
theorem Den.pair {K : PySem.W.Frag} {H : Hp} {a b : Str} {v : V} (h : Den K H (.tuple [.str a, .str b]) v) : ∃ p, v = .ref p ∧ SqT K H p [.str a, .str b] := by
  unfold Den at h
  obtain ⟨p, vs, e, h1, h2⟩ := h
  unfold Dens at h2
  obtain ⟨v1, r1, rfl, d1, h2⟩ := h2
  unfold Dens at h2
  obtain ⟨v2, r2, rfl, d2, h2⟩ := h2
  unfold Dens at h2
  subst h2
  unfold Den at d1 d2
  subst d1 d2
  exact ⟨p, e, h1⟩
end L2
namespace Z
open PySem L2
/-- a book as data -/
def bookD (bk : List (Str × Str)) : PyData := .list (bk.map fun q => .tuple [.str q.1, .str q.2])
theorem same_new {H : Hp} {p : Addr} (h : H p = none) (o : HO) : Same H (upd H p o) := fun b u q => by rw [upd_ne (ne_of_none q h)]; exact q
end Z

set_option Elab.async false
set_option linter.all false
set_option maxRecDepth 100000
set_option maxHeartbeats 4000000
namespace L2
open PySem
/-- a for over any iterator, N turns -/
theorem for_go {J : It} {g : TG} {tb : TS} {D : Ends} {σ : St} {H : Hp} (N : Nat) (Pv : Nat → St → Hp → Prop) (h0 : Pv 0 σ H)
    (go : ∀ i σ H, i < N → Pv i σ H → J.go i H ∧ ∀ x H', J.yld i H x H' → g x σ H' fun σ2 H2 => tb { D with nx := Pv (i + 1), ct := Pv (i + 1), bk := D.nx } σ2 H2)
    (stop : ∀ σ H, Pv N σ H → J.stop N H ∧ D.nx σ H) :
    ∃ W : Nat → Nat → St → Hp → Prop, (∃ m, W 0 m σ H) ∧ ∀ i m σ H, W i m σ H →
      (J.stop i H ∧ D.nx σ H) ∨ (J.go i H ∧ ∃ N : St → Hp → Prop, (∀ σ' H', N σ' H' → ∃ m', m' < m ∧ W (i + 1) m' σ' H') ∧ ∀ x H', J.yld i H x H' → g x σ H' fun σ2 H2 => tb { D with nx := N, ct := N, bk := D.nx } σ2 H2) := by
  refine ⟨fun i m σ H => m = N - i ∧ i ≤ N ∧ Pv i σ H, ⟨N, by simp, Nat.zero_le _, h0⟩, ?_⟩
  rintro i m σ H ⟨rfl, hi, p⟩
  by_cases hlt : i < N
  · obtain ⟨g1, g2⟩ := go i σ H hlt p
    exact .inr ⟨g1, Pv (i + 1), fun σ' H' p' => ⟨N - (i + 1), by omega, rfl, hlt, p'⟩, g2⟩
  · have e : i = N := by omega
    subst e
    exact .inl (stop σ H p)
end L2
namespace L2
open PySem
/-- what holds behind a statement, said once -/
theorem seqCut {t u : TS} {D : Ends} {σ : St} {H : Hp} (Ex : St → Hp → Prop) (h : ∀ Nx : St → Hp → Prop, (∀ σ H, Ex σ H → Nx σ H) → t { D with nx := Nx } σ H) (fin : ∀ σ H, Ex σ H → u D σ H) : tSeq t u D σ H := h (u D) fin
/-- a while, by a falling number -/
theorem whileGo {c : TT} {tb : TS} {D : Ends} {σ : St} {H : Hp} (Pv : Nat → St → Hp → Prop) (h0 : ∃ m, Pv m σ H)
    (hs : ∀ m σ H, Pv m σ H → c σ H fun b H1 => if b = true then ∃ N : St → Hp → Prop, (∀ σ' H', N σ' H' → ∃ m', m' < m ∧ Pv m' σ' H') ∧ tb { D with nx := N, ct := N, bk := D.nx } σ H1 else D.nx σ H1) : tWhile c tb D σ H := ⟨Pv, h0, hs⟩
end L2
namespace L2
open PySem
/-- x = e, then the rest; what e comes to, said once -/
theorem asgCut {te : TE} {g : TG} {u : TS} {D : Ends} {σ : St} {H : Hp} (Ex : V → Hp → Prop) (h : ∀ Qn : VK, (∀ v H, Ex v H → Qn v H) → te σ H Qn) (fin : ∀ v H, Ex v H → g v σ H (u D)) : tSeq (tAsg te g) u D σ H := h _ fin
theorem asgEnd {te : TE} {g : TG} {D : Ends} {σ : St} {H : Hp} (Ex : V → Hp → Prop) (h : ∀ Qn : VK, (∀ v H, Ex v H → Qn v H) → te σ H Qn) (fin : ∀ v H, Ex v H → g v σ H D.nx) : tAsg te g D σ H := h _ fin
end L2
namespace L2
open PySem
/-- a name has been given -/
theorem gn {i : Nat} {v : V} {σ : St} {H : Hp} {Q : St → Hp → Prop} (h : Q (σ.set i (some v)) H) : gName i v σ H Q := h
end L2

set_option Elab.async false
set_option linter.all false
set_option maxRecDepth 100000
set_option maxHeartbeats 4000000
namespace Z
open PySem L2
/-- the box at b, its list at c, t draws done -/
def Bx (H : Hp) (b c : Addr) (t : Int) : Prop := ∃ ns, Box H b c t ns
/-- from H to H': at most N draws more; all else stands -/
structure Step (b c : Addr) (H H' : Hp) (t t' N : Int) : Prop where
  le : t ≤ t'
  ub : t' ≤ t + N
  bx : Bx H' b c t'
  sm : Same (hid H b c) (hid H' b c)
theorem Step.refl {b c : Addr} {H : Hp} {t : Int} (h : Bx H b c t) : Step b c H H t t 0 := ⟨Int.le_refl _, by omega, h, Same.refl _⟩
theorem Step.trans {b c : Addr} {H H' H2 : Hp} {t t' t2 N M : Int} (x : Step b c H H' t t' N) (y : Step b c H' H2 t' t2 M) : Step b c H H2 t t2 (N + M) :=
  ⟨by have := x.le; have := y.le; omega, by have := x.ub; have := y.ub; omega, y.bx, x.sm.trans y.sm⟩
theorem Step.more {b c : Addr} {H H' : Hp} {t t' N M : Int} (x : Step b c H H' t t' N) (h : N ≤ M) : Step b c H H' t t' M := ⟨x.le, by have := x.ub; omega, x.bx, x.sm⟩
theorem Bx.ne_new {H : Hp} {b c p : Addr} {t : Int} (x : Bx H b c t) (h : H p = none) : p ≠ b ∧ p ≠ c := by
  obtain ⟨ns, x⟩ := x
  exact ⟨fun z => (by rw [z, x.d] at h; cases h), fun z => (by rw [z, x.l] at h; cases h)⟩
theorem Bx.upd {H : Hp} {b c p : Addr} {t : Int} {o : HO} (x : Bx H b c t) (h1 : p ≠ b) (h2 : p ≠ c) : Bx (upd H p o) b c t := by
  obtain ⟨ns, x⟩ := x
  exact ⟨ns, by rw [upd_ne (Ne.symm h1)]; exact x.d, by rw [upd_ne (Ne.symm h2)]; exact x.l, x.ne, x.le⟩
/-- a new object -/
theorem Step.new {b c p : Addr} {H H' : Hp} {t t' N : Int} (x : Step b c H H' t t' N) (h : H' p = none) (o : HO) : Step b c H (upd H' p o) t t' N :=
  ⟨x.le, x.ub, x.bx.upd (x.bx.ne_new h).1 (x.bx.ne_new h).2, x.sm.trans (hid_more fun a u _ _ e => by rw [upd_ne (ne_of_none e h)]; exact e)⟩
/-- an object changed that was not there at the start -/
theorem Step.chg {b c p : Addr} {H H' : Hp} {t t' N : Int} (x : Step b c H H' t t' N) (h : H p = none) (h1 : p ≠ b) (h2 : p ≠ c) (o : HO) : Step b c H (upd H' p o) t t' N :=
  ⟨x.le, x.ub, x.bx.upd h1 h2, fun a u e => by
    have q := x.sm a u e
    obtain ⟨q, n1, n2⟩ := of_hid q
    rw [hid_of n1 n2, upd_ne (fun z => ?_)]
    · exact q
    · rw [z] at e
      rw [(of_hid e).1] at h; cases h⟩
theorem Step.old {b c a : Addr} {H H' : Hp} {t t' N : Int} {o : HO} (x : Step b c H H' t t' N) (h : H a = some o) (h1 : a ≠ b) (h2 : a ≠ c) : H' a = some o :=
  (of_hid (x.sm a o (by rw [hid_of h1 h2]; exact h))).1
theorem Step.fresh {b c a : Addr} {H H' : Hp} {t t' N : Int} (x : Step b c H H' t t' N) (hb : Bx H b c t) (h : H' a = none) : H a = none := by
  obtain ⟨h1, h2⟩ := x.bx.ne_new h
  cases e : H a with
  | none => rfl
  | some o => rw [x.old e h1 h2] at h; cases h
theorem Same.hid {H H' : Hp} {b c : Addr} (s : Same H H') : Same (hid H b c) (hid H' b c) := hid_more fun a o _ _ e => s a o e
theorem Bx.same {H H' : Hp} {b c : Addr} {t : Int} (x : Bx H b c t) (s : Same H H') : Bx H' b c t := by
  obtain ⟨ns, x⟩ := x
  exact ⟨ns, s _ _ x.d, s _ _ x.l, x.ne, x.le⟩
theorem Step.same {b c : Addr} {H H' : Hp} {t : Int} (x : Bx H b c t) (s : Same H H') : Step b c H H' t t 0 := ⟨Int.le_refl _, by omega, x.same s, Same.hid s⟩
/-- the draw, said so -/
def spTk : Sp := fun vs H Q _ => ∃ (b c : Addr) (t many : Int), vs = [.ref b, .int many] ∧ Bx H b c t ∧ 0 ≤ t ∧ t < 100000000 ∧ 0 < many ∧ many < 1000000000 ∧
  ∀ (r : Int) (H' : Hp), 0 ≤ r → r < many → Step b c H H' t (t + 1) 1 → Q (.int r) H'
theorem spTk_of {vs : List V} {H : Hp} {Q : VK} {E : XK} (h : spTk vs H Q E) : spTake vs H Q E := by
  obtain ⟨b, c, t, many, e, ⟨ns, bx⟩, h1, h2, h3, h4, q⟩ := h
  exact ⟨b, c, t, ns, many, e, bx, h1, h2, h3, h4, fun r H' ns' r0 r1 bx' sm => q r H' r0 r1 ⟨by omega, by omega, ⟨ns', bx'⟩, sm⟩⟩
theorem cut_to (vs : List V) (j : Nat) : cutV vs none (some (j : Int)) = vs.take j := by
  unfold cutV
  rw [HT.sIx_none, HT.sIx_nat, List.drop_zero, Nat.sub_zero]
  rcases Nat.le_total j vs.length with h | h
  · rw [Nat.min_eq_left h]
  · rw [Nat.min_eq_right h, List.take_of_length_le (Nat.le_refl _), List.take_of_length_le h]
theorem cut_from (vs : List V) (j : Nat) : cutV vs (some (j : Int)) none = vs.drop j := by
  unfold cutV
  rw [HT.sIx_none, HT.sIx_nat]
  rcases Nat.le_total j vs.length with h | h
  · rw [Nat.min_eq_left h, List.take_of_length_le (by rw [List.length_drop]; exact Nat.le_refl _)]
  · rw [Nat.min_eq_right h, List.drop_of_length_le (Nat.le_refl _), List.drop_of_length_le h]; simp
theorem Fn.imp {P : Program} {w : World} {K : PySem.W.Frag} {mg : Str → Option Value} {base : Heap} {k : Nat} {x : Str} {ps : List Str} {sp sp' : Sp} (F : Fn P w K mg base k x ps sp) (h : ∀ vs H Q E, sp' vs H Q E → sp vs H Q E) : Fn P w K mg base k x ps sp' := by
  obtain ⟨f, fd, a, b, c, d⟩ := F.ex
  exact ⟨f, fd, a.imp h, b, c, d⟩
end Z
namespace Z
open PySem L2
theorem Step.newN {b c p : Addr} {H H' H2 : Hp} {t t' N : Int} {o : HO} (x : Step b c H H' t t' N) (n : New H' p o H2) : Step b c H H2 t t' N := by rw [n.eq]; exact x.new n.nn _
theorem Step.chgN {b c p : Addr} {H H' H2 : Hp} {t t' N : Int} {o : HO} (x : Step b c H H' t t' N) (n : Chg H' p o H2) (h : H p = none) (h1 : p ≠ b) (h2 : p ≠ c) : Step b c H H2 t t' N := by rw [n.eq]; exact x.chg h h1 h2 _
end Z

set_option Elab.async false
set_option linter.all false
set_option maxRecDepth 100000
set_option maxHeartbeats 4000000
namespace Z
open PySem L2
/-- a text of the signs 0 and 1 -/
def Bin (x : Str) : Prop := ∀ c ∈ x.cps.toList, c = 48 ∨ c = 49
theorem glued_list (g : Str) : ∀ (parts : List Str) (acc : Array Nat), (parts.foldl (fun acc p => acc ++ g.cps ++ p.cps) acc).toList = acc.toList ++ parts.flatMap (fun p => g.cps.toList ++ p.cps.toList)
  | [], acc => by simp
  | p :: r, acc => by rw [List.foldl_cons, glued_list g r]; simp
theorem join_list0 (xs : List Str) : (Txt.join "" xs).cps.toList = xs.flatMap (fun p => p.cps.toList) := by
  cases xs with
  | nil => rfl
  | cons x r =>
    show ((r.foldl (fun acc p => acc ++ (Str.ofString "").cps ++ p.cps) x.cps)).toList = _
    rw [glued_list]
    have e : (Str.ofString "").cps.toList = [] := rfl
    simp [e]
theorem ones_flat : ∀ {xs : List Str}, (∀ x ∈ xs, ∃ ch : Nat, x = ⟨#[ch]⟩ ∧ (ch = 48 ∨ ch = 49)) → (xs.flatMap (fun p => p.cps.toList)).length = xs.length ∧ (∀ c ∈ xs.flatMap (fun p => p.cps.toList), c = 48 ∨ c = 49) ∧ (xs.map (·.length)).sum = xs.length
  | [], _ => ⟨rfl, fun _ h => by simp at h, rfl⟩
  | x :: r, h => by
    obtain ⟨ch, rfl, hc⟩ := h x List.mem_cons_self
    obtain ⟨h1, h2, h3⟩ := ones_flat fun y hy => h y (List.mem_cons_of_mem _ hy)
    refine ⟨by simp at h1 ⊢; omega, fun c hm => ?_, ?_⟩
    · rw [List.flatMap_cons] at hm
      rcases List.mem_append.mp hm with q | q
      · have : c = ch := by simpa using q
        rw [this]; exact hc
      · exact h2 c q
    · rw [List.map_cons, List.sum_cons, h3]
      show 1 + _ = _
      simp; omega
end Z

set_option Elab.async false
set_option linter.all false
set_option maxRecDepth 100000
set_option maxHeartbeats 4000000
namespace Z
open PySem L2
abbrev abc : Str := "abcdefghijklmnopqrstuvwxyz"
theorem abc_list : abc.cps.toList = (List.range 26).map (97 + ·) := by decide +kernel
theorem abc_at {r : Int} (h0 : 0 ≤ r) (h1 : r < 26) : atI abc.cps.toList r = some (97 + r.toNat) := by
  refine at_nat h0 ?_
  rw [abc_list, List.getElem?_map, List.getElem?_range (by omega)]
  rfl
/-- small letters alone -/
def Low (x : Str) : Prop := ∀ ch ∈ x.cps.toList, 97 ≤ ch ∧ ch ≤ 122
/-- the name at place i where the first letter's number is g -/
structure NameAt (g : Int) (i : Nat) (x : Str) : Prop where
  low : Low x
  pos : 1 ≤ x.length
  le : x.length ≤ 8
  last : x.cps.toList.getLast? = some (97 + ((g + 3 * i) % 26).toNat)
theorem str_append_list (x y : Str) : (x ++ y).cps.toList = x.cps.toList ++ y.cps.toList := by
  show (x.cps ++ y.cps).toList = _
  simp
theorem str_len (x : Str) : x.length = x.cps.toList.length := by simp [Str.length]
theorem len_append (x y : Str) : (x ++ y).length = x.length + y.length := by rw [str_len, str_append_list, List.length_append, ← str_len, ← str_len]
theorem len_one (ch : Nat) : (⟨#[ch]⟩ : Str).length = 1 := rfl
theorem Low.app {x : Str} {ch : Nat} (h : Low x) (h1 : 97 ≤ ch) (h2 : ch ≤ 122) : Low (x ++ ⟨#[ch]⟩) := fun d hd => by
  rw [str_append_list] at hd
  rcases List.mem_append.mp hd with q | q
  · exact h d q
  · have e : d = ch := by simpa using q
    rw [e]; exact ⟨h1, h2⟩
end Z

set_option Elab.async false
set_option linter.all false
set_option maxRecDepth 100000
set_option maxHeartbeats 4000000
namespace Z
open PySem L2
def spSigns : Sp := fun vs H Q _ => ∃ (b c : Addr) (t : Int) (ns : List Int) (many : Int), vs = [.ref b, .int many] ∧ Box H b c t ns ∧ 0 ≤ t ∧ t < 10000000 ∧ -1000 ≤ many ∧ many ≤ 1000 ∧
  ∀ (x : Str) (H' : Hp) (ns' : List Int), (x.length : Int) = max many 0 → Bin x → Box H' b c (t + max many 0) ns' → Same (hid H b c) (hid H' b c) → Q (.str x) H'
section
variable {P : Program} {w : World} {K : PySem.W.Frag} {mg : Str → Option Value} {base : Heap} {f : Addr} {fd : FuncData}
theorem sc_signs : FnScope ["_law_box", "_law_many"] ["_law_box", "_law_many"] (defScope (top i_law_signs)) := ⟨rfl, rfl, rfl, by decide +kernel, rfl, by decide +kernel, by decide +kernel⟩
theorem sign_at {r : Int} (h0 : 0 ≤ r) (h1 : r < 2) : ∃ ch, atI (Str.ofString "01").cps.toList r = some ch ∧ (ch = 48 ∨ ch = 49) := by
  have : r = 0 ∨ r = 1 := by omega
  rcases this with rfl | rfl
  · exact ⟨48, by decide +kernel, .inl rfl⟩
  · exact ⟨49, by decide +kernel, .inr rfl⟩
theorem ok_signs (F : Fun K "_law_signs" "_law_signs" (top i_law_signs) f fd) (T : Nm mg) (f_law_take : Fn P w K mg base 1 "_law_take" ["_law_box", "_law_many"] spTake) : FnOk P w K mg base CX0 2 f fd ["_law_box", "_law_many"] spSigns := by
  refine F.ok sc_signs (fun vs H Q E h => ?_) (fun cdv A outer s H vs Q E hr h => ?_)
  · obtain ⟨b, c, t, ns, many, rfl, _⟩ := h
    rfl
  obtain ⟨b, c, t, ns, many, rfl, bx, t0, t1, m0, m1, q⟩ := h
  refine ⟨_, (pss_one (ps_ret (bmK K PySem.F.plainAttrs_str PySem.F.slot_str_join PySem.F.type_str_join (joinK K) pe_str (pa_cons (pe_lcomp rfl (comp_ok (Nc := ["_law_turn"]) (Fc := ["_law_box"]) (js := [0])) (pi_range1 rfl T.n_range (pa_cons (pv 1) pa_nil)) (gk_name (i := 0) (n := 1) (by decide)) (fun _ _ _ _ _ => (pg_name (i := 0) (show (["_law_turn", "_law_box"] : List Str).Nodup by decide +kernel) rfl (Or.inl rfl))) (fun _ _ _ _ _ => pts_nil) (fun _ _ _ _ _ => (pe_ix (ixK K) pe_str (pe_fn f_law_take hr rfl (pa_cons (pv 1) (pa_cons pe_int pa_nil))) (fun _ _ => rfl)))) pa_nil)))), ?_⟩
  refine ⟨rfl, _, rfl, many, rfl, by omega, by omega, ?_⟩
  have hN : ((many.toNat : Nat) : Int) = max many 0 := by omega
  refine comp_go (N := many.toNat) (fun i ys H' => ∃ (xs : List Str) (ns' : List Int), ys = xs.map V.str ∧ xs.length = i ∧ (∀ x ∈ xs, ∃ ch, x = ⟨#[ch]⟩ ∧ (ch = 48 ∨ ch = 49)) ∧ Box H' b c (t + i) ns' ∧ Same (hid H b c) (hid H' b c))
    ⟨[], ns, rfl, rfl, (fun _ h => nomatch h), by simpa using bx, Same.refl _⟩ ?_ ?_
  · rintro i ys H' Nx hi ⟨xs, ns', rfl, hl, hx, bx', sm⟩ nx
    refine ⟨hi, by rw [List.length_map, hl]; exact Nat.lt_of_lt_of_le (show i < 1000 by omega) (by decide), ?_⟩
    rintro x H2 ⟨rfl, rfl⟩
    refine ⟨_, rfl, b, c, t + i, ns', 2, rfl, bx', by omega, by omega, by decide, by decide, fun r H4 ns4 r0 r1 bx4 sm4 => ?_⟩
    obtain ⟨ch, hch, hb⟩ := sign_at r0 r1
    refine .inr (.inr ⟨_, r, ch, rfl, rfl, by decide +kernel, hch, nx _ _ ⟨xs ++ [⟨#[ch]⟩], ns4, by simp, by simp [hl], ?_, ?_, sm.trans sm4⟩⟩)
    · intro x hxm
      rcases List.mem_append.mp hxm with h | h
      · exact hx x h
      · exact ⟨ch, List.mem_singleton.mp h, hb⟩
    · have e : t + ((i + 1 : Nat) : Int) = t + i + 1 := by omega
      rw [e]; exact bx4
  · rintro ys H' ⟨xs, ns', rfl, hl, hx, bx', sm⟩
    refine ⟨Nat.le_refl _, fun p hp => ⟨_, p, xs, rfl, rfl, SqL.of upd_same, ?_, ?_⟩⟩
    · obtain ⟨_, _, h3⟩ := ones_flat hx
      rw [h3]
      show xs.length + xs.length * 0 ≤ 16777216
      omega
    · obtain ⟨h1, h2, _⟩ := ones_flat hx
      have hc := join_list0 xs
      refine q _ _ ns' ?_ ?_ ?_ ?_
      · have e : (Txt.join "" xs).length = (Txt.join "" xs).cps.toList.length := by simp [Str.length]
        rw [← hN, ← hl, e, hc, h1]
      · show ∀ c ∈ (Txt.join "" xs).cps.toList, _
        rw [hc]; exact h2
      · have hpb : p ≠ b := fun z => by rw [z, bx'.d] at hp; cases hp
        have hpc : p ≠ c := fun z => by rw [z, bx'.l] at hp; cases hp
        rw [← hN]
        exact ⟨by rw [upd_ne (Ne.symm hpb)]; exact bx'.d, by rw [upd_ne (Ne.symm hpc)]; exact bx'.l, bx'.ne, bx'.le⟩
      · refine sm.trans (hid_more fun a o h1 h2 e => ?_)
        rw [upd_ne (ne_of_none e hp)]; exact e
end
end Z

set_option Elab.async false
set_option linter.all false
set_option maxRecDepth 100000
set_option maxHeartbeats 4000000
namespace Z
open PySem L2
def spSg : Sp := fun vs H Q _ => ∃ (b c : Addr) (t many : Int), vs = [.ref b, .int many] ∧ Bx H b c t ∧ 0 ≤ t ∧ t < 10000000 ∧ -1000 ≤ many ∧ many ≤ 1000 ∧
  ∀ (x : Str) (H' : Hp) (t' : Int), (x.length : Int) = max many 0 → Bin x → Step b c H H' t t' (max many 0) → Q (.str x) H'
theorem spSg_of {vs : List V} {H : Hp} {Q : VK} {E : XK} (h : spSg vs H Q E) : spSigns vs H Q E := by
  obtain ⟨b, c, t, many, e, ⟨ns, bx⟩, h1, h2, h3, h4, q⟩ := h
  exact ⟨b, c, t, ns, many, e, bx, h1, h2, h3, h4, fun x H' ns' hx hb bx' sm => q x H' _ hx hb ⟨by omega, by omega, ⟨ns', bx'⟩, sm⟩⟩
end Z

set_option Elab.async false
set_option linter.all false
set_option maxRecDepth 100000
set_option maxHeartbeats 4000000
namespace Z
open PySem L2
def spNames : Sp := fun vs H Q _ => ∃ (b c : Addr) (t many : Int), vs = [.ref b, .int many] ∧ Bx H b c t ∧ 0 ≤ t ∧ t < 1000000 ∧ 0 ≤ many ∧ many ≤ 60 ∧
  ∀ (xs : List Str) (l : Addr) (H' : Hp) (t' g : Int), (xs.length : Int) = many → 0 ≤ g → g < 26 → (∀ (i : Nat) x, xs[i]? = some x → NameAt g i x) → Step b c H H' t t' 1000 → H l = none → H' l = some (.lst (xs.map V.str)) → Q (.ref l) H'
section
variable {P : Program} {w : World} {K : PySem.W.Frag} {mg : Str → Option Value} {base : Heap} {f : Addr} {fd : FuncData}
theorem sc_law_names : FnScope ["_law_box", "_law_many", "_law_letters", "_law_begin_here", "_law_found", "_law_place", "_law_way", "_law_word", "_law_turn"] ["_law_box", "_law_many"] (defScope (top i_law_names)) := ⟨rfl, rfl, rfl, by decide +kernel, rfl, by decide +kernel, by decide +kernel⟩
theorem ok_names (F : Fun K "_law_names" "_law_names" (top i_law_names) f fd) (T : Nm mg) (f_law_take : Fn P w K mg base 1 "_law_take" ["_law_box", "_law_many"] spTk) : FnOk P w K mg base CX0 2 f fd ["_law_box", "_law_many"] spNames := by
  refine F.ok sc_law_names (fun vs H Q E h => ?_) (fun cdv A outer s H vs Q E hr h => ?_)
  · obtain ⟨b, c, t, many, rfl, _⟩ := h
    rfl
  obtain ⟨b, c, t, many, rfl, bx, t0, t1, m0, m1, q⟩ := h
  refine ⟨_, (pss_cons (ps_set (i := 2) sc_law_names.nd rfl (Or.inl rfl) pe_str)
    (pss_cons (ps_par (i := 3) (j := 4) rfl sc_law_names.nd rfl rfl (by decide) rfl rfl (pa_cons (pe_fn (f_law_take.mono (by first | decide | exact Nat.le_refl _)) hr rfl (pa_cons (pv 0) (pa_cons pe_int pa_nil))) (pa_cons (lstN pa_nil) pa_nil)) rfl)
    (pss_cons (ps_for PassesOwn.never rfl (pi_range1 rfl T.n_range (pa_cons (pv 1) pa_nil)) (pg_name (i := 5) sc_law_names.nd rfl (Or.inl rfl)) (pss_cons (ps_set (i := 6) sc_law_names.nd rfl (Or.inl rfl) (pe_fn (f_law_take.mono (by first | decide | exact Nat.le_refl _)) hr rfl (pa_cons (pv 0) (pa_cons pe_int pa_nil))))
    (pss_cons (ps_set (i := 7) sc_law_names.nd rfl (Or.inl rfl) pe_str)
    (pss_cons (ps_for PassesOwn.never rfl (pi_range1 rfl T.n_range (pa_cons (pe_ifExp (pt_cmpR op_lt (pv 6) pe_int (nomark _)) (pe_ix (ixK K) (lstN (pa_cons pe_int (pa_cons pe_int (pa_cons pe_int (pa_cons pe_int pa_nil))))) (pv 6) (fun _ _ => rfl)) (pe_fn (f_law_take.mono (by first | decide | exact Nat.le_refl _)) hr rfl (pa_cons (pv 0) (pa_cons pe_int pa_nil)))) pa_nil)) (pg_name (i := 8) sc_law_names.nd rfl (Or.inl rfl)) (pss_one (ps_set (i := 7) sc_law_names.nd rfl (Or.inl rfl) (pe_op addN (pv 7) (pe_ix (ixK K) (pv 2) (pe_fn (f_law_take.mono (by first | decide | exact Nat.le_refl _)) hr rfl (pa_cons (pv 0) (pa_cons pe_int pa_nil))) (fun _ _ => rfl))))))
    (pss_one (ps_expr (bmK K PySem.F.plainAttrs_list PySem.F.slot_list_append PySem.F.type_list_append appendN (pv 4) (pa_cons (pe_op addN (pv 7) (pe_ix (ixK K) (pv 2) (pe_op op_mod (pe_op addN (pv 3) (pe_op mulN pe_int (pv 5))) pe_int) (fun _ _ => rfl))) pa_nil))))))))
    (pss_one (ps_ret (pv 4)))))), ?_⟩
  refine ⟨_, rfl, b, c, t, 26, rfl, bx, t0, by omega, by decide, by decide, fun g H1 g0 g1 st1 => ?_⟩
  refine ⟨by show 0 ≤ sizeLine; decide, fun l H2 n2 => ⟨_, _, rfl, ?_⟩⟩
  have hl : H l = none := st1.fresh bx n2.nn
  obtain ⟨lb, lc⟩ := st1.bx.ne_new n2.nn
  have st2 : Step b c H H2 t (t + 1) 1 := by rw [n2.eq]; exact st1.new n2.nn _
  refine ⟨_, rfl, many, rfl, by omega, by omega, ?_⟩
  refine for_range (lo := 0) (n := many.toNat) (fun i σ H' => ∃ xs t' x5 x6 x7 x8, σ = [some (.ref b), some (.int many), some (.str abc), some (.int g), some (.ref l), x5, x6, x7, x8] ∧ xs.length = i ∧
    (∀ (j : Nat) x, xs[j]? = some x → NameAt g j x) ∧ Step b c H H' t t' (1 + 10 * i) ∧ H' l = some (.lst (xs.map V.str))) ⟨[], t + 1, _, _, _, _, rfl, rfl, by simp, by simpa using st2, n2.at⟩ ?_ ?_
  · rintro i σ H3 hi ⟨xs, t3, x5, x6, x7, x8, rfl, hxl, hx, st3, hl3⟩
    have hub := st3.ub
    have hlo := st3.le
    refine ⟨_, rfl, b, c, t3, 5, rfl, st3.bx, by omega, by omega, by decide, by decide, fun r H4 r0 r1 st4 => ?_⟩
    have hl4 : H4 l = some (.lst (xs.map V.str)) := st4.old hl3 lb lc
    have st4 := st3.trans st4
    refine ⟨_, rfl, _, _, rfl, rfl, _, rfl, ?_⟩
    have four : r < 4 → ∃ v : Int, atI ([.int 0, .int 0, .int 1, .int 7] : List V) r = some (.int v) ∧ 0 ≤ v ∧ v ≤ 7 := fun h => by
      have : r = 0 ∨ r = 1 ∨ r = 2 ∨ r = 3 := by omega
      rcases this with rfl | rfl | rfl | rfl
      · exact ⟨0, rfl, by decide, by decide⟩
      · exact ⟨0, rfl, by decide, by decide⟩
      · exact ⟨1, rfl, by decide, by decide⟩
      · exact ⟨7, rfl, by decide, by decide⟩
    refine ite2 (fun c4 => ?_) (fun c4 => ?_)
    · obtain ⟨m, hm, hm0, hm1⟩ := four (of_decide_eq_true c4)
      refine ⟨by show 4 ≤ sizeLine; decide, fun p H5 n5 => ?_⟩
      have st5 : Step b c H H5 t (t3 + 1) (1 + 10 * i + 2) := by rw [n5.eq]; exact (st4.new n5.nn _).more (by omega)
      have hl5 : H5 l = some (.lst (xs.map V.str)) := n5.same _ _ hl4
      obtain ⟨t5, st5⟩ : ∃ t5, Step b c H H5 t t5 (1 + 10 * i + 2) := ⟨_, st5⟩
      refine ⟨_, rfl, .inl ⟨p, _, _, _, rfl, rfl, SqL.of n5.at, hm, m, rfl, by omega, by omega, ?_⟩⟩
      clear n5 c4 hm st4 hl4 four
      refine for_range (lo := 0) (n := m.toNat) (fun k σ H' => ∃ x t' x8, σ = [some (.ref b), some (.int many), some (.str abc), some (.int g), some (.ref l), some (.int (0 + i)), some (.int r), some (.str x), x8] ∧ x.length = k ∧
        Low x ∧ Step b c H H' t t' (1 + 10 * i + 2 + k) ∧ H' l = some (.lst (xs.map V.str))) ⟨Str.empty, t5, _, rfl, rfl, (fun _ h => by cases h), by simpa using st5, hl5⟩ ?_ ?_
      · rintro k σ H6 hk ⟨x, t6, y8, rfl, hk1, hlow, st6, hl6⟩
        have hub6 := st6.ub
        have hlo6 := st6.le
        refine ⟨_, rfl, _, rfl, _, rfl, b, c, t6, 26, rfl, st6.bx, by omega, by omega, by decide, by decide, fun d H7 d0 d1 st7 => ?_⟩
        refine .inr (.inr ⟨_, d, _, rfl, rfl, by decide +kernel, abc_at d0 d1, .inr (.inl ⟨_, _, rfl, rfl, ?_, ?_⟩)⟩)
        · rw [len_one, hk1]; exact sizeOk (by omega)
        · exact ⟨x ++ ⟨#[97 + d.toNat]⟩, t6 + 1, _, rfl, by rw [len_append, len_one, hk1], hlow.app (by omega) (by omega), (st6.trans st7).more (by omega), st7.old hl6 lb lc⟩
      · rintro σ H6 ⟨x, t6, y8, rfl, hk1, hlow, st6, hl6⟩
        have h0 : 0 ≤ (g + 3 * ((0 : Int) + i)) % 26 := Int.emod_nonneg _ (by decide)
        have h1 : (g + 3 * ((0 : Int) + i)) % 26 < 26 := Int.emod_lt_of_pos _ (by decide)
        refine ⟨_, rfl, .inl ⟨rfl, _, SqL.of hl6⟩, _, rfl, _, rfl, _, rfl, _, rfl, .inl ⟨_, _, rfl, rfl, .inl ⟨by decide, by decide⟩, .inl ⟨_, _, rfl, rfl, _, _, rfl, rfl, (by dsimp only; decide), ?_⟩⟩⟩
        refine .inr (.inr ⟨_, _, _, rfl, rfl, by decide +kernel, abc_at h0 h1, .inr (.inl ⟨_, _, rfl, rfl, by rw [len_one, hk1]; exact sizeOk (by omega), l, _, _, rfl, rfl, hl6, ?_, fun H7 c7 => ?_⟩)⟩)
        · rw [List.length_map, hxl]; exact Nat.lt_of_lt_of_le (show i < 1000 by omega) (by decide)
        · refine ⟨xs ++ [x ++ ⟨#[97 + ((g + 3 * ((0 : Int) + i)) % 26).toNat]⟩], t6, _, _, _, _, rfl, by rw [List.length_append, hxl]; rfl, fun j y hy => ?_, ?_, ?_⟩
          · by_cases hj : j < xs.length
            · rw [List.getElem?_append_left hj] at hy
              exact hx j y hy
            · rw [List.getElem?_append_right (by omega)] at hy
              have e : j - xs.length = 0 := by
                have := (List.getElem?_eq_some_iff.mp hy).1
                simp at this
                omega
              rw [e] at hy
              cases hy
              have ej : j = i := by omega
              subst ej
              refine ⟨hlow.app (by omega) (by omega), by rw [len_append, len_one]; omega, by rw [len_append, len_one]; omega, ?_⟩
              rw [str_append_list, List.getLast?_append]
              have : ((0 : Int) + j) = j := by omega
              rw [this]
              rfl
          · rw [c7.eq]
            exact (st6.chg hl lb lc _).more (by omega)
          · rw [c7.at, List.map_append]
            rfl
    · have hub4 := st4.ub
      have hlo4 := st4.le
      refine ⟨_, rfl, b, c, t3 + 1, 8, rfl, st4.bx, by omega, by omega, by decide, by decide, fun m H5 hm0 hm1 st5 => ?_⟩
      have hl5 : H5 l = some (.lst (xs.map V.str)) := st5.old hl4 lb lc
      obtain ⟨t5, st5⟩ : ∃ t5, Step b c H H5 t t5 (1 + 10 * i + 2) := ⟨_, (st4.trans st5).more (by omega)⟩
      refine ⟨m, rfl, by omega, by omega, ?_⟩
      have hm1 : m ≤ 7 := by omega
      clear c4 st4 hl4 four
      refine for_range (lo := 0) (n := m.toNat) (fun k σ H' => ∃ x t' x8, σ = [some (.ref b), some (.int many), some (.str abc), some (.int g), some (.ref l), some (.int (0 + i)), some (.int r), some (.str x), x8] ∧ x.length = k ∧
        Low x ∧ Step b c H H' t t' (1 + 10 * i + 2 + k) ∧ H' l = some (.lst (xs.map V.str))) ⟨Str.empty, t5, _, rfl, rfl, (fun _ h => by cases h), by simpa using st5, hl5⟩ ?_ ?_
      · rintro k σ H6 hk ⟨x, t6, y8, rfl, hk1, hlow, st6, hl6⟩
        have hub6 := st6.ub
        have hlo6 := st6.le
        refine ⟨_, rfl, _, rfl, _, rfl, b, c, t6, 26, rfl, st6.bx, by omega, by omega, by decide, by decide, fun d H7 d0 d1 st7 => ?_⟩
        refine .inr (.inr ⟨_, d, _, rfl, rfl, by decide +kernel, abc_at d0 d1, .inr (.inl ⟨_, _, rfl, rfl, ?_, ?_⟩)⟩)
        · rw [len_one, hk1]; exact sizeOk (by omega)
        · exact ⟨x ++ ⟨#[97 + d.toNat]⟩, t6 + 1, _, rfl, by rw [len_append, len_one, hk1], hlow.app (by omega) (by omega), (st6.trans st7).more (by omega), st7.old hl6 lb lc⟩
      · rintro σ H6 ⟨x, t6, y8, rfl, hk1, hlow, st6, hl6⟩
        have h0 : 0 ≤ (g + 3 * ((0 : Int) + i)) % 26 := Int.emod_nonneg _ (by decide)
        have h1 : (g + 3 * ((0 : Int) + i)) % 26 < 26 := Int.emod_lt_of_pos _ (by decide)
        refine ⟨_, rfl, .inl ⟨rfl, _, SqL.of hl6⟩, _, rfl, _, rfl, _, rfl, _, rfl, .inl ⟨_, _, rfl, rfl, .inl ⟨by decide, by decide⟩, .inl ⟨_, _, rfl, rfl, _, _, rfl, rfl, (by dsimp only; decide), ?_⟩⟩⟩
        refine .inr (.inr ⟨_, _, _, rfl, rfl, by decide +kernel, abc_at h0 h1, .inr (.inl ⟨_, _, rfl, rfl, by rw [len_one, hk1]; exact sizeOk (by omega), l, _, _, rfl, rfl, hl6, ?_, fun H7 c7 => ?_⟩)⟩)
        · rw [List.length_map, hxl]; exact Nat.lt_of_lt_of_le (show i < 1000 by omega) (by decide)
        · refine ⟨xs ++ [x ++ ⟨#[97 + ((g + 3 * ((0 : Int) + i)) % 26).toNat]⟩], t6, _, _, _, _, rfl, by rw [List.length_append, hxl]; rfl, fun j y hy => ?_, ?_, ?_⟩
          · by_cases hj : j < xs.length
            · rw [List.getElem?_append_left hj] at hy
              exact hx j y hy
            · rw [List.getElem?_append_right (by omega)] at hy
              have e : j - xs.length = 0 := by
                have := (List.getElem?_eq_some_iff.mp hy).1
                simp at this
                omega
              rw [e] at hy
              cases hy
              have ej : j = i := by omega
              subst ej
              refine ⟨hlow.app (by omega) (by omega), by rw [len_append, len_one]; omega, by rw [len_append, len_one]; omega, ?_⟩
              rw [str_append_list, List.getLast?_append]
              have : ((0 : Int) + j) = j := by omega
              rw [this]
              rfl
          · rw [c7.eq]
            exact (st6.chg hl lb lc _).more (by omega)
          · rw [c7.at, List.map_append]
            rfl
  · rintro σ H3 ⟨xs, t3, x5, x6, x7, x8, rfl, hxl, hx, st3, hl3⟩
    exact ⟨_, rfl, q xs l H3 t3 g (by omega) g0 g1 hx (st3.more (by omega)) hl hl3⟩
end
end Z

set_option Elab.async false
set_option linter.all false
set_option maxRecDepth 100000
set_option maxHeartbeats 4000000
namespace Z
open PySem L2
mutual
theorem eqv_refl : ∀ (d : PyData), d.canLay0 = true → PyData.eqv d d = true
  | .none, _ => by simp [PyData.eqv]
  | .bool _, _ => by simp [PyData.eqv]
  | .int _, _ => by simp [PyData.eqv]
  | .str _, _ => by simp [PyData.eqv]
  | .list ds, h => by
    simp only [PyData.eqv]
    exact eqvAll_refl ds (by simpa [PyData.canLay0] using h)
  | .tuple ds, h => by
    simp only [PyData.eqv]
    exact eqvAll_refl ds (by simpa [PyData.canLay0] using h)
  | .dict _, h => by simp [PyData.canLay0] at h
theorem eqvAll_refl : ∀ (ds : List PyData), PyData.canLayAll0 ds = true → PyData.eqvAll ds ds = true
  | [], _ => by simp [PyData.eqvAll]
  | d :: ds, h => by
    simp only [PyData.canLayAll0, Bool.and_eq_true] at h
    simp only [PyData.eqvAll, Bool.and_eq_true]
    exact ⟨eqv_refl d h.1, eqvAll_refl ds h.2⟩
end
/-- may be compared, and is no deeper than n -/
def Sh (n : Nat) (d : PyData) : Prop := d.canLay0 = true ∧ d.depth ≤ n
theorem Sh.all {n : Nat} : ∀ {ds : List PyData}, (∀ d ∈ ds, Sh n d) → PyData.canLayAll0 ds = true ∧ PyData.depthAll ds ≤ n
  | [], _ => ⟨by simp [PyData.canLayAll0], by simp [PyData.depthAll]⟩
  | d :: ds, h => by
    obtain ⟨h1, h2⟩ := h d List.mem_cons_self
    obtain ⟨h3, h4⟩ := Sh.all fun e he => h e (List.mem_cons_of_mem _ he)
    exact ⟨by simp [PyData.canLayAll0, h1, h3], by simp only [PyData.depthAll]; omega⟩
theorem Sh.list {n : Nat} {ds : List PyData} (h : ∀ d ∈ ds, Sh n d) : Sh (n + 1) (.list ds) := by
  obtain ⟨h1, h2⟩ := Sh.all h
  exact ⟨by simpa [PyData.canLay0] using h1, by simp only [PyData.depth]; omega⟩
theorem Sh.tuple {n : Nat} {ds : List PyData} (h : ∀ d ∈ ds, Sh n d) : Sh (n + 1) (.tuple ds) := by
  obtain ⟨h1, h2⟩ := Sh.all h
  exact ⟨by simpa [PyData.canLay0] using h1, by simp only [PyData.depth]; omega⟩
theorem Sh.shaped {n : Nat} {d : PyData} (h : Sh n d) (hn : n ≤ 64) : SeqAt.shaped d = true := by
  unfold SeqAt.shaped
  rw [h.1, decide_eq_true (Nat.le_trans h.2 hn)]
  rfl
theorem Sh.str {n : Nat} {x : Str} (h : PyData.canLay0 (.str x) = true) : Sh n (.str x) := ⟨h, by simp [PyData.depth]⟩
theorem canLay_small {x : Str} (h : ∀ ch ∈ x.cps.toList, ch < 128) : PyData.canLay0 (.str x) = true := by
  simp only [PyData.canLay0, PyData.strOk]
  rw [← Array.all_toList, List.all_eq_true]
  intro ch hc
  have := h ch hc
  exact decide_eq_true (by omega)
theorem Den.strs {K : PySem.W.Frag} {H : Hp} : ∀ (xs : List Str), Dens K H (xs.map PyData.str) (xs.map V.str)
  | [] => by unfold Dens; rfl
  | x :: xs => by
    rw [List.map_cons]
    unfold Dens
    exact ⟨_, _, rfl, by unfold Den; rfl, Den.strs xs⟩
theorem Den.list {K : PySem.W.Frag} {H : Hp} {l : Addr} {ds : List PyData} {vs : List V} (h : SqL K H l vs) (hd : Dens K H ds vs) : Den K H (.list ds) (.ref l) := by
  unfold Den
  exact ⟨l, vs, rfl, h, hd⟩
theorem depth_at {n : Nat} : ∀ {ds : List PyData} {d : PyData}, PyData.depthAll ds ≤ n → d ∈ ds → d.depth ≤ n
  | [], _, _, h => nomatch h
  | e :: ds, d, hn, h => by
    simp only [PyData.depthAll] at hn
    rcases List.mem_cons.mp h with rfl | h
    · omega
    · exact depth_at (by omega) h
theorem weight_at {n : Nat} : ∀ {ds : List PyData} {d : PyData}, PyData.weightAll ds ≤ n → d ∈ ds → d.weight ≤ n
  | [], _, _, h => nomatch h
  | e :: ds, d, hn, h => by
    simp only [PyData.weightAll] at hn
    rcases List.mem_cons.mp h with rfl | h
    · omega
    · exact weight_at (by omega) h
theorem len_weight : ∀ (ds : List PyData), ds.length ≤ PyData.weightAll ds
  | [] => by simp
  | e :: ds => by
    simp only [PyData.weightAll, List.length_cons]
    have := len_weight ds
    omega
theorem all_true (n : Nat) : (List.replicate n true).all id = true := by
  induction n with
  | zero => rfl
  | succ n ih => rw [List.replicate_succ, List.all_cons, ih]; rfl
end Z

set_option Elab.async false
set_option linter.all false
set_option maxRecDepth 100000
set_option maxHeartbeats 4000000
namespace Z
open PySem L2
theorem Dens.of_get {K : PySem.W.Frag} {H : Hp} : ∀ {ds : List PyData} {vs : List V}, ds.length = vs.length → (∀ (j : Nat) d v, ds[j]? = some d → vs[j]? = some v → Den K H d v) → Dens K H ds vs
  | [], [], _, _ => by unfold Dens; rfl
  | [], _ :: _, h, _ => by simp at h
  | _ :: _, [], h, _ => by simp at h
  | d :: ds, v :: vs, h, g => by
    unfold Dens
    exact ⟨v, vs, rfl, g 0 d v rfl rfl, Dens.of_get (by simpa using h) fun j d' v' h1 h2 => g (j + 1) d' v' h1 h2⟩
theorem Den.pairOf {K : PySem.W.Frag} {H : Hp} {a : Addr} {x y : Str} (h : H a = some (.tup [.str x, .str y])) : Den K H (.tuple [.str x, .str y]) (.ref a) := by
  unfold Den
  refine ⟨a, _, rfl, SqT.of h, ?_⟩
  unfold Dens
  refine ⟨_, _, rfl, by unfold Den; rfl, ?_⟩
  unfold Dens
  refine ⟨_, _, rfl, by unfold Den; rfl, ?_⟩
  unfold Dens
  rfl
/-- a book that is a list of its own -/
def BookAt (K : PySem.W.Frag) (H : Hp) (bk : List (Str × Str)) (v : V) : Prop := ∃ (l : Addr) (vs : List V), v = .ref l ∧ H l = some (.lst vs) ∧ Dens K H (bk.map fun q => .tuple [.str q.1, .str q.2]) vs
/-- the list that list(zip(names, codes)) tells is a book -/
theorem book_zip {K : PySem.W.Frag} {H1 H' : Hp} {b c p : Addr} {t : Int} {as : List Addr} {ns cs : List Str} (bx : Bx H1 b c t) (hp : H1 p = none) (hl : H' p = some (.lst (as.map V.ref))) (hle : ns.length = cs.length)
    (hal : as.length = min (ns.map V.str).length (cs.map V.str).length) (h : ∀ (j : Nat) a x y, as[j]? = some a → (ns.map V.str)[j]? = some x → (cs.map V.str)[j]? = some y → H1 a = none ∧ H' a = some (.tup [x, y])) :
    BookAt K (hid H' b c) (ns.zip cs) (.ref p) := by
  have hal' : as.length = ns.length := by rw [hal, List.length_map, List.length_map, ← hle, Nat.min_self]
  obtain ⟨pb, pc⟩ := bx.ne_new hp
  refine ⟨p, _, rfl, by rw [hid_of pb pc]; exact hl, Dens.of_get ?_ fun j d v hd hv => ?_⟩
  · rw [List.length_map, List.length_map, List.length_zip]; omega
  · rw [List.getElem?_map] at hd hv
    have hj : j < as.length := by
      cases e : as[j]? with
      | none => rw [e] at hv; cases hv
      | some a => exact (List.getElem?_eq_some_iff.mp e).1
    have e1 : as[j]? = some as[j] := List.getElem?_eq_getElem hj
    have e2 : ns[j]? = some (ns[j]'(by omega)) := List.getElem?_eq_getElem (by omega)
    have e3 : cs[j]? = some (cs[j]'(by omega)) := List.getElem?_eq_getElem (by omega)
    rw [e1] at hv; cases hv
    rw [(List.getElem?_zip_eq_some (z := (ns[j]'(by omega), cs[j]'(by omega)))).mpr ⟨e2, e3⟩] at hd
    cases hd
    obtain ⟨h1, h2⟩ := h j as[j] _ _ e1 (by rw [List.getElem?_map, e2]; rfl) (by rw [List.getElem?_map, e3]; rfl)
    obtain ⟨ab, ac⟩ := bx.ne_new h1
    exact Den.pairOf (by rw [hid_of ab ac]; exact h2)
/-- a code of 1 to n signs -/
structure CodeOk (n : Nat) (x : Str) : Prop where
  bin : Bin x
  pos : 1 ≤ x.length
  le : x.length ≤ n
theorem CodeOk.mono {n m : Nat} {x : Str} (h : CodeOk n x) (le : n ≤ m) : CodeOk m x := ⟨h.bin, h.pos, Nat.le_trans h.le le⟩
theorem Bin.app {x y : Str} (h : Bin x) (h' : Bin y) : Bin (x ++ y) := fun ch hc => by
  rw [str_append_list] at hc
  rcases List.mem_append.mp hc with q | q
  · exact h ch q
  · exact h' ch q
/-- what a book of any kind is: names of the draw, codes of 1 to n signs -/
structure BookOk (n : Nat) (bk : List (Str × Str)) : Prop where
  ne : bk ≠ []
  le : bk.length ≤ 60
  nm : ∀ q ∈ bk, Low q.1
  cd : ∀ q ∈ bk, CodeOk n q.2
/-- names that were drawn in one go -/
def Drawn (bk : List (Str × Str)) : Prop := ∃ g : Int, 0 ≤ g ∧ g < 26 ∧ ∀ (i : Nat) q, bk[i]? = some q → NameAt g i q.1
theorem snoc {cs : List Str} {i : Nat} {x : Str} (h : ∀ (j : Nat) y, cs[j]? = some y → CodeOk (5 + 2 * j) y) (hl : cs.length = i) (hx : CodeOk (5 + 2 * i) x) : ∀ (j : Nat) y, (cs ++ [x])[j]? = some y → CodeOk (5 + 2 * j) y := fun j y hy => by
  by_cases hj : j < cs.length
  · rw [List.getElem?_append_left hj] at hy
    exact h j y hy
  · rw [List.getElem?_append_right (by omega)] at hy
    have hj0 : j - cs.length = 0 := by
      have := (List.getElem?_eq_some_iff.mp hy).1
      simp at this
      omega
    rw [hj0] at hy
    cases hy
    exact hx.mono (by omega)
end Z

set_option Elab.async false
set_option linter.all false
set_option maxRecDepth 100000
set_option maxHeartbeats 4000000
namespace Z
open PySem L2
abbrev sSigns : Str := "01"
abbrev sSmall : Str := "abcdefghijklmnopqrstuvwxyz"
/-- no signs but these -/
def madeOf (x y : Str) : Bool := decide (V.str (Txt.stripChars x y) = V.str (Str.ofString ""))
def isNameD : PyData → Bool
  | .str x => decide ((1 : Int) ≤ (x.length : Nat)) && (decide (((x.length : Nat) : Int) ≤ 8) && madeOf x sSmall)
  | _ => false
def isCodeD : PyData → Bool
  | .str x => !decide (V.str x = V.str (Str.ofString "")) && madeOf x sSigns
  | _ => false
def isEntryD : PyData → Bool
  | .tuple [a, b] => isNameD a && isCodeD b
  | _ => false
/-- the name of an entry -/
def nameD : PyData → Str
  | .tuple (.str x :: _) => x
  | _ => Str.empty
def isBookD : PyData → Bool
  | .list ds => !ds.isEmpty && (ds.all isEntryD && decide ((metKeys (fun i => (ds.map nameD).getD i Str.empty) ds.length).length = ds.length))
  | _ => false
def spIsBook (K : PySem.W.Frag) : Sp := fun vs H Q _ => ∃ (v : V) (d : PyData), vs = [v] ∧ Den K H d v ∧ d.weight ≤ 4000 ∧ SeqAt.shaped d = true ∧ ∀ H', Same H H' → Q (.bl (isBookD d)) H'
def spMade : Sp := fun vs H Q _ => ∃ x y : Str, vs = [.str x, .str y] ∧ x.length ≤ 1000000 ∧ Q (.bl (madeOf x y)) H
/-- a question about data that is answered by the data alone; its texts are no longer than n -/
def spAsk (K : PySem.W.Frag) (f : PyData → Bool) : Sp := fun vs H Q _ => ∃ (v : V) (d : PyData), vs = [v] ∧ Den K H d v ∧ d.weight ≤ 1000000 ∧ ∀ H', Same H H' → Q (.bl (f d)) H'
section
variable {P : Program} {w : World} {K : PySem.W.Frag} {mg : Str → Option Value} {base : Heap} {f : Addr} {fd : FuncData} {t1 t2 t3 : Tok}
theorem sc_made_of : FnScope ["text", "signs"] ["text", "signs"] (defScope (top i_made_of)) := ⟨rfl, rfl, rfl, by decide +kernel, rfl, by decide +kernel, by decide +kernel⟩
theorem ok_made (F : Fun K "made_of" "made_of" (top i_made_of) f fd) (T : Nm mg) : FnOk P w K mg base CX0 1 f fd ["text", "signs"] spMade := by
  refine F.ok sc_made_of (fun vs H Q E h => ?_) (fun cdv A outer s H vs Q E hr h => ?_)
  · obtain ⟨x, y, rfl, _⟩ := h
    rfl
  obtain ⟨x, y, rfl, hx, q⟩ := h
  have hu6 := hr.units
  refine ⟨_, (pss_one (ps_ret (pe_cmpR (eqK K hu6) (bmK K PySem.F.plainAttrs_str PySem.F.slot_str_strip PySem.F.type_str_strip mt_strip1 (pv 0) (pa_cons (pv 1) pa_nil)) pe_str (nomark _)))), ?_⟩
  exact ⟨_, rfl, rfl, _, rfl, x, y, rfl, rfl, sizeOk (Nat.le_trans hx (by decide)), .inl ⟨rfl, q⟩⟩
theorem sc_is_name : FnScope ["thing"] ["thing"] (defScope (top i_is_name)) := ⟨rfl, rfl, rfl, by decide +kernel, rfl, by decide +kernel, by decide +kernel⟩
theorem ok_isname (F : Fun K "is_name" "is_name" (top i_is_name) f fd) (T : Nm mg) (v_LONGEST_NAME : mg "LONGEST_NAME" = some (.int 8 t1)) (v_SMALL_LETTERS : mg "SMALL_LETTERS" = some (.str sSmall t2)) (f_made_of : Fn P w K mg base 1 "made_of" ["text", "signs"] spMade) : FnOk P w K mg base CX0 2 f fd ["thing"] (spAsk K isNameD) := by
  refine F.ok sc_is_name (fun vs H Q E h => ?_) (fun cdv A outer s H vs Q E hr h => ?_)
  · obtain ⟨v, d, rfl, _⟩ := h
    rfl
  obtain ⟨v, d, rfl, hd, hw, q⟩ := h
  have hu6 := hr.units
  have hq := q H (Same.refl _)
  refine ⟨_, (pss_one (ps_ret (pe_and (pe_callB (isiK K) rfl T.n_isinstance (by rfl) (pa_cons (pv 0) (pa_cons (pe_bltn rfl T.n_str (by rfl) (v := .ty "str") rfl) pa_nil))) (pe_and (pe_chain op_le op_le pe_int (pe_callB (lenK K) rfl T.n_len (by rfl) (pa_cons (pv 0) pa_nil)) (pe_gint rfl v_LONGEST_NAME)) (pe_one (pe_fn (f_made_of.mono (by first | decide | exact Nat.le_refl _)) hr rfl (pa_cons (pv 0) (pa_cons (pe_gstr rfl v_SMALL_LETTERS) pa_nil)))))))), ?_⟩
  refine ⟨_, rfl, .inl ⟨_, "str", d, _, rfl, hd, (kitT K d).2.2.1, _, rfl, ?_⟩⟩
  cases d with
  | str x =>
    have e := hd
    unfold Den at e
    subst e
    have hxl : x.length ≤ 1000000 := hw
    refine iteT ⟨_, rfl, _, _, rfl, ⟨sizeOk (Nat.le_trans hxl (by decide)), rfl⟩, _, _, rfl, rfl, _, rfl, ?_⟩
    have hq : Q (.bl (decide ((1 : Int) ≤ (x.length : Nat)) && (decide (((x.length : Nat) : Int) ≤ 8) && madeOf x sSmall))) H := hq
    refine ite2 (fun c1 => ?_) (fun c1 => ?_)
    · rw [c1, Bool.true_and] at hq
      refine ⟨_, _, rfl, rfl, _, rfl, ite2 (fun c2 => ?_) (fun c2 => ?_)⟩
      · rw [c2, Bool.true_and] at hq
        exact ⟨_, rfl, x, _, rfl, hxl, hq⟩
      · rw [Bool.eq_false_iff.mpr c2, Bool.false_and] at hq
        exact hq
    · rw [Bool.eq_false_iff.mpr c1, Bool.false_and] at hq
      exact ⟨_, rfl, iteF hq⟩
  | _ => exact iteF hq
theorem sc_is_code : FnScope ["thing"] ["thing"] (defScope (top i_is_code)) := ⟨rfl, rfl, rfl, by decide +kernel, rfl, by decide +kernel, by decide +kernel⟩
theorem ok_iscode (F : Fun K "is_code" "is_code" (top i_is_code) f fd) (T : Nm mg) (v_SIGNS : mg "SIGNS" = some (.str sSigns t3)) (f_made_of : Fn P w K mg base 1 "made_of" ["text", "signs"] spMade) : FnOk P w K mg base CX0 2 f fd ["thing"] (spAsk K isCodeD) := by
  refine F.ok sc_is_code (fun vs H Q E h => ?_) (fun cdv A outer s H vs Q E hr h => ?_)
  · obtain ⟨v, d, rfl, _⟩ := h
    rfl
  obtain ⟨v, d, rfl, hd, hw, q⟩ := h
  have hu6 := hr.units
  have hq := q H (Same.refl _)
  refine ⟨_, (pss_one (ps_ret (pe_and (pe_callB (isiK K) rfl T.n_isinstance (by rfl) (pa_cons (pv 0) (pa_cons (pe_bltn rfl T.n_str (by rfl) (v := .ty "str") rfl) pa_nil))) (pe_and (pe_cmpR (neK K hu6) (pv 0) pe_str (nomark _)) (pe_one (pe_fn (f_made_of.mono (by first | decide | exact Nat.le_refl _)) hr rfl (pa_cons (pv 0) (pa_cons (pe_gstr rfl v_SIGNS) pa_nil)))))))), ?_⟩
  refine ⟨_, rfl, .inl ⟨_, "str", d, _, rfl, hd, (kitT K d).2.2.1, _, rfl, ?_⟩⟩
  cases d with
  | str x =>
    have e := hd
    unfold Den at e
    subst e
    have hxl : x.length ≤ 1000000 := hw
    have hq : Q (.bl (!decide (V.str x = V.str (Str.ofString "")) && madeOf x sSigns)) H := hq
    refine iteT ⟨_, rfl, .inl ⟨rfl, _, rfl, ite2 (fun c1 => ?_) (fun c1 => ?_)⟩⟩
    · rw [c1, Bool.true_and] at hq
      exact ⟨_, rfl, x, _, rfl, hxl, hq⟩
    · rw [Bool.eq_false_iff.mpr c1, Bool.false_and] at hq
      exact hq
  | _ => exact iteF hq
theorem sc_is_entry : FnScope ["thing"] ["thing"] (defScope (top i_is_entry)) := ⟨rfl, rfl, rfl, by decide +kernel, rfl, by decide +kernel, by decide +kernel⟩
theorem ok_isentry (F : Fun K "is_entry" "is_entry" (top i_is_entry) f fd) (T : Nm mg) (f_is_name : Fn P w K mg base 2 "is_name" ["thing"] (spAsk K isNameD)) (f_is_code : Fn P w K mg base 2 "is_code" ["thing"] (spAsk K isCodeD)) : FnOk P w K mg base CX0 3 f fd ["thing"] (spAsk K isEntryD) := by
  refine F.ok sc_is_entry (fun vs H Q E h => ?_) (fun cdv A outer s H vs Q E hr h => ?_)
  · obtain ⟨v, d, rfl, _⟩ := h
    rfl
  obtain ⟨v, d, rfl, hd, hw, q⟩ := h
  have hu6 := hr.units
  refine ⟨_, (pss_one (ps_ret (pe_and (pe_callB (isiK K) rfl T.n_isinstance (by rfl) (pa_cons (pv 0) (pa_cons (pe_bltn rfl T.n_tuple (by rfl) (v := .ty "tuple") rfl) pa_nil))) (pe_and (pe_cmpR (eqK K hu6) (pe_callB (lenK K) rfl T.n_len (by rfl) (pa_cons (pv 0) pa_nil)) pe_int (nomark _)) (pe_and (pe_fn (f_is_name.mono (by first | decide | exact Nat.le_refl _)) hr rfl (pa_cons (pe_ix (ixK K) (pv 0) pe_int (fun _ _ => rfl)) pa_nil)) (pe_one (pe_fn (f_is_code.mono (by first | decide | exact Nat.le_refl _)) hr rfl (pa_cons (pe_ix (ixK K) (pv 0) pe_int (fun _ _ => rfl)) pa_nil)))))))), ?_⟩
  refine ⟨_, rfl, .inl ⟨_, "tuple", d, _, rfl, hd, (kitT K d).2.2.2.2, _, rfl, ?_⟩⟩
  cases d with
  | tuple ds =>
    have e := hd
    unfold Den at e
    obtain ⟨a, us, rfl, hT, hds⟩ := e
    have hl := hds.len
    refine iteT ⟨_, rfl, _, _, rfl, .inr ⟨_, hT, rfl⟩, .inl ⟨rfl, _, rfl, ite2 (fun c1 => ?_) (fun c1 => ?_)⟩⟩
    · have c1 : V.int ((us.length : Nat) : Int) = V.int 2 := of_decide_eq_true c1
      have c1 : us.length = 2 := by injection c1 with c1; omega
      rw [hl] at c1
      match ds, c1, hds, hw, q with
      | [d1, d2], _, hds, hw, q =>
        unfold Dens at hds
        obtain ⟨v1, r1, rfl, h1, hds⟩ := hds
        unfold Dens at hds
        obtain ⟨v2, r2, rfl, h2, hds⟩ := hds
        unfold Dens at hds
        subst hds
        have hw : PyData.weight d1 + 1 + (PyData.weight d2 + 1 + 0) ≤ 1000000 := by simpa only [PyData.weight, PyData.weightAll] using hw
        have q : ∀ H', Same H H' → Q (.bl (isNameD d1 && isCodeD d2)) H' := q
        refine ⟨_, rfl, .inr (.inl ⟨a, _, 0, _, rfl, rfl, hT, rfl, v1, d1, rfl, h1, by omega, fun H1 sm1 => ⟨_, rfl, ite2 (fun c2 => ?_) (fun c2 => ?_)⟩⟩)⟩
        · refine ⟨_, rfl, .inr (.inl ⟨a, _, 1, _, rfl, rfl, sm1.seqT hT, rfl, v2, d2, rfl, h2.same sm1, by omega, fun H2 sm2 => ?_⟩)⟩
          have z := q H2 (sm1.trans sm2)
          rw [c2, Bool.true_and] at z
          exact z
        · have z := q H1 sm1
          rw [Bool.eq_false_iff.mpr c2, Bool.false_and] at z
          exact z
    · have c1 : ¬ (V.int ((us.length : Nat) : Int) = V.int 2) := of_decide_eq_false (Bool.eq_false_iff.mpr c1)
      have z := q H (Same.refl _)
      have e : isEntryD (.tuple ds) = false := by
        match ds, hl with
        | [], _ => rfl
        | [_], _ => rfl
        | [_, _], hl => exact absurd (by rw [hl]; rfl) c1
        | _ :: _ :: _ :: _, _ => rfl
      rw [e] at z
      exact z
  | _ => exact iteF (q H (Same.refl _))
theorem name_str {d : PyData} (h : isNameD d = true) : ∃ x, d = .str x := by
  cases d <;> first | exact ⟨_, rfl⟩ | (simp [isNameD] at h)
theorem code_str {d : PyData} (h : isCodeD d = true) : ∃ x, d = .str x := by
  cases d <;> first | exact ⟨_, rfl⟩ | (simp [isCodeD] at h)
theorem entry_of {d : PyData} (h : isEntryD d = true) : ∃ x y : Str, d = .tuple [.str x, .str y] := by
  cases d with
  | tuple ds =>
    match ds, h with
    | [], h => simp [isEntryD] at h
    | [_], h => simp [isEntryD] at h
    | [a, b], h =>
      have h : (isNameD a && isCodeD b) = true := h
      rw [Bool.and_eq_true] at h
      obtain ⟨x, rfl⟩ := name_str h.1
      obtain ⟨y, rfl⟩ := code_str h.2
      exact ⟨x, y, rfl⟩
    | _ :: _ :: _ :: _, h => simp [isEntryD] at h
  | _ => simp [isEntryD] at h
theorem eqv_nil (ds : List PyData) : PyData.eqv (.list ds) (.list []) = ds.isEmpty := by
  cases ds <;> simp [PyData.eqv, PyData.eqvAll]
theorem sc_is_book : FnScope ["thing"] ["thing"] (defScope (top i_is_book)) := ⟨rfl, rfl, rfl, by decide +kernel, rfl, by decide +kernel, by decide +kernel⟩
theorem ok_isbook (F : Fun K "is_book" "is_book" (top i_is_book) f fd) (T : Nm mg) (f_is_entry : Fn P w K mg base 3 "is_entry" ["thing"] (spAsk K isEntryD)) : FnOk P w K mg base CX0 4 f fd ["thing"] (spIsBook K) := by
  refine F.ok sc_is_book (fun vs H Q E h => ?_) (fun cdv A outer s H vs Q E hr h => ?_)
  · obtain ⟨v, d, rfl, _⟩ := h
    rfl
  obtain ⟨v, d, rfl, hd, hw, hsh, q⟩ := h
  have hu6 := hr.units
  refine ⟨_, (pss_cons (ps_if (PW.pt (pw_or (pt_not (pt_val (pe_callB (isiK K) rfl T.n_isinstance (by rfl) (pa_cons (pv 0) (pa_cons (pe_bltn rfl T.n_list (by rfl) (v := .ty "list") rfl) pa_nil))))) (pw_or1 (pt_cmpR (eqK K hu6) (pv 0) (lstN pa_nil) (nomark _))))) (pss_one (ps_ret pe_bl)) pss_nil)
    (pss_cons (ps_if (pt_not (pt_val (pe_callB (call_all_bl rfl) rfl T.n_all (by rfl) (pa_cons (pe_lcomp rfl (comp_ok (Nc := ["part"]) (Fc := []) (js := [])) (piK K (pv 0)) (gk_name (i := 0) (n := 1) (by decide)) (fun _ _ _ _ _ => (pg_name (i := 0) (show (["part"] : List Str).Nodup by decide +kernel) rfl (Or.inl rfl))) (fun _ _ _ _ _ => pts_nil) (fun _ _ _ _ _ => (pe_fn (f_is_entry.mono (by first | decide | exact Nat.le_refl _)) hr rfl (pa_cons (pv 0) pa_nil)))) pa_nil)))) (pss_one (ps_ret pe_bl)) pss_nil)
    (pss_one (ps_ret (pe_cmpR (eqK K hu6) (pe_callB (call_lenK (strV P w)) rfl T.n_len (by rfl) (pa_cons (pe_scomp (strV P w) rfl (comp_ok (Nc := ["name", "code"]) (Fc := []) (js := [])) (piK K (pv 0)) (gk_tup (gks_cons (gk_name (i := 0) (n := 2) (by decide)) (gks_cons (gk_name (i := 1) (n := 2) (by decide)) gks_nil gm_name gms_nil) gm_name (gms_cons gm_name gms_nil))) (fun _ _ _ _ _ => (tupK K 2 rfl (pgs_cons (pg_name (i := 0) (show (["name", "code"] : List Str).Nodup by decide +kernel) rfl (Or.inl rfl)) (pgs_cons (pg_name (i := 1) (show (["name", "code"] : List Str).Nodup by decide +kernel) rfl (Or.inl rfl)) pgs_nil)))) (fun _ _ _ _ _ => pts_nil) (fun _ _ _ _ _ => (pv 0))) pa_nil)) (pe_callB (lenK K) rfl T.n_len (by rfl) (pa_cons (pv 0) pa_nil)) (nomark _)))))), ?_⟩
  refine ⟨_, rfl, .inl ⟨_, "list", d, _, rfl, hd, (kitT K d).2.2.2.1, _, rfl, ?_⟩⟩
  cases d with
  | list ds =>
    have e := hd
    unfold Den at e
    obtain ⟨a, us, rfl, hS, hds⟩ := e
    have hl := hds.len
    have hwt : PyData.weightAll ds ≤ 4000 := by simpa only [PyData.weight] using hw
    refine iteF ⟨_, rfl, by show 0 ≤ sizeLine; decide, fun pe H1 n1 => ?_⟩
    have den0 : Den K H1 (.list []) (.ref pe) := Den.list (SqL.of n1.at) (Den.strs [])
    refine .inr ⟨_, _, hd.same n1.same, den0, hsh, by decide +kernel, _, rfl, ?_⟩
    rw [eqv_nil]
    cases hem : ds.isEmpty with
    | true =>
      have z := q H1 n1.same
      have e : isBookD (.list ds) = false := by simp [isBookD, hem]
      rw [e] at z
      exact iteT z
    | false =>
      refine iteF ?_
      have hS1 := n1.same.seq hS
      have hds1 := hds.same n1.same
      have lw := len_weight ds
      refine ⟨_, rfl, a, rfl, ⟨_, hS1⟩, ?_⟩
      refine comp_go (N := ds.length) (fun i ys H' => Same H1 H' ∧ ys = ((ds.take i).map isEntryD).map V.bl) ⟨Same.refl _, rfl⟩ ?_ ?_
      · rintro i ys H2 Nx hi ⟨sm2, rfl⟩ nx
        obtain ⟨x, hx, dx⟩ := hds1.get (i := i) (List.getElem?_eq_getElem hi)
        refine ⟨⟨_, _, sm2.seq hS1, hx⟩, Nat.lt_of_le_of_lt (show _ ≤ 4000 by rw [List.length_map, List.length_map, List.length_take]; omega) (by decide), ?_⟩
        rintro x' H3 ⟨rfl, hy⟩
        have e := hy _ (sm2.seq hS1)
        rw [hx] at e; cases e
        refine gn ⟨_, rfl, _, _, rfl, dx.same sm2, Nat.le_trans (weight_at (n := 4000) hwt (List.getElem_mem hi)) (by decide), fun H4 sm4 => nx _ _ ⟨sm2.trans sm4, ?_⟩⟩
        rw [List.take_succ_eq_append_getElem hi, List.map_append, List.map_append]
        rfl
      · rintro ys H2 ⟨sm2, rfl⟩
        refine ⟨⟨_, sm2.seq hS1, by rw [hl]; exact Nat.le_refl _⟩, fun p hp => ?_⟩
        rw [List.take_length]
        refine ⟨p, _, rfl, SqL.of upd_same, _, rfl, ?_⟩
        have smp : Same H1 (upd H2 p (.lst ((ds.map isEntryD).map V.bl))) := sm2.trans (same_new hp _)
        have eall : (ds.map isEntryD).any id = ds.any isEntryD := by rw [List.any_map]; rfl
        have eall : (ds.map isEntryD).all id = ds.all isEntryD := by rw [List.all_map]; rfl
        rw [eall]
        cases hall : ds.all isEntryD with
        | false =>
          have z := q _ (n1.same.trans smp)
          have e : isBookD (.list ds) = false := by simp [isBookD, hem, hall]
          rw [e] at z
          exact iteT z
        | true =>
          refine iteF ?_
          generalize upd H2 p (.lst ((ds.map isEntryD).map V.bl)) = H3 at smp
          have ent : ∀ i (hi : i < ds.length), ∃ x y : Str, ds[i] = .tuple [.str x, .str y] := fun i hi => entry_of (List.all_eq_true.mp hall _ (List.getElem_mem hi))
          refine ⟨_, rfl, a, rfl, ⟨_, smp.seq hS1⟩, fun D hD => ?_⟩
          refine scomp_go (N := ds.length) (fun i H' => H' D = some (setK (strV P w) D (metKeys (fun i => (ds.map nameD).getD i Str.empty) i)) ∧ ∀ a u, a ≠ D → H3 a = some u → H' a = some u) ⟨upd_same, fun a u h e => by rw [upd_ne h]; exact e⟩ ?_ ?_
          · rintro i H4 Nx hi ⟨hD4, kp⟩ nx
            obtain ⟨x, hx, dx⟩ := (hds1.same smp).get (i := i) (List.getElem?_eq_getElem hi)
            obtain ⟨nm, cd, ed⟩ := ent i hi
            rw [ed] at dx
            obtain ⟨pa, rfl, hT⟩ := dx.pair
            have sm4 : Same H3 H4 := fun a u e => kp a u (ne_of_none e hD) e
            refine ⟨⟨_, _, sm4.seq (smp.seq hS1), hx⟩, ?_⟩
            rintro x' H5 ⟨rfl, hy⟩
            have e := hy _ (sm4.seq (smp.seq hS1))
            rw [hx] at e; cases e
            have enm : (ds.map nameD).getD i Str.empty = nm := by
              rw [show (ds.map nameD).getD i Str.empty = ((ds.map nameD)[i]?).getD Str.empty from rfl, List.getElem?_map, List.getElem?_eq_getElem hi, ed]
              rfl
            have ml := metKeys_le (fun i => (ds.map nameD).getD i Str.empty) i
            refine ⟨pa, _, rfl, sm4.seqT hT, rfl, _, _, rfl, _, _, rfl, rfl, _, rfl, _, nm, hD4, rfl, by omega, nx _ ⟨?_, fun a u h e => ?_⟩⟩
            · rw [upd_same]
              show _ = some (setK (strV P w) D (oneMore (metKeys (fun i => (ds.map nameD).getD i Str.empty) i) ((ds.map nameD).getD i Str.empty)))
              rw [enm]
              rfl
            · rw [upd_ne h]
              exact kp a u h e
          · rintro H4 ⟨hD4, kp⟩
            have sm4 : Same H3 H4 := fun a u e => kp a u (ne_of_none e hD) e
            refine ⟨⟨_, sm4.seq (smp.seq hS1), by rw [hl]; exact Nat.le_refl _⟩, ?_⟩
            refine ⟨D, _, rfl, hD4, _, rfl, _, _, rfl, .inl ⟨_, sm4.seq (smp.seq hS1), rfl⟩, .inl ⟨rfl, ?_⟩⟩
            have z := q H4 (n1.same.trans (smp.trans sm4))
            have e : isBookD (.list ds) = decide (V.int ((metKeys (fun i => (ds.map nameD).getD i Str.empty) ds.length).length : Nat) = V.int (us.length : Nat)) := by
              show (!ds.isEmpty && (ds.all isEntryD && decide ((metKeys (fun i => (ds.map nameD).getD i Str.empty) ds.length).length = ds.length))) = _
              rw [hem, hall, Bool.not_false, Bool.true_and, Bool.true_and, Bool.eq_iff_iff, decide_eq_true_iff, decide_eq_true_iff, hl]
              constructor
              · intro z; rw [z]
              · intro z; injection z with z; omega
            rw [e] at z
            exact z
  | _ => exact iteT (q H (Same.refl _))
end
end Z

set_option Elab.async false
set_option linter.all false
set_option maxRecDepth 100000
set_option maxHeartbeats 4000000
namespace Z
open PySem L2
def spAny (K : PySem.W.Frag) : Sp := fun vs H Q _ => ∃ (b c : Addr) (t : Int), vs = [.ref b] ∧ Bx H b c t ∧ 0 ≤ t ∧ t < 900000 ∧
  ∀ (bk : List (Str × Str)) (v : V) (H' : Hp) (t' : Int), BookOk 24 bk → bk.length ≤ 10 → Drawn bk → BookAt K (hid H' b c) bk v → Step b c H H' t t' 2000 → Q v H'
theorem ne_nil_eq (cs : List Str) : (!PyData.eqv (.list (cs.map PyData.str)) (.list [])) = !cs.isEmpty := by
  cases cs <;> simp [PyData.eqv, PyData.eqvAll]
section
variable {P : Program} {w : World} {K : PySem.W.Frag} {mg : Str → Option Value} {base : Heap} {f : Addr} {fd : FuncData}
theorem sc_law_any_book : FnScope ["_law_box", "_law_names_here", "_law_codes", "_law_name", "_law_way"] ["_law_box"] (defScope (top i_law_any_book)) := ⟨rfl, rfl, rfl, by decide +kernel, rfl, by decide +kernel, by decide +kernel⟩
theorem ok_any (F : Fun K "_law_any_book" "_law_any_book" (top i_law_any_book) f fd) (T : Nm mg) (f_law_take : Fn P w K mg base 1 "_law_take" ["_law_box", "_law_many"] spTk) (f_law_signs : Fn P w K mg base 2 "_law_signs" ["_law_box", "_law_many"] spSg) (f_law_names : Fn P w K mg base 2 "_law_names" ["_law_box", "_law_many"] spNames) : FnOk P w K mg base CX0 3 f fd ["_law_box"] (spAny K) := by
  refine F.ok sc_law_any_book (fun vs H Q E h => ?_) (fun cdv A outer s H vs Q E hr h => ?_)
  · obtain ⟨b, c, t, rfl, _⟩ := h
    rfl
  obtain ⟨b, c, t, rfl, bx, t0, t1, q⟩ := h
  have hu6 := hr.units
  refine ⟨_, (pss_cons (ps_set (i := 1) sc_law_any_book.nd rfl (Or.inl rfl) (pe_fn (f_law_names.mono (by first | decide | exact Nat.le_refl _)) hr rfl (pa_cons (pv 0) (pa_cons (pe_op addN pe_int (pe_fn (f_law_take.mono (by first | decide | exact Nat.le_refl _)) hr rfl (pa_cons (pv 0) (pa_cons pe_int pa_nil)))) pa_nil))))
    (pss_cons (ps_set (i := 2) sc_law_any_book.nd rfl (Or.inl rfl) (lstN pa_nil))
    (pss_cons (ps_for PassesOwn.never rfl (piK K (pv 1)) (pg_name (i := 3) sc_law_any_book.nd rfl (Or.inl rfl)) (pss_cons (ps_set (i := 4) sc_law_any_book.nd rfl (Or.inl rfl) (pe_fn (f_law_take.mono (by first | decide | exact Nat.le_refl _)) hr rfl (pa_cons (pv 0) (pa_cons pe_int pa_nil))))
    (pss_one (ps_if (PW.pt (pw_and (pt_cmpR (neK K hu6) (pv 2) (lstN pa_nil) (nomark _)) (pw_and1 (pt_cmpR (eqK K hu6) (pv 4) pe_int (nomark _))))) (pss_one (ps_expr (bmK K PySem.F.plainAttrs_list PySem.F.slot_list_append PySem.F.type_list_append appendN (pv 2) (pa_cons (pe_ix (ixK K) (pv 2) (pe_fn (f_law_take.mono (by first | decide | exact Nat.le_refl _)) hr rfl (pa_cons (pv 0) (pa_cons (pe_callB (lenK K) rfl T.n_len (by rfl) (pa_cons (pv 2) pa_nil)) pa_nil))) (fun _ _ => rfl)) pa_nil)))) (pss_one (ps_if (PW.pt (pw_and (pt_cmpR (neK K hu6) (pv 2) (lstN pa_nil) (nomark _)) (pw_and1 (pt_cmpR (eqK K hu6) (pv 4) pe_int (nomark _))))) (pss_one (ps_expr (bmK K PySem.F.plainAttrs_list PySem.F.slot_list_append PySem.F.type_list_append appendN (pv 2) (pa_cons (pe_op addN (pe_ix (ixK K) (pv 2) (pe_fn (f_law_take.mono (by first | decide | exact Nat.le_refl _)) hr rfl (pa_cons (pv 0) (pa_cons (pe_callB (lenK K) rfl T.n_len (by rfl) (pa_cons (pv 2) pa_nil)) pa_nil))) (fun _ _ => rfl)) (pe_fn (f_law_signs.mono (by first | decide | exact Nat.le_refl _)) hr rfl (pa_cons (pv 0) (pa_cons (pe_op addN pe_int (pe_fn (f_law_take.mono (by first | decide | exact Nat.le_refl _)) hr rfl (pa_cons (pv 0) (pa_cons pe_int pa_nil)))) pa_nil)))) pa_nil)))) (pss_one (ps_expr (bmK K PySem.F.plainAttrs_list PySem.F.slot_list_append PySem.F.type_list_append appendN (pv 2) (pa_cons (pe_fn (f_law_signs.mono (by first | decide | exact Nat.le_refl _)) hr rfl (pa_cons (pv 0) (pa_cons (pe_op addN pe_int (pe_fn (f_law_take.mono (by first | decide | exact Nat.le_refl _)) hr rfl (pa_cons (pv 0) (pa_cons pe_int pa_nil)))) pa_nil))) pa_nil))))))))))
    (pss_one (ps_ret (pe_listzip rfl rfl T.n_list rfl T.n_zip (pa_cons (pv 1) (pa_cons (pv 2) pa_nil)))))))), ?_⟩
  refine ⟨_, rfl, _, rfl, b, c, t, 10, rfl, bx, t0, by omega, by decide, by decide, fun r H1 r0 r1 st1 => ?_⟩
  refine .inl ⟨_, _, rfl, rfl, b, c, t + 1, 1 + r, rfl, st1.bx, by omega, by omega, by omega, by omega, fun xs l H2 t2 g hlen g0 g1 hx st2 hl1 hl2 => ?_⟩
  obtain ⟨lb, lc⟩ := st1.bx.ne_new hl1
  have st2 := st1.trans st2
  refine ⟨by show 0 ≤ sizeLine; decide, fun m H3 n3 => ?_⟩
  have hm : H m = none := st2.fresh bx n3.nn
  obtain ⟨mb, mc⟩ := st2.bx.ne_new n3.nn
  have st3 := st2.newN n3
  have hl3 := n3.same _ _ hl2
  have hml : m ≠ l := Ne.symm (ne_of_none hl2 n3.nn)
  refine ⟨_, rfl, l, rfl, ⟨_, SqL.of hl3⟩, ?_⟩
  refine for_list (K := K) (a := l) (xs := xs.map V.str) (fun i σ H' => ∃ cs t' x3 x4, σ = [some (.ref b), some (.ref l), some (.ref m), x3, x4] ∧ cs.length = i ∧ (∀ (j : Nat) x, cs[j]? = some x → CodeOk (5 + 2 * j) x) ∧
    Step b c H H' t t' (1001 + 20 * i) ∧ H' m = some (.lst (cs.map V.str)) ∧ H' l = some (.lst (xs.map V.str))) ⟨[], _, _, _, rfl, rfl, by simp, by simpa using st3, n3.at, hl3⟩ (fun i σ H' _ ⟨_, _, _, _, _, _, _, _, _, h⟩ => SqL.of h) ?_ ?_
  · rintro i y σ H4 hi ⟨cs, t4, x3, x4, rfl, hcl, hc, st4, hm4, hl4⟩
    have hi' : i < 10 := by
      have := (List.getElem?_eq_some_iff.mp hi).1
      rw [List.length_map] at this
      omega
    have hub := st4.ub
    have hlo := st4.le
    refine ⟨_, rfl, b, c, t4, 6, rfl, st4.bx, by omega, by omega, by decide, by decide, fun way H5 w0 w1 st5 => ?_⟩
    have hm5 := st5.old hm4 mb mc
    have hl5 := st5.old hl4 lb lc
    have st5 := st4.trans st5
    have dn : ∀ (H' : Hp), H' m = some (.lst (cs.map V.str)) → Den K H' (.list (cs.map PyData.str)) (.ref m) := fun H' h => Den.list (SqL.of h) (Den.strs cs)
    have dz : ∀ (H' : Hp) (p : Addr), H' p = some (.lst []) → Den K H' (.list []) (.ref p) := fun H' p h => Den.list (SqL.of h) (by unfold Dens; rfl)
    have sh : SeqAt.shaped (.list (cs.map PyData.str)) = true := (Sh.list (n := 0) fun d hd => by
      obtain ⟨x, hx, rfl⟩ := List.mem_map.mp hd
      obtain ⟨j, hj⟩ := List.mem_iff_getElem?.mp hx
      exact Sh.str (canLay_small fun ch h => by rcases (hc j x hj).bin ch h with e | e <;> omega)).shaped (by decide)
    have sz : SeqAt.shaped (.list []) = true := (Sh.list (n := 0) fun d hd => by simp at hd).shaped (by decide)
    refine ⟨_, rfl, by show 0 ≤ sizeLine; decide, fun p H6 n6 => .inr ⟨_, _, dn _ (n6.same _ _ hm5), dz _ _ n6.at, sh, sz, _, rfl, ?_⟩⟩
    rw [ne_nil_eq]
    by_cases hcs : cs = []
    · have e : (!cs.isEmpty) = false := by rw [hcs]; rfl
      rw [e]
      refine iteF (iteF ?_)
      refine ⟨_, rfl, by show 0 ≤ sizeLine; decide, fun p2 H7 n7 => .inr ⟨_, _, dn _ (n7.same _ _ (n6.same _ _ hm5)), dz _ _ n7.at, sh, sz, _, rfl, ?_⟩⟩
      rw [ne_nil_eq, e]
      refine iteF (iteF ?_)
      have st7 := (st5.newN n6).newN n7
      have hm7 := n7.same _ _ (n6.same _ _ hm5)
      have hl7 := n7.same _ _ (n6.same _ _ hl5)
      clear n7 n6
      have hub7 := st7.ub
      have hlo7 := st7.le
      refine ⟨_, rfl, .inl ⟨rfl, _, SqL.of hm7⟩, _, rfl, _, rfl, b, c, _, 5, rfl, st7.bx, by omega, by omega, by decide, by decide, fun k H8 k0 k1 st8 => ?_⟩
      refine .inl ⟨_, _, rfl, rfl, b, c, _, 1 + k, rfl, st8.bx, by omega, by omega, by omega, by omega, fun x H9 t9 hxl hxb st9 => ?_⟩
      have st89 := st8.trans st9
      refine ⟨m, _, _, rfl, rfl, st89.old hm7 mb mc, by rw [List.length_map, hcl]; exact Nat.lt_of_lt_of_le (show i < 1000 by omega) (by decide), fun H10 c10 => ?_⟩
      refine ⟨cs ++ [x], t9, _, _, rfl, by rw [List.length_append, hcl]; rfl, snoc hc hcl ⟨hxb, by omega, by omega⟩, ((st7.trans st89).chgN c10 hm mb mc).more (by omega), by rw [c10.at, List.map_append]; rfl, ?_⟩
      rw [c10.ne (Ne.symm hml)]
      exact st89.old hl7 lb lc
    · have e : (!cs.isEmpty) = true := by cases cs with
        | nil => exact absurd rfl hcs
        | cons _ _ => rfl
      have hpos : 0 < cs.length := List.length_pos_iff.mpr hcs
      rw [e]
      refine iteT ⟨_, rfl, .inl ⟨rfl, _, rfl, ite2 (fun c0 => ?_) (fun c0 => ?_)⟩⟩
      · have st6 := st5.newN n6
        have hm6 := n6.same _ _ hm5
        have hl6 := n6.same _ _ hl5
        have hub6 := st6.ub
        have hlo6 := st6.le
        refine ⟨_, rfl, .inl ⟨rfl, _, SqL.of hm6⟩, _, rfl, _, rfl, _, rfl, _, _, rfl, .inl ⟨_, SqL.of hm6, rfl⟩, b, c, _, _, rfl, st6.bx, by omega, by omega, by rw [List.length_map]; omega, by rw [List.length_map]; omega, fun k H8 k0 k1 st8 => ?_⟩
        rw [List.length_map] at k1
        obtain ⟨y0, hk⟩ : ∃ y0, cs[k.toNat]? = some y0 := ⟨_, List.getElem?_eq_getElem (by omega)⟩
        refine .inl ⟨m, _, k, .str y0, rfl, rfl, SqL.of (st8.old hm6 mb mc), at_nat k0 (by rw [List.getElem?_map, hk]; rfl), ?_⟩
        refine ⟨m, _, _, rfl, rfl, st8.old hm6 mb mc, by rw [List.length_map, hcl]; exact Nat.lt_of_lt_of_le (show i < 1000 by omega) (by decide), fun H10 c10 => ?_⟩
        refine ⟨cs ++ [y0], _, _, _, rfl, by rw [List.length_append, hcl]; rfl, snoc hc hcl ((hc _ _ hk).mono (by omega)), ((st6.trans st8).chgN c10 hm mb mc).more (by omega), by rw [c10.at, List.map_append]; rfl, ?_⟩
        rw [c10.ne (Ne.symm hml)]
        exact st8.old hl6 lb lc
      · refine ⟨_, rfl, by show 0 ≤ sizeLine; decide, fun p2 H7 n7 => .inr ⟨_, _, dn _ (n7.same _ _ (n6.same _ _ hm5)), dz _ _ n7.at, sh, sz, _, rfl, ?_⟩⟩
        rw [ne_nil_eq, e]
        have st7 := (st5.newN n6).newN n7
        have hm7 := n7.same _ _ (n6.same _ _ hm5)
        have hl7 := n7.same _ _ (n6.same _ _ hl5)
        clear n7 n6
        refine iteT ⟨_, rfl, .inl ⟨rfl, _, rfl, ite2 (fun c1 => ?_) (fun c1 => ?_)⟩⟩
        · have hub7 := st7.ub
          have hlo7 := st7.le
          refine ⟨_, rfl, .inl ⟨rfl, _, SqL.of hm7⟩, _, rfl, _, rfl, _, rfl, _, _, rfl, .inl ⟨_, SqL.of hm7, rfl⟩, b, c, _, _, rfl, st7.bx, by omega, by omega, by rw [List.length_map]; omega, by rw [List.length_map]; omega, fun k H8 k0 k1 st8 => ?_⟩
          rw [List.length_map] at k1
          obtain ⟨y0, hk⟩ : ∃ y0, cs[k.toNat]? = some y0 := ⟨_, List.getElem?_eq_getElem (by omega)⟩
          have ck := (hc _ _ hk).mono (m := 5 + 2 * (i - 1)) (by omega)
          refine .inl ⟨m, _, k, .str y0, rfl, rfl, SqL.of (st8.old hm7 mb mc), at_nat k0 (by rw [List.getElem?_map, hk]; rfl), ?_⟩
          refine ⟨_, rfl, _, rfl, b, c, _, 2, rfl, st8.bx, by omega, by omega, by decide, by decide, fun d H9 d0 d1 st9 => ?_⟩
          refine .inl ⟨_, _, rfl, rfl, b, c, _, 1 + d, rfl, st9.bx, by omega, by omega, by omega, by omega, fun x H10 t10 hxl hxb st10 => ?_⟩
          have st810 := (st8.trans st9).trans st10
          have lek := ck.le
          have pok := ck.pos
          refine .inr (.inl ⟨_, _, rfl, rfl, sizeOk (by omega), m, _, _, rfl, rfl, st810.old hm7 mb mc, by rw [List.length_map, hcl]; exact Nat.lt_of_lt_of_le (show i < 1000 by omega) (by decide), fun H11 c11 => ?_⟩)
          refine ⟨cs ++ [y0 ++ x], _, _, _, rfl, by rw [List.length_append, hcl]; rfl, snoc hc hcl ⟨ck.bin.app hxb, by rw [len_append]; omega, by rw [len_append]; omega⟩, ((st7.trans st810).chgN c11 hm mb mc).more (by omega), by rw [c11.at, List.map_append]; rfl, ?_⟩
          rw [c11.ne (Ne.symm hml)]
          exact st810.old hl7 lb lc
        · have hub7 := st7.ub
          have hlo7 := st7.le
          refine ⟨_, rfl, .inl ⟨rfl, _, SqL.of hm7⟩, _, rfl, _, rfl, b, c, _, 5, rfl, st7.bx, by omega, by omega, by decide, by decide, fun k H8 k0 k1 st8 => ?_⟩
          refine .inl ⟨_, _, rfl, rfl, b, c, _, 1 + k, rfl, st8.bx, by omega, by omega, by omega, by omega, fun x H9 t9 hxl hxb st9 => ?_⟩
          have st89 := st8.trans st9
          refine ⟨m, _, _, rfl, rfl, st89.old hm7 mb mc, by rw [List.length_map, hcl]; exact Nat.lt_of_lt_of_le (show i < 1000 by omega) (by decide), fun H10 c10 => ?_⟩
          refine ⟨cs ++ [x], t9, _, _, rfl, by rw [List.length_append, hcl]; rfl, snoc hc hcl ⟨hxb, by omega, by omega⟩, ((st7.trans st89).chgN c10 hm mb mc).more (by omega), by rw [c10.at, List.map_append]; rfl, ?_⟩
          rw [c10.ne (Ne.symm hml)]
          exact st89.old hl7 lb lc
  · rintro σ H4 ⟨cs, t4, x3, x4, rfl, hcl, hc, st4, hm4, hl4⟩
    refine ⟨_, rfl, _, rfl, l, m, _, _, rfl, SqL.of hl4, SqL.of hm4, fun H5 p as sm hp hp5 hal hpairs => ?_⟩
    have hnc : xs.length = cs.length := by rw [hcl, List.length_map]
    have lz : (xs.zip cs).length = xs.length := by rw [List.length_zip]; omega
    have gz : ∀ (i : Nat) z, (xs.zip cs)[i]? = some z → xs[i]? = some z.1 ∧ cs[i]? = some z.2 := fun i z h => List.getElem?_zip_eq_some.mp h
    have st5 : Step b c H H5 t t4 (1001 + 20 * (xs.map V.str).length) := (st4.trans (Step.same st4.bx sm)).more (by omega)
    refine q (xs.zip cs) (.ref p) H5 t4 ⟨?_, by omega, fun z hz => ?_, fun z hz => ?_⟩ (by omega) ⟨g, g0, g1, fun i z h => hx i z.1 (gz i z h).1⟩ (book_zip st4.bx hp hp5 hnc hal hpairs) (st5.more (by rw [List.length_map]; omega))
    · intro z
      rw [← List.length_eq_zero_iff] at z
      omega
    · obtain ⟨j, hj⟩ := List.mem_iff_getElem?.mp hz
      exact (hx j z.1 (gz j z hj).1).low
    · obtain ⟨j, hj⟩ := List.mem_iff_getElem?.mp hz
      have hj' := (List.getElem?_eq_some_iff.mp hj).1
      exact (hc j z.2 (gz j z hj).2).mono (by omega)
end
end Z

set_option Elab.async false
set_option linter.all false
set_option maxRecDepth 100000
set_option maxHeartbeats 4000000
namespace Z
open PySem L2
/-- the signs of a text -/
abbrev sg (x : Str) : List Nat := x.cps.toList
/-- neither begins the other -/
def RF (a b : Str) : Prop := ¬ (sg a <+: sg b) ∧ ¬ (sg b <+: sg a)
theorem RF.symm {a b : Str} (h : RF a b) : RF b a := ⟨h.2, h.1⟩
theorem sg_app (x y : Str) : sg (x ++ y) = sg x ++ sg y := str_append_list x y
theorem RF.ext {a b u v : Str} (h : RF a b) : RF (a ++ u) (b ++ v) := by
  refine ⟨fun z => ?_, fun z => ?_⟩
  · rw [sg_app, sg_app] at z
    rcases List.prefix_or_prefix_of_prefix ((List.prefix_append _ _).trans z) (List.prefix_append (sg b) (sg v)) with q | q
    · exact h.1 q
    · exact h.2 q
  · rw [sg_app, sg_app] at z
    rcases List.prefix_or_prefix_of_prefix ((List.prefix_append _ _).trans z) (List.prefix_append (sg a) (sg u)) with q | q
    · exact h.2 q
    · exact h.1 q
/-- free of one another -/
abbrev Free (cs : List Str) : Prop := cs.Pairwise RF
theorem Free.perm {cs ds : List Str} (h : Free cs) (p : cs.Perm ds) : Free ds := (p.pairwise_iff fun h => RF.symm h).mp h
theorem Free.sub {cs ds : List Str} (h : Free cs) (s : ds.Sublist cs) : Free ds := List.Pairwise.sublist s h
abbrev s0 : Str := "0"
abbrev s1 : Str := "1"
theorem RF.two (x : Str) : RF (x ++ s0) (x ++ s1) := by
  have e0 : sg (x ++ s0) = sg x ++ [48] := str_append_list x s0
  have e1 : sg (x ++ s1) = sg x ++ [49] := str_append_list x s1
  refine ⟨fun z => ?_, fun z => ?_⟩
  · rw [e0, e1] at z
    have := z.eq_of_length (by simp)
    simp at this
  · rw [e0, e1] at z
    have := z.eq_of_length (by simp)
    simp at this
theorem RF.one {x y u : Str} (h : RF y x) : RF y (x ++ u) := by
  have z := h.ext (u := Str.empty) (v := u)
  have e : y ++ Str.empty = y := by
    show (⟨y.cps ++ #[]⟩ : Str) = y
    simp
  rw [e] at z
  exact z
/-- one code split into two -/
theorem Free.split {A B : List Str} {x : Str} (h : Free (A ++ x :: B)) : Free (A ++ [x ++ s0, x ++ s1] ++ B) := by
  rw [List.append_assoc]
  obtain ⟨hA, hxB, hAB⟩ := List.pairwise_append.mp h
  obtain ⟨hx, hB⟩ := List.pairwise_cons.mp hxB
  refine List.pairwise_append.mpr ⟨hA, ?_, fun a ha y hy => ?_⟩
  · refine List.pairwise_append.mpr ⟨List.pairwise_cons.mpr ⟨fun y hy => by rw [List.mem_singleton.mp hy]; exact RF.two x, List.pairwise_singleton _ _⟩, hB, fun y hy z hz => ?_⟩
    have q := (hx z hz).symm
    simp at hy
    rcases hy with rfl | rfl
    · exact q.one.symm
    · exact q.one.symm
  · rcases List.mem_append.mp hy with hy | hy
    · have q := hAB a ha x List.mem_cons_self
      simp at hy
      rcases hy with rfl | rfl
      · exact q.one
      · exact q.one
    · exact hAB a ha y (List.mem_cons_of_mem _ hy)
theorem split_at {cs : List Str} {k : Nat} {x : Str} (h : cs[k]? = some x) : cs = cs.take k ++ x :: cs.drop (k + 1) := by
  obtain ⟨hk, e⟩ := List.getElem?_eq_some_iff.mp h
  rw [← e, ← List.drop_eq_getElem_cons hk, List.take_append_drop]
theorem pop_perm {cs : List Str} {k : Nat} {x : Str} (h : cs[k]? = some x) : cs.Perm (x :: cs.eraseIdx k) := by
  have e := split_at h
  have e2 : cs.eraseIdx k = cs.take k ++ cs.drop (k + 1) := List.eraseIdx_eq_take_drop_succ _ _
  rw [e2]
  conv => lhs; rw [e]
  exact List.perm_middle
theorem free0 : Free [s0, s1] := by
  refine List.pairwise_cons.mpr ⟨fun y hy => ?_, List.pairwise_singleton _ _⟩
  rw [List.mem_singleton.mp hy]
  have := RF.two Str.empty
  exact this
end Z

set_option Elab.async false
set_option linter.all false
set_option maxRecDepth 100000
set_option maxHeartbeats 4000000
namespace Z
open PySem L2
def spFC : Sp := fun vs H Q _ => ∃ (b c : Addr) (t many most : Int), vs = [.ref b, .int many, .int most] ∧ Bx H b c t ∧ 0 ≤ t ∧ t < 900000 ∧ 1 ≤ many ∧ many ≤ 50 ∧ 1 ≤ most ∧ most ≤ 24 ∧
  ∀ (cs : List Str) (l : Addr) (H' : Hp) (t' : Int), cs ≠ [] → (cs.length : Int) ≤ many → Free cs → (∀ x ∈ cs, CodeOk most.toNat x) → Step b c H H' t t' 2000 → H l = none → H' l = some (.lst (cs.map V.str)) → Q (.ref l) H'
theorem code0 {n : Nat} (h : 1 ≤ n) : CodeOk n s0 := ⟨fun ch hc => .inl (by have : ch ∈ [48] := hc; simpa using this), by decide +kernel, h⟩
theorem code1 {n : Nat} (h : 1 ≤ n) : CodeOk n s1 := ⟨fun ch hc => .inr (by have : ch ∈ [49] := hc; simpa using this), by decide +kernel, h⟩
theorem CodeOk.app0 {n : Nat} {x : Str} (h : CodeOk n x) (hl : x.length < n) : CodeOk n (x ++ s0) := by
  have e : s0.length = 1 := by decide +kernel
  exact ⟨h.bin.app (code0 (n := 1) (by decide)).bin, by rw [len_append]; omega, by rw [len_append]; omega⟩
theorem CodeOk.app1 {n : Nat} {x : Str} (h : CodeOk n x) (hl : x.length < n) : CodeOk n (x ++ s1) := by
  have e : s1.length = 1 := by decide +kernel
  exact ⟨h.bin.app (code1 (n := 1) (by decide)).bin, by rw [len_append]; omega, by rw [len_append]; omega⟩
theorem erase_map (xs : List Str) (k : Nat) : (xs.map V.str).eraseIdx k = (xs.eraseIdx k).map V.str := by
  rw [List.eraseIdx_eq_take_drop_succ, List.eraseIdx_eq_take_drop_succ, List.map_append, List.map_take, List.map_drop]
theorem Free.longer {fs gs : List Str} (h : Free fs) (hl : gs.length = fs.length) (he : ∀ (j : Nat) y, gs[j]? = some y → ∃ x u, fs[j]? = some x ∧ y = x ++ u) : Free gs := by
  have h := List.pairwise_iff_getElem.mp h
  refine List.pairwise_iff_getElem.mpr fun i j hi hj hij => ?_
  obtain ⟨x, u, hx, ex⟩ := he i gs[i] (List.getElem?_eq_getElem hi)
  obtain ⟨y, v, hy, ey⟩ := he j gs[j] (List.getElem?_eq_getElem hj)
  obtain ⟨hi', rfl⟩ := List.getElem?_eq_some_iff.mp hx
  obtain ⟨hj', rfl⟩ := List.getElem?_eq_some_iff.mp hy
  rw [ex, ey]
  exact (h i j hi' hj' hij).ext
section
variable {P : Program} {w : World} {K : PySem.W.Frag} {mg : Str → Option Value} {base : Heap} {f : Addr} {fd : FuncData}
theorem sc_law_free_codes : FnScope ["_law_box", "_law_many", "_law_most", "_law_codes", "_law_turn", "_law_at", "_law_found"] ["_law_box", "_law_many", "_law_most"] (defScope (top i_law_free_codes)) := ⟨rfl, rfl, rfl, by decide +kernel, rfl, by decide +kernel, by decide +kernel⟩
theorem ok_fcodes (F : Fun K "_law_free_codes" "_law_free_codes" (top i_law_free_codes) f fd) (T : Nm mg) (f_law_take : Fn P w K mg base 1 "_law_take" ["_law_box", "_law_many"] spTk) (f_law_signs : Fn P w K mg base 2 "_law_signs" ["_law_box", "_law_many"] spSg) : FnOk P w K mg base CX0 3 f fd ["_law_box", "_law_many", "_law_most"] spFC := by
  refine F.ok sc_law_free_codes (fun vs H Q E h => ?_) (fun cdv A outer s H vs Q E hr h => ?_)
  · obtain ⟨b, c, t, many, most, rfl, _⟩ := h
    rfl
  obtain ⟨b, c, t, many, most, rfl, bx, t0, t1, m0, m1, o0, o1, q⟩ := h
  have hu6 := hr.units
  refine ⟨_, (pss_cons (ps_set (i := 3) sc_law_free_codes.nd rfl (Or.inr rfl) (lstN (pa_cons pe_str (pa_cons pe_str pa_nil))))
    (pss_cons (ps_for PassesOwn.never rfl (pi_range1 rfl T.n_range (pa_cons (pe_op addN (pe_op mulN pe_int (pv 1)) pe_int) pa_nil)) (pg_name (i := 4) sc_law_free_codes.nd rfl (Or.inl rfl)) (pss_cons (ps_set (i := 5) sc_law_free_codes.nd rfl (Or.inl rfl) (pe_fn (f_law_take.mono (by first | decide | exact Nat.le_refl _)) hr rfl (pa_cons (pv 0) (pa_cons (pe_callB (lenK K) rfl T.n_len (by rfl) (pa_cons (pv 3) pa_nil)) pa_nil))))
    (pss_one (ps_if (PW.pt (pw_and (pt_cmpR op_lt (pe_callB (lenK K) rfl T.n_len (by rfl) (pa_cons (pv 3) pa_nil)) (pe_op addN (pv 1) pe_int) (nomark _)) (pw_and1 (pt_cmpR op_lt (pe_callB (lenK K) rfl T.n_len (by rfl) (pa_cons (pe_ix (ixK K) (pv 3) (pv 5) (fun _ _ => rfl)) pa_nil)) (pv 2) (nomark _))))) (pss_one (ps_set (i := 3) sc_law_free_codes.nd rfl (Or.inr rfl) (pe_op addN (pe_op addN (pe_slice (slN K) (pv 3) po_none (po_some (pv 5))) (lstN (pa_cons (pe_op addN (pe_ix (ixK K) (pv 3) (pv 5) (fun _ _ => rfl)) pe_str) (pa_cons (pe_op addN (pe_ix (ixK K) (pv 3) (pv 5) (fun _ _ => rfl)) pe_str) pa_nil)))) (pe_slice (slN K) (pv 3) (po_some (pe_op addN (pv 5) pe_int)) po_none)))) pss_nil))))
    (pss_cons (ps_while PassesOwn.never (PW.pt (pw_and (pt_cmpR op_gt (pe_callB (lenK K) rfl T.n_len (by rfl) (pa_cons (pv 3) pa_nil)) (pv 1) (nomark _)) (pw_and1 (pt_cmpR op_gt (pe_fn (f_law_take.mono (by first | decide | exact Nat.le_refl _)) hr rfl (pa_cons (pv 0) (pa_cons pe_int pa_nil))) pe_int (nomark _))))) (pss_one (ps_expr (bmK K PySem.F.plainAttrs_list PySem.F.slot_list_pop PySem.F.type_list_pop popAtN (pv 3) (pa_cons (pe_fn (f_law_take.mono (by first | decide | exact Nat.le_refl _)) hr rfl (pa_cons (pv 0) (pa_cons (pe_callB (lenK K) rfl T.n_len (by rfl) (pa_cons (pv 3) pa_nil)) pa_nil))) pa_nil)))))
    (pss_cons (ps_setcomp (i := 6) sc_law_free_codes.nd rfl (Or.inl rfl) rfl (comp_ok (Nc := ["_law_turn"]) (Fc := ["_law_codes", "_law_box"]) (js := [3, 0])) (pi_range1 rfl T.n_range (pa_cons (pe_callB (call_min2 rfl) rfl T.n_min (by rfl) (pa_cons (pv 1) (pa_cons (pe_callB (lenK K) rfl T.n_len (by rfl) (pa_cons (pv 3) pa_nil)) pa_nil))) pa_nil)) (gk_name (i := 0) (n := 1) (by decide)) (fun _ _ _ _ _ => (pg_name (i := 0) (show (["_law_turn", "_law_codes", "_law_box"] : List Str).Nodup by decide +kernel) rfl (Or.inl rfl))) (fun _ _ _ _ _ => pts_nil) (fun _ _ _ _ _ => (bmK K PySem.F.plainAttrs_list PySem.F.slot_list_pop PySem.F.type_list_pop popAtN (pv 1) (pa_cons (pe_fn (f_law_take.mono (by first | decide | exact Nat.le_refl _)) hr rfl (pa_cons (pv 2) (pa_cons (pe_callB (lenK K) rfl T.n_len (by rfl) (pa_cons (pv 1) pa_nil)) pa_nil))) pa_nil))))
    (pss_cons (ps_if (pt_cmpR (eqK K hu6) (pe_fn (f_law_take.mono (by first | decide | exact Nat.le_refl _)) hr rfl (pa_cons (pv 0) (pa_cons pe_int pa_nil))) pe_int (nomark _)) (pss_one (ps_setcomp (i := 6) sc_law_free_codes.nd rfl (Or.inl rfl) rfl (comp_ok (Nc := ["_law_code"]) (Fc := ["_law_box", "_law_most"]) (js := [0, 2])) (piK K (pv 6)) (gk_name (i := 0) (n := 1) (by decide)) (fun _ _ _ _ _ => (pg_name (i := 0) (show (["_law_code", "_law_box", "_law_most"] : List Str).Nodup by decide +kernel) rfl (Or.inl rfl))) (fun _ _ _ _ _ => pts_nil) (fun _ _ _ _ _ => (pe_op addN (pv 0) (pe_fn (f_law_signs.mono (by first | decide | exact Nat.le_refl _)) hr rfl (pa_cons (pv 1) (pa_cons (pe_callB (call_min2 rfl) rfl T.n_min (by rfl) (pa_cons (pe_op op_sub (pv 2) (pe_callB (lenK K) rfl T.n_len (by rfl) (pa_cons (pv 0) pa_nil))) (pa_cons (pe_fn (f_law_take.mono (by first | decide | exact Nat.le_refl _)) hr rfl (pa_cons (pv 1) (pa_cons pe_int pa_nil))) pa_nil))) pa_nil))))))) pss_nil)
    (pss_one (ps_ret (pv 6)))))))), ?_⟩
  refine ⟨by show 2 ≤ sizeLine; decide, fun l1 H1 n1 => ?_⟩
  have z1 : sizeLine ≥ 10000000 := by decide
  refine ⟨_, rfl, .inl ⟨_, _, rfl, rfl, .inl ⟨by decide, by decide⟩, .inl ⟨_, _, rfl, rfl, _, rfl, by omega, by omega, ?_⟩⟩⟩
  refine for_range (lo := 0) (n := (2 * many + 4).toNat) (fun i σ H' => ∃ cs l t' x4 x5, σ = [some (.ref b), some (.int many), some (.int most), some (.ref l), x4, x5, none] ∧ 2 ≤ cs.length ∧ (cs.length : Int) ≤ many + 2 ∧ Free cs ∧ (∀ x ∈ cs, CodeOk most.toNat x) ∧
    Step b c H H' t t' i ∧ H l = none ∧ l ≠ b ∧ l ≠ c ∧ H' l = some (.lst (cs.map V.str))) ⟨[s0, s1], l1, t, _, _, rfl, by decide, by show (2 : Int) ≤ many + 2; omega, free0, ?_, by simpa using (Step.refl bx).newN n1, n1.nn, (bx.ne_new n1.nn).1, (bx.ne_new n1.nn).2, n1.at⟩ ?_ ?_
  · intro x hx
    simp at hx
    rcases hx with rfl | rfl
    · exact code0 (by omega)
    · exact code1 (by omega)
  · rintro i σ H2 hi ⟨cs, l, t2, x4, x5, rfl, hc2, hcm, fr, ok, st2, hl, lb, lc, hl2⟩
    have hub := st2.ub
    have hlo := st2.le
    have hlen : (cs.map V.str).length = cs.length := List.length_map _
    refine ⟨_, rfl, _, rfl, _, _, rfl, .inl ⟨_, SqL.of hl2, rfl⟩, b, c, t2, _, rfl, st2.bx, by omega, by omega, by omega, by omega, fun a H3 a0 a1 st3 => ?_⟩
    have hl3 := st3.old hl2 lb lc
    have st3 := st2.trans st3
    refine ⟨_, rfl, _, _, rfl, .inl ⟨_, SqL.of hl3, rfl⟩, _, rfl, .inl ⟨_, _, rfl, rfl, _, _, rfl, rfl, _, rfl, ?_⟩⟩
    have ub3 := st3.ub
    refine ite2 (fun c1 => ?_) (fun c1 => iteF ⟨cs, l, t2 + 1, _, _, rfl, hc2, hcm, fr, ok, st3.more (by omega), hl, lb, lc, hl3⟩)
    have c1' : (cs.length : Int) < many + 2 := by have := of_decide_eq_true c1; omega
    obtain ⟨x, hx⟩ : ∃ x, cs[a.toNat]? = some x := ⟨_, List.getElem?_eq_getElem (by omega)⟩
    have okx := ok x (List.mem_of_getElem? hx)
    have xle := okx.le
    have hat : atI (cs.map V.str) a = some (.str x) := at_nat a0 (by rw [List.getElem?_map, hx]; rfl)
    refine ⟨_, rfl, _, rfl, .inl ⟨l, _, a, _, rfl, rfl, SqL.of hl3, hat, _, _, rfl, ⟨sizeOk (by omega), rfl⟩, _, rfl, _, _, rfl, rfl, _, rfl, ?_⟩⟩
    refine ite2 (fun c2 => ?_) (fun c2 => ⟨cs, l, t2 + 1, _, _, rfl, hc2, hcm, fr, ok, st3.more (by omega), hl, lb, lc, hl3⟩)
    have c2' : x.length < most.toNat := by have := of_decide_eq_true c2; omega
    have ea : ((a.toNat : Nat) : Int) = a := by omega
    have ea1 : ((a.toNat + 1 : Nat) : Int) = a + 1 := by omega
    have cut1 : cutV (cs.map V.str) none (some a) = (cs.take a.toNat).map V.str := by rw [← ea, cut_to, ea, List.map_take]
    have cut2 : cutV (cs.map V.str) (some (a + 1)) none = (cs.drop (a.toNat + 1)).map V.str := by rw [← ea1, cut_from, List.map_drop]
    have e0 : s0.length = 1 := by decide +kernel
    have e1 : s1.length = 1 := by decide +kernel
    refine ⟨_, rfl, _, rfl, a, rfl, .inl ⟨l, _, rfl, SqL.of hl3, fun p1 H4 n4 => ?_⟩⟩
    rw [cut1] at n4
    refine ⟨_, rfl, _, rfl, .inl ⟨l, _, a, _, rfl, rfl, SqL.of (n4.same _ _ hl3), hat, .inr (.inl ⟨_, _, rfl, rfl, sizeOk (by rw [e0]; omega), ?_⟩)⟩⟩
    refine ⟨_, rfl, _, rfl, .inl ⟨l, _, a, _, rfl, rfl, SqL.of (n4.same _ _ hl3), hat, .inr (.inl ⟨_, _, rfl, rfl, sizeOk (by rw [e1]; omega), ?_⟩)⟩⟩
    refine ⟨by show 2 ≤ sizeLine; decide, fun p2 H5 n5 => ?_⟩
    have lt : (cs.take a.toNat).length = a.toNat := by rw [List.length_take]; omega
    have ld : (cs.drop (a.toNat + 1)).length = cs.length - (a.toNat + 1) := List.length_drop
    refine .inr (.inr ⟨p1, p2, _, _, rfl, rfl, n5.same _ _ n4.at, n5.at, by rw [List.length_map, lt]; exact sizeOk (by show a.toNat + 2 ≤ _; omega), fun p3 H6 n6 => ?_⟩)
    have hl6 := n6.same _ _ (n5.same _ _ (n4.same _ _ hl3))
    refine ⟨_, rfl, _, rfl, .inl ⟨_, _, rfl, rfl, _, rfl, .inl ⟨l, _, rfl, SqL.of hl6, fun p4 H7 n7 => ?_⟩⟩⟩
    rw [cut2] at n7
    refine .inr (.inr ⟨p3, p4, _, _, rfl, rfl, n7.same _ _ n6.at, n7.at, ?_, fun p5 H8 n8 => ?_⟩)
    · rw [List.length_append, List.length_map, List.length_map, lt, ld]; exact sizeOk (by show a.toNat + 2 + _ ≤ _; omega)
    have st8 := ((((st3.newN n4).newN n5).newN n6).newN n7)
    have h5 := st8.bx.ne_new n8.nn
    refine ⟨cs.take a.toNat ++ [x ++ s0, x ++ s1] ++ cs.drop (a.toNat + 1), p5, t2 + 1, _, _, rfl, ?_, ?_, ?_, ?_, (st8.newN n8).more (by omega), st8.fresh bx n8.nn, h5.1, h5.2, ?_⟩
    · rw [List.length_append, List.length_append, lt, ld]; simp only [List.length_cons, List.length_nil]; omega
    · rw [List.length_append, List.length_append, lt, ld]; simp only [List.length_cons, List.length_nil]; omega
    · refine Free.split ?_
      rw [← split_at hx]; exact fr
    · intro y hy
      rcases List.mem_append.mp hy with hy | hy
      · rcases List.mem_append.mp hy with hy | hy
        · exact ok y (List.mem_of_mem_take hy)
        · simp at hy
          rcases hy with rfl | rfl
          · exact okx.app0 c2'
          · exact okx.app1 c2'
      · exact ok y (List.mem_of_mem_drop hy)
    · rw [n8.at, List.map_append, List.map_append]; rfl
  · rintro σ H2 ⟨cs, l, t2, x4, x5, rfl, hc2, hcm, fr, ok, st2, hl, lb, lc, hl2⟩
    have st2 : Step b c H H2 t t2 (2 * many + 4) := st2.more (by omega)
    refine seqCut (t := tWhile _ _) (fun σ H' => ∃ cs t', σ = [some (.ref b), some (.int many), some (.int most), some (.ref l), x4, x5, none] ∧ 1 ≤ cs.length ∧ (cs.length : Int) ≤ many + 2 ∧ Free cs ∧ (∀ x ∈ cs, CodeOk most.toNat x) ∧
      Step b c H H' t t' (6 * many + 20) ∧ H' l = some (.lst (cs.map V.str))) (fun Nx nx => ?_) ?_
    · refine whileGo (fun m σ H' => ∃ cs t', m = cs.length ∧ σ = [some (.ref b), some (.int many), some (.int most), some (.ref l), x4, x5, none] ∧ 1 ≤ cs.length ∧ (cs.length : Int) ≤ many + 2 ∧ Free cs ∧ (∀ x ∈ cs, CodeOk most.toNat x) ∧
        Step b c H H' t t' (2 * many + 4 + 2 * (many + 2 - cs.length)) ∧ H' l = some (.lst (cs.map V.str))) ⟨_, cs, t2, rfl, rfl, by omega, hcm, fr, ok, st2.more (by omega), hl2⟩ ?_
      clear fr ok st2 hl2 hcm hc2
      rintro m σ H3 ⟨cs, t3, rfl, rfl, hc1, hcm, fr, ok, st3, hl3⟩
      have hlen : (cs.map V.str).length = cs.length := List.length_map _
      have ub3 := st3.ub
      have lo3 := st3.le
      refine ⟨_, rfl, _, _, rfl, .inl ⟨_, SqL.of hl3, rfl⟩, _, rfl, _, _, rfl, rfl, _, rfl, ?_⟩
      refine ite2 (fun c1 => ?_) (fun c1 => iteF (nx _ _ ⟨cs, t3, rfl, hc1, hcm, fr, ok, st3.more (by omega), hl3⟩))
      have c1' : many < (cs.length : Int) := by have := of_decide_eq_true c1; omega
      refine ⟨_, rfl, b, c, t3, 6, rfl, st3.bx, by omega, by omega, by decide, by decide, fun k H4 k0 k1 st4 => ?_⟩
      have hl4 := st4.old hl3 lb lc
      have st4 := st3.trans st4
      refine ⟨_, _, rfl, rfl, _, rfl, ?_⟩
      refine ite2 (fun c2 => ?_) (fun c2 => nx _ _ ⟨cs, t3 + 1, rfl, hc1, hcm, fr, ok, st4.more (by omega), hl4⟩)
      refine ⟨fun σ' H' => ∃ m', m' < cs.length ∧ _, fun _ _ h => h, ?_⟩
      refine ⟨_, rfl, .inl ⟨rfl, _, SqL.of hl4⟩, _, rfl, _, rfl, _, _, rfl, .inl ⟨_, SqL.of hl4, rfl⟩, b, c, t3 + 1, _, rfl, st4.bx, by omega, by omega, by omega, by omega, fun a H5 a0 a1 st5 => ?_⟩
      have hl5 := st5.old hl4 lb lc
      have st5 := st4.trans st5
      obtain ⟨x, hx⟩ : ∃ x, cs[a.toNat]? = some x := ⟨_, List.getElem?_eq_getElem (by omega)⟩
      refine ⟨l, _, a, _, rfl, rfl, hl5, a0, by omega, by rw [List.getElem?_map, hx]; rfl, fun H6 c6 => ?_⟩
      have le : (cs.eraseIdx a.toNat).length = cs.length - 1 := List.length_eraseIdx_of_lt (by omega)
      refine ⟨(cs.eraseIdx a.toNat).length, by omega, cs.eraseIdx a.toNat, t3 + 1 + 1, rfl, rfl, by omega, by omega, fr.sub (List.eraseIdx_sublist _ _), fun y hy => ok y ((List.eraseIdx_sublist _ _).subset hy), (st5.chgN c6 hl lb lc).more (by omega), ?_⟩
      rw [c6.at]
      congr 2
      exact erase_map _ _
    · clear fr ok st2 hl2 hcm hc2
      rintro σ H3 ⟨cs, t3, rfl, hc1, hcm, fr, ok, st3, hl3⟩
      have hlen : (cs.map V.str).length = cs.length := List.length_map _
      have ub3 := st3.ub
      have lo3 := st3.le
      have mn : (if ((cs.map V.str).length : Int) < many then ((cs.map V.str).length : Int) else many) = min many cs.length := by rw [hlen]; split <;> omega
      refine asgCut (te := tComp _ _ _ _ _ _) (fun v H' => ∃ (fs ds : List Str) (p : Addr) (t' : Int), v = .ref p ∧ fs.length = (min many (cs.length : Int)).toNat ∧ (fs ++ ds).Perm cs ∧ Step b c H H' t t' (6 * many + 20 + 50) ∧ H p = none ∧ p ≠ b ∧ p ≠ c ∧ H' p = some (.lst (fs.map V.str))) (fun Qn qn => ?_) ?_
      · refine ⟨_, rfl, _, rfl, _, _, rfl, .inl ⟨_, SqL.of hl3, rfl⟩, _, _, rfl, _, rfl, by rw [mn]; omega, by rw [mn]; omega, ?_⟩
        rw [mn]
        refine comp_goN (N := (min many (cs.length : Int)).toNat) (fun i ys H' => ∃ fs ds t', ys = fs.map V.str ∧ fs.length = i ∧ ds.length + i = cs.length ∧ (fs ++ ds).Perm cs ∧ Step b c H H' t t' (6 * many + 20 + i) ∧ H' l = some (.lst (ds.map V.str)))
          ⟨[], cs, t3, rfl, rfl, rfl, List.Perm.refl _, by simpa using st3, hl3⟩ ?_ ?_
        · rintro i ys H4 Nx hi ⟨fs, ds, t4, rfl, hfl, hdl, pm, st4, hl4⟩ nx
          have ub4 := st4.ub
          have lo4 := st4.le
          have dlen : (ds.map V.str).length = ds.length := List.length_map _
          refine ⟨hi, by rw [List.length_map, hfl]; omega, ?_⟩
          rintro x H5 ⟨rfl, rfl⟩
          refine ⟨_, rfl, .inl ⟨rfl, _, SqL.of hl4⟩, _, rfl, _, rfl, _, _, rfl, .inl ⟨_, SqL.of hl4, rfl⟩, b, c, t4, _, rfl, st4.bx, by omega, by omega, by omega, by omega, fun a H6 a0 a1 st6 => ?_⟩
          have hl6 := st6.old hl4 lb lc
          have st6 := st4.trans st6
          obtain ⟨x, hx⟩ : ∃ x, ds[a.toNat]? = some x := ⟨_, List.getElem?_eq_getElem (by omega)⟩
          refine ⟨l, _, a, _, rfl, rfl, hl6, a0, by omega, by rw [List.getElem?_map, hx]; rfl, fun H7 c7 => nx _ _ ⟨fs ++ [x], ds.eraseIdx a.toNat, t4 + 1, by rw [List.map_append]; rfl, by rw [List.length_append, hfl]; rfl, ?_, ?_, (st6.chgN c7 hl lb lc).more (by omega), by rw [c7.at, erase_map]⟩⟩
          · rw [List.length_eraseIdx_of_lt (by omega)]; omega
          · refine List.Perm.trans ?_ pm
            rw [List.append_assoc]
            exact List.Perm.append_left fs (pop_perm hx).symm
        · rintro ys H4 ⟨fs, ds, t4, rfl, hfl, hdl, pm, st4, hl4⟩
          exact ⟨Nat.le_refl _, fun p H5 n5 => qn _ _ ⟨fs, ds, p, t4, rfl, hfl, pm, (st4.newN n5).more (by omega), st4.fresh bx n5.nn, (st4.bx.ne_new n5.nn).1, (st4.bx.ne_new n5.nn).2, n5.at⟩⟩
      · rintro v H5 ⟨fs, ds, p, t4, rfl, hfl, pm, st5, hp, pb, pc, hp5⟩
        have ub4 := st5.ub
        have lo4 := st5.le
        have frf : Free fs := (fr.perm pm.symm).sub (List.sublist_append_left _ _)
        have okf : ∀ x ∈ fs, CodeOk most.toNat x := fun x hx => ok x (pm.subset (List.mem_append_left _ hx))
        refine seqCut (t := tIfS _ _ _) (fun σ H' => ∃ gs p' t', σ = [some (.ref b), some (.int many), some (.int most), some (.ref l), x4, x5, some (.ref p')] ∧ gs.length = fs.length ∧ Free gs ∧ (∀ x ∈ gs, CodeOk most.toNat x) ∧
          Step b c H H' t t' 2000 ∧ H p' = none ∧ H' p' = some (.lst (gs.map V.str))) (fun Nx nx => ?_) ?_
        · refine ⟨_, rfl, b, c, t4, 2, rfl, st5.bx, by omega, by omega, by decide, by decide, fun k H6 k0 k1 st6 => .inl ⟨rfl, _, rfl, ?_⟩⟩
          have hp6 := st6.old hp5 pb pc
          have st6 := st5.trans st6
          refine ite2 (fun _ => ?_) (fun _ => nx _ _ ⟨fs, p, t4 + 1, rfl, rfl, frf, okf, st6.more (by omega), hp, hp6⟩)
          refine asgEnd (te := tComp _ _ _ _ _ _) (fun v H' => ∃ (gs : List Str) (p2 : Addr) (t' : Int), v = .ref p2 ∧ gs.length = fs.length ∧ Free gs ∧ (∀ x ∈ gs, CodeOk most.toNat x) ∧ Step b c H H' t t' 2000 ∧ H p2 = none ∧ H' p2 = some (.lst (gs.map V.str))) (fun Qn qn => ?_) (by rintro v H7 ⟨gs, p2, t', rfl, h⟩; exact nx _ _ ⟨gs, p2, t', rfl, h⟩)
          refine ⟨_, rfl, p, rfl, ⟨_, SqL.of hp6⟩, ?_⟩
          refine comp_goN (N := fs.length) (fun i ys H' => ∃ gs t', ys = gs.map V.str ∧ gs.length = i ∧ (∀ (j : Nat) y, gs[j]? = some y → CodeOk most.toNat y ∧ ∃ x u, fs[j]? = some x ∧ y = x ++ u) ∧ Step b c H H' t t' (6 * many + 20 + 50 + 1 + 4 * i) ∧ H' p = some (.lst (fs.map V.str)))
            ⟨[], t4 + 1, rfl, rfl, by simp, st6.more (by omega), hp6⟩ ?_ ?_
          · rintro i ys H7 Nx2 hi ⟨gs, t7, rfl, hgl, hg, st7, hp7⟩ nx2
            have ub7 := st7.ub
            have lo7 := st7.le
            obtain ⟨x, hx⟩ : ∃ x, fs[i]? = some x := ⟨_, List.getElem?_eq_getElem hi⟩
            have okx := okf x (List.mem_of_getElem? hx)
            have xle := okx.le
            have xpos := okx.pos
            refine ⟨⟨_, _, SqL.of hp7, by rw [List.getElem?_map, hx]; rfl⟩, by rw [List.length_map, hgl]; omega, ?_⟩
            rintro x' H8 ⟨rfl, hy⟩
            have e := hy _ (SqL.of hp7)
            rw [List.getElem?_map, hx] at e
            cases e
            refine ⟨_, rfl, _, rfl, _, rfl, _, rfl, _, _, rfl, ⟨sizeOk (by omega), rfl⟩, _, _, rfl, rfl, _, rfl, b, c, t7, 3, rfl, st7.bx, by omega, by omega, by decide, by decide, fun d H9 d0 d1 st9 => ?_⟩
            refine ⟨_, _, rfl, b, c, t7 + 1, _, rfl, st9.bx, by omega, by omega, by split <;> omega, by split <;> omega, fun u H10 t10 hul hub st10 => ?_⟩
            have st910 := st9.trans st10
            have hmx : (u.length : Int) ≤ 2 ∧ (u.length : Int) ≤ most - x.length := by
              constructor
              · rw [hul]; split <;> omega
              · rw [hul]; split <;> omega
            have st11 := st7.trans st910
            refine .inr (.inl ⟨_, _, rfl, rfl, sizeOk (by omega), nx2 _ _ ⟨gs ++ [x ++ u], t10, by rw [List.map_append]; rfl, by rw [List.length_append, hgl]; rfl, fun j y hy2 => ?_, st11.more ?_, st910.old hp7 pb pc⟩⟩)
            · by_cases hj : j < gs.length
              · rw [List.getElem?_append_left hj] at hy2
                exact hg j y hy2
              · rw [List.getElem?_append_right (by omega)] at hy2
                have e : j - gs.length = 0 := by
                  have := (List.getElem?_eq_some_iff.mp hy2).1
                  simp at this
                  omega
                rw [e] at hy2
                cases hy2
                have ej : j = i := by omega
                subst ej
                exact ⟨⟨okx.bin.app hub, by rw [len_append]; omega, by rw [len_append]; omega⟩, x, u, hx, rfl⟩
            · rw [← hul]; omega
          · rintro ys H7 ⟨gs, t7, rfl, hgl, hg, st7, hp7⟩
            refine ⟨⟨_, SqL.of hp7, by rw [List.length_map]; exact Nat.le_refl _⟩, fun p2 H8 n8 => qn _ _ ⟨gs, p2, t7, rfl, hgl, frf.longer hgl fun j y hy => (hg j y hy).2, fun y hy => ?_, (st7.newN n8).more (by omega), st7.fresh bx n8.nn, n8.at⟩⟩
            obtain ⟨j, hj⟩ := List.mem_iff_getElem?.mp hy
            exact (hg j y hj).1
        · rintro σ H6 ⟨gs, p2, t6, rfl, hgl, frg, okg, st6, hp2, hp6⟩
          refine ⟨_, rfl, q gs p2 H6 t6 ?_ (by omega) frg okg st6 hp2 hp6⟩
          intro z
          rw [z, List.length_nil] at hgl
          omega
end
end Z

set_option Elab.async false
set_option linter.all false
set_option maxRecDepth 100000
set_option maxHeartbeats 4000000
namespace Z
open PySem L2
def spFB (K : PySem.W.Frag) : Sp := fun vs H Q _ => ∃ (b c : Addr) (t : Int), vs = [.ref b] ∧ Bx H b c t ∧ 0 ≤ t ∧ t < 800000 ∧
  ∀ (bk : List (Str × Str)) (v : V) (H' : Hp) (t' : Int), BookOk 10 bk → bk.length ≤ 16 → Drawn bk → Free (bk.map (·.2)) → BookAt K (hid H' b c) bk v → Step b c H H' t t' 4000 → Q v H'
theorem zip_snd {ns cs : List Str} (h : ns.length = cs.length) : (ns.zip cs).map (·.2) = cs := List.map_snd_zip (by omega)
/-- the facts of a book of drawn names and codes -/
theorem bookOk_zip {n : Nat} {xs cs : List Str} {g : Int} (hl : xs.length = cs.length) (h0 : cs ≠ []) (h60 : cs.length ≤ 60) (hx : ∀ (i : Nat) x, xs[i]? = some x → NameAt g i x) (hc : ∀ x ∈ cs, CodeOk n x) (g0 : 0 ≤ g) (g1 : g < 26) : BookOk n (xs.zip cs) ∧ Drawn (xs.zip cs) := by
  have gz : ∀ (i : Nat) z, (xs.zip cs)[i]? = some z → xs[i]? = some z.1 ∧ cs[i]? = some z.2 := fun i z h => List.getElem?_zip_eq_some.mp h
  have lz : (xs.zip cs).length = cs.length := by rw [List.length_zip]; omega
  refine ⟨⟨fun z => h0 ?_, by omega, fun z hz => ?_, fun z hz => ?_⟩, g, g0, g1, fun i z h => hx i z.1 (gz i z h).1⟩
  · rw [z, List.length_nil] at lz
    exact List.length_eq_zero_iff.mp lz.symm
  · obtain ⟨j, hj⟩ := List.mem_iff_getElem?.mp hz
    exact (hx j z.1 (gz j z hj).1).low
  · obtain ⟨j, hj⟩ := List.mem_iff_getElem?.mp hz
    exact hc z.2 (List.mem_of_getElem? (gz j z hj).2)
section
variable {P : Program} {w : World} {K : PySem.W.Frag} {mg : Str → Option Value} {base : Heap} {f : Addr} {fd : FuncData}
theorem sc_law_free_book : FnScope ["_law_box", "_law_great", "_law_codes"] ["_law_box"] (defScope (top i_law_free_book)) := ⟨rfl, rfl, rfl, by decide +kernel, rfl, by decide +kernel, by decide +kernel⟩
theorem ok_fbook (F : Fun K "_law_free_book" "_law_free_book" (top i_law_free_book) f fd) (T : Nm mg) (f_law_take : Fn P w K mg base 1 "_law_take" ["_law_box", "_law_many"] spTk) (f_law_names : Fn P w K mg base 2 "_law_names" ["_law_box", "_law_many"] spNames) (f_law_free_codes : Fn P w K mg base 3 "_law_free_codes" ["_law_box", "_law_many", "_law_most"] spFC) : FnOk P w K mg base CX0 4 f fd ["_law_box"] (spFB K) := by
  refine F.ok sc_law_free_book (fun vs H Q E h => ?_) (fun cdv A outer s H vs Q E hr h => ?_)
  · obtain ⟨b, c, t, rfl, _⟩ := h
    rfl
  obtain ⟨b, c, t, rfl, bx, t0, t1, q⟩ := h
  have hu6 := hr.units
  refine ⟨_, (pss_cons (ps_set (i := 1) sc_law_free_book.nd rfl (Or.inl rfl) (pe_cmpR (eqK K hu6) (pe_fn (f_law_take.mono (by first | decide | exact Nat.le_refl _)) hr rfl (pa_cons (pv 0) (pa_cons pe_int pa_nil))) pe_int (nomark _)))
    (pss_cons (ps_set (i := 2) sc_law_free_book.nd rfl (Or.inl rfl) (pe_fn (f_law_free_codes.mono (by first | decide | exact Nat.le_refl _)) hr rfl (pa_cons (pv 0) (pa_cons (pe_op addN pe_int (pe_fn (f_law_take.mono (by first | decide | exact Nat.le_refl _)) hr rfl (pa_cons (pv 0) (pa_cons (pe_ix (ixK K) (lstN (pa_cons pe_int (pa_cons pe_int pa_nil))) (pe_callTy call_int1 rfl T.n_int (by rfl) (pa_cons (pv 1) pa_nil)) (fun _ _ => rfl)) pa_nil)))) (pa_cons (pe_ix (ixK K) (lstN (pa_cons pe_int (pa_cons pe_int pa_nil))) (pe_callTy call_int1 rfl T.n_int (by rfl) (pa_cons (pv 1) pa_nil)) (fun _ _ => rfl)) pa_nil)))))
    (pss_one (ps_ret (pe_listzip rfl rfl T.n_list rfl T.n_zip (pa_cons (pe_fn (f_law_names.mono (by first | decide | exact Nat.le_refl _)) hr rfl (pa_cons (pv 0) (pa_cons (pe_callB (lenK K) rfl T.n_len (by rfl) (pa_cons (pv 2) pa_nil)) pa_nil))) (pa_cons (pv 2) pa_nil))))))), ?_⟩
  refine ⟨_, rfl, b, c, t, 8, rfl, bx, t0, by omega, by decide, by decide, fun k H1 k0 k1 st1 => .inl ⟨rfl, ?_⟩⟩
  generalize decide (V.int k = V.int 0) = d
  obtain ⟨m, mo, hm, hmo, m0, m1, o0, o1⟩ : ∃ m mo : Int, atI ([.int 10, .int 16] : List V) (if d = true then 1 else 0) = some (.int m) ∧ atI ([.int 7, .int 10] : List V) (if d = true then 1 else 0) = some (.int mo) ∧ 1 ≤ m ∧ m ≤ 16 ∧ 1 ≤ mo ∧ mo ≤ 10 := by
    cases d
    · exact ⟨10, 7, rfl, rfl, by decide, by decide, by decide, by decide⟩
    · exact ⟨16, 10, rfl, rfl, by decide, by decide, by decide, by decide⟩
  refine ⟨_, rfl, _, rfl, by show 2 ≤ sizeLine; decide, fun p1 H2 n2 => ⟨_, rfl, .inr ⟨_, rfl, .inl ⟨p1, _, _, _, rfl, rfl, SqL.of n2.at, hm, ?_⟩⟩⟩⟩
  have st2 := st1.newN n2
  refine ⟨b, c, _, m, rfl, st2.bx, by omega, by omega, by omega, by omega, fun r H3 r0 r1 st3 => ?_⟩
  have st3 := st2.trans st3
  refine .inl ⟨_, _, rfl, rfl, by show 2 ≤ sizeLine; decide, fun p2 H4 n4 => ⟨_, rfl, .inr ⟨_, rfl, .inl ⟨p2, _, _, _, rfl, rfl, SqL.of n4.at, hmo, ?_⟩⟩⟩⟩
  have st4 := st3.newN n4
  refine ⟨b, c, _, 1 + r, mo, rfl, st4.bx, by omega, by omega, by omega, by omega, by omega, by omega, fun cs l H5 t5 cne clen fr ok st5 hl4 hl5 => ?_⟩
  obtain ⟨lb, lc⟩ := st4.bx.ne_new hl4
  have st5 := st4.trans st5
  have ub5 := st5.ub
  have lo5 := st5.le
  have hlen : (cs.map V.str).length = cs.length := List.length_map _
  refine ⟨_, rfl, _, rfl, _, _, rfl, .inl ⟨_, SqL.of hl5, rfl⟩, b, c, _, _, rfl, st5.bx, by omega, by omega, by omega, by omega, fun xs l2 H6 t6 g hxl g0 g1 hx st6 hl6 hl62 => ?_⟩
  have hc6 := st6.old hl5 lb lc
  have st6 := st5.trans st6
  refine ⟨_, rfl, l2, l, _, _, rfl, SqL.of hl62, SqL.of hc6, fun H7 p as sm hp hp7 hal hpairs => ?_⟩
  have hnc : xs.length = cs.length := by omega
  obtain ⟨ok1, ok2⟩ := bookOk_zip (n := 10) hnc cne (by omega) hx (fun x hx => (ok x hx).mono (by omega)) g0 g1
  refine q (xs.zip cs) (.ref p) H7 t6 ok1 (by rw [List.length_zip]; omega) ok2 (by rw [zip_snd hnc]; exact fr) (book_zip st6.bx hp hp7 hnc hal hpairs) ((st6.trans (Step.same st6.bx sm)).more (by omega))
end
end Z

set_option Elab.async false
set_option linter.all false
set_option maxRecDepth 100000
set_option maxHeartbeats 4000000
namespace Z
open PySem L2
def spHalvesBy (K : PySem.W.Frag) : Sp := fun vs H Q _ => ∃ (l : Addr) (ns : List Nat), vs = [.ref l] ∧ SqL K H l (ns.map fun (n : Nat) => V.int (n : Int)) ∧ ns ≠ [] ∧ ns.length ≤ 1000 ∧ (∀ n ∈ ns, n ≤ 1000) ∧
  ∀ (M : Nat) (p : Addr) (H' : Hp), M ∈ ns → (∀ n ∈ ns, n ≤ M) → Same H H' → H p = none → H' p = some (.tup [.int ((ns.map fun (n : Nat) => (2 : Int) ^ (M - n)).sum), .int (2 ^ M)]) → Q (.ref p) H'
section
variable {P : Program} {w : World} {K : PySem.W.Frag} {mg : Str → Option Value} {base : Heap} {f : Addr} {fd : FuncData}
theorem sc_hb : FnScope ["lengths", "longest"] ["lengths"] (defScope (top i_halves_by)) := ⟨rfl, rfl, rfl, by decide +kernel, rfl, by decide +kernel, by decide +kernel⟩
theorem ok_hb (F : Fun K "halves_by" "halves_by" (top i_halves_by) f fd) (T : Nm mg) (f_two_to : Fn P w K mg base 1 "two_to" ["power"] spTwo) : FnOk P w K mg base CX0 2 f fd ["lengths"] (spHalvesBy K) := by
  refine F.ok sc_hb (fun vs H Q E h => ?_) (fun cdv A outer s H vs Q E hr h => ?_)
  · obtain ⟨l, ns, rfl, _⟩ := h
    rfl
  obtain ⟨l, ns, rfl, hS, hne, hlen, hle, q⟩ := h
  refine ⟨_, (pss_cons (ps_set (i := 1) sc_hb.nd rfl (Or.inr rfl) (pe_callB (call_max_ints rfl) rfl T.n_max (by rfl) (pa_cons (pv 0) pa_nil)))
    (pss_one (ps_ret (pe_tup (pa_cons (pe_callB (call_sum_ints rfl) rfl T.n_sum (by rfl) (pa_cons (pe_lcomp rfl (comp_ok (Nc := ["length"]) (Fc := ["longest"]) (js := [1])) (piK K (pv 0)) (gk_name (i := 0) (n := 1) (by decide)) (fun _ _ _ _ _ => (pg_name (i := 0) (show (["length", "longest"] : List Str).Nodup by decide +kernel) rfl (Or.inl rfl))) (fun _ _ _ _ _ => pts_nil) (fun _ _ _ _ _ => (pe_fn f_two_to hr rfl (pa_cons (pe_op op_sub (pv 1) (pv 0)) pa_nil)))) pa_nil)) (pa_cons (pe_fn f_two_to hr rfl (pa_cons (pv 1) pa_nil)) pa_nil)))))), ?_⟩
  have hS' : SqL K H l ((ns.map fun (n : Nat) => (n : Int)).map V.int) := by rw [List.map_map]; exact hS
  refine ⟨_, rfl, l, ns.map (fun (n : Nat) => (n : Int)), rfl, hS', by simpa using hne, fun M' hM hmax => ?_⟩
  obtain ⟨M, hMm, rfl⟩ := List.mem_map.mp hM
  have hmx : ∀ n ∈ ns, n ≤ M := fun n hn => by
    have := hmax (n : Int) (List.mem_map.mpr ⟨n, hn, rfl⟩)
    omega
  refine ⟨_, rfl, l, rfl, ⟨_, hS⟩, ?_⟩
  refine comp_go (N := ns.length) (fun i ys H' => H' = H ∧ ys = ((ns.take i).map fun (n : Nat) => V.int (2 ^ (M - n)))) ⟨rfl, rfl⟩ ?_ ?_
  · rintro i ys H' Nx hi ⟨rfl, rfl⟩ nx
    have hx : (ns.map fun (n : Nat) => V.int (n : Int))[i]? = some (V.int ns[i]) := by rw [List.getElem?_map, List.getElem?_eq_getElem hi]; rfl
    refine ⟨⟨_, _, hS, hx⟩, Nat.lt_of_le_of_lt (by rw [List.length_map, List.length_take]; omega) (show 1000 < sizeLine by decide), ?_⟩
    rintro x H2 ⟨rfl, hy⟩
    have e := hy _ hS
    rw [hx] at e; cases e
    have hn := hmx ns[i] (List.getElem_mem hi)
    refine ⟨_, rfl, _, rfl, _, _, rfl, rfl, M - ns[i], ?_, by have := hle M hMm; omega, nx _ _ ⟨rfl, ?_⟩⟩
    · show [V.int ((M : Int) - (ns[i] : Int))] = _
      congr 2
      omega
    · rw [List.take_succ_eq_append_getElem hi, List.map_append]; rfl
  · rintro ys H' ⟨rfl, rfl⟩
    refine ⟨⟨_, hS, by rw [List.length_map]; exact Nat.le_refl _⟩, fun p hp => ?_⟩
    refine ⟨p, ns.map (fun (n : Nat) => (2 : Int) ^ (M - n)), rfl, SqL.of ?_, ?_⟩
    · rw [upd_same, List.take_length, List.map_map]; rfl
    refine ⟨_, rfl, M, rfl, hle M hMm, ?_⟩
    refine ⟨by show 2 ≤ sizeLine; decide, fun t ht => ?_⟩
    have ht0 : H' t = none := by
      cases z : H' t with
      | none => rfl
      | some o => rw [upd_ne (ne_of_none z hp)] at ht; rw [z] at ht; cases ht
    exact q M t _ hMm hmx ((same_new hp _).trans (same_new ht _)) ht0 upd_same
end
end Z

set_option Elab.async false
set_option linter.all false
set_option maxRecDepth 100000
set_option maxHeartbeats 4000000
namespace Z
open PySem L2
/-- the figures of n by twos, k of them, from the left -/
def digs : Nat → Nat → List Nat
  | 0, _ => []
  | k + 1, n => digs k (n / 2) ++ [48 + n % 2]
def figs (n k : Nat) : Str := ⟨(digs k n).toArray⟩
theorem digs_low : ∀ (k n : Nat), ((List.range k).map fun j => 48 + n / 2 ^ j % 2).reverse = digs k n
  | 0, _ => rfl
  | k + 1, n => by
    rw [List.range_succ_eq_map, List.map_cons, List.reverse_cons, List.map_map]
    show _ ++ [48 + n / 2 ^ 0 % 2] = digs k (n / 2) ++ [48 + n % 2]
    rw [← digs_low k (n / 2)]
    congr 2
    · refine List.map_congr_left fun j _ => ?_
      show 48 + n / 2 ^ (j + 1) % 2 = 48 + n / 2 / 2 ^ j % 2
      rw [Nat.div_div_eq_div_mul, Nat.pow_succ, Nat.mul_comm]
    · simp
theorem digs_len : ∀ (k n : Nat), (digs k n).length = k
  | 0, _ => rfl
  | k + 1, n => by unfold digs; rw [List.length_append, digs_len k]; rfl
theorem and_one (n : Nat) : Builtin.bitAnd (n : Int) 1 = ((n % 2 : Nat) : Int) := by
  rw [PyProof.Rows.bitAnd_pp (by omega) (by decide)]
  have : ((n : Int).toNat &&& (1 : Int).toNat) = n % 2 := by
    show (n &&& 1) = n % 2
    exact Nat.and_one_is_mod n
  rw [this]
theorem str_bit (n : Nat) : (Str.ofString (toString ((n % 2 : Nat) : Int))) = ⟨#[48 + n % 2]⟩ := by
  rcases Nat.mod_two_eq_zero_or_one n with h | h <;> rw [h] <;> decide +kernel
theorem sum_ones : ∀ k : Nat, (List.replicate k 1).sum = k
  | 0 => rfl
  | k + 1 => by rw [List.replicate_succ, List.sum_cons, sum_ones k]; omega
theorem flat_one {α β : Type} (g : α → β) : ∀ l : List α, l.flatMap (fun j => [g j]) = l.map g
  | [] => rfl
  | a :: l => by rw [List.flatMap_cons, flat_one g l]; rfl
def spFig : Sp := fun vs H Q _ => ∃ (n k : Nat), vs = [.int n, .int k] ∧ k ≤ 60 ∧ ∀ H', Same H H' → Q (.str (figs n k)) H'
section
variable {P : Program} {w : World} {K : PySem.W.Frag} {mg : Str → Option Value} {base : Heap} {f : Addr} {fd : FuncData}
theorem sc_figures_of : FnScope ["number", "many", "figures", "step"] ["number", "many"] (defScope (top i_figures_of)) := ⟨rfl, rfl, rfl, by decide +kernel, rfl, by decide +kernel, by decide +kernel⟩
theorem ok_fig (F : Fun K "figures_of" "figures_of" (top i_figures_of) f fd) (T : Nm mg) : FnOk P w K mg base CX0 1 f fd ["number", "many"] spFig := by
  refine F.ok sc_figures_of (fun vs H Q E h => ?_) (fun cdv A outer s H vs Q E hr h => ?_)
  · obtain ⟨n, k, rfl, _⟩ := h
    rfl
  obtain ⟨n, k, rfl, hk, q⟩ := h
  have hu6 := hr.units
  refine ⟨_, (pss_cons (ps_set (i := 2) sc_figures_of.nd rfl (Or.inl rfl) (lstN pa_nil))
    (pss_cons (ps_for PassesOwn.never rfl (pi_range1 rfl T.n_range (pa_cons (pv 1) pa_nil)) (pg_name (i := 3) sc_figures_of.nd rfl (Or.inl rfl)) (pss_cons (ps_expr (bmK K PySem.F.plainAttrs_list PySem.F.slot_list_append PySem.F.type_list_append appendN (pv 2) (pa_cons (pe_callTy call_str_int rfl T.n_str (by rfl) (pa_cons (pe_op op_and (pv 0) pe_int) pa_nil)) pa_nil)))
    (pss_one (ps_aug (i := 0) sc_figures_of.nd rfl (Or.inl rfl) pe_int iop_fdiv))))
    (pss_one (ps_ret (bmK K PySem.F.plainAttrs_str PySem.F.slot_str_join PySem.F.type_str_join (joinK K) pe_str (pa_cons (pe_rev K (pv 2)) pa_nil)))))), ?_⟩
  refine ⟨by show 0 ≤ sizeLine; decide, fun l H1 n1 => ?_⟩
  refine ⟨_, rfl, k, rfl, by omega, by omega, ?_⟩
  refine for_range (lo := 0) (n := k) (fun i σ H' => ∃ x3, σ = [some (.int ((n / 2 ^ i : Nat) : Int)), some (.int k), some (.ref l), x3] ∧ H' l = some (.lst (((List.range i).map fun j => (⟨#[48 + n / 2 ^ j % 2]⟩ : Str)).map V.str)) ∧ Same H H') ⟨_, by simp; rfl, n1.at, n1.same⟩ ?_ ?_
  · rintro i σ H2 hi ⟨x3, rfl, hl2, sm2⟩
    refine ⟨_, rfl, .inl ⟨rfl, _, SqL.of hl2⟩, _, rfl, _, _, rfl, rfl, _, rfl, ?_, l, _, _, rfl, rfl, hl2, ?_, fun H3 c3 => ?_⟩
    · rw [and_one]
      have : ((n / 2 ^ i % 2 : Nat) : Int).natAbs ≤ 1 := by omega
      have hb : ((n / 2 ^ i % 2 : Nat) : Int).natAbs = 0 ∨ ((n / 2 ^ i % 2 : Nat) : Int).natAbs = 1 := by omega
      rcases hb with z | z <;> rw [z] <;> decide
    · rw [List.length_map, List.length_map, List.length_range]; exact Nat.lt_of_lt_of_le (show i < 1000 by omega) (by decide)
    have ed : ((n / 2 ^ i : Nat) : Int) / 2 = ((n / 2 ^ (i + 1) : Nat) : Int) := by rw [Nat.pow_succ, ← Nat.div_div_eq_div_mul]; omega
    refine ⟨_, rfl, _, _, rfl, rfl, ⟨by decide, by decide⟩, some (.int (0 + i)), ?_, ?_, ?_⟩
    · show [some (V.int (((n / 2 ^ i : Nat) : Int) / 2)), _, _, _] = _
      rw [ed]
    · rw [c3.at, and_one, str_bit, List.range_succ, List.map_append, List.map_append]
      rfl
    · intro a o e
      rw [c3.ne (ne_of_none e n1.nn)]
      exact sm2 a o e
  · rintro σ H2 ⟨x3, rfl, hl2, sm2⟩
    refine ⟨rfl, _, rfl, l, _, rfl, SqL.of hl2, fun pr H3 n3 => ?_⟩
    refine ⟨_, pr, ((List.range k).map fun j => (⟨#[48 + n / 2 ^ j % 2]⟩ : Str)).reverse, rfl, rfl, SqL.of (by rw [n3.at, List.map_reverse]), ?_, ?_⟩
    · rw [List.map_reverse, List.map_map, List.sum_reverse]
      have : ((List.range k).map ((fun x : Str => x.length) ∘ fun j => (⟨#[48 + n / 2 ^ j % 2]⟩ : Str))) = List.replicate k 1 := by
        rw [List.eq_replicate_iff]
        refine ⟨by simp, fun b hb => ?_⟩
        obtain ⟨j, _, rfl⟩ := List.mem_map.mp hb
        rfl
      rw [this, sum_ones]
      show k + _ * 0 ≤ 16777216
      omega
    · have e : Txt.join "" ((List.range k).map fun j => (⟨#[48 + n / 2 ^ j % 2]⟩ : Str)).reverse = figs n k := by
        have h1 := join_list0 ((List.range k).map fun j => (⟨#[48 + n / 2 ^ j % 2]⟩ : Str)).reverse
        have h2 : (((List.range k).map fun j => (⟨#[48 + n / 2 ^ j % 2]⟩ : Str)).reverse.flatMap fun p => p.cps.toList) = digs k n := by
          rw [← digs_low, ← List.map_reverse, ← List.map_reverse, List.flatMap_map]
          show (List.range k).reverse.flatMap (fun j => [48 + n / 2 ^ j % 2]) = _
          exact flat_one _ _
        rw [h2] at h1
        unfold figs
        rw [← h1]
      exact e ▸ q H3 (sm2.trans n3.same)
end
end Z

set_option Elab.async false
set_option linter.all false
set_option maxRecDepth 100000
set_option maxHeartbeats 4000000
namespace Z
open PySem L2 PyProof.Rows
/-- names with lengths -/
def LenAt (K : PySem.W.Frag) (H : Hp) (bk : List (Str × Nat)) (l : Addr) : Prop := ∃ as : List Addr, SqL K H l (as.map V.ref) ∧ as.length = bk.length ∧ ∀ (i : Nat) a q, as[i]? = some a → bk[i]? = some q → SqT K H a [.str q.1, .int (q.2 : Nat)]
/-- they have room: all shares together are no more than the whole -/
def Fits (ns : List Nat) : Prop := ∀ M, M ∈ ns → (∀ n ∈ ns, n ≤ M) → (ns.map fun n => (2 : Int) ^ (M - n)).sum ≤ 2 ^ M
def spLC (K : PySem.W.Frag) (lc : List Nat → List Str → Prop) : Sp := fun vs H Q _ => ∃ (l : Addr) (ns : List Nat), vs = [.ref l] ∧ SqL K H l (ns.map fun (n : Nat) => V.int (n : Int)) ∧ 1 ≤ ns.length ∧ ns.length < 64 ∧ (∀ n ∈ ns, 1 ≤ n ∧ n ≤ 60) ∧ Fits ns ∧
  ∀ (cs : List Str) (p : Addr) (H' : Hp), lc ns cs → Same H H' → H p = none → H' p = some (.lst (cs.map V.str)) → Q (.ref p) H'
def spCB (K : PySem.W.Frag) (lc : List Nat → List Str → Prop) (C : Addr) : Sp := fun vs H Q E => ∃ (l : Addr) (bk : List (Str × Nat)), vs = [.ref l] ∧ LenAt K H bk l ∧ 1 ≤ bk.length ∧ bk.length < 64 ∧ (∀ q ∈ bk, 1 ≤ q.2 ∧ q.2 ≤ 60) ∧
  (Fits (bk.map (·.2)) → ∀ (cs : List Str) (as : List Addr) (p : Addr) (H' : Hp), lc (bk.map (·.2)) cs → Same H H' → H p = none → H' p = some (.lst (as.map V.ref)) → as.length = bk.length → (∀ (i : Nat) a q y, as[i]? = some a → bk[i]? = some q → cs[i]? = some y → H' a = some (.tup [.str q.1, .str y])) → Q (.ref p) H') ∧
  (¬ Fits (bk.map (·.2)) → ∀ H', Same H H' → E (.ref C) none H')
theorem len_compW {K : PySem.W.Frag} {H : Hp} {l : Addr} {bk : List (Str × Nat)} {σ : L2.St} {fin : List V → Hp → Prop} {as : List Addr} (hS : SqL K H l (as.map V.ref)) (hlen : as.length = bk.length) (ht : ∀ (i : Nat) a q, as[i]? = some a → bk[i]? = some q → SqT K H a [.str q.1, .int (q.2 : Nat)])
    (hb : bk.length < 64) (q : fin (bk.map fun q => V.int (q.2 : Nat)) H) : CompW (Itl K l) 2 [] (gTup K 2 (gCons (gName 0) (gCons (gName 1) gNil))) tYes (tVar 1) σ H fin := by
  refine comp_go (N := bk.length) (fun i ys H' => H' = H ∧ ys = ((bk.take i).map fun q => V.int (q.2 : Nat))) ⟨rfl, rfl⟩ ?_ ?_
  · rintro i ys H' Nx hi ⟨rfl, rfl⟩ nx
    have hx : (as.map V.ref)[i]? = some (V.ref (as[i]'(by omega))) := by rw [List.getElem?_map, List.getElem?_eq_getElem (by omega)]; rfl
    have hT := ht i _ _ (List.getElem?_eq_getElem (by omega)) (List.getElem?_eq_getElem hi)
    refine ⟨⟨_, _, hS, hx⟩, Nat.lt_of_le_of_lt (by rw [List.length_map, List.length_take]; omega) (show 1000 < sizeLine by decide), ?_⟩
    rintro x' H2 ⟨rfl, hy⟩
    have e := hy _ hS
    rw [hx] at e; cases e
    refine ⟨_, _, rfl, hT, rfl, _, _, rfl, _, _, rfl, rfl, ?_⟩
    refine ⟨_, rfl, nx _ _ ⟨rfl, ?_⟩⟩
    rw [List.take_succ_eq_append_getElem hi, List.map_append]; rfl
  · rintro ys H' ⟨rfl, rfl⟩
    refine ⟨⟨_, hS, by rw [List.length_map]; omega⟩, ?_⟩
    rw [List.take_length]
    exact q
section
variable {P : Program} {w : World} {K : PySem.W.Frag} {mg : Str → Option Value} {base : Heap} {f : Addr} {fd : FuncData} {lc : List Nat → List Str → Prop} {C : Addr} {bmB : List Value} {B newId initId : String}
theorem sc_codes_by : FnScope ["lengths", "filled", "whole", "codes"] ["lengths"] (defScope (top i_codes_by)) := ⟨rfl, rfl, rfl, by decide +kernel, rfl, by decide +kernel, by decide +kernel⟩
theorem ok_cby (F : Fun K "codes_by" "codes_by" (top i_codes_by) f fd) (T : Nm mg) (O_TooFull : OwnCls "TooFull" C bmB newId mg base) (FB : ExcBaseFacts B newId initId bmB) (hlc : ∀ ns cs, lc ns cs → cs.length = ns.length) (f_halves_by : Fn P w K mg base 2 "halves_by" ["lengths"] (spHalvesBy K)) (f_least_codes : Fn P w K mg base 2 "least_codes" ["lengths"] (spLC K lc)) :
    FnOk P w K mg base (CXE P w base) 3 f fd ["lengths"] (spCB K lc C) := by
  refine F.okX sc_codes_by (fun vs H Q E h => ?_) (fun cdv A outer s H vs Q E hr h => ?_)
  · obtain ⟨l, bk, rfl, _⟩ := h
    rfl
  obtain ⟨l, bk, rfl, hL, b1, b2, hb, qf, qe⟩ := h
  have hu6 := hr.units
  refine ⟨_, (pss_cons (ps_asg (pe_fn (f_halves_by.mono (by first | decide | exact Nat.le_refl _)) hr rfl (pa_cons (pe_lcomp rfl (comp_ok (Nc := ["name", "length"]) (Fc := []) (js := [])) (piK K (pv 0)) (gk_tup (gks_cons (gk_name (i := 0) (n := 2) (by decide)) (gks_cons (gk_name (i := 1) (n := 2) (by decide)) gks_nil gm_name gms_nil) gm_name (gms_cons gm_name gms_nil))) (fun _ _ _ _ _ => (tupK K 2 rfl (pgs_cons (pg_name (i := 0) (show (["name", "length"] : List Str).Nodup by decide +kernel) rfl (Or.inl rfl)) (pgs_cons (pg_name (i := 1) (show (["name", "length"] : List Str).Nodup by decide +kernel) rfl (Or.inl rfl)) pgs_nil)))) (fun _ _ _ _ _ => pts_nil) (fun _ _ _ _ _ => (pv 1))) pa_nil)) (tupK K 2 rfl (pgs_cons (pg_name (i := 1) sc_codes_by.nd rfl (Or.inl rfl)) (pgs_cons (pg_name (i := 2) sc_codes_by.nd rfl (Or.inl rfl)) pgs_nil))))
    (pss_cons (ps_if (pt_cmpR op_gt (pv 1) (pv 2) (nomark _)) (pss_one (ps_raise O_TooFull FB rfl (pa_cons pe_str pa_nil))) pss_nil)
    (pss_cons (ps_set (i := 3) sc_codes_by.nd rfl (Or.inl rfl) (pe_fn (f_least_codes.mono (by first | decide | exact Nat.le_refl _)) hr rfl (pa_cons (pe_lcomp rfl (comp_ok (Nc := ["name", "length"]) (Fc := []) (js := [])) (piK K (pv 0)) (gk_tup (gks_cons (gk_name (i := 0) (n := 2) (by decide)) (gks_cons (gk_name (i := 1) (n := 2) (by decide)) gks_nil gm_name gms_nil) gm_name (gms_cons gm_name gms_nil))) (fun _ _ _ _ _ => (tupK K 2 rfl (pgs_cons (pg_name (i := 0) (show (["name", "length"] : List Str).Nodup by decide +kernel) rfl (Or.inl rfl)) (pgs_cons (pg_name (i := 1) (show (["name", "length"] : List Str).Nodup by decide +kernel) rfl (Or.inl rfl)) pgs_nil)))) (fun _ _ _ _ _ => pts_nil) (fun _ _ _ _ _ => (pv 1))) pa_nil)))
    (pss_one (ps_ret (pe_lcomp rfl (comp_ok (Nc := ["name", "length", "code"]) (Fc := []) (js := [])) (pi_zipK K rfl T.n_zip (pa_cons (pv 0) (pa_cons (pv 3) pa_nil))) (gk_tup (gks_cons (gk_tup (gks_cons (gk_name (i := 0) (n := 3) (by decide)) (gks_cons (gk_name (i := 1) (n := 3) (by decide)) gks_nil gm_name gms_nil) gm_name (gms_cons gm_name gms_nil))) (gks_cons (gk_name (i := 2) (n := 3) (by decide)) gks_nil gm_name gms_nil) (gm_tup (gms_cons gm_name (gms_cons gm_name gms_nil))) (gms_cons gm_name gms_nil))) (fun _ _ _ _ _ => (tupK K 2 rfl (pgs_cons (tupK K 2 rfl (pgs_cons (pg_name (i := 0) (show (["name", "length", "code"] : List Str).Nodup by decide +kernel) rfl (Or.inl rfl)) (pgs_cons (pg_name (i := 1) (show (["name", "length", "code"] : List Str).Nodup by decide +kernel) rfl (Or.inl rfl)) pgs_nil))) (pgs_cons (pg_name (i := 2) (show (["name", "length", "code"] : List Str).Nodup by decide +kernel) rfl (Or.inl rfl)) pgs_nil)))) (fun _ _ _ _ _ => pts_nil) (fun _ _ _ _ _ => (tupN (pa_cons (pv 0) (pa_cons (pv 2) pa_nil)))))))))), ?_⟩
  -- the halves
  obtain ⟨as, hS, hal, hts⟩ := id hL
  refine ⟨_, rfl, l, rfl, ⟨_, hS⟩, len_compW hS hal hts b2 fun p1 hp1 => ?_⟩
  obtain ⟨H1, n1⟩ : ∃ H1, New H p1 (.lst (bk.map fun q => V.int (q.2 : Nat))) H1 := ⟨_, hp1, rfl⟩
  rw [← n1.eq]
  have e1 : (bk.map fun q => V.int (q.2 : Nat)) = ((bk.map (·.2)).map fun (n : Nat) => V.int (n : Int)) := by rw [List.map_map]; rfl
  have hne : bk.map (·.2) ≠ [] := fun z => by have := congrArg List.length z; simp at this; rw [this] at b1; simp at b1
  have hle : ∀ n ∈ bk.map (·.2), 1 ≤ n ∧ n ≤ 60 := fun n hn => by
    obtain ⟨q, hq, rfl⟩ := List.mem_map.mp hn
    exact hb q hq
  refine ⟨p1, bk.map (·.2), rfl, SqL.of (by rw [n1.at, e1]), hne, by rw [List.length_map]; omega, fun n hn => by have := hle n hn; omega, fun M t H2 hM hmx sm2 ht0 ht => ?_⟩
  have fitM : Fits (bk.map (·.2)) ↔ ((bk.map (·.2)).map fun n => (2 : Int) ^ (M - n)).sum ≤ 2 ^ M := by
    refine ⟨fun z => z M hM hmx, fun z M' h1 h2 => ?_⟩
    have : M' = M := Nat.le_antisymm (hmx M' h1) (h2 M hM)
    rw [this]; exact z
  have sm02 := n1.same.trans sm2
  refine ⟨t, _, rfl, SqT.of ht, rfl, _, _, rfl, _, _, rfl, rfl, ?_⟩
  refine ⟨_, rfl, _, rfl, _, _, rfl, rfl, _, rfl, ite2 (fun hgt => ?_) (fun hgt => ?_)⟩
  · refine ⟨by show 1 ≤ sizeLine; decide, qe (fun z => ?_) _ sm02⟩
    have := fitM.mp z
    have hgt := of_decide_eq_true hgt
    omega
  · have fit : Fits (bk.map (·.2)) := fitM.mpr (by
      have := of_decide_eq_false (by simpa using hgt : decide (2 ^ M < ((bk.map (·.2)).map fun n => (2 : Int) ^ (M - n)).sum) = false)
      omega)
    refine ⟨_, rfl, l, rfl, ⟨_, sm02.seq hS⟩, len_compW (sm02.seq hS) hal (fun i a q e1 e2 => sm02.seqT (hts i a q e1 e2)) b2 fun p3 hp3 => ?_⟩
    obtain ⟨H3, n3⟩ : ∃ H3, New H2 p3 (.lst (bk.map fun q => V.int (q.2 : Nat))) H3 := ⟨_, hp3, rfl⟩
    rw [← n3.eq]
    refine ⟨p3, bk.map (·.2), rfl, SqL.of (by rw [n3.at, e1]), by rw [List.length_map]; omega, by rw [List.length_map]; omega, hle, fit, fun lcs pc H4 hR sm4 hc0 hc => ?_⟩
    have sm04 := sm02.trans (n3.same.trans sm4)
    have hll : lcs.length = bk.length := by rw [hlc _ _ hR, List.length_map]
    have qf := qf fit lcs
    refine ⟨_, rfl, _, rfl, false, false, l, pc, rfl, ⟨_, sm04.seq hS⟩, ⟨_, SqL.of hc⟩, ?_⟩
    refine comp_go (N := bk.length) (fun i ys H' => ∃ cs : List Addr, ys = cs.map V.ref ∧ cs.length = i ∧ Same H4 H' ∧ ∀ (j : Nat) a q y, cs[j]? = some a → bk[j]? = some q → lcs[j]? = some y → H' a = some (.tup [.str q.1, .str y])) ⟨[], rfl, rfl, Same.refl _, fun j a q y e => by simp at e⟩ ?_ ?_
    · rintro i ys H5 Nx hi ⟨cs, rfl, hcl, sm5, hcs⟩ nx
      have q1 : SqK false K H5 l (as.map V.ref) := (sm04.trans sm5).seq hS
      have q2 : SqK false K H5 pc (lcs.map V.str) := SqL.of (sm5 _ _ hc)
      have hx : (as.map V.ref)[i]? = some (V.ref (as[i]'(by omega))) := by rw [List.getElem?_map, List.getElem?_eq_getElem (by omega)]; rfl
      have hy : (lcs.map V.str)[i]? = some (V.str (lcs[i]'(by omega))) := by rw [List.getElem?_map, List.getElem?_eq_getElem (by omega)]; rfl
      have hT := hts i _ _ (List.getElem?_eq_getElem (by omega)) (List.getElem?_eq_getElem hi)
      refine ⟨⟨_, _, _, _, q1, q2, hx, hy⟩, Nat.lt_of_lt_of_le (show (cs.map V.ref).length < 1000 by rw [List.length_map]; omega) (by decide), ?_⟩
      rintro x' H6 ⟨T', rfl, hN⟩
      have n6 := hN _ _ _ _ q1 q2 hx hy
      refine ⟨T', _, rfl, SqT.of n6.at, rfl, _, _, rfl, _, _, rfl, ((sm04.trans sm5).trans n6.same).seqT hT, rfl, _, _, rfl, _, _, rfl, ⟨rfl, _, _, rfl, rfl, ?_⟩⟩
      refine ⟨_, rfl, _, rfl, by show 2 ≤ sizeLine; decide, fun pt H7 n7 => nx _ _ ⟨cs ++ [pt], by rw [List.map_append]; rfl, by rw [List.length_append, hcl]; rfl, sm5.trans (n6.same.trans n7.same), fun j a q y ea eq ey => ?_⟩⟩
      by_cases hj : j < cs.length
      · rw [List.getElem?_append_left hj] at ea
        exact n7.same _ _ (n6.same _ _ (hcs j a q y ea eq ey))
      · have : j = cs.length := by
          have := (List.getElem?_eq_some_iff.mp ea).1
          simp at this; omega
        subst this
        rw [List.getElem?_append_right (Nat.le_refl _), Nat.sub_self] at ea
        cases ea
        rw [hcl, List.getElem?_eq_getElem hi] at eq
        rw [hcl, List.getElem?_eq_getElem (by omega)] at ey
        cases eq; cases ey
        exact n7.at
    · rintro ys H5 ⟨cs, rfl, hcl, sm5, hcs⟩
      refine ⟨⟨_, _, (show SqK false K H5 l (as.map V.ref) from (sm04.trans sm5).seq hS), (show SqK false K H5 pc (lcs.map V.str) from SqL.of (sm5 _ _ hc)), .inl (by rw [List.length_map]; omega)⟩, fun p hp => ?_⟩
      refine qf cs p _ hR ((sm04.trans sm5).trans (same_new hp _)) ?_ upd_same hcl fun j a q y ea eq ey => ?_
      · cases z : H p with
        | none => rfl
        | some o => rw [(sm04.trans sm5) _ _ z] at hp; cases hp
      · exact same_new hp _ _ _ (hcs j a q y ea eq ey)
end
end Z

set_option Elab.async false
set_option linter.all false
set_option maxRecDepth 100000
set_option maxHeartbeats 4000000
namespace Z
open PySem L2
/-- by rising length, then by place -/
def keyOf (ns : List Nat) (i : Nat) : Int := ((ns.getD i 0 : Nat) : Int) * 64 + i
/-- the number and the figures behind these lengths -/
def stOf : List Nat → Nat × Nat := List.foldl (fun q len => (q.1 * 2 ^ (len - q.2) + 1, len)) (0, 0)
/-- the codes that least_codes tells -/
def LcR (ns : List Nat) (cs : List Str) : Prop := cs.length = ns.length ∧ ∃ o : List Nat, o.Perm (List.range ns.length) ∧ o.Pairwise (fun i j => keyOf ns i < keyOf ns j) ∧
  ∀ (k i : Nat), o[k]? = some i → cs[i]? = some (figs ((stOf ((o.take k).map fun j => ns.getD j 0)).1 * 2 ^ (ns.getD i 0 - (stOf ((o.take k).map fun j => ns.getD j 0)).2)) (ns.getD i 0))
theorem rSrt_nil {K : PySem.W.Frag} {σ : L2.St} {H : Hp} {p : Addr} {as : List Addr} {x key : Nat → Int} {Q : VK} (hq : SqL K H p (as.map V.ref)) (h1 : 1 ≤ as.length) (h64 : as.length < 64) (ht : ∀ (i : Nat) a, as[i]? = some a → SqT K H a [.int (x i), .int i])
    (hk : ∀ i, key i = x i * 64 + i)
    (k : ∀ (o : List Nat) (bs : List Addr) (q : Addr) (H' : Hp), o.Perm (List.range as.length) → o.Pairwise (fun i j => key i < key j) → bs.length = o.length → (∀ (k i : Nat), o[k]? = some i → bs[k]? = as[i]?) → New H q (.lst (bs.map V.ref)) H' → Q (.ref q) H') :
    tNil σ H fun xs H2 => rSrt K (V.ref p :: xs) H2 Q := rSrt_of K hq h1 h64 ht hk k
section
variable {P : Program} {w : World} {K : PySem.W.Frag} {mg : Str → Option Value} {base : Heap} {f : Addr} {fd : FuncData}
theorem sc_least_codes : FnScope ["lengths", "codes", "number", "figures", "length", "at"] ["lengths"] (defScope (top i_least_codes)) := ⟨rfl, rfl, rfl, by decide +kernel, rfl, by decide +kernel, by decide +kernel⟩
theorem ok_lc (F : Fun K "least_codes" "least_codes" (top i_least_codes) f fd) (T : Nm mg) (n_sorted : mg "sorted" = none) (f_two_to : Fn P w K mg base 1 "two_to" ["power"] spTwo) (f_figures_of : Fn P w K mg base 1 "figures_of" ["number", "many"] spFig) : FnOk P w K mg base CX0 2 f fd ["lengths"] (spLC K LcR) := by
  refine F.ok sc_least_codes (fun vs H Q E h => ?_) (fun cdv A outer s H vs Q E hr h => ?_)
  · obtain ⟨l, ns, rfl, _⟩ := h
    rfl
  obtain ⟨l, ns, rfl, hS, b1, b2, hb, _, q⟩ := h
  have hu6 := hr.units
  refine ⟨_, (pss_cons (ps_set (i := 1) sc_least_codes.nd rfl (Or.inl rfl) (pe_op mulN (lstN (pa_cons pe_str pa_nil)) (pe_callB (lenK K) rfl T.n_len (by rfl) (pa_cons (pv 0) pa_nil))))
    (pss_cons (ps_set (i := 2) sc_least_codes.nd rfl (Or.inl rfl) pe_int)
    (pss_cons (ps_set (i := 3) sc_least_codes.nd rfl (Or.inl rfl) pe_int)
    (pss_cons (ps_for PassesOwn.never rfl (piK K (pe_callB (sortedP K) rfl n_sorted (by rfl) (pa_cons (pe_lcomp rfl (comp_ok (Nc := ["at", "length"]) (Fc := []) (js := [])) (enumK K rfl T.n_enumerate (pa_cons (pv 0) pa_nil)) (gk_tup (gks_cons (gk_name (i := 0) (n := 2) (by decide)) (gks_cons (gk_name (i := 1) (n := 2) (by decide)) gks_nil gm_name gms_nil) gm_name (gms_cons gm_name gms_nil))) (fun _ _ _ _ _ => (tupK K 2 rfl (pgs_cons (pg_name (i := 0) (show (["at", "length"] : List Str).Nodup by decide +kernel) rfl (Or.inl rfl)) (pgs_cons (pg_name (i := 1) (show (["at", "length"] : List Str).Nodup by decide +kernel) rfl (Or.inl rfl)) pgs_nil)))) (fun _ _ _ _ _ => pts_nil) (fun _ _ _ _ _ => (tupN (pa_cons (pv 1) (pa_cons (pv 0) pa_nil))))) pa_nil))) (tupK K 2 rfl (pgs_cons (pg_name (i := 4) sc_least_codes.nd rfl (Or.inl rfl)) (pgs_cons (pg_name (i := 5) sc_least_codes.nd rfl (Or.inl rfl)) pgs_nil))) (pss_cons (ps_aug (i := 2) sc_least_codes.nd rfl (Or.inl rfl) (pe_fn (f_two_to.mono (by first | decide | exact Nat.le_refl _)) hr rfl (pa_cons (pe_op op_sub (pv 4) (pv 3)) pa_nil)) iop_mul)
    (pss_cons (ps_set (i := 3) sc_least_codes.nd rfl (Or.inl rfl) (pv 4))
    (pss_cons (ps_asg (pe_fn (f_figures_of.mono (by first | decide | exact Nat.le_refl _)) hr rfl (pa_cons (pv 2) (pa_cons (pv 3) pa_nil))) (pg_sub (pv 1) (pv 5) set_list))
    (pss_one (ps_aug (i := 2) sc_least_codes.nd rfl (Or.inl rfl) pe_int ip_add))))))
    (pss_one (ps_ret (pv 1))))))), ?_⟩
  -- the codes' list
  have hlen : (ns.map fun (n : Nat) => V.int (n : Int)).length = ns.length := List.length_map _
  refine ⟨by show 1 ≤ sizeLine; decide, fun pe H1 n1 => ?_⟩
  refine ⟨_, rfl, _, _, rfl, .inl ⟨_, n1.same.seq hS, rfl⟩, .inr ⟨pe, _, _, rfl, rfl, n1.at, by omega, by omega, ?_, fun pc H2 n2 => ?_⟩⟩
  · rw [hlen]; exact Nat.le_trans (show 1 * (ns.length : Int).toNat ≤ 64 by omega) (by decide)
  have sm2 := n1.same.trans n2.same
  have hflat : (List.replicate (((ns.map fun (n : Nat) => V.int (n : Int)).length : Nat) : Int).toNat [V.str (Str.ofString "")]).flatten = (List.replicate ns.length (Str.ofString "")).map V.str := by
    rw [hlen]
    have : ((ns.length : Nat) : Int).toNat = ns.length := by omega
    rw [this, List.map_replicate]
    induction ns.length with
    | zero => rfl
    | succ m ih => rw [List.replicate_succ, List.flatten_cons, ih, List.replicate_succ]; rfl
  have hc2 := n2.at
  rw [hflat] at hc2
  have hgd : ∀ j (hj : j < ns.length), ns.getD j 0 = ns[j] := fun j hj => by simp [List.getD, hj]
  -- the pairs
  refine ⟨_, rfl, l, rfl, ⟨_, sm2.seq hS⟩, ?_⟩
  refine comp_go (N := ns.length) (fun i ys H' => ∃ as : List Addr, ys = as.map V.ref ∧ as.length = i ∧ Same H2 H' ∧ ∀ (j : Nat) a, as[j]? = some a → a ≠ pc ∧ H' a = some (.tup [.int (ns.getD j 0 : Nat), .int (j : Nat)])) ⟨[], rfl, rfl, Same.refl _, fun j a e => by simp at e⟩ ?_ ?_
  · rintro i ys H3 Nx hi ⟨as, rfl, hal, sm3, has⟩ nx
    have hS3 := (sm2.trans sm3).seq hS
    have hx : (ns.map fun (n : Nat) => V.int (n : Int))[i]? = some (V.int ((ns[i] : Nat) : Int)) := by rw [List.getElem?_map, List.getElem?_eq_getElem hi]; rfl
    refine ⟨⟨_, _, hS3, hx⟩, Nat.lt_of_lt_of_le (show (as.map V.ref).length < 1000 by rw [List.length_map]; omega) (by decide), ?_⟩
    rintro v H4 ⟨T', rfl, hT0, hT⟩
    have e4 := hT _ _ hS3 hx
    subst e4
    refine ⟨T', _, rfl, SqT.of upd_same, rfl, _, _, rfl, _, _, rfl, rfl, ?_⟩
    refine ⟨_, rfl, _, rfl, by show 2 ≤ sizeLine; decide, fun pt H5 n5 => nx _ _ ⟨as ++ [pt], by rw [List.map_append]; rfl, by rw [List.length_append, hal]; rfl, sm3.trans ((same_new hT0 _).trans n5.same), fun j a e => ?_⟩⟩
    by_cases hj : j < as.length
    · rw [List.getElem?_append_left hj] at e
      obtain ⟨g1, g2⟩ := has j a e
      exact ⟨g1, n5.same _ _ (same_new hT0 _ _ _ g2)⟩
    · have : j = as.length := by
        have := (List.getElem?_eq_some_iff.mp e).1
        simp at this; omega
      subst this
      rw [List.getElem?_append_right (Nat.le_refl _), Nat.sub_self] at e
      cases e
      refine ⟨fun z => ?_, ?_⟩
      · have := n5.nn
        rw [z] at this
        rw [same_new hT0 _ _ _ (sm3 _ _ n2.at)] at this
        cases this
      · rw [n5.at, hal, hgd i hi]
  rintro ys H3 ⟨as, rfl, hal, sm3, has⟩
  refine ⟨⟨_, (sm2.trans sm3).seq hS, by rw [hlen]; exact Nat.le_refl _⟩, fun pl hpl => ?_⟩
  obtain ⟨H4, n4⟩ : ∃ H4, New H3 pl (.lst (as.map V.ref)) H4 := ⟨_, hpl, rfl⟩
  rw [← n4.eq]
  refine rSrt_nil (K := K) (x := fun j => (ns.getD j 0 : Nat)) (key := keyOf ns) (SqL.of n4.at) (by omega) (by omega) (fun i a e => SqT.of (n4.same _ _ (has i a e).2)) (fun i => rfl) fun o bs qs H5 po pw hbl hbs n5 => ?_
  have sm5 : Same H H5 := sm2.trans (sm3.trans (n4.same.trans n5.same))
  have hol : o.length = ns.length := by rw [po.length_eq, List.length_range, hal]
  have hin : ∀ i ∈ o, i < ns.length := fun i hi => by have := List.mem_range.mp (po.subset hi); omega
  have hpc5 : H5 pc = some (.lst ((List.replicate ns.length (Str.ofString "")).map V.str)) := n5.same _ _ (n4.same _ _ (sm3 _ _ hc2))
  have hqp : qs ≠ pc := fun z => by
    have := n5.nn
    rw [z, n4.same _ _ (sm3 _ _ n2.at)] at this
    cases this
  have htup : ∀ (k : Nat) b, bs[k]? = some b → ∃ i, o[k]? = some i ∧ i < ns.length ∧ b ≠ pc ∧ H5 b = some (.tup [.int (ns.getD i 0 : Nat), .int (i : Nat)]) := fun k b e => by
    have hk : k < o.length := by have := (List.getElem?_eq_some_iff.mp e).1; omega
    have eo : o[k]? = some o[k] := List.getElem?_eq_getElem hk
    have ea := hbs k _ eo
    rw [e] at ea
    obtain ⟨g1, g2⟩ := has _ _ ea.symm
    exact ⟨_, eo, hin _ (List.getElem_mem hk), g1, n5.same _ _ (n4.same _ _ g2)⟩
  let st := fun k => stOf ((o.take k).map fun j => ns.getD j 0)
  refine ⟨qs, rfl, ⟨_, SqL.of n5.at⟩, ?_⟩
  refine for_list (K := K) (a := qs) (xs := bs.map V.ref) (fun k σ H' => ∃ (x4 x5 : Option V) (cur : List Str), σ = [some (.ref l), some (.ref pc), some (.int ((st k).1 : Nat)), some (.int ((st k).2 : Nat)), x4, x5] ∧ cur.length = ns.length ∧ H' pc = some (.lst (cur.map V.str)) ∧
      (∀ a u, a ≠ pc → H5 a = some u → H' a = some u) ∧ ∀ (k' i : Nat), k' < k → o[k']? = some i → cur[i]? = some (figs ((st k').1 * 2 ^ (ns.getD i 0 - (st k').2)) (ns.getD i 0)))
    ⟨_, _, List.replicate ns.length (Str.ofString ""), rfl, by simp, hpc5, fun a u _ e => e, fun k' i h => absurd h (Nat.not_lt_zero _)⟩ (fun k σ H' _ ⟨_, _, _, _, _, _, kp, _⟩ => SqL.of (kp _ _ hqp n5.at)) ?_ ?_
  · rintro k x σ H6 hx ⟨x4, x5, cur, rfl, hcl, hcur, kp, hfig⟩
    obtain ⟨b, eb, rfl⟩ : ∃ b, bs[k]? = some b ∧ x = V.ref b := by
      rw [List.getElem?_map] at hx
      cases e : bs[k]? with
      | none => rw [e] at hx; cases hx
      | some b => rw [e] at hx; cases hx; exact ⟨b, rfl, rfl⟩
    obtain ⟨i, ei, hi, hbp, hb5⟩ := htup k b eb
    have hk : k < o.length := (List.getElem?_eq_some_iff.mp ei).1
    have hb6 := kp _ _ hbp hb5
    have hst : ∀ m j, o[m]? = some j → st (m + 1) = ((st m).1 * 2 ^ (ns.getD j 0 - (st m).2) + 1, ns.getD j 0) := fun m j e => by
      show stOf ((o.take (m + 1)).map _) = _
      have hm : m < o.length := (List.getElem?_eq_some_iff.mp e).1
      have ej : o[m] = j := (List.getElem?_eq_some_iff.mp e).2
      rw [List.take_succ_eq_append_getElem hm, List.map_append]
      unfold stOf
      rw [List.foldl_append]
      show _ = _
      rw [ej]
      rfl
    have fle : (st k).2 ≤ ns.getD i 0 := by
      match k, ei with
      | 0, _ => exact Nat.zero_le _
      | m + 1, ei =>
        have hm1 : m + 1 < o.length := (List.getElem?_eq_some_iff.mp ei).1
        have em : o[m]? = some o[m] := List.getElem?_eq_getElem (by omega)
        rw [hst m _ em]
        have := List.pairwise_iff_getElem.mp pw m (m + 1) (by omega) hm1 (by omega)
        have e1 : o[m + 1] = i := (List.getElem?_eq_some_iff.mp ei).2
        rw [e1] at this
        unfold keyOf at this
        have := hin _ (List.getElem_mem (show m < o.length by omega))
        show ns.getD o[m] 0 ≤ _
        omega
    have hle : 1 ≤ ns.getD i 0 ∧ ns.getD i 0 ≤ 60 := by rw [hgd i hi]; exact hb _ (List.getElem_mem hi)
    refine ⟨b, _, rfl, SqT.of hb6, rfl, _, _, rfl, _, _, rfl, rfl, ?_⟩
    refine ⟨_, rfl, _, rfl, _, rfl, _, _, rfl, rfl, ns.getD i 0 - (st k).2, ?_, by omega, _, _, rfl, rfl, .inr ⟨?_, ?_⟩, ?_⟩
    · show [V.int (((ns.getD i 0 : Nat) : Int) - ((st k).2 : Nat))] = _
      congr 2
      omega
    · have : (0 : Int) ≤ 2 ^ (ns.getD i 0 - (st k).2) := two_pow_nn _
      omega
    · have h1 : (2 : Nat) ^ (ns.getD i 0 - (st k).2) ≤ 2 ^ 60 := Nat.pow_le_pow_right (by decide) (by omega)
      have h2 : ((2 : Int) ^ (ns.getD i 0 - (st k).2)) = (((2 : Nat) ^ (ns.getD i 0 - (st k).2) : Nat) : Int) := by rw [Int.natCast_pow]; rfl
      rw [h2]
      have : ((2 : Nat) ^ 60) < 2 ^ 64 := by decide
      have h3 : (2 : Nat) ^ (ns.getD i 0 - (st k).2) < 2 ^ 64 := Nat.lt_of_le_of_lt h1 this
      exact_mod_cast h3
    refine ⟨_, rfl, ?_⟩
    obtain ⟨num, hnum⟩ : ∃ num : Nat, num = (st k).1 * 2 ^ (ns.getD i 0 - (st k).2) := ⟨_, rfl⟩
    have hnumI : (((st k).1 : Nat) : Int) * 2 ^ (ns.getD i 0 - (st k).2) = (num : Int) := by
      rw [hnum, Int.natCast_mul, Int.natCast_pow]; rfl
    refine ⟨_, rfl, _, rfl, num, ns.getD i 0, ?_, hle.2, fun H7 sm7 => ?_⟩
    · show [V.int ((((st k).1 : Nat) : Int) * 2 ^ (ns.getD i 0 - (st k).2)), V.int ((ns.getD i 0 : Nat) : Int)] = _
      rw [hnumI]
    refine ⟨_, rfl, _, rfl, pc, _, (i : Int), i, rfl, rfl, sm7 _ _ hcur, ?_, ?_⟩
    · rw [ixN_of (by omega) (by rw [List.length_map, hcl]; omega)]; rfl
    refine ⟨_, rfl, _, _, rfl, rfl, some (.int (ns.getD i 0 : Nat)), some (.int i), cur.set i (figs num (ns.getD i 0)), ?_, by rw [List.length_set]; exact hcl, ?_, fun a u ha e => ?_, fun k' i' hk' e' => ?_⟩
    · show [some (V.ref l), some (V.ref pc), some (V.int ((((st k).1 : Nat) : Int) * 2 ^ (ns.getD i 0 - (st k).2) + 1)), some (V.int ((ns.getD i 0 : Nat) : Int)), some (V.int ((ns.getD i 0 : Nat) : Int)), some (V.int (i : Int))] = _
      rw [hst k i ei, ← hnum, hnumI]
      rfl
    · rw [upd_same, List.map_set]
    · rw [upd_ne ha]
      exact sm7 _ _ (kp a u ha e)
    · by_cases z : k' = k
      · subst z
        rw [ei] at e'; cases e'
        rw [List.getElem?_set_self (by rw [hcl]; exact hi), hnum]
      · have hne : i' ≠ i := fun w => by
          subst w
          have h1 : k' < o.length := (List.getElem?_eq_some_iff.mp e').1
          have := List.pairwise_iff_getElem.mp pw k' k h1 hk (by omega)
          rw [(List.getElem?_eq_some_iff.mp e').2, (List.getElem?_eq_some_iff.mp ei).2] at this
          omega
        rw [List.getElem?_set_ne (Ne.symm hne)]
        exact hfig k' i' (by omega) e'
  · rintro σ H6 ⟨x4, x5, cur, rfl, hcl, hcur, kp, hfig⟩
    refine ⟨_, rfl, q cur pc H6 ⟨hcl, o, by rw [← hal]; exact po, pw, fun k i e => ?_⟩ (fun a u e => ?_) ?_ hcur⟩
    · have hk : k < o.length := (List.getElem?_eq_some_iff.mp e).1
      exact hfig k i (by rw [List.length_map, hbl]; exact hk) e
    · refine kp a u (fun z => ?_) (sm5 _ _ e)
      have := n2.nn
      rw [← z, n1.same _ _ e] at this
      cases this
    · cases z : H pc with
      | none => rfl
      | some u => have := n2.nn; rw [n1.same _ _ z] at this; cases this
end
end Z

set_option Elab.async false
set_option linter.all false
set_option maxRecDepth 100000
set_option maxHeartbeats 4000000
namespace Z
open PySem L2
/-- one order alone -/
theorem order_one {key : Nat → Int} : ∀ {a b : List Nat}, a.Perm b → a.Pairwise (fun i j => key i < key j) → b.Pairwise (fun i j => key i < key j) → a = b
  | [], b, p, _, _ => (List.nil_perm.mp p).symm
  | x :: a, b, p, ha, hb => by
    cases b with
    | nil => exact absurd p.length_eq (by simp)
    | cons y b =>
      obtain ⟨a1, a2⟩ := List.pairwise_cons.mp ha
      obtain ⟨b1, b2⟩ := List.pairwise_cons.mp hb
      have e : x = y := by
        rcases List.mem_cons.mp (p.subset (List.mem_cons_self (a := x) (l := a))) with q | q
        · exact q
        rcases List.mem_cons.mp (p.symm.subset (List.mem_cons_self (a := y) (l := b))) with q' | q'
        · exact q'.symm
        · have := b1 x q
          have := a1 y q'
          omega
      subst e
      rw [order_one ((List.perm_cons x).mp p) a2 b2]
theorem figs_len (n k : Nat) : (figs n k).length = k := by
  show (digs k n).toArray.size = k
  rw [List.size_toArray, digs_len]
theorem digs_bin : ∀ (k n : Nat), ∀ ch ∈ digs k n, ch = 48 ∨ ch = 49
  | 0, _, ch, h => by simp [digs] at h
  | k + 1, n, ch, h => by
    unfold digs at h
    rcases List.mem_append.mp h with q | q
    · exact digs_bin k _ ch q
    · have := List.mem_singleton.mp q
      omega
end Z

set_option Elab.async false
set_option linter.all false
set_option maxRecDepth 100000
set_option maxHeartbeats 4000000
namespace Z
open PySem L2
/-- what rest_of tells -/
def restV (a b : Str) : V := if Txt.startswith a b = true then .str (Txt.slice a (some (b.length : Nat)) none) else if Txt.startswith b a = true then .str (Txt.slice b (some (a.length : Nat)) none) else .non
def spRest : Sp := fun vs H Q _ => ∃ a b : Str, vs = [.str a, .str b] ∧ a.length ≤ 1000000 ∧ b.length ≤ 1000000 ∧ Q (restV a b) H
section
variable {P : Program} {w : World} {K : PySem.W.Frag} {mg : Str → Option Value} {base : Heap} {f : Addr} {fd : FuncData}
theorem sc_rest : FnScope ["one", "other"] ["one", "other"] (defScope (top i_rest_of)) := ⟨rfl, rfl, rfl, by decide +kernel, rfl, by decide +kernel, by decide +kernel⟩
theorem ok_rest (F : Fun K "rest_of" "rest_of" (top i_rest_of) f fd) (T : Nm mg) : FnOk P w K mg base CX0 1 f fd ["one", "other"] spRest := by
  refine F.ok sc_rest (fun vs H Q E h => ?_) (fun cdv A outer s H vs Q E hr h => ?_)
  · obtain ⟨a, b, rfl, _⟩ := h
    rfl
  obtain ⟨a, b, rfl, ha, hb, q⟩ := h
  refine ⟨_, (pss_cons (ps_if (pt_val (bmK K PySem.F.plainAttrs_str PySem.F.slot_str_startswith PySem.F.type_str_startswith mt_startswith (pv 0) (pa_cons (pv 1) pa_nil))) (pss_one (ps_ret (pe_slice (slK K) (pv 0) (po_some (pe_callB (lenK K) rfl T.n_len (by rfl) (pa_cons (pv 1) pa_nil))) po_none))) pss_nil)
    (pss_cons (ps_if (pt_val (bmK K PySem.F.plainAttrs_str PySem.F.slot_str_startswith PySem.F.type_str_startswith mt_startswith (pv 1) (pa_cons (pv 0) pa_nil))) (pss_one (ps_ret (pe_slice (slK K) (pv 1) (po_some (pe_callB (lenK K) rfl T.n_len (by rfl) (pa_cons (pv 0) pa_nil))) po_none))) pss_nil)
    (pss_one (ps_ret pe_non)))), ?_⟩
  unfold restV at q
  refine ⟨_, rfl, rfl, _, rfl, a, b, rfl, rfl, _, rfl, ?_⟩
  refine ite2 (fun c => ?_) (fun c => ?_)
  · rw [if_pos c] at q
    exact ⟨_, rfl, _, rfl, _, _, rfl, ⟨sizeOk (Nat.le_trans hb (by decide)), rfl⟩, _, rfl, .inr ⟨a, rfl, sizeOk (Nat.le_trans ha (by decide)), q⟩⟩
  · rw [if_neg c] at q
    refine ⟨_, rfl, rfl, _, rfl, b, a, rfl, rfl, _, rfl, ?_⟩
    refine ite2 (fun c => ?_) (fun c => ?_)
    · rw [if_pos c] at q
      exact ⟨_, rfl, _, rfl, _, _, rfl, ⟨sizeOk (Nat.le_trans ha (by decide)), rfl⟩, _, rfl, .inr ⟨b, rfl, sizeOk (Nat.le_trans hb (by decide)), q⟩⟩
    · rw [if_neg c] at q
      exact q
end
end Z

set_option Elab.async false
set_option linter.all false
set_option maxRecDepth 100000
set_option maxHeartbeats 4000000
namespace Z
open PySem L2
/-- no two codes below place j, one of which begins the other -/
def NoC (bk : List (Str × Str)) (j : Nat) : Prop := ∀ (i' j' : Nat) a b, i' < j' → j' < j → bk[i']? = some a → bk[j']? = some b → restV a.2 b.2 = .non
def spClash (K : PySem.W.Frag) : Sp := fun vs H Q _ => ∃ (v : V) (bk : List (Str × Str)), vs = [v] ∧ Den K H (bookD bk) v ∧ bk.length ≤ 1000 ∧ (∀ q ∈ bk, q.2.length ≤ 1000) ∧
  (NoC bk bk.length → ∀ H', Same H H' → Q .non H') ∧
  ∀ (i j : Nat) a b, bk[i]? = some a → bk[j]? = some b → i < j → NoC bk j → (∀ (i' : Nat) a', i' < i → bk[i']? = some a' → restV a'.2 b.2 = .non) → restV a.2 b.2 ≠ .non →
    ∀ p H', Same H H' → H p = none → H' p = some (.tup [.str a.1, .str b.1]) → Q (.ref p) H'
section
variable {P : Program} {w : World} {K : PySem.W.Frag} {mg : Str → Option Value} {base : Heap} {f : Addr} {fd : FuncData}
theorem sc_cl : FnScope ["book", "at", "other", "code", "one", "code_ahead"] ["book"] (defScope (top i_clash)) := ⟨rfl, rfl, rfl, by decide +kernel, rfl, by decide +kernel, by decide +kernel⟩
theorem cut_take (vs : List V) (j : Nat) (h : j ≤ vs.length) : cutV vs none (some (j : Int)) = vs.take j := by
  unfold cutV
  have e : HT.sIx vs.length vs.length (some (j : Int)) = j := by
    unfold HT.sIx
    dsimp only
    rw [if_neg (show ¬ ((j : Int) < 0) by omega)]
    omega
  rw [e]
  show ((vs.drop 0).take (j - 0)) = _
  simp
theorem ok_cl (F : Fun K "clash" "clash" (top i_clash) f fd) (T : Nm mg) (f_rest : Fn P w K mg base 1 "rest_of" ["one", "other"] spRest) : FnOk P w K mg base CX0 2 f fd ["book"] (spClash K) := by
  refine F.ok sc_cl (fun vs H Q E h => ?_) (fun cdv A outer s H vs Q E hr h => ?_)
  · obtain ⟨v, bk, rfl, _⟩ := h
    rfl
  obtain ⟨v, bk, rfl, hD, hlen, hle, q0, q1⟩ := h
  refine ⟨_, (pss_cons (ps_for PassesOwn.never rfl (pi_enum rfl T.n_enumerate (pa_cons (pv 0) pa_nil)) (tupK K 2 rfl (pgs_cons (pg_name (i := 1) sc_cl.nd rfl (Or.inl rfl)) (pgs_cons (tupK K 2 rfl (pgs_cons (pg_name (i := 2) sc_cl.nd rfl (Or.inl rfl)) (pgs_cons (pg_name (i := 3) sc_cl.nd rfl (Or.inl rfl)) pgs_nil))) pgs_nil))) (pss_one (ps_for PassesOwn.never rfl (piK K (pe_slice (slK K) (pv 0) po_none (po_some (pv 1)))) (tupK K 2 rfl (pgs_cons (pg_name (i := 4) sc_cl.nd rfl (Or.inl rfl)) (pgs_cons (pg_name (i := 5) sc_cl.nd rfl (Or.inl rfl)) pgs_nil))) (pss_one (ps_if (pt_cmpR g_isnot (pe_fn f_rest hr rfl (pa_cons (pv 5) (pa_cons (pv 3) pa_nil))) pe_non (nomark _)) (pss_one (ps_ret (pe_tup (pa_cons (pv 4) (pa_cons (pv 2) pa_nil))))) pss_nil)))))
    (pss_one (ps_ret pe_non))), ?_⟩
  unfold bookD at hD
  unfold Den at hD
  obtain ⟨l, vs, rfl, hS, hDs⟩ := hD
  have hvl : vs.length = bk.length := by rw [hDs.len, List.length_map]
  have item : ∀ i (hi : i < bk.length), ∃ a, vs[i]? = some (.ref a) ∧ SqT K H a [.str bk[i].1, .str bk[i].2] := fun i hi => by
    obtain ⟨x, hx, dx⟩ := hDs.get (i := i) (d := .tuple [.str bk[i].1, .str bk[i].2]) (by rw [List.getElem?_map, List.getElem?_eq_getElem hi]; rfl)
    obtain ⟨a, rfl, hT⟩ := dx.pair
    exact ⟨a, hx, hT⟩
  have hcl : ∀ i (hi : i < bk.length), bk[i].2.length ≤ 1000000 := fun i hi => Nat.le_trans (hle _ (List.getElem_mem hi)) (by decide)
  refine ⟨_, rfl, l, rfl, ⟨_, hS⟩, ?_⟩
  refine for_go (N := bk.length) (fun j σ H' => Same H H' ∧ NoC bk j ∧ ∃ x1 x2 x3 x4 x5, σ = [some (.ref l), x1, x2, x3, x4, x5]) ⟨Same.refl _, fun i' j' a b _ h => absurd h (Nat.not_lt_zero _), _, _, _, _, _, rfl⟩ ?_ ?_
  · rintro j σ H' hj ⟨sm, nc, x1, x2, x3, x4, x5, rfl⟩
    obtain ⟨a, hx, hT⟩ := item j hj
    refine ⟨⟨_, _, sm.seq hS, hx⟩, ?_⟩
    rintro x H2 ⟨t1, rfl, ht1, hy⟩
    have e := hy _ _ (sm.seq hS) hx
    subst e
    have sm2 := sm.trans (same_new ht1 (.tup [.int j, .ref a]))
    refine ⟨t1, _, rfl, SqT.of upd_same, rfl, _, _, rfl, _, _, rfl, a, _, rfl, sm2.seqT hT, rfl, _, _, rfl, _, _, rfl, rfl, rfl, ?_⟩
    refine ⟨_, rfl, _, rfl, _, rfl, .inl ⟨l, _, rfl, sm2.seq hS, fun p hp => ?_⟩⟩
    rw [cut_take vs j (by omega)]
    have sm3 := sm2.trans (same_new hp (.lst (vs.take j)))
    refine ⟨p, rfl, ⟨_, SqL.of upd_same⟩, ?_⟩
    refine for_list (xs := vs.take j) (fun i σ H4 => Same (upd (upd H' t1 (.tup [.int j, .ref a])) p (.lst (vs.take j))) H4 ∧ (∀ (i' : Nat) a', i' < i → bk[i']? = some a' → restV a'.2 bk[j].2 = .non) ∧ ∃ y4 y5, σ = [some (.ref l), some (.int j), some (.str bk[j].1), some (.str bk[j].2), y4, y5]) ⟨Same.refl _, fun i' a' h => absurd h (Nat.not_lt_zero _), _, _, rfl⟩ ?_ ?_ ?_
    · rintro i σ H4 hi ⟨sm4, _, _⟩
      exact sm4.seq (SqL.of upd_same)
    · rintro i x σ H4 hix ⟨sm4, ng, y4, y5, rfl⟩
      have hij : i < j := by
        have := (List.getElem?_eq_some_iff.mp hix).1
        rw [List.length_take] at this; omega
      have hib : i < bk.length := by omega
      obtain ⟨a', hx', hT'⟩ := item i hib
      rw [List.getElem?_take_of_lt hij, hx'] at hix
      cases hix
      have sm5 := sm3.trans sm4
      refine ⟨a', _, rfl, sm5.seqT hT', rfl, _, _, rfl, _, _, rfl, rfl, ?_⟩
      refine ⟨_, rfl, _, rfl, bk[i].2, bk[j].2, rfl, hcl i hib, hcl j hj, .inl ⟨rfl, _, rfl, ?_⟩⟩
      refine ite2 (fun c => ?_) (fun c => ?_)
      · have hr : restV bk[i].2 bk[j].2 ≠ .non := by simpa using c
        refine ⟨_, rfl, _, rfl, by show 2 ≤ sizeLine; decide, fun t2 ht2 => ?_⟩
        exact q1 i j bk[i] bk[j] (List.getElem?_eq_getElem hib) (List.getElem?_eq_getElem hj) hij nc ng hr t2 _ (sm5.trans (same_new ht2 _)) (sm5.free ht2) upd_same
      · have hr : restV bk[i].2 bk[j].2 = .non := by simpa using c
        refine ⟨sm4, fun i' b' hi' hb' => ?_, _, _, rfl⟩
        by_cases z : i' < i
        · exact ng i' b' z hb'
        · have : i' = i := by omega
          subst this
          rw [List.getElem?_eq_getElem hib] at hb'; cases hb'
          exact hr
    · rintro σ H4 ⟨sm4, ng, y4, y5, rfl⟩
      refine ⟨sm3.trans sm4, fun i' j' a1 b1 h1 h2 e1 e2 => ?_, _, _, _, _, _, rfl⟩
      by_cases z : j' < j
      · exact nc i' j' a1 b1 h1 z e1 e2
      · have : j' = j := by omega
        subst this
        rw [List.getElem?_eq_getElem hj] at e2; cases e2
        exact ng i' a1 (by rw [List.length_take]; omega) e1
  · rintro σ H' ⟨sm, nc, x1, x2, x3, x4, x5, rfl⟩
    exact ⟨⟨_, sm.seq hS, by rw [hvl]; exact Nat.le_refl _⟩, q0 nc H' sm⟩
end
end Z

set_option Elab.async false
set_option linter.all false
set_option maxRecDepth 100000
set_option maxHeartbeats 4000000
namespace Z
open PySem L2
theorem starts_iff (x y : Str) : Txt.startswith x y = true ↔ sg y <+: sg x := by
  have hl : y.length = (sg y).length := str_len y
  have hx : x.length = (sg x).length := str_len x
  have e : (x.cps.extract 0 (0 + y.length) == y.cps) = true ↔ (sg x).take y.length = sg y := by
    rw [beq_iff_eq, ← Array.toList_inj]
    simp [Array.toList_extract]
  show (decide (0 + y.length ≤ x.length) && (x.cps.extract 0 (0 + y.length) == y.cps)) = true ↔ _
  rw [Bool.and_eq_true, decide_eq_true_iff, e]
  constructor
  · rintro ⟨_, h⟩
    rw [← h]
    exact List.take_prefix _ _
  · intro h
    exact ⟨by have := h.length_le; omega, by rw [hl]; exact (List.prefix_iff_eq_take.mp h).symm⟩
theorem restV_non {a b : Str} : restV a b = .non ↔ RF a b := by
  unfold restV RF
  by_cases h1 : Txt.startswith a b = true
  · rw [if_pos h1]
    exact ⟨(fun z => nomatch z), fun z => absurd ((starts_iff a b).mp h1) z.2⟩
  · rw [if_neg h1]
    by_cases h2 : Txt.startswith b a = true
    · rw [if_pos h2]
      exact ⟨(fun z => nomatch z), fun z => absurd ((starts_iff b a).mp h2) z.1⟩
    · rw [if_neg h2]
      exact ⟨fun _ => ⟨fun z => h2 ((starts_iff b a).mpr z), fun z => h1 ((starts_iff a b).mpr z)⟩, fun _ => rfl⟩
theorem noC_iff (bk : List (Str × Str)) : NoC bk bk.length ↔ Free (bk.map (·.2)) := by
  constructor
  · intro h
    refine List.pairwise_iff_getElem.mpr fun i j hi hj hij => ?_
    rw [List.length_map] at hi hj
    rw [List.getElem_map, List.getElem_map]
    exact restV_non.mp (h i j _ _ hij hj (List.getElem?_eq_getElem hi) (List.getElem?_eq_getElem hj))
  · intro h i j a b hij hj ha hb
    obtain ⟨hi', rfl⟩ := List.getElem?_eq_some_iff.mp ha
    obtain ⟨hj', rfl⟩ := List.getElem?_eq_some_iff.mp hb
    have z := List.pairwise_iff_getElem.mp h i j (by rw [List.length_map]; exact hi') (by rw [List.length_map]; exact hj') hij
    rw [List.getElem_map, List.getElem_map] at z
    exact restV_non.mpr z
def spFree (K : PySem.W.Frag) : Sp := fun vs H Q _ => ∃ (v : V) (bk : List (Str × Str)), vs = [v] ∧ Den K H (bookD bk) v ∧ bk.length ≤ 1000 ∧ (∀ q ∈ bk, q.2.length ≤ 1000) ∧
  (Free (bk.map (·.2)) → ∀ H', Same H H' → Q (.bl true) H') ∧ (¬ Free (bk.map (·.2)) → ∀ H', Same H H' → Q (.bl false) H')
section
variable {P : Program} {w : World} {K : PySem.W.Frag} {mg : Str → Option Value} {base : Heap} {f : Addr} {fd : FuncData}
theorem sc_free : FnScope ["book"] ["book"] (defScope (top i_free)) := ⟨rfl, rfl, rfl, by decide +kernel, rfl, by decide +kernel, by decide +kernel⟩
theorem ok_free (F : Fun K "free" "free" (top i_free) f fd) (T : Nm mg) (f_clash : Fn P w K mg base 2 "clash" ["book"] (spClash K)) : FnOk P w K mg base CX0 3 f fd ["book"] (spFree K) := by
  refine F.ok sc_free (fun vs H Q E h => ?_) (fun cdv A outer s H vs Q E hr h => ?_)
  · obtain ⟨v, bk, rfl, _⟩ := h
    rfl
  obtain ⟨v, bk, rfl, hD, hl, hc, q1, q2⟩ := h
  refine ⟨_, (pss_one (ps_ret (pe_cmpR g_is (pe_fn (f_clash.mono (by first | decide | exact Nat.le_refl _)) hr rfl (pa_cons (pv 0) pa_nil)) pe_non (nomark _)))), ?_⟩
  refine ⟨_, rfl, v, bk, rfl, hD, hl, hc, fun nc H' sm => .inl ⟨rfl, q1 ((noC_iff bk).mp nc) H' sm⟩, fun i j a b ha hb hij _ _ hne p H' sm hp hp' => .inl ⟨rfl, q2 (fun fr => ?_) H' sm⟩⟩
  exact hne ((noC_iff bk).mpr fr i j a b hij (List.getElem?_eq_some_iff.mp hb).1 ha hb)
end
end Z

set_option Elab.async false
set_option linter.all false
set_option maxRecDepth 100000
set_option maxHeartbeats 4000000
namespace Z
open PySem L2
/-- the first clash is at i and j -/
structure FirstAt (bk : List (Str × Str)) (i j : Nat) (a b : Str × Str) : Prop where
  ha : bk[i]? = some a
  hb : bk[j]? = some b
  lt : i < j
  no : NoC bk j
  le : ∀ (i' : Nat) a', i' < i → bk[i']? = some a' → restV a'.2 b.2 = .non
  ne : restV a.2 b.2 ≠ .non
def isRes (bk : List (Str × Str)) (d : PyData) : Prop := (NoC bk bk.length ∧ d = .none) ∨ ∃ i j a b, FirstAt bk i j a b ∧ d = .tuple [.str a.1, .str b.1]
theorem isRes.one {bk : List (Str × Str)} {d e : PyData} (h : isRes bk d) (h' : isRes bk e) : d = e := by
  rcases h with ⟨nc, rfl⟩ | ⟨i, j, a, b, f, rfl⟩
  · rcases h' with ⟨_, rfl⟩ | ⟨i, j, a, b, f, rfl⟩
    · rfl
    · exact absurd (nc i j a b f.lt (List.getElem?_eq_some_iff.mp f.hb).1 f.ha f.hb) f.ne
  · rcases h' with ⟨nc, rfl⟩ | ⟨i', j', a', b', f', rfl⟩
    · exact absurd (nc i j a b f.lt (List.getElem?_eq_some_iff.mp f.hb).1 f.ha f.hb) f.ne
    · have hj : j = j' := by
        rcases Nat.lt_trichotomy j j' with h | h | h
        · exact absurd (f'.no i j a b f.lt h f.ha f.hb) f.ne
        · exact h
        · exact absurd (f.no i' j' a' b' f'.lt h f'.ha f'.hb) f'.ne
      subst hj
      have eb : b = b' := Option.some.inj (f.hb.symm.trans f'.hb)
      subst eb
      have hi : i = i' := by
        rcases Nat.lt_trichotomy i i' with h | h | h
        · exact absurd (f'.le i a h f.ha) f.ne
        · exact h
        · exact absurd (f.le i' a' h f'.ha) f'.ne
      subst hi
      have ea : a = a' := Option.some.inj (f.ha.symm.trans f'.ha)
      rw [ea]
end Z

set_option Elab.async false
set_option linter.all false
set_option maxRecDepth 100000
set_option maxHeartbeats 4000000
namespace Z
open PySem L2
def spHalves (K : PySem.W.Frag) : Sp := fun vs H Q _ => ∃ (v : V) (bk : List (Str × Str)), vs = [v] ∧ Den K H (bookD bk) v ∧ bk ≠ [] ∧ bk.length ≤ 1000 ∧ (∀ q ∈ bk, q.2.length ≤ 1000) ∧
  ∀ (M : Nat) (p : Addr) (H' : Hp), M ∈ bk.map (·.2.length) → (∀ q ∈ bk, q.2.length ≤ M) → Same H H' → H p = none → H' p = some (.tup [.int ((bk.map fun q => (2 : Int) ^ (M - q.2.length)).sum), .int (2 ^ M)]) → Q (.ref p) H'
section
variable {P : Program} {w : World} {K : PySem.W.Frag} {mg : Str → Option Value} {base : Heap} {f : Addr} {fd : FuncData}
theorem sc_hv : FnScope ["book"] ["book"] (defScope (top i_halves)) := ⟨rfl, rfl, rfl, by decide +kernel, rfl, by decide +kernel, by decide +kernel⟩
theorem ok_hv (F : Fun K "halves" "halves" (top i_halves) f fd) (T : Nm mg) (f_hb : Fn P w K mg base 2 "halves_by" ["lengths"] (spHalvesBy K)) : FnOk P w K mg base CX0 3 f fd ["book"] (spHalves K) := by
  refine F.ok sc_hv (fun vs H Q E h => ?_) (fun cdv A outer s H vs Q E hr h => ?_)
  · obtain ⟨l, ns, rfl, _⟩ := h
    rfl
  obtain ⟨v, bk, rfl, hD, hne, hlen, hle, q⟩ := h
  refine ⟨_, (pss_one (ps_ret (pe_fn f_hb hr rfl (pa_cons (pe_lcomp rfl (comp_ok (Nc := ["name", "code"]) (Fc := []) (js := [])) (piK K (pv 0)) (gk_tup (gks_cons (gk_name (i := 0) (n := 2) (by decide)) (gks_cons (gk_name (i := 1) (n := 2) (by decide)) gks_nil gm_name gms_nil) gm_name (gms_cons gm_name gms_nil))) (fun _ _ _ _ _ => (tupK K 2 rfl (pgs_cons (pg_name (i := 0) (show (["name", "code"] : List Str).Nodup by decide +kernel) rfl (Or.inl rfl)) (pgs_cons (pg_name (i := 1) (show (["name", "code"] : List Str).Nodup by decide +kernel) rfl (Or.inl rfl)) pgs_nil)))) (fun _ _ _ _ _ => pts_nil) (fun _ _ _ _ _ => (pe_callB (lenK K) rfl T.n_len (by rfl) (pa_cons (pv 1) pa_nil)))) pa_nil)))), ?_⟩
  unfold bookD at hD
  unfold Den at hD
  obtain ⟨l, vs, rfl, hS, hDs⟩ := hD
  have hvl : vs.length = bk.length := by rw [hDs.len, List.length_map]
  refine ⟨_, rfl, l, rfl, ⟨_, hS⟩, ?_⟩
  refine comp_go (N := bk.length) (fun i ys H' => H' = H ∧ ys = ((bk.take i).map fun q => V.int (q.2.length : Nat))) ⟨rfl, rfl⟩ ?_ ?_
  · rintro i ys H' Nx hi ⟨rfl, rfl⟩ nx
    obtain ⟨x, hx, dx⟩ := hDs.get (i := i) (d := .tuple [.str bk[i].1, .str bk[i].2]) (by rw [List.getElem?_map, List.getElem?_eq_getElem hi]; rfl)
    obtain ⟨a, rfl, hT⟩ := dx.pair
    refine ⟨⟨_, _, hS, hx⟩, Nat.lt_of_le_of_lt (by rw [List.length_map, List.length_take]; omega) (show 1000 < sizeLine by decide), ?_⟩
    rintro x' H2 ⟨rfl, hy⟩
    have e := hy _ hS
    rw [hx] at e; cases e
    refine ⟨a, _, rfl, hT, rfl, _, _, rfl, _, _, rfl, rfl, ?_⟩
    refine ⟨_, rfl, _, _, rfl, ⟨sizeOk (Nat.le_trans (hle bk[i] (List.getElem_mem hi)) (by decide)), rfl⟩, nx _ _ ⟨rfl, ?_⟩⟩
    rw [List.take_succ_eq_append_getElem hi, List.map_append]; rfl
  · rintro ys H' ⟨rfl, rfl⟩
    refine ⟨⟨_, hS, by rw [hvl]; exact Nat.le_refl _⟩, fun p hp => ?_⟩
    refine ⟨p, bk.map (·.2.length), rfl, SqL.of ?_, by simpa using hne, by simpa using hlen, fun n hn => ?_, fun M t H2 hM hmx sm ht0 ht => ?_⟩
    · rw [upd_same, List.take_length, List.map_map]; rfl
    · obtain ⟨c, hc, rfl⟩ := List.mem_map.mp hn
      exact hle c hc
    · refine q M t H2 hM (fun c hc => hmx _ (List.mem_map.mpr ⟨c, hc, rfl⟩)) ((same_new hp _).trans sm) ?_ (by rw [ht, List.map_map]; rfl)
      cases z : H' t with
      | none => rfl
      | some o => rw [upd_ne (ne_of_none z hp)] at ht0; rw [z] at ht0; cases ht0
end
end Z

set_option Elab.async false
set_option linter.all false
set_option maxRecDepth 100000
set_option maxHeartbeats 4000000
namespace Z
open PySem L2
/-- the shares of codes in a whole of M halvings -/
def shares (M : Nat) (cs : List (List Nat)) : Nat := (cs.map fun c => 2 ^ (M - c.length)).sum
def RN (a b : List Nat) : Prop := ¬ (a <+: b) ∧ ¬ (b <+: a)
def tl (h : Nat) : List Nat → Option (List Nat)
  | [] => none
  | x :: r => if x = h then some r else none
theorem tl_some {h : Nat} {c r : List Nat} (e : tl h c = some r) : c = h :: r := by
  cases c with
  | nil => cases e
  | cons x s =>
    have e : (if x = h then some s else none) = some r := e
    by_cases hx : x = h
    · rw [if_pos hx] at e; cases e; rw [hx]
    · rw [if_neg hx] at e; cases e
theorem shares_split (M : Nat) : ∀ (cs : List (List Nat)), (∀ c ∈ cs, ∃ r, c = 48 :: r ∨ c = 49 :: r) → shares (M + 1) cs = shares M (cs.filterMap (tl 48)) + shares M (cs.filterMap (tl 49))
  | [], _ => rfl
  | c :: cs, h => by
    have ih := shares_split M cs fun d hd => h d (List.mem_cons_of_mem _ hd)
    obtain ⟨r, rfl | rfl⟩ := h c List.mem_cons_self
    · have e1 : tl 48 (48 :: r) = some r := rfl
      have e2 : tl 49 (48 :: r) = none := rfl
      rw [List.filterMap_cons_some e1, List.filterMap_cons_none e2]
      simp only [shares, List.map_cons, List.sum_cons, List.length_cons, Nat.add_sub_add_right] at ih ⊢
      omega
    · have e1 : tl 48 (49 :: r) = none := rfl
      have e2 : tl 49 (49 :: r) = some r := rfl
      rw [List.filterMap_cons_some e2, List.filterMap_cons_none e1]
      simp only [shares, List.map_cons, List.sum_cons, List.length_cons, Nat.add_sub_add_right] at ih ⊢
      omega
theorem tl_pair {h : Nat} {cs : List (List Nat)} (p : cs.Pairwise RN) : (cs.filterMap (tl h)).Pairwise RN := by
  refine List.Pairwise.filterMap (tl h) (fun a a' r b hb b' hb' => ?_) p
  have ea := tl_some hb
  have ea' := tl_some hb'
  subst ea ea'
  exact ⟨fun z => r.1 ((List.prefix_cons_inj h).mpr z), fun z => r.2 ((List.prefix_cons_inj h).mpr z)⟩
/-- codes that are free of one another fill no more than the whole -/
theorem kraft : ∀ (M : Nat) (cs : List (List Nat)), cs.Pairwise RN → (∀ c ∈ cs, c.length ≤ M ∧ ∀ x ∈ c, x = 48 ∨ x = 49) → shares M cs ≤ 2 ^ M := by
  intro M
  induction M with
  | zero =>
    intro cs p h
    cases cs with
    | nil => exact Nat.zero_le _
    | cons c cs =>
      cases cs with
      | nil => simp [shares]
      | cons d cs =>
        have hc : c = [] := List.length_eq_zero_iff.mp (Nat.le_zero.mp (h c List.mem_cons_self).1)
        have r := (List.pairwise_cons.mp p).1 d List.mem_cons_self
        exact absurd (by rw [hc]; exact List.nil_prefix) r.1
  | succ M ih =>
    intro cs p h
    by_cases h0 : [] ∈ cs
    · obtain ⟨A, B, rfl⟩ := List.append_of_mem h0
      obtain ⟨_, pB, pAB⟩ := List.pairwise_append.mp p
      have hA : A = [] := by
        cases A with
        | nil => rfl
        | cons a A => exact absurd List.nil_prefix (pAB a List.mem_cons_self [] List.mem_cons_self).2
      have hB : B = [] := by
        cases B with
        | nil => rfl
        | cons b B => exact absurd List.nil_prefix ((List.pairwise_cons.mp pB).1 b List.mem_cons_self).1
      subst hA hB
      simp [shares]
    · have hh : ∀ c ∈ cs, ∃ r, c = 48 :: r ∨ c = 49 :: r := fun c hc => by
        cases c with
        | nil => exact absurd hc h0
        | cons x r =>
          rcases (h _ hc).2 x List.mem_cons_self with rfl | rfl
          · exact ⟨r, .inl rfl⟩
          · exact ⟨r, .inr rfl⟩
      rw [shares_split M cs hh]
      have part : ∀ g, shares M (cs.filterMap (tl g)) ≤ 2 ^ M := fun g => ih _ (tl_pair p) fun c hc => by
        obtain ⟨d, hd, e⟩ := List.mem_filterMap.mp hc
        have e := tl_some e
        subst e
        obtain ⟨h1, h2⟩ := h _ hd
        exact ⟨by rw [List.length_cons] at h1; omega, fun x hx => h2 x (List.mem_cons_of_mem _ hx)⟩
      have := part 48
      have := part 49
      rw [Nat.pow_succ]
      omega
theorem shares_int (M : Nat) (bk : List (Str × Str)) : ((bk.map fun q => (2 : Int) ^ (M - q.2.length)).sum) = ((shares M (bk.map fun q => sg q.2) : Nat) : Int) := by
  induction bk with
  | nil => rfl
  | cons q bk ih =>
    simp only [shares, List.map_cons, List.sum_cons] at ih ⊢
    rw [ih, str_len]
    simp
theorem kraft_book {M : Nat} {bk : List (Str × Str)} (fr : Free (bk.map (·.2))) (h : ∀ q ∈ bk, q.2.length ≤ M ∧ Bin q.2) : ((bk.map fun q => (2 : Int) ^ (M - q.2.length)).sum) ≤ 2 ^ M := by
  rw [shares_int]
  have k := kraft M (bk.map fun q => sg q.2) (by
    have fr := List.pairwise_map.mp fr
    exact List.pairwise_map.mpr (fr.imp fun r => r)) (fun c hc => by
      obtain ⟨q, hq, rfl⟩ := List.mem_map.mp hc
      exact ⟨by rw [← str_len]; exact (h q hq).1, (h q hq).2⟩)
  have e : ((2 : Int) ^ M) = ((2 ^ M : Nat) : Int) := by simp
  rw [e]
  exact Int.ofNat_le.mpr k
end Z

set_option Elab.async false
set_option linter.all false
set_option maxRecDepth 100000
set_option maxHeartbeats 4000000
namespace Z
open PySem L2
end Z

set_option Elab.async false
set_option linter.all false
set_option maxRecDepth 100000
set_option maxHeartbeats 4000000
namespace Z
open PySem L2
/-- the codes are told by the lengths alone -/
theorem LcR.one {ns : List Nat} {cs ds : List Str} (h : LcR ns cs) (h' : LcR ns ds) : cs = ds := by
  obtain ⟨l1, o1, p1, w1, g1⟩ := h
  obtain ⟨l2, o2, p2, w2, g2⟩ := h'
  have e := order_one (p1.trans p2.symm) w1 w2
  subst e
  refine List.ext_getElem? fun i => ?_
  by_cases hi : i < ns.length
  · obtain ⟨k, hk, ek⟩ := List.mem_iff_getElem.mp (p1.symm.subset (List.mem_range.mpr hi))
    have e : o1[k]? = some i := by rw [List.getElem?_eq_getElem hk, ek]
    rw [g1 k i e, g2 k i e]
  · rw [List.getElem?_eq_none (by omega), List.getElem?_eq_none (by omega)]
theorem LcR.len {ns : List Nat} {cs : List Str} (h : LcR ns cs) : ∀ (i : Nat) y, cs[i]? = some y → Bin y ∧ ns[i]? = some y.length := fun i y e => by
  obtain ⟨l1, o1, p1, w1, g1⟩ := h
  have hi : i < ns.length := by have := (List.getElem?_eq_some_iff.mp e).1; omega
  obtain ⟨k, hk, ek⟩ := List.mem_iff_getElem.mp (p1.symm.subset (List.mem_range.mpr hi))
  have e1 : o1[k]? = some i := by rw [List.getElem?_eq_getElem hk, ek]
  have g := g1 k i e1
  rw [e] at g
  cases g
  refine ⟨fun ch h => digs_bin _ _ ch h, ?_⟩
  rw [figs_len, List.getElem?_eq_getElem hi]
  simp [List.getD, hi]
theorem bookW : ∀ {bk : List (Str × Str)}, (∀ q ∈ bk, q.1.length ≤ 8 ∧ q.2.length ≤ 60) → PyData.weightAll (bk.map fun q => .tuple [.str q.1, .str q.2]) ≤ bk.length * 71
  | [], _ => by simp [PyData.weightAll]
  | q :: bk, h => by
    have ih := bookW fun r hr => h r (List.mem_cons_of_mem _ hr)
    obtain ⟨h1, h2⟩ := h q List.mem_cons_self
    have e1 : q.1.cps.size = q.1.length := rfl
    have e2 : q.2.cps.size = q.2.length := rfl
    rw [List.map_cons, List.length_cons]
    simp only [PyData.weight, PyData.weightAll]
    omega
theorem bookDp (bk : List (Str × Str)) : PyData.depth (bookD bk) ≤ 3 := by
  have z : ∀ bk : List (Str × Str), PyData.depthAll (bk.map fun q => .tuple [.str q.1, .str q.2]) ≤ 2 := fun bk => by
    induction bk with
    | nil => simp [PyData.depthAll]
    | cons q bk ih =>
      rw [List.map_cons]
      simp only [PyData.depthAll, PyData.depth] at ih ⊢
      omega
  have := z bk
  unfold bookD
  simp only [PyData.depth]
  omega
end Z

set_option Elab.async false
set_option linter.all false
set_option maxRecDepth 100000
set_option maxHeartbeats 4000000
namespace Z
open PySem L2
/-- codes_by of lengths that have room -/
def spCBf (K : PySem.W.Frag) : Sp := fun vs H Q _ => ∃ (l : Addr) (bk : List (Str × Nat)), vs = [.ref l] ∧ LenAt K H bk l ∧ 1 ≤ bk.length ∧ bk.length < 64 ∧ (∀ q ∈ bk, 1 ≤ q.2 ∧ q.2 ≤ 60) ∧ Fits (bk.map (·.2)) ∧
  ∀ (cs : List Str) (as : List Addr) (p : Addr) (H' : Hp), LcR (bk.map (·.2)) cs → Same H H' → H p = none → H' p = some (.lst (as.map V.ref)) → as.length = bk.length → (∀ (i : Nat) a q y, as[i]? = some a → bk[i]? = some q → cs[i]? = some y → H' a = some (.tup [.str q.1, .str y])) → Q (.ref p) H'
theorem spCBf_of {K : PySem.W.Frag} {C : Addr} {vs : List V} {H : Hp} {Q : VK} {E : XK} (h : spCBf K vs H Q E) : spCB K LcR C vs H Q (fun _ _ _ => False) := by
  obtain ⟨l, bk, e, h1, h2, h3, h4, h5, q⟩ := h
  exact ⟨l, bk, e, h1, h2, h3, h4, fun _ => q, fun nf => absurd h5 nf⟩
end Z

set_option Elab.async false
set_option linter.all false
set_option maxRecDepth 100000
set_option maxHeartbeats 4000000
namespace Z
open PySem L2
/-- two things that tell one data are the same; n calls deep -/
def spSame (K : PySem.W.Frag) (n : Nat) : Sp := fun vs H Q _ => ∃ (v1 v2 : V) (d : PyData), vs = [v1, v2] ∧ Den K H d v1 ∧ Den K H d v2 ∧ d.depth < n ∧ d.weight ≤ 1000000 ∧ ∀ H', Same H H' → Q (.bl true) H'
section
variable {P : Program} {w : World} {K : PySem.W.Frag} {mg : Str → Option Value} {base : Heap} {f : Addr} {fd : FuncData}
theorem sc_law_same : FnScope ["_law_found", "_law_due"] ["_law_found", "_law_due"] (defScope (top i_law_same)) := ⟨rfl, rfl, rfl, by decide +kernel, rfl, by decide +kernel, by decide +kernel⟩
theorem ok_same {n : Nat} (F : Fun K "_law_same" "_law_same" (top i_law_same) f fd) (T : Nm mg) (f_law_same : Fn P w K mg base n "_law_same" ["_law_found", "_law_due"] (spSame K n)) : FnOk P w K mg base CX0 (n + 1) f fd ["_law_found", "_law_due"] (spSame K (n + 1)) := by
  refine F.ok sc_law_same (fun vs H Q E h => ?_) (fun cdv A outer s H vs Q E hr h => ?_)
  · obtain ⟨v1, v2, d, rfl, _⟩ := h
    rfl
  obtain ⟨v1, v2, d, rfl, d1, d2, hn, hw, q⟩ := h
  have hu6 := hr.units
  refine ⟨_, (pss_cons (ps_if (pt_cmpR g_is (pv 1) pe_non (nomark _)) (pss_one (ps_ret (pe_cmpR g_is (pv 0) pe_non (nomark _)))) pss_nil)
    (pss_cons (ps_if (pt_val (pe_callB (isiK K) rfl T.n_isinstance (by rfl) (pa_cons (pv 1) (pa_cons (pe_bltn rfl T.n_bool (by rfl) (v := .ty "bool") rfl) pa_nil)))) (pss_one (ps_ret (pe_and (pe_callB (isiK K) rfl T.n_isinstance (by rfl) (pa_cons (pv 0) (pa_cons (pe_bltn rfl T.n_bool (by rfl) (v := .ty "bool") rfl) pa_nil))) (pe_one (pe_cmpR (eqK K hu6) (pv 0) (pv 1) (nomark _)))))) pss_nil)
    (pss_cons (ps_if (pt_val (pe_callB (isiTK K) rfl T.n_isinstance (by rfl) (pa_cons (pv 1) (pa_cons (tupN (pa_cons (pe_bltn rfl T.n_list (by rfl) (v := .ty "list") rfl) (pa_cons (pe_bltn rfl T.n_tuple (by rfl) (v := .ty "tuple") rfl) pa_nil))) pa_nil)))) (pss_cons (ps_if (PW.pt (pw_or (pt_cmpR (neK K hu6) (pe_callB (isiK K) rfl T.n_isinstance (by rfl) (pa_cons (pv 0) (pa_cons (pe_bltn rfl T.n_list (by rfl) (v := .ty "list") rfl) pa_nil))) (pe_callB (isiK K) rfl T.n_isinstance (by rfl) (pa_cons (pv 1) (pa_cons (pe_bltn rfl T.n_list (by rfl) (v := .ty "list") rfl) pa_nil))) (nomark _)) (pw_or1 (pt_cmpR (neK K hu6) (pe_callB (isiK K) rfl T.n_isinstance (by rfl) (pa_cons (pv 0) (pa_cons (pe_bltn rfl T.n_tuple (by rfl) (v := .ty "tuple") rfl) pa_nil))) (pe_callB (isiK K) rfl T.n_isinstance (by rfl) (pa_cons (pv 1) (pa_cons (pe_bltn rfl T.n_tuple (by rfl) (v := .ty "tuple") rfl) pa_nil))) (nomark _))))) (pss_one (ps_ret pe_bl)) pss_nil)
    (pss_one (ps_ret (pe_and (pe_cmpR (eqK K hu6) (pe_callB (lenK K) rfl T.n_len (by rfl) (pa_cons (pv 0) pa_nil)) (pe_callB (lenK K) rfl T.n_len (by rfl) (pa_cons (pv 1) pa_nil)) (nomark _)) (pe_one (pe_callB (call_all_bl rfl) rfl T.n_all (by rfl) (pa_cons (pe_lcomp rfl (comp_ok (Nc := ["_law_one", "_law_other"]) (Fc := []) (js := [])) (pi_zipK K rfl T.n_zip (pa_cons (pv 0) (pa_cons (pv 1) pa_nil))) (gk_tup (gks_cons (gk_name (i := 0) (n := 2) (by decide)) (gks_cons (gk_name (i := 1) (n := 2) (by decide)) gks_nil gm_name gms_nil) gm_name (gms_cons gm_name gms_nil))) (fun _ _ _ _ _ => (tupK K 2 rfl (pgs_cons (pg_name (i := 0) (show (["_law_one", "_law_other"] : List Str).Nodup by decide +kernel) rfl (Or.inl rfl)) (pgs_cons (pg_name (i := 1) (show (["_law_one", "_law_other"] : List Str).Nodup by decide +kernel) rfl (Or.inl rfl)) pgs_nil)))) (fun _ _ _ _ _ => pts_nil) (fun _ _ _ _ _ => (pe_fn (f_law_same.mono (by first | decide | exact Nat.le_refl _)) hr rfl (pa_cons (pv 0) (pa_cons (pv 1) pa_nil))))) pa_nil))))))) pss_nil)
    (pss_cons (ps_if (pt_val (pe_callB (isiK K) rfl T.n_isinstance (by rfl) (pa_cons (pv 1) (pa_cons (pe_bltn rfl T.n_str (by rfl) (v := .ty "str") rfl) pa_nil)))) (pss_one (ps_ret (pe_and (pe_callB (isiK K) rfl T.n_isinstance (by rfl) (pa_cons (pv 0) (pa_cons (pe_bltn rfl T.n_str (by rfl) (v := .ty "str") rfl) pa_nil))) (pe_one (pe_cmpR (eqK K hu6) (pv 0) (pv 1) (nomark _)))))) pss_nil)
    (pss_one (ps_ret (pe_and (pe_callB (isiK K) rfl T.n_isinstance (by rfl) (pa_cons (pv 0) (pa_cons (pe_bltn rfl T.n_int (by rfl) (v := .ty "int") rfl) pa_nil))) (pe_and (pe_not (pe_callB (isiK K) rfl T.n_isinstance (by rfl) (pa_cons (pv 0) (pa_cons (pe_bltn rfl T.n_bool (by rfl) (v := .ty "bool") rfl) pa_nil)))) (pe_one (pe_cmpR (eqK K hu6) (pv 0) (pv 1) (nomark _))))))))))), ?_⟩
  refine ⟨_, rfl, .inl ⟨rfl, _, rfl, ?_⟩⟩
  cases d with
  | none =>
    unfold Den at d1 d2
    subst d1 d2
    exact iteT ⟨_, rfl, .inl ⟨rfl, q H (Same.refl _)⟩⟩
  | bool b =>
    have d1' := d1
    have d2' := d2
    unfold Den at d1' d2'
    subst d1' d2'
    refine iteF ⟨_, rfl, .inl ⟨_, "bool", .bool b, true, rfl, d2, rfl, _, rfl, iteT ?_⟩⟩
    refine ⟨_, rfl, .inl ⟨_, "bool", .bool b, true, rfl, d1, rfl, _, rfl, iteT ⟨_, rfl, _, rfl, .inl ⟨rfl, ?_⟩⟩⟩⟩
    rw [decide_eq_true rfl]
    exact q H (Same.refl _)
  | int i =>
    have d1' := d1
    have d2' := d2
    unfold Den at d1' d2'
    subst d1' d2'
    refine iteF ⟨_, rfl, .inl ⟨_, "bool", .int i, false, rfl, d2, rfl, _, rfl, iteF ?_⟩⟩
    refine ⟨_, rfl, by show 2 ≤ sizeLine; decide, fun p H1 n1 => ⟨_, p, ["list", "tuple"], .int i, false, rfl, n1.at, d2, rfl, _, rfl, iteF ?_⟩⟩
    refine ⟨_, rfl, .inl ⟨_, "str", .int i, false, rfl, d2, rfl, _, rfl, iteF ?_⟩⟩
    refine ⟨_, rfl, .inl ⟨_, "int", .int i, true, rfl, d1, rfl, _, rfl, iteT ⟨_, rfl, .inl ⟨_, "bool", .int i, false, rfl, d1, rfl, _, rfl, _, rfl, iteT ⟨_, rfl, _, rfl, .inl ⟨rfl, ?_⟩⟩⟩⟩⟩⟩
    rw [decide_eq_true rfl]
    exact q H1 n1.same
  | str x =>
    have d1' := d1
    have d2' := d2
    unfold Den at d1' d2'
    subst d1' d2'
    refine iteF ⟨_, rfl, .inl ⟨_, "bool", .str x, false, rfl, d2, rfl, _, rfl, iteF ?_⟩⟩
    refine ⟨_, rfl, by show 2 ≤ sizeLine; decide, fun p H1 n1 => ⟨_, p, ["list", "tuple"], .str x, false, rfl, n1.at, d2, rfl, _, rfl, iteF ?_⟩⟩
    refine ⟨_, rfl, .inl ⟨_, "str", .str x, true, rfl, d2, rfl, _, rfl, iteT ?_⟩⟩
    refine ⟨_, rfl, .inl ⟨_, "str", .str x, true, rfl, d1, rfl, _, rfl, iteT ⟨_, rfl, _, rfl, .inl ⟨rfl, ?_⟩⟩⟩⟩
    rw [decide_eq_true rfl]
    exact q H1 n1.same
  | list ds =>
    have e1 := d1
    have e2 := d2
    unfold Den at e1 e2
    obtain ⟨a1, vs1, rfl, s1, ds1⟩ := e1
    obtain ⟨a2, vs2, rfl, s2, ds2⟩ := e2
    simp only [PyData.depth] at hn
    simp only [PyData.weight] at hw
    have hlw := len_weight ds
    refine iteF ⟨_, rfl, .inl ⟨_, "bool", .list ds, false, rfl, d2, rfl, _, rfl, iteF ?_⟩⟩
    refine ⟨_, rfl, by show 2 ≤ sizeLine; decide, fun p H1 n1 => ⟨_, p, ["list", "tuple"], .list ds, true, rfl, n1.at, d2.same n1.same, rfl, _, rfl, iteT ?_⟩⟩
    have b1 := d1.same n1.same
    have b2 := d2.same n1.same
    refine ⟨_, rfl, .inl ⟨_, "list", .list ds, true, rfl, b1, rfl, _, rfl, .inl ⟨_, "list", .list ds, true, rfl, b2, rfl, .inl ⟨rfl, _, rfl, iteF ?_⟩⟩⟩⟩
    refine ⟨_, rfl, .inl ⟨_, "tuple", .list ds, false, rfl, b1, rfl, _, rfl, .inl ⟨_, "tuple", .list ds, false, rfl, b2, rfl, .inl ⟨rfl, _, rfl, iteF ?_⟩⟩⟩⟩
    refine ⟨_, rfl, _, _, rfl, .inl ⟨vs1, n1.same.seq s1, rfl⟩, _, rfl, _, _, rfl, .inl ⟨vs2, n1.same.seq s2, rfl⟩, .inl ⟨rfl, _, rfl, ?_⟩⟩
    rw [decide_eq_true (show V.int (vs1.length : Nat) = V.int (vs2.length : Nat) by rw [ds1.len, ds2.len])]
    refine iteT ⟨_, rfl, _, rfl, false, false, a1, a2, rfl, ⟨_, n1.same.seq s1⟩, ⟨_, n1.same.seq s2⟩, ?_⟩
    refine comp_go (N := ds.length) (fun i ys H' => Same H1 H' ∧ ys = (List.replicate i true).map V.bl) ⟨Same.refl _, rfl⟩ ?_ ?_
    · rintro i ys H2 Nx hi ⟨sm, rfl⟩ nx
      have sm2 := n1.same.trans sm
      obtain ⟨x, hx, dx⟩ := ds1.get (i := i) (d := ds[i]) (List.getElem?_eq_getElem hi)
      obtain ⟨y, hy, dy⟩ := ds2.get (i := i) (d := ds[i]) (List.getElem?_eq_getElem hi)
      have q1 : SqK false K H2 a1 vs1 := sm2.seq s1
      have q2 : SqK false K H2 a2 vs2 := sm2.seq s2
      refine ⟨⟨_, _, _, _, q1, q2, hx, hy⟩, by rw [List.length_map, List.length_replicate]; exact Nat.lt_of_lt_of_le (show i < 10000000 by omega) (by decide), ?_⟩
      rintro x' H3 ⟨T', rfl, hN⟩
      have n3 := hN _ _ _ _ q1 q2 hx hy
      refine ⟨T', _, rfl, SqT.of n3.at, rfl, _, _, rfl, _, _, rfl, rfl, ?_⟩
      have sm3 := sm2.trans n3.same
      refine ⟨_, rfl, _, rfl, x, y, ds[i], rfl, dx.same sm3, dy.same sm3, ?_, ?_, fun H4 sm4 => nx _ _ ⟨sm.trans (n3.same.trans sm4), ?_⟩⟩
      · have := depth_at (n := n - 1) (by omega) (List.getElem_mem hi)
        omega
      · exact weight_at hw (List.getElem_mem hi)
      · rw [List.replicate_succ', List.map_append]; rfl
    · rintro ys H2 ⟨sm, rfl⟩
      have sm2 := n1.same.trans sm
      have q1 : SqK false K H2 a1 vs1 := sm2.seq s1
      have q2 : SqK false K H2 a2 vs2 := sm2.seq s2
      refine ⟨⟨_, _, q1, q2, .inl (by rw [ds1.len]; exact Nat.le_refl _)⟩, fun p2 hp2 => ?_⟩
      refine ⟨p2, List.replicate ds.length true, rfl, SqL.of upd_same, ?_⟩
      rw [all_true]
      exact q _ (sm2.trans (same_new hp2 _))
  | tuple ds =>
    have e1 := d1
    have e2 := d2
    unfold Den at e1 e2
    obtain ⟨a1, vs1, rfl, s1, ds1⟩ := e1
    obtain ⟨a2, vs2, rfl, s2, ds2⟩ := e2
    simp only [PyData.depth] at hn
    simp only [PyData.weight] at hw
    have hlw := len_weight ds
    refine iteF ⟨_, rfl, .inl ⟨_, "bool", .tuple ds, false, rfl, d2, rfl, _, rfl, iteF ?_⟩⟩
    refine ⟨_, rfl, by show 2 ≤ sizeLine; decide, fun p H1 n1 => ⟨_, p, ["list", "tuple"], .tuple ds, true, rfl, n1.at, d2.same n1.same, rfl, _, rfl, iteT ?_⟩⟩
    have b1 := d1.same n1.same
    have b2 := d2.same n1.same
    refine ⟨_, rfl, .inl ⟨_, "list", .tuple ds, false, rfl, b1, rfl, _, rfl, .inl ⟨_, "list", .tuple ds, false, rfl, b2, rfl, .inl ⟨rfl, _, rfl, iteF ?_⟩⟩⟩⟩
    refine ⟨_, rfl, .inl ⟨_, "tuple", .tuple ds, true, rfl, b1, rfl, _, rfl, .inl ⟨_, "tuple", .tuple ds, true, rfl, b2, rfl, .inl ⟨rfl, _, rfl, iteF ?_⟩⟩⟩⟩
    refine ⟨_, rfl, _, _, rfl, .inr ⟨vs1, n1.same.seqT s1, rfl⟩, _, rfl, _, _, rfl, .inr ⟨vs2, n1.same.seqT s2, rfl⟩, .inl ⟨rfl, _, rfl, ?_⟩⟩
    rw [decide_eq_true (show V.int (vs1.length : Nat) = V.int (vs2.length : Nat) by rw [ds1.len, ds2.len])]
    refine iteT ⟨_, rfl, _, rfl, true, true, a1, a2, rfl, ⟨_, n1.same.seqT s1⟩, ⟨_, n1.same.seqT s2⟩, ?_⟩
    refine comp_go (N := ds.length) (fun i ys H' => Same H1 H' ∧ ys = (List.replicate i true).map V.bl) ⟨Same.refl _, rfl⟩ ?_ ?_
    · rintro i ys H2 Nx hi ⟨sm, rfl⟩ nx
      have sm2 := n1.same.trans sm
      obtain ⟨x, hx, dx⟩ := ds1.get (i := i) (d := ds[i]) (List.getElem?_eq_getElem hi)
      obtain ⟨y, hy, dy⟩ := ds2.get (i := i) (d := ds[i]) (List.getElem?_eq_getElem hi)
      have q1 : SqK true K H2 a1 vs1 := sm2.seqT s1
      have q2 : SqK true K H2 a2 vs2 := sm2.seqT s2
      refine ⟨⟨_, _, _, _, q1, q2, hx, hy⟩, by rw [List.length_map, List.length_replicate]; exact Nat.lt_of_lt_of_le (show i < 10000000 by omega) (by decide), ?_⟩
      rintro x' H3 ⟨T', rfl, hN⟩
      have n3 := hN _ _ _ _ q1 q2 hx hy
      refine ⟨T', _, rfl, SqT.of n3.at, rfl, _, _, rfl, _, _, rfl, rfl, ?_⟩
      have sm3 := sm2.trans n3.same
      refine ⟨_, rfl, _, rfl, x, y, ds[i], rfl, dx.same sm3, dy.same sm3, ?_, ?_, fun H4 sm4 => nx _ _ ⟨sm.trans (n3.same.trans sm4), ?_⟩⟩
      · have := depth_at (n := n - 1) (by omega) (List.getElem_mem hi)
        omega
      · exact weight_at hw (List.getElem_mem hi)
      · rw [List.replicate_succ', List.map_append]; rfl
    · rintro ys H2 ⟨sm, rfl⟩
      have sm2 := n1.same.trans sm
      have q1 : SqK true K H2 a1 vs1 := sm2.seqT s1
      have q2 : SqK true K H2 a2 vs2 := sm2.seqT s2
      refine ⟨⟨_, _, q1, q2, .inl (by rw [ds1.len]; exact Nat.le_refl _)⟩, fun p2 hp2 => ?_⟩
      refine ⟨p2, List.replicate ds.length true, rfl, SqL.of upd_same, ?_⟩
      rw [all_true]
      exact q _ (sm2.trans (same_new hp2 _))
  | dict _ => unfold Den at d1; exact d1.elim
end
end Z

set_option Elab.async false
set_option linter.all false
set_option maxRecDepth 100000
set_option maxHeartbeats 4000000
namespace Z
open PySem L2
def spBegin (K : PySem.W.Frag) : Sp := fun vs H Q _ => ∃ (a : Addr) (ns : List Int), vs = [.ref a] ∧ SqL K H a (ns.map V.int) ∧ ns.length ≤ 63 ∧
  ∀ (b c : Addr) (H' : Hp), Bx H' b c 0 → H b = none → H c = none → Same H (hid H' b c) → Q (.ref b) H'
section
variable {P : Program} {w : World} {K : PySem.W.Frag} {mg : Str → Option Value} {base : Heap} {f : Addr} {fd : FuncData}
theorem sc_law_begin : FnScope ["_law_script"] ["_law_script"] (defScope (top i_law_begin)) := ⟨rfl, rfl, rfl, by decide +kernel, rfl, by decide +kernel, by decide +kernel⟩
theorem ok_begin (F : Fun K "_law_begin" "_law_begin" (top i_law_begin) f fd) (T : Nm mg) : FnOk P w K mg base CX0 1 f fd ["_law_script"] (spBegin K) := by
  refine F.ok sc_law_begin (fun vs H Q E h => ?_) (fun cdv A outer s H vs Q E hr h => ?_)
  · obtain ⟨a, ns, rfl, _⟩ := h
    rfl
  obtain ⟨a, ns, rfl, hS, hlen, q⟩ := h
  have hu6 := hr.units
  refine ⟨_, (pss_one (ps_ret (dispN (pps_cons pe_str (pe_op addN (pe_callTy (listN K) rfl T.n_list (by rfl) (pa_cons (pe_slice (slN K) (pv 0) po_none (po_some pe_int)) pa_nil)) (pe_op mulN (lstN (pa_cons pe_int pa_nil)) (pe_callTy call_int1 rfl T.n_int (by rfl) (pa_cons (pe_cmpR (eqK K hu6) (pe_callB (lenK K) rfl T.n_len (by rfl) (pa_cons (pv 0) pa_nil)) pe_int (nomark _)) pa_nil)))) (pps_cons pe_str pe_int pps_nil)) rfl rfl (by decide) (by decide)))), ?_⟩
  intro p H0 n0
  refine ⟨_, rfl, _, rfl, .inl ⟨a, _, rfl, n0.same.seq hS, fun r1 H1 n1 => ?_⟩⟩
  refine ⟨r1, _, rfl, .inl (SqL.of n1.at), fun r2 H2 n2 => ?_⟩
  refine ⟨by show 1 ≤ sizeLine; decide, fun r3 H3 n3 => ?_⟩
  refine ⟨_, rfl, _, _, rfl, .inl ⟨_, (n0.same.trans (n1.same.trans (n2.same.trans n3.same))).seq hS, rfl⟩, .inl ⟨rfl, ?_⟩⟩
  refine .inr ⟨_, rfl, .inr ⟨r3, _, _, rfl, rfl, n3.at, ?_⟩⟩
  have hk : ∀ (k : Bool), ((if k = true then 1 else 0 : Int)).toNat ≤ 1 ∧ -(2 ^ 63 : Int) ≤ (if k = true then 1 else 0 : Int) ∧ (if k = true then 1 else 0 : Int) < 2 ^ 63 := fun k => by cases k <;> decide
  refine ⟨(hk _).2.1, (hk _).2.2, ?_, fun r4 H4 n4 => ?_⟩
  · have := (hk (decide (V.int ↑(List.map V.int ns).length = V.int 0))).1
    exact sizeOk (by simp only [List.length_singleton]; omega)
  have hc : cutV (ns.map V.int) none (some 63) = ns.map V.int := by
    have e := cut_to (ns.map V.int) 63
    rw [List.take_of_length_le (by rw [List.length_map]; exact hlen)] at e
    exact e
  have hn2 : H2 r2 = some (.lst (ns.map V.int)) := by rw [← hc]; exact n2.at
  refine .inr (.inr ⟨r2, r4, _, _, rfl, rfl, n4.same _ _ (n3.same _ _ n2.at), n4.at, ?_, fun r5 H5 n5 => ?_⟩)
  · rw [hc, List.length_map, len_rep]
    have := (hk (decide (V.int ↑(List.map V.int ns).length = V.int 0))).1
    exact sizeOk (by simp only [List.length_singleton]; omega)
  have s0 : Same H0 H5 := n1.same.trans (n2.same.trans (n3.same.trans (n4.same.trans n5.same)))
  refine ⟨s0 _ _ n0.at, [(.inr "cells", .ref r5), (.inr "turn", .int 0)], rfl, by show 2 ≤ 15; decide, fun H6 n6 => ?_⟩
  have hp5 : r5 ≠ p := Ne.symm (ne_of_none ((n1.same.trans (n2.same.trans (n3.same.trans n4.same))) _ _ n0.at) n5.nn)
  have h05 : H0 r5 = none := (n1.same.trans (n2.same.trans (n3.same.trans n4.same))).free n5.nn
  have hr5 : H r5 = none := by rw [← n0.ne hp5]; exact h05
  refine q p r5 H6 ⟨ns ++ (if ns.length = 0 then [5] else []), ?_, ?_, ?_, ?_⟩ n0.nn hr5 (fun b o e => ?_)
  · rw [n6.at]; rfl
  · rw [n6.ne hp5, n5.at, hc, List.map_append]
    congr 3
    by_cases h0 : ns.length = 0
    · have e : decide (V.int ((ns.map V.int).length : Nat) = V.int 0) = true := by rw [List.length_map, h0]; rfl
      rw [e, if_pos h0]; rfl
    · have e : decide (V.int ((ns.map V.int).length : Nat) = V.int 0) = false := decide_eq_false (fun z => by rw [List.length_map] at z; injection z with z; omega)
      rw [e, if_neg h0]; rfl
  · by_cases h0 : ns.length = 0
    · rw [if_pos h0]; simp
    · rw [List.length_append]; omega
  · rw [List.length_append]; split <;> simp <;> omega
  · have hb1 : b ≠ p := ne_of_none e n0.nn
    have hb2 : b ≠ r5 := ne_of_none e hr5
    rw [hid_of hb1 hb2, n6.ne hb1]
    exact s0 _ _ (n0.same _ _ e)
end
end Z

set_option Elab.async false
set_option linter.all false
set_option maxRecDepth 100000
set_option maxHeartbeats 4000000
namespace Z
open PySem L2
theorem hid_same {H : Hp} {b c : Addr} : Same (hid H b c) H := fun a o e => (of_hid e).1
theorem densAt {K : PySem.W.Frag} {H : Hp} {ds : List PyData} {vs : List V} {j : Nat} {d : PyData} {v : V} (h : Dens K H ds vs) (hd : ds[j]? = some d) (hv : vs[j]? = some v) : Den K H d v := by
  obtain ⟨u, hu, q⟩ := h.get hd
  rw [hv] at hu; cases hu
  exact q
theorem densRev {K : PySem.W.Frag} {H : Hp} {ds : List PyData} {vs : List V} (h : Dens K H ds vs) : Dens K H ds.reverse vs.reverse := by
  have hl := h.len
  refine Dens.of_get (by rw [List.length_reverse, List.length_reverse, hl]) fun j d' v' h1 h2 => ?_
  have hj : j < ds.length := by have := (List.getElem?_eq_some_iff.mp h1).1; rw [List.length_reverse] at this; exact this
  rw [List.getElem?_reverse hj] at h1
  rw [List.getElem?_reverse (by omega), hl] at h2
  exact densAt h h1 h2
theorem densFirst {K : PySem.W.Frag} {H : Hp} {ds : List PyData} {vs : List V} (h : Dens K H ds vs) (n : Nat) : Dens K H (ds.take n) (vs.take n) := by
  have hl := h.len
  refine Dens.of_get (by rw [List.length_take, List.length_take, hl]) fun j d' v' h1 h2 => ?_
  rw [List.getElem?_take] at h1 h2
  by_cases e : j < n
  · rw [if_pos e] at h1 h2
    exact densAt h h1 h2
  · rw [if_neg e] at h1; cases h1
theorem densApp {K : PySem.W.Frag} {H : Hp} {ds : List PyData} {vs : List V} {d : PyData} {v : V} (h : Dens K H ds vs) (q : Den K H d v) : Dens K H (ds ++ [d]) (vs ++ [v]) := by
  have hl := h.len
  refine Dens.of_get (by simp [hl]) fun j d' v' h1 h2 => ?_
  by_cases e : j < ds.length
  · rw [List.getElem?_append_left e] at h1
    rw [List.getElem?_append_left (by omega)] at h2
    exact densAt h h1 h2
  · rw [List.getElem?_append_right (by omega)] at h1
    rw [List.getElem?_append_right (by omega), hl] at h2
    have : j - ds.length = 0 := by
      have := (List.getElem?_eq_some_iff.mp h1).1
      simp at this; omega
    rw [this] at h1 h2
    cases h1; cases h2; exact q
/-- a list that is no list of numbers -/
def hdI : List PyData → Bool
  | [] => false
  | .int _ :: _ => false
  | _ :: _ => true
mutual
/-- no list in it is one of numbers, or empty -/
def noI : PyData → Bool
  | .list ds => hdI ds && noIs ds
  | .tuple ds => noIs ds
  | _ => true
def noIs : List PyData → Bool
  | [] => true
  | d :: ds => noI d && noIs ds
end
theorem den_int {K : PySem.W.Frag} {H : Hp} {d : PyData} {i : Int} (h : Den K H d (.int i)) : d = .int i := by
  cases d with
  | int k => unfold Den at h; cases h; rfl
  | none => unfold Den at h; cases h
  | bool b => unfold Den at h; cases h
  | str x => unfold Den at h; cases h
  | list ds => unfold Den at h; obtain ⟨_, _, e, _⟩ := h; cases e
  | tuple ds => unfold Den at h; obtain ⟨_, _, e, _⟩ := h; cases e
  | dict _ => unfold Den at h; exact h.elim
mutual
/-- what tells data without lists of numbers lies apart from the box -/
theorem Den.hide {K : PySem.W.Frag} {H : Hp} {b c : Addr} {t : Int} (bx : Bx H b c t) : ∀ {d : PyData} {v : V}, noI d = true → Den K H d v → Den K (hid H b c) d v
  | .none, _, _, h => by unfold Den at h ⊢; exact h
  | .bool _, _, _, h => by unfold Den at h ⊢; exact h
  | .int _, _, _, h => by unfold Den at h ⊢; exact h
  | .str _, _, _, h => by unfold Den at h ⊢; exact h
  | .list ds, _, n, h => by
    unfold Den at h ⊢
    unfold noI at n
    rw [Bool.and_eq_true] at n
    obtain ⟨a, vs, h1, h2, h3⟩ := h
    refine ⟨a, vs, h1, ?_, Dens.hide bx n.2 h3⟩
    obtain ⟨ns, bx⟩ := bx
    rcases h2 with (h2 | ⟨o, h2⟩) | h2
    · refine .inl (.inl ?_)
      rw [hid_of (fun z => by rw [z, bx.d] at h2; cases h2) (fun z => ?_)]
      · exact h2
      rw [z, bx.l] at h2
      cases h2
      cases ds with
      | nil => exact absurd n.1 (by decide)
      | cons d ds =>
        unfold Dens at h3
        obtain ⟨v, r, e, hv, _⟩ := h3
        cases ns with
        | nil => cases e
        | cons i ns =>
          cases e
          rw [den_int hv] at n
          exact absurd n.1 (by simp [hdI])
    · refine .inl (.inr ⟨o, ?_⟩)
      rw [hid_of (fun z => by rw [z, bx.d] at h2; cases h2) (fun z => by rw [z, bx.l] at h2; cases h2)]
      exact h2
    · exact .inr h2
  | .tuple ds, _, n, h => by
    unfold Den at h ⊢
    unfold noI at n
    obtain ⟨a, vs, h1, h2, h3⟩ := h
    refine ⟨a, vs, h1, ?_, Dens.hide bx n h3⟩
    obtain ⟨ns, bx⟩ := bx
    rcases h2 with (h2 | ⟨o, h2⟩) | h2
    · refine .inl (.inl ?_)
      rw [hid_of (fun z => by rw [z, bx.d] at h2; cases h2) (fun z => by rw [z, bx.l] at h2; cases h2)]
      exact h2
    · refine .inl (.inr ⟨o, ?_⟩)
      rw [hid_of (fun z => by rw [z, bx.d] at h2; cases h2) (fun z => by rw [z, bx.l] at h2; cases h2)]
      exact h2
    · exact .inr h2
  | .dict _, _, _, h => by unfold Den at h; exact h.elim
theorem Dens.hide {K : PySem.W.Frag} {H : Hp} {b c : Addr} {t : Int} (bx : Bx H b c t) : ∀ {ds : List PyData} {vs : List V}, noIs ds = true → Dens K H ds vs → Dens K (hid H b c) ds vs
  | [], _, _, h => by unfold Dens at h ⊢; exact h
  | d :: ds, _, n, h => by
    unfold Dens at h ⊢
    unfold noIs at n
    rw [Bool.and_eq_true] at n
    obtain ⟨v, r, h1, h2, h3⟩ := h
    exact ⟨v, r, h1, Den.hide bx n.1 h2, Dens.hide bx n.2 h3⟩
end
theorem noI_book : ∀ (bk : List (Str × Str)), noIs (bk.map fun q => .tuple [.str q.1, .str q.2]) = true
  | [] => rfl
  | q :: bk => by
    rw [List.map_cons]
    simp [noIs, noI, noI_book bk]
theorem weight_int {i : Int} (h : i.natAbs < 2 ^ 200) : PyData.weight (.int i) ≤ 201 := by
  simp only [PyData.weight]
  split
  · omega
  · rename_i h0
    have hne : i.natAbs ≠ 0 := by
      intro z
      exact h0 (by simp; omega)
    have := (Nat.log2_lt hne).mpr h
    omega
theorem sum_le {M k : Nat} : ∀ {bk : List (Str × Str)}, bk.length ≤ k → ((bk.map fun q => (2 : Int) ^ (M - q.2.length)).sum) ≤ k * 2 ^ M ∧ 0 ≤ ((bk.map fun q => (2 : Int) ^ (M - q.2.length)).sum) := by
  induction k with
  | zero =>
    intro bk h
    have : bk = [] := List.length_eq_zero_iff.mp (Nat.le_zero.mp h)
    subst this
    simp
  | succ k ih =>
    intro bk h
    cases bk with
    | nil =>
      refine ⟨?_, by simp⟩
      have : (0 : Int) ≤ 2 ^ M := two_pow_nn M
      simp only [List.map_nil, List.sum_nil]
      exact Int.mul_nonneg (by omega) this
    | cons q bk =>
      obtain ⟨h1, h2⟩ := ih (bk := bk) (by rw [List.length_cons] at h; omega)
      have p : (2 : Int) ^ (M - q.2.length) ≤ 2 ^ M := by
        have z : 2 ^ (M - q.2.length) ≤ 2 ^ M := Nat.pow_le_pow_right (by decide) (Nat.sub_le _ _)
        have z := Int.ofNat_le.mpr z
        simpa using z
      have p0 : (0 : Int) ≤ 2 ^ (M - q.2.length) := two_pow_nn _
      simp only [List.map_cons, List.sum_cons]
      have e : ((k + 1 : Nat) : Int) * 2 ^ M = k * 2 ^ M + 2 ^ M := by rw [Int.natCast_succ, Int.add_mul, Int.one_mul]
      rw [e]
      omega
end Z

set_option Elab.async false
set_option linter.all false
set_option maxRecDepth 100000
set_option maxHeartbeats 4000000
namespace Z
open PySem L2
/-- a book that may be asked everything -/
structure AskOk (bk : List (Str × Str)) : Prop where
  ne : bk ≠ []
  le : bk.length ≤ 60
  nm : ∀ q ∈ bk, Low q.1 ∧ q.1.length ≤ 8
  cd : ∀ q ∈ bk, CodeOk 24 q.2
abbrev lensOf (bk : List (Str × Str)) : List Nat := bk.map (·.2.length)
/-- what is told of a book -/
def AllR (bk : List (Str × Str)) (ds : List PyData) : Prop := ∃ (dc : PyData) (M : Nat) (cs : List Str), isRes bk dc ∧ M ∈ lensOf bk ∧ (∀ q ∈ bk, q.2.length ≤ M) ∧
  ((Free (bk.map (·.2)) ∧ LcR (lensOf bk) cs ∧ ds = [dc, .bool true, .tuple [.int ((bk.map fun q => (2 : Int) ^ (M - q.2.length)).sum), .int (2 ^ M)], .bool (isBookD (bookD bk)), bookD ((bk.map (·.1)).zip cs)]) ∨
   (¬ Free (bk.map (·.2)) ∧ ds = [dc, .bool false, .tuple [.int ((bk.map fun q => (2 : Int) ^ (M - q.2.length)).sum), .int (2 ^ M)], .bool (isBookD (bookD bk))]))
theorem AllR.one {bk : List (Str × Str)} {ds es : List PyData} (h : AllR bk ds) (h' : AllR bk es) : ds = es := by
  obtain ⟨dc, M, cs, r, hM, hm, h⟩ := h
  obtain ⟨dc', M', cs', r', hM', hm', h'⟩ := h'
  have e1 := r.one r'
  have e2 : M = M' := by
    obtain ⟨q, hq, e⟩ := List.mem_map.mp hM
    obtain ⟨q', hq', e'⟩ := List.mem_map.mp hM'
    have := hm q' hq'
    have := hm' q hq
    omega
  subst e1 e2
  rcases h with ⟨f, l, rfl⟩ | ⟨f, rfl⟩
  · rcases h' with ⟨_, l', rfl⟩ | ⟨f', _⟩
    · rw [l.one l']
    · exact absurd f f'
  · rcases h' with ⟨f', _⟩ | ⟨_, rfl⟩
    · exact absurd f' f
    · rfl
/-- no list -/
def NL (H : Hp) (u : V) : Prop := u = .non ∨ (∃ b, u = .bl b) ∨ ∃ a xs, u = .ref a ∧ H a = some (.tup xs)
/-- each is a list of its own, or none -/
def Loose (H H' : Hp) (p : Addr) (us : List V) : Prop := ∀ u ∈ us, NL H' u ∨ ∃ q ys, u = .ref q ∧ H q = none ∧ q ≠ p ∧ H' q = some (.lst ys) ∧ ys.length ≤ 100
theorem NL.same {H H' : Hp} {u : V} (h : NL H u) (s : Same H H') : NL H' u := by
  rcases h with h | h | ⟨a, xs, e, h⟩
  · exact .inl h
  · exact .inr (.inl h)
  · exact .inr (.inr ⟨a, xs, e, s _ _ h⟩)
/-- clash, by what it tells; it is no list -/
def spCln (K : PySem.W.Frag) : Sp := fun vs H Q _ => ∃ (v : V) (bk : List (Str × Str)), vs = [v] ∧ Den K H (bookD bk) v ∧ bk.length ≤ 1000 ∧ (∀ q ∈ bk, q.2.length ≤ 1000) ∧
  ∀ (d : PyData) (u : V) (H' : Hp), isRes bk d → Den K H' d u → NL H' u → Same H H' → Q u H'
theorem spCln_of {K : PySem.W.Frag} {vs : List V} {H : Hp} {Q : VK} {E : XK} (h : spCln K vs H Q E) : spClash K vs H Q E := by
  obtain ⟨v, bk, e, hD, hl, hc, q⟩ := h
  refine ⟨v, bk, e, hD, hl, hc, fun nc H' sm => q .none .non H' (.inl ⟨nc, rfl⟩) (by unfold Den; rfl) (.inl rfl) sm, fun i j a b ha hb hij no le ne p H' sm hp hp' => ?_⟩
  exact q _ (.ref p) H' (.inr ⟨i, j, a, b, ⟨ha, hb, hij, no, le, ne⟩, rfl⟩) (Den.pairOf hp') (.inr (.inr ⟨p, _, rfl, hp'⟩)) sm
theorem Den.twoN {K : PySem.W.Frag} {H : Hp} {p : Addr} {i j : Int} (h : H p = some (.tup [.int i, .int j])) : Den K H (.tuple [.int i, .int j]) (.ref p) := by
  unfold Den
  refine ⟨p, _, rfl, SqT.of h, ?_⟩
  unfold Dens
  refine ⟨_, _, rfl, by unfold Den; rfl, ?_⟩
  unfold Dens
  refine ⟨_, _, rfl, by unfold Den; rfl, ?_⟩
  unfold Dens
  rfl
theorem dens_append {K : PySem.W.Frag} {H : Hp} : ∀ {ds es : List PyData} {us vs : List V}, Dens K H ds us → Dens K H es vs → Dens K H (ds ++ es) (us ++ vs)
  | [], es, us, vs, h, h' => by
    unfold Dens at h
    subst h
    exact h'
  | d :: ds, es, us, vs, h, h' => by
    unfold Dens at h
    obtain ⟨x, xs, rfl, hx, hxs⟩ := h
    show Dens K H (d :: (ds ++ es)) (x :: (xs ++ vs))
    unfold Dens
    exact ⟨x, xs ++ vs, rfl, hx, dens_append hxs h'⟩
def spAll (K : PySem.W.Frag) : Sp := fun vs H Q _ => ∃ (v : V) (bk : List (Str × Str)), vs = [v] ∧ Den K H (bookD bk) v ∧ AskOk bk ∧
  ∀ (ds : List PyData) (us : List V) (p : Addr) (H' : Hp), AllR bk ds → Same H H' → H p = none → H' p = some (.lst us) → us.length ≤ 5 → Dens K H' ds us → Loose H H' p us → Q (.ref p) H'
theorem AskOk.weight {bk : List (Str × Str)} (h : AskOk bk) : PyData.weight (bookD bk) ≤ 4000 ∧ SeqAt.shaped (bookD bk) = true := by
  constructor
  · have : PyData.weightAll (bk.map fun q => .tuple [.str q.1, .str q.2]) ≤ bk.length * 35 := by
      have hb : ∀ q ∈ bk, q.1.length ≤ 8 ∧ q.2.length ≤ 24 := fun q hq => ⟨(h.nm q hq).2, (h.cd q hq).le⟩
      clear h
      induction bk with
      | nil => simp [PyData.weightAll]
      | cons q bk ih =>
        have ih := ih fun r hr => hb r (List.mem_cons_of_mem _ hr)
        obtain ⟨h1, h2⟩ := hb q List.mem_cons_self
        have e1 : q.1.cps.size = q.1.length := rfl
        have e2 : q.2.cps.size = q.2.length := rfl
        rw [List.map_cons, List.length_cons]
        simp only [PyData.weight, PyData.weightAll]
        omega
    have := h.le
    unfold bookD
    simp only [PyData.weight]
    omega
  · refine Sh.shaped (n := 2) (Sh.list fun d hd => ?_) (by decide)
    obtain ⟨q, hq, rfl⟩ := List.mem_map.mp hd
    refine Sh.tuple (n := 0) fun e he => ?_
    simp at he
    rcases he with rfl | rfl
    · exact Sh.str (canLay_small fun ch hc => by have := (h.nm q hq).1 ch hc; omega)
    · exact Sh.str (canLay_small fun ch hc => by rcases (h.cd q hq).bin ch hc with e | e <;> omega)
theorem AskOk.fits {bk : List (Str × Str)} (h : AskOk bk) (fr : Free (bk.map (·.2))) : Fits (lensOf bk) := fun M hM hm => by
  have k := kraft_book (M := M) fr fun q hq => ⟨hm _ (List.mem_map.mpr ⟨q, hq, rfl⟩), (h.cd q hq).bin⟩
  unfold lensOf
  rw [List.map_map]
  exact k
section
variable {P : Program} {w : World} {K : PySem.W.Frag} {mg : Str → Option Value} {base : Heap} {f : Addr} {fd : FuncData}
theorem sc_law_all : FnScope ["_law_book", "_law_found"] ["_law_book"] (defScope (top i_law_all)) := ⟨rfl, rfl, rfl, by decide +kernel, rfl, by decide +kernel, by decide +kernel⟩
theorem ok_all (F : Fun K "_law_all" "_law_all" (top i_law_all) f fd) (T : Nm mg) (f_clash : Fn P w K mg base 2 "clash" ["book"] (spCln K)) (f_free : Fn P w K mg base 3 "free" ["book"] (spFree K)) (f_halves : Fn P w K mg base 3 "halves" ["book"] (spHalves K)) (f_is_book : Fn P w K mg base 4 "is_book" ["thing"] (spIsBook K)) (f_codes_by : Fn P w K mg base 3 "codes_by" ["lengths"] (spCBf K)) : FnOk P w K mg base CX0 5 f fd ["_law_book"] (spAll K) := by
  refine F.ok sc_law_all (fun vs H Q E h => ?_) (fun cdv A outer s H vs Q E hr h => ?_)
  · obtain ⟨v, bk, rfl, _⟩ := h
    rfl
  obtain ⟨v, bk, rfl, hd, ok, q⟩ := h
  have hu6 := hr.units
  have bl : bk.length ≤ 1000 := Nat.le_trans ok.le (by decide)
  have cl : ∀ q ∈ bk, q.2.length ≤ 1000 := fun q hq => Nat.le_trans (ok.cd q hq).le (by decide)
  have wt := ok.weight
  refine ⟨_, (pss_cons (ps_set (i := 1) sc_law_all.nd rfl (Or.inl rfl) (lstN (pa_cons (pe_fn (f_clash.mono (by first | decide | exact Nat.le_refl _)) hr rfl (pa_cons (pv 0) pa_nil)) (pa_cons (pe_fn (f_free.mono (by first | decide | exact Nat.le_refl _)) hr rfl (pa_cons (pv 0) pa_nil)) (pa_cons (pe_fn (f_halves.mono (by first | decide | exact Nat.le_refl _)) hr rfl (pa_cons (pv 0) pa_nil)) (pa_cons (pe_fn (f_is_book.mono (by first | decide | exact Nat.le_refl _)) hr rfl (pa_cons (pv 0) pa_nil)) pa_nil))))))
    (pss_cons (ps_if (pt_cmpR g_is (pe_ix (ixK K) (pv 1) pe_int (fun _ _ => rfl)) pe_bl (nomark _)) (pss_one (ps_expr (bmK K PySem.F.plainAttrs_list PySem.F.slot_list_append PySem.F.type_list_append appendN (pv 1) (pa_cons (pe_fn (f_codes_by.mono (by first | decide | exact Nat.le_refl _)) hr rfl (pa_cons (pe_lcomp rfl (comp_ok (Nc := ["_law_name", "_law_code"]) (Fc := []) (js := [])) (piK K (pv 0)) (gk_tup (gks_cons (gk_name (i := 0) (n := 2) (by decide)) (gks_cons (gk_name (i := 1) (n := 2) (by decide)) gks_nil gm_name gms_nil) gm_name (gms_cons gm_name gms_nil))) (fun _ _ _ _ _ => (tupK K 2 rfl (pgs_cons (pg_name (i := 0) (show (["_law_name", "_law_code"] : List Str).Nodup by decide +kernel) rfl (Or.inl rfl)) (pgs_cons (pg_name (i := 1) (show (["_law_name", "_law_code"] : List Str).Nodup by decide +kernel) rfl (Or.inl rfl)) pgs_nil)))) (fun _ _ _ _ _ => pts_nil) (fun _ _ _ _ _ => (tupN (pa_cons (pv 0) (pa_cons (pe_callB (lenK K) rfl T.n_len (by rfl) (pa_cons (pv 1) pa_nil)) pa_nil))))) pa_nil)) pa_nil)))) pss_nil)
    (pss_one (ps_ret (pv 1))))), ?_⟩
  obtain ⟨l, vs, rfl, hS, hDs⟩ : ∃ l vs, v = .ref l ∧ SqL K H l vs ∧ Dens K H (bk.map fun q => .tuple [.str q.1, .str q.2]) vs := by
    unfold bookD at hd
    unfold Den at hd
    exact hd
  have hvl : vs.length = bk.length := by rw [hDs.len, List.length_map]
  have hlb := ok.le
  refine ⟨_, rfl, _, bk, rfl, hd, bl, cl, fun dc u H1 res d1 nl1 sm1 => ?_⟩
  refine ⟨_, rfl, _, bk, rfl, hd.same sm1, bl, cl, fun fr H2 sm2 => ?_, fun nf H2 sm2 => ?_⟩
  · have sm02 := sm1.trans sm2
    refine ⟨_, rfl, _, bk, rfl, hd.same sm02, ok.ne, bl, cl, fun M ph H3 hM hmx sm3 hph hph3 => ?_⟩
    have sm03 := sm02.trans sm3
    refine ⟨_, rfl, _, _, rfl, hd.same sm03, wt.1, wt.2, fun H4 sm4 => ?_⟩
    have sm04 := sm03.trans sm4
    refine ⟨by show 4 ≤ sizeLine; decide, fun p H5 n5 => gn ?_⟩
    have hp0 : H p = none := by
      cases z : H p with
      | none => rfl
      | some o => have := sm04 _ _ z; rw [n5.nn] at this; cases this
    have dz : Dens K H4 [dc, .bool true, .tuple [.int ((bk.map fun q => (2 : Int) ^ (M - q.2.length)).sum), .int (2 ^ M)], .bool (isBookD (bookD bk))] [u, .bl true, .ref ph, .bl (isBookD (bookD bk))] := by
      unfold Dens
      refine ⟨_, _, rfl, d1.same (sm2.trans (sm3.trans sm4)), ?_⟩
      unfold Dens
      refine ⟨_, _, rfl, by unfold Den; rfl, ?_⟩
      unfold Dens
      refine ⟨_, _, rfl, Den.twoN (sm4 _ _ hph3), ?_⟩
      unfold Dens
      refine ⟨_, _, rfl, by unfold Den; rfl, ?_⟩
      unfold Dens
      rfl
    have n5s := n5.same
    refine ⟨_, rfl, .inl ⟨_, _, _, _, rfl, rfl, SqL.of n5.at, rfl, .inr ⟨true, true, rfl, rfl, _, rfl, iteT ?_⟩⟩⟩
    refine ⟨_, rfl, .inl ⟨rfl, _, SqL.of n5.at⟩, _, rfl, l, rfl, ⟨_, (sm04.trans n5s).seq hS⟩, ?_⟩
    refine comp_go (N := bk.length) (fun i ys H' => ∃ cs : List Addr, ys = cs.map V.ref ∧ cs.length = i ∧ Same H5 H' ∧ ∀ (j : Nat) a q, cs[j]? = some a → bk[j]? = some q → H' a = some (.tup [.str q.1, .int (q.2.length : Nat)])) ⟨[], rfl, rfl, Same.refl _, fun j a q e => by simp at e⟩ ?_ ?_
    · rintro i ys H6 Nx hi ⟨cs, rfl, hcl, sm6, hcs⟩ nx
      have sm06 := (sm04.trans n5s).trans sm6
      obtain ⟨x, hx, dx⟩ := hDs.get (i := i) (d := .tuple [.str bk[i].1, .str bk[i].2]) (by rw [List.getElem?_map, List.getElem?_eq_getElem hi]; rfl)
      obtain ⟨a, rfl, hT⟩ := dx.pair
      refine ⟨⟨_, _, sm06.seq hS, hx⟩, Nat.lt_of_lt_of_le (show (cs.map V.ref).length < 1000 by rw [List.length_map]; omega) (by decide), ?_⟩
      rintro x' H7 ⟨rfl, hy⟩
      have e := hy _ (sm06.seq hS)
      rw [hx] at e; cases e
      refine ⟨a, _, rfl, sm06.seqT hT, rfl, _, _, rfl, _, _, rfl, rfl, ?_⟩
      refine ⟨_, rfl, _, rfl, _, _, rfl, ⟨sizeOk (Nat.le_trans (cl bk[i] (List.getElem_mem hi)) (by decide)), rfl⟩, by show 2 ≤ sizeLine; decide, fun pt H8 n8 => nx _ _ ⟨cs ++ [pt], by rw [List.map_append]; rfl, by rw [List.length_append, hcl]; rfl, sm6.trans n8.same, fun j a q ea eq => ?_⟩⟩
      by_cases hj : j < cs.length
      · rw [List.getElem?_append_left hj] at ea
        exact n8.same _ _ (hcs j a q ea eq)
      · have : j = cs.length := by
          have := (List.getElem?_eq_some_iff.mp ea).1
          simp at this; omega
        subst this
        rw [List.getElem?_append_right (Nat.le_refl _), Nat.sub_self] at ea
        cases ea
        rw [hcl, List.getElem?_eq_getElem hi] at eq
        cases eq
        exact n8.at
    · rintro ys H6 ⟨cs, rfl, hcl, sm6, hcs⟩
      have sm06 := (sm04.trans n5s).trans sm6
      refine ⟨⟨_, sm06.seq hS, by rw [hvl]; exact Nat.le_refl _⟩, fun pl hpl => ?_⟩
      obtain ⟨H7, n7⟩ : ∃ H7, New H6 pl (.lst (cs.map V.ref)) H7 := ⟨_, hpl, rfl⟩
      rw [← n7.eq]
      have esnd : ((bk.map fun q => (q.1, q.2.length)).map (·.2)) = lensOf bk := by rw [List.map_map]; rfl
      refine ⟨pl, bk.map fun q => (q.1, q.2.length), rfl, ⟨cs, SqL.of n7.at, by rw [List.length_map]; exact hcl, fun i a q ea eq => ?_⟩, ?_, by rw [List.length_map]; omega, fun q hq => ?_, by rw [esnd]; exact ok.fits fr, fun ks as pb H8 hR sm8 hpb hpb8 hal has => ?_⟩
      · rw [List.getElem?_map] at eq
        cases eb : bk[i]? with
        | none => rw [eb] at eq; cases eq
        | some z =>
          rw [eb] at eq; cases eq
          exact SqT.of (n7.same _ _ (hcs i a z ea eb))
      · rw [List.length_map]
        exact List.length_pos_iff.mpr ok.ne
      · obtain ⟨z, hz, rfl⟩ := List.mem_map.mp hq
        have := (ok.cd z hz).le
        have := (ok.cd z hz).pos
        show 1 ≤ z.2.length ∧ z.2.length ≤ 60
        omega
      rw [esnd] at hR
      rw [List.length_map] at hal
      have sm58 := sm6.trans (n7.same.trans sm8)
      have hp8 := sm58 _ _ n5.at
      refine ⟨p, _, _, rfl, rfl, hp8, by show 4 < sizeLine; decide, fun H9 c9 => ?_⟩
      have sm49 : Same H4 H9 := fun a o e => by
        rw [c9.ne (ne_of_none e n5.nn)]
        exact sm58 _ _ (n5s _ _ e)
      have pbp : pb ≠ p := fun z => by
        rw [z] at hpb
        have := n7.same _ _ (sm6 _ _ n5.at)
        rw [hpb] at this; cases this
      have tk : ∀ (a : Addr) x y, H8 a = some (.tup [.str x, .str y]) → H9 a = some (.tup [.str x, .str y]) := fun a x y e => by
        rw [c9.ne (fun z => by rw [z, hp8] at e; cases e)]
        exact e
      have dB : Den K H9 (bookD ((bk.map (·.1)).zip ks)) (.ref pb) := by
        refine Den.list (SqL.of (by rw [c9.ne pbp]; exact hpb8)) (Dens.of_get ?_ fun j d v hd hv => ?_)
        · have := hR.1
          unfold lensOf at this
          rw [List.length_map] at this
          rw [List.length_map, List.length_zip, List.length_map, List.length_map, hal]; omega
        · rw [List.getElem?_map] at hd hv
          cases ez : ((bk.map (·.1)).zip ks)[j]? with
          | none => rw [ez] at hd; cases hd
          | some z =>
            rw [ez] at hd; cases hd
            cases ea : as[j]? with
            | none => rw [ea] at hv; cases hv
            | some aj =>
              rw [ea] at hv; cases hv
              obtain ⟨e1, e2⟩ := List.getElem?_zip_eq_some.mp ez
              rw [List.getElem?_map] at e1
              cases eb : bk[j]? with
              | none => rw [eb] at e1; cases e1
              | some qb =>
                rw [eb] at e1
                have e1 := Option.some.inj e1
                have := has j aj (qb.1, qb.2.length) z.2 ea (by rw [List.getElem?_map, eb]; rfl) e2
                show Den K H9 (.tuple [.str z.1, .str z.2]) (.ref aj)
                rw [← e1]
                exact Den.pairOf (tk _ _ _ this)
      refine ⟨_, rfl, q _ _ _ _ ⟨dc, M, ks, res, hM, hmx, .inl ⟨fr, hR, rfl⟩⟩ (sm04.trans sm49) hp0 c9.at (by show 5 ≤ 5; decide) ?_ ?_⟩
      · have e := dens_append (dz.same sm49) (show Dens K H9 [bookD ((bk.map (·.1)).zip ks)] [.ref pb] from by
          unfold Dens
          refine ⟨_, _, rfl, dB, ?_⟩
          unfold Dens
          rfl)
        exact e
      · intro u' hu'
        have hm : u' = u ∨ u' = .bl true ∨ u' = .ref ph ∨ u' = .bl (isBookD (bookD bk)) ∨ u' = .ref pb := by
          simpa using hu'
        rcases hm with rfl | rfl | rfl | rfl | rfl
        · exact .inl (nl1.same (sm2.trans (sm3.trans (sm4.trans sm49))))
        · exact .inl (.inr (.inl ⟨_, rfl⟩))
        · exact .inl (.inr (.inr ⟨ph, _, rfl, sm49 _ _ (sm4 _ _ hph3)⟩))
        · exact .inl (.inr (.inl ⟨_, rfl⟩))
        · refine .inr ⟨pb, _, rfl, ?_, pbp, by rw [c9.ne pbp]; exact hpb8, by rw [List.length_map]; omega⟩
          cases z : H pb with
          | none => rfl
          | some o =>
            have := n7.same _ _ (sm06 _ _ z)
            rw [hpb] at this; cases this
  · have sm02 := sm1.trans sm2
    refine ⟨_, rfl, _, bk, rfl, hd.same sm02, ok.ne, bl, cl, fun M ph H3 hM hmx sm3 hph hph3 => ?_⟩
    have sm03 := sm02.trans sm3
    refine ⟨_, rfl, _, _, rfl, hd.same sm03, wt.1, wt.2, fun H4 sm4 => ?_⟩
    have sm04 := sm03.trans sm4
    refine ⟨by show 4 ≤ sizeLine; decide, fun p H5 n5 => gn ?_⟩
    have hp0 : H p = none := by
      cases z : H p with
      | none => rfl
      | some o => have := sm04 _ _ z; rw [n5.nn] at this; cases this
    have dz : Dens K H5 [dc, .bool false, .tuple [.int ((bk.map fun q => (2 : Int) ^ (M - q.2.length)).sum), .int (2 ^ M)], .bool (isBookD (bookD bk))] [u, .bl false, .ref ph, .bl (isBookD (bookD bk))] := by
      unfold Dens
      refine ⟨_, _, rfl, d1.same (sm2.trans (sm3.trans (sm4.trans n5.same))), ?_⟩
      unfold Dens
      refine ⟨_, _, rfl, by unfold Den; rfl, ?_⟩
      unfold Dens
      refine ⟨_, _, rfl, Den.twoN (n5.same _ _ (sm4 _ _ hph3)), ?_⟩
      unfold Dens
      refine ⟨_, _, rfl, by unfold Den; rfl, ?_⟩
      unfold Dens
      rfl
    refine ⟨_, rfl, .inl ⟨_, _, _, _, rfl, rfl, SqL.of n5.at, rfl, .inr ⟨false, true, rfl, rfl, _, rfl, iteF ?_⟩⟩⟩
    refine ⟨_, rfl, q _ _ _ _ ⟨dc, M, [], res, hM, hmx, .inr ⟨nf, rfl⟩⟩ (sm04.trans n5.same) hp0 n5.at (by show 4 ≤ 5; decide) dz fun u' hu' => ?_⟩
    have hm : u' = u ∨ u' = .bl false ∨ u' = .ref ph ∨ u' = .bl (isBookD (bookD bk)) := by
      simpa using hu'
    rcases hm with rfl | rfl | rfl | rfl
    · exact .inl (nl1.same (sm2.trans (sm3.trans (sm4.trans n5.same))))
    · exact .inl (.inr (.inl ⟨_, rfl⟩))
    · exact .inl (.inr (.inr ⟨ph, _, rfl, n5.same _ _ (sm4 _ _ hph3)⟩))
    · exact .inl (.inr (.inl ⟨_, rfl⟩))
end
end Z

set_option Elab.async false
set_option linter.all false
set_option maxRecDepth 100000
set_option maxHeartbeats 4000000
namespace Z
open PySem L2
theorem AllR.cons {bk : List (Str × Str)} {ds : List PyData} (h : AllR bk ds) (ok : AskOk bk) : PyData.depth (.list ds) < 5 ∧ PyData.weight (.list ds) ≤ 1000000 ∧ noI (.list ds) = true := by
  obtain ⟨dc, M, cs, res, hM, hm, h⟩ := h
  have bl := ok.le
  have dcf : PyData.depth dc ≤ 1 ∧ PyData.weight dc ≤ 100 ∧ noI dc = true ∧ (∀ i, dc ≠ .int i) := by
    rcases res with ⟨_, rfl⟩ | ⟨i, j, a, b, f, rfl⟩
    · exact ⟨by decide, by decide, rfl, fun i z => by cases z⟩
    · have la := (ok.nm a (List.mem_of_getElem? f.ha)).2
      have lb := (ok.nm b (List.mem_of_getElem? f.hb)).2
      have ea : a.1.cps.size = a.1.length := rfl
      have eb : b.1.cps.size = b.1.length := rfl
      refine ⟨by simp [PyData.depth, PyData.depthAll], ?_, rfl, fun i z => by cases z⟩
      simp only [PyData.weight, PyData.weightAll]
      omega
  have M24 : M ≤ 24 := by
    obtain ⟨q, hq, e⟩ := List.mem_map.mp hM
    have := (ok.cd q hq).le
    omega
  obtain ⟨s1, s2⟩ := sum_le (M := M) (k := 60) bl
  have p24 : (2 : Int) ^ M ≤ 2 ^ 24 := by
    have e : ((2 ^ M : Nat) : Int) ≤ ((2 ^ 24 : Nat) : Int) := by exact_mod_cast Nat.pow_le_pow_right (by decide) M24
    simpa using e
  have p0 : (0 : Int) ≤ 2 ^ M := Int.pow_nonneg (by decide)
  have w1 : PyData.weight (.int ((bk.map fun q => (2 : Int) ^ (M - q.2.length)).sum)) ≤ 201 := weight_int (by omega)
  have w2 : PyData.weight (.int (2 ^ M)) ≤ 201 := weight_int (by omega)
  have hd : ∀ r : List PyData, hdI (dc :: r) = true := fun r => by
    cases dc with
    | int i => exact absurd rfl (dcf.2.2.2 i)
    | _ => rfl
  obtain ⟨d1, d2, d3, _⟩ := dcf
  rcases h with ⟨fr, hR, rfl⟩ | ⟨_, rfl⟩
  · have rl := hR.1
    unfold lensOf at rl
    rw [List.length_map] at rl
    have hpos : 0 < bk.length := List.length_pos_iff.mpr ok.ne
    have zl : ((bk.map (·.1)).zip cs).length = bk.length := by rw [List.length_zip, List.length_map]; omega
    have bw := bookW (bk := (bk.map (·.1)).zip cs) fun q hq => by
      obtain ⟨k, hk, e⟩ := List.mem_iff_getElem.mp hq
      have ek : ((bk.map (·.1)).zip cs)[k]? = some q := by rw [List.getElem?_eq_getElem hk, e]
      obtain ⟨e1, e2⟩ := List.getElem?_zip_eq_some.mp ek
      constructor
      · rw [List.getElem?_map] at e1
        cases eb : bk[k]? with
        | none => rw [eb] at e1; cases e1
        | some z =>
          rw [eb] at e1
          have e1 : z.1 = q.1 := Option.some.inj e1
          rw [← e1]
          exact (ok.nm z (List.mem_of_getElem? eb)).2
      · have := (hR.len k _ e2).2
        obtain ⟨z, hz, e⟩ := List.mem_map.mp (List.mem_of_getElem? this)
        have := (ok.cd z hz).le
        omega
    rw [zl] at bw
    have bd := bookDp ((bk.map (·.1)).zip cs)
    have nb : noI (bookD ((bk.map (·.1)).zip cs)) = true := by
      unfold bookD
      simp only [noI, noI_book, Bool.and_true]
      cases ez : (bk.map (·.1)).zip cs with
      | nil => rw [ez] at zl; simp at zl; omega
      | cons z zs => rfl
    unfold bookD at bd nb ⊢
    refine ⟨?_, ?_, ?_⟩
    · simp only [PyData.depth, PyData.depthAll] at bd ⊢
      omega
    · simp only [PyData.weight, PyData.weightAll] at w1 w2 ⊢
      omega
    · unfold noI
      rw [hd]
      simp only [noIs, nb, d3]
      simp [noI, noIs]
  · refine ⟨?_, ?_, ?_⟩
    · simp only [PyData.depth, PyData.depthAll]
      omega
    · simp only [PyData.weight, PyData.weightAll] at w1 w2 ⊢
      omega
    · unfold noI
      rw [hd]
      simp only [noIs, d3]
      simp [noI, noIs]
end Z

set_option Elab.async false
set_option linter.all false
set_option maxRecDepth 100000
set_option maxHeartbeats 4000000
namespace Z
open PySem L2
/-- what the asker does to told lists: only p and lists that are not in G are changed -/
def spChd (K : PySem.W.Frag) : Sp := fun vs H Q _ => ∃ (p : Addr) (us : List V) (G : Hp), vs = [.ref p] ∧ H p = some (.lst us) ∧ us.length ≤ 5 ∧ Loose G H p us ∧ G p = none ∧ Same G H ∧
  ∀ (H' : Hp), Same G H' → Q .non H'
section
variable {P : Program} {w : World} {K : PySem.W.Frag} {mg : Str → Option Value} {base : Heap} {f : Addr} {fd : FuncData}
theorem sc_law_changed : FnScope ["_law_found", "_law_one"] ["_law_found"] (defScope (top i_law_changed)) := ⟨rfl, rfl, rfl, by decide +kernel, rfl, by decide +kernel, by decide +kernel⟩
theorem ok_changed (F : Fun K "_law_changed" "_law_changed" (top i_law_changed) f fd) (T : Nm mg) : FnOk P w K mg base CX0 1 f fd ["_law_found"] (spChd K) := by
  refine F.ok sc_law_changed (fun vs H Q E h => ?_) (fun cdv A outer s H vs Q E hr h => ?_)
  · obtain ⟨p, us, G, rfl, _⟩ := h
    rfl
  obtain ⟨p, us, G, rfl, hp, ul, lo, gp, sm, q⟩ := h
  have hu6 := hr.units
  refine ⟨_, (pss_cons (ps_for PassesOwn.never rfl (piK K (pv 0)) (pg_name (i := 1) sc_law_changed.nd rfl (Or.inl rfl)) (pss_one (ps_if (pt_val (pe_callB (isiK K) rfl T.n_isinstance (by rfl) (pa_cons (pv 1) (pa_cons (pe_bltn rfl T.n_list (by rfl) (v := .ty "list") rfl) pa_nil)))) (pss_cons (ps_expr (pe_bm0 PySem.F.plainAttrs_list PySem.F.slot_list_reverse PySem.F.type_list_reverse reverseN (pv 1)))
    (pss_one (ps_expr (bmK K PySem.F.plainAttrs_list PySem.F.slot_list_append PySem.F.type_list_append appendN (pv 1) (pa_cons (tupN (pa_cons pe_str (pa_cons pe_str pa_nil))) pa_nil))))) pss_nil)))
    (pss_one (ps_expr (pe_bm0 PySem.F.plainAttrs_list PySem.F.slot_list_clear PySem.F.type_list_clear clearN (pv 0))))), ?_⟩
  have ls : us.length ≤ 1000 := by omega
  refine ⟨_, rfl, p, rfl, ⟨_, SqL.of hp⟩, ?_⟩
  refine for_list (xs := us) (fun i σ H' => Same G H' ∧ H' p = some (.lst us) ∧ (∀ u ∈ us, NL H' u ∨ ∃ q ys, u = .ref q ∧ G q = none ∧ q ≠ p ∧ H' q = some (.lst ys) ∧ ys.length ≤ 100 + i) ∧ ∃ x, σ = [some (.ref p), x]) ⟨sm, hp, lo, _, rfl⟩ ?_ ?_ ?_
  · rintro i σ H1 _ ⟨_, h, _⟩
    exact SqL.of h
  · rintro i u σ H1 hu ⟨sm1, hp1, lo1, x1, rfl⟩
    have hm : u ∈ us := List.mem_of_getElem? hu
    have hi : i < us.length := (List.getElem?_eq_some_iff.mp hu).1
    refine gn ?_
    have keep : ∀ u' ∈ us, NL H1 u' ∨ ∃ q ys, u' = .ref q ∧ G q = none ∧ q ≠ p ∧ H1 q = some (.lst ys) ∧ ys.length ≤ 100 + (i + 1) := fun u' hu' => by
      rcases lo1 u' hu' with z | ⟨q, ys, e1, e2, e3, e4, e5⟩
      · exact .inl z
      · exact .inr ⟨q, ys, e1, e2, e3, e4, by omega⟩
    rcases lo1 u hm with nl | ⟨l, ys, rfl, gl, lp, hl, yl⟩
    · rcases nl with rfl | ⟨b, rfl⟩ | ⟨a, xs, rfl, ha⟩
      · exact ⟨_, rfl, .inr ⟨_, _, _, _, rfl, .non, (kitT K .none).2.2.2.1, _, rfl, iteF ⟨sm1, hp1, keep, _, rfl⟩⟩⟩
      · exact ⟨_, rfl, .inr ⟨_, _, _, _, rfl, .bl b, (kitT K (.bool b)).2.2.2.1, _, rfl, iteF ⟨sm1, hp1, keep, _, rfl⟩⟩⟩
      · exact ⟨_, rfl, .inr ⟨_, _, _, _, rfl, .tup ha, (kitT K (.tuple [])).2.2.2.1, _, rfl, iteF ⟨sm1, hp1, keep, _, rfl⟩⟩⟩
    · refine ⟨_, rfl, .inr ⟨_, _, _, _, rfl, .lst hl, (kitT K (.list [])).2.2.2.1, _, rfl, iteT ?_⟩⟩
      refine ⟨_, rfl, .inl ⟨rfl, _, SqL.of hl⟩, _, _, rfl, rfl, hl, fun H2 c2 => ?_⟩
      refine ⟨_, rfl, .inl ⟨rfl, _, SqL.of c2.at⟩, by show 2 ≤ sizeLine; decide, fun pt H3 n3 => ?_⟩
      have hl3 := n3.same _ _ c2.at
      refine ⟨_, _, _, rfl, rfl, hl3, Nat.lt_of_lt_of_le (show _ < 1000 by rw [List.length_reverse]; omega) (by decide), fun H4 c4 => ?_⟩
      have ne4 : ∀ (a : Addr) o, a ≠ l → H1 a = some o → H4 a = some o := fun a o hne e => by
        rw [c4.ne hne]
        refine n3.same _ _ ?_
        rw [c2.ne hne]
        exact e
      refine ⟨fun a o e => ne4 a o (ne_of_none e gl) (sm1 _ _ e), ne4 p _ (Ne.symm lp) hp1, fun u' hu' => ?_, _, rfl⟩
      rcases lo1 u' hu' with z | ⟨q, zs, e1, e2, e3, e4, e5⟩
      · rcases z with z | z | ⟨a, xs, e, ha⟩
        · exact .inl (.inl z)
        · exact .inl (.inr (.inl z))
        · exact .inl (.inr (.inr ⟨a, xs, e, ne4 a _ (fun w => by rw [w, hl] at ha; cases ha) ha⟩))
      · by_cases hq : q = l
        · subst hq
          refine .inr ⟨q, _, e1, e2, e3, c4.at, ?_⟩
          rw [List.length_append, List.length_reverse, List.length_singleton]
          omega
        · exact .inr ⟨q, zs, e1, e2, e3, ne4 q _ hq e4, by omega⟩
  · rintro σ H1 ⟨sm1, hp1, lo1, x1, rfl⟩
    refine ⟨_, rfl, .inl ⟨rfl, _, SqL.of hp1⟩, _, _, rfl, rfl, hp1, fun H2 c2 => q _ fun a o e => ?_⟩
    rw [c2.ne (ne_of_none e gp)]
    exact sm1 _ _ e
end
end Z

set_option Elab.async false
set_option linter.all false
set_option maxRecDepth 100000
set_option maxHeartbeats 4000000
namespace Z
open PySem L2
def spLaw (K : PySem.W.Frag) : Sp := fun vs H Q _ => ∃ (a : Addr) (ns : List Int), vs = [.ref a] ∧ SqL K H a (ns.map V.int) ∧ ns.length ≤ 63 ∧ ∀ H', Q (.bl true) H'
theorem AskOk.of {n : Nat} {bk : List (Str × Str)} (h : BookOk n bk) (hn : n ≤ 24) (dr : Drawn bk) : AskOk bk := by
  refine ⟨h.ne, h.le, fun q hq => ⟨h.nm q hq, ?_⟩, fun q hq => (h.cd q hq).mono hn⟩
  obtain ⟨g, _, _, hg⟩ := dr
  obtain ⟨j, hj⟩ := List.mem_iff_getElem?.mp hq
  exact (hg j q hj).le
theorem AskOk.rev {bk : List (Str × Str)} (h : AskOk bk) : AskOk bk.reverse :=
  ⟨fun z => h.ne (List.reverse_eq_nil_iff.mp z), by rw [List.length_reverse]; exact h.le, fun q hq => h.nm q (List.mem_reverse.mp hq), fun q hq => h.cd q (List.mem_reverse.mp hq)⟩
theorem AskOk.put {bk : List (Str × Str)} {x y : Str} (h : AskOk bk) (hx : Low x ∧ x.length ≤ 8) (hy : CodeOk 24 y) : AskOk (bk.dropLast ++ [(x, y)]) := by
  refine ⟨by simp, ?_, fun q hq => ?_, fun q hq => ?_⟩
  · have := h.le
    rw [List.length_append, List.length_dropLast, List.length_singleton]
    omega
  · rcases List.mem_append.mp hq with z | z
    · exact h.nm q ((List.dropLast_sublist _).subset z)
    · rw [List.mem_singleton.mp z]; exact hx
  · rcases List.mem_append.mp hq with z | z
    · exact h.cd q ((List.dropLast_sublist _).subset z)
    · rw [List.mem_singleton.mp z]; exact hy
theorem densLast {K : PySem.W.Frag} {H : Hp} {ds : List PyData} {vs : List V} (h : Dens K H ds vs) : Dens K H ds.dropLast vs.dropLast := by
  rw [List.dropLast_eq_take, List.dropLast_eq_take, h.len]
  exact densFirst h _
theorem Loose.same {G H H' : Hp} {p : Addr} {us : List V} (h : Loose G H p us) (s : Same H H') : Loose G H' p us := fun u hu => by
  rcases h u hu with z | ⟨q, ys, e1, e2, e3, e4, e5⟩
  · exact .inl (z.same s)
  · exact .inr ⟨q, ys, e1, e2, e3, s _ _ e4, e5⟩
theorem ones {n : Int} (h1 : 1 ≤ n) (h2 : n ≤ 5) : CodeOk 24 (Txt.mul (Str.ofString "1") n) := by
  have : n = 1 ∨ n = 2 ∨ n = 3 ∨ n = 4 ∨ n = 5 := by omega
  rcases this with rfl | rfl | rfl | rfl | rfl
  all_goals exact ⟨fun ch hc => by revert ch; decide +kernel, by decide +kernel, by decide +kernel⟩
theorem other_ok : Low (Str.ofString "other") ∧ (Str.ofString "other").length ≤ 8 := ⟨fun ch hc => by revert ch; decide +kernel, by decide +kernel⟩
section
variable {P : Program} {w : World} {K : PySem.W.Frag} {mg : Str → Option Value} {base : Heap} {f : Addr} {fd : FuncData}
theorem sc_law : FnScope ["_law_script", "_law_box", "_law_books", "_law_due", "_law_turn", "_law_at", "_law_handed", "_law_found", "_law_names_here"] ["_law_script"] (defScope (top i_law)) := ⟨rfl, rfl, rfl, by decide +kernel, rfl, by decide +kernel, by decide +kernel⟩
theorem ok_law (F : Fun K "law" "law" (top i_law) f fd) (T : Nm mg) (f_law_begin : Fn P w K mg base 1 "_law_begin" ["_law_script"] (spBegin K)) (f_law_any_book : Fn P w K mg base 3 "_law_any_book" ["_law_box"] (spAny K)) (f_law_free_book : Fn P w K mg base 4 "_law_free_book" ["_law_box"] (spFB K)) (f_law_all : Fn P w K mg base 5 "_law_all" ["_law_book"] (spAll K)) (f_law_take : Fn P w K mg base 1 "_law_take" ["_law_box", "_law_many"] spTk) (f_law_same : Fn P w K mg base 5 "_law_same" ["_law_found", "_law_due"] (spSame K 5)) (f_law_changed : Fn P w K mg base 1 "_law_changed" ["_law_found"] (spChd K)) :
    FnOk P w K mg base CX0 6 f fd ["_law_script"] (spLaw K) := by
  refine F.ok sc_law (fun vs H Q E h => ?_) (fun cdv A outer s H vs Q E hr h => ?_)
  · obtain ⟨a, ns, rfl, _⟩ := h
    rfl
  obtain ⟨a, ns, rfl, hS, hlen, q⟩ := h
  have hu6 := hr.units
  refine ⟨_, (pss_cons (ps_set (i := 1) sc_law.nd rfl (Or.inl rfl) (pe_fn (f_law_begin.mono (by first | decide | exact Nat.le_refl _)) hr rfl (pa_cons (pv 0) pa_nil)))
    (pss_cons (ps_set (i := 2) sc_law.nd rfl (Or.inl rfl) (lstN (pa_cons (pe_fn (f_law_any_book.mono (by first | decide | exact Nat.le_refl _)) hr rfl (pa_cons (pv 1) pa_nil)) (pa_cons (pe_fn (f_law_free_book.mono (by first | decide | exact Nat.le_refl _)) hr rfl (pa_cons (pv 1) pa_nil)) (pa_cons (pe_fn (f_law_any_book.mono (by first | decide | exact Nat.le_refl _)) hr rfl (pa_cons (pv 1) pa_nil)) pa_nil)))))
    (pss_cons (ps_setcomp (i := 3) sc_law.nd rfl (Or.inl rfl) rfl (comp_ok (Nc := ["_law_book"]) (Fc := []) (js := [])) (piK K (pv 2)) (gk_name (i := 0) (n := 1) (by decide)) (fun _ _ _ _ _ => (pg_name (i := 0) (show (["_law_book"] : List Str).Nodup by decide +kernel) rfl (Or.inl rfl))) (fun _ _ _ _ _ => pts_nil) (fun _ _ _ _ _ => (pe_fn (f_law_all.mono (by first | decide | exact Nat.le_refl _)) hr rfl (pa_cons (pe_callTy (listN K) rfl T.n_list (by rfl) (pa_cons (pv 0) pa_nil)) pa_nil))))
    (pss_cons (ps_for PassesOwn.never rfl (pi_range1 rfl T.n_range (pa_cons pe_int pa_nil)) (pg_name (i := 4) sc_law.nd rfl (Or.inl rfl)) (pss_cons (ps_set (i := 5) sc_law.nd rfl (Or.inl rfl) (pe_fn (f_law_take.mono (by first | decide | exact Nat.le_refl _)) hr rfl (pa_cons (pv 1) (pa_cons pe_int pa_nil))))
    (pss_cons (ps_set (i := 6) sc_law.nd rfl (Or.inl rfl) (pe_callTy (listN K) rfl T.n_list (by rfl) (pa_cons (pe_ix (ixK K) (pv 2) (pv 5) (fun _ _ => rfl)) pa_nil)))
    (pss_cons (ps_set (i := 7) sc_law.nd rfl (Or.inl rfl) (pe_fn (f_law_all.mono (by first | decide | exact Nat.le_refl _)) hr rfl (pa_cons (pv 6) pa_nil)))
    (pss_cons (ps_if (PW.pt (pw_or (pt_not (pt_val (pe_fn (f_law_same.mono (by first | decide | exact Nat.le_refl _)) hr rfl (pa_cons (pv 7) (pa_cons (pe_ix (ixK K) (pv 3) (pv 5) (fun _ _ => rfl)) pa_nil))))) (pw_or1 (pt_cmpR (neK K hu6) (pv 6) (pe_ix (ixK K) (pv 2) (pv 5) (fun _ _ => rfl)) (nomark _))))) (pss_one (ps_ret pe_bl)) pss_nil)
    (pss_cons (ps_expr (pe_fn (f_law_changed.mono (by first | decide | exact Nat.le_refl _)) hr rfl (pa_cons (pv 7) pa_nil)))
    (pss_cons (ps_expr (pe_bm0 PySem.F.plainAttrs_list PySem.F.slot_list_reverse PySem.F.type_list_reverse reverseN (pv 6)))
    (pss_cons (ps_if (pt_not (pt_val (pe_fn (f_law_same.mono (by first | decide | exact Nat.le_refl _)) hr rfl (pa_cons (pe_fn (f_law_all.mono (by first | decide | exact Nat.le_refl _)) hr rfl (pa_cons (pv 6) pa_nil)) (pa_cons (pe_fn (f_law_all.mono (by first | decide | exact Nat.le_refl _)) hr rfl (pa_cons (pe_rev K (pe_ix (ixK K) (pv 2) (pv 5) (fun _ _ => rfl))) pa_nil)) pa_nil))))) (pss_one (ps_ret pe_bl)) pss_nil)
    (pss_cons (ps_expr (pe_bm0 PySem.F.plainAttrs_list PySem.F.slot_list_pop PySem.F.type_list_pop popN (pv 6)))
    (pss_cons (ps_expr (bmK K PySem.F.plainAttrs_list PySem.F.slot_list_append PySem.F.type_list_append appendN (pv 6) (pa_cons (tupN (pa_cons pe_str (pa_cons (pe_op mulS pe_str (pe_op addN pe_int (pe_fn (f_law_take.mono (by first | decide | exact Nat.le_refl _)) hr rfl (pa_cons (pv 1) (pa_cons pe_int pa_nil))))) pa_nil))) pa_nil)))
    (pss_cons (ps_setcomp (i := 8) sc_law.nd rfl (Or.inl rfl) rfl (comp_ok (Nc := ["_law_name", "_law_code"]) (Fc := []) (js := [])) (piK K (pv 6)) (gk_tup (gks_cons (gk_name (i := 0) (n := 2) (by decide)) (gks_cons (gk_name (i := 1) (n := 2) (by decide)) gks_nil gm_name gms_nil) gm_name (gms_cons gm_name gms_nil))) (fun _ _ _ _ _ => (tupK K 2 rfl (pgs_cons (pg_name (i := 0) (show (["_law_name", "_law_code"] : List Str).Nodup by decide +kernel) rfl (Or.inl rfl)) (pgs_cons (pg_name (i := 1) (show (["_law_name", "_law_code"] : List Str).Nodup by decide +kernel) rfl (Or.inl rfl)) pgs_nil)))) (fun _ _ _ _ _ => pts_nil) (fun _ _ _ _ _ => (pv 0)))
    (pss_one (ps_if (PW.pt (pw_and (pt_cmpR (eqK K hu6) (bmK K PySem.F.plainAttrs_list PySem.F.slot_list_count PySem.F.type_list_count countN (pv 8) (pa_cons pe_str pa_nil)) pe_int (nomark _)) (pw_and1 (pt_not (pt_val (pe_fn (f_law_same.mono (by first | decide | exact Nat.le_refl _)) hr rfl (pa_cons (pe_fn (f_law_all.mono (by first | decide | exact Nat.le_refl _)) hr rfl (pa_cons (pv 6) pa_nil)) (pa_cons (pe_fn (f_law_all.mono (by first | decide | exact Nat.le_refl _)) hr rfl (pa_cons (pe_callTy (listN K) rfl T.n_list (by rfl) (pa_cons (pv 6) pa_nil)) pa_nil)) pa_nil)))))))) (pss_one (ps_ret pe_bl)) pss_nil)))))))))))))
    (pss_one (ps_ret (pe_callB (call_all_bl rfl) rfl T.n_all (by rfl) (pa_cons (pe_lcomp rfl (comp_ok (Nc := ["_law_book", "_law_told"]) (Fc := []) (js := [])) (pi_zipK K rfl T.n_zip (pa_cons (pv 2) (pa_cons (pv 3) pa_nil))) (gk_tup (gks_cons (gk_name (i := 0) (n := 2) (by decide)) (gks_cons (gk_name (i := 1) (n := 2) (by decide)) gks_nil gm_name gms_nil) gm_name (gms_cons gm_name gms_nil))) (fun _ _ _ _ _ => (tupK K 2 rfl (pgs_cons (pg_name (i := 0) (show (["_law_book", "_law_told"] : List Str).Nodup by decide +kernel) rfl (Or.inl rfl)) (pgs_cons (pg_name (i := 1) (show (["_law_book", "_law_told"] : List Str).Nodup by decide +kernel) rfl (Or.inl rfl)) pgs_nil)))) (fun _ _ _ _ _ => pts_nil) (fun _ _ _ _ _ => (pe_fn (f_law_same.mono (by first | decide | exact Nat.le_refl _)) hr rfl (pa_cons (pe_fn (f_law_all.mono (by first | decide | exact Nat.le_refl _)) hr rfl (pa_cons (pv 0) pa_nil)) (pa_cons (pv 1) pa_nil))))) pa_nil)))))))), ?_⟩
  refine ⟨_, rfl, a, ns, rfl, hS, hlen, fun b c H1 bx1 hb hc sm1 => ?_⟩
  -- the three books
  refine ⟨_, rfl, b, c, 0, rfl, bx1, by omega, by omega, fun bk0 v0 H2 t2 ok0 l0 dr0 hB0 st2 => ?_⟩
  have ub2 := st2.ub
  have lo2 := st2.le
  refine ⟨_, rfl, b, c, t2, rfl, st2.bx, by omega, by omega, fun bk1 v1 H3 t3 ok1 l1 dr1 fr1 hB1 st3 => ?_⟩
  have ub3 := st3.ub
  have lo3 := st3.le
  refine ⟨_, rfl, b, c, t3, rfl, st3.bx, by omega, by omega, fun bk2 v2 H4 t4 ok2 l2 dr2 hB2 st4 => ?_⟩
  have ub4 := st4.ub
  have lo4 := st4.le
  refine ⟨by show 3 ≤ sizeLine; decide, fun B H5 n5 => gn ?_⟩
  have st5 := (Step.refl st4.bx).newN n5
  have bx5 := st5.bx
  have get : ∀ (k : Nat), k < 3 → ∃ bk v, [bk0, bk1, bk2][k]? = some bk ∧ [v0, v1, v2][k]? = some v ∧ AskOk bk ∧ BookAt K (hid H5 b c) bk v := fun k hk => by
    have bs : ∀ {bk v} {H' : Hp}, BookAt K (hid H' b c) bk v → Same (hid H' b c) (hid H5 b c) → BookAt K (hid H5 b c) bk v := fun h sm => by
      obtain ⟨l, vs, e, h1, h2⟩ := h
      exact ⟨l, vs, e, sm _ _ h1, h2.same sm⟩
    have : k = 0 ∨ k = 1 ∨ k = 2 := by omega
    rcases this with rfl | rfl | rfl
    · exact ⟨bk0, v0, rfl, rfl, .of ok0 (by decide) dr0, bs hB0 (st3.sm.trans (st4.sm.trans st5.sm))⟩
    · exact ⟨bk1, v1, rfl, rfl, .of ok1 (by decide) dr1, bs hB1 (st4.sm.trans st5.sm)⟩
    · exact ⟨bk2, v2, rfl, rfl, .of ok2 (by decide) dr2, bs hB2 st5.sm⟩
  -- what is due
  refine ⟨_, rfl, B, rfl, ⟨_, SqL.of n5.at⟩, ?_⟩
  refine comp_go (N := 3) (fun i ys H' => Same H5 H' ∧ ∃ dl : List (List PyData), dl.length = i ∧ Dens K H' (dl.map PyData.list) ys ∧ ∀ (k : Nat) bk ds, [bk0, bk1, bk2][k]? = some bk → dl[k]? = some ds → AllR bk ds) ⟨Same.refl _, [], rfl, by show Dens K H5 [] []; unfold Dens; rfl, fun k bk ds _ e => by simp at e⟩ ?_ ?_
  · rintro i ys H6 Nx hi ⟨sm6, dl, hdl, hD, hA⟩ nx
    obtain ⟨bk, v, ebk, ev, ok, l, vs, rfl, hl, hds⟩ := get i hi
    have q1 := SqL.of (K := K) (sm6 _ _ n5.at)
    refine ⟨⟨_, _, q1, ev⟩, by rw [hD.len, List.length_map, hdl]; exact Nat.lt_of_lt_of_le hi (by decide), ?_⟩
    rintro x' H6 ⟨rfl, hx⟩
    have e := hx _ q1
    rw [ev] at e; cases e
    refine ⟨_, rfl, l, vs, rfl, .inl (SqL.of (sm6 _ _ (of_hid hl).1)), fun l' H7 n7 => ?_⟩
    refine ⟨_, bk, rfl, Den.list (SqL.of n7.at) (hds.same (hid_same.trans (sm6.trans n7.same))), ok, fun ds us p H8 hR sm8 hp hp8 ul hDs lo => nx _ _ ⟨sm6.trans (n7.same.trans sm8), dl ++ [ds], by rw [List.length_append, hdl]; rfl, ?_, fun k bk' ds' e1 e2 => ?_⟩⟩
    · rw [List.map_append]
      exact densApp (hD.same (n7.same.trans sm8)) (Den.list (SqL.of hp8) hDs)
    · by_cases hk : k < dl.length
      · rw [List.getElem?_append_left hk] at e2
        exact hA k bk' ds' e1 e2
      · have : k = i := by
          have := (List.getElem?_eq_some_iff.mp e2).1
          simp at this; omega
        subst this
        rw [List.getElem?_append_right (by omega), hdl, Nat.sub_self] at e2
        cases e2
        rw [ebk] at e1
        cases e1
        exact hR
  rintro ys H6 ⟨sm6, dl, hdl, hDl, hA⟩
  refine ⟨⟨_, SqL.of (sm6 _ _ n5.at), Nat.le_refl _⟩, fun D hD0 => ?_⟩
  obtain ⟨H7, n7⟩ : ∃ H7, New H6 D (.lst ys) H7 := ⟨_, hD0, rfl⟩
  rw [← n7.eq]
  refine gn ?_
  have st7 := (st5.trans (Step.same bx5 sm6)).newN n7
  have bx7 := st7.bx
  have hB7 : hid H7 b c B = some (.lst [v0, v1, v2]) := by
    obtain ⟨h1, h2⟩ := st4.bx.ne_new n5.nn
    rw [hid_of h1 h2]
    exact n7.same _ _ (sm6 _ _ n5.at)
  have hD7 : hid H7 b c D = some (.lst ys) := by
    obtain ⟨h1, h2⟩ := (Step.same bx5 sm6).bx.ne_new n7.nn
    rw [hid_of h1 h2]
    exact n7.at
  have get7 : ∀ (k : Nat), k < 3 → ∃ bk l vs ds u, [v0, v1, v2][k]? = some (.ref l) ∧ ys[k]? = some u ∧ AskOk bk ∧ AllR bk ds ∧ hid H7 b c l = some (.lst vs) ∧ Dens K (hid H7 b c) (bk.map fun q => .tuple [.str q.1, .str q.2]) vs ∧ Den K (hid H7 b c) (.list ds) u := fun k hk => by
    obtain ⟨bk, v, ebk, ev, ok, l, vs, rfl, hl, hds⟩ := get k hk
    have sm57 := Same.hid (b := b) (c := c) (sm6.trans n7.same)
    have ed : dl[k]? = some dl[k] := List.getElem?_eq_getElem (by omega)
    obtain ⟨u, eu, du⟩ := hDl.get (i := k) (d := .list dl[k]) (by rw [List.getElem?_map, ed]; rfl)
    have hR := hA k bk _ ebk ed
    exact ⟨bk, l, vs, dl[k], u, ev, eu, ok, hR, sm57 _ _ hl, hds.same sm57, Den.hide bx7 (hR.cons ok).2.2 (du.same n7.same)⟩
  clear get hA hDl
  dsimp only
  refine seqCut (t := tFor _ _ _) (fun σ H' => ∃ (t' : Int) (x4 x5 x6 x7 x8 : Option V), σ = [some (.ref a), some (.ref b), some (.ref B), some (.ref D), x4, x5, x6, x7, x8] ∧ Step b c H7 H' t4 t' 100) (fun Nx nx => ?_) ?_
  · refine ⟨6, rfl, by decide, by decide, ?_⟩
    refine for_range (lo := 0) (n := 6) (fun i σ H' => ∃ (t' : Int) (x4 x5 x6 x7 x8 : Option V), σ = [some (.ref a), some (.ref b), some (.ref B), some (.ref D), x4, x5, x6, x7, x8] ∧ Step b c H7 H' t4 t' (4 * i)) ⟨t4, _, _, _, _, _, rfl, by simpa using Step.refl bx7⟩ ?_ ?_
    · rintro i σ H8 hi ⟨t8, x4, x5, x6, x7, x8, rfl, st8⟩
      have ub8 := st8.ub
      have lo8 := st8.le
      refine ⟨_, rfl, b, c, t8, 3, rfl, st8.bx, by omega, by omega, by decide, by decide, fun r H9 r0 r1 st9 => gn ?_⟩
      obtain ⟨bk, l, vs, ds, u, ev, eu, ok, hR, hl7, hds7, hu7⟩ := get7 r.toNat (by omega)
      have st79 := st8.trans st9
      have sm79 := st79.sm
      have bx9 := st9.bx
      have hB9 := sm79 _ _ hB7
      have hD9 := sm79 _ _ hD7
      have hl9 := sm79 _ _ hl7
      have hds9 := hds7.same sm79
      have hu9 := hu7.same sm79
      -- handed, and what is found of it
      refine ⟨_, rfl, _, rfl, .inl ⟨B, _, _, _, rfl, rfl, SqL.of (of_hid hB9).1, at_nat r0 ev, l, vs, rfl, .inl (SqL.of (of_hid hl9).1), fun h H10 n10 => gn ?_⟩⟩
      obtain ⟨hhb, hhc⟩ := bx9.ne_new n10.nn
      have st10 := (Step.refl bx9).newN n10
      refine ⟨_, rfl, _, bk, rfl, Den.list (SqL.of n10.at) (hds9.same (hid_same.trans n10.same)), ok, fun ds' us p H11 hR' sm11 hp10 hp11 ul hD11 lo11 => gn ?_⟩
      have eds := hR'.one hR
      subst eds
      have cons := hR.cons ok
      have sh := ok.weight.2
      have lay : (bookD bk).canLay0 = true := by
        unfold SeqAt.shaped at sh
        rw [Bool.and_eq_true] at sh
        exact sh.1
      have sm9 : Same (hid H9 b c) H11 := hid_same.trans (n10.same.trans sm11)
      refine ⟨_, rfl, _, rfl, _, rfl, .inl ⟨D, _, _, _, rfl, rfl, SqL.of (sm9 _ _ hD9), at_nat r0 eu, _, _, .list ds', rfl, Den.list (SqL.of hp11) hD11, hu9.same sm9, cons.1, cons.2.1, fun H12 sm12 => ⟨_, rfl, iteF ?_⟩⟩⟩
      have sm912 := sm9.trans sm12
      refine ⟨_, rfl, _, rfl, _, rfl, .inl ⟨B, _, _, _, rfl, rfl, SqL.of (sm912 _ _ hB9), at_nat r0 ev, .inr ⟨bookD bk, bookD bk, Den.list (SqL.of (sm12 _ _ (sm11 _ _ n10.at))) (hds9.same sm912), Den.list (SqL.of (sm912 _ _ hl9)) (hds9.same sm912), sh, sh, _, rfl, ?_⟩⟩⟩
      rw [eqv_refl _ lay]
      refine iteF ?_
      -- changed
      refine ⟨_, rfl, p, us, H10, rfl, sm12 _ _ hp11, ul, lo11.same sm12, hp10, sm11.trans sm12, fun H13 sm13 => ?_⟩
      have hh13 := sm13 _ _ n10.at
      refine ⟨_, rfl, .inl ⟨rfl, _, SqL.of hh13⟩, _, _, rfl, rfl, hh13, fun H14 c14 => ?_⟩
      have st14 := ((st10.trans (Step.same st10.bx sm13))).chgN c14 n10.nn hhb hhc
      have hds14 := hds9.same (st14.sm.trans hid_same)
      have hB14 := hid_same _ _ (st14.sm _ _ hB9)
      have hl14 := hid_same _ _ (st14.sm _ _ hl9)
      have dR : ∀ {H' : Hp} {m : Addr}, Same H14 H' → H' m = some (.lst vs.reverse) → Den K H' (bookD bk.reverse) (.ref m) := fun sm hm => by
        refine Den.list (SqL.of hm) ?_
        rw [List.map_reverse]
        exact densRev (hds14.same sm)
      refine ⟨_, rfl, _, bk.reverse, rfl, dR (Same.refl _) c14.at, ok.rev, fun d15 u15 p15 H15 R15 sm15 _ hp15 _ hD15 _ => ?_⟩
      refine ⟨_, rfl, _, rfl, .inl ⟨B, _, _, _, rfl, rfl, SqL.of (sm15 _ _ hB14), at_nat r0 ev, l, vs, rfl, SqL.of (sm15 _ _ hl14), fun m H16 n16 => ?_⟩⟩
      refine ⟨_, bk.reverse, rfl, dR (sm15.trans n16.same) n16.at, ok.rev, fun d17 u17 p17 H17 R17 sm17 _ hp17 _ hD17 _ => ?_⟩
      have e15 := R17.one R15
      subst e15
      have cons2 := R17.cons ok.rev
      have sm1517 := n16.same.trans sm17
      refine ⟨_, _, .list d17, rfl, Den.list (SqL.of (sm1517 _ _ hp15)) (hD15.same sm1517), Den.list (SqL.of hp17) hD17, cons2.1, cons2.2.1, fun H18 sm18 => ⟨_, rfl, iteF ?_⟩⟩
      have sm1418 := sm15.trans (sm1517.trans sm18)
      have hh18 := sm1418 _ _ c14.at
      have vl : vs.length = bk.length := by rw [hds9.len, List.length_map]
      have hpos : 0 < bk.length := List.length_pos_iff.mpr ok.ne
      have bl := ok.le
      have rl : vs.reverse.length = bk.length := by rw [List.length_reverse, vl]
      refine ⟨_, rfl, .inl ⟨rfl, _, SqL.of hh18⟩, _, _, vs.reverse[vs.reverse.length - 1]'(by omega), rfl, rfl, hh18, List.getElem?_eq_getElem _, fun H19 c19 => ?_⟩
      have st19 := (st14.trans (Step.same st14.bx sm1418)).chgN c19 n10.nn hhb hhc
      have ub19 := st19.ub
      have lo19 := st19.le
      refine ⟨_, rfl, .inl ⟨rfl, _, SqL.of c19.at⟩, _, rfl, b, c, _, 5, rfl, st19.bx, by omega, by omega, by decide, by decide, fun r2 H20 e0 e1 st20 => ?_⟩
      have hh20 := st20.old c19.at hhb hhc
      have st20 := st19.trans st20
      refine .inl ⟨_, _, rfl, rfl, .inr ⟨_, _, rfl, rfl, mulOk_small (by decide) (by omega) (by omega), by show 2 ≤ sizeLine; decide, fun pt H21 n21 => ?_⟩⟩
      have cod := ones (n := 1 + r2) (by omega) (by omega)
      generalize Txt.mul (Str.ofString "1") (1 + r2) = y at *
      have hh21 := n21.same _ _ hh20
      refine ⟨h, _, _, rfl, rfl, hh21, Nat.lt_of_lt_of_le (show _ < 1000 by rw [List.length_dropLast]; omega) (by decide), fun H22 c22 => ?_⟩
      have st22 := (st20.newN n21).chgN c22 n10.nn hhb hhc
      have pth : pt ≠ h := Ne.symm (ne_of_none hh20 n21.nn)
      have hpt : H22 pt = some (.tup [.str (Str.ofString "other"), .str y]) := by rw [c22.ne pth]; exact n21.at
      obtain ⟨nb, hnb⟩ : ∃ nb, nb = bk.reverse.dropLast ++ [(Str.ofString "other", y)] := ⟨_, rfl⟩
      obtain ⟨ws, hws⟩ : ∃ ws, ws = vs.reverse.dropLast ++ [V.ref pt] := ⟨_, rfl⟩
      have okn : AskOk nb := by rw [hnb]; exact ok.rev.put other_ok cod
      have dws : Dens K H22 (nb.map fun q => .tuple [.str q.1, .str q.2]) ws := by
        have d1 : Dens K H22 (bk.reverse.map fun q => .tuple [.str q.1, .str q.2]) vs.reverse := by
          rw [List.map_reverse]
          exact densRev (hds9.same (st22.sm.trans hid_same))
        have d2 := densLast d1
        rw [← List.map_dropLast] at d2
        rw [hnb, hws, List.map_append]
        exact densApp d2 (Den.pairOf hpt)
      have hh22 : H22 h = some (.lst ws) := by rw [hws]; exact c22.at
      have wl : ws.length = nb.length := by rw [dws.len, List.length_map]
      have nl := okn.le
      have fin : ∀ (H' : Hp), Same H22 H' → Step b c H7 H' t4 (t8 + 1 + 1) (4 * ((i + 1 : Nat) : Int)) := fun H' sm => ((st79.trans st22).trans (Step.same st22.bx sm)).more (by omega)
      -- the names
      refine ⟨_, rfl, h, rfl, ⟨_, SqL.of hh22⟩, ?_⟩
      refine comp_go (N := nb.length) (fun j ys H' => H' = H22 ∧ ys = ((nb.take j).map fun q => V.str q.1)) ⟨rfl, rfl⟩ ?_ ?_
      · rintro j ys H' Nx hj ⟨rfl, rfl⟩ nx
        obtain ⟨x, hx, dx⟩ := dws.get (i := j) (d := .tuple [.str nb[j].1, .str nb[j].2]) (by rw [List.getElem?_map, List.getElem?_eq_getElem hj]; rfl)
        obtain ⟨ax, rfl, hT⟩ := dx.pair
        refine ⟨⟨_, _, SqL.of hh22, hx⟩, Nat.lt_of_le_of_lt (by rw [List.length_map, List.length_take]; omega) (show 1000 < sizeLine by decide), ?_⟩
        rintro x' H2 ⟨rfl, hy⟩
        have e := hy _ (SqL.of hh22)
        rw [hx] at e; cases e
        refine ⟨ax, _, rfl, hT, rfl, _, _, rfl, _, _, rfl, rfl, ?_⟩
        refine ⟨_, rfl, nx _ _ ⟨rfl, ?_⟩⟩
        rw [List.take_succ_eq_append_getElem hj, List.map_append]; rfl
      rintro ys2 H' ⟨rfl, rfl⟩
      refine ⟨⟨_, SqL.of hh22, by rw [wl]; exact Nat.le_refl _⟩, fun pn hpn => ?_⟩
      obtain ⟨H23, n23⟩ : ∃ H23, New H' pn (.lst ((nb.take nb.length).map fun q => V.str q.1)) H23 := ⟨_, hpn, rfl⟩
      rw [← n23.eq]
      refine gn ?_
      have hn23 : H23 pn = some (.lst ((nb.map (·.1)).map V.str)) := by rw [n23.at, List.take_length, List.map_map]; rfl
      refine ⟨_, rfl, .inl ⟨rfl, _, SqL.of hn23⟩, pn, _, _, rfl, rfl, hn23, .inl ⟨rfl, _, rfl, ite2 (fun _ => ?_) (fun _ => iteF ⟨_, _, _, _, _, _, rfl, fin _ n23.same⟩)⟩⟩
      have hh23 := n23.same _ _ hh22
      refine ⟨_, rfl, _, nb, rfl, Den.list (SqL.of hh23) (dws.same n23.same), okn, fun d24 u24 p24 H24 R24 sm24 _ hp24 _ hD24 _ => ?_⟩
      refine ⟨_, rfl, h, ws, rfl, .inl (SqL.of (sm24 _ _ hh23)), fun m2 H25 n25 => ?_⟩
      refine ⟨_, nb, rfl, Den.list (SqL.of n25.at) (dws.same (n23.same.trans (sm24.trans n25.same))), okn, fun d26 u26 p26 H26 R26 sm26 _ hp26 _ hD26 _ => ?_⟩
      have e24 := R26.one R24
      subst e24
      have cons3 := R26.cons okn
      have sm2426 := n25.same.trans sm26
      exact ⟨_, _, .list d26, rfl, Den.list (SqL.of (sm2426 _ _ hp24)) (hD24.same sm2426), Den.list (SqL.of hp26) hD26, cons3.1, cons3.2.1, fun H27 sm27 => ⟨_, rfl, iteF ⟨_, _, _, _, _, _, rfl, fin _ (n23.same.trans (sm24.trans (sm2426.trans sm27)))⟩⟩⟩
    · rintro σ H8 ⟨t8, x4, x5, x6, x7, x8, rfl, st8⟩
      exact nx _ _ ⟨t8, _, _, _, _, _, rfl, st8.more (by omega)⟩
  · rintro σ H8 ⟨t8, x4, x5, x6, x7, x8, rfl, st8⟩
    have hB8 := hid_same _ _ (st8.sm _ _ hB7)
    have hD8 := hid_same _ _ (st8.sm _ _ hD7)
    refine ⟨_, rfl, _, rfl, false, false, B, D, rfl, ⟨_, SqL.of hB8⟩, ⟨_, SqL.of hD8⟩, ?_⟩
    refine comp_go (N := 3) (fun i zs H' => Same H8 H' ∧ zs = (List.replicate i true).map V.bl) ⟨Same.refl _, rfl⟩ ?_ ?_
    · rintro i zs H9 Nx hi ⟨sm9, rfl⟩ nx
      obtain ⟨bk, l, vs, ds, u, ev, eu, ok, hR, hl7, hds7, hu7⟩ := get7 i hi
      have q1 : SqK false K H9 B [v0, v1, v2] := SqL.of (sm9 _ _ hB8)
      have q2 : SqK false K H9 D ys := SqL.of (sm9 _ _ hD8)
      refine ⟨⟨_, _, _, _, q1, q2, ev, eu⟩, by rw [List.length_map, List.length_replicate]; exact Nat.lt_of_lt_of_le hi (by decide), ?_⟩
      rintro x' H10 ⟨T', rfl, hN⟩
      have n10 := hN _ _ _ _ q1 q2 ev eu
      refine ⟨T', _, rfl, SqT.of n10.at, rfl, _, _, rfl, _, _, rfl, rfl, ?_⟩
      have sm7 : Same (hid H7 b c) H10 := st8.sm.trans (hid_same.trans (sm9.trans n10.same))
      refine ⟨_, rfl, _, bk, rfl, Den.list (SqL.of (sm7 _ _ hl7)) (hds7.same sm7), ok, fun ds' us p H11 hR' sm11 _ hp11 _ hD11 _ => ?_⟩
      have eds := hR'.one hR
      subst eds
      have cons := hR.cons ok
      refine ⟨_, rfl, _, _, .list ds', rfl, Den.list (SqL.of hp11) hD11, hu7.same (sm7.trans sm11), cons.1, cons.2.1, fun H12 sm12 => nx _ _ ⟨sm9.trans (n10.same.trans (sm11.trans sm12)), ?_⟩⟩
      rw [List.replicate_succ', List.map_append]; rfl
    · rintro zs H9 ⟨sm9, rfl⟩
      have q1 : SqK false K H9 B [v0, v1, v2] := SqL.of (sm9 _ _ hB8)
      have q2 : SqK false K H9 D ys := SqL.of (sm9 _ _ hD8)
      refine ⟨⟨_, _, q1, q2, .inl (Nat.le_refl _)⟩, fun p2 hp2 => ?_⟩
      refine ⟨p2, List.replicate 3 true, rfl, SqL.of upd_same, ?_⟩
      rw [all_true]
      exact q _
end
end Z

namespace Z
open PySem L2
theorem all_mk {l : PySem.W.OpenLaw} {w : World} {K : PySem.W.Frag} {h : Heap} {mg : Str → Option Value} {fa f1 f2 f3 f4 f5 f6 f7 f8 f9 f10 f11 f12 f13 f14 f15 f16 f17 f18 f19 f20 f21 f22 f23 f24 f25 : Addr} (X : K.In h) (G : h.Ns mainGlobals mg) (hfa : mg "law" = some (.ref fa))
    {od1 an1 : Option Addr} {sl1 : Array (Option Value)} {oc1 kV1 dc1 pm1 cd1 ct1 : Value}
    {od2 an2 : Option Addr} {sl2 : Array (Option Value)} {oc2 kV2 dc2 pm2 cd2 ct2 : Value}
    {od3 an3 : Option Addr} {sl3 : Array (Option Value)} {oc3 kV3 dc3 pm3 cd3 ct3 : Value}
    {od4 an4 : Option Addr} {sl4 : Array (Option Value)} {oc4 kV4 dc4 pm4 cd4 ct4 : Value}
    {od5 an5 : Option Addr} {sl5 : Array (Option Value)} {oc5 kV5 dc5 pm5 cd5 ct5 : Value}
    {od6 an6 : Option Addr} {sl6 : Array (Option Value)} {oc6 kV6 dc6 pm6 cd6 ct6 : Value}
    {od7 an7 : Option Addr} {sl7 : Array (Option Value)} {oc7 kV7 dc7 pm7 cd7 ct7 : Value}
    {od8 an8 : Option Addr} {sl8 : Array (Option Value)} {oc8 kV8 dc8 pm8 cd8 ct8 : Value}
    {od9 an9 : Option Addr} {sl9 : Array (Option Value)} {oc9 kV9 dc9 pm9 cd9 ct9 : Value}
    {od10 an10 : Option Addr} {sl10 : Array (Option Value)} {oc10 kV10 dc10 pm10 cd10 ct10 : Value}
    {od11 an11 : Option Addr} {sl11 : Array (Option Value)} {oc11 kV11 dc11 pm11 cd11 ct11 : Value}
    {od12 an12 : Option Addr} {sl12 : Array (Option Value)} {oc12 kV12 dc12 pm12 cd12 ct12 : Value}
    {od13 an13 : Option Addr} {sl13 : Array (Option Value)} {oc13 kV13 dc13 pm13 cd13 ct13 : Value}
    {od14 an14 : Option Addr} {sl14 : Array (Option Value)} {oc14 kV14 dc14 pm14 cd14 ct14 : Value}
    {od15 an15 : Option Addr} {sl15 : Array (Option Value)} {oc15 kV15 dc15 pm15 cd15 ct15 : Value}
    {od16 an16 : Option Addr} {sl16 : Array (Option Value)} {oc16 kV16 dc16 pm16 cd16 ct16 : Value}
    {od17 an17 : Option Addr} {sl17 : Array (Option Value)} {oc17 kV17 dc17 pm17 cd17 ct17 : Value}
    {od18 an18 : Option Addr} {sl18 : Array (Option Value)} {oc18 kV18 dc18 pm18 cd18 ct18 : Value}
    {od19 an19 : Option Addr} {sl19 : Array (Option Value)} {oc19 kV19 dc19 pm19 cd19 ct19 : Value}
    {od20 an20 : Option Addr} {sl20 : Array (Option Value)} {oc20 kV20 dc20 pm20 cd20 ct20 : Value}
    {od21 an21 : Option Addr} {sl21 : Array (Option Value)} {oc21 kV21 dc21 pm21 cd21 ct21 : Value}
    {od22 an22 : Option Addr} {sl22 : Array (Option Value)} {oc22 kV22 dc22 pm22 cd22 ct22 : Value}
    {od23 an23 : Option Addr} {sl23 : Array (Option Value)} {oc23 kV23 dc23 pm23 cd23 ct23 : Value}
    {od24 an24 : Option Addr} {sl24 : Array (Option Value)} {oc24 kV24 dc24 pm24 cd24 ct24 : Value}
    {od25 an25 : Option Addr} {sl25 : Array (Option Value)} {oc25 kV25 dc25 pm25 cd25 ct25 : Value}
    {C0 : Addr} {cd0x : _}
    {tkc0 : Tok}
    {tkc1 : Tok}
    {tkc2 : Tok}
    (a1 : PySem.W.nsIn K mainGlobals "made_of" = some (some (.ref f1))) (l1 : K.lookup f1 = some ⟨oc1, od1, .func (PySem.W.fnOf "made_of" "made_of" (defArgs (top i_made_of)) (defBody (top i_made_of)) (defScope (top i_made_of)) .none kV1 dc1 pm1 an1 cd1 ct1), sl1⟩) (c1 : PySem.W.codeIn K cd1 "made_of" = true) (k1 : PySem.W.keepIn K (.ref f1) = true)
    (a2 : PySem.W.nsIn K mainGlobals "is_name" = some (some (.ref f2))) (l2 : K.lookup f2 = some ⟨oc2, od2, .func (PySem.W.fnOf "is_name" "is_name" (defArgs (top i_is_name)) (defBody (top i_is_name)) (defScope (top i_is_name)) .none kV2 dc2 pm2 an2 cd2 ct2), sl2⟩) (c2 : PySem.W.codeIn K cd2 "is_name" = true) (k2 : PySem.W.keepIn K (.ref f2) = true)
    (a3 : PySem.W.nsIn K mainGlobals "is_code" = some (some (.ref f3))) (l3 : K.lookup f3 = some ⟨oc3, od3, .func (PySem.W.fnOf "is_code" "is_code" (defArgs (top i_is_code)) (defBody (top i_is_code)) (defScope (top i_is_code)) .none kV3 dc3 pm3 an3 cd3 ct3), sl3⟩) (c3 : PySem.W.codeIn K cd3 "is_code" = true) (k3 : PySem.W.keepIn K (.ref f3) = true)
    (a4 : PySem.W.nsIn K mainGlobals "is_entry" = some (some (.ref f4))) (l4 : K.lookup f4 = some ⟨oc4, od4, .func (PySem.W.fnOf "is_entry" "is_entry" (defArgs (top i_is_entry)) (defBody (top i_is_entry)) (defScope (top i_is_entry)) .none kV4 dc4 pm4 an4 cd4 ct4), sl4⟩) (c4 : PySem.W.codeIn K cd4 "is_entry" = true) (k4 : PySem.W.keepIn K (.ref f4) = true)
    (a5 : PySem.W.nsIn K mainGlobals "is_book" = some (some (.ref f5))) (l5 : K.lookup f5 = some ⟨oc5, od5, .func (PySem.W.fnOf "is_book" "is_book" (defArgs (top i_is_book)) (defBody (top i_is_book)) (defScope (top i_is_book)) .none kV5 dc5 pm5 an5 cd5 ct5), sl5⟩) (c5 : PySem.W.codeIn K cd5 "is_book" = true) (k5 : PySem.W.keepIn K (.ref f5) = true)
    (a6 : PySem.W.nsIn K mainGlobals "two_to" = some (some (.ref f6))) (l6 : K.lookup f6 = some ⟨oc6, od6, .func (PySem.W.fnOf "two_to" "two_to" (defArgs (top i_two_to)) (defBody (top i_two_to)) (defScope (top i_two_to)) .none kV6 dc6 pm6 an6 cd6 ct6), sl6⟩) (c6 : PySem.W.codeIn K cd6 "two_to" = true) (k6 : PySem.W.keepIn K (.ref f6) = true)
    (a7 : PySem.W.nsIn K mainGlobals "figures_of" = some (some (.ref f7))) (l7 : K.lookup f7 = some ⟨oc7, od7, .func (PySem.W.fnOf "figures_of" "figures_of" (defArgs (top i_figures_of)) (defBody (top i_figures_of)) (defScope (top i_figures_of)) .none kV7 dc7 pm7 an7 cd7 ct7), sl7⟩) (c7 : PySem.W.codeIn K cd7 "figures_of" = true) (k7 : PySem.W.keepIn K (.ref f7) = true)
    (a8 : PySem.W.nsIn K mainGlobals "rest_of" = some (some (.ref f8))) (l8 : K.lookup f8 = some ⟨oc8, od8, .func (PySem.W.fnOf "rest_of" "rest_of" (defArgs (top i_rest_of)) (defBody (top i_rest_of)) (defScope (top i_rest_of)) .none kV8 dc8 pm8 an8 cd8 ct8), sl8⟩) (c8 : PySem.W.codeIn K cd8 "rest_of" = true) (k8 : PySem.W.keepIn K (.ref f8) = true)
    (a9 : PySem.W.nsIn K mainGlobals "clash" = some (some (.ref f9))) (l9 : K.lookup f9 = some ⟨oc9, od9, .func (PySem.W.fnOf "clash" "clash" (defArgs (top i_clash)) (defBody (top i_clash)) (defScope (top i_clash)) .none kV9 dc9 pm9 an9 cd9 ct9), sl9⟩) (c9 : PySem.W.codeIn K cd9 "clash" = true) (k9 : PySem.W.keepIn K (.ref f9) = true)
    (a10 : PySem.W.nsIn K mainGlobals "free" = some (some (.ref f10))) (l10 : K.lookup f10 = some ⟨oc10, od10, .func (PySem.W.fnOf "free" "free" (defArgs (top i_free)) (defBody (top i_free)) (defScope (top i_free)) .none kV10 dc10 pm10 an10 cd10 ct10), sl10⟩) (c10 : PySem.W.codeIn K cd10 "free" = true) (k10 : PySem.W.keepIn K (.ref f10) = true)
    (a11 : PySem.W.nsIn K mainGlobals "halves_by" = some (some (.ref f11))) (l11 : K.lookup f11 = some ⟨oc11, od11, .func (PySem.W.fnOf "halves_by" "halves_by" (defArgs (top i_halves_by)) (defBody (top i_halves_by)) (defScope (top i_halves_by)) .none kV11 dc11 pm11 an11 cd11 ct11), sl11⟩) (c11 : PySem.W.codeIn K cd11 "halves_by" = true) (k11 : PySem.W.keepIn K (.ref f11) = true)
    (a12 : PySem.W.nsIn K mainGlobals "halves" = some (some (.ref f12))) (l12 : K.lookup f12 = some ⟨oc12, od12, .func (PySem.W.fnOf "halves" "halves" (defArgs (top i_halves)) (defBody (top i_halves)) (defScope (top i_halves)) .none kV12 dc12 pm12 an12 cd12 ct12), sl12⟩) (c12 : PySem.W.codeIn K cd12 "halves" = true) (k12 : PySem.W.keepIn K (.ref f12) = true)
    (a13 : PySem.W.nsIn K mainGlobals "least_codes" = some (some (.ref f13))) (l13 : K.lookup f13 = some ⟨oc13, od13, .func (PySem.W.fnOf "least_codes" "least_codes" (defArgs (top i_least_codes)) (defBody (top i_least_codes)) (defScope (top i_least_codes)) .none kV13 dc13 pm13 an13 cd13 ct13), sl13⟩) (c13 : PySem.W.codeIn K cd13 "least_codes" = true) (k13 : PySem.W.keepIn K (.ref f13) = true)
    (a14 : PySem.W.nsIn K mainGlobals "codes_by" = some (some (.ref f14))) (l14 : K.lookup f14 = some ⟨oc14, od14, .func (PySem.W.fnOf "codes_by" "codes_by" (defArgs (top i_codes_by)) (defBody (top i_codes_by)) (defScope (top i_codes_by)) .none kV14 dc14 pm14 an14 cd14 ct14), sl14⟩) (c14 : PySem.W.codeIn K cd14 "codes_by" = true) (k14 : PySem.W.keepIn K (.ref f14) = true)
    (a15 : PySem.W.nsIn K mainGlobals "_law_begin" = some (some (.ref f15))) (l15 : K.lookup f15 = some ⟨oc15, od15, .func (PySem.W.fnOf "_law_begin" "_law_begin" (defArgs (top i_law_begin)) (defBody (top i_law_begin)) (defScope (top i_law_begin)) .none kV15 dc15 pm15 an15 cd15 ct15), sl15⟩) (c15 : PySem.W.codeIn K cd15 "_law_begin" = true) (k15 : PySem.W.keepIn K (.ref f15) = true)
    (a16 : PySem.W.nsIn K mainGlobals "_law_take" = some (some (.ref f16))) (l16 : K.lookup f16 = some ⟨oc16, od16, .func (PySem.W.fnOf "_law_take" "_law_take" (defArgs (top i_law_take)) (defBody (top i_law_take)) (defScope (top i_law_take)) .none kV16 dc16 pm16 an16 cd16 ct16), sl16⟩) (c16 : PySem.W.codeIn K cd16 "_law_take" = true) (k16 : PySem.W.keepIn K (.ref f16) = true)
    (a17 : PySem.W.nsIn K mainGlobals "_law_same" = some (some (.ref f17))) (l17 : K.lookup f17 = some ⟨oc17, od17, .func (PySem.W.fnOf "_law_same" "_law_same" (defArgs (top i_law_same)) (defBody (top i_law_same)) (defScope (top i_law_same)) .none kV17 dc17 pm17 an17 cd17 ct17), sl17⟩) (c17 : PySem.W.codeIn K cd17 "_law_same" = true) (k17 : PySem.W.keepIn K (.ref f17) = true)
    (a18 : PySem.W.nsIn K mainGlobals "_law_names" = some (some (.ref f18))) (l18 : K.lookup f18 = some ⟨oc18, od18, .func (PySem.W.fnOf "_law_names" "_law_names" (defArgs (top i_law_names)) (defBody (top i_law_names)) (defScope (top i_law_names)) .none kV18 dc18 pm18 an18 cd18 ct18), sl18⟩) (c18 : PySem.W.codeIn K cd18 "_law_names" = true) (k18 : PySem.W.keepIn K (.ref f18) = true)
    (a19 : PySem.W.nsIn K mainGlobals "_law_signs" = some (some (.ref f19))) (l19 : K.lookup f19 = some ⟨oc19, od19, .func (PySem.W.fnOf "_law_signs" "_law_signs" (defArgs (top i_law_signs)) (defBody (top i_law_signs)) (defScope (top i_law_signs)) .none kV19 dc19 pm19 an19 cd19 ct19), sl19⟩) (c19 : PySem.W.codeIn K cd19 "_law_signs" = true) (k19 : PySem.W.keepIn K (.ref f19) = true)
    (a20 : PySem.W.nsIn K mainGlobals "_law_any_book" = some (some (.ref f20))) (l20 : K.lookup f20 = some ⟨oc20, od20, .func (PySem.W.fnOf "_law_any_book" "_law_any_book" (defArgs (top i_law_any_book)) (defBody (top i_law_any_book)) (defScope (top i_law_any_book)) .none kV20 dc20 pm20 an20 cd20 ct20), sl20⟩) (c20 : PySem.W.codeIn K cd20 "_law_any_book" = true) (k20 : PySem.W.keepIn K (.ref f20) = true)
    (a21 : PySem.W.nsIn K mainGlobals "_law_free_codes" = some (some (.ref f21))) (l21 : K.lookup f21 = some ⟨oc21, od21, .func (PySem.W.fnOf "_law_free_codes" "_law_free_codes" (defArgs (top i_law_free_codes)) (defBody (top i_law_free_codes)) (defScope (top i_law_free_codes)) .none kV21 dc21 pm21 an21 cd21 ct21), sl21⟩) (c21 : PySem.W.codeIn K cd21 "_law_free_codes" = true) (k21 : PySem.W.keepIn K (.ref f21) = true)
    (a22 : PySem.W.nsIn K mainGlobals "_law_free_book" = some (some (.ref f22))) (l22 : K.lookup f22 = some ⟨oc22, od22, .func (PySem.W.fnOf "_law_free_book" "_law_free_book" (defArgs (top i_law_free_book)) (defBody (top i_law_free_book)) (defScope (top i_law_free_book)) .none kV22 dc22 pm22 an22 cd22 ct22), sl22⟩) (c22 : PySem.W.codeIn K cd22 "_law_free_book" = true) (k22 : PySem.W.keepIn K (.ref f22) = true)
    (a23 : PySem.W.nsIn K mainGlobals "_law_all" = some (some (.ref f23))) (l23 : K.lookup f23 = some ⟨oc23, od23, .func (PySem.W.fnOf "_law_all" "_law_all" (defArgs (top i_law_all)) (defBody (top i_law_all)) (defScope (top i_law_all)) .none kV23 dc23 pm23 an23 cd23 ct23), sl23⟩) (c23 : PySem.W.codeIn K cd23 "_law_all" = true) (k23 : PySem.W.keepIn K (.ref f23) = true)
    (a24 : PySem.W.nsIn K mainGlobals "_law_changed" = some (some (.ref f24))) (l24 : K.lookup f24 = some ⟨oc24, od24, .func (PySem.W.fnOf "_law_changed" "_law_changed" (defArgs (top i_law_changed)) (defBody (top i_law_changed)) (defScope (top i_law_changed)) .none kV24 dc24 pm24 an24 cd24 ct24), sl24⟩) (c24 : PySem.W.codeIn K cd24 "_law_changed" = true) (k24 : PySem.W.keepIn K (.ref f24) = true)
    (a25 : PySem.W.nsIn K mainGlobals "law" = some (some (.ref f25))) (l25 : K.lookup f25 = some ⟨oc25, od25, .func (PySem.W.fnOf "law" "law" (defArgs (top i_law)) (defBody (top i_law)) (defScope (top i_law)) .none kV25 dc25 pm25 an25 cd25 ct25), sl25⟩) (c25 : PySem.W.codeIn K cd25 "law" = true) (k25 : PySem.W.keepIn K (.ref f25) = true)
    (e0n : PySem.W.nsIn K mainGlobals "TooFull" = some (some (.ref C0))) (e0x : PySem.W.excIn K C0 [.type "ValueError", .type "Exception", .type "BaseException", .type "object"] "ValueError.__new__" = true) (e0s : PySem.W.subIn K (.ref C0) (.type "BaseException") = some true) (e0c : PySem.W.clsIn K C0 = some cd0x) (e0t : PySem.W.typeIn K (.ref C0) = some (.type "type")) (e0v : PySem.W.subIn K (.ref C0) (.ref C0) = some true)
    (vc0 : PySem.W.nsIn K mainGlobals "LONGEST_NAME" = some (some (.int 8 tkc0)))
    (vc1 : PySem.W.nsIn K mainGlobals "SMALL_LETTERS" = some (some (.str "abcdefghijklmnopqrstuvwxyz" tkc1)))
    (vc2 : PySem.W.nsIn K mainGlobals "SIGNS" = some (some (.str "01" tkc2)))
    (y0 : PySem.W.nsIn K mainGlobals "sorted" = some none)
    (z0 : PySem.W.nsIn K mainGlobals "len" = some none) (z1 : PySem.W.nsIn K mainGlobals "range" = some none) (z2 : PySem.W.nsIn K mainGlobals "max" = some none) (z3 : PySem.W.nsIn K mainGlobals "min" = some none) (z4 : PySem.W.nsIn K mainGlobals "sum" = some none) (z5 : PySem.W.nsIn K mainGlobals "all" = some none) (z6 : PySem.W.nsIn K mainGlobals "any" = some none) (z7 : PySem.W.nsIn K mainGlobals "list" = some none) (z8 : PySem.W.nsIn K mainGlobals "tuple" = some none) (z9 : PySem.W.nsIn K mainGlobals "int" = some none) (z10 : PySem.W.nsIn K mainGlobals "str" = some none) (z11 : PySem.W.nsIn K mainGlobals "bool" = some none) (z12 : PySem.W.nsIn K mainGlobals "zip" = some none) (z13 : PySem.W.nsIn K mainGlobals "enumerate" = some none) (z14 : PySem.W.nsIn K mainGlobals "isinstance" = some none) (z15 : PySem.W.nsIn K mainGlobals "divmod" = some none) :
    ∃ fd : FuncData, (∀ (s : Shared) (v : Value), BindsTo s fd ⟨[v], []⟩ [("_law_script", v)]) ∧ ∀ base : Heap, K.In base → base.Ns mainGlobals mg → FnOk l.prog w K mg base CX0 6 fa fd ["_law_script"] (spLaw K) := by
  have e := hfa.symm.trans (PySem.W.mg_of X G a25)
  cases e
  have T : Nm mg := ⟨PySem.W.mg_none_of X G z0, PySem.W.mg_none_of X G z1, PySem.W.mg_none_of X G z2, PySem.W.mg_none_of X G z3, PySem.W.mg_none_of X G z4, PySem.W.mg_none_of X G z5, PySem.W.mg_none_of X G z6, PySem.W.mg_none_of X G z7, PySem.W.mg_none_of X G z8, PySem.W.mg_none_of X G z9, PySem.W.mg_none_of X G z10, PySem.W.mg_none_of X G z11, PySem.W.mg_none_of X G z12, PySem.W.mg_none_of X G z13, PySem.W.mg_none_of X G z14, PySem.W.mg_none_of X G z15⟩
  have n_sorted := PySem.W.mg_none_of X G y0
  have v_LONGEST_NAME := PySem.W.mg_of X G vc0
  have v_SMALL_LETTERS := PySem.W.mg_of X G vc1
  have v_SIGNS := PySem.W.mg_of X G vc2
  have m_TooFull := exm_self e0s e0c e0t e0v
  have F1 := fun_mk (st := top i_made_of) l1 c1 k1
  have b1 := F1.binds (ps := ["text", "signs"]) fun _ _ _ _ _ _ us hl => match us, hl with | [_, _], _ => rfl
  have F2 := fun_mk (st := top i_is_name) l2 c2 k2
  have b2 := F2.binds (ps := ["thing"]) fun _ _ _ _ _ _ us hl => match us, hl with | [_], _ => rfl
  have F3 := fun_mk (st := top i_is_code) l3 c3 k3
  have b3 := F3.binds (ps := ["thing"]) fun _ _ _ _ _ _ us hl => match us, hl with | [_], _ => rfl
  have F4 := fun_mk (st := top i_is_entry) l4 c4 k4
  have b4 := F4.binds (ps := ["thing"]) fun _ _ _ _ _ _ us hl => match us, hl with | [_], _ => rfl
  have F5 := fun_mk (st := top i_is_book) l5 c5 k5
  have b5 := F5.binds (ps := ["thing"]) fun _ _ _ _ _ _ us hl => match us, hl with | [_], _ => rfl
  have F6 := fun_mk (st := top i_two_to) l6 c6 k6
  have b6 := F6.binds (ps := ["power"]) fun _ _ _ _ _ _ us hl => match us, hl with | [_], _ => rfl
  have F7 := fun_mk (st := top i_figures_of) l7 c7 k7
  have b7 := F7.binds (ps := ["number", "many"]) fun _ _ _ _ _ _ us hl => match us, hl with | [_, _], _ => rfl
  have F8 := fun_mk (st := top i_rest_of) l8 c8 k8
  have b8 := F8.binds (ps := ["one", "other"]) fun _ _ _ _ _ _ us hl => match us, hl with | [_, _], _ => rfl
  have F9 := fun_mk (st := top i_clash) l9 c9 k9
  have b9 := F9.binds (ps := ["book"]) fun _ _ _ _ _ _ us hl => match us, hl with | [_], _ => rfl
  have F10 := fun_mk (st := top i_free) l10 c10 k10
  have b10 := F10.binds (ps := ["book"]) fun _ _ _ _ _ _ us hl => match us, hl with | [_], _ => rfl
  have F11 := fun_mk (st := top i_halves_by) l11 c11 k11
  have b11 := F11.binds (ps := ["lengths"]) fun _ _ _ _ _ _ us hl => match us, hl with | [_], _ => rfl
  have F12 := fun_mk (st := top i_halves) l12 c12 k12
  have b12 := F12.binds (ps := ["book"]) fun _ _ _ _ _ _ us hl => match us, hl with | [_], _ => rfl
  have F13 := fun_mk (st := top i_least_codes) l13 c13 k13
  have b13 := F13.binds (ps := ["lengths"]) fun _ _ _ _ _ _ us hl => match us, hl with | [_], _ => rfl
  have F14 := fun_mk (st := top i_codes_by) l14 c14 k14
  have b14 := F14.binds (ps := ["lengths"]) fun _ _ _ _ _ _ us hl => match us, hl with | [_], _ => rfl
  have F15 := fun_mk (st := top i_law_begin) l15 c15 k15
  have b15 := F15.binds (ps := ["_law_script"]) fun _ _ _ _ _ _ us hl => match us, hl with | [_], _ => rfl
  have F16 := fun_mk (st := top i_law_take) l16 c16 k16
  have b16 := F16.binds (ps := ["_law_box", "_law_many"]) fun _ _ _ _ _ _ us hl => match us, hl with | [_, _], _ => rfl
  have F17 := fun_mk (st := top i_law_same) l17 c17 k17
  have b17 := F17.binds (ps := ["_law_found", "_law_due"]) fun _ _ _ _ _ _ us hl => match us, hl with | [_, _], _ => rfl
  have F18 := fun_mk (st := top i_law_names) l18 c18 k18
  have b18 := F18.binds (ps := ["_law_box", "_law_many"]) fun _ _ _ _ _ _ us hl => match us, hl with | [_, _], _ => rfl
  have F19 := fun_mk (st := top i_law_signs) l19 c19 k19
  have b19 := F19.binds (ps := ["_law_box", "_law_many"]) fun _ _ _ _ _ _ us hl => match us, hl with | [_, _], _ => rfl
  have F20 := fun_mk (st := top i_law_any_book) l20 c20 k20
  have b20 := F20.binds (ps := ["_law_box"]) fun _ _ _ _ _ _ us hl => match us, hl with | [_], _ => rfl
  have F21 := fun_mk (st := top i_law_free_codes) l21 c21 k21
  have b21 := F21.binds (ps := ["_law_box", "_law_many", "_law_most"]) fun _ _ _ _ _ _ us hl => match us, hl with | [_, _, _], _ => rfl
  have F22 := fun_mk (st := top i_law_free_book) l22 c22 k22
  have b22 := F22.binds (ps := ["_law_box"]) fun _ _ _ _ _ _ us hl => match us, hl with | [_], _ => rfl
  have F23 := fun_mk (st := top i_law_all) l23 c23 k23
  have b23 := F23.binds (ps := ["_law_book"]) fun _ _ _ _ _ _ us hl => match us, hl with | [_], _ => rfl
  have F24 := fun_mk (st := top i_law_changed) l24 c24 k24
  have b24 := F24.binds (ps := ["_law_found"]) fun _ _ _ _ _ _ us hl => match us, hl with | [_], _ => rfl
  have F25 := fun_mk (st := top i_law) l25 c25 k25
  refine ⟨PySem.W.fnOf "law" "law" (defArgs (top i_law)) (defBody (top i_law)) (defScope (top i_law)) .none kV25 dc25 pm25 an25 cd25 ct25, fun s v => .of_eq rfl, fun base hB hG => ?_⟩
  have O_TooFull := own_in hB hG e0n e0x
  have fMade : Fn l.prog w K mg base 1 "made_of" ["text", "signs"] (spMade) := ⟨f1, _, ok_made F1 T, b1, k1, PySem.W.mg_of X G a1⟩
  have fIsN : Fn l.prog w K mg base 2 "is_name" ["thing"] (spAsk K isNameD) := ⟨f2, _, ok_isname F2 T v_LONGEST_NAME v_SMALL_LETTERS fMade, b2, k2, PySem.W.mg_of X G a2⟩
  have fIsC : Fn l.prog w K mg base 2 "is_code" ["thing"] (spAsk K isCodeD) := ⟨f3, _, ok_iscode F3 T v_SIGNS fMade, b3, k3, PySem.W.mg_of X G a3⟩
  have fIsE : Fn l.prog w K mg base 3 "is_entry" ["thing"] (spAsk K isEntryD) := ⟨f4, _, ok_isentry F4 T fIsN fIsC, b4, k4, PySem.W.mg_of X G a4⟩
  have fIsB : Fn l.prog w K mg base 4 "is_book" ["thing"] (spIsBook K) := ⟨f5, _, ok_isbook F5 T fIsE, b5, k5, PySem.W.mg_of X G a5⟩
  have fTwo : Fn l.prog w K mg base 1 "two_to" ["power"] (spTwo) := ⟨f6, _, ok_two F6 T, b6, k6, PySem.W.mg_of X G a6⟩
  have fFig : Fn l.prog w K mg base 1 "figures_of" ["number", "many"] (spFig) := ⟨f7, _, ok_fig F7 T, b7, k7, PySem.W.mg_of X G a7⟩
  have fRest : Fn l.prog w K mg base 1 "rest_of" ["one", "other"] (spRest) := ⟨f8, _, ok_rest F8 T, b8, k8, PySem.W.mg_of X G a8⟩
  have fCl : Fn l.prog w K mg base 2 "clash" ["book"] (spClash K) := ⟨f9, _, ok_cl F9 T fRest, b9, k9, PySem.W.mg_of X G a9⟩
  have fCln : Fn l.prog w K mg base 2 "clash" ["book"] (spCln K) := Fn.imp fCl (fun _ _ _ _ h => spCln_of h)
  have fFr : Fn l.prog w K mg base 3 "free" ["book"] (spFree K) := ⟨f10, _, ok_free F10 T fCl, b10, k10, PySem.W.mg_of X G a10⟩
  have fHb : Fn l.prog w K mg base 2 "halves_by" ["lengths"] (spHalvesBy K) := ⟨f11, _, ok_hb F11 T fTwo, b11, k11, PySem.W.mg_of X G a11⟩
  have fHv : Fn l.prog w K mg base 3 "halves" ["book"] (spHalves K) := ⟨f12, _, ok_hv F12 T fHb, b12, k12, PySem.W.mg_of X G a12⟩
  have fLc : Fn l.prog w K mg base 2 "least_codes" ["lengths"] (spLC K LcR) := ⟨f13, _, ok_lc F13 T n_sorted fTwo fFig, b13, k13, PySem.W.mg_of X G a13⟩
  have fCB : FnX l.prog w K mg base 3 "codes_by" ["lengths"] (spCB K LcR C0) := ⟨f14, _, ok_cby F14 T O_TooFull PySem.F.excBase_ValueError (fun _ _ h => h.1) fHb fLc, b14, k14, PySem.W.mg_of X G a14⟩
  have fCBf : Fn l.prog w K mg base 3 "codes_by" ["lengths"] (spCBf K) := FnX.calm fCB (fun _ _ _ _ h => spCBf_of h)
  have fBegin : Fn l.prog w K mg base 1 "_law_begin" ["_law_script"] (spBegin K) := ⟨f15, _, ok_begin F15 T, b15, k15, PySem.W.mg_of X G a15⟩
  have fTake : Fn l.prog w K mg base 1 "_law_take" ["_law_box", "_law_many"] (spTake) := ⟨f16, _, ok_take F16 T, b16, k16, PySem.W.mg_of X G a16⟩
  have fTk : Fn l.prog w K mg base 1 "_law_take" ["_law_box", "_law_many"] (spTk) := Fn.imp fTake (fun _ _ _ _ h => spTk_of h)
  have fSame : ∀ n : Nat, Fn l.prog w K mg base n "_law_same" ["_law_found", "_law_due"] (spSame K n) := fun n => by
    induction n with
    | zero => exact ⟨f17, _, ⟨fun vs H Q E h => absurd h (by rintro ⟨_, _, _, _, _, _, z, _⟩; exact absurd z (Nat.not_lt_zero _)), fun A outer s H args us vs Q E _ _ _ _ h => absurd h (by rintro ⟨_, _, _, _, _, _, z, _⟩; exact absurd z (Nat.not_lt_zero _))⟩, b17, k17, PySem.W.mg_of X G a17⟩
    | succ n ih => exact ⟨f17, _, ok_same F17 T ih, b17, k17, PySem.W.mg_of X G a17⟩
  have fNames : Fn l.prog w K mg base 2 "_law_names" ["_law_box", "_law_many"] (spNames) := ⟨f18, _, ok_names F18 T fTk, b18, k18, PySem.W.mg_of X G a18⟩
  have fSigns : Fn l.prog w K mg base 2 "_law_signs" ["_law_box", "_law_many"] (spSigns) := ⟨f19, _, ok_signs F19 T fTake, b19, k19, PySem.W.mg_of X G a19⟩
  have fSg : Fn l.prog w K mg base 2 "_law_signs" ["_law_box", "_law_many"] (spSg) := Fn.imp fSigns (fun _ _ _ _ h => spSg_of h)
  have fAny : Fn l.prog w K mg base 3 "_law_any_book" ["_law_box"] (spAny K) := ⟨f20, _, ok_any F20 T fTk fSg fNames, b20, k20, PySem.W.mg_of X G a20⟩
  have fFC : Fn l.prog w K mg base 3 "_law_free_codes" ["_law_box", "_law_many", "_law_most"] (spFC) := ⟨f21, _, ok_fcodes F21 T fTk fSg, b21, k21, PySem.W.mg_of X G a21⟩
  have fFB : Fn l.prog w K mg base 4 "_law_free_book" ["_law_box"] (spFB K) := ⟨f22, _, ok_fbook F22 T fTk fNames fFC, b22, k22, PySem.W.mg_of X G a22⟩
  have fAll : Fn l.prog w K mg base 5 "_law_all" ["_law_book"] (spAll K) := ⟨f23, _, ok_all F23 T fCln fFr fHv fIsB fCBf, b23, k23, PySem.W.mg_of X G a23⟩
  have fChd : Fn l.prog w K mg base 1 "_law_changed" ["_law_found"] (spChd K) := ⟨f24, _, ok_changed F24 T, b24, k24, PySem.W.mg_of X G a24⟩
  exact ok_law F25 T fBegin fAny fFB fAll fTk (fSame 5) fChd
theorem walk {l : PySem.W.OpenLaw} {q : Program} {loose : List Str} {XP : (Str → Option Value) → Heap → Prop} {YP : World → Heap → Prop} {d : DefRec} {K : Params → PySem.W.Frag} (hn : l.most = some 63) (hdf : d.params.defaults = [])
    (hY : ∀ (w : World) (h : Heap), YP w h → (K w.params).In h)
    (F : ∀ (w : World) (mg : Str → Option Value) (fa : Addr) (h : Heap), (K w.params).In h → h.Ns mainGlobals mg → mg d.name = some (.ref fa) →
      ∃ fd : FuncData, (∀ (s : Shared) (u : Value), BindsTo s fd ⟨[u], []⟩ [("_law_script", u)]) ∧ ∀ base : Heap, (K w.params).In base → base.Ns mainGlobals mg → FnOk l.prog w (K w.params) mg base CX0 6 fa fd ["_law_script"] (spLaw (K w.params))) :
    PySem.W.WalkO q loose XP YP l.row.toRowW d [] (fun f vs => PySem.call f vs) :=
  L2.walk_of (n := 63) (k := 6) (x := "_law_script") (CX := fun _ => CX0) (sp := fun w => spLaw (K w.params)) hn (by decide) hdf ⟨rfl, by decide, by decide, rfl⟩ hY F (fun _ _ a ns hl _ hS => ⟨a, ns, rfl, hS, hl, fun _ => rfl⟩) fun _ _ _ _ _ z => z
end Z
open PySem PySem.W PyProof.Rows L2
set_option maxRecDepth 100000 in
set_option maxHeartbeats 0 in
theorem PySem.Challenge.cw_oddlong_k06_books_again_and_shared_holds : PySem.Challenge.rw_oddlong_k06_books_again_and_shared.Holds := by
  w_on; o_law; k_head; (case hw => w_witness2)
  k_fill
  refine Z.walk (l := PySem.Challenge.rw_oddlong_k06_books_again_and_shared) rfl rfl (fun w h Y => PySem.W.kIn_of Y) ?F
  case F =>
    intro w mg fa h KX G hmg
    refine' Z.all_mk KX G hmg ?a1 ?l1 ?c1 ?k1 ?a2 ?l2 ?c2 ?k2 ?a3 ?l3 ?c3 ?k3 ?a4 ?l4 ?c4 ?k4 ?a5 ?l5 ?c5 ?k5 ?a6 ?l6 ?c6 ?k6 ?a7 ?l7 ?c7 ?k7 ?a8 ?l8 ?c8 ?k8 ?a9 ?l9 ?c9 ?k9 ?a10 ?l10 ?c10 ?k10 ?a11 ?l11 ?c11 ?k11 ?a12 ?l12 ?c12 ?k12 ?a13 ?l13 ?c13 ?k13 ?a14 ?l14 ?c14 ?k14 ?a15 ?l15 ?c15 ?k15 ?a16 ?l16 ?c16 ?k16 ?a17 ?l17 ?c17 ?k17 ?a18 ?l18 ?c18 ?k18 ?a19 ?l19 ?c19 ?k19 ?a20 ?l20 ?c20 ?k20 ?a21 ?l21 ?c21 ?k21 ?a22 ?l22 ?c22 ?k22 ?a23 ?l23 ?c23 ?k23 ?a24 ?l24 ?c24 ?k24 ?a25 ?l25 ?c25 ?k25 ?e0n ?e0x ?e0s ?e0c ?e0t ?e0v ?vc0 ?vc1 ?vc2 ?y0 ?z0 ?z1 ?z2 ?z3 ?z4 ?z5 ?z6 ?z7 ?z8 ?z9 ?z10 ?z11 ?z12 ?z13 ?z14 ?z15
    (case a1 => k_is); (case l1 => k_is); (case c1 => k_is); (case k1 => k_is); (case a2 => k_is); (case l2 => k_is); (case c2 => k_is); (case k2 => k_is)
    (case a3 => k_is); (case l3 => k_is); (case c3 => k_is); (case k3 => k_is); (case a4 => k_is); (case l4 => k_is); (case c4 => k_is); (case k4 => k_is)
    (case a5 => k_is); (case l5 => k_is); (case c5 => k_is); (case k5 => k_is); (case a6 => k_is); (case l6 => k_is); (case c6 => k_is); (case k6 => k_is)
    (case a7 => k_is); (case l7 => k_is); (case c7 => k_is); (case k7 => k_is); (case a8 => k_is); (case l8 => k_is); (case c8 => k_is); (case k8 => k_is)
    (case a9 => k_is); (case l9 => k_is); (case c9 => k_is); (case k9 => k_is); (case a10 => k_is); (case l10 => k_is); (case c10 => k_is); (case k10 => k_is)
    (case a11 => k_is); (case l11 => k_is); (case c11 => k_is); (case k11 => k_is); (case a12 => k_is); (case l12 => k_is); (case c12 => k_is); (case k12 => k_is)
    (case a13 => k_is); (case l13 => k_is); (case c13 => k_is); (case k13 => k_is); (case a14 => k_is); (case l14 => k_is); (case c14 => k_is); (case k14 => k_is)
    (case a15 => k_is); (case l15 => k_is); (case c15 => k_is); (case k15 => k_is); (case a16 => k_is); (case l16 => k_is); (case c16 => k_is); (case k16 => k_is)
    (case a17 => k_is); (case l17 => k_is); (case c17 => k_is); (case k17 => k_is); (case a18 => k_is); (case l18 => k_is); (case c18 => k_is); (case k18 => k_is)
    (case a19 => k_is); (case l19 => k_is); (case c19 => k_is); (case k19 => k_is); (case a20 => k_is); (case l20 => k_is); (case c20 => k_is); (case k20 => k_is)
    (case a21 => k_is); (case l21 => k_is); (case c21 => k_is); (case k21 => k_is); (case a22 => k_is); (case l22 => k_is); (case c22 => k_is); (case k22 => k_is)
    (case a23 => k_is); (case l23 => k_is); (case c23 => k_is); (case k23 => k_is); (case a24 => k_is); (case l24 => k_is); (case c24 => k_is); (case k24 => k_is)
    (case a25 => k_is); (case l25 => k_is); (case c25 => k_is); (case k25 => k_is); (case e0n => k_is); (case e0x => k_exc); (case e0s => k_is); (case e0c => k_is)
    (case e0t => k_is); (case e0v => k_is); (case vc0 => k_is); (case vc1 => k_is); (case vc2 => k_is); (case y0 => k_is); (case z0 => k_is); (case z1 => k_is)
    (case z2 => k_is); (case z3 => k_is); (case z4 => k_is); (case z5 => k_is); (case z6 => k_is); (case z7 => k_is); (case z8 => k_is); (case z9 => k_is)
    (case z10 => k_is); (case z11 => k_is); (case z12 => k_is); (case z13 => k_is); (case z14 => k_is); (case z15 => k_is)
