import PyProof.Rows.All
import Wide.All
import OpenK.AllK
import Wide.FinOn
import PyProof.EqAt
import PyProof.EqKinds
import PyProof.TupleCall
import PyProof.DictCompW
import PyProof.Rows.SortWalk
import OpenK.KRaise
import PyProof.ExcClass2
import KE.KTryMore
import KE.KSortTup
import KE.KIsAll
import PyProof.ListRange
import PyProof.StrBlock2
import PyProof.Rows.SetFrom
import PyProof.SetRoads
import PyProof.ReprRoads
import PyProof.CallStr
import PyProof.Rows.SortStr
import PyProof.Rows.Range3
import PyProof.Rows.IntBool
import KE.KRevIter
import PyProof.MeetsSeq
import PyProof.MinMaxWalk
import PyProof.SliceStr2
import PyProof.P3Eq
import PyProof.Rows.StrLen
import PyProof.Rows.StrCase
import PyProof.InstStoreFacts
import PyProof.ExcInit
import PyProof.StrCalls
import PyProof.DictIter
import PyProof.DictWalks
import PyProof.AutoIntG2
import PyProof.DictItems
import PyProof.RulesTry
import PyProof.EnumMake
import PyProof.Draws
import PyProof.FactsAll.set_1
import PyProof.IsiH_list
import KE.KDictOf
import PyProof.RulesRaise
import KE.KIntText
import PyProof.StrCalls2
import PyProof.StrLawsChain
import PyProof.Rows.SeqMore
import PyProof.TupleOps
import KE.KSortKey
import KE.KMinKey
import KE.KDictList
import PyProof.StrLawsRepr
import PyProof.Rows.StrJoinMade
import PyProof.StrLawsTight
import PyProof.Rows.StrJoinRep
import Lean
import PySem.Challenge.RW_oddlong_k81_sheets_spoilt_anywhere
local macro_rules | `(tactic| omega) => `(tactic| lia)
set_option Elab.async false
set_option linter.all false
set_option maxRecDepth 100000
namespace L2
set_option genSizeOf false
set_option genInjectivity false
inductive Ex2 {α0 α1:Type} (P : α0 → α1→Prop):Prop|mk (x0 : α0) (x1 : α1) (h:P x0 x1):Ex2 P
inductive Ex3 {α0 α1 α2:Type} (P : α0 → α1 → α2→Prop):Prop|mk (x0 : α0) (x1 : α1) (x2 : α2) (h:P x0 x1 x2):Ex3 P
inductive Ex4 {α0 α1 α2 α3:Type} (P : α0 → α1 → α2 → α3→Prop):Prop|mk (x0 : α0) (x1 : α1) (x2 : α2) (x3 : α3) (h:P x0 x1 x2 x3):Ex4 P
inductive Ex5 {α0 α1 α2 α3 α4:Type} (P : α0 → α1 → α2 → α3 → α4→Prop):Prop|mk (x0 : α0) (x1 : α1) (x2 : α2) (x3 : α3) (x4 : α4) (h:P x0 x1 x2 x3 x4):Ex5 P
inductive Ex6 {α0 α1 α2 α3 α4 α5:Type} (P : α0 → α1 → α2 → α3 → α4 → α5→Prop):Prop|mk (x0 : α0) (x1 : α1) (x2 : α2) (x3 : α3) (x4 : α4) (x5 : α5) (h:P x0 x1 x2 x3 x4 x5):Ex6 P
inductive Ex9 {α0 α1 α2 α3 α4 α5 α6 α7 α8:Type} (P : α0 → α1 → α2 → α3 → α4 → α5 → α6 → α7 → α8→Prop):Prop|mk (x0 : α0) (x1 : α1) (x2 : α2) (x3 : α3) (x4 : α4) (x5 : α5) (x6 : α6) (x7 : α7) (x8 : α8) (h:P x0 x1 x2 x3 x4 x5 x6 x7 x8):Ex9 P
set_option genSizeOf true
set_option genInjectivity true
class Elim (P:Prop) (F:outParam (Prop→Prop)):Prop where
 el:P→∀G:Prop,F G→G
theorem Elim.go {P:Prop}{F:Prop→Prop}[i:Elim P F]{G:Prop}(k:F G):P→G:=fun h=>i.el h G k
instance (priority:=low) elimBase {P:Prop} : Elim P (fun G=>P→G):=⟨fun h _ k=>k h⟩
instance elimEx {α:Sort u} {P : α→Prop} {F : α→Prop→Prop} [h:∀x,Elim (P x) (F x)]:Elim (∃x,P x) (fun G=>∀x,F x G):=⟨fun ⟨x,hx⟩ G k=>(h x).el hx G (k x)⟩
instance elimAnd {A B:Prop} {F:Prop→Prop} [h:Elim B F]:Elim (A∧B) (fun G=>A→F G):=⟨fun ⟨a,b⟩ G k=>h.el b G (k a)⟩
instance elimEx2 {α0 α1:Type} {P : α0 → α1→Prop} {F : α0 → α1→Prop→Prop} [i:∀x0 x1,Elim (P x0 x1) (F x0 x1)]:Elim (Ex2 P) (fun G=>∀x0 x1,F x0 x1 G):=⟨fun ⟨x0,x1,h⟩ G k=>(i x0 x1).el h G (k x0 x1)⟩
instance elimEx3 {α0 α1 α2:Type} {P : α0 → α1 → α2→Prop} {F : α0 → α1 → α2→Prop→Prop} [i:∀x0 x1 x2,Elim (P x0 x1 x2) (F x0 x1 x2)]:Elim (Ex3 P) (fun G=>∀x0 x1 x2,F x0 x1 x2 G):=⟨fun ⟨x0,x1,x2,h⟩ G k=>(i x0 x1 x2).el h G (k x0 x1 x2)⟩
instance elimEx4 {α0 α1 α2 α3:Type} {P : α0 → α1 → α2 → α3→Prop} {F : α0 → α1 → α2 → α3→Prop→Prop} [i:∀x0 x1 x2 x3,Elim (P x0 x1 x2 x3) (F x0 x1 x2 x3)]:Elim (Ex4 P) (fun G=>∀x0 x1 x2 x3,F x0 x1 x2 x3 G):=⟨fun ⟨x0,x1,x2,x3,h⟩ G k=>(i x0 x1 x2 x3).el h G (k x0 x1 x2 x3)⟩
instance elimEx5 {α0 α1 α2 α3 α4:Type} {P : α0 → α1 → α2 → α3 → α4→Prop} {F : α0 → α1 → α2 → α3 → α4→Prop→Prop} [i:∀x0 x1 x2 x3 x4,Elim (P x0 x1 x2 x3 x4) (F x0 x1 x2 x3 x4)]:Elim (Ex5 P) (fun G=>∀x0 x1 x2 x3 x4,F x0 x1 x2 x3 x4 G):=⟨fun ⟨x0,x1,x2,x3,x4,h⟩ G k=>(i x0 x1 x2 x3 x4).el h G (k x0 x1 x2 x3 x4)⟩
instance elimEx6 {α0 α1 α2 α3 α4 α5:Type} {P : α0 → α1 → α2 → α3 → α4 → α5→Prop} {F : α0 → α1 → α2 → α3 → α4 → α5→Prop→Prop} [i:∀x0 x1 x2 x3 x4 x5,Elim (P x0 x1 x2 x3 x4 x5) (F x0 x1 x2 x3 x4 x5)]:Elim (Ex6 P) (fun G=>∀x0 x1 x2 x3 x4 x5,F x0 x1 x2 x3 x4 x5 G):=⟨fun ⟨x0,x1,x2,x3,x4,x5,h⟩ G k=>(i x0 x1 x2 x3 x4 x5).el h G (k x0 x1 x2 x3 x4 x5)⟩
instance elimEx9 {α0 α1 α2 α3 α4 α5 α6 α7 α8:Type} {P : α0 → α1 → α2 → α3 → α4 → α5 → α6 → α7 → α8→Prop} {F : α0 → α1 → α2 → α3 → α4 → α5 → α6 → α7 → α8→Prop→Prop} [i:∀x0 x1 x2 x3 x4 x5 x6 x7 x8,Elim (P x0 x1 x2 x3 x4 x5 x6 x7 x8) (F x0 x1 x2 x3 x4 x5 x6 x7 x8)]:Elim (Ex9 P) (fun G=>∀x0 x1 x2 x3 x4 x5 x6 x7 x8,F x0 x1 x2 x3 x4 x5 x6 x7 x8 G):=⟨fun ⟨x0,x1,x2,x3,x4,x5,x6,x7,x8,h⟩ G k=>(i x0 x1 x2 x3 x4 x5 x6 x7 x8).el h G (k x0 x1 x2 x3 x4 x5 x6 x7 x8)⟩
end L2
namespace L2
open PySem PySem.Spec PyProof.Rows
noncomputable abbrev Key:=Sum Int Str
noncomputable def keyIs:Key→Value→Bool
 | .inl k,v=>Value.isInt k v
 | .inr x,v=>Value.isStrOf x v
noncomputable def keyH (w:World):Key→Int
 | .inl k=>hashInt k
 | .inr x=>hashStr w x
theorem keyIs_shape:∀{k:Key} {v:Value},keyIs k v=true→(∃i t,k=Sum.inl i∧v=Value.int i t)∨(∃x t,k=Sum.inr x∧v=Value.str x t)
 | .inl i,v,h=>by
  obtain ⟨t,e⟩:=Value.isInt_shape (k:=i) (v:=v) h
  exact .inl ⟨i,t,rfl,e⟩
 | .inr x,v,h=>by
  obtain ⟨t,e⟩:=Value.isStrOf_shape (x:=x) (v:=v) h
  exact .inr ⟨x,t,rfl,e⟩
theorem keyIs_int (i:Int) (t:Tok):keyIs (.inl i) (.int i t)=true:=by simp [keyIs,Value.isInt]
theorem keyIs_str (x:Str) (t:Tok):keyIs (.inr x) (.str x t)=true:=by simp [keyIs,Value.isStrOf]
theorem key_ll (a b:Int):decide ((Sum.inl a:Key)=Sum.inl b)=(a == b):=by
 by_cases e:a=b
 ·subst e;simp
 ·have h:¬(Sum.inl a:Key)=Sum.inl b:=fun q=>e (Sum.inl.inj q)
  rw [decide_eq_false h]
  exact (beq_eq_false_iff_ne.mpr e).symm
theorem key_rr (a b:Str):decide ((Sum.inr a:Key)=Sum.inr b)=decide (a=b):=by
 by_cases e:a=b
 ·subst e;simp
 ·have h:¬(Sum.inr a:Key)=Sum.inr b:=fun q=>e (Sum.inr.inj q)
  rw [decide_eq_false h,decide_eq_false e]
theorem key_lr (a:Int) (b:Str):decide ((Sum.inl a:Key)=Sum.inr b)=false:=decide_eq_false (fun q=>nomatch q)
theorem key_rl (a:Str) (b:Int):decide ((Sum.inr a:Key)=Sum.inl b)=false:=decide_eq_false (fun q=>nomatch q)
noncomputable def mixKind (prog:Program) (w:World):PySem.KeyKind prog w Key where
 is:=keyIs
 hash:=keyH w
 inj:=fun v a b ha hb=>by
  rcases keyIs_shape ha with ⟨i,t,rfl,rfl⟩|⟨x,t,rfl,rfl⟩
  ·rcases keyIs_shape hb with ⟨j,u,rfl,e⟩|⟨y,u,rfl,e⟩
   ·injection e with e1 _;rw [e1]
   ·exact nomatch e
  ·rcases keyIs_shape hb with ⟨j,u,rfl,e⟩|⟨y,u,rfl,e⟩
   ·exact nomatch e
   ·injection e with e1 _;rw [e1]
 byValue:=fun k v h=>by
  rcases keyIs_shape h with ⟨i,t,rfl,rfl⟩|⟨x,t,rfl,rfl⟩ <;> rfl
 pyHash:=fun hv h=>by
  rcases keyIs_shape hv with ⟨i,t,rfl,rfl⟩|⟨x,t,rfl,rfl⟩
  ·exact wpAny_pyHash_int h
  ·exact wpAny_pyHash_str h
 eqBool:=fun hu hv h=>by
  rcases keyIs_shape hu with ⟨i,t,rfl,rfl⟩|⟨x,t,rfl,rfl⟩
  ·rcases keyIs_shape hv with ⟨j,u,rfl,rfl⟩|⟨y,u,rfl,rfl⟩
   ·rw [key_ll] at h;exact wpAny_eqBool_int h
   ·rw [key_lr] at h;exact SeqAt.EqAt.int_str i t y u _ _ _ _ h
  ·rcases keyIs_shape hv with ⟨j,u,rfl,rfl⟩|⟨y,u,rfl,rfl⟩
   ·rw [key_rl] at h;exact SeqAt.EqAt.str_int x t j u _ _ _ _ h
   ·rw [key_rr] at h;exact wpAny_eqBool_str h
 «strs»:=fun k x t v h=>by
  rcases keyIs_shape h with ⟨i,u,rfl,e⟩|⟨y,u,rfl,e⟩
  ·exact nomatch e
  ·injection e with e1 _
   subst e1
   cases v <;> rfl
theorem mixKind_int (prog:Program) (w:World) (i:Int) (t:Tok):(mixKind prog w).is (.inl i) (.int i t)=true:=keyIs_int i t
theorem mixKind_str (prog:Program) (w:World) (x:Str) (t:Tok):(mixKind prog w).is (.inr x) (.str x t)=true:=keyIs_str x t
end L2
namespace L2
open PySem PySem.Spec PyProof.Rows
inductive V where
 | non|bl (b:Bool)|int (i:Int)|str (x:Str)|byt (b:Array UInt8)|flt (b:UInt64)|ref (a:Addr)|ty (n:String)
 deriving DecidableEq
def RelV:V→Value→Prop
 | .non,u=>u=Value.none
 | .bl b,u=>u=Value.bool b
 | .int i,u=>∃t,u=Value.int i t
 | .str x,u=>∃t,u=Value.str x t
 | .byt b,u=>∃t,u=Value.bytes b t
 | .flt b,u=>∃t,u=Value.float b t
 | .ref a,u=>u=Value.ref a
 | .ty n,u=>u=Value.type n
abbrev Vals:List V→List Value→Prop:=Paired RelV
theorem Vals.length {xs:List V} {us:List Value} (r:Vals xs us):xs.length=us.length:=Paired.length r
theorem Vals.get:∀{xs:List V} {us:List Value} {i:Nat} {x:V},Vals xs us→xs[i]? = some x→∃u,us[i]? = some u∧RelV x u
 | _,_,_,_, .nil,e=>by simp at e
 | _,_,0,_, .cons r _,e=>by simp at e;subst e;exact ⟨_,rfl,r⟩
 | _,_,i+1,x, .cons _ t,e=>by
  obtain ⟨u,h1,h2⟩:=Vals.get (i:=i) (x:=x) t (by simpa using e)
  exact ⟨u,by simpa using h1,h2⟩
theorem Vals.set {x:V} {u:Value} (r:RelV x u):∀{xs:List V} {us:List Value} (i:Nat),Vals xs us→Vals (xs.set i x) (us.set i u)
 | _,_,_, .nil => .nil
 | _,_,0, .cons _ t => .cons r t
 | _,_,i+1, .cons q t => .cons q (Vals.set r i t)
theorem Vals.append {xs ys:List V} {us ws:List Value} (h:Vals xs us) (s:Vals ys ws):Vals (xs++ys) (us++ws):=by
 induction h with
 | nil=>exact s
 | cons r t ih=>exact .cons r ih
theorem Vals.take:∀{xs:List V} {us:List Value} (n:Nat),Vals xs us→Vals (xs.take n) (us.take n)
 | _,_,0,_ => .nil
 | _,_,_+1, .nil => .nil
 | _,_,n+1, .cons r t => .cons r (Vals.take n t)
theorem Vals.drop:∀{xs:List V} {us:List Value} (n:Nat),Vals xs us→Vals (xs.drop n) (us.drop n)
 | _,_,0,r=>r
 | _,_,_+1, .nil => .nil
 | _,_,n+1, .cons _ t=>Vals.drop n t
def RelO:Option V→Option Value→Prop
 | some v,some u=>RelV v u
 | none,none=>True
 | _,_=>False
def KV {κ:Type} : List (κ×V)→List (κ×Value)→Prop:=Paired fun (p : κ×V) (q : κ×Value)=>p.1=q.1∧RelV p.2 q.2
noncomputable def kV:Key→V
 | .inl i => .int i
 | .inr x => .str x
inductive HO where
 | lst (xs:List V)
 | tup (xs:List V)
 | dK (kvs:List (Key×V))|dT (kvs:List (List Key×V))
 | set (S:Int→Bool) (n:Nat)
 | ins (C dx:Addr) (fs:List (Str×V))
 | own (x:Addr)
 | xd (fs:List (Str×V))
 | met (f x:Addr)
 | rng (lo hi:Int)
 | frz (o:Obj) (u:HO)
 | tbl (ps:Array Value)
 | ext (φ:Heap→Prop)
noncomputable abbrev Hp:=Addr→Option HO
noncomputable def upd (H:Hp) (a:Addr) (o:HO):Hp:=fun b=>if b=a then some o else H b
theorem upd_same {H:Hp} {a:Addr} {o:HO} : upd H a o a=some o:=by unfold upd;rw [if_pos rfl]
theorem upd_ne {H:Hp} {a b:Addr} {o:HO} (h:b≠a):upd H a o b=H b:=by unfold upd;rw [if_neg h]
theorem upd_upd {H:Hp} {a:Addr} {o u:HO} : upd (upd H a o) a u=upd H a u:=by
 funext b;unfold upd;split <;> rfl
theorem ne_of {H:Hp} {a b:Addr} {o u:HO} (h:H a=some o) (h':H b=some u) (d:o≠u):a≠b:=by
 intro e;subst e;rw [h] at h';exact d (Option.some.inj h')
theorem ne_of_none {H:Hp} {a b:Addr} {o:HO} (h:H a=some o) (h':H b=none):a≠b:=by
 intro e;subst e;rw [h] at h';cases h'
section
variable (P:Program) (w:World)
def ObjOk (H:Hp) (h:Heap) (a:Addr):HO→Prop
 | .lst xs=>xs.length≤sizeLine∧Ex2 fun (its:List Value) (n:Nat)=>Vals xs its∧h.get? a=some { cls := .type "list",data := .seq its.toArray n }
 | .tup xs=>xs.length≤sizeLine∧∃its:List Value,Vals xs its∧IsTup h a its.toArray
 | .dK kvs=>kvs.length≤sizeLine∧(a == sysModules)=false∧∃vs,KV kvs vs∧h.DictOf (mixKind P w) a vs
 | .dT kvs=>kvs.length≤sizeLine∧(a == sysModules)=false∧∃xs:List (List Key×Addr×Value),
   Paired (fun (p:List Key×V) (q:List Key×Addr×Value)=>p.1=q.1∧H q.2.1=some (.tup (p.1.map kV))∧RelV p.2 q.2.2) kvs xs ∧
   Ex3 fun o es ep=>h.get? a=some o∧o.ExactDict∧o.data = .dict es ep∧es.toList=xs.map (entryOfKey (tupleKind (mixKind P w)))∧(xs.map (·.1)).Nodup
 | .set S n=>h.SetOf (intKind P w) a S n
 | .ins C dx fs=>H dx=some (.own a)∧fs.length≤1000∧dx≠a∧h.get? a=some (PySem.W.instObj C dx) ∧
   ∃mA,h.Ns1 dx mA∧(∀f,RelO (fs.lookup f) (mA f))∧PySem.Within mA (fs.map (·.1))
 | .own _=>∃o,h.get? a=some o
 | .xd fs=>∃mA,h.Ns1 a mA∧∀f,RelO (fs.lookup f) (mA f)
 | .rng lo hi=>Ex3 fun t u v=>h.get? a=some { cls := .type "range",data := .fields #[.int lo t, .int hi u, .int 1 v] }
 | .frz o u=>h.get? a=some o∧ObjOk H h a u
 | .tbl ps=>h.get? a=some { cls := .none,data := .fields ps }
 | .met f x=>h.get? a=some (PySem.W.methodObj (.ref f) (.ref x))
 | .ext φ => φ h∧(∃o,h.get? a=some o)∧∀h1 h2:Heap, φ h1→(∀o,h1.get? a=some o→h2.get? a=some o) → φ h2
def HOk (H:Hp) (h:Heap):Prop:=∀a o,H a=some o→ObjOk P w H h a o
end
section
variable {P:Program} {w:World} {H H':Hp} {h h':Heap} {a:Addr} {o:HO}
theorem ObjOk.lt (x:ObjOk P w H h a o):a<h.objs.size:=by
 cases o with
 | lst xs=>obtain ⟨_,_,_,_,e⟩:=x;exact Heap.lt_size e
 | tup xs=>obtain ⟨_,_,_,p⟩:=x;exact p.lt
 | dK kvs=>obtain ⟨_,_,_,_,o,_,_,e,_⟩:=x;exact Heap.lt_size e
 | dT kvs=>obtain ⟨_,_,_,_,o,_,_,e,_⟩:=x;exact Heap.lt_size e
 | set S n=>obtain ⟨o,_,_,_,e,_⟩:=x;exact Heap.lt_size e
 | ins C dx fs=>obtain ⟨_,_,_,e,_⟩:=x;exact Heap.lt_size e
 | own y=>obtain ⟨_,e⟩:=x;exact Heap.lt_size e
 | xd fs=>obtain ⟨_,⟨_,_,_,e,_⟩,_⟩:=x;exact Heap.lt_size e
 | rng lo hi=>obtain ⟨_,_,_,e⟩:=x;exact Heap.lt_size e
 | frz ob u=>obtain ⟨e,_⟩:=x;exact Heap.lt_size e
 | tbl ps=>exact Heap.lt_size (show h.get? a=some _ from x)
 | met f y=>exact Heap.lt_size (show h.get? a=some _ from x)
 | ext φ=>obtain ⟨_,⟨_,e⟩,_⟩:=x;exact Heap.lt_size e
theorem Paired.mapP {α β:Type} {F G : α → β→Prop} {l₁:List α} {l₂:List β} (h:Paired F l₁ l₂) (f:∀a b,F a b→G a b):Paired G l₁ l₂:=by
 induction h with
 | nil=>exact .nil
 | cons r t ih=>exact .cons (f _ _ r) ih
theorem ObjOk.stay (x:ObjOk P w H h a o) (k:∀b u,(b=a∨H b=some (.own a))→h.get? b=some u→h'.get? b=some u)
  (ho:∀b,H b=some (.own a)→H' b=some (.own a)) (ht:∀b xs,H b=some (.tup xs)→H' b=some (.tup xs)):ObjOk P w H' h' a o:=by
 induction o with
 | lst xs=>obtain ⟨z,its,n,r,e⟩:=x;exact ⟨z,its,n,r,k _ _ (.inl rfl) e⟩
 | tup xs=>obtain ⟨z,its,r,ob,e,c⟩:=x;exact ⟨z,its,r,ob,k _ _ (.inl rfl) e,c⟩
 | dK kvs=>obtain ⟨z,y,vs,r,ob,es,ep,e,c⟩:=x;exact ⟨z,y,vs,r,ob,es,ep,k _ _ (.inl rfl) e,c⟩
 | dT kvs=>
  obtain ⟨z,y,xs,r,ob,es,ep,e,c⟩:=x
  exact ⟨z,y,xs,Paired.mapP r fun p q z=>⟨z.1,ht _ _ z.2.1,z.2.2⟩,ob,es,ep,k _ _ (.inl rfl) e,c⟩
 | set S n=>obtain ⟨ob,es,ep,t,e,c⟩:=x;exact ⟨ob,es,ep,t,k _ _ (.inl rfl) e,c⟩
 | ins C dx fs=>
  obtain ⟨d,z,ne,e,mA,⟨od,es,ep,e2,c⟩,r⟩:=x
  exact ⟨ho _ d,z,ne,k _ _ (.inl rfl) e,mA,⟨od,es,ep,k _ _ (.inr d) e2,c⟩,r⟩
 | own y=>obtain ⟨ob,e⟩:=x;exact ⟨ob,k _ _ (.inl rfl) e⟩
 | xd fs=>obtain ⟨mA,⟨od,es,ep,e,c⟩,r⟩:=x;exact ⟨mA,⟨od,es,ep,k _ _ (.inl rfl) e,c⟩,r⟩
 | rng lo hi=>obtain ⟨t,u,v,e⟩:=x;exact ⟨t,u,v,k _ _ (.inl rfl) e⟩
 | frz ob u ih=>obtain ⟨e,q⟩:=x;exact ⟨k _ _ (.inl rfl) e,ih q⟩
 | tbl ps=>
  have e:h.get? a=some { cls := .none,data := .fields ps }:=x
  show h'.get? a=some { cls := .none,data := .fields ps }
  exact k a _ (.inl rfl) e
 | met f y=>
  have e:h.get? a=some (PySem.W.methodObj (.ref f) (.ref y)):=x
  show h'.get? a=some (PySem.W.methodObj (.ref f) (.ref y))
  exact k a _ (.inl rfl) e
 | ext φ=>obtain ⟨p,⟨o,e⟩,st⟩:=x;exact ⟨st _ _ p fun o q=>k _ _ (.inl rfl) q,⟨o,k _ _ (.inl rfl) e⟩,st⟩
theorem HOk.lt (x:HOk P w H h) (e:H a=some o):a<h.objs.size:=(x a o e).lt
theorem HOk.fresh (x:HOk P w H h) (e:h.objs.size≤a):H a=none:=by
 cases q:H a with
 | none=>rfl
 | some u=>exact absurd (Nat.lt_of_lt_of_le (x.lt q) e) (Nat.lt_irrefl _)
theorem HOk.kept (x:HOk P w H h) (k:∀b u,h.get? b=some u→h'.get? b=some u):HOk P w H h':=fun a o e=>
 (x a o e).stay (fun b u _ q=>k b u q) (fun _ q=>q) fun _ _ q=>q
theorem HOk.laid (x:HOk P w H h) (k:∀b u,h.get? b=some u→h'.get? b=some u) (hp:h.objs.size≤a) (new:ObjOk P w (upd H a o) h' a o):HOk P w (upd H a o) h':=fun b u e=>by
 have hn:=x.fresh hp
 by_cases hb:b=a
 ·subst hb;rw [upd_same] at e;cases e;exact new
 ·rw [upd_ne hb] at e
  exact (x b u e).stay (fun c v _ q=>k c v q) (fun c q=>by rw [upd_ne (ne_of_none q hn)];exact q) fun c xs q=>by rw [upd_ne (ne_of_none q hn)];exact q
end
def Rd (H:Hp) (a:Addr) (u:HO):Prop:=H a=some u∨∃o,H a=some (.frz o u)
theorem Rd.ok {P:Program} {w:World} {H:Hp} {h:Heap} {a:Addr} {u:HO} (r:Rd H a u) (x:HOk P w H h):ObjOk P w H h a u:=by
 rcases r with r|⟨o,r⟩
 ·exact x a u r
 ·obtain ⟨_,q⟩:=x a _ r
  exact q
def Mut:Option HO→Prop
 | some (.lst _)=>True
 | some (.dK _)=>True
 | some (.dT _)=>True
 | some (.set _ _)=>True
 | some (.ins _ _ _)=>True
 | some (.ext _)=>True
 | _=>False
section
variable {P:Program} {w:World} {H:Hp} {h h':Heap} {x e:Addr} {o':HO}
theorem HOk.write (ok:HOk P w H h) (mu:Mut (H x)) (he:e=x∨H e=some (.own x)) (k:∀b u,b≠e→h.get? b=some u→h'.get? b=some u) (heo:∃u,h'.get? e=some u)
  (new:ObjOk P w (upd H x o') h' x o'):HOk P w (upd H x o') h':=fun b u q=>by
 have nown:∀c y,H c=some (.own y)→c≠x:=fun c y r z=>by subst z;rw [r] at mu;exact mu
 have ntup:∀c xs,H c=some (.tup xs)→c≠x:=fun c xs r z=>by subst z;rw [r] at mu;exact mu
 by_cases hb:b=x
 ·subst hb;rw [upd_same] at q;cases q;exact new
 ·rw [upd_ne hb] at q
  by_cases hbe:b=e
  ·have q':H b=some (.own x):=by
    rcases he with z|z
    ·exact absurd (hbe.trans z) hb
    ·rw [hbe];exact z
   rw [q] at q';cases q'
   obtain ⟨v,hv⟩:=heo
   exact ⟨v,by rw [hbe];exact hv⟩
  ·refine (ok b u q).stay (fun c v hc r=>k c v ?_ r) (fun c r=>by rw [upd_ne (nown c b r)];exact r) fun c xs r=>by rw [upd_ne (ntup c xs r)];exact r
   rcases hc with rfl|hc
   ·exact hbe
   ·rintro rfl
    rcases he with z|z
    ·exact nown c b hc z
    ·rw [hc] at z;cases z;exact hb rfl
end
structure Un (fs ex:List Addr) (H H':Hp) (h h':Heap):Prop where
 keep:∀b o,h.get? b=some o→H b=none→b ∉ fs→b ∉ ex→h'.get? b=some o
 slot:∀b o,h.get? b=some o→H b=none→b∈fs→b ∉ ex→∃sl,h'.get? b=some { o with slots:=sl }
 free:∀b o,h.get? b=some o→H b=none→b ∉ ex→H' b=none
 there:∀b o,h.get? b=some o→b ∉ ex→∃o',h'.get? b=some o'
 tups:∀b xs,H b=some (.tup xs)→H' b=some (.tup xs)
 frzs:∀b o u,H b=some (.frz o u)→H' b=some (.frz o u)
 tbls:∀b ps,H b=some (.tbl ps)→∃more,H' b=some (.tbl (ps++more))
section
variable {fs fs' ex ex':List Addr} {H H1 H2:Hp} {h h1 h2 h':Heap} {a x e:Addr} {o:HO}
theorem Un.any (u:Un fs ex H H1 h h1) {b:Addr} {ob:Obj} (q:h.get? b=some ob) (n:H b=none) (hx:b ∉ ex):∃sl,h1.get? b=some { ob with slots:=sl }:=by
 by_cases hb:b∈fs
 ·exact u.slot b ob q n hb hx
 ·exact ⟨ob.slots,u.keep b ob q n hb hx⟩
theorem Un.kept (k:∀b u,h.get? b=some u→h'.get? b=some u):Un fs ex H H h h':=
 ⟨fun b ob q _ _ _=>k b ob q,fun b ob q _ _ _=>⟨ob.slots,k b ob q⟩,fun _ _ _ n _=>n,fun b ob q _=>⟨ob,k b ob q⟩,fun _ _ q=>q,fun _ _ _ q=>q,fun _ ps q=>⟨#[],by rw [q];simp⟩⟩
theorem Un.refl:Un fs ex H H h h:=Un.kept fun _ _ q=>q
theorem Un.laid (k:∀b u,h.get? b=some u→h'.get? b=some u) (hp:h.objs.size≤a) (hn:H a=none):Un fs ex H (upd H a o) h h' where
 keep:=fun b u q _ _ _=>k b u q
 slot:=fun b u q _ _ _=>⟨u.slots,k b u q⟩
 free:=fun b u q n _=>by rw [upd_ne (Nat.ne_of_lt (Nat.lt_of_lt_of_le (Heap.lt_size q) hp))];exact n
 there:=fun b u q _=>⟨u,k b u q⟩
 tups:=fun b xs q=>by rw [upd_ne (ne_of_none q hn)];exact q
 frzs:=fun b u xs q=>by rw [upd_ne (ne_of_none q hn)];exact q
 tbls:=fun b ps q=>⟨#[],by rw [upd_ne (ne_of_none q hn),q];simp⟩
theorem Un.write (mu:Mut (H x)) (he:e=x∨H e=some (.own x)) (k:∀b u,b≠e→h.get? b=some u→h'.get? b=some u) (heo:∃u,h'.get? e=some u):Un fs ex H (upd H x o) h h':=by
 have hx:∀b,H b=none→b≠x:=fun b n z=>by subst z;rw [n] at mu;exact mu
 have hb:∀b,H b=none→b≠e:=fun b n z=>by
  subst z
  rcases he with r|r
  ·exact hx b n r
  ·rw [n] at r;cases r
 have hm:∀b u,H b=some u→¬Mut (some u)→b≠x:=fun b u q nm z=>by subst z;rw [q] at mu;exact nm mu
 refine ⟨fun b u q n _ _=>k b u (hb b n) q,fun b u q n _ _=>⟨u.slots,k b u (hb b n) q⟩,fun b u q n _=>by rw [upd_ne (hx b n)];exact n,fun b u q _ => ?_,
  fun b xs q=>by rw [upd_ne (hm b _ q fun z=>z)];exact q,fun b u xs q=>by rw [upd_ne (hm b _ q fun z=>z)];exact q,fun b ps q=>⟨#[],by rw [upd_ne (hm b _ q fun z=>z),q];simp⟩⟩
 by_cases hbe:b=e
 ·subst hbe;exact heo
 ·exact ⟨u,k b u hbe q⟩
end
noncomputable def trk (h:Heap) (H:Hp):List Addr:=(List.range h.objs.size).filter fun a=>(H a).isSome
noncomputable def hidT (h:Heap) (H:Hp):Heap:=PySem.W.hideAll h (trk h H)
theorem hidT_size (h:Heap) (H:Hp):(hidT h H).objs.size=h.objs.size:=PySem.W.hideAll_size _ _
theorem hidT_get {h:Heap} {H:Hp} {b:Addr} {o:Obj} (e:h.get? b=some o) (n:H b=none):(hidT h H).get? b=some o:=
 PySem.W.hideAll_get _ e fun hm=>by
  have q:(H b).isSome=true:=(List.mem_filter.mp hm).2
  rw [n] at q;simp at q
theorem of_hidT {h:Heap} {H:Hp} {b:Addr} {o:Obj} (e:(hidT h H).get? b=some o):h.get? b=some o∧H b=none:=by
 have e':h.get? b=some o:=PySem.W.of_hideAll (trk h H) e
 refine ⟨e',?_⟩
 cases q:H b with
 | none=>rfl
 | some x=>
  have hm:b∈trk h H:=List.mem_filter.mpr ⟨List.mem_range.mpr (Heap.lt_size e'),by simp [q]⟩
  have z:(hidT h H).get? b=none:=PySem.W.hideAll_none (trk h H) hm
  rw [z] at e;cases e
end L2
namespace L2
open PySem PySem.Spec PyProof.Rows
structure Mod (K:PySem.W.Frag) (mg:Str→Option Value) (base:Heap):Prop where
 kin:K.In base
 glob:base.Ns mainGlobals mg
 blt:∃mb,base.Ns builtinsNs mb∧∀x:Str,x ≠ "__name__" → mb x=bootBuiltins x
 nolimit:base.NoLimit
structure Cx where
 prog:Program
 w:World
 K:PySem.W.Frag
 mg:Str→Option Value
 base:Heap
 A:Around
 N:List Str
 s₀:Shared
 H₀:Hp
 env:Env
 outer:List Env
 stack:List Env
 ex:List Addr
 fn:Str→Bool
 calm:Bool
 pn:List (Addr×Obj)
 xe:Value→Shared→Prop
noncomputable def frs (l:List Env):List Addr:=l.filterMap (·.frame)
noncomputable abbrev Cx.fs (X:Cx):List Addr:=frs X.outer
def Vis (sc:Scope) (x:Str):Prop:=sc.names.lookup x=some .local∨sc.names.lookup x=some .cell∨sc.names.lookup x=some .free
def Loc (sc:Scope) (x:Str):Prop:=sc.names.lookup x=some .local∨sc.names.lookup x=some .cell
def Look (env:Env) (h:Heap) (m:Str→Option Value) (x:Str) (u:Value):Prop:=
 (env.kindOf x=some .local∧m x=some u)∨((env.kindOf x=some .cell∨env.kindOf x=some .free)∧∃c,env.cells.lookup x=some c∧h.IsCell c (some u))
structure Cx.Ok (X:Cx):Prop where
 mod:Mod X.K X.mg X.base
 kind:X.env.scope.kind = .function
 glob:X.env.globals=mainGlobals
 blt:X.env.builtins=builtinsNs
 above:X.s₀.heap.objs.size≤X.env.locals
 inj:∀x y c,X.env.cells.lookup x=some c→X.env.cells.lookup y=some c→x=y
 has:∀x,(X.env.kindOf x=some .cell∨X.env.kindOf x=some .free)→∃c,X.env.cells.lookup x=some c
 cab:∀x c,X.fn x=true→X.env.cells.lookup x=some c→X.s₀.heap.objs.size≤c
 hd:X.calm=true→X.A.handled=none
 frames:X.A.frames=some X.stack
 stk:X.stack=X.outer∨(X.stack=X.env :: X.outer∧X.env.frame=some X.env.locals)
 exf:∀b∈X.ex,b≠X.env.locals∧∀x c,X.env.cells.lookup x=some c→c≠b
 bs:∀b o,X.base.get? b=some o→X.s₀.heap.get? b=some o∧X.H₀ b=none
 bsz:X.base.objs.size≤X.s₀.heap.objs.size
 noex:∀b o,X.base.get? b=some o→b ∉ X.ex
 exfs:∀b∈X.ex,b ∉ X.fs
 funs:X.s₀.heap.FunFrames X.base X.outer
 frf:∀b∈X.fs,X.H₀ b=none
structure Inv (X:Cx) (pins:List (Addr×Obj)) (σ:List (Option V)) (H:Hp) (s:Shared):Prop where
 ok:X.Ok
 os:s.os=X.s₀.os
 bare:AllBare s.gens
 base:Un X.fs X.ex X.H₀ H X.s₀.heap s.heap
 loc:∃m,s.heap.Ns X.env.locals m∧∀(i:Nat) (x:Str) (v:V),X.N[i]? = some x → σ[i]? = some (some v)→Vis X.env.scope x→∃u,RelV v u∧Look X.env s.heap m x u
 cell:∀x c,X.env.cells.lookup x=some c→∃v,s.heap.IsCell c v
 free:H X.env.locals=none
 freeC:∀x c,X.env.cells.lookup x=some c→H c=none
 pin:∀p∈X.pn++pins,s.heap.get? p.1=some p.2∧H p.1=none∧p.1≠X.env.locals∧p.1 ∉ X.fs∧∀v,p.2.data ≠ .cell v
 hok:HOk X.prog X.w H s.heap
 len : σ.length=X.N.length
section
variable {X:Cx} {pins:List (Addr×Obj)} {σ:List (Option V)} {H H':Hp} {s:Shared} {h':Heap}
theorem Cx.Ok.nofr (ok:X.Ok) {b:Addr} {o:Obj} (e:X.base.get? b=some o):b ∉ X.fs:=fun hb=>by
 have:=(ok.funs.mem hb).1
 rw [e] at this;cases this
theorem Inv.bs (I:Inv X pins σ H s):∀b o,X.base.get? b=some o→s.heap.get? b=some o∧H b=none:=fun b o e=>
 ⟨I.base.keep b o (I.ok.bs b o e).1 (I.ok.bs b o e).2 (I.ok.nofr e) (I.ok.noex b o e),I.base.free b o (I.ok.bs b o e).1 (I.ok.bs b o e).2 (I.ok.noex b o e)⟩
theorem Inv.bk (I:Inv X pins σ H s):∀b o,X.base.get? b=some o→s.heap.get? b=some o:=fun b o e=>(I.bs b o e).1
theorem Inv.mod (I:Inv X pins σ H s):Mod X.K X.mg X.base:=I.ok.mod
theorem Inv.kIn (I:Inv X pins σ H s):X.K.In s.heap:=I.ok.mod.kin.keeps I.bk
theorem Inv.lt (I:Inv X pins σ H s):X.env.locals<s.heap.objs.size:=let ⟨_,hn,_⟩:=I.loc;hn.lt
theorem Inv.sz (I:Inv X pins σ H s):X.s₀.heap.objs.size≤s.heap.objs.size:=Nat.le_trans I.ok.above (Nat.le_of_lt I.lt)
theorem Inv.nofs (I:Inv X pins σ H s) {a:Addr} (h:s.heap.objs.size≤a):a ∉ X.fs:=fun hb=>by
 obtain ⟨_,o,ho,_⟩:=I.ok.funs.mem hb
 exact absurd (Nat.lt_of_lt_of_le (Heap.lt_size ho) (Nat.le_trans I.sz h)) (Nat.lt_irrefl _)
theorem Inv.cne (I:Inv X pins σ H s):∀x c,X.env.cells.lookup x=some c→c≠X.env.locals:=fun x c e z=>by
 obtain ⟨v,o,ho,hd⟩:=I.cell x c e
 obtain ⟨m,⟨o',es,ep,ho',hd',_⟩,_⟩:=I.loc
 rw [z,ho'] at ho;cases ho;rw [hd'] at hd;cases hd
theorem Inv.funs (I:Inv X pins σ H s):s.heap.FunFrames X.base X.outer:=by
 have all:∀(l:List Env),(∀b∈frs l,b∈X.fs)→X.s₀.heap.FunFrames X.base l→s.heap.FunFrames X.base l:=by
  intro l
  induction l with
  | nil=>intro _ _;trivial
  | cons env r ih=>
   intro hs hl
   obtain ⟨hk,⟨L,o,hf,hn,ho,hd⟩,hr⟩:=hl
   have hL:L∈X.fs:=hs L (by unfold frs;rw [List.filterMap_cons,hf];exact List.mem_cons_self)
   obtain ⟨sl,e⟩:=I.base.slot L o ho (I.ok.frf L hL) hL fun z=>I.ok.exfs L z hL
   exact ⟨hk,⟨L,_,hf,hn,e,hd⟩,ih (fun b hb=>hs b (by unfold frs;rw [List.filterMap_cons,hf];exact List.mem_cons_of_mem _ hb)) hr⟩
 exact all X.outer (fun _ hb=>hb) I.ok.funs
theorem Inv.stack (I:Inv X pins σ H s):s.heap.FunFrames X.base X.stack:=by
 rcases I.ok.stk with e|⟨e,hf⟩
 ·rw [e];exact I.funs
 ·rw [e]
  obtain ⟨m,hn,_⟩:=I.loc
  refine .cons (by rw [I.ok.kind];decide) hf hn ?_ I.funs
  exact Heap.get?_none_of_le (Nat.le_trans I.ok.bsz I.ok.above)
theorem Inv.stkSub (I:Inv X pins σ H s):∀b∈frs X.stack,b∈X.env.locals :: X.fs:=fun b hb=>by
 rcases I.ok.stk with e|⟨e,hf⟩
 ·rw [e] at hb;exact List.mem_cons_of_mem _ hb
 ·rw [e] at hb
  unfold frs at hb
  rw [List.filterMap_cons,hf] at hb
  exact hb
theorem Inv.stkFree (I:Inv X pins σ H s):∀b∈frs X.stack,H b=none:=fun b hb=>by
 rcases List.mem_cons.mp (I.stkSub b hb) with e|hb
 ·rw [e];exact I.free
 ·obtain ⟨_,o,ho,_⟩:=I.ok.funs.mem hb
  exact I.base.free b o ho (I.ok.frf b hb) fun z=>I.ok.exfs b z hb
theorem Inv.step {g':Array GenState} {t':Nat} {d':Drawn} {ch:List Addr} (I:Inv X pins σ H s)
  (hch:∀b∈ch,(b∈X.ex∨X.s₀.heap.objs.size≤b)∧b≠X.env.locals∧(∀x c,X.env.cells.lookup x=some c→c≠b)∧∀p∈X.pn++pins,p.1≠b)
  (keep:∀b o,b≠X.env.locals→b ∉ X.fs→b ∉ ch→s.heap.get? b=some o→H b=none→h'.get? b=some o)
  (slot:∀b o,b≠X.env.locals→b∈X.fs→b ∉ ch→s.heap.get? b=some o→H b=none→∃sl,h'.get? b=some { o with slots:=sl }) (free:∀b o,b ∉ ch→s.heap.get? b=some o→H b=none→H' b=none)
  (there:∀b o,b ∉ ch→s.heap.get? b=some o→∃o',h'.get? b=some o')
  (tups:∀b xs,H b=some (.tup xs)→H' b=some (.tup xs)) (frzs:∀b o u,H b=some (.frz o u)→H' b=some (.frz o u)) (tbls:∀b ps,H b=some (.tbl ps)→∃more,H' b=some (.tbl (ps++more)))
  (ns:∀m,s.heap.Ns X.env.locals m→h'.Ns X.env.locals m) (hok:HOk X.prog X.w H' h') (hg:AllBare g') :
  Inv X pins σ H' { s with heap:=h',gens:=g',drawn:=d',toks:=t' }:=by
 have neL:∀b o,X.s₀.heap.get? b=some o→b≠X.env.locals:=fun b o e=>Nat.ne_of_lt (Nat.lt_of_lt_of_le (Heap.lt_size e) I.ok.above)
 have neC:∀b o,X.s₀.heap.get? b=some o→b ∉ X.ex→b ∉ ch:=fun b o e hx hb=>by
  rcases (hch b hb).1 with z|z
  ·exact hx z
  ·exact absurd (Nat.lt_of_lt_of_le (Heap.lt_size e) z) (Nat.lt_irrefl _)
 have cellK:∀x c,X.env.cells.lookup x=some c→∀v,s.heap.IsCell c v→h'.IsCell c v:=fun x c e v ⟨o,ho,hd⟩=>by
  have nch:c ∉ ch:=fun z=>(hch c z).2.2.1 x c e rfl
  by_cases hc:c∈X.fs
  ·obtain ⟨sl,q⟩:=slot c o (I.cne x c e) hc nch ho (I.freeC x c e)
   exact ⟨_,q,hd⟩
  ·exact ⟨o,keep c o (I.cne x c e) hc nch ho (I.freeC x c e),hd⟩
 refine ⟨I.ok,I.os,hg,⟨fun b o e n hb hx => ?_,fun b o e n hb hx => ?_,fun b o e n hx => ?_,fun b o e hx => ?_,fun b xs e=>tups b xs (I.base.tups b xs e),fun b o xs e=>frzs b o xs (I.base.frzs b o xs e),fun b ps e => ?_⟩,?_,fun x c e => ?_,?_,fun x c e => ?_,fun p hp => ?_,hok,I.len⟩
 ·exact keep b o (neL b o e) hb (neC b o e hx) (I.base.keep b o e n hb hx) (I.base.free b o e n hx)
 ·obtain ⟨sl,e1⟩:=I.base.slot b o e n hb hx
  obtain ⟨sl',e2⟩:=slot b _ (neL b o e) hb (neC b o e hx) e1 (I.base.free b o e n hx)
  exact ⟨sl',e2⟩
 ·obtain ⟨o',e1⟩:=I.base.there b o e hx
  exact free b o' (neC b o e hx) e1 (I.base.free b o e n hx)
 ·obtain ⟨o',e1⟩:=I.base.there b o e hx
  exact there b o' (neC b o e hx) e1
 ·obtain ⟨m1,e1⟩:=I.base.tbls b ps e
  obtain ⟨m2,e2⟩:=tbls b _ e1
  exact ⟨m1++m2,by rw [e2,Array.append_assoc]⟩
 ·obtain ⟨m,hn,hl⟩:=I.loc
  refine ⟨m,ns m hn,fun i x v e1 e2 e3 => ?_⟩
  obtain ⟨u,r,l⟩:=hl i x v e1 e2 e3
  refine ⟨u,r,?_⟩
  rcases l with l|⟨k,c,e,z⟩
  ·exact .inl l
  ·exact .inr ⟨k,c,e,cellK x c e _ z⟩
 ·obtain ⟨v,z⟩:=I.cell x c e
  exact ⟨v,cellK x c e v z⟩
 ·obtain ⟨m,⟨o,_,_,ho,_⟩,_⟩:=I.loc
  exact free _ o (fun z=>(hch _ z).2.1 rfl) ho I.free
 ·obtain ⟨v,o,ho,hd⟩:=I.cell x c e
  exact free c o (fun z=>(hch c z).2.2.1 x c e rfl) ho (I.freeC x c e)
 ·obtain ⟨e,n,ne,nf,d⟩:=I.pin p hp
  have nch:p.1 ∉ ch:=fun z=>(hch p.1 z).2.2.2 p hp rfl
  exact ⟨keep p.1 p.2 ne nf nch e n,free p.1 p.2 nch e n,ne,nf,d⟩
theorem Inv.un {t':Nat} (I:Inv X pins σ H s) (u:Un X.fs [] H H' s.heap h') (hok:HOk X.prog X.w H' h'):Inv X pins σ H' { s with heap:=h',toks:=t' }:=by
 obtain ⟨m,⟨o,es,ep,ho,r⟩,_⟩:=id I.loc
 obtain ⟨sl,hL⟩:=u.any ho I.free (by simp)
 exact I.step (g':=s.gens) (d':=s.drawn) (ch:=[]) (fun _ z=>nomatch z) (fun b o _ hb _ e n=>u.keep b o e n hb (by simp)) (fun b o _ hb _ e n=>u.slot b o e n hb (by simp)) (fun b o _ e n=>u.free b o e n (by simp)) (fun b o _ e=>u.there b o e (by simp)) u.tups u.frzs u.tbls (fun m' hm=>by
  obtain ⟨o',es',ep',ho',r'⟩:=hm
  rw [ho] at ho';cases ho'
  exact ⟨_,es',ep',hL,r'⟩) hok I.bare
theorem Inv.call {g':Array GenState} {t':Nat} {d':Drawn} {ch:List Addr} (I:Inv X pins σ H s) (u:Un (frs X.stack) ch H H' s.heap h') (hok:HOk X.prog X.w H' h') (hg:AllBare g')
  (hch:∀b∈ch,(b∈X.ex∨X.s₀.heap.objs.size≤b)∧b≠X.env.locals∧(∀x c,X.env.cells.lookup x=some c→c≠b)∧∀p∈X.pn++pins,p.1≠b) :
  Inv X pins σ H' { s with heap:=h',gens:=g',drawn:=d',toks:=t' }:=by
 obtain ⟨m,⟨o,es,ep,ho,r⟩,_⟩:=id I.loc
 obtain ⟨sl,hL⟩:=u.any ho I.free fun z=>(hch _ z).2.1 rfl
 exact I.step (ch:=ch) hch (fun b o hL hb hc e n=>u.keep b o e n (fun z=>(List.mem_cons.mp (I.stkSub b z)).elim hL hb) hc) (fun b o _ _ hc e n=>u.any e n hc) (fun b o hc e n=>u.free b o e n hc) (fun b o hc e=>u.there b o e hc) u.tups u.frzs u.tbls (fun m' hm=>by
  obtain ⟨o',es',ep',ho',r'⟩:=hm
  rw [ho] at ho';cases ho'
  exact ⟨_,es',ep',hL,r'⟩) hok hg
theorem Inv.turned {t':Nat} {it:Addr} (I:Inv X pins σ H s) (k:∀b o,b≠it→s.heap.get? b=some o→h'.get? b=some o) (hn:H it=none) (hL:it≠X.env.locals)
  (h1:it∈X.ex∨X.s₀.heap.objs.size≤it) (h2:∀x c,X.env.cells.lookup x=some c→c≠it) (h3:∀p∈X.pn++pins,p.1≠it):Inv X pins σ H { s with heap:=h',toks:=t' }:=by
 have nit:∀b u,H b=some u→b≠it:=fun b u e z=>by rw [z,hn] at e;cases e
 refine I.step (g':=s.gens) (d':=s.drawn) (ch:=[it]) (fun b hb => ?_) (fun b o _ _ hc e _=>k b o (fun z=>hc (by simp [z])) e) (fun b o _ _ hc e _=>⟨o.slots,k b o (fun z=>hc (by simp [z])) e⟩) (fun _ _ _ _ n=>n)
  (fun b o hc e=>⟨o,k b o (fun z=>hc (by simp [z])) e⟩) (fun _ _ e=>e) (fun _ _ _ e=>e) (fun b ps e=>⟨#[],by rw [e];simp⟩) (fun m hm => ?_) (fun b u e => ?_) I.bare
 ·have e:b=it:=by simpa using hb
  subst e
  exact ⟨h1,hL,h2,h3⟩
 ·obtain ⟨o,es,ep,ho,r⟩:=hm
  exact ⟨o,es,ep,k _ o (Ne.symm hL) ho,r⟩
 ·refine (I.hok b u e).stay (fun c v hc q=>k c v ?_ q) (fun _ q=>q) fun _ _ q=>q
  rcases hc with z|z
  ·rw [z];exact nit b u e
  ·exact nit c _ z
theorem Inv.tok (I:Inv X pins σ H s) (t:Nat):Inv X pins σ H { s with toks:=t }:=I.un (h':=s.heap) (t':=t) Un.refl I.hok
theorem Inv.kept {t':Nat} (I:Inv X pins σ H s) (k:∀b u,s.heap.get? b=some u→h'.get? b=some u):Inv X pins σ H { s with heap:=h',toks:=t' }:=I.un (Un.kept k) (I.hok.kept k)
theorem Inv.laid {a:Addr} {o:HO} {t':Nat} (I:Inv X pins σ H s) (k:∀b u,s.heap.get? b=some u→h'.get? b=some u) (hp:s.heap.objs.size≤a) (new:ObjOk X.prog X.w (upd H a o) h' a o) :
  Inv X pins σ (upd H a o) { s with heap:=h',toks:=t' }:=I.un (Un.laid k hp (I.hok.fresh hp)) (I.hok.laid k hp new)
theorem Inv.write {x e:Addr} {o:HO} {t':Nat} (I:Inv X pins σ H s) (mu:Mut (H x)) (he:e=x∨H e=some (.own x)) (k:∀b u,b≠e→s.heap.get? b=some u→h'.get? b=some u) (heo:∃u,h'.get? e=some u)
  (new:ObjOk X.prog X.w (upd H x o) h' x o):Inv X pins σ (upd H x o) { s with heap:=h',toks:=t' }:=I.un (Un.write mu he k heo) (I.hok.write mu he k heo new)
theorem Inv.weak {σ':List (Option V)} (I:Inv X pins σ H s) (hl : σ'.length = σ.length) (w:∀(i:Nat) v, σ'[i]? = some (some v) → σ[i]? = some (some v)):Inv X pins σ' H s:=
 ⟨I.ok,I.os,I.bare,I.base,let ⟨m,hn,hl'⟩:=I.loc; ⟨m,hn,fun i x v e1 e2 e3=>hl' i x v e1 (w i v e2) e3⟩,I.cell,I.free,I.freeC,I.pin,I.hok,hl.trans I.len⟩
theorem Inv.pins_of {pins':List (Addr×Obj)} (I:Inv X pins σ H s) (h:∀p∈pins',s.heap.get? p.1=some p.2∧H p.1=none∧p.1≠X.env.locals∧p.1 ∉ X.fs∧∀v,p.2.data ≠ .cell v):Inv X pins' σ H s:=
 ⟨I.ok,I.os,I.bare,I.base,I.loc,I.cell,I.free,I.freeC,fun p hp=>(List.mem_append.mp hp).elim (fun z=>I.pin p (List.mem_append_left _ z)) (h p),I.hok,I.len⟩
theorem nodup_ix {N:List Str} (hN:N.Nodup) {i j:Nat} {x:Str} (a:N[i]? = some x) (b:N[j]? = some x):i=j:=by
 obtain ⟨h1,e1⟩:=List.getElem?_eq_some_iff.mp a
 obtain ⟨h2,e2⟩:=List.getElem?_eq_some_iff.mp b
 exact (List.getElem_inj hN).mp (e1.trans e2.symm)
theorem store_ok2 {M:Model} {A:Around} {E:Value→Shared→Prop} {i:Nat} {x:Str} {v:V} {u:Value} {Q:Unit→Shared→Prop} (I:Inv X pins σ H s) (hN:X.N.Nodup) (hi:X.N[i]? = some x) (hx:Loc X.env.scope x) (r:RelV v u)
  (h:∀s',Inv X pins (σ.set i (some v)) H s'→(∃a,Heap.SameBut a s.heap s'.heap∧(a=X.env.locals∨X.env.cells.lookup x=some a))→Q () s') (hf:X.fn x=true∨X.env.scope.names.lookup x=some .local:=by first|exact .inl rfl|exact .inr rfl|assumption):wpAny M A (storeName X.env x u) Q E s:=by
 obtain ⟨m,hn,hl⟩:=id I.loc
 have hcls:(X.env.scope.kind == .class||(X.env.scope.kind == .module&&X.env.locals != X.env.globals))=false:=by rw [I.ok.kind];rfl
 have hiσ:i < σ.length:=by rw [I.len];exact (List.getElem?_eq_some_iff.mp hi).1
 have cne:=I.cne
 have tracked:∀{a:Addr} {h':Heap},(∃o,s.heap.get? a=some o∧H a=none)→Heap.SameBut a s.heap h'→HOk X.prog X.w H h':=fun {a h'} ha hs b ob e=>by
  obtain ⟨_,_,hfree⟩:=ha
  refine (I.hok b ob e).stay (fun c w' hc q=>(hs.2 c ?_).trans q) (fun _ q=>q) fun _ _ q=>q
  rintro rfl
  rcases hc with rfl|hc
  ·rw [hfree] at e;cases e
  ·rw [hfree] at hc;cases hc
 rcases hx with hk|hk
 ·refine wpAny_storeName_local hk hn (fun h' hn' hs => ?_) hcls
  obtain ⟨oL,_,_,hoL,_⟩:=id hn
  refine h _ ⟨I.ok,I.os,I.bare,⟨fun b o e n hb hx => ?_,fun b o e n hb hx => ?_,I.base.free,fun b o e hx => ?_,I.base.tups,I.base.frzs,I.base.tbls⟩,⟨_,hn',fun j y v' e1 e2 e3 => ?_⟩,fun y c e => ?_,I.free,I.freeC,fun p hp => ?_,tracked ⟨oL,hoL,I.free⟩ hs,by simpa using I.len⟩ ⟨_,hs, .inl rfl⟩
  ·exact (hs.2 b (Nat.ne_of_lt (Nat.lt_of_lt_of_le (Heap.lt_size e) I.ok.above))).trans (I.base.keep b o e n hb hx)
  ·obtain ⟨sl,e1⟩:=I.base.slot b o e n hb hx
   exact ⟨sl,(hs.2 b (Nat.ne_of_lt (Nat.lt_of_lt_of_le (Heap.lt_size e) I.ok.above))).trans e1⟩
  ·obtain ⟨o',e1⟩:=I.base.there b o e hx
   exact ⟨o',(hs.2 b (Nat.ne_of_lt (Nat.lt_of_lt_of_le (Heap.lt_size e) I.ok.above))).trans e1⟩
  ·by_cases hj:j=i
   ·subst hj
    rw [hi] at e1;cases e1
    rw [List.getElem?_set_self hiσ] at e2
    cases e2
    exact ⟨u,r, .inl ⟨hk,by simp⟩⟩
   ·rw [List.getElem?_set_ne (Ne.symm hj)] at e2
    obtain ⟨u',r',q⟩:=hl j y v' e1 e2 e3
    refine ⟨u',r',?_⟩
    rcases q with ⟨k,e⟩|⟨k,c,e,z⟩
    ·refine .inl ⟨k,?_⟩
     have:y≠x:=fun e=>hj (nodup_ix hN e1 (e ▸ hi))
     simp [this,e]
    ·exact .inr ⟨k,c,e,z.sameBut hs (cne y c e)⟩
  ·obtain ⟨w',z⟩:=I.cell y c e
   exact ⟨w',z.sameBut hs (cne y c e)⟩
  ·obtain ⟨e,n,ne,nf,d⟩:=I.pin p hp
   exact ⟨(hs.2 p.1 ne).trans e,n,ne,nf,d⟩
 ·have hfn:X.fn x=true:=by
   rcases hf with z|z
   ·exact z
   ·rw [z] at hk;cases hk
  obtain ⟨c,hc⟩:=I.ok.has x (.inl hk)
  obtain ⟨w',z⟩:=I.cell x c hc
  refine wpAny_storeName_cell I.ok.kind hk hc z (fun h' hc' hs => ?_)
  obtain ⟨oc,hoc,hocd⟩:=id z
  refine h { s with heap:=h' } ⟨I.ok,I.os,I.bare,⟨fun b o e n hb hx => ?_,fun b o e n hb hx => ?_,I.base.free,fun b o e hx => ?_,I.base.tups,I.base.frzs,I.base.tbls⟩,⟨m,hn.sameBut hs (Ne.symm (cne x c hc)),fun j y v' e1 e2 e3 => ?_⟩,fun y c' e => ?_,I.free,I.freeC,fun p hp => ?_,tracked ⟨oc,hoc,I.freeC x c hc⟩ hs,by simpa using I.len⟩ ⟨c,hs, .inr hc⟩
  ·exact (hs.2 b (Nat.ne_of_lt (Nat.lt_of_lt_of_le (Heap.lt_size e) (I.ok.cab x c hfn hc)))).trans (I.base.keep b o e n hb hx)
  ·obtain ⟨sl,e1⟩:=I.base.slot b o e n hb hx
   exact ⟨sl,(hs.2 b (Nat.ne_of_lt (Nat.lt_of_lt_of_le (Heap.lt_size e) (I.ok.cab x c hfn hc)))).trans e1⟩
  ·obtain ⟨o',e1⟩:=I.base.there b o e hx
   exact ⟨o',(hs.2 b (Nat.ne_of_lt (Nat.lt_of_lt_of_le (Heap.lt_size e) (I.ok.cab x c hfn hc)))).trans e1⟩
  ·by_cases hj:j=i
   ·subst hj
    rw [hi] at e1;cases e1
    rw [List.getElem?_set_self hiσ] at e2
    cases e2
    exact ⟨u,r, .inr ⟨.inl hk,c,hc,hc'⟩⟩
   ·rw [List.getElem?_set_ne (Ne.symm hj)] at e2
    obtain ⟨u',r',q⟩:=hl j y v' e1 e2 e3
    refine ⟨u',r',?_⟩
    rcases q with q|⟨k,c',e,z'⟩
    ·exact .inl q
    ·refine .inr ⟨k,c',e,z'.sameBut hs ?_⟩
     rintro rfl
     exact hj (nodup_ix hN e1 (I.ok.inj _ _ _ e hc ▸ hi))
  ·by_cases hcc:c'=c
   ·subst hcc;exact ⟨_,hc'⟩
   ·obtain ⟨w2,z2⟩:=I.cell y c' e
    exact ⟨w2,z2.sameBut hs hcc⟩
  ·obtain ⟨e,n,ne,nf,d⟩:=I.pin p hp
   refine ⟨(hs.2 p.1 ?_).trans e,n,ne,nf,d⟩
   intro q
   rw [q,hoc] at e
   have q':oc=p.2:=Option.some.inj e
   exact d w' (by rw [←q'];exact hocd)
theorem store_ok {M:Model} {A:Around} {E:Value→Shared→Prop} {i:Nat} {x:Str} {v:V} {u:Value} {Q:Unit→Shared→Prop} (I:Inv X pins σ H s) (hN:X.N.Nodup) (hi:X.N[i]? = some x) (hx:Loc X.env.scope x) (r:RelV v u)
  (h:∀s',Inv X pins (σ.set i (some v)) H s'→Q () s') (hf:X.fn x=true∨X.env.scope.names.lookup x=some .local:=by first|exact .inl rfl|exact .inr rfl|assumption):wpAny M A (storeName X.env x u) Q E s:=
 store_ok2 I hN hi hx r (fun s' I' _=>h s' I') hf
theorem Inv.call' {s':Shared} {ch:List Addr} (I:Inv X pins σ H s) (ho:s'.os=s.os) (u:Un (frs X.stack) ch H H' s.heap s'.heap) (hok:HOk X.prog X.w H' s'.heap) (hg:AllBare s'.gens)
  (hch:∀b∈ch,(b∈X.ex∨X.s₀.heap.objs.size≤b)∧b≠X.env.locals∧(∀x c,X.env.cells.lookup x=some c→c≠b)∧∀p∈X.pn++pins,p.1≠b):Inv X pins σ H' s':=by
 obtain ⟨h',g',d',t',o'⟩:=s'
 have e:o'=s.os:=ho
 subst e
 exact I.call (g':=g') (t':=t') (d':=d') u hok hg hch
end
abbrev XK:=Value→Option Addr→Hp→Prop
noncomputable abbrev St:=List (Option V)
abbrev VK:=V→Hp→Prop
abbrev TE:=St→Hp→VK→Prop
abbrev TT:=St→Hp→(Bool→Hp→Prop)→Prop
abbrev TA:=St→Hp→(List V→Hp→Prop)→Prop
structure Ends where
 nx:St→Hp→Prop
 rt:VK
 bk:St→Hp→Prop:=fun _ _=>False
 ct:St→Hp→Prop:=fun _ _=>False
abbrev TS:=Ends→St→Hp→Prop
def EP (X:Cx) (pins:List (Addr×Obj)) (σ:St) (Q:VK) (u:Value) (s':Shared):Prop:=Ex2 fun v H'=>Inv X pins σ H' s'∧RelV v u∧Q v H'
def TP (X:Cx) (pins:List (Addr×Obj)) (σ:St) (Q:Bool→Hp→Prop) (b:Bool) (s':Shared):Prop:=∃H',Inv X pins σ H' s'∧Q b H'
def AP (X:Cx) (pins:List (Addr×Obj)) (σ:St) (Q:List V→Hp→Prop) (us:List Value) (s':Shared):Prop:=Ex2 fun vs H'=>Inv X pins σ H' s'∧Vals vs us∧Q vs H'
instance elimEP {X:Cx} {pins:List (Addr×Obj)} {σ:St} {Q:VK} {u:Value} {s':Shared} : Elim (EP X pins σ Q u s') (fun G=>∀v H',Inv X pins σ H' s'→RelV v u→Q v H'→G):=⟨fun ⟨v,H',a,b,c⟩ _ k=>k v H' a b c⟩
instance elimTP {X:Cx} {pins:List (Addr×Obj)} {σ:St} {Q:Bool→Hp→Prop} {b:Bool} {s':Shared} : Elim (TP X pins σ Q b s') (fun G=>∀H',Inv X pins σ H' s'→Q b H'→G):=⟨fun ⟨H',a,c⟩ _ k=>k H' a c⟩
instance elimAP {X:Cx} {pins:List (Addr×Obj)} {σ:St} {Q:List V→Hp→Prop} {us:List Value} {s':Shared} : Elim (AP X pins σ Q us s') (fun G=>∀vs H',Inv X pins σ H' s'→Vals vs us→Q vs H'→G):=⟨fun ⟨v,H',a,b,c⟩ _ k=>k v H' a b c⟩
def SP (X:Cx) (pins:List (Addr×Obj)) (D:Ends) (f:Flow) (s':Shared):Prop:=
 match f with
 | .next=>Ex2 fun σ' H'=>Inv X pins σ' H' s'∧D.nx σ' H'
 | .brk=>Ex2 fun σ' H'=>Inv X pins σ' H' s'∧D.bk σ' H'
 | .cont=>Ex2 fun σ' H'=>Inv X pins σ' H' s'∧D.ct σ' H'
 | .ret u=>Ex3 fun v σ' H'=>Inv X pins σ' H' s'∧RelV v u∧D.rt v H'
def PE (X:Cx) (e:Expr) (t:TE):Prop:=
 ∀ ⦃pins:List (Addr×Obj)⦄ (s:Shared) (σ:St) (H:Hp) (Q:VK),Inv X pins σ H s→t σ H Q→wpAny (model X.prog X.w) X.A (eval e X.env) (EP X pins σ Q) X.xe s
def PT (X:Cx) (e:Expr) (t:TT):Prop:=
 ∀ ⦃pins:List (Addr×Obj)⦄ (s:Shared) (σ:St) (H:Hp) (Q:Bool→Hp→Prop),Inv X pins σ H s→t σ H Q→wpAny (model X.prog X.w) X.A (isTrue e X.env (eval e X.env)) (TP X pins σ Q) X.xe s
def PW (X:Cx) (e:Expr) (t:TT):Prop:=
 ∀ ⦃whole:Sem Value⦄ ⦃pins:List (Addr×Obj)⦄ (s:Shared) (σ:St) (H:Hp) (Q:Bool→Hp→Prop),Inv X pins σ H s→t σ H Q→wpAny (model X.prog X.w) X.A (isTrue e X.env whole) (TP X pins σ Q) X.xe s
theorem PW.pt {X:Cx} {e:Expr} {t:TT} (h:PW X e t):PT X e t:=fun pins s σ H Q I q=>h s σ H Q I q
def PA (X:Cx) (es:List Expr) (t:TA):Prop:=
 ∀ ⦃pos:Pos⦄ ⦃pins:List (Addr×Obj)⦄ (s:Shared) (σ:St) (H:Hp) (Q:List V→Hp→Prop),Inv X pins σ H s→t σ H Q→wpAny (model X.prog X.w) X.A (spliced (backTo pos (starEach es X.env))) (AP X pins σ Q) X.xe s
def PS (X:Cx) (st:Stmt) (t:TS):Prop:=
 ∀ ⦃pins:List (Addr×Obj)⦄ (s:Shared) (σ:St) (H:Hp) (D:Ends),Inv X pins σ H s→t D σ H→wpAny (model X.prog X.w) X.A (exec st X.env) (SP X pins D) X.xe s
def PSs (X:Cx) (st:List Stmt) (t:TS):Prop:=
 ∀ ⦃pins:List (Addr×Obj)⦄ (s:Shared) (σ:St) (H:Hp) (D:Ends),Inv X pins σ H s→t D σ H→wpAny (model X.prog X.w) X.A (execs st X.env) (SP X pins D) X.xe s
theorem thn {α:Type} {t:Sem α} {Q Q' : α→Shared→Prop} {M:Model} {A:Around} {E:Value→Shared→Prop} {s:Shared} (h:wpAny M A t Q E s) (hQ:∀a s,Q a s→Q' a s):wpAny M A t Q' E s:=wpAny_mono h hQ fun _ _ x=>x
end L2
namespace L2
open PySem PySem.Spec PyProof.Rows
section
variable {X:Cx}
def tVar (i:Nat):TE:=fun σ H Q=>∃v, σ[i]? = some (some v)∧Q v H
def tC (v:V):TE:=fun _ H Q=>Q v H
theorem pe_var {i:Nat} {x:Str} {pos:Pos} (hN:X.N[i]? = some x) (hv:Vis X.env.scope x) (hd:(x == ("__debug__" : Str))=false:=by decide) (hcd:(x == ("__classdict__" : Str))=false:=by decide):PE X (.Name x pos) (tVar i):=by
 intro pins s σ H Q I h
 obtain ⟨v,e,h⟩:=h
 obtain ⟨m,hn,hl⟩:=I.loc
 obtain ⟨u,r,l⟩:=hl i x v hN e hv
 have fin:EP X pins σ Q u s:=⟨v,H,I,r,h⟩
 rcases l with ⟨hk,hm⟩|⟨hk,c,hc,hcell⟩
 ·exact wpAny_Name (wpAny_loadName_local I.ok.kind hk hn hm fin) hd
 ·rcases hk with hk|hk
  ·exact wpAny_Name (wpAny_loadName_cell I.ok.kind hk hc hcell fin) hd
  ·exact wpAny_Name (wpAny_loadName_free I.ok.kind hk hc hcell fin hcd) hd
theorem pe_int {i j pos} : PE X (.Constant (.int i) j pos) (tC (.int i)):=fun _ _ _ H _ I h=>wpAny_Constant_int ⟨.int i,H,I.tok _,⟨_,rfl⟩,h⟩
theorem pe_bl {b j pos} : PE X (.Constant (.bool b) j pos) (tC (.bl b)):=fun _ _ _ H _ I h=>Constant_bool ⟨.bl b,H,I,rfl,h⟩
theorem pe_non {j pos} : PE X (.Constant .none j pos) (tC .non):=fun _ _ _ H _ I h=>Constant_none ⟨.non,H,I,rfl,h⟩
theorem pe_str {x j pos} : PE X (.Constant (.str x) j pos) (tC (.str x)):=fun _ _ _ H _ I h=>Calls.Constant_str ⟨.str x,H,I.tok _,⟨_,rfl⟩,h⟩
def Gl (X:Cx) (x:Str):Prop:=X.env.kindOf x=some .globalImplicit
theorem ld_glob {E:Value→Shared→Prop} {pins:List (Addr×Obj)} {s:Shared} {σ:St} {H:Hp} {x:Str} {u:Value} {pos:Pos} {Q:Value→Shared→Prop} (I:Inv X pins σ H s) (hg:Gl X x) (hm:X.mg x=some u) (h:Q u s)
  (hd:(x == ("__debug__" : Str))=false:=by decide):wpAny (model X.prog X.w) X.A (eval (.Name x pos) X.env) Q E s:=
 Calls.Name_function_global I.ok.kind hg (Calls.loadGlobal_global (by rw [I.ok.glob];exact I.mod.glob.keeps I.bk) hm h) hd
theorem ld_blt {E:Value→Shared→Prop} {pins:List (Addr×Obj)} {s:Shared} {σ:St} {H:Hp} {x:Str} {u:Value} {pos:Pos} {Q:Value→Shared→Prop} (I:Inv X pins σ H s) (hg:Gl X x) (hm:X.mg x=none) (hv:bootBuiltins x=some u) (h:Q u s)
  (hn:x ≠ "__name__":=by decide) (hd:(x == ("__debug__" : Str))=false:=by decide):wpAny (model X.prog X.w) X.A (eval (.Name x pos) X.env) Q E s:=by
 obtain ⟨mb,h1,h2⟩:=I.mod.blt
 exact Calls.Name_function_global I.ok.kind hg (Calls.loadGlobal_builtin (by rw [I.ok.glob];exact I.mod.glob.keeps I.bk) hm (by rw [I.ok.blt];exact h1.keeps I.bk) ((h2 x hn).trans hv) h) hd
theorem pe_glob {x:Str} {v:V} {u:Value} {pos:Pos} (hg:Gl X x) (hm:X.mg x=some u) (r:RelV v u) (hd:(x == ("__debug__" : Str))=false:=by decide):PE X (.Name x pos) (tC v):=
 fun _ _ _ H _ I h=>ld_glob I hg hm ⟨v,H,I,r,h⟩ hd
theorem pe_bltn {x:Str} {v:V} {u:Value} {pos:Pos} (hg:Gl X x) (hm:X.mg x=none) (hv:bootBuiltins x=some u) (r:RelV v u) (hn:x ≠ "__name__":=by decide) (hd:(x == ("__debug__" : Str))=false:=by decide):PE X (.Name x pos) (tC v):=
 fun _ _ _ H _ I h=>ld_blt I hg hm hv ⟨v,H,I,r,h⟩ hn hd
variable {a b:Expr} {ta tb:TE} {pos:Pos}
def PC (X:Cx) (op:CmpOp) (a b:Expr) (t:TE):Prop:=
 ∀ ⦃pins:List (Addr×Obj)⦄ (s:Shared) (σ:St) (H:Hp) (Q:VK),Inv X pins σ H s→t σ H Q →
  wpAny (model X.prog X.w) X.A (eval a X.env) (fun v s₁=>wpAny (model X.prog X.w) X.A (eval b X.env) (fun u s₂=>wpAny (model X.prog X.w) X.A (compareOp op v u) (EP X pins σ Q) X.xe s₂) X.xe s₁) X.xe s
def tB (t:TE):TT:=fun σ H Q=>t σ H fun x H1=>∃c,x = .bl c∧Q c H1
theorem pt_cmp {op:CmpOp} {t:TE} (h:PC X op a b t) (h1:behindInMarks op b=false:=by first|exact nobehind _ (by decide) (by decide)|rfl):PT X (.Compare a [op] [b] pos) (tB t):=by
 intro pins s σ H Q I hw
 refine wpAny_isTrue_Compare1 (thn (h s σ H _ I hw) fun v s1 h1=>thn h1 fun u s2 h2=>thn h2 fun c s3 hz_=>Elim.el hz_ _ fun x H1 I1 r1 q1 => ?_) h1
 obtain ⟨d,rfl,q⟩:=q1
 cases r1
 exact wpAny_truthy_bool ⟨H1,I1,q⟩
theorem pt_val {e:Expr} {t:TE} (h:PE X e t) (he:∀whole,isTrue e X.env whole=(do let v ←whole;standAt e.pos;holding [v] (truthy v)):=by intro _;rfl):PT X e (tB t):=by
 intro pins s σ H Q I hw
 refine isTrue_plain (thn (h s σ H _ I hw) fun v s1 hz_=>Elim.el hz_ _ fun x H1 I1 r1 q1 => ?_) (he _)
 obtain ⟨d,rfl,q⟩:=q1
 cases r1
 exact wpAny_truthy_bool ⟨H1,I1,q⟩
variable {tA tB':TT} {rest:List Expr}
def tAnd (t u:TT):TT:=fun σ H Q=>t σ H fun c H1=>if c=true then u σ H1 Q else Q false H1
def tOr (t u:TT):TT:=fun σ H Q=>t σ H fun c H1=>if c=true then Q true H1 else u σ H1 Q
def tNot (t:TT):TT:=fun σ H Q=>t σ H fun c H1=>Q (!c) H1
theorem pw_and1 (ha:PT X a tA):PW X (.BoolOp .And [a] pos) tA:=by
 intro wh pins s σ H Q I h
 refine isTrue_and (thn (ha s σ H Q I h) fun c s1 e => ?_)
 cases c with
 | true=>exact isTrue_and_nil e
 | false=>exact e
theorem pw_or1 (ha:PT X a tA):PW X (.BoolOp .Or [a] pos) tA:=by
 intro wh pins s σ H Q I h
 refine isTrue_or (thn (ha s σ H Q I h) fun c s1 e => ?_)
 cases c with
 | false=>exact isTrue_or_nil e
 | true=>exact e
theorem pw_and (ha:PT X a tA) (hb:PW X (.BoolOp .And (b :: rest) pos) tB'):PW X (.BoolOp .And (a :: b :: rest) pos) (tAnd tA tB'):=by
 intro wh pins s σ H Q I h
 refine isTrue_and (thn (ha s σ H _ I h) fun c s1 hz_ => ?_)
 refine Elim.el hz_ _ ?_
 clear hz_
 rintro H1 I1 q1
 cases c with
 | true=>exact hb s1 σ H1 Q I1 q1
 | false=>exact ⟨H1,I1,q1⟩
theorem pw_or (ha:PT X a tA) (hb:PW X (.BoolOp .Or (b :: rest) pos) tB'):PW X (.BoolOp .Or (a :: b :: rest) pos) (tOr tA tB'):=by
 intro wh pins s σ H Q I h
 refine isTrue_or (thn (ha s σ H _ I h) fun c s1 hz_ => ?_)
 refine Elim.el hz_ _ ?_
 clear hz_
 rintro H1 I1 q1
 cases c with
 | true=>exact ⟨H1,I1,q1⟩
 | false=>exact hb s1 σ H1 Q I1 q1
theorem pt_not (ha:PT X a tA):PT X (.UnaryOp .Not a pos) (tNot tA):=by
 intro pins s σ H Q I h
 exact isTrue_not (ha s σ H (fun c H1=>Q (!c) H1) I h)
def tAndV (ta tb:TE):TE:=fun σ H Q=>ta σ H fun x H1=>∃c,x = .bl c∧if c=true then tb σ H1 Q else Q (.bl false) H1
def tOrV (ta tb:TE):TE:=fun σ H Q=>ta σ H fun x H1=>∃c,x = .bl c∧if c=true then Q (.bl true) H1 else tb σ H1 Q
def tNotV (ta:TE):TE:=fun σ H Q=>ta σ H fun x H1=>∃c,x = .bl c∧Q (.bl (!c)) H1
theorem pe_one {op} {t:TE} (h:PE X a t):PE X (.BoolOp op [a] pos) t:=fun pins s σ H Q I hw=>BoolOp_one (h s σ H Q I hw)
theorem pe_and (ha:PE X a ta) (hb:PE X (.BoolOp .And (b :: rest) pos) tb):PE X (.BoolOp .And (a :: b :: rest) pos) (tAndV ta tb):=by
 intro pins s σ H Q I h
 refine BoolOp_and (thn (ha s σ H _ I h) fun v s1 hz_ => ?_)
 refine Elim.el hz_ _ ?_
 clear hz_
 rintro x H1 I1 r1 q1
 obtain ⟨c,rfl,q1⟩:=q1
 cases r1
 refine wpAny_truthy_bool ?_
 cases c with
 | true=>exact hb s1 σ H1 Q I1 q1
 | false=>exact ⟨.bl false,H1,I1,rfl,q1⟩
theorem pe_or (ha:PE X a ta) (hb:PE X (.BoolOp .Or (b :: rest) pos) tb):PE X (.BoolOp .Or (a :: b :: rest) pos) (tOrV ta tb):=by
 intro pins s σ H Q I h
 refine BoolOp_or (thn (ha s σ H _ I h) fun v s1 hz_ => ?_)
 refine Elim.el hz_ _ ?_
 clear hz_
 rintro x H1 I1 r1 q1
 obtain ⟨c,rfl,q1⟩:=q1
 cases r1
 refine wpAny_truthy_bool ?_
 cases c with
 | false=>exact hb s1 σ H1 Q I1 q1
 | true=>exact ⟨.bl true,H1,I1,rfl,q1⟩
theorem pe_not (ha:PE X a ta):PE X (.UnaryOp .Not a pos) (tNotV ta):=by
 intro pins s σ H Q I h
 refine UnaryOp_ (thn (ha s σ H _ I h) fun v s1 hz_ => ?_)
 refine Elim.el hz_ _ ?_
 clear hz_
 rintro x H1 I1 r1 q1
 obtain ⟨c,rfl,q1⟩:=q1
 cases r1
 exact not_of (wpAny_truthy_bool ⟨.bl (!c),H1,I1,rfl,q1⟩)
def tIf (t:TT) (ta tb:TE):TE:=fun σ H Q=>t σ H fun c H1=>if c=true then ta σ H1 Q else tb σ H1 Q
theorem pe_ifExp {c:Expr} (hc:PT X c tA) (ha:PE X a ta) (hb:PE X b tb):PE X (.IfExp c a b pos) (tIf tA ta tb):=by
 intro pins s σ H Q I h
 refine wpAny_IfExp (thn (hc s σ H _ I h) fun d s1 hz_ => ?_)
 refine Elim.el hz_ _ ?_
 clear hz_
 rintro H1 I1 q1
 cases d with
 | true=>exact ha s1 σ H1 Q I1 q1
 | false=>exact hb s1 σ H1 Q I1 q1
end
end L2
namespace L2
open PySem PySem.Spec PyProof.Rows
def SqL (K:PySem.W.Frag) (H:Hp) (a:Addr) (xs:List V):Prop:=
 Rd H a (.lst xs) ∨
  Ex3 fun (o:Obj) (its:Array Value) (n:Nat)=>K.lookup a=some o∧o.cls = .type "list" ∧ o.dict=none∧o.data = .seq its n∧its.size≤sizeLine∧Vals xs its.toList
def SqT (K:PySem.W.Frag) (H:Hp) (a:Addr) (xs:List V):Prop:=
 Rd H a (.tup xs) ∨
  Ex3 fun (o:Obj) (its:Array Value) (n:Nat)=>K.lookup a=some o∧o.cls = .type "tuple" ∧ o.data = .seq its n∧its.size≤sizeLine∧Vals xs its.toList
noncomputable def absV:Value→Option V
 | .none=>some .non
 | .bool b=>some (.bl b)
 | .int i _=>some (.int i)
 | .str x _=>some (.str x)
 | .bytes b _=>some (.byt b)
 | .float b _=>some (.flt b)
 | .ref a=>some (.ref a)
 | .type n=>some (.ty n)
 | _=>none
theorem RelV.abs {x:V} {u:Value} (r:RelV x u):absV u=some x:=by
 cases x with
 | non=>cases r;rfl
 | bl _=>cases r;rfl
 | int _=>obtain ⟨t,rfl⟩:=r;rfl
 | str _=>obtain ⟨t,rfl⟩:=r;rfl
 | byt _=>obtain ⟨t,rfl⟩:=r;rfl
 | flt _=>obtain ⟨t,rfl⟩:=r;rfl
 | ref _=>cases r;rfl
 | ty _=>cases r;rfl
theorem RelV.inj {x y:V} {u:Value} (r:RelV x u) (q:RelV y u):x=y:=Option.some.inj (r.abs.symm.trans q.abs)
theorem Vals.inj {xs ys:List V} {us:List Value} (h:Vals xs us) (h':Vals ys us):xs=ys:=by
 induction h generalizing ys with
 | nil=>cases h';rfl
 | cons r t ih=>cases h' with|cons r' t'=>rw [RelV.inj r r',ih t']
section
variable {X:Cx} {pins:List (Addr×Obj)} {σ:St} {H:Hp} {s:Shared} {a:Addr} {xs ys:List V}
theorem SqL.of {K:PySem.W.Frag} (h:H a=some (.lst xs)):SqL K H a xs := .inl (.inl h)
theorem SqT.of {K:PySem.W.Frag} (h:H a=some (.tup xs)):SqT K H a xs := .inl (.inl h)
theorem Inv.list (I:Inv X pins σ H s) (h:SqL X.K H a xs):∃its:List Value,Vals xs its∧PlainL s.heap a its.toArray∧xs.length≤sizeLine:=by
 rcases h with h|⟨o,its,n,hk,hc,hd,hs,hz,r⟩
 ·obtain ⟨z,its,n,r,e⟩:=h.ok I.hok
  exact ⟨its,r,⟨_,n,e,rfl,rfl,rfl⟩,z⟩
 ·refine ⟨its.toList,r,⟨o,n,I.kIn a o hk,hc,hd,by simpa using hs⟩,?_⟩
  have e:=r.length
  simp only [Array.length_toList] at e
  omega
theorem Inv.tuple (I:Inv X pins σ H s) (h:SqT X.K H a xs):∃its:List Value,Vals xs its∧IsTup s.heap a its.toArray∧xs.length≤sizeLine:=by
 rcases h with h|⟨o,its,n,hk,hc,hs,hz,r⟩
 ·obtain ⟨z,its,r,p⟩:=h.ok I.hok
  exact ⟨its,r,p,z⟩
 ·refine ⟨its.toList,r,⟨o,I.kIn a o hk,hc,n,by simpa using hs⟩,?_⟩
  have e:=r.length
  simp only [Array.length_toList] at e
  omega
theorem Inv.list_inj (I:Inv X pins σ H s) (h:SqL X.K H a xs) (h':SqL X.K H a ys):xs=ys:=by
 obtain ⟨its,r,⟨o,n,e,_,_,d⟩,_⟩:=I.list h
 obtain ⟨its',r',⟨o',n',e',_,_,d'⟩,_⟩:=I.list h'
 rw [e] at e';cases e'
 rw [d] at d'
 injection d' with d1 _
 have:its=its':=by simpa using congrArg Array.toList d1
 subst this
 exact r.inj r'
theorem Inv.tuple_inj (I:Inv X pins σ H s) (h:SqT X.K H a xs) (h':SqT X.K H a ys):xs=ys:=by
 obtain ⟨its,r,⟨o,e,_,n,d⟩,_⟩:=I.tuple h
 obtain ⟨its',r',⟨o',e',_,n',d'⟩,_⟩:=I.tuple h'
 rw [e] at e';cases e'
 rw [d] at d'
 injection d' with d1 _
 have:its=its':=by simpa using congrArg Array.toList d1
 subst this
 exact r.inj r'
end
noncomputable abbrev Cx.wish (X:Cx) (E:Value→Shared→Prop):Cx:={ X with xe:=E }
noncomputable abbrev Cx.nox (X:Cx):Cx:=X.wish fun _ _=>False
theorem Cx.Ok.wish {X:Cx} (ok:X.Ok) (E:Value→Shared→Prop):(X.wish E).Ok:=
 ⟨ok.mod,ok.kind,ok.glob,ok.blt,ok.above,ok.inj,ok.has,ok.cab,ok.hd,ok.frames,ok.stk,ok.exf,ok.bs,ok.bsz,ok.noex,ok.exfs,ok.funs,ok.frf⟩
theorem Cx.Ok.unwish {X:Cx} {E:Value→Shared→Prop} (ok:(X.wish E).Ok):X.Ok:=
 ⟨ok.mod,ok.kind,ok.glob,ok.blt,ok.above,ok.inj,ok.has,ok.cab,ok.hd,ok.frames,ok.stk,ok.exf,ok.bs,ok.bsz,ok.noex,ok.exfs,ok.funs,ok.frf⟩
section
variable {X:Cx} {pins:List (Addr×Obj)} {σ:St} {H:Hp} {s:Shared} {E:Value→Shared→Prop}
theorem Inv.wish (I:Inv X pins σ H s) (E:Value→Shared→Prop):Inv (X.wish E) pins σ H s:=⟨I.ok.wish E,I.os,I.bare,I.base,I.loc,I.cell,I.free,I.freeC,I.pin,I.hok,I.len⟩
theorem Inv.unwish (I:Inv (X.wish E) pins σ H s):Inv X pins σ H s:=⟨I.ok.unwish,I.os,I.bare,I.base,I.loc,I.cell,I.free,I.freeC,I.pin,I.hok,I.len⟩
theorem SP.unwish {D:Ends} {f:Flow} {s':Shared} (h:SP (X.wish E) pins D f s'):SP X pins D f s':=by
 cases f with
 | next=>obtain ⟨σ',H',I,q⟩:=h;exact ⟨σ',H',I.unwish,q⟩
 | brk=>obtain ⟨σ',H',I,q⟩:=h;exact ⟨σ',H',I.unwish,q⟩
 | cont=>obtain ⟨σ',H',I,q⟩:=h;exact ⟨σ',H',I.unwish,q⟩
 | ret u=>obtain ⟨v, σ',H',I,r,q⟩:=h;exact ⟨v, σ',H',I.unwish,r,q⟩
theorem PSs.nox {st:List Stmt} {t:TS} (h:PSs X.nox st t):PSs X st t:=fun pins s σ H D I hw=>
 wpAny_mono (h s σ H D (I.wish _) hw) (fun _ _ q=>q.unwish) fun _ _ z=>False.elim z
end
section
variable {X:Cx} {st:Stmt} {rest:List Stmt} {t u:TS} {e:Expr} {te:TE} {pos:Pos}
def tNext:TS:=fun D σ H=>D.nx σ H
def tSeq (t u:TS):TS:=fun D σ H=>t { D with nx:=u D } σ H
theorem pss_nil:PSs X [] tNext:=fun _ _ σ H _ I h=>wpAny_execs_nil ⟨σ,H,I,h⟩
theorem pss_cons (h1:PS X st t) (h2:PSs X rest u):PSs X (st :: rest) (tSeq t u):=by
 intro pins s σ H D I h
 refine wpAny_execs_cons (thn (h1 s σ H { D with nx:=u D } I h) fun f s1 q => ?_)
 cases f with
 | next=>
  obtain ⟨σ',H',I',q⟩:=q
  exact h2 s1 σ' H' D I' q
 | ret v=>exact q
 | brk=>exact q
 | cont=>exact q
theorem pss_one (h1:PS X st t):PSs X [st] t:=by
 intro pins s σ H D I h
 refine wpAny_execs_cons (thn (h1 s σ H D I h) fun f s1 q => ?_)
 cases f with
 | next=>exact wpAny_execs_nil q
 | ret v=>exact q
 | brk=>exact q
 | cont=>exact q
theorem Inv.quiet {pins:List (Addr×Obj)} {σ:St} {H:Hp} {s:Shared} (I:Inv X pins σ H s):interactive X.env=false:=by simp [interactive,I.ok.kind]
def tDrop (te:TE):TS:=fun D σ H=>te σ H fun _ H1=>D.nx σ H1
theorem ps_expr (he:PE X e te) (hs:swapsWith e none pos.line X.env=pure false:=by rfl):PS X (.Expr e pos) (tDrop te):=by
 intro pins s σ H D I h
 exact wpAny_Expr_any (thn (he s σ H _ I h) fun v s1 hz_=>Elim.el hz_ _ fun x H1 I1 r1 q1=>⟨σ,H1,I1,q1⟩) I.quiet hs
def tRet (te:TE):TS:=fun D σ H=>te σ H D.rt
theorem ps_ret (he:PE X e te):PS X (.Return (some e) pos) (tRet te):=by
 intro pins s σ H D I h
 exact wpAny_Return_some (thn (he s σ H _ I h) fun v s1 hz_=>Elim.el hz_ _ fun x H1 I1 r1 q1=>⟨x, σ,H1,I1,r1,q1⟩)
def tIfS (c:TT) (t u:TS):TS:=fun D σ H=>c σ H fun b H1=>if b=true then t D σ H1 else u D σ H1
theorem ps_if {c:Expr} {a b:List Stmt} {tc:TT} (hc:PT X c tc) (ha:PSs X a t) (hb:PSs X b u):PS X (.If c a b pos) (tIfS tc t u):=by
 intro pins s σ H D I h
 refine wpAny_If (thn (hc s σ H _ I h) fun d s1 hz_ => ?_)
 refine Elim.el hz_ _ ?_
 clear hz_
 rintro H1 I1 q1
 cases d with
 | true=>exact ha s1 σ H1 D I1 q1
 | false=>exact hb s1 σ H1 D I1 q1
end
abbrev TG:=V→St→Hp→(St→Hp→Prop)→Prop
abbrev TGs:=List V→St→Hp→(St→Hp→Prop)→Prop
def PG (X:Cx) (target:Expr) (t:TG):Prop:=
 ∀ ⦃pins:List (Addr×Obj)⦄ (s:Shared) (σ:St) (H:Hp) (v:V) (u:Value) (Q:St→Hp→Prop),Inv X pins σ H s→RelV v u→t v σ H Q →
  wpAny (model X.prog X.w) X.A (assign target X.env u) (fun _ s'=>Ex2 fun σ' H'=>Inv X pins σ' H' s'∧Q σ' H') X.xe s
def PGs (X:Cx) (ts:List Expr) (t:TGs):Prop:=
 ∀ ⦃pins:List (Addr×Obj)⦄ (s:Shared) (σ:St) (H:Hp) (vs:List V) (us:List Value) (Q:St→Hp→Prop),Inv X pins σ H s→Vals vs us→t vs σ H Q →
  wpAny (model X.prog X.w) X.A (assignInOrder ((assignEach ts X.env).map (·.2)) us) (fun _ s'=>Ex2 fun σ' H'=>Inv X pins σ' H' s'∧Q σ' H') X.xe s
abbrev TSet:=V→V→V→Hp→(Hp→Prop)→Prop
def PSet (X:Cx) (t:TSet):Prop:=
 ∀ ⦃pins:List (Addr×Obj)⦄ (s:Shared) (σ:St) (H:Hp) (o i v:V) (ov iv u:Value) (Q:Hp→Prop),Inv X pins σ H s→RelV o ov→RelV i iv→RelV v u→t o i v H Q →
  wpAny (model X.prog X.w) X.A (setItem ov iv u) (fun _ s'=>∃H',Inv X pins σ H' s'∧Q H') X.xe s
abbrev TIp:=V→V→Hp→VK→Prop
def PIp (X:Cx) (op:Operator) (t:TIp):Prop:=
 ∀ ⦃pins:List (Addr×Obj)⦄ (s:Shared) (σ:St) (H:Hp) (x y:V) (v u:Value) (Q:VK),Inv X pins σ H s→RelV x v→RelV y u→t x y H Q →
  wpAny (model X.prog X.w) X.A (inplaceOp op v u) (EP X pins σ Q) X.xe s
section
variable {X:Cx} {pos:Pos}
def gName (i:Nat):TG:=fun v σ H Q=>Q (σ.set i (some v)) H
theorem pg_name {i:Nat} {x:Str} (hN:X.N.Nodup) (hi:X.N[i]? = some x) (hx:Loc X.env.scope x) (hf:X.fn x=true∨X.env.scope.names.lookup x=some .local:=by first|exact .inl rfl|exact .inr rfl|assumption):PG X (.Name x pos) (gName i):=by
 intro pins s σ H v u Q I r h
 exact wpAny_assign_Name (store_ok I hN hi hx r (fun s' I'=>⟨_,H,I',h⟩) hf)
noncomputable def gNil:TGs:=fun vs σ H Q=>vs=[]∧Q σ H
noncomputable def gCons (t:TG) (u:TGs):TGs:=fun vs σ H Q=>Ex2 fun v r=>vs=v :: r∧t v σ H fun σ' H'=>u r σ' H' Q
theorem pgs_nil:PGs X [] gNil:=by
 intro pins s σ H vs us Q I r h
 obtain ⟨e,h⟩:=h
 subst e
 cases r
 exact assignInOrder_nil ⟨σ,H,I,h⟩
theorem pgs_cons {e:Expr} {es:List Expr} {t:TG} {u:TGs} (h1:PG X e t) (h2:PGs X es u)
  (hs:(assignEach (e :: es) X.env).map (·.2)=assign e X.env :: (assignEach es X.env).map (·.2):=by rfl):PGs X (e :: es) (gCons t u):=by
 intro pins s σ H vs us Q I r h
 obtain ⟨v,vr,e1,h⟩:=h
 subst e1
 cases r with
 | cons r rr=>
  rw [hs]
  refine assignInOrder_cons (thn (h1 s σ H _ _ _ I r h) fun _ s1 hz_ => ?_)
  refine Elim.el hz_ _ ?_
  clear hz_
  rintro σ1 H1 I1 q1
  exact h2 s1 σ1 H1 _ _ Q I1 rr q1
def gTup (K:PySem.W.Frag) (n:Nat) (t:TGs):TG:=fun v σ H Q=>Ex2 fun a xs=>v = .ref a∧SqT K H a xs∧xs.length=n∧t xs σ H Q
theorem pg_tup {es:List Expr} {k:Nat} {t:TGs} {n:Nat} (hc:X.calm=true) (h:PGs X es t)
  (hn:(assignEach es X.env).length=n:=by rfl) (hst:(assignEach es X.env).findIdx? (·.1)=none:=by rfl):PG X (.Tuple es k pos) (gTup X.K n t):=by
 intro pins s σ H v u Q I r hw
 obtain ⟨a,xs,e1,hq,hl,hw⟩:=hw
 subst e1
 cases r
 obtain ⟨its,rv,ht,hz⟩:=I.tuple hq
 refine assign_Tuple_tuple (I.ok.hd hc) ht (by simp [hn, ←hl,rv.length]) hst fun h' hx => ?_
 have I1:Inv X pins σ H { s with heap:=h' }:=I.kept (t':=s.toks) fun b o e=>hx b o (Nat.ne_of_lt (Heap.lt_size e)) e
 exact h _ σ H xs _ Q I1 (by simpa using rv) hw
def gSub (to ti:TE) (t:TSet):TG:=fun v σ H Q=>to σ H fun o H1=>ti σ H1 fun i H2=>t o i v H2 fun H3=>Q σ H3
theorem pg_sub {o i:Expr} {to ti:TE} {t:TSet} (ho:PE X o to) (hi:PE X i ti) (hs:PSet X t)
  (ha:∀v,assign (.Subscript o i pos) X.env v=(do
   let ov ←holding [v] (eval o X.env)
   let iv ←holding [v,ov] (eval i X.env)
   standAt pos
   holding [v,ov,iv] (setItem ov iv v)
   release [v,ov,iv] []):=by intro _;rfl):PG X (.Subscript o i pos) (gSub to ti t):=by
 intro pins s σ H v u Q I r h
 rw [ha]
 refine wpAny_bind (wpAny_holding (thn (ho s σ H _ I h) fun ov s1 hz_ => ?_))
 refine Elim.el hz_ _ ?_
 clear hz_
 rintro x H1 I1 r1 q1
 refine wpAny_bind (wpAny_holding (thn (hi s1 σ H1 _ I1 q1) fun iv s2 hz_ => ?_))
 refine Elim.el hz_ _ ?_
 clear hz_
 rintro y H2 I2 r2 q2
 refine wpAny_bind (wpAny_standAt (wpAny_bind (wpAny_holding (thn (hs s2 σ H2 x y v ov iv u _ I2 r1 r2 r q2) fun _ s3 hz_ => ?_))))
 refine Elim.el hz_ _ ?_
 clear hz_
 rintro H3 I3 q3
 exact wpAny_release ⟨σ,H3,I3,q3⟩
def tAsg (te:TE) (g:TG):TS:=fun D σ H=>te σ H fun x H1=>g x σ H1 D.nx
theorem ps_asg {tg e:Expr} {te:TE} {g:TG} (he:PE X e te) (hg:PG X tg g) (hs:swapsWithSole [tg] e pos.line X.env=pure false:=by rfl) (hw:swappedStores [tg] e X.env=pure none:=by rfl)
  (h1:(assignEach [tg] X.env).map (·.2)=[assign tg X.env]:=by rfl):PS X (.Assign [tg] e pos) (tAsg te g):=by
 intro pins s σ H D I h
 refine wpAny_Assign_stores (thn (he s σ H _ I h) fun v s1 hz_=>Elim.el hz_ _ fun x H1 I1 r1 q1 => ?_) hs hw
 rw [h1]
 exact thn (hg s1 σ H1 x v _ I1 r1 q1) fun _ s2 q=>q
theorem ps_set {i:Nat} {x:Str} {e:Expr} {te:TE} {pos':Pos} (hN:X.N.Nodup) (hi:X.N[i]? = some x) (hx:Loc X.env.scope x) (he:PE X e te) (hs:swapsWith e (some (.Name x pos')) pos.line X.env=pure false:=by rfl) (hf:X.fn x=true∨X.env.scope.names.lookup x=some .local:=by first|exact .inl rfl|exact .inr rfl|assumption) :
  PS X (.Assign [.Name x pos'] e pos) (tAsg te (gName i)):=by
 intro pins s σ H D I h
 refine wpAny_Assign_Name (thn (he s σ H _ I h) fun v s1 hz_=>Elim.el hz_ _ fun y H1 I1 r1 q1 => ?_) hs
 exact store_ok I1 hN hi hx r1 (fun s2 I2=>⟨_,H1,I2,q1⟩) hf
def tPar (i j:Nat) (ta:TA):TS:=fun D σ H=>ta σ H fun vs H1=>Ex2 fun v w=>vs=[v,w]∧D.nx ((σ.set i (some v)).set j (some w)) H1
theorem ps_par {i j:Nat} {x y:Str} {a b:Expr} {ta:TA} {px py pt:Pos} {kt k2 pt2} (hc:X.calm=true) (hN:X.N.Nodup) (hi:X.N[i]? = some x) (hj:X.N[j]? = some y) (hij:i≠j)
  (hx:X.env.scope.names.lookup x=some .local) (hy:X.env.scope.names.lookup y=some .local) (ha:PA X [a,b] ta)
  (hw:swappedStores [.Tuple [.Name x px, .Name y py] kt pt] (.Tuple [a,b] k2 pt2) X.env=pure (some [x,y]))
  (hs:swapsWithSole [.Tuple [.Name x px, .Name y py] kt pt] (.Tuple [a,b] k2 pt2) pos.line X.env=pure false:=by rfl) :
  PS X (.Assign [.Tuple [.Name x px, .Name y py] kt pt] (.Tuple [a,b] k2 pt2) pos) (tPar i j ta):=by
 intro pins s σ H D I h
 rw [exec_Assign_arm]
 refine wpAny_bind (wpAny_standAt ?_)
 rw [hs]
 refine wpAny_bind (wpAny_pure ?_)
 rw [if_neg (by decide)]
 refine wpAny_bind (Tuple_ (thn (ha s σ H _ I h) fun us s1 hz_ => ?_))
 refine Elim.el hz_ _ ?_
 clear hz_
 rintro vs H1 I1 r1 q1
 obtain ⟨v,w,e1,q1⟩:=q1
 subst e1
 obtain ⟨u1,u2,rfl,rv,rw'⟩:∃u1 u2,us=[u1,u2]∧RelV v u1∧RelV w u2:=by
  cases r1 with
  | cons p q=>
   cases q with
   | cons p' q'=>
    cases q'
    exact ⟨_,_,rfl,p,p'⟩
 refine wpAny_newObj_type ?_ (by show 2≤sizeLine;decide)
 have I2:Inv X pins σ H1 { s1 with heap:=s1.heap.push { cls := .type "tuple",data := .seq [u1,u2].toArray } }:=I1.kept (t':=s1.toks) fun b o e=>Heap.get?_push_of_some _ e
 rw [hw]
 refine wpAny_bind (wpAny_pure ?_)
 show wpAny (model X.prog X.w) X.A (do rule "assign.swapped-stores";let items ←unpackItems (.ref s1.heap.objs.size) 2 none;assignInOrder [fun v=>bindName X.env y v,fun v=>bindName X.env x v] items.reverse;pure Flow.next) _ _ _
 refine wpAny_bind (wpAny_rule (wpAny_bind (unpackItems_tuple (items := #[u1,u2]) (I.ok.hd hc) (IsTup.new s1.heap _) fun h' hx' => ?_)))
 have I3:=I2.kept (h':=h') (t':=s1.toks) fun b o e=>hx' b o (Nat.ne_of_lt (Heap.lt_size e)) e
 show wpAny _ _ (assignInOrder [fun v=>bindName X.env y v,fun v=>bindName X.env x v] [u2,u1] >>= fun _=>pure Flow.next) _ _ _
 refine wpAny_bind (assignInOrder_cons (wpAny_bindName (store_ok I3 hN hj (.inl hy) rw' (fun s2 I4 => ?_) (.inr hy))))
 refine assignInOrder_cons (wpAny_bindName (store_ok I4 hN hi (.inl hx) rv (fun s3 I5=>assignInOrder_nil (wpAny_pure ?_)) (.inr hx)))
 rw [List.set_comm _ _ (Ne.symm hij)] at I5
 exact ⟨_,H1,I5,q1⟩
def tAug (i:Nat) (te:TE) (ti:TIp):TS:=fun D σ H=>∃x, σ[i]? = some (some x)∧te σ H fun y H1=>ti x y H1 fun z H2=>D.nx (σ.set i (some z)) H2
theorem ps_aug {i:Nat} {x:Str} {e:Expr} {te:TE} {op:Operator} {ti:TIp} {pos':Pos} (hN:X.N.Nodup) (hi:X.N[i]? = some x) (hx:Loc X.env.scope x) (he:PE X e te) (ho:PIp X op ti) (hf:X.fn x=true∨X.env.scope.names.lookup x=some .local:=by first|exact .inl rfl|exact .inr rfl|assumption) :
  PS X (.AugAssign (.Name x pos') op e pos) (tAug i te ti):=by
 intro pins s σ H D I h
 obtain ⟨v,e1,h⟩:=h
 obtain ⟨m,hn,hl⟩:=I.loc
 have vis:Vis X.env.scope x:=by rcases hx with k|k;exact .inl k;exact .inr (.inl k)
 obtain ⟨u,r,l⟩:=hl i x v hi e1 vis
 refine wpAny_AugAssign_Name ?_
 have go:wpAny (model X.prog X.w) X.A (eval e X.env) (fun w s₂=>wpAny (model X.prog X.w) X.A (inplaceOp op u w) (fun r s₃=>wpAny (model X.prog X.w) X.A (storeName X.env x r) (fun _=>SP X pins D .next) X.xe s₃) X.xe s₂) X.xe s:=by
  refine thn (he s σ H _ I h) fun w s1 hz_ => ?_
  refine Elim.el hz_ _ ?_
  clear hz_
  rintro y H1 I1 r1 q1
  refine thn (ho s1 σ H1 v y u w _ I1 r r1 q1) fun z s2 hz_ => ?_
  refine Elim.el hz_ _ ?_
  clear hz_
  rintro zv H2 I2 r2 q2
  exact store_ok I2 hN hi hx r2 (fun s3 I3=>⟨_,H2,I3,q2⟩) hf
 rcases l with ⟨hk,hm⟩|⟨hk,c,hc,hcell⟩
 ·exact wpAny_loadName_local I.ok.kind hk hn hm go
 ·rcases hk with hk|hk
  ·exact wpAny_loadName_cell I.ok.kind hk hc hcell go
  ·rcases hx with k|k
   ·have:X.env.scope.names.lookup x=some .free:=hk
    rw [k] at this;cases this
   ·have:X.env.scope.names.lookup x=some .free:=hk
    rw [k] at this;cases this
noncomputable def ipI (f:Int→Int→Int):TIp:=fun x y H Q=>Ex2 fun i j=>x = .int i∧y = .int j∧Q (.int (f i j)) H
theorem ip_add:PIp X .Add (ipI fun i j=>i+j):=by
 intro pins s σ H x y v u Q I r1 r2 h
 obtain ⟨i,j,e1,e2,q⟩:=h
 subst e1;subst e2
 obtain ⟨t,rfl⟩:=r1
 obtain ⟨t',rfl⟩:=r2
 exact iadd_int ⟨.int _,H,I.tok _,⟨_,rfl⟩,q⟩
end
section
variable {X:Cx} {pos:Pos}
def tWhile (c:TT) (tb:TS):TS:=fun D σ H=>∃W:Nat→St→Hp→Prop,(∃m,W m σ H)∧∀m σ H,W m σ H →
 c σ H fun b H1=>if b=true then ∃N:St→Hp→Prop,(∀ σ' H',N σ' H'→∃m',m'<m∧W m' σ' H')∧tb { D with nx:=N,ct:=N,bk:=D.nx } σ H1 else D.nx σ H1
theorem ps_while {c:Expr} {body:List Stmt} {tc:TT} {tb:TS} (hp:PassesOwn (model X.prog X.w) X.A X.env X.xe) (hc:PT X c tc) (hb:PSs X body tb):PS X (.While c body [] pos) (tWhile tc tb):=by
 intro pins s σ H D I h
 obtain ⟨W,⟨m0,w0⟩,turn⟩:=h
 refine wpAny_While (codeAny_whileLoop (fun n s'=>∃ σ' H',Inv X pins σ' H' s'∧W n σ' H') ?_ m0 ⟨σ,H,I,w0⟩)
 rintro n s1 ⟨σ1,H1,I1,w1⟩
 refine wpAny_passesOwn hp (thn (hc s1 σ1 H1 _ I1 (turn n σ1 H1 w1)) fun b s2 hz_ => ?_)
 refine Elim.el hz_ _ ?_
 clear hz_
 rintro H2 I2 q2
 cases b with
 | true=>
  obtain ⟨N,hN,q2⟩:=q2
  rw [if_pos rfl]
  refine wpAny_passesOwn hp (thn (hb s2 σ1 H2 _ I2 q2) fun f s3 q3 => ?_)
  cases f with
  | next=>
   obtain ⟨σ3,H3,I3,n3⟩:=q3
   obtain ⟨m',hm,w3⟩:=hN σ3 H3 n3
   exact ⟨m',hm, σ3,H3,I3,w3⟩
  | cont=>
   obtain ⟨σ3,H3,I3,n3⟩:=q3
   obtain ⟨m',hm,w3⟩:=hN σ3 H3 n3
   exact ⟨m',hm, σ3,H3,I3,w3⟩
  | brk=>exact q3
  | ret v=>exact q3
 | false=>
  rw [if_neg Bool.false_ne_true]
  exact wpAny_execs_nil ⟨σ1,H2,I2,q2⟩
end
structure It where
 go:Nat→Hp→Prop
 yld:Nat→Hp→V→Hp→Prop
 stop:Nat→Hp→Prop
def FpOk (X:Cx) (pins:List (Addr×Obj)) (H:Hp) (b:Addr):Prop:=
 H b=none∧b≠X.env.locals∧b ∉ X.fs∧(b∈X.ex∨X.s₀.heap.objs.size≤b)∧(∀x c,X.env.cells.lookup x=some c→c≠b)∧∀p∈X.pn++pins,p.1≠b
theorem Inv.fpOk {X:Cx} {pins:List (Addr×Obj)} {σ:St} {H H':Hp} {s:Shared} {b:Addr} (I:Inv X pins σ H s) (hb:s.heap.objs.size≤b) (hn:H' b=none):FpOk X pins H' b:=by
 refine ⟨hn,Nat.ne_of_gt (Nat.lt_of_lt_of_le I.lt hb),I.nofs hb, .inr (Nat.le_trans I.sz hb),fun x c e z => ?_,fun p hp z => ?_⟩
 ·obtain ⟨v,q⟩:=I.cell x c e
  exact absurd (Nat.lt_of_lt_of_le q.lt (by rw [z];exact hb)) (Nat.lt_irrefl _)
 ·exact absurd (Nat.lt_of_lt_of_le (Heap.lt_size (I.pin p hp).1) (by rw [z];exact hb)) (Nat.lt_irrefl _)
structure Turn (P:Program) (w:World) (K:PySem.W.Frag) (tg:Expr) (J:It) (fp:List Addr) (it:Addr) (tn:Nat→Heap→Prop):Prop where
 mem:it∈fp
 obj:∀i h,tn i h→∀b∈fp,∃o,h.get? b=some o∧∀v,o.data ≠ .cell v
 keep:∀i h h',tn i h→(∀b∈fp,∀o,h.get? b=some o→h'.get? b=some o)→tn i h'
 item:∀(X:Cx),X.prog=P→X.w=w→X.K=K→X.calm=true→∀(i:Nat) (pins:List (Addr×Obj)) (s:Shared) (σ:St) (H:Hp) (E:Value→Shared→Prop),Inv X pins σ H s→(∀b∈fp,FpOk X pins H b)→tn i s.heap→J.go i H →
  wpAny (model P w) X.A (pyNext (.ref it)) (fun r s1=>∃u,r=some u ∧
   wpAny (model P w) X.A (letOwnedTupleGo tg (.ref it) u) (fun _ s2=>∃x H',Inv X pins σ H' s2∧RelV x u∧J.yld i H x H'∧tn (i+1) s2.heap∧∀b∈fp,H' b=none) E s1) E s
 done:∀(X:Cx),X.prog=P→X.w=w→X.K=K→X.calm=true→∀(i:Nat) (pins:List (Addr×Obj)) (s:Shared) (σ:St) (H:Hp) (E:Value→Shared→Prop),Inv X pins σ H s→(∀b∈fp,FpOk X pins H b)→tn i s.heap→J.stop i H →
  wpAny (model P w) X.A (pyNext (.ref it)) (fun r s1=>r=none∧Inv X pins σ H s1) E s
 self:∀(A:Around) (i:Nat) (s:Shared) (Q:Value→Shared→Prop) (E:Value→Shared→Prop),tn i s.heap→Q (.ref it) s→wpAny (model P w) A (pyIter (.ref it)) Q E s
abbrev TI:=St→Hp→(It→Hp→Prop)→Prop
def PIE (X:Cx) (pins:List (Addr×Obj)) (σ:St) (tg:Expr) (R:It→Hp→Prop) (itv:Value) (s2:Shared):Prop:=
 Ex5 fun (it:Addr) (fp:List Addr) (tn:Nat→Heap→Prop) (J:It) (H':Hp)=>itv = .ref it∧Inv X pins σ H' s2∧Turn X.prog X.w X.K tg J fp it tn∧tn 0 s2.heap∧(∀b∈fp,FpOk X pins H' b)∧R J H'
def PI (X:Cx) (tg iter:Expr) (wi:TI):Prop:=
 ∀ ⦃pins:List (Addr×Obj)⦄ (s:Shared) (σ:St) (H:Hp) (R:It→Hp→Prop),Inv X pins σ H s→wi σ H R →
  wpAny (model X.prog X.w) X.A (eval iter X.env) (fun v s1=>wpAny (model X.prog X.w) X.A (pyIter v) (PIE X pins σ tg R) X.xe s1) X.xe s
theorem go_of {M:Model} {A:Around} {E:Value→Shared→Prop} {s:Shared} {tg:Expr} {it:Addr} {u:Value} {o:Obj} {n:String} {vs:Array Value} {Q:Unit→Shared→Prop} (ho:s.heap.get? it=some o) (hc:o.cls = .type n) (hd:o.data = .fields vs)
  (hn:["enumerate", "zip", "dict_itemiterator", "dict_reverseitemiterator", "odict_iterator", "itertools.zip_longest", "itertools.pairwise"].contains n=false) (hQ:Q () s):wpAny M A (letOwnedTupleGo tg (.ref it) u) Q E s:=by
 unfold letOwnedTupleGo
 cases tg <;> first
  | exact wpAny_pure hQ
  | (cases u <;> first
    | exact wpAny_pure hQ
    | (refine wpAny_bind (wpAny_load ho ?_)
       rw [hc,hd]
       show wpAny M A (if (["enumerate", "zip", "dict_itemiterator", "dict_reverseitemiterator", "odict_iterator", "itertools.zip_longest", "itertools.pairwise"].contains n&&vs[0]? == some (rawInt _))=true then _ else _) Q E s
       rw [if_neg (by intro h;rw [hn,Bool.false_and] at h;cases h)]
       exact wpAny_pure hQ))
noncomputable def Itl (K:PySem.W.Frag) (a:Addr):It:=
 ⟨fun i H=>Ex2 fun xs x=>SqL K H a xs∧xs[i]? = some x,fun i H x H'=>H'=H∧∀xs,SqL K H a xs→xs[i]? = some x,fun i H=>∃xs,SqL K H a xs∧xs.length≤i⟩
noncomputable def Itt (K:PySem.W.Frag) (a:Addr):It:=
 ⟨fun i H=>Ex2 fun xs x=>SqT K H a xs∧xs[i]? = some x,fun i H x H'=>H'=H∧∀xs,SqT K H a xs→xs[i]? = some x,fun i H=>∃xs,SqT K H a xs∧xs.length≤i⟩
noncomputable def Itr (lo:Int) (n:Nat):It:=⟨fun i _=>i<n,fun i H x H'=>H'=H∧x = .int (lo+i),fun i _=>n≤i⟩
theorem turn_list {P:Program} {w:World} {K:PySem.W.Frag} {tg:Expr} (a it:Addr):Turn P w K tg (Itl K a) [it] it (fun i h=>h.IsListIter it a i) where
 mem:=by simp
 obj:=fun i h st b hb=>by
  have e:b=it:=by simpa using hb
  subst e
  obtain ⟨o,e,c,d⟩:=st
  exact ⟨o,e,fun v z=>by rw [d] at z;cases z⟩
 keep:=fun i h h' st k=>st.at fun o e=>k it (by simp) o e
 item:=by
  intro X hP hw hK hc i pins s σ H E I hf st hg
  subst hP hw hK
  obtain ⟨xs,x,hq,hx⟩:=hg
  obtain ⟨its,rv,p,hz⟩:=I.list hq
  obtain ⟨u,hu,ru⟩:=rv.get hx
  obtain ⟨f0,f1,f2,f3,f4,f5⟩:=hf it (by simp)
  refine wpAny_pyNext_list_item st p.isList (x:=u) (by simpa using hu) fun h' st' sb => ?_
  have I1:Inv X pins σ H { s with heap:=h' }:=I.turned (t':=s.toks) (fun b o hb e=>(sb.2 b hb).trans e) f0 f1 f3 f4 f5
  obtain ⟨o,e,c,d⟩:=id st'
  exact ⟨u,rfl,go_of (s:={ s with heap:=h' }) e c d (by decide) ⟨x,H,I1,ru,⟨rfl,fun ys hy=>by rw [I.list_inj hy hq];exact hx⟩,st',fun b hb=>(hf b hb).1⟩⟩
 done:=by
  intro X hP hw hK hc i pins s σ H E I hf st hg
  subst hP hw hK
  obtain ⟨xs,hq,hx⟩:=hg
  obtain ⟨its,rv,p,hz⟩:=I.list hq
  obtain ⟨f0,f1,f2,f3,f4,f5⟩:=hf it (by simp)
  have hl:=rv.length
  exact wpAny_pyNext_list_end (I.ok.hd hc) st p.isList (by simp;omega) fun h' eb=>⟨rfl,I.turned (t':=s.toks) (fun b o hb e=>eb b o hb e) f0 f1 f3 f4 f5⟩
 self:=fun _ _ _ _ _ st h=>wpAny_pyIter_listiter st h
theorem turn_tuple {P:Program} {w:World} {K:PySem.W.Frag} {tg:Expr} (a it:Addr):Turn P w K tg (Itt K a) [it] it (fun i h=>h.IsTupleIter it a i) where
 mem:=by simp
 obj:=fun i h st b hb=>by
  have e:b=it:=by simpa using hb
  subst e
  obtain ⟨o,e,c,d⟩:=st
  exact ⟨o,e,fun v z=>by rw [d] at z;cases z⟩
 keep:=fun i h h' st k=>st.at fun o e=>k it (by simp) o e
 item:=by
  intro X hP hw hK hc i pins s σ H E I hf st hg
  subst hP hw hK
  obtain ⟨xs,x,hq,hx⟩:=hg
  obtain ⟨its,rv,p,hz⟩:=I.tuple hq
  obtain ⟨u,hu,ru⟩:=rv.get hx
  obtain ⟨f0,f1,f2,f3,f4,f5⟩:=hf it (by simp)
  refine wpAny_pyNext_tuple_item st (show s.heap.IsTuple a its.toArray from p) (x:=u) (by simpa using hu) fun h' st' sb => ?_
  have I1:Inv X pins σ H { s with heap:=h' }:=I.turned (t':=s.toks) (fun b o hb e=>(sb.2 b hb).trans e) f0 f1 f3 f4 f5
  obtain ⟨o,e,c,d⟩:=id st'
  exact ⟨u,rfl,go_of (s:={ s with heap:=h' }) e c d (by decide) ⟨x,H,I1,ru,⟨rfl,fun ys hy=>by rw [I.tuple_inj hy hq];exact hx⟩,st',fun b hb=>(hf b hb).1⟩⟩
 done:=by
  intro X hP hw hK hc i pins s σ H E I hf st hg
  subst hP hw hK
  obtain ⟨xs,hq,hx⟩:=hg
  obtain ⟨its,rv,p,hz⟩:=I.tuple hq
  obtain ⟨f0,f1,f2,f3,f4,f5⟩:=hf it (by simp)
  have hl:=rv.length
  exact wpAny_pyNext_tuple_end (I.ok.hd hc) st (show s.heap.IsTuple a its.toArray from p) (by simp;omega) fun h' eb=>⟨rfl,I.turned (t':=s.toks) (fun b o hb e=>eb b o hb e) f0 f1 f3 f4 f5⟩
 self:=fun _ _ _ _ _ st h=>wpAny_pyIter_tupleiter st h
theorem turn_range {P:Program} {w:World} {K:PySem.W.Frag} {tg:Expr} (it:Addr) (lo:Int) (n:Nat):Turn P w K tg (Itr lo n) [it] it (fun i h=>IsRangeIter h it (lo+(i:Nat)*1) ((n:Int)-(i:Nat)) 1) where
 mem:=by simp
 obj:=fun i h st b hb=>by
  have e:b=it:=by simpa using hb
  subst e
  exact ⟨_,st,fun v z=>by
   have z':Data.fields _=Data.cell v:=z
   cases z'⟩
 keep:=fun i h h' st k=>k it (by simp) _ st
 item:=by
  intro X hP hw hK hc i pins s σ H E I hf st hg
  subst hP hw hK
  obtain ⟨f0,f1,f2,f3,f4,f5⟩:=hf it (by simp)
  have W:=Walks.range (prog:=X.prog) (w:=X.w) (I.ok.hd hc) it lo 1 n
  refine W.item i s _ _ hg st fun v h' tk hv st' kk => ?_
  obtain ⟨t,rfl⟩:=hv
  have I1:Inv X pins σ H { s with heap:=h',toks:=tk }:=I.turned (fun b o hb e=>kk b o (by simpa using hb) e) f0 f1 f3 f4 f5
  refine ⟨_,rfl,go_of (s:={ s with heap:=h',toks:=tk }) (n := "range_iterator") st' rfl rfl (by decide) ⟨.int (lo+i),H,I1,⟨t,?_⟩,⟨rfl,rfl⟩,st',fun b hb=>(hf b hb).1⟩⟩
  rw [Int.mul_one]
 done:=by
  intro X hP hw hK hc i pins s σ H E I hf st hg
  subst hP hw hK
  obtain ⟨f0,f1,f2,f3,f4,f5⟩:=hf it (by simp)
  exact wpAny_pyNext_range_end (I.ok.hd hc) st (by have:n≤i:=hg;omega) fun h' eb=>⟨rfl,I.turned (t':=s.toks) (fun b o hb e=>eb b o hb e) f0 f1 f3 f4 f5⟩
 self:=fun _ _ _ _ _ st h=>wpAny_pyIter_rangeiter st h
end L2
namespace L2
open PySem PySem.Spec PyProof.Rows
section
variable {X:Cx} {tg:Expr}
def iList (K:PySem.W.Frag) (tl:TE):TI:=fun σ H R=>tl σ H fun x H1=>∃a,x = .ref a∧(∃xs,SqL K H1 a xs)∧R (Itl K a) H1
def iTup (K:PySem.W.Frag) (tl:TE):TI:=fun σ H R=>tl σ H fun x H1=>∃a,x = .ref a∧(∃xs,SqT K H1 a xs)∧R (Itt K a) H1
theorem pi_list {l:Expr} {tl:TE} (hl:PE X l tl):PI X tg l (iList X.K tl):=by
 intro pins s σ H R I h
 refine thn (hl s σ H _ I h) fun v s1 hz_ => ?_
 refine Elim.el hz_ _ ?_
 clear hz_
 rintro x H1 I1 r1 q1
 obtain ⟨a,e,⟨xs,hq⟩,q⟩:=q1
 subst e
 cases r1
 obtain ⟨its,rv,p,hz⟩:=I1.list hq
 refine wpAny_pyIter_list p.isList ?_
 refine ⟨s1.heap.objs.size,[s1.heap.objs.size],_,_,H1,rfl,I1.kept (t':=s1.toks) fun b o e=>Heap.get?_push_of_some _ e,turn_list a _,⟨_,Heap.get?_push_size _ rfl,rfl,rfl⟩,fun b hb => ?_,q⟩
 have e:b=s1.heap.objs.size:=by simpa using hb
 subst e
 exact I1.fpOk (Nat.le_refl _) (I1.hok.fresh (Nat.le_refl _))
theorem pi_tup {l:Expr} {tl:TE} (hl:PE X l tl):PI X tg l (iTup X.K tl):=by
 intro pins s σ H R I h
 refine thn (hl s σ H _ I h) fun v s1 hz_ => ?_
 refine Elim.el hz_ _ ?_
 clear hz_
 rintro x H1 I1 r1 q1
 obtain ⟨a,e,⟨xs,hq⟩,q⟩:=q1
 subst e
 cases r1
 obtain ⟨its,rv,p,hz⟩:=I1.tuple hq
 refine wpAny_pyIter_tuple (show s1.heap.IsTuple a its.toArray from p) ?_
 refine ⟨s1.heap.objs.size,[s1.heap.objs.size],_,_,H1,rfl,I1.kept (t':=s1.toks) fun b o e=>Heap.get?_push_of_some _ e,turn_tuple a _,⟨_,Heap.get?_push_size _ rfl,rfl,rfl⟩,fun b hb => ?_,q⟩
 have e:b=s1.heap.objs.size:=by simpa using hb
 subst e
 exact I1.fpOk (Nat.le_refl _) (I1.hok.fresh (Nat.le_refl _))
theorem range_it {pins:List (Addr×Obj)} {σ:St} {H:Hp} {s:Shared} {R:It→Hp→Prop} {E:Value→Shared→Prop} {lo hi:Int} {t u v:Tok} {tk:Nat} (I:Inv X pins σ H s) (h1 : -(2 ^ 62)≤lo) (h2:lo<2 ^ 62) (h3 : -(2 ^ 62)≤hi) (h4:hi<2 ^ 62)
  (q:R (Itr lo (hi-lo).toNat) H):wpAny (model X.prog X.w) X.A (pyIter (.ref s.heap.objs.size)) (PIE X pins σ tg R) E { s with heap:=s.heap.push { cls := .type "range",data := .fields #[.int lo t, .int hi u, .int 1 v] },toks:=tk }:=by
 refine wpAny_pyIter_range (IsRange.new ..) (small_one h1 h2 h3 h4) ?_
 have I1:Inv X pins σ H { s with heap:=s.heap.push { cls := .type "range",data := .fields #[.int lo t, .int hi u, .int 1 v] },toks:=tk }:=I.kept fun b o e=>Heap.get?_push_of_some _ e
 refine ⟨(s.heap.push { cls := .type "range",data := .fields #[.int lo t, .int hi u, .int 1 v] }).objs.size,[(s.heap.push { cls := .type "range",data := .fields #[.int lo t, .int hi u, .int 1 v] }).objs.size],_,_,H,rfl,
  I1.kept (t':=tk) fun b o e=>Heap.get?_push_of_some _ e,turn_range _ lo (hi-lo).toNat,?_,fun b hb => ?_,q⟩
 ·have e1:lo+((0:Nat):Int)*1=lo:=by simp
  have e2:(((hi-lo).toNat:Nat):Int)-((0:Nat):Int)=Builtin.Range.rangeSize lo hi 1:=by rw [rangeSize_one];split <;> omega
  show IsRangeIter _ _ (lo+((0:Nat):Int)*1) ((((hi-lo).toNat:Nat):Int)-((0:Nat):Int)) 1
  rw [e1,e2]
  exact Heap.get?_push_size _ rfl
 ·have e:b=(s.heap.push { cls := .type "range",data := .fields #[.int lo t, .int hi u, .int 1 v] }).objs.size:=by simpa using hb
  subst e
  exact I1.fpOk (Nat.le_refl _) (I1.hok.fresh (Nat.le_refl _))
def iRng1 (ta:TA):TI:=fun σ H R=>ta σ H fun vs H1=>∃j:Int,vs=[.int j] ∧ -(2 ^ 62)≤j∧j<2 ^ 62∧R (Itr 0 j.toNat) H1
theorem pi_range1 {a:Expr} {ta:TA} {p pos:Pos} (hg:Gl X "range") (hm:X.mg "range" = none) (ha:PA X [a] ta) (hs:starEach [a] X.env=[(false,eval a X.env)]:=by rfl):PI X tg (.Call (.Name "range" p) [a] [] pos) (iRng1 ta):=by
 intro pins s σ H R I h
 refine Call_ (ld_blt I hg hm boot_range (PyProof.Rows.callWith_type1 (thn (ha s σ H _ I h) fun us s1 hz_=>Elim.el hz_ _ fun vs H1 I1 r1 q1 => ?_) hs rfl))
 obtain ⟨j,e,q1,q2,q⟩:=q1
 subst e
 cases r1 with
 | cons r rr=>
  cases rr
  obtain ⟨t,rfl⟩:=r
  exact call_range_1 (range_it I1 (by omega) (by omega) q1 q2 (by simpa using q))
def tFor (wi:TI) (g:TG) (tb:TS):TS:=fun D σ H=>wi σ H fun J H1=>∃W:Nat→Nat→St→Hp→Prop,(∃m,W 0 m σ H1)∧∀i m σ H,W i m σ H →
 (J.stop i H∧D.nx σ H)∨(J.go i H∧∃N:St→Hp→Prop,(∀ σ' H',N σ' H'→∃m',m'<m∧W (i+1) m' σ' H')∧∀x H',J.yld i H x H'→g x σ H' fun σ2 H2=>tb { D with nx:=N,ct:=N,bk:=D.nx } σ2 H2)
noncomputable def pinsAt (fp:List Addr) (h:Heap):List (Addr×Obj):=fp.filterMap fun b=>(h.get? b).map fun o=>(b,o)
theorem mem_pinsAt {fp:List Addr} {h:Heap} {b:Addr} {o:Obj} (hb:b∈fp) (e:h.get? b=some o):(b,o)∈pinsAt fp h:=List.mem_filterMap.mpr ⟨b,hb,by rw [e];rfl⟩
theorem of_pinsAt {fp:List Addr} {h:Heap} {p:Addr×Obj} (hp:p∈pinsAt fp h):p.1∈fp∧h.get? p.1=some p.2:=by
 obtain ⟨b,hb,e⟩:=List.mem_filterMap.mp hp
 cases q:h.get? b with
 | none=>rw [q] at e;cases e
 | some o=>
  rw [q] at e
  have e':(b,o)=p:=Option.some.inj e
  subst e'
  exact ⟨hb,q⟩
theorem Inv.pinned {pins:List (Addr×Obj)} {σ:St} {H:Hp} {s:Shared} {fp:List Addr} (I:Inv X pins σ H s) (hf:∀b∈fp,FpOk X pins H b) (ho:∀b∈fp,∃o,s.heap.get? b=some o∧∀v,o.data ≠ .cell v):Inv X (pins++pinsAt fp s.heap) σ H s:=
 I.pins_of fun p hp=>(List.mem_append.mp hp).elim (fun z=>I.pin p (List.mem_append_right _ z)) fun z=>by
  obtain ⟨hb,e⟩:=of_pinsAt z
  obtain ⟨f0,f1,f2,_⟩:=hf p.1 hb
  obtain ⟨o,e',d⟩:=ho p.1 hb
  rw [e] at e';cases e'
  exact ⟨e,f0,f1,f2,d⟩
theorem Inv.unpinned {pins pl:List (Addr×Obj)} {σ:St} {H:Hp} {s:Shared} (I:Inv X (pins++pl) σ H s):Inv X pins σ H s:=I.pins_of fun p hp=>I.pin p (List.mem_append_right _ (List.mem_append_left _ hp))
theorem ps_for {iter:Expr} {body:List Stmt} {wi:TI} {g:TG} {tb:TS} {pos:Pos} (hp:PassesOwn (model X.prog X.w) X.A X.env X.xe) (hc:X.calm=true) (hi:PI X tg iter wi) (hg:PG X tg g) (hb:PSs X body tb)
  (hs:∀x,foldedSetIterable iter X.env x=pure x:=by intro _;rfl):PS X (.For tg iter body [] pos) (tFor wi g tb):=by
 intro pins s σ H D I h
 refine wpAny_For (thn (hi s σ H _ I h) fun v s1 h1=>thn h1 fun itv s2 h2 => ?_) hs
 obtain ⟨it,fp,tn,J,H2,e,I2,T,st2,f2,W,⟨m0,w0⟩,turn⟩:=h2
 subst e
 have stat:∀{H':Hp},(∀b∈fp,H' b=none)→∀b∈fp,FpOk X pins H' b:=fun hn b hb=>⟨hn b hb,(f2 b hb).2⟩
 refine codeAny_forLoop_any (fun n s'=>∃i σ' H',Inv X pins σ' H' s'∧tn i s'.heap∧(∀b∈fp,H' b=none)∧W i n σ' H') ?_ m0 ⟨0, σ,H2,I2,st2,fun b hb=>(f2 b hb).1,w0⟩
 rintro n s3 ⟨i, σ3,H3,I3,st3,fr3,w3⟩
 rcases turn i n σ3 H3 w3 with ⟨stop,qn⟩|⟨go,N,hN,step⟩
 ·refine wpAny_passesOwn hp (thn (T.done X rfl rfl rfl hc i pins s3 σ3 H3 X.xe I3 (stat fr3) st3 stop) fun r s4 hz_ => ?_)
  refine Elim.el hz_ _ ?_
  clear hz_
  rintro hr I4
  subst hr
  exact wpAny_execs_nil ⟨σ3,H3,I4,qn⟩
 ·refine wpAny_passesOwn hp (thn (T.item X rfl rfl rfl hc i pins s3 σ3 H3 X.xe I3 (stat fr3) st3 go) fun r s4 hz_ => ?_)
  refine Elim.el hz_ _ ?_
  clear hz_
  rintro u hr h4
  subst hr
  refine wpAny_passesOwn hp (thn h4 fun _ s5 hz_=>Elim.el hz_ _ fun x H5 I5 r5 y5 st5 fr5 => ?_)
  have I5':=I5.pinned (stat fr5) (T.obj _ _ st5)
  refine wpAny_passesOwn hp (thn (hg s5 σ3 H5 x u _ I5' r5 (step x H5 y5)) fun _ s6 hz_ => ?_)
  refine Elim.el hz_ _ ?_
  clear hz_
  rintro σ6 H6 I6 q6
  refine wpAny_passesOwn hp (thn (hb s6 σ6 H6 _ I6 q6) fun f s7 q7 => ?_)
  have again:∀{σ7:St} {H7:Hp},Inv X (pins++pinsAt fp s5.heap) σ7 H7 s7→N σ7 H7→∃m,m<n∧∃i σ' H',Inv X pins σ' H' s7∧tn i s7.heap∧(∀b∈fp,H' b=none)∧W i m σ' H':=fun {σ7 H7} I7 n7=>by
   obtain ⟨m',hm,w7⟩:=hN σ7 H7 n7
   refine ⟨m',hm,i+1, σ7,H7,I7.unpinned,T.keep _ _ _ st5 fun b hb o e=>(I7.pin (b,o) (List.mem_append_right _ (List.mem_append_right _ (mem_pinsAt hb e)))).1,fun b hb => ?_,w7⟩
   obtain ⟨o,e,d⟩:=T.obj _ _ st5 b hb
   exact (I7.pin (b,o) (List.mem_append_right _ (List.mem_append_right _ (mem_pinsAt hb e)))).2.1
  cases f with
  | next=>obtain ⟨σ7,H7,I7,n7⟩:=q7;exact again I7 n7
  | cont=>obtain ⟨σ7,H7,I7,n7⟩:=q7;exact again I7 n7
  | brk=>obtain ⟨σ7,H7,I7,q7⟩:=q7;exact ⟨σ7,H7,I7.unpinned,q7⟩
  | ret v=>obtain ⟨x7, σ7,H7,I7,r7,q7⟩:=q7;exact ⟨x7, σ7,H7,I7.unpinned,r7,q7⟩
end
end L2
namespace L2
open PySem PySem.Spec PyProof.Rows
abbrev R2:=V→V→Hp→VK→Prop
def OpR (X:Cx) (f:Value→Value→Sem Value) (r:R2):Prop:=
 ∀ ⦃pins:List (Addr×Obj)⦄ (s:Shared) (σ:St) (H:Hp) (x y:V) (v u:Value) (Q:VK),Inv X pins σ H s→RelV x v→RelV y u→r x y H Q →
  wpAny (model X.prog X.w) X.A (f v u) (EP X pins σ Q) X.xe s
def UnR (X:Cx) (f:Value→Sem Value) (r:V→Hp→VK→Prop):Prop:=
 ∀ ⦃pins:List (Addr×Obj)⦄ (s:Shared) (σ:St) (H:Hp) (x:V) (v:Value) (Q:VK),Inv X pins σ H s→RelV x v→r x H Q →
  wpAny (model X.prog X.w) X.A (f v) (EP X pins σ Q) X.xe s
def CallR (X:Cx) (f:Value) (r:List V→Hp→VK→Prop):Prop:=
 ∀ ⦃pins:List (Addr×Obj)⦄ (s:Shared) (σ:St) (H:Hp) (xs:List V) (us:List Value) (Q:VK),Inv X pins σ H s→Vals xs us→r xs H Q →
  wpAny (model X.prog X.w) X.A (call f us) (EP X pins σ Q) X.xe s
def tOp (r:R2) (ta tb:TE):TE:=fun σ H Q=>ta σ H fun x H1=>tb σ H1 fun y H2=>r x y H2 Q
def tUn (r:V→Hp→VK→Prop) (ta:TE):TE:=fun σ H Q=>ta σ H fun x H1=>r x H1 Q
def rI (C:Int→Int→Prop) (g:Int→Int→V):R2:=fun x y H Q=>Ex2 fun i j=>x = .int i∧y = .int j∧C i j∧Q (g i j) H
def rI0 (g:Int→Int→V):R2:=fun x y H Q=>Ex2 fun i j=>x = .int i∧y = .int j∧Q (g i j) H
def rU (g:Int→V):V→Hp→VK→Prop:=fun x H Q=>∃i,x = .int i∧Q (g i) H
section
variable {X:Cx} {a b c:Expr} {ta tb tc:TE} {pos:Pos}
theorem binT (ha:PE X a ta) (hb:PE X b tb) {pins:List (Addr×Obj)} {s:Shared} {σ:St} {H:Hp} {R:V→V→Hp→Prop} (I:Inv X pins σ H s)
  (h:ta σ H fun x H1=>tb σ H1 fun y H2=>R x y H2) {Q:Value→Shared→Prop} {f:Value→Value→Sem Value}
  (hf:∀v u s2 x y H2,Inv X pins σ H2 s2→RelV x v→RelV y u→R x y H2→wpAny (model X.prog X.w) X.A (f v u) Q X.xe s2) :
  wpAny (model X.prog X.w) X.A (eval a X.env) (fun v s₁=>wpAny (model X.prog X.w) X.A (eval b X.env) (fun u s₂=>wpAny (model X.prog X.w) X.A (f v u) Q X.xe s₂) X.xe s₁) X.xe s:=by
 refine thn (ha s σ H _ I h) fun v s1 hz_ => ?_
 refine Elim.el hz_ _ ?_
 clear hz_
 rintro x H1 I1 r1 q1
 refine thn (hb s1 σ H1 _ I1 q1) fun u s2 hz_ => ?_
 refine Elim.el hz_ _ ?_
 clear hz_
 rintro y H2 I2 r2 q2
 exact hf v u s2 x y H2 I2 r1 r2 q2
theorem pe_op {op:Operator} {r:R2} (ho:OpR X (binaryOp op) r) (ha:PE X a ta) (hb:PE X b tb):PE X (.BinOp a op b pos) (tOp r ta tb):=by
 intro pins s σ H Q I h
 exact wpAny_BinOp (binT ha hb I h fun v u s2 x y H2 I2 rx ry q=>ho s2 σ H2 x y v u Q I2 rx ry q)
theorem pe_un {op:UnaryOp} {r:V→Hp→VK→Prop} (ho:UnR X (unaryOp op) r) (ha:PE X a ta):PE X (.UnaryOp op a pos) (tUn r ta):=by
 intro pins s σ H Q I h
 exact UnaryOp_ (thn (ha s σ H _ I h) fun v s1 hz_=>Elim.el hz_ _ fun x H1 I1 r1 q1=>ho s1 σ H1 x v Q I1 r1 q1)
theorem opI {f:Value→Value→Sem Value} {C:Int→Int→Prop} {g:Int→Int→Int}
  (rule:∀(i j:Int) (t u:Tok) (s:Shared) (Q:Value→Shared→Prop) (E:Value→Shared→Prop),C i j→Q (.int (g i j) s.toks) { s with toks:=s.toks+1 } → wpAny (model X.prog X.w) X.A (f (.int i t) (.int j u)) Q E s) :
  OpR X f (rI C fun i j => .int (g i j)):=by
 intro pins s σ H x y v u Q I rx ry h
 obtain ⟨i,j,rfl,rfl,hc,q⟩:=h
 obtain ⟨t,rfl⟩:=rx
 obtain ⟨t',rfl⟩:=ry
 exact rule i j t t' s _ _ hc ⟨.int (g i j),H,I.tok _,⟨_,rfl⟩,q⟩
theorem opI0 {f:Value→Value→Sem Value} {g:Int→Int→Int}
  (rule:∀(i j:Int) (t u:Tok) (s:Shared) (Q:Value→Shared→Prop) (E:Value→Shared→Prop),Q (.int (g i j) s.toks) { s with toks:=s.toks+1 } → wpAny (model X.prog X.w) X.A (f (.int i t) (.int j u)) Q E s) :
  OpR X f (rI0 fun i j => .int (g i j)):=by
 intro pins s σ H x y v u Q I rx ry h
 obtain ⟨i,j,rfl,rfl,q⟩:=h
 obtain ⟨t,rfl⟩:=rx
 obtain ⟨t',rfl⟩:=ry
 exact rule i j t t' s _ _ ⟨.int (g i j),H,I.tok _,⟨_,rfl⟩,q⟩
theorem opB0 {f:Value→Value→Sem Value} {g:Int→Int→Bool}
  (rule:∀(i j:Int) (t u:Tok) (s:Shared) (Q:Value→Shared→Prop) (E:Value→Shared→Prop),Q (.bool (g i j)) s→wpAny (model X.prog X.w) X.A (f (.int i t) (.int j u)) Q E s) :
  OpR X f (rI0 fun i j => .bl (g i j)):=by
 intro pins s σ H x y v u Q I rx ry h
 obtain ⟨i,j,rfl,rfl,q⟩:=h
 obtain ⟨t,rfl⟩:=rx
 obtain ⟨t',rfl⟩:=ry
 exact rule i j t t' s _ _ ⟨.bl (g i j),H,I,rfl,q⟩
def CDiv (i j:Int):Prop:=0<j∧j<1073741824
def CPow (i j:Int):Prop:=0≤j∧j≤1000000∧i.natAbs<2 ^ 64
def CMul (i j:Int):Prop:=(-(2 ^ 64)<i∧i<2 ^ 64)∨(-(2 ^ 64)<j∧j<2 ^ 64)
theorem CMul.ok {i j:Int} (h:CMul i j):IntMulOk i j:=by
 rcases h with ⟨h1,h2⟩|⟨h1,h2⟩
 ·exact .of_left (intBits_le_64 h1 h2)
 ·exact .of_right (intBits_le_64 h1 h2)
theorem op_add:OpR X (binaryOp .Add) (rI0 fun i j => .int (i+j)):=opI0 fun _ _ _ _ _ _ _ q=>add_int q
theorem op_sub:OpR X (binaryOp .Sub) (rI0 fun i j => .int (i-j)):=opI0 fun _ _ _ _ _ _ _ q=>sub_int q
theorem op_mul:OpR X (binaryOp .Mult) (rI CMul fun i j => .int (i*j)):=opI fun _ _ _ _ _ _ _ hc q=>mul_int q hc.ok
theorem op_fdiv:OpR X (binaryOp .FloorDiv) (rI CDiv fun i j => .int (i / j)):=opI fun i j _ _ _ _ _ hc q=>by
 have h1:(0:Int)<j:=hc.1
 have h2:j<1073741824:=hc.2
 exact floordiv_int (by omega) (by rw [Int.fdiv_eq_ediv_of_nonneg i (by omega)];exact q) (.inl (PyProof.noPylong_small (by omega)))
theorem op_mod:OpR X (binaryOp .Mod) (rI (fun _ j=>0<j) fun i j => .int (i % j)):=opI fun i j _ _ _ _ _ hc q=>by
 have h1:(0:Int)<j:=hc
 exact mod_int' (by omega) (by rw [Int.fmod_eq_emod_of_nonneg i (by omega)];exact q)
theorem op_pow:OpR X (binaryOp .Pow) (rI CPow fun i j => .int (i ^ j.toNat)):=opI fun _ _ _ _ _ _ _ hc q=>pow_int_small hc.1 hc.2.1 hc.2.2 q
theorem unI {f:Value→Sem Value} {g:Int→Int}
  (rule:∀(i:Int) (t:Tok) (s:Shared) (Q:Value→Shared→Prop) (E:Value→Shared→Prop),Q (.int (g i) s.toks) { s with toks:=s.toks+1 } → wpAny (model X.prog X.w) X.A (f (.int i t)) Q E s) :
  UnR X f (rU fun i => .int (g i)):=by
 intro pins s σ H x v Q I rx h
 obtain ⟨i,rfl,q⟩:=h
 obtain ⟨t,rfl⟩:=rx
 exact rule i t s _ _ ⟨.int (g i),H,I.tok _,⟨_,rfl⟩,q⟩
theorem un_neg:UnR X (unaryOp .USub) (rU fun i => .int (-i)):=unI fun _ _ _ _ _ q=>neg_int q
end
noncomputable def scal:V→V→Bool
 | .non, .non=>true | .non, .int _=>true | .int _, .non=>true | .non, .bl _=>true | .bl _, .non=>true | .non, .str _=>true | .str _, .non=>true
 | .int _, .int _=>true | .bl _, .bl _=>true | .str _, .str _=>true | .byt _, .byt _=>true
 | .int _, .str _=>true | .str _, .int _=>true | .bl _, .str _=>true | .str _, .bl _=>true
 | _,_=>false
def rEq:R2:=fun x y H Q=>scal x y=true∧Q (.bl (decide (x=y))) H
def rNe:R2:=fun x y H Q=>scal x y=true∧Q (.bl (!decide (x=y))) H
theorem dec_int {i j:Int} : decide (V.int i=V.int j)=(i == j):=by
 rw [Bool.eq_iff_iff]
 simp
theorem dec_bl {i j:Bool} : decide (V.bl i=V.bl j)=(i == j):=by
 rw [Bool.eq_iff_iff]
 simp
theorem dec_str {i j:Str} : decide (V.str i=V.str j)=(i == j):=by
 rw [Bool.eq_iff_iff]
 simp
theorem dec_byt {i j:Array UInt8} : decide (V.byt i=V.byt j)=(i.toList == j.toList):=by
 rw [Bool.eq_iff_iff]
 cases i
 cases j
 simp
section
variable {X:Cx} {a b c:Expr} {ta tb tc:TE} {pos:Pos}
theorem fin_bl {pins:List (Addr×Obj)} {σ:St} {H:Hp} {s:Shared} {Q:VK} {k k':Bool} (I:Inv X pins σ H s) (q:Q (.bl k) H) (e:k=k'):EP X pins σ Q (.bool k') s:=by
 subst e
 exact ⟨.bl k,H,I,rfl,q⟩
theorem op_eq:OpR X (compareOp .Eq) rEq:=by
 intro pins s σ H x y v u Q I rx ry h
 obtain ⟨hs,q⟩:=h
 cases x with
 | non=>
  cases rx
  cases y with
  | non=>cases ry;exact PySem.EqNone.eq_none_none (fin_bl I q (by simp))
  | bl j=>cases ry;exact PySem.EqNone.eq_none_bool (fin_bl I q (by simp))
  | int j=>obtain ⟨t',rfl⟩:=ry;exact PySem.EqNone.eq_none_int (fin_bl I q (by simp))
  | str j=>obtain ⟨t',rfl⟩:=ry;exact PySem.EqNone.eq_none_str (fin_bl I q (by simp))
  | _=>exact absurd (show false=true from hs) Bool.false_ne_true
 | bl i=>
  cases rx
  cases y with
  | non=>cases ry;exact PySem.EqNone.eq_bool_none (fin_bl I q (by simp))
  | bl j=>cases ry;exact eq_bool (fin_bl I q dec_bl)
  | str j=>obtain ⟨t',rfl⟩:=ry;exact PySem.EqMixed.eq_bool_str (fin_bl I q (by simp))
  | _=>exact absurd (show false=true from hs) Bool.false_ne_true
 | int i=>
  obtain ⟨t,rfl⟩:=rx
  cases y with
  | non=>cases ry;exact PySem.EqNone.eq_int_none (fin_bl I q (by simp))
  | int j=>obtain ⟨t',rfl⟩:=ry;exact eq_int (fin_bl I q dec_int)
  | str j=>obtain ⟨t',rfl⟩:=ry;exact PySem.EqMixed.eq_int_str (fin_bl I q (by simp))
  | _=>exact absurd (show false=true from hs) Bool.false_ne_true
 | str i=>
  obtain ⟨t,rfl⟩:=rx
  cases y with
  | non=>cases ry;exact PySem.EqNone.eq_str_none (fin_bl I q (by simp))
  | bl j=>cases ry;exact PySem.EqMixed.eq_str_bool (fin_bl I q (by simp))
  | int j=>obtain ⟨t',rfl⟩:=ry;exact PySem.EqMixed.eq_str_int (fin_bl I q (by simp))
  | str j=>obtain ⟨t',rfl⟩:=ry;exact eq_str (fin_bl I q dec_str)
  | _=>exact absurd (show false=true from hs) Bool.false_ne_true
 | byt i=>
  obtain ⟨t,rfl⟩:=rx
  cases y with
  | byt j=>obtain ⟨t',rfl⟩:=ry;exact PySem.W.eq_bytes (fin_bl I q dec_byt)
  | _=>exact absurd (show false=true from hs) Bool.false_ne_true
 | _=>cases y <;> exact absurd (show false=true from hs) Bool.false_ne_true
theorem op_ne:OpR X (compareOp .NotEq) rNe:=by
 intro pins s σ H x y v u Q I rx ry h
 obtain ⟨hs,q⟩:=h
 cases x with
 | non=>
  cases rx
  cases y with
  | non=>cases ry;exact PySem.EqNone.ne_none_none (fin_bl I q (by simp))
  | bl j=>cases ry;exact PySem.EqNone.ne_none_bool (fin_bl I q (by simp))
  | int j=>obtain ⟨t',rfl⟩:=ry;exact PySem.EqNone.ne_none_int (fin_bl I q (by simp))
  | str j=>obtain ⟨t',rfl⟩:=ry;exact PySem.EqNone.ne_none_str (fin_bl I q (by simp))
  | _=>exact absurd (show false=true from hs) Bool.false_ne_true
 | bl i=>
  cases rx
  cases y with
  | non=>cases ry;exact PySem.EqNone.ne_bool_none (fin_bl I q (by simp))
  | bl j=>cases ry;exact ne_bool (fin_bl I q (congrArg not dec_bl))
  | str j=>obtain ⟨t',rfl⟩:=ry;exact PySem.EqMixed.ne_bool_str (fin_bl I q (by simp))
  | _=>exact absurd (show false=true from hs) Bool.false_ne_true
 | int i=>
  obtain ⟨t,rfl⟩:=rx
  cases y with
  | non=>cases ry;exact PySem.EqNone.ne_int_none (fin_bl I q (by simp))
  | int j=>obtain ⟨t',rfl⟩:=ry;exact ne_int (fin_bl I q (congrArg not dec_int))
  | str j=>obtain ⟨t',rfl⟩:=ry;exact PySem.EqMixed.ne_int_str (fin_bl I q (by simp))
  | _=>exact absurd (show false=true from hs) Bool.false_ne_true
 | str i=>
  obtain ⟨t,rfl⟩:=rx
  cases y with
  | non=>cases ry;exact PySem.EqNone.ne_str_none (fin_bl I q (by simp))
  | bl j=>cases ry;exact PySem.EqMixed.ne_str_bool (fin_bl I q (by simp))
  | int j=>obtain ⟨t',rfl⟩:=ry;exact PySem.EqMixed.ne_str_int (fin_bl I q (by simp))
  | str j=>obtain ⟨t',rfl⟩:=ry;exact ne_str (fin_bl I q (congrArg not dec_str))
  | _=>exact absurd (show false=true from hs) Bool.false_ne_true
 | byt i=>
  obtain ⟨t,rfl⟩:=rx
  cases y with
  | byt j=>obtain ⟨t',rfl⟩:=ry;exact PySem.W.ne_bytes (fin_bl I q (congrArg not dec_byt))
  | _=>exact absurd (show false=true from hs) Bool.false_ne_true
 | _=>cases y <;> exact absurd (show false=true from hs) Bool.false_ne_true
theorem op_lt:OpR X (compareOp .Lt) (rI0 fun i j => .bl (decide (i<j))):=opB0 fun _ _ _ _ _ _ _ q=>lt_int q
theorem op_le:OpR X (compareOp .LtE) (rI0 fun i j => .bl (decide (i≤j))):=opB0 fun _ _ _ _ _ _ _ q=>le_int q
theorem op_gt:OpR X (compareOp .Gt) (rI0 fun i j => .bl (decide (j<i))):=opB0 fun _ _ _ _ _ _ _ q=>gt_int q
theorem op_ge:OpR X (compareOp .GtE) (rI0 fun i j => .bl (decide (j≤i))):=opB0 fun _ _ _ _ _ _ _ q=>ge_int q
theorem op_isN:OpR X (compareOp .Is) (fun x y H Q=>y = .non∧Q (.bl (decide (x = .non))) H):=by
 intro pins s σ H x y v u Q I rx ry h
 obtain ⟨rfl,q⟩:=h
 cases ry
 refine is_none_gen (fin_bl I q ?_)
 cases x <;> first
  | (cases rx;rfl)
  | (obtain ⟨t,rfl⟩:=rx;rfl)
theorem op_notN:OpR X (compareOp .IsNot) (fun x y H Q=>y = .non∧Q (.bl (!decide (x = .non))) H):=by
 intro pins s σ H x y v u Q I rx ry h
 obtain ⟨rfl,q⟩:=h
 cases ry
 refine isnot_none_gen (fin_bl I q ?_)
 cases x <;> first
  | (cases rx;rfl)
  | (obtain ⟨t,rfl⟩:=rx;rfl)
theorem OpR.or {f:Value→Value→Sem Value} {r r':R2} (h:OpR X f r) (h':OpR X f r'):OpR X f (fun x y H Q=>r x y H Q∨r' x y H Q):=by
 intro pins s σ H x y v u Q I rx ry q
 rcases q with q|q
 ·exact h s σ H x y v u Q I rx ry q
 ·exact h' s σ H x y v u Q I rx ry q
theorem nomark (b:Expr) {op:CmpOp} (h:op ≠ .In:=by decide) (h2:op ≠ .NotIn:=by decide):behindInMarks op b=false:=by
 have e1:(op == CmpOp.In)=false:=by cases op <;> first|rfl|exact absurd rfl h
 have e2:(op == CmpOp.NotIn)=false:=by cases op <;> first|rfl|exact absurd rfl h2
 cases b <;> simp [behindInMarks,e1,e2]
theorem pe_cmpR {op:CmpOp} {r:R2} (ho:OpR X (compareOp op) r) (ha:PE X a ta) (hb:PE X b tb) (hm:behindInMarks op b=false):PE X (.Compare a [op] [b] pos) (tOp r ta tb):=by
 intro pins s σ H Q I h
 exact wpAny_Compare1 (binT ha hb I h fun v u s2 x y H2 I2 rx ry q=>ho s2 σ H2 x y v u Q I2 rx ry q) hm
def tTest (t:TE):TT:=fun σ H Q=>t σ H fun x H'=>∃k,x = .bl k∧Q k H'
theorem pt_cmpR {op:CmpOp} {r:R2} (ho:OpR X (compareOp op) r) (ha:PE X a ta) (hb:PE X b tb) (hm:behindInMarks op b=false):PT X (.Compare a [op] [b] pos) (tTest (tOp r ta tb)):=by
 intro pins s σ H Q I h
 refine wpAny_isTrue_Compare1 (thn (ha s σ H _ I h) fun v s1 hz_=>Elim.el hz_ _ fun x H1 I1 r1 q1=>thn (hb s1 σ H1 _ I1 q1) fun u s2 ⟨y,H2,I2,r2,q2⟩=>
  thn (ho s2 σ H2 x y v u _ I2 r1 r2 q2) fun c s3 ⟨z,H3,I3,r3,k,e,q3⟩ => ?_) hm
 subst e
 cases r3
 exact wpAny_truthy_bool ⟨H3,I3,q3⟩
def tChain (r r':R2) (ta tb tc:TE):TE:=fun σ H Q=>ta σ H fun x H1=>tb σ H1 fun y H2=>r x y H2 fun z H3=>∃k,z = .bl k ∧
 (if k=true then tc σ H3 fun w' H4=>r' y w' H4 Q else Q (.bl false) H3)
theorem pe_chain {op op':CmpOp} {r r':R2} (ho:OpR X (compareOp op) r) (ho':OpR X (compareOp op') r') (ha:PE X a ta) (hb:PE X b tb) (hc:PE X c tc)
  (hm:lastMarks [op,op'] [b,c]=false:=by with_unfolding_all rfl):PE X (.Compare a [op,op'] [b,c] pos) (tChain r r' ta tb tc):=by
 intro pins s σ H Q I h
 refine Compare_chain (thn (ha s σ H _ I h) fun v s1 hz_=>Elim.el hz_ _ fun x H1 I1 r1 q1=>chain_link (thn (hb s1 σ H1 _ I1 q1) fun u s2 ⟨y,H2,I2,r2,q2⟩=>
  thn (ho s2 σ H2 x y v u _ I2 r1 r2 q2) fun d s3 ⟨z,H3,I3,r3,k,e,q3⟩ => ?_)) hm
 subst e
 cases r3
 refine wpAny_truthy_bool ?_
 cases k with
 | false=>exact ite_ff ⟨.bl false,H3,I3,rfl,q3⟩
 | true=>exact ite_tt (chain_last (thn (hc s3 σ H3 _ I3 q3) fun w' s4 hz_=>Elim.el hz_ _ fun z' H4 I4 r4 q4=>ho' s4 σ H4 y z' u w' Q I4 r2 r4 q4))
theorem pt_chain {op op':CmpOp} {r r':R2} (ho:OpR X (compareOp op) r) (ho':OpR X (compareOp op') r') (ha:PE X a ta) (hb:PE X b tb) (hc:PE X c tc)
  (hm:lastMarks [op,op'] [b,c]=false:=by with_unfolding_all rfl):PT X (.Compare a [op,op'] [b,c] pos) (tTest (tChain r r' ta tb tc)):=by
 intro pins s σ H Q I h
 refine isTrue_chain (thn (ha s σ H _ I h) fun v s1 hz_=>Elim.el hz_ _ fun x H1 I1 r1 q1=>test_link (thn (hb s1 σ H1 _ I1 q1) fun u s2 ⟨y,H2,I2,r2,q2⟩=>
  thn (ho s2 σ H2 x y v u _ I2 r1 r2 q2) fun d s3 ⟨z,H3,I3,r3,k,e,q3⟩ => ?_)) hm
 subst e
 cases r3
 refine wpAny_truthy_bool ?_
 cases k with
 | false=>
  obtain ⟨k',e',q'⟩:=q3
  cases e'
  exact ite_ff ⟨H3,I3,q'⟩
 | true=>
  refine ite_tt (test_last (thn (hc s3 σ H3 _ I3 q3) fun w' s4 hz_=>Elim.el hz_ _ fun z' H4 I4 r4 q4=>thn (ho' s4 σ H4 y z' u w' _ I4 r2 r4 q4) fun d' s5 hz_ => ?_))
  refine Elim.el hz_ _ ?_
  clear hz_
  rintro z2 H5 I5 r5 ⟨k2,e2,q5⟩
  subst e2
  cases r5
  exact wpAny_truthy_bool ⟨H5,I5,q5⟩
theorem line63:(sizeLine:Nat)<2 ^ 63:=by rw [sizeLine_eq];decide
theorem op_add_str:OpR X (binaryOp .Add) (fun x y H Q=>∃i j,x = .str i∧y = .str j∧i.length+j.length≤sizeLine∧Q (.str (i++j)) H):=by
 intro pins s σ H x y v u Q I rx ry h
 obtain ⟨i,j,rfl,rfl,hz,q⟩:=h
 obtain ⟨t,rfl⟩:=rx
 obtain ⟨t',rfl⟩:=ry
 exact add_str (fun t' tk=>⟨.str (i++j),H,I.tok _,⟨_,rfl⟩,q⟩) hz
theorem vals1 {x:V} {us:List Value} (r:Vals [x] us):∃u,us=[u]∧RelV x u:=by
 cases r with
 | cons r1 r2=>cases r2;exact ⟨_,rfl,r1⟩
theorem vals2 {x y:V} {us:List Value} (r:Vals [x,y] us):∃u w',us=[u,w']∧RelV x u∧RelV y w':=by
 cases r with
 | cons r1 r2=>
  cases r2 with
  | cons r3 r4=>cases r4;exact ⟨_,_,rfl,r1,r3⟩
theorem call_max2 (hc:X.calm=true):CallR X (.builtin "max") (fun xs H Q=>∃i j,xs=[.int i, .int j]∧Q (.int (if j>i then j else i)) H):=by
 intro pins s σ H xs us Q I r h
 obtain ⟨i,j,rfl,q⟩:=h
 obtain ⟨u,w',rfl,⟨t,rfl⟩,⟨t',rfl⟩⟩:=vals2 r
 refine max_two_ints (I.ok.hd hc) fun h' tk k=>⟨_,H,I.kept k,?_,q⟩
 by_cases hj:j>i
 ·rw [if_pos hj,if_pos hj];exact ⟨_,rfl⟩
 ·rw [if_neg hj,if_neg hj];exact ⟨_,rfl⟩
theorem call_min2 (hc:X.calm=true):CallR X (.builtin "min") (fun xs H Q=>∃i j,xs=[.int i, .int j]∧Q (.int (if j<i then j else i)) H):=by
 intro pins s σ H xs us Q I r h
 obtain ⟨i,j,rfl,q⟩:=h
 obtain ⟨u,w',rfl,⟨t,rfl⟩,⟨t',rfl⟩⟩:=vals2 r
 refine min_two_ints (I.ok.hd hc) fun h' tk k=>⟨_,H,I.kept k,?_,q⟩
 by_cases hj:j<i
 ·rw [if_pos hj,if_pos hj];exact ⟨_,rfl⟩
 ·rw [if_neg hj,if_neg hj];exact ⟨_,rfl⟩
def LenV (K:PySem.W.Frag) (x:V) (H:Hp) (n:Nat):Prop:=
 match x with
 | .str y=>y.length≤sizeLine∧n=y.length
 | .byt y=>y.size≤sizeLine∧n=y.size
 | .ref p=>(∃xs,SqL K H p xs∧n=xs.length)∨∃xs,SqT K H p xs∧n=xs.length
 | _=>False
theorem call_len:CallR X (.builtin "len") (fun xs H Q=>∃x n,xs=[x]∧LenV X.K x H n∧Q (.int n) H):=by
 intro pins s σ H xs us Q I r h
 obtain ⟨x,n,rfl,e,q⟩:=h
 obtain ⟨u,rfl,rx⟩:=vals1 r
 have hl:=line63
 have hs:sizeLine=16777216:=sizeLine_eq
 cases x with
 | str y=>
  obtain ⟨t,rfl⟩:=rx
  obtain ⟨hy,e'⟩:y.length≤sizeLine∧n=y.length:=e
  subst e'
  exact len_str (by omega) ⟨.int _,H,I.tok _,⟨_,rfl⟩,q⟩
 | byt y=>
  obtain ⟨t,rfl⟩:=rx
  obtain ⟨hy,e'⟩:y.size≤sizeLine∧n=y.size:=e
  subst e'
  exact PySem.W.len_bytes (by omega) ⟨.int _,H,I.tok _,⟨_,rfl⟩,q⟩
 | ref p=>
  cases rx
  have e':(∃xs,SqL X.K H p xs∧n=xs.length)∨∃xs,SqT X.K H p xs∧n=xs.length:=e
  rcases e' with ⟨xs,hx,e'⟩|⟨xs,hx,e'⟩
  ·subst e'
   obtain ⟨its,r',pl,hz⟩:=I.list hx
   have hlen:=r'.length
   exact Calls.call_len_list pl.isList (by simp only [List.size_toArray];omega) ⟨.int xs.length,H,I.tok _,⟨_,by simp only [List.size_toArray];rw [hlen]⟩,q⟩
  ·subst e'
   obtain ⟨its,r',pl,hz⟩:=I.tuple hx
   have hlen:=r'.length
   exact len_tuple pl (by simp only [List.size_toArray];omega) ⟨.int xs.length,H,I.tok _,⟨_,by simp only [List.size_toArray];rw [hlen]⟩,q⟩
 | _=>exact (show False from e).elim
theorem call_divmod:CallR X (.builtin "divmod") (fun xs H Q=>∃i j,xs=[.int i, .int j]∧CDiv i j∧∀p,H p=none→Q (.ref p) (upd H p (.tup [.int (i / j), .int (i % j)]))):=by
 intro pins s σ H xs us Q I r h
 obtain ⟨i,j,rfl,⟨h1,h2⟩,q⟩:=h
 obtain ⟨u,w',rfl,⟨t,rfl⟩,⟨t',rfl⟩⟩:=vals2 r
 refine divmod_int (by omega) ?_ (.inl (PyProof.noPylong_small (by omega)))
 rw [Int.fdiv_eq_ediv_of_nonneg i (by omega),Int.fmod_eq_emod_of_nonneg i (by omega)]
 have hn:H s.heap.objs.size=none:=I.hok.fresh (Nat.le_refl _)
 refine ⟨.ref s.heap.objs.size,_,?_,rfl,q _ hn⟩
 refine I.laid (fun b o e=>Heap.get?_push_of_some _ e) (Nat.le_refl _) ⟨by simp only [List.length_cons,List.length_nil];rw [sizeLine_eq];decide,[.int (i / j) s.toks, .int (i % j) (s.toks+1)], .cons ⟨_,rfl⟩ (.cons ⟨_,rfl⟩ .nil),?_⟩
 exact ⟨_,Heap.get?_push_size s.heap rfl,rfl,0,rfl⟩
end
end L2
namespace L2
open PySem PySem.Spec PyProof.Rows
structure ObjM (h:Heap) (x dx C:Addr) (mA:Str→Option Value):Prop where
 obj:h.get? x=some (PySem.W.instObj C dx)
 ns:h.Ns1 dx mA
 ne:dx≠x
theorem lookIn_ns {h:Heap} {dx:Addr} {mA:Str→Option Value} (n:h.Ns1 dx mA):∃od,h.get? dx=some od∧∀name,PySem.W.lookIn name od=some (mA name):=by
 obtain ⟨o,es,ep,ho,hd,hk,_,hm⟩:=n
 refine ⟨o,ho,fun name => ?_⟩
 have e:=hm name
 unfold nsFind findBy at e
 rw [←Array.find?_toList] at e
 unfold PySem.W.lookIn
 rw [hd]
 dsimp only
 split
 ·rename_i y q
  rw [q] at e
  exact congrArg some e
 ·rename_i q
  rw [q] at e
  have a:es.toList.any (·.refKey)=false:=by
   rw [List.any_eq_false]
   intro y hy
   obtain ⟨z,t,hkey⟩:=hk y (Array.mem_toList_iff.mp hy)
   simp [DictEntry.refKey,hkey]
  have a':¬es.toList.any (·.refKey)=true:=by rw [a];exact Bool.false_ne_true
  rw [if_neg a']
  exact congrArg some e
theorem ObjM.look {h:Heap} {x dx C:Addr} {mA:Str→Option Value} (I:ObjM h x dx C mA):∃od,PySem.W.InstAt h x (PySem.W.instObj C dx) C (some od)∧∀name,PySem.W.lookIn name od=some (mA name):=
 let ⟨od,ho,hl⟩:=lookIn_ns I.ns
 ⟨od,⟨I.obj,rfl,rfl,ho⟩,hl⟩
section
variable {prog:Program} {w:World} {A:Around} {E:Value→Shared→Prop} {s:Shared} {K:PySem.W.Frag} {x dx C f:Addr} {mA:Str→Option Value} {name:Str} {v:Value}
end
theorem RelO.some_of {v:V} {o:Option Value} (r:RelO (some v) o):∃u,o=some u∧RelV v u:=by
 cases o with
 | none=>exact (show False from r).elim
 | some u=>exact ⟨u,rfl,r⟩
section
variable {P:Program} {w:World} {H H':Hp} {h h':Heap} {a C dx:Addr} {fs fs':List (Str×V)}
theorem ins_get (hok:HOk P w H h) (e:H a=some (.ins C dx fs)):∃mA,ObjM h a dx C mA∧(∀f,RelO (fs.lookup f) (mA f))∧PySem.Within mA (fs.map (·.1))∧fs.length≤1000∧H dx=some (.own a):=by
 obtain ⟨d,z,ne,ob,mA,n,r,q⟩:=(show ObjOk P w H h a (.ins C dx fs) from hok a _ e)
 exact ⟨mA,⟨ob,n,ne⟩,r,q,z,d⟩
end
structure Cls (K:PySem.W.Frag) (C:Addr):Prop where
 pg:PySem.W.plainGet K C Str.empty=true
 hd:PySem.W.hasDictIn K C=true
 po:PySem.W.plainOver K C=true
 sa:PySem.W.findIn K (.ref C) "__setattr__" = some (some (.builtin "object.__setattr__"))
theorem Cls.get {K:PySem.W.Frag} {C:Addr} (c:Cls K C) (f:Str):PySem.W.plainGet K C f=true:=c.pg
section
variable {X:Cx} {pins:List (Addr×Obj)} {σ:St} {H:Hp} {s:Shared} {a C dx:Addr} {fs:List (Str×V)} {f:Str} {v:V} {A:Around} {E:Value→Shared→Prop}
theorem attr_of {prog:Program} {w:World} {env:Env} {e:Expr} {f:Str} {pos:Pos} {s:Shared} {Q:Value→Shared→Prop} (hb:attributeBase e f env (eval e env)=eval e env)
  (h:wpAny (model prog w) A (eval e env) (fun o s₁=>wpAny (model prog w) A (getAttr o f true) Q E s₁) E s):wpAny (model prog w) A (eval (.Attribute e f pos) env) Q E s:=
 Attribute_any_ h (by rw [arm_eval_Attribute,hb])
end
section
variable {X:Cx} {o e value:Expr} {f:Str} {pos pos' tpos:Pos} {ta tv:TE}
end
section
variable {X:Cx} {pins:List (Addr×Obj)} {σ:St} {H:Hp} {s:Shared} {A:Around} {E:Value→Shared→Prop} {Q:Value→Shared→Prop} {c:Value} {b:Bool}
inductive TyOf (K:PySem.W.Frag) (H:Hp):V→Value→Prop where
 | non:TyOf K H .non (.type "NoneType")
 | bl (x:Bool):TyOf K H (.bl x) (.type "bool")
 | int (i:Int):TyOf K H (.int i) (.type "int")
 | str (x:Str):TyOf K H (.str x) (.type "str")
 | flt (x:UInt64):TyOf K H (.flt x) (.type "float")
 | lst {a:Addr} {xs:List V} (e:H a=some (.lst xs)):TyOf K H (.ref a) (.type "list")
 | frz {a:Addr} {o:Obj} {xs:List V} (e:H a=some (.frz o (.lst xs))):TyOf K H (.ref a) (.type "list")
 | tup {a:Addr} {xs:List V} (e:H a=some (.tup xs)):TyOf K H (.ref a) (.type "tuple")
 | dK {a:Addr} {kvs:List (Key×V)} (e:H a=some (.dK kvs)):TyOf K H (.ref a) (.type "dict")
 | dT {a:Addr} {kvs:List (List Key×V)} (e:H a=some (.dT kvs)):TyOf K H (.ref a) (.type "dict")
 | ins {a C dx:Addr} {fs:List (Str×V)} (e:H a=some (.ins C dx fs)) (cl:Cls K C) (ha:PySem.W.findIn K (.ref C) "__class__" = some (some (.builtin "object.__class__")))
   (hn:PySem.W.specialIn K (.builtin "object.__class__") "__get__" = some (some (.builtin "getset_descriptor.__get__"))) (htk:PySem.W.takesIn K (.builtin "object.__class__")=some true)
   (hm:PySem.W.mroIn K C (.type "object")=some true):TyOf K H (.ref a) (.ref C)
theorem isinst_ok {x:V} {u t:Value} (I:Inv X pins σ H s) (rx:RelV x u) (ty:TyOf X.K H x t) (e:PySem.W.kitOne X.K t c=some b) (h:∀tk,Q (.bool b) { s with toks:=tk }) :
  wpAny (model X.prog X.w) A (call (.builtin "isinstance") [u,c]) Q E s:=by
 cases ty with
 | non=>cases (show u=Value.none from rx);exact PySem.W.kia_one PySem.W.kitx_none I.kIn True.intro e (fun z=>nomatch z) h
 | bl y=>cases (show u=Value.bool y from rx);exact PySem.W.kia_one PySem.W.kitx_bool I.kIn True.intro e (fun z=>nomatch z) h
 | int i=>obtain ⟨t,q⟩:=(show ∃t,u=Value.int i t from rx);cases q;exact PySem.W.kia_one PySem.W.kitx_int I.kIn True.intro e (fun z=>nomatch z) h
 | str y=>obtain ⟨t,q⟩:=(show ∃t,u=Value.str y t from rx);cases q;exact PySem.W.kia_one PySem.W.kitx_str I.kIn True.intro e (fun z=>nomatch z) h
 | flt y=>obtain ⟨t,q⟩:=(show ∃t,u=Value.float y t from rx);cases q;exact PySem.W.kia_one PySem.W.kitx_float I.kIn True.intro e (fun z=>nomatch z) h
 | @lst a xs ea=>
  cases (show u=Value.ref a from rx)
  obtain ⟨_,_,n,_,h1⟩:=(show ObjOk X.prog X.w H s.heap a (.lst xs) from I.hok a _ ea)
  exact PySem.W.kia_one PySem.W.kitx_list I.kIn ⟨_,h1,rfl⟩ e (fun z=>nomatch z) h
 | @frz a ob xs ea=>
  cases (show u=Value.ref a from rx)
  obtain ⟨_,_,_,n,_,h1⟩:=(show ObjOk X.prog X.w H s.heap a (.frz ob (.lst xs)) from I.hok a _ ea)
  exact PySem.W.kia_one PySem.W.kitx_list I.kIn ⟨_,h1,rfl⟩ e (fun z=>nomatch z) h
 | @tup a xs ea=>
  cases (show u=Value.ref a from rx)
  obtain ⟨_,_,_,p⟩:=(show ObjOk X.prog X.w H s.heap a (.tup xs) from I.hok a _ ea)
  obtain ⟨o,h1,h2,_⟩:=p
  exact PySem.W.kia_one PySem.W.kitx_tuple I.kIn ⟨o,h1,h2⟩ e (fun z=>nomatch z) h
 | @dK a kvs ea=>
  cases (show u=Value.ref a from rx)
  obtain ⟨_,_,vs,_,p⟩:=(show ObjOk X.prog X.w H s.heap a (.dK kvs) from I.hok a _ ea)
  obtain ⟨o,es,ep,h1,h2,_⟩:=p
  exact PySem.W.kia_one PySem.W.kitx_dict I.kIn ⟨o,h1,h2.1⟩ e (fun z=>nomatch z) h
 | @dT a kvs ea=>
  cases (show u=Value.ref a from rx)
  obtain ⟨_,_,xs,_,o,es,ep,h1,h2,_⟩:=(show ObjOk X.prog X.w H s.heap a (.dT kvs) from I.hok a _ ea)
  exact PySem.W.kia_one PySem.W.kitx_dict I.kIn ⟨o,h1,h2.1⟩ e (fun z=>nomatch z) h
 | @ins a C dx fs ea cl ha hn htk hm=>
  cases (show u=Value.ref a from rx)
  obtain ⟨mA,O,_⟩:=ins_get I.hok ea
  obtain ⟨od,J,_⟩:=O.look
  exact PySem.W.kia_one (PySem.W.kitx_own (cl.get _) cl.hd ha hn htk hm) I.kIn J e (fun z=>nomatch z) h
end
end L2
namespace L2
open PySem PySem.Spec PyProof.Rows
structure Room (k:Nat) (A:Around):Prop where
 hd:A.handled=none
 dp:A.depth+3*k+5<recursionLimit
 un:A.units+16*k+200<cLine
 gd:A.guards=some []
theorem Room.mono {j k:Nat} {A:Around} (r:Room k A) (h:j≤k):Room j A:=⟨r.hd,by have:=r.dp;omega,by have:=r.un;omega,r.gd⟩
theorem Room.deeper {k:Nat} {A:Around} (r:Room (k+1) A) (env:Env):Room k (A.deeper env):=
 ⟨r.hd,by have:=r.dp;show A.depth+1+3*k+5<_;omega,by have:=r.un;show A.units+3+16*k+200<_;omega,r.gd⟩
theorem make_depth {A:Around} {C:Addr} {us:List Value} {kw:List (Str×Value)} : (A.under (.builtin "type.__call__" ⟨.ref C :: us,kw⟩)).depth=A.depth+1:=by
 first|rfl|simp [Around.under,Code.weight,Code.isCreation,Code.isGuard,Code.isCaller,Code.frames,Code.isFrame,guardIds]
theorem make_units {A:Around} {C:Addr} {us:List Value} {kw:List (Str×Value)} : (A.under (.builtin "type.__call__" ⟨.ref C :: us,kw⟩)).units=A.units+1:=by
 first|rfl|simp [Around.under,Code.cUnits,Code.frames,Code.isFrame]
theorem make_guards {A:Around} {C:Addr} {us:List Value} {kw:List (Str×Value)} : (A.under (.builtin "type.__call__" ⟨.ref C :: us,kw⟩)).guards=A.guards:=by
 first|rfl|simp [Around.under,Code.guards,Code.isGuard,guardIds,pushGuards]
theorem Room.make {k:Nat} {A:Around} (r:Room (k+1) A) (C:Addr) (us:List Value) (kw:List (Str×Value)):Room k (A.under (.builtin "type.__call__" ⟨.ref C :: us,kw⟩)):=
 ⟨r.hd,by have:=r.dp;rw [make_depth];omega,by have:=r.un;rw [make_units];omega,by rw [make_guards];exact r.gd⟩
theorem Room.depth {k:Nat} {A:Around} (r:Room k A):A.depth<recursionLimit:=by have:=r.dp;omega
theorem Room.units {k:Nat} {A:Around} (r:Room k A):A.units+64<cLine:=by have:=r.un;omega
noncomputable def tNil:TA:=fun _ H Q=>Q [] H
noncomputable def tCons (ta:TE) (tr:TA):TA:=fun σ H Q=>ta σ H fun x H1=>tr σ H1 fun xs H2=>Q (x :: xs) H2
section
variable {X:Cx} {e:Expr} {es:List Expr} {te:TE} {t:TA} {pos:Pos}
theorem pa_nil:PA X [] tNil:=fun _ _ _ _ H Q I h=>Calls.spliced_nil ⟨[],H,I, .nil,h⟩
theorem pa_cons (ha:PE X e te) (hr:PA X es t) (hs:starEach (e :: es) X.env=(false,eval e X.env) :: starEach es X.env:=by rfl):PA X (e :: es) (tCons te t):=by
 intro pos pins s σ H Q I h
 rw [hs]
 show wpAny _ _ (spliced ((false,eval e X.env) :: backTo pos (starEach es X.env))) _ _ s
 refine Calls.spliced_cons (thn (ha s σ H _ I h) fun u s1 hz_ => ?_)
 refine Elim.el hz_ _ ?_
 clear hz_
 rintro x H1 I1 r1 q1
 exact thn (hr s1 σ H1 _ I1 q1) fun us s2 hz_=>Elim.el hz_ _ fun xs H2 I2 r2 q2=>⟨x :: xs,H2,I2, .cons r1 r2,q2⟩
def tTup (t:TA):TE:=fun σ H Q=>t σ H fun xs H1=>xs.length≤sizeLine∧∀p,H1 p=none→Q (.ref p) (upd H1 p (.tup xs))
def tLst (t:TA):TE:=fun σ H Q=>t σ H fun xs H1=>xs.length≤sizeLine∧∀p,H1 p=none→Q (.ref p) (upd H1 p (.lst xs))
theorem pe_tup {x1} (h:PA X es t):PE X (.Tuple es x1 pos) (tTup t):=by
 intro pins s σ H Q I hq
 refine wpAny_Tuple_spliced (thn (h s σ H _ I hq) fun us s1 ⟨xs,H1,I1,r,z,q⟩=>⟨by rw [←r.length];exact z,?_⟩)
 have hf:H1 s1.heap.objs.size=none:=I1.hok.fresh (Nat.le_refl _)
 refine ⟨.ref s1.heap.objs.size,upd H1 s1.heap.objs.size (.tup xs),I1.laid (t':=s1.toks) (fun b u e=>Heap.get?_push_of_some _ e) (Nat.le_refl _) ?_,rfl,q _ hf⟩
 exact ⟨z,us,r,⟨_,Heap.get?_push_size _ rfl,rfl,_,rfl⟩⟩
theorem pe_lst (h:PA X es t):PE X (.List es pos) (tLst t):=by
 intro pins s σ H Q I hq
 refine wpAny_List_spliced (thn (h s σ H _ I hq) fun us s1 ⟨xs,H1,I1,r,z,q⟩=>⟨by rw [←r.length];exact z,?_⟩)
 have hf:H1 s1.heap.objs.size=none:=I1.hok.fresh (Nat.le_refl _)
 refine ⟨.ref s1.heap.objs.size,upd H1 s1.heap.objs.size (.lst xs),I1.laid (t':=s1.toks) (fun b u e=>Heap.get?_push_of_some _ e) (Nat.le_refl _) ?_,rfl,q _ hf⟩
 exact ⟨z,us,0,r,Heap.get?_push_size _ rfl⟩
end
abbrev Sp:=List V→Hp→VK→XK→Prop
abbrev CXT:=List Env→Hp→Shared→XK→Value→Shared→Prop
structure Env0 (P:Program) (w:World) (K:PySem.W.Frag) (mg:Str→Option Value) (base:Heap) (A:Around) (outer:List Env) (s:Shared) (H:Hp):Prop where
 frames:A.frames=some outer
 mod:Mod K mg base
 bs:∀b o,base.get? b=some o→s.heap.get? b=some o∧H b=none
 bsz:base.objs.size≤s.heap.objs.size
 funs:s.heap.FunFrames base outer
 frf:∀b∈frs outer,H b=none
 hok:HOk P w H s.heap
 bare:AllBare s.gens
def CE (outer:List Env) (P:Program) (w:World) (H:Hp) (s:Shared) (Q:VK) (u:Value) (s':Shared):Prop:=
 Ex2 fun v H'=>s'.os=s.os∧AllBare s'.gens∧Un (frs outer) [] H H' s.heap s'.heap∧HOk P w H' s'.heap∧RelV v u∧Q v H'
def CR (CX:CXT) (outer:List Env) (P:Program) (w:World) (H:Hp) (s:Shared) (Q:VK) (E:XK) (r:Result) (s':Shared):Prop:=
 match r with
 | .ok (.ret u)=>CE outer P w H s Q u s'
 | .ok _=>False
 | .error e=>CX outer H s E e s'
structure FnOk (P:Program) (w:World) (K:PySem.W.Frag) (mg:Str→Option Value) (base:Heap) (CX:CXT) (k:Nat) (f:Addr) (fd:FuncData) (ps:List Str) (sp:Sp):Prop where
 len:∀vs H Q E,sp vs H Q E→vs.length=ps.length
 run:∀(A:Around) (outer:List Env) (s:Shared) (H:Hp) (args:Args) (us:List Value) (vs:List V) (Q:VK) (E:XK),Room k A→Env0 P w K mg base A outer s H→BindsTo s fd args (ps.zip us)→Vals vs us→sp vs H Q E →
  codeAny (model P w) A (.call (.ref f) args) (CR CX outer P w H s Q E) s
theorem FnOk.mono {P:Program} {w:World} {K:PySem.W.Frag} {mg:Str→Option Value} {base:Heap} {CX:CXT} {j k:Nat} {f:Addr} {fd:FuncData} {ps:List Str} {sp:Sp} (F:FnOk P w K mg base CX j f fd ps sp) (h:j≤k) :
  FnOk P w K mg base CX k f fd ps sp:=⟨F.len,fun A outer s H args us vs Q E hr=>F.run A outer s H args us vs Q E (hr.mono h)⟩
theorem FnOk.imp {P:Program} {w:World} {K:PySem.W.Frag} {mg:Str→Option Value} {base:Heap} {CX:CXT} {k:Nat} {f:Addr} {fd:FuncData} {ps:List Str} {sp sp':Sp} (F:FnOk P w K mg base CX k f fd ps sp)
  (h:∀vs H Q E,sp' vs H Q E→sp vs H Q E):FnOk P w K mg base CX k f fd ps sp':=
 ⟨fun vs H Q E q=>F.len vs H Q E (h _ _ _ _ q),fun A outer s H args us vs Q E hr he hb hv hs=>F.run A outer s H args us vs Q E hr he hb hv (h _ _ _ _ hs)⟩
theorem Env0.make {P:Program} {w:World} {K:PySem.W.Frag} {mg:Str→Option Value} {base:Heap} {A:Around} {outer:List Env} {s:Shared} {H:Hp} (e:Env0 P w K mg base A outer s H) (C:Addr) (us:List Value) (kw:List (Str×Value)) :
  Env0 P w K mg base (A.under (.builtin "type.__call__" ⟨.ref C :: us,kw⟩)) outer s H:=⟨by first|exact e.frames|(simpa [Around.under,Code.envs,Code.isFrame,pushEnvs] using e.frames),e.mod,e.bs,e.bsz,e.funs,e.frf,e.hok,e.bare⟩
section
variable {X:Cx} {pins:List (Addr×Obj)} {σ:St} {H:Hp} {s s':Shared}
theorem Inv.env0 (I:Inv X pins σ H s):Env0 X.prog X.w X.K X.mg X.base X.A X.stack s H:=
 ⟨I.ok.frames,I.ok.mod,I.bs,Nat.le_trans I.ok.bsz I.sz,I.stack,I.stkFree,I.hok,I.bare⟩
theorem Inv.after {Q:VK} {u:Value} (I:Inv X pins σ H s) (h:CE X.stack X.prog X.w H s Q u s'):EP X pins σ Q u s':=by
 obtain ⟨v,H',os,bare,un,hok,r,q⟩:=h
 obtain ⟨hh,g,d,t,os'⟩:=s'
 obtain rfl:os'=s.os:=os
 exact ⟨v,H',I.call (h':=hh) (g':=g) (d':=d) (t':=t) (ch:=[]) un hok bare (fun b z=>absurd z (by simp)),r,q⟩
end
def tCall (sp:Sp) (dvs:List V) (E:XK) (t:TA):TE:=fun σ H Q=>t σ H fun vs H1=>sp (vs++dvs) H1 Q E
def Binds (K:PySem.W.Frag) (fd:FuncData) (ps:List Str) (ds:List Value):Prop:=
 ∀(s:Shared) (us:List Value),K.In s.heap→(us++ds).length=ps.length→BindsTo s fd ⟨us,[]⟩ (ps.zip (us++ds))
theorem Binds.all {K:PySem.W.Frag} {fd:FuncData} {ps:List Str} (h:∀us:List Value,us.length=ps.length→bindArgs fd ⟨us,[]⟩=pure (ps.zip us)):Binds K fd ps []:=fun s us _ hl=>by
 rw [List.append_nil] at hl ⊢
 exact .of_eq (h us hl)
def Passes (CX:CXT) (X:Cx) (E:XK):Prop:=∀(pins:List (Addr×Obj)) (σ:St) (H:Hp) (s:Shared) (e:Value) (s':Shared),Inv X pins σ H s→CX X.stack H s E e s'→X.xe e s'
section
variable {X:Cx} {CX:CXT} {k:Nat} {f C:Addr} {fd:FuncData} {ps:List Str} {sp:Sp} {dvs:List V} {ds:List Value} {E:XK} {x m:Str} {p pos apos:Pos} {e o:Expr} {es:List Expr} {ta:TE} {t:TA}
theorem run_fn {pins:List (Addr×Obj)} {σ:St} {H:Hp} {s:Shared} {Q:VK} {us:List Value} {vs:List V} (F:FnOk X.prog X.w X.K X.mg X.base CX k f fd ps sp) (hr:Room k X.A) (hb:Binds X.K fd ps ds) (hd:Vals dvs ds) (hx:Passes CX X E)
  (I:Inv X pins σ H s) (r:Vals vs us) (h:sp (vs++dvs) H Q E):wpAny (model X.prog X.w) X.A (call (.ref f) us) (EP X pins σ Q) X.xe s:=by
 have r2:Vals (vs++dvs) (us++ds):=r.append hd
 have hl:(us++ds).length=ps.length:=by rw [←r2.length];exact F.len _ _ _ _ h
 refine wpAny_call (codeAny_mono (F.run X.A X.stack s H ⟨us,[]⟩ (us++ds) (vs++dvs) Q E hr I.env0 (hb s us I.kIn hl) r2 h) fun r s' hq => ?_)
 cases r with
 | error e=>exact hx pins σ H s e s' I hq
 | ok fl=>
  cases fl with
  | ret u=>exact I.after hq
  | next=>exact False.elim hq
  | brk=>exact False.elim hq
  | cont=>exact False.elim hq
theorem pe_call (F:FnOk X.prog X.w X.K X.mg X.base CX k f fd ps sp) (hr:Room k X.A) (hg:Gl X x) (hm:X.mg x=some (.ref f)) (hk:PySem.W.keepIn X.K (.ref f)=true) (hb:Binds X.K fd ps ds) (hd:Vals dvs ds) (hx:Passes CX X E)
  (ha:PA X (e :: es) t) (hdb:(x == ("__debug__" : Str))=false:=by decide) (he:starEach (e :: es) X.env=(false,eval e X.env) :: starEach es X.env:=by rfl) (hpl:(backTo pos (starEach es X.env)).any (·.1)=false:=by rfl) :
  PE X (.Call (.Name x p) (e :: es) [] pos) (tCall sp dvs E t):=by
 intro pins s σ H Q I h
 refine wpAny_Call_Name_kw (ld_glob I hg hm ?_ hdb)
 refine PySem.W.callWith_K (h₀:=X.base) I.ok.mod.kin hk (thn (ha s σ H _ I h) fun us s1 hz_=>Elim.el hz_ _ fun vs H1 I1 r q=>⟨I1.kIn,?_⟩) he hpl
 exact run_fn F hr hb hd hx I1 r q
theorem pe_call0 (F:FnOk X.prog X.w X.K X.mg X.base CX k f fd ps sp) (hr:Room k X.A) (hg:Gl X x) (hm:X.mg x=some (.ref f)) (hk:PySem.W.keepIn X.K (.ref f)=true) (hb:Binds X.K fd ps ds) (hd:Vals dvs ds) (hx:Passes CX X E)
  (hdb:(x == ("__debug__" : Str))=false:=by decide):PE X (.Call (.Name x p) [] [] pos) (tCall sp dvs E tNil):=by
 intro pins s σ H Q I h
 refine wpAny_Call_Name_kw (ld_glob I hg hm ?_ hdb)
 exact PySem.W.callWith_K0 I.kIn hk (run_fn (us:=[]) F hr hb hd hx I .nil h)
end
section
variable {X:Cx} {CX:CXT} {k:Nat} {f C:Addr} {fd:FuncData} {ps ks:List Str} {sp:Sp} {E:XK} {x m:Str} {p pos apos kpos:Pos} {e o:Expr} {es:List Expr} {kws:List Keyword} {te ta:TE} {t tk:TA} {nm:Option Str}
variable {g:List Value→List Value→List Value} {gV:List V→List V→List V}
end
structure FnScope (N P:List Str) (sc:Scope):Prop where
 kind:sc.kind = .function
 co:sc.isCoroutine=false
 gen:sc.isGenerator=false
 nd:N.Nodup
 pre:N.take P.length=P
 par:∀x∈P,sc.names.lookup x=some .local∨sc.names.lookup x=some .cell
 nofree:∀y∈sc.names,y.2 ≠ .free
theorem bindL_out {kindOf:Str→Option NameKind} {x:Str} : ∀{binds:List (Str×Value)} {m:Str→Option Value},(∀v,(x,v) ∉ binds)→bindL kindOf binds m x=m x
 | [],_,_=>rfl
 | (n,v) :: r,m,h=>by
  unfold bindL
  rw [bindL_out fun w hw=>h w (List.mem_cons_of_mem _ hw)]
  split
  ·have:x≠n:=by rintro rfl;exact h v List.mem_cons_self
   simp [this]
  ·rfl
theorem bindC_out {kindOf:Str→Option NameKind} {x:Str} : ∀{binds:List (Str×Value)} {m:Str→Option Value},(∀v,(x,v) ∉ binds)→bindC kindOf binds m x=m x
 | [],_,_=>rfl
 | (n,v) :: r,m,h=>by
  unfold bindC
  rw [bindC_out fun w hw=>h w (List.mem_cons_of_mem _ hw)]
  split
  ·rfl
  ·have:x≠n:=by rintro rfl;exact h v List.mem_cons_self
   simp [this]
theorem bindL_get {kindOf:Str→Option NameKind} {x:Str} {v:Value} : ∀{P:List Str} {vs:List Value} {i:Nat} {m:Str→Option Value},P.Nodup→P[i]? = some x→vs[i]? = some v→kindOf x=some .local →
  bindL kindOf (P.zip vs) m x=some v
 | [],_,_,_,_,h,_,_=>by simp at h
 | _ :: _,[],_,_,_,_,h,_=>by simp at h
 | p :: P,w :: vs,0,m,nd,h1,h2,hk=>by
  simp at h1 h2;subst h1;subst h2
  show bindL kindOf ((p,w) :: P.zip vs) m p=_
  unfold bindL
  rw [bindL_out fun v hv=>(List.nodup_cons.mp nd).1 (List.of_mem_zip hv).1,if_pos hk]
  simp
 | p :: P,w :: vs,i+1,m,nd,h1,h2,hk=>by
  show bindL kindOf ((p,w) :: P.zip vs) m x=_
  unfold bindL
  exact bindL_get (i:=i) (List.nodup_cons.mp nd).2 (by simpa using h1) (by simpa using h2) hk
theorem bindC_get {kindOf:Str→Option NameKind} {x:Str} {v:Value} : ∀{P:List Str} {vs:List Value} {i:Nat} {m:Str→Option Value},P.Nodup→P[i]? = some x→vs[i]? = some v→kindOf x≠some .local →
  bindC kindOf (P.zip vs) m x=some v
 | [],_,_,_,_,h,_,_=>by simp at h
 | _ :: _,[],_,_,_,_,h,_=>by simp at h
 | p :: P,w :: vs,0,m,nd,h1,h2,hk=>by
  simp at h1 h2;subst h1;subst h2
  show bindC kindOf ((p,w) :: P.zip vs) m p=_
  unfold bindC
  rw [bindC_out fun v hv=>(List.nodup_cons.mp nd).1 (List.of_mem_zip hv).1,if_neg hk]
  simp
 | p :: P,w :: vs,i+1,m,nd,h1,h2,hk=>by
  show bindC kindOf ((p,w) :: P.zip vs) m x=_
  unfold bindC
  exact bindC_get (i:=i) (List.nodup_cons.mp nd).2 (by simpa using h1) (by simpa using h2) hk
noncomputable def start (N:List Str) (vs:List V):St:=vs.map some++List.replicate (N.length-vs.length) none
noncomputable def cxOf (CX:CXT) (P:Program) (w:World) (K:PySem.W.Frag) (mg:Str→Option Value) (base:Heap) (N:List Str) (qual:Str) (scope:Scope) (f:Addr) (cd:Value) (A:Around) (outer:List Env) (s:Shared) (H:Hp) (E:XK):Cx where
 prog:=P
 w:=w
 K:=K
 mg:=mg
 base:=base
 A:=A.deeper (envOfC qual scope s.heap.objs.size f cd)
 N:=N
 s₀:=s
 H₀:=H
 env:=envOfC qual scope s.heap.objs.size f cd
 outer:=outer
 stack:=envOfC qual scope s.heap.objs.size f cd :: outer
 ex:=[]
 calm:=true
 fn:=fun _=>true
 pn:=[]
 xe:=fun e s'=>wpAny (model P w) (A.deeper (envOfC qual scope s.heap.objs.size f cd)) (leaving (envOfC qual scope s.heap.objs.size f cd) e) (fun _ s''=>CX outer H s E e s'') (fun e' s''=>CX outer H s E e' s'') s'
theorem cell_has {sc:Scope} {n:Nat} {x:Str} (h:sc.names.lookup x=some .cell):∃c,(cellsFrom n sc.names []).lookup x=some c:=by
 have q:=PySem.W.cellsFrom_some sc.names n [] (.inl h)
 exact Option.isSome_iff_exists.mp q
theorem inv_start {CX:CXT} {P:Program} {w:World} {K:PySem.W.Frag} {mg:Str→Option Value} {base:Heap} {N ps:List Str} {qual:Str} {scope:Scope} {f:Addr} {cd:Value} {A:Around} {outer:List Env} {s s1:Shared} {H:Hp} {E:XK} {us:List Value} {vs:List V}
  (S:FnScope N ps scope) (hd:A.handled=none) (e0:Env0 P w K mg base A outer s H) (hl:vs.length=ps.length) (r:Vals vs us)
  (x:InCallC s s.heap.objs.size (bindL (envOfC qual scope s.heap.objs.size f cd).kindOf (ps.zip us) fun _=>none) (cellsFrom (s.heap.objs.size+1) scope.names []) (bindC (envOfC qual scope s.heap.objs.size f cd).kindOf (ps.zip us) fun _=>none) s1) :
  Inv (cxOf CX P w K mg base N qual scope f cd A outer s H E) [] (start N vs) H s1:=by
 have hpl:ps.length≤N.length:=by have:=congrArg List.length S.pre;rw [List.length_take] at this;omega
 obtain ⟨h1,tk,rfl,hk⟩:=x.done
 have noA:∀b:Addr,b ∉ (cxOf CX P w K mg base N qual scope f cd A outer s H E).ex:=fun b z=>absurd (show b∈([]:List Addr) from z) (by simp)
 refine ⟨⟨e0.mod,S.kind,rfl,rfl,Nat.le_refl _,fun y z c h1 h2 => ?_,fun y hy => ?_,fun y c _ h => ?_,fun _=>hd,Around.frames_deeper e0.frames, .inr ⟨rfl,rfl⟩,fun b z=>absurd z (noA b),e0.bs,e0.bsz,fun b _ _=>noA b,fun b z=>absurd z (noA b),e0.funs,e0.frf⟩,
  rfl,e0.bare,Un.kept hk,⟨_,x.toInCall.ns,fun i y v h1 h2 h3 => ?_⟩,fun y c h=>⟨_,x.cell y c h⟩,e0.hok.fresh (Nat.le_refl _),fun y c h => ?_,fun p hp=>absurd (show p∈([]:List (Addr×Obj)) from hp) (by simp),e0.hok.kept hk,?_⟩
 ·exact name_of_addr x.apart (PySem.mem_of_lookup h1) (PySem.mem_of_lookup h2)
 ·have hy:scope.names.lookup y=some .cell∨scope.names.lookup y=some .free:=hy
  rcases hy with hy|hy
  ·exact cell_has hy
  ·exact absurd rfl (S.nofree _ (PySem.mem_of_lookup hy))
 ·exact Nat.le_of_lt (x.above y c (PySem.mem_of_lookup h))
 ·have hi:i<vs.length:=by
   unfold start at h2
   by_cases hi:i<vs.length
   ·exact hi
   ·rw [List.getElem?_append_right (by simpa using hi)] at h2
    rw [List.getElem?_replicate] at h2
    split at h2 <;> cases h2
  have ha:vs[i]? = some v:=by
   unfold start at h2
   rw [List.getElem?_append_left (by simpa using hi),List.getElem?_map] at h2
   cases e:vs[i]? with
   | none=>rw [e] at h2;cases h2
   | some a=>rw [e] at h2;cases h2;rfl
  obtain ⟨u,hu,rv⟩:=r.get ha
  have hp:ps[i]? = some y:=by
   rw [←S.pre,List.getElem?_take_of_lt (by omega)];exact h1
  have ndP:ps.Nodup:=by rw [←S.pre];exact S.nd.sublist (List.take_sublist _ _)
  refine ⟨u,rv,?_⟩
  rcases S.par y (List.mem_of_getElem? hp) with k|k
  ·exact .inl ⟨k,bindL_get ndP hp hu k⟩
  ·obtain ⟨c,e⟩:=cell_has (n:=s.heap.objs.size+1) k
   refine .inr ⟨.inl k,c,e,?_⟩
   have q:=x.cell y c e
   rw [bindC_get ndP hp hu (by show scope.names.lookup y≠_;rw [k];decide)] at q
   exact q
 ·exact e0.hok.fresh (Nat.le_of_lt (x.above y c (PySem.mem_of_lookup h)))
 ·unfold start
  show _=N.length
  rw [List.length_append,List.length_map,List.length_replicate]
  omega
theorem fn_of {CX:CXT} {P:Program} {w:World} {K:PySem.W.Frag} {mg:Str→Option Value} {base:Heap} {k:Nat} {f:Addr} {name qual:Str} {params:Arguments} {body:List Stmt} {scope:Scope} {dV kV doc pm cdv ct oc:Value} {an od:Option Addr}
  {osl:Array (Option Value)} {N ps:List Str} {sp:Sp} (lk:K.lookup f=some ⟨oc,od, .func (PySem.W.fnOf name qual params body scope dV kV doc pm an cdv ct),osl⟩) (hcd:PySem.W.codeIn K cdv qual=true) (S:FnScope N ps scope)
  (len:∀vs H Q E,sp vs H Q E→vs.length=ps.length)
  (hbody:∀(A:Around) (outer:List Env) (s:Shared) (H:Hp) (vs:List V) (Q:VK) (E:XK),Room k (A.deeper (envOfC qual scope s.heap.objs.size f cdv))→sp vs H Q E →
   ∃t,PSs (cxOf CX P w K mg base N qual scope f cdv A outer s H E) body t∧t { nx:=fun _ H'=>Q .non H',rt:=Q } (start N vs) H) :
  FnOk P w K mg base CX (k+1) f (PySem.W.fnOf name qual params body scope dV kV doc pm an cdv ct) ps sp:=by
 refine ⟨len,fun A outer s H args us vs Q E hr e0 hb r hsp => ?_⟩
 have hl:=len _ _ _ _ hsp
 have KX:K.In s.heap:=e0.mod.kin.keeps fun b o e=>(e0.bs b o e).1
 have lim:s.heap.NoLimit:=e0.mod.nolimit.keeps fun b o e=>(e0.bs b o e).1
 have hkind:∀y∈ps.zip us,scope.names.lookup y.1=some .local∨(scope.names.lookup y.1=some .cell∧((cellsFrom (s.heap.objs.size+1) scope.names []).lookup y.1).isSome=true):=fun ⟨n,v⟩ hy=>by
  rcases S.par n (List.of_mem_zip hy).1 with q|q
  ·exact .inl q
  ·exact .inr ⟨q,PySem.W.cellsFrom_some _ _ _ (.inl q)⟩
 refine codeAny_call_function hr.depth (KX _ _ lk) rfl S.co S.gen rfl (PySem.W.codeRec_of KX hcd) (hb _ _ _ _ ?_)
 refine wpAny_newFunctionEnv_cells S.kind hkind fun env he s1 x => ?_
 subst he
 refine ⟨lim.keeps x.toInCall.keep,codeAny_func ?_⟩
 obtain ⟨t,ht,hq⟩:=hbody A outer s H vs Q E (hr.deeper _) hsp
 have I:Inv (cxOf CX P w K mg base N qual scope f cdv A outer s H E) [] (start N vs) H s1:=inv_start S hr.hd e0 hl r x
 refine wpAny_mono (ht s1 (start N vs) H _ I hq) (fun fl s' hs => ?_) fun e s' hs=>hs
 have fin:∀{σ':St} {H':Hp} {v:V} {u:Value},Inv (cxOf CX P w K mg base N qual scope f cdv A outer s H E) [] σ' H' s'→RelV v u→Q v H'→CE outer P w H s Q u s':=
  fun {σ' H' v u} J rv q=>⟨v,H',J.os,J.bare,J.base,J.hok,rv,q⟩
 cases fl with
 | ret u=>
  obtain ⟨v, σ',H',J,rv,q⟩:=hs
  exact fin J rv q
 | next=>
  obtain ⟨σ',H',J,q⟩:=hs
  exact fin (v:=V.non) (u:=Value.none) J rfl q
 | brk=>
  obtain ⟨_,_,_,q⟩:=hs
  exact False.elim q
 | cont=>
  obtain ⟨_,_,_,q⟩:=hs
  exact False.elim q
end L2
namespace L2
open PySem PySem.Spec PyProof.Rows
section
variable {X:Cx} {x:Str} {p pos:Pos} {e:Expr} {es:List Expr} {t:TA} {id T:String} {r:List V→Hp→VK→Prop}
def tCB (r:List V→Hp→VK→Prop) (t:TA):TE:=fun σ H Q=>t σ H fun vs H1=>r vs H1 Q
theorem pe_callB (hc:CallR X (.builtin id) r) (hg:Gl X x) (hm:X.mg x=none) (hv:bootBuiltins x=some (.builtin id)) (ha:PA X (e :: es) t) (hn:x ≠ "__name__":=by decide) (hdb:(x == ("__debug__" : Str))=false:=by decide)
  (he:starEach (e :: es) X.env=(false,eval e X.env) :: starEach es X.env:=by rfl) (hpl:(backTo pos (starEach es X.env)).any (·.1)=false:=by rfl):PE X (.Call (.Name x p) (e :: es) [] pos) (tCB r t):=by
 intro pins s σ H Q I h
 refine wpAny_Call_Name_kw (ld_blt I hg hm hv ?_ hn hdb)
 exact PyProof.Rows.callWith_builtin1 (thn (ha s σ H _ I h) fun us s1 hz_=>Elim.el hz_ _ fun vs H1 I1 r1 q1=>hc s1 σ H1 vs us Q I1 r1 q1) he hpl
theorem pe_callTy (hc:CallR X (.type T) r) (hg:Gl X x) (hm:X.mg x=none) (hv:bootBuiltins x=some (.type T)) (ha:PA X (e :: es) t) (hn:x ≠ "__name__":=by decide) (hdb:(x == ("__debug__" : Str))=false:=by decide)
  (he:starEach (e :: es) X.env=(false,eval e X.env) :: starEach es X.env:=by rfl) (hpl:(backTo pos (starEach es X.env)).any (·.1)=false:=by rfl):PE X (.Call (.Name x p) (e :: es) [] pos) (tCB r t):=by
 intro pins s σ H Q I h
 refine wpAny_Call_Name_kw (ld_blt I hg hm hv ?_ hn hdb)
 exact PyProof.Rows.callWith_type1 (thn (ha s σ H _ I h) fun us s1 hz_=>Elim.el hz_ _ fun vs H1 I1 r1 q1=>hc s1 σ H1 vs us Q I1 r1 q1) he hpl
end
end L2
namespace L2
open PySem PySem.Spec PyProof.Rows
section
variable {κ:Type} [DecidableEq κ]
noncomputable def valV (kvs:List (κ×V)) (k : κ):Option V:=(kvs.find? fun kv=>decide (kv.1=k)).map (·.2)
noncomputable def putK (kvs:List (κ×V)) (k : κ) (v:V):List (κ×V):=
 if (kvs.any fun kv=>decide (kv.1=k))=true then kvs.map (fun kv=>if kv.1=k then (kv.1,v) else kv) else kvs++[(k,v)]
theorem valV_pos {p : κ×V} {r:List (κ×V)} {k : κ} (e:p.1=k):valV (p :: r) k=some p.2:=by simp [valV,List.find?_cons,e]
theorem valV_neg {p : κ×V} {r:List (κ×V)} {k : κ} (e:¬p.1=k):valV (p :: r) k=valV r k:=by simp [valV,List.find?_cons,e]
theorem valV_any (k : κ):∀kvs:List (κ×V),(kvs.any fun kv=>decide (kv.1=k))=(valV kvs k).isSome
 | []=>rfl
 | p :: r=>by
  rw [List.any_cons]
  by_cases e:p.1=k
  ·simp only [valV_pos e,decide_eq_true e,Bool.true_or,Option.isSome_some]
  ·rw [valV_neg e,decide_eq_false e,Bool.false_or];exact valV_any k r
theorem valV_map (k j : κ) (y:V):∀kvs:List (κ×V),valV (kvs.map fun kv=>if kv.1=k then (kv.1,y) else kv) j=(valV kvs j).map fun x=>if j=k then y else x
 | []=>rfl
 | p :: r=>by
  have ih:=valV_map k j y r
  rw [List.map_cons]
  by_cases h:p.1=k
  ·rw [if_pos h]
   by_cases e:p.1=j
   ·rw [valV_pos (p:=(p.1,y)) e,valV_pos e,Option.map_some,if_pos (e.symm.trans h)]
   ·rw [valV_neg (p:=(p.1,y)) e,valV_neg e,ih]
  ·rw [if_neg h]
   by_cases e:p.1=j
   ·rw [valV_pos (p:=p) e,valV_pos e,Option.map_some,if_neg (fun z=>h (e.trans z))]
   ·rw [valV_neg (p:=p) e,valV_neg e,ih]
theorem valV_snoc (k j : κ) (y:V):∀kvs:List (κ×V),valV kvs k=none→valV (kvs++[(k,y)]) j=if j=k then some y else valV kvs j
 | [],_=>by
  by_cases e:k=j
  ·rw [if_pos e.symm];exact valV_pos (p:=(k,y)) e
  ·rw [if_neg (fun z=>e z.symm)];exact valV_neg (p:=(k,y)) e
 | p :: r,hn=>by
  rw [List.cons_append]
  have hk:¬p.1=k:=fun z=>by rw [valV_pos z] at hn;cases hn
  rw [valV_neg hk] at hn
  have ih:=valV_snoc k j y r hn
  by_cases e:p.1=j
  ·rw [valV_pos e,valV_pos e,if_neg (fun z=>hk (e.trans z))]
  ·rw [valV_neg e,valV_neg e,ih]
theorem valV_put (kvs:List (κ×V)) (k j : κ) (y:V):valV (putK kvs k y) j=if j=k then some y else valV kvs j:=by
 unfold putK
 by_cases a:(kvs.any fun kv=>decide (kv.1=k))=true
 ·rw [if_pos a,valV_map]
  rw [valV_any] at a
  by_cases e:j=k
  ·obtain ⟨x,hx⟩:=Option.isSome_iff_exists.mp a
   rw [if_pos e,e,hx,Option.map_some,if_pos rfl]
  ·rw [if_neg e]
   cases valV kvs j with
   | none=>rfl
   | some x=>rw [Option.map_some,if_neg e]
 ·rw [if_neg a]
  refine valV_snoc k j y kvs ?_
  rw [valV_any] at a
  cases q:valV kvs k with
  | none=>rfl
  | some x=>rw [q] at a;exact (a rfl).elim
theorem length_putK (kvs:List (κ×V)) (k : κ) (v:V):(putK kvs k v).length≤kvs.length+1:=by
 unfold putK
 split
 ·rw [List.length_map];omega
 ·rw [List.length_append,List.length_cons,List.length_nil];omega
theorem putK_new {kvs:List (κ×V)} {k : κ} (v:V) (h:valV kvs k=none):putK kvs k v=kvs++[(k,v)]:=by
 unfold putK
 rw [valV_any,h]
 exact if_neg (by decide)
theorem RelO.isSome_eq {o:Option V} {u:Option Value} (r:RelO o u):o.isSome=u.isSome:=by
 cases o with
 | none=>cases u with
  | none=>rfl
  | some _=>exact (show False from r).elim
 | some _=>cases u with
  | none=>exact (show False from r).elim
  | some _=>rfl
theorem RelO.getD {o:Option V} {u:Option Value} {d:V} {d':Value} (r:RelO o u) (rd:RelV d d'):RelV (o.getD d) (u.getD d'):=by
 cases o with
 | none=>cases u with
  | none=>exact rd
  | some _=>exact (show False from r).elim
 | some _=>cases u with
  | none=>exact (show False from r).elim
  | some _=>exact r
theorem KV.val {kvs:List (κ×V)} {vs:List (κ×Value)} (r:KV kvs vs) (k : κ):RelO (valV kvs k) (valueAt vs k):=by
 unfold KV at r
 induction r with
 | nil=>exact True.intro
 | @cons p q ps qs h t ih=>
  obtain ⟨h1,h2⟩:=h
  by_cases e:p.1=k
  ·have e':q.1=k:=h1.symm.trans e
   have b:valueAt (q :: qs) k=some q.2:=by simp [valueAt,List.find?_cons,e']
   rw [valV_pos e,b];exact h2
  ·have e':¬q.1=k:=fun z=>e (h1.trans z)
   have b:valueAt (q :: qs) k=valueAt qs k:=by simp [valueAt,List.find?_cons,e']
   rw [valV_neg e,b];exact ih
theorem KV.any {kvs:List (κ×V)} {vs:List (κ×Value)} (r:KV kvs vs) (k : κ):(kvs.any fun kv=>decide (kv.1=k))=vs.any fun kv=>decide (kv.1=k):=by
 unfold KV at r
 induction r with
 | nil=>rfl
 | cons h t ih=>rw [List.any_cons,List.any_cons,ih,h.1]
theorem KV.repl {kvs:List (κ×V)} {vs:List (κ×Value)} (r:KV kvs vs) (k : κ) {y:V} {u:Value} (ry:RelV y u) :
  KV (kvs.map fun kv=>if kv.1=k then (kv.1,y) else kv) (vs.map fun kv=>if kv.1=k then (kv.1,u) else kv):=by
 unfold KV at r ⊢
 induction r with
 | nil=>exact .nil
 | @cons p q ps qs h t ih=>
  rw [List.map_cons,List.map_cons]
  refine .cons ?_ ih
  obtain ⟨h1,h2⟩:=h
  by_cases e:p.1=k
  ·rw [if_pos e,if_pos (h1.symm.trans e)];exact ⟨h1,ry⟩
  ·rw [if_neg e,if_neg (fun z=>e (h1.trans z))];exact ⟨h1,h2⟩
theorem KV.put {kvs:List (κ×V)} {vs:List (κ×Value)} (r:KV kvs vs) (k : κ) {y:V} {u:Value} (ry:RelV y u):KV (putK kvs k y) (stored vs k u):=by
 unfold putK stored
 rw [r.any k]
 by_cases e:(vs.any fun kv=>decide (kv.1=k))=true
 ·rw [if_pos e,if_pos e];exact r.repl k ry
 ·rw [if_neg e,if_neg e];exact Paired.snoc r ⟨rfl,ry⟩
theorem KV.length {kvs:List (κ×V)} {vs:List (κ×Value)} (r:KV kvs vs):kvs.length=vs.length:=Paired.length r
end
theorem kV_is {P:Program} {w:World} {k:Key} {u:Value} (r:RelV (kV k) u):(mixKind P w).is k u=true:=by
 cases k with
 | inl i=>obtain ⟨t,e⟩:=(show ∃t,u=Value.int i t from r);subst e;exact mixKind_int P w i t
 | inr x=>obtain ⟨t,e⟩:=(show ∃t,u=Value.str x t from r);subst e;exact mixKind_str P w x t
theorem items_are {P:Program} {w:World} : ∀{ks:List Key} {us:List Value},Vals (ks.map kV) us→ItemsAre (mixKind P w) ks us
 | [],_,r=>by rw [List.map_nil] at r;cases r;exact .nil
 | k :: ks,_,r=>by
  rw [List.map_cons] at r
  cases r with
  | cons h t=>exact .cons (kV_is h) (items_are t)
abbrev KT (H:Hp):List (List Key×V)→List (List Key×Addr×Value)→Prop:=Paired fun p q=>p.1=q.1∧H q.2.1=some (.tup (p.1.map kV))∧RelV p.2 q.2.2
theorem KT.val {H:Hp} {kvs:List (List Key×V)} {xs:List (List Key×Addr×Value)} (r:KT H kvs xs) (k:List Key):RelO (valV kvs k) ((atKey xs k).map (·.2)):=by
 induction r with
 | nil=>exact True.intro
 | @cons p q ps qs h t ih=>
  obtain ⟨h1,_,h2⟩:=h
  by_cases e:p.1=k
  ·have e':q.1=k:=h1.symm.trans e
   have b:atKey (q :: qs) k=some q.2:=by simp [atKey,List.find?_cons,e']
   rw [valV_pos e,b];exact h2
  ·have e':¬q.1=k:=fun z=>e (h1.trans z)
   have b:atKey (q :: qs) k=atKey qs k:=by simp [atKey,List.find?_cons,e']
   rw [valV_neg e,b];exact ih
theorem KT.repl {H:Hp} {kvs:List (List Key×V)} {xs:List (List Key×Addr×Value)} (r:KT H kvs xs) (k:List Key) {y:V} {u:Value} (ry:RelV y u) :
  KT H (kvs.map fun kv=>if kv.1=k then (kv.1,y) else kv) (xs.map (putAt k u)):=by
 induction r with
 | nil=>exact .nil
 | @cons p q ps qs h t ih=>
  rw [List.map_cons,List.map_cons]
  refine .cons ?_ ih
  obtain ⟨h1,h2,h3⟩:=h
  unfold putAt
  by_cases e:p.1=k
  ·rw [if_pos e,if_pos (h1.symm.trans e)];exact ⟨h1,h2,ry⟩
  ·rw [if_neg e,if_neg (fun z=>e (h1.trans z))];exact ⟨h1,h2,h3⟩
theorem KT.put {H:Hp} {kvs:List (List Key×V)} {xs:List (List Key×Addr×Value)} (r:KT H kvs xs) (k:List Key) {b:Addr} {y:V} {u:Value} (hb:H b=some (.tup (k.map kV))) (ry:RelV y u) :
  KT H (putK kvs k y) (storedH xs k b u):=by
 have e:(kvs.any fun kv=>decide (kv.1=k))=(atKey xs k).isSome:=by
  rw [valV_any,(r.val k).isSome_eq,Option.isSome_map]
 unfold putK storedH
 rw [e]
 by_cases q:(atKey xs k).isSome=true
 ·rw [if_pos q,if_pos q];exact r.repl k ry
 ·rw [if_neg q,if_neg q];exact Paired.snoc r ⟨rfl,hb,ry⟩
theorem KT.keeps {H H':Hp} {kvs:List (List Key×V)} {xs:List (List Key×Addr×Value)} (r:KT H kvs xs) (ht:∀b ys,H b=some (.tup ys)→H' b=some (.tup ys)):KT H' kvs xs:=
 Paired.mapP r fun _ _ z=>⟨z.1,ht _ _ z.2.1,z.2.2⟩
section
variable {P:Program} {w:World} {H:Hp} {h:Heap} {a:Addr}
theorem rd_of {u:HO} (ok:HOk P w H h) (e:Rd H a u):ObjOk P w H h a u:=e.ok ok
theorem dk_rd {kvs:List (Key×V)} (ok:HOk P w H h) (e:Rd H a (.dK kvs)):kvs.length≤sizeLine∧(a == sysModules)=false∧∃vs,KV kvs vs∧h.DictOf (mixKind P w) a vs:=
 show ObjOk P w H h a (.dK kvs) from rd_of ok e
theorem dk_of {kvs:List (Key×V)} (ok:HOk P w H h) (e:H a=some (.dK kvs)):kvs.length≤sizeLine∧(a == sysModules)=false∧∃vs,KV kvs vs∧h.DictOf (mixKind P w) a vs:=dk_rd ok (.inl e)
theorem key_of {ks:List Key} (ok:HOk P w H h) (e:H a=some (.tup (ks.map kV))):(tupleKind (mixKind P w)).is h ks a:=by
 obtain ⟨_,its,r,o,h1,h2,n,h3⟩:=(show ObjOk P w H h a (.tup (ks.map kV)) from ok a _ e)
 exact ⟨o,its.toArray,n,h1,h2,h3,by simpa using items_are r⟩
theorem dt_rd {kvs:List (List Key×V)} (ok:HOk P w H h) (e:Rd H a (.dT kvs)):kvs.length≤sizeLine∧(a == sysModules)=false ∧
  ∃xs,KT H kvs xs∧h.DictOfH (tupleKind (mixKind P w)) a xs:=by
 obtain ⟨z,y,xs,r,o,es,ep,h1,h2,h3,h4,h5⟩:=(show ObjOk P w H h a (.dT kvs) from rd_of ok e)
 refine ⟨z,y,xs,r,o,es,ep,h1,h2,h3,h4,fun x hx => ?_,h5⟩
 have all:∀{l:List (List Key×V)} {m:List (List Key×Addr×Value)},KT H l m→∀x∈m,(tupleKind (mixKind P w)).is h x.1 x.2.1:=by
  intro l m q
  induction q with
  | nil=>intro x hx;exact nomatch hx
  | @cons p q ps qs hq t ih=>
   intro x hx
   rcases List.mem_cons.mp hx with e|hx
   ·subst e
    exact key_of ok (by rw [←hq.1];exact hq.2.1)
   ·exact ih x hx
 exact all r x hx
theorem dt_of {kvs:List (List Key×V)} (ok:HOk P w H h) (e:H a=some (.dT kvs)):kvs.length≤sizeLine∧(a == sysModules)=false ∧
  ∃xs,KT H kvs xs∧h.DictOfH (tupleKind (mixKind P w)) a xs:=dt_rd ok (.inl e)
end
def DGet (H:Hp) (a:Addr) (y:V) (r:Option V):Prop:=
 (Ex2 fun kvs k=>Rd H a (.dK kvs)∧y=kV k∧r=valV kvs k)∨Ex3 fun kvs k b=>Rd H a (.dT kvs)∧y = .ref b∧H b=some (.tup (k.map kV))∧r=valV kvs k
def DPut (H:Hp) (a:Addr) (y v:V) (H':Hp):Prop:=
 (Ex2 fun kvs k=>H a=some (.dK kvs)∧y=kV k∧kvs.length<sizeLine∧H'=upd H a (.dK (putK kvs k v))) ∨
 Ex3 fun kvs k b=>H a=some (.dT kvs)∧y = .ref b∧H b=some (.tup (k.map kV))∧kvs.length<sizeLine∧H'=upd H a (.dT (putK kvs k v))
theorem DGet.k {H:Hp} {a:Addr} {kvs:List (Key×V)} {k:Key} (e:H a=some (.dK kvs)):DGet H a (kV k) (valV kvs k) := .inl ⟨kvs,k, .inl e,rfl,rfl⟩
theorem DPut.k {H:Hp} {a:Addr} {kvs:List (Key×V)} {k:Key} {v:V} (e:H a=some (.dK kvs)) (hl:kvs.length<sizeLine):DPut H a (kV k) v (upd H a (.dK (putK kvs k v))) := .inl ⟨kvs,k,e,rfl,hl,rfl⟩
section
variable {X:Cx} {pins:List (Addr×Obj)} {σ:St} {H:Hp} {s:Shared} {a:Addr} {y v:V} {u r:Value} {o:Option V} {A:Around} {E:Value→Shared→Prop}
theorem Inv.big (I:Inv X pins σ H s):sysModules<s.heap.objs.size:=by
 have h:mainGlobals<s.heap.objs.size:=(I.mod.glob.keeps I.bk).lt
 exact Nat.lt_trans (by decide) h
theorem d_getItem {Q:Value→Shared→Prop} (hu:A.units+1<cLine) (I:Inv X pins σ H s) (g:DGet H a y (some v)) (ry:RelV y u) (h:∀w' s',Inv X pins σ H s'→RelV v w'→Q w' s') :
  wpAny (model X.prog X.w) A (getItem (.ref a) u) Q E s:=by
 rcases g with ⟨kvs,k,e,ey,l⟩|⟨kvs,k,b,e,ey,eb,l⟩
 ·subst ey
  obtain ⟨z,hd,vs,rel,dd⟩:=dk_rd I.hok e
  obtain ⟨w',hw,rw'⟩:=RelO.some_of (v:=v) (o:=valueAt vs k) (by rw [l];exact rel.val k)
  exact wpAny_getItem_of (kV_is ry) dd.mapOf hw (h w' _ (I.tok _) rw')
 ·subst ey
  cases (show u=Value.ref b from ry)
  obtain ⟨z,hd,xs,rel,dd⟩:=dt_rd I.hok e
  obtain ⟨w',hw,rw'⟩:=RelO.some_of (v:=v) (o:=(atKey xs k).map (·.2)) (by rw [l];exact rel.val k)
  obtain ⟨p,hp,hp2⟩:=Option.map_eq_some_iff.mp hw
  refine wpAny_getItem_heap (tupleKind_room_in1 hu) (key_of I.hok eb) dd hp ?_
  rw [hp2]
  exact h w' _ (I.tok _) rw'
theorem d_in {Q:Value→Shared→Prop} (hu:A.units+1<cLine) (I:Inv X pins σ H s) (g:DGet H a y o) (ry:RelV y u) (h:∀s',Inv X pins σ H s'→Q (.bool o.isSome) s') :
  wpAny (model X.prog X.w) A (compareOp .In u (.ref a)) Q E s:=by
 rcases g with ⟨kvs,k,e,ey,l⟩|⟨kvs,k,b,e,ey,eb,l⟩
 ·subst ey
  obtain ⟨z,hd,vs,rel,dd⟩:=dk_rd I.hok e
  refine wpAny_in_of (kV_is ry) hd dd.mapOf ?_
  rw [←(rel.val k).isSome_eq, ←l]
  exact h _ (I.tok _)
 ·subst ey
  cases (show u=Value.ref b from ry)
  obtain ⟨z,hd,xs,rel,dd⟩:=dt_rd I.hok e
  refine wpAny_in_heap (tupleKind_room_in1 hu) (key_of I.hok eb) hd dd ?_
  have q:=(rel.val k).isSome_eq
  rw [Option.isSome_map] at q
  rw [←q, ←l]
  exact h _ (I.tok _)
theorem d_write {h':Heap} {t':Nat} {ob:HO} (I:Inv X pins σ H s) (mu:Mut (H a)) (hs:Heap.SameBut a s.heap h') (he:∃q,h'.get? a=some q) (new:ObjOk X.prog X.w (upd H a ob) h' a ob) :
  Inv X pins σ (upd H a ob) { s with heap:=h',toks:=t' }:=
 I.write (x:=a) (e:=a) mu (.inl rfl) (fun b q hb z=>(hs.2 b hb).trans z) he new
theorem dk_new {P:Program} {w:World} {H':Hp} {h':Heap} {kvs:List (Key×V)} {vs:List (Key×Value)} (z:kvs.length≤sizeLine) (hd:(a == sysModules)=false) (rel:KV kvs vs) (dd:h'.DictOf (mixKind P w) a vs) :
  ObjOk P w H' h' a (.dK kvs):=⟨z,hd,vs,rel,dd⟩
theorem d_setItem {H':Hp} {Q:Unit→Shared→Prop} (hu:A.units+1<cLine) (I:Inv X pins σ H s) (g:DPut H a y v H') (ry:RelV y u) (rv:RelV v r) (h:∀s',Inv X pins σ H' s'→Q () s') :
  wpAny (model X.prog X.w) A (setItem (.ref a) u r) Q E s:=by
 rcases g with ⟨kvs,k,e,ey,l,eH⟩|⟨kvs,k,b,e,ey,eb,l,eH⟩
 ·subst ey eH
  obtain ⟨z,hd,vs,rel,dd⟩:=dk_of I.hok e
  have hz:vs.length≤sizeLine:=by rw [←rel.length];exact z
  have hl:(putK kvs k v).length≤sizeLine:=by have:=length_putK kvs k v;omega
  refine wpAny_setItem_pairs (hsz:=hz) (kV_is ry) dd fun h' dd' hs=>h _ ?_
  have he:∃q,h'.get? a=some q:=let ⟨q,_,_,hq,_⟩:=dd'; ⟨q,hq⟩
  exact d_write I (by rw [e];exact True.intro) hs he (dk_new hl hd (rel.put k rv) dd')
 ·subst ey eH
  cases (show u=Value.ref b from ry)
  obtain ⟨z,hd,xs,rel,dd⟩:=dt_of I.hok e
  have hz:xs.length≤sizeLine:=by rw [←Paired.length rel];exact z
  have hl:(putK kvs k v).length≤sizeLine:=by have:=length_putK kvs k v;omega
  refine wpAny_setItem_heap (hsz:=hz) (tupleKind_room_in1 hu) (key_of I.hok eb) dd fun h' dd' hs=>h _ ?_
  obtain ⟨q,es,ep,hq,h2,h3,h4,_,h5⟩:=dd'
  refine d_write I (by rw [e];exact True.intro) hs ⟨q,hq⟩ ⟨hl,hd,_,(rel.put k eb rv).keeps fun c ys ec => ?_,q,es,ep,hq,h2,h3,h4,h5⟩
  rw [upd_ne (ne_of ec e (fun z=>nomatch z))]
  exact ec
end
section
variable {X:Cx} {pins:List (Addr×Obj)} {σ:St} {H:Hp} {s:Shared} {a:Addr} {kvs:List (Key×V)} {k:Key} {u:Value} {A:Around} {E:Value→Shared→Prop}
theorem d_len {Q:Value→Shared→Prop} (I:Inv X pins σ H s) (e:Rd H a (.dK kvs)) (h:∀t s',Inv X pins σ H s'→Q (.int kvs.length t) s'):wpAny (model X.prog X.w) A (call (.builtin "len") [.ref a]) Q E s:=by
 obtain ⟨z,hd,vs,rel,dd⟩:=dk_rd I.hok e
 refine call_len_dict hd dd (by rw [←rel.length];rw [sizeLine_eq] at z;omega) ?_
 rw [←rel.length]
 exact h _ _ (I.tok _)
end
def NoSl (i:Expr):Prop:=∀ov iv,subscripted i false ov iv=operate [ov,iv] (getItem ov iv)
theorem subD_of {prog:Program} {w:World} {A:Around} {E:Value→Shared→Prop} {s:Shared} {env:Env} {value slice:Expr} {pos:Pos} {T id:String} {Q:Value→Shared→Prop}
  (hl:typeLookup (.type T) "__getitem__" = pure (some (.builtin id))) (hs:NoSl slice)
  (h:wpAny (model prog w) A (eval value env) (fun o s₁=>wpAny (model prog w) A (eval slice env) (fun i s₂=>s₂.TypeIs o T∧wpAny (model prog w) A (getItem o i) Q E s₂) E s₁) E s) :
  wpAny (model prog w) A (eval (.Subscript value slice pos) env) Q E s:=by
 refine Subscript_ (wpAny_mono h (fun o s₁ h₁=>wpAny_mono h₁ (fun i s₂ h₂ => ?_) fun _ _ x=>x) fun _ _ x=>x)
 obtain ⟨hT,h₂⟩:=h₂
 unfold subscriptTail
 refine wpAny_bind ?_
 rw [getitemInPython_of_ne hT.not_modules]
 refine wpAny_bind (wpAny_specialOf hT hl ?_)
 have fin:wpAny (model prog w) A (subscripted slice false o i) (fun r s₃=>wpAny (model prog w) A (letTemporaryGo value o r >>= fun _=>pure r) Q E s₃) E s₂:=by
  rw [hs o i]
  exact wpAny_operating (wpAny_mono h₂ (fun r s₃ h₃=>wpAny_bind (wpAny_letTemporaryGo (wpAny_pure h₃))) fun _ _ x=>x)
 first
  | exact wpAny_pure (wpAny_bind fin)
  | exact wpAny_bind (wpAny_pure (wpAny_bind fin))
  | exact wpAny_bind fin
theorem dict_typeIs {X:Cx} {pins:List (Addr×Obj)} {σ:St} {H:Hp} {s:Shared} {a:Addr} {y:V} {o:Option V} (I:Inv X pins σ H s) (g:DGet H a y o):s.TypeIs (.ref a) "dict":=by
 rcases g with ⟨kvs,k,e,_,_⟩|⟨kvs,k,b,e,_,_,_⟩
 ·obtain ⟨_,_,vs,_,dd⟩:=dk_rd I.hok e
  exact dd.typeIs
 ·obtain ⟨_,_,xs,_,dd⟩:=dt_rd I.hok e
  exact dd.typeIs
def tDGet (td ty:TE):TE:=fun σ H Q=>td σ H fun x H1=>ty σ H1 fun y H2=>Ex2 fun a v=>x = .ref a∧DGet H2 a y (some v)∧Q v H2
def tDIn (ty td:TE):TE:=fun σ H Q=>ty σ H fun y H1=>td σ H1 fun x H2=>Ex2 fun a o=>x = .ref a∧DGet H2 a y o∧Q (.bl o.isSome) H2
def sDPut (td ty tv:TE):TS:=fun D σ H=>tv σ H fun v H1=>td σ H1 fun x H2=>ty σ H2 fun y H3=>Ex2 fun a H4=>x = .ref a∧DPut H3 a y v H4∧D.nx σ H4
section
variable {X:Cx} {o i e value:Expr} {pos pos' tpos:Pos} {td ty tv:TE}
theorem pe_dget (hu:X.A.units+1<cLine) (ho:PE X o td) (hi:PE X i ty) (hs:NoSl i):PE X (.Subscript o i pos) (tDGet td ty):=by
 intro pins s σ H Q I h
 refine subD_of PySem.F.slot_dict_getitem.lookup hs (thn (ho s σ H _ I h) fun u s1 hz_=>Elim.el hz_ _ fun x H1 I1 rx q1=>thn (hi s1 σ H1 _ I1 q1) fun iv s2 hz_ => ?_)
 refine Elim.el hz_ _ ?_
 clear hz_
 rintro y H2 I2 ry ⟨a,v,ex,g,q2⟩
 subst ex
 obtain rfl:u=Value.ref a:=rx
 exact ⟨dict_typeIs I2 g,d_getItem hu I2 g ry fun w' s3 I3 rw'=>⟨v,H2,I3,rw',q2⟩⟩
theorem pc_din (hu:X.A.units+1<cLine) (hi:PE X i ty) (ho:PE X o td):PC X .In i o (tDIn ty td):=by
 intro pins s σ H Q I h
 refine thn (hi s σ H _ I h) fun iv s1 hz_=>Elim.el hz_ _ fun y H1 I1 ry q1=>thn (ho s1 σ H1 _ I1 q1) fun u s2 hz_ => ?_
 refine Elim.el hz_ _ ?_
 clear hz_
 rintro x H2 I2 rx ⟨a,ov,ex,g,q2⟩
 subst ex
 obtain rfl:u=Value.ref a:=rx
 exact d_in hu I2 g ry fun s3 I3=>⟨.bl ov.isSome,H2,I3,rfl,q2⟩
theorem ps_dput (hu:X.A.units+1<cLine) (ho:PE X o td) (hi:PE X i ty) (hv:PE X value tv) (hs:swapsWith value (some (.Subscript o i pos')) pos.line X.env=pure false) :
  PS X (.Assign [.Subscript o i pos'] value pos) (sDPut td ty tv):=by
 intro pins s σ H D I h
 refine wpAny_Assign_Subscript (thn (hv s σ H _ I h) fun r s1 ⟨v,H1,I1,rv,q1⟩=>thn (ho s1 σ H1 _ I1 q1) fun u s2 ⟨x,H2,I2,rx,q2⟩=>thn (hi s2 σ H2 _ I2 q2) fun iv s3 ⟨y,H3,I3,ry,a,H4,ex,g,q3⟩ => ?_) hs
 subst ex
 obtain rfl:u=Value.ref a:=rx
 exact d_setItem hu I3 g ry rv fun s4 I4=>⟨σ,H4,I4,q3⟩
end
theorem dk_empty {P:Program} {w:World} {H:Hp} (h:Heap) (hb:sysModules<h.objs.size):ObjOk P w H (h.push { cls := .type "dict",data := .dict #[] }) h.objs.size (.dK []):=
 ⟨Nat.zero_le _,beq_eq_false_iff_ne.mpr (Ne.symm (Nat.ne_of_lt hb)),[], .nil,Heap.DictOf.new h⟩
def tDNewK:TE:=fun _ H Q=>∀p,H p=none→Q (.ref p) (upd H p (.dK []))
section
variable {X:Cx} {pos:Pos}
theorem pe_dnewK:PE X (.Dict [] [] pos) tDNewK:=fun pins s σ H Q I h=>
 wpAny_Dict_empty ⟨.ref s.heap.objs.size,_,I.laid (a:=s.heap.objs.size) (o := .dK []) (t':=s.toks) (fun _ _ q=>Heap.get?_push_of_some _ q) (Nat.le_refl _) (dk_empty s.heap I.big),rfl,h _ (I.hok.fresh (Nat.le_refl _))⟩
end
def tPairs:List (TE×TE)→St→Hp→(List (V×V)→Hp→Prop)→Prop
 | [],_,H,Q=>Q [] H
 | (tk,tv) :: r, σ,H,Q=>tk σ H fun x H1=>tv σ H1 fun y H2=>tPairs r σ H2 fun ps H3=>Q ((x,y) :: ps) H3
abbrev VV:List (V×V)→List (Value×Value)→Prop:=Paired fun p q=>RelV p.1 q.1∧RelV p.2 q.2
def PPs (X:Cx) (pos:Pos) (keys:List (Option Expr)) (values:List Expr) (trs:List (TE×TE)):Prop:=
 ∀ ⦃pins:List (Addr×Obj)⦄ (s:Shared) (σ:St) (H:Hp) (Q:List (V×V)→Hp→Prop),Inv X pins σ H s→tPairs trs σ H Q →
  wpAny (model X.prog X.w) X.A (evalPairs (pairTrees keys values X.env pos)) (fun vs s'=>Ex2 fun ps H'=>Inv X pins σ H' s'∧VV ps vs∧Q ps H') X.xe s
theorem pps_nil {X:Cx} {pos:Pos} : PPs X pos [] [] []:=fun pins s σ H Q I h=>pairTrees_nil_walk ⟨[],H,I, .nil,h⟩
theorem pps_cons {X:Cx} {pos:Pos} {k v:Expr} {ks:List (Option Expr)} {vs:List Expr} {tk tv:TE} {trs:List (TE×TE)} (hk:PE X k tk) (hv:PE X v tv) (hr:PPs X pos ks vs trs) :
  PPs X pos (some k :: ks) (v :: vs) ((tk,tv) :: trs):=fun pins s σ H Q I h=>
 pairTrees_cons_walk (thn (hk s σ H _ I h) fun u s1 hz_=>Elim.el hz_ _ fun x H1 I1 rx q1=>thn (hv s1 σ H1 _ I1 q1) fun w2 s2 ⟨y,H2,I2,ry,q2⟩=>
  thn (hr s2 σ H2 _ I2 q2) fun ws s3 hz_=>Elim.el hz_ _ fun ps H3 I3 rel q3=>⟨(x,y) :: ps,H3,I3, .cons ⟨rx,ry⟩ rel,q3⟩)
noncomputable def mergeK (kvs more:List (Key×V)):List (Key×V):=more.foldl (fun acc kv=>putK acc kv.1 kv.2) kvs
theorem KV.merge:∀{more:List (Key×V)} {rs:List (Key×Value)} {kvs:List (Key×V)} {vs:List (Key×Value)},KV more rs→KV kvs vs→KV (mergeK kvs more) (merged vs rs):=by
 intro more rs kvs vs r
 unfold KV at r
 induction r generalizing kvs vs with
 | nil=>intro q;exact q
 | @cons p q ps qs h t ih=>
  intro r0
  have e:KV (putK kvs p.1 p.2) (stored vs q.1 q.2):=by
   have:=r0.put p.1 h.2
   rw [←h.1];exact this
  exact ih e
theorem length_mergeK:∀(more kvs:List (Key×V)),(mergeK kvs more).length≤kvs.length+more.length
 | [],kvs=>by show kvs.length≤kvs.length+0;omega
 | p :: r,kvs=>by
  have h1:=length_mergeK r (putK kvs p.1 p.2)
  have h2:=length_putK kvs p.1 p.2
  show (mergeK (putK kvs p.1 p.2) r).length≤_
  rw [List.length_cons];omega
theorem carries_of {P:Program} {w:World} : ∀{kvs:List (Key×V)} {ws:List (Value×Value)},VV (kvs.map fun kv=>(kV kv.1,kv.2)) ws→∃rs,Carries (mixKind P w) ws rs∧KV kvs rs
 | [],_,r=>by rw [List.map_nil] at r;cases r;exact ⟨[],True.intro, .nil⟩
 | p :: kvs,_,r=>by
  rw [List.map_cons] at r
  cases r with
  | @cons a b as bs h t=>
   obtain ⟨rs,c,q⟩:=carries_of (P:=P) (w:=w) t
   obtain ⟨b1,b2⟩:=b
   exact ⟨(p.1,b2) :: rs,⟨kV_is h.1,rfl,c⟩, .cons ⟨rfl,h.2⟩ q⟩
def tDisp (trs:List (TE×TE)):TE:=fun σ H Q=>∀p,H p=none→tPairs trs σ (upd H p (.dK [])) fun ps H2=>H2 p=some (.dK [])∧∃kvs:List (Key×V),ps=kvs.map (fun kv=>(kV kv.1,kv.2))∧kvs.length≤15∧Q (.ref p) (upd H2 p (.dK (mergeK [] kvs)))
theorem pe_disp {X:Cx} {pos:Pos} {keys:List (Option Expr)} {values:List Expr} {trs:List (TE×TE)} (h:PPs X pos keys values trs) (hall:keys.all (·.isSome)=true) (hl:keys.length=values.length) (h0:keys≠[])
  (h15:keys.length≤15):PE X (.Dict keys values pos) (tDisp trs):=by
 intro pins s σ H Q I q
 have hn:=I.hok.fresh (Nat.le_refl s.heap.objs.size)
 have I1:=I.laid (a:=s.heap.objs.size) (o := .dK []) (h':=s.heap.push { cls := .type "dict",data := .dict #[] }) (t':=s.toks) (fun _ _ q=>Heap.get?_push_of_some _ q) (Nat.le_refl _) (dk_empty s.heap I.big)
 refine wpAny_Dict_walk (knd:=mixKind X.prog X.w) hall hl h0 h15 (thn (h _ σ _ _ I1 (q _ hn)) fun ws s2 hz_=>Elim.el hz_ _ fun ps H2 I2 rel e kvs ep lk q2 => ?_)
 subst ep
 obtain ⟨rs,c,rk⟩:=carries_of (P:=X.prog) (w:=X.w) rel
 obtain ⟨z,hd,vs0,r0,dd⟩:=dk_of I2.hok e
 cases r0
 refine ⟨rs,c,dd,fun h' dd' hs=>⟨.ref s.heap.objs.size,_,?_,rfl,q2⟩⟩
 have hz:(mergeK [] kvs).length≤sizeLine:=by
  have h1:=length_mergeK kvs []
  rw [List.length_nil] at h1
  rw [sizeLine_eq];omega
 have he:∃q,h'.get? s.heap.objs.size=some q:=let ⟨q,_,_,hq,_⟩:=dd'; ⟨q,hq⟩
 exact d_write I2 (by rw [e];exact True.intro) hs he (dk_new hz hd (rk.merge .nil) dd')
structure M1 (X:Cx) (o:Expr) (m:Str) (apos:Pos) (e:Expr) (cpos:Pos):Prop where
 base:attributeBase o m X.env (eval o X.env)=eval o X.env
 few:((backTo cpos (starEach [e] X.env)).all (fun x => !x.1)&&(backToKw cpos (keywordEach [] X.env)).all (fun x=>x.1.isSome)
  && decide (([e]:List Expr).length+([]:List Keyword).length+(if ([]:List Keyword).isEmpty then 0 else 1)<30))=true
 line:(apos.endLine == cpos.line)=true
 trees:backTo cpos (starEach [e] X.env)=[(false,eval e X.env)]
structure M2 (X:Cx) (o:Expr) (m:Str) (apos:Pos) (e f:Expr) (cpos:Pos):Prop where
 base:attributeBase o m X.env (eval o X.env)=eval o X.env
 few:((backTo cpos (starEach [e,f] X.env)).all (fun x => !x.1)&&(backToKw cpos (keywordEach [] X.env)).all (fun x=>x.1.isSome)
  && decide (([e,f]:List Expr).length+([]:List Keyword).length+(if ([]:List Keyword).isEmpty then 0 else 1)<30))=true
 line:(apos.endLine == cpos.line)=true
 trees:backTo cpos (starEach [e,f] X.env)=[(false,eval e X.env),(false,eval f X.env)]
def IsD (H:Hp) (a:Addr):Prop:=(∃kvs,Rd H a (.dK kvs))∨∃kvs,Rd H a (.dT kvs)
theorem isD_at {X:Cx} {pins:List (Addr×Obj)} {σ:St} {H:Hp} {s:Shared} {a:Addr} (I:Inv X pins σ H s) (d:IsD H a) :
  s.TypeIs (.ref a) "dict" ∧ (∀b,Value.ref a = .ref b→∃ob,s.heap.get? b=some ob∧ob.dict=none)∧(a == sysModules)=false:=by
 rcases d with ⟨kvs,e⟩|⟨kvs,e⟩
 ·obtain ⟨_,hd,vs,_,dd⟩:=dk_rd I.hok e
  refine ⟨dd.typeIs,fun b q => ?_,hd⟩
  cases q
  obtain ⟨ob,_,_,h1,h2,_⟩:=dd
  exact ⟨ob,h1,h2.2.1⟩
 ·obtain ⟨_,hd,xs,_,dd⟩:=dt_rd I.hok e
  refine ⟨dd.typeIs,fun b q => ?_,hd⟩
  cases q
  obtain ⟨ob,_,_,h1,h2,_⟩:=dd
  exact ⟨ob,h1,h2.2.1⟩
section
variable {X:Cx} {pins:List (Addr×Obj)} {σ:St} {H:Hp} {s:Shared} {a:Addr} {y d:V} {u r:Value} {o:Option V} {A:Around} {E:Value→Shared→Prop}
theorem d_get1 {Q:Value→Shared→Prop} (hu:A.units+1<cLine) (I:Inv X pins σ H s) (g:DGet H a y o) (ry:RelV y u) (h:∀w' s',Inv X pins σ H s'→RelV (o.getD .non) w'→Q w' s') :
  wpAny (model X.prog X.w) A (call (.builtin "dict.get") [.ref a,u]) Q E s:=by
 rcases g with ⟨kvs,k,e,ey,l⟩|⟨kvs,k,b,e,ey,eb,l⟩
 ·subst ey
  obtain ⟨z,hd,vs,rel,dd⟩:=dk_rd I.hok e
  refine call_meetsIn PySem.F.slot_dict_get dd.typeIs PySem.F.entry_dict_get (PySem.F.args_dict_get_2 _ _) (meets_dict_get (mixKind X.prog X.w) a (kV_is ry) hd) ⟨_,dd.mapOf,h _ _ (I.tok _) ?_⟩
  rw [l]
  exact (rel.val k).getD rfl
 ·subst ey
  cases (show u=Value.ref b from ry)
  obtain ⟨z,hd,xs,rel,dd⟩:=dt_rd I.hok e
  refine call_meetsIn PySem.F.slot_dict_get dd.typeIs PySem.F.entry_dict_get (PySem.F.args_dict_get_2 _ _) (meetsH_dict_get (tupleKind (mixKind X.prog X.w)) a b hd) ⟨tupleKind_room_in1 hu,k,xs,key_of I.hok eb,dd,h _ _ (I.tok _) ?_⟩
  rw [l]
  exact (rel.val k).getD rfl
theorem d_get2 {Q:Value→Shared→Prop} (hu:A.units+1<cLine) (I:Inv X pins σ H s) (g:DGet H a y o) (ry:RelV y u) (rd:RelV d r) (h:∀w' s',Inv X pins σ H s'→RelV (o.getD d) w'→Q w' s') :
  wpAny (model X.prog X.w) A (call (.builtin "dict.get") [.ref a,u,r]) Q E s:=by
 rcases g with ⟨kvs,k,e,ey,l⟩|⟨kvs,k,b,e,ey,eb,l⟩
 ·subst ey
  obtain ⟨z,hd,vs,rel,dd⟩:=dk_rd I.hok e
  refine call_meetsIn PySem.F.slot_dict_get dd.typeIs PySem.F.entry_dict_get (PySem.F.args_dict_get_3 _ _ _) (meets_dict_get_default (mixKind X.prog X.w) a (kV_is ry) hd r) ⟨_,dd.mapOf,h _ _ (I.tok _) ?_⟩
  rw [l]
  exact (rel.val k).getD rd
 ·subst ey
  cases (show u=Value.ref b from ry)
  obtain ⟨z,hd,xs,rel,dd⟩:=dt_rd I.hok e
  refine call_meetsIn PySem.F.slot_dict_get dd.typeIs PySem.F.entry_dict_get (PySem.F.args_dict_get_3 _ _ _) (meetsH_dict_get_default (tupleKind (mixKind X.prog X.w)) a b hd r) ⟨tupleKind_room_in1 hu,k,xs,key_of I.hok eb,dd,h _ _ (I.tok _) ?_⟩
  rw [l]
  exact (rel.val k).getD rd
end
def tDGet1 (td ty:TE):TE:=fun σ H Q=>td σ H fun x H1=>∃a,x = .ref a∧IsD H1 a∧ty σ H1 fun y H2=>∃o,DGet H2 a y o∧Q (o.getD .non) H2
def tDGet2 (td ty tx:TE):TE:=fun σ H Q=>td σ H fun x H1=>∃a,x = .ref a∧IsD H1 a∧ty σ H1 fun y H2=>tx σ H2 fun z H3=>∃o,DGet H3 a y o∧Q (o.getD z) H3
section
variable {X:Cx} {o e f:Expr} {apos cpos:Pos} {td ty tx:TE}
theorem pe_dget1 (hu:X.A.units+1<cLine) (ho:PE X o td) (he:PE X e ty) (m:M1 X o "get" apos e cpos):PE X (.Call (.Attribute o "get" apos) [e] [] cpos) (tDGet1 td ty):=by
 intro pins s σ H Q I h
 refine wpAny_Call_method m.base m.few m.line PySem.F.plainAttrs_dict PySem.F.slot_dict_get PySem.F.type_dict_get (thn (ho s σ H _ I h) fun u s1 hz_ => ?_)
 refine Elim.el hz_ _ ?_
 clear hz_
 rintro x H1 I1 rx ⟨a,ex,d,q1⟩
 subst ex
 obtain rfl:u=Value.ref a:=rx
 obtain ⟨t1,t2,_⟩:=isD_at I1 d
 refine ⟨t1,t2,?_⟩
 rw [m.trees]
 refine Calls.callWith_builtin rfl (Calls.evalArgs_plain (Calls.spliced_cons (thn (he s1 σ H1 _ I1 q1) fun iv s2 ⟨y,H2,I2,ry,ov,g,q2⟩=>Calls.spliced_nil ?_)))
 exact d_get1 hu I2 g ry fun w' s3 I3 rw'=>⟨_,H2,I3,rw',q2⟩
theorem pe_dget2 (hu:X.A.units+1<cLine) (ho:PE X o td) (he:PE X e ty) (hf:PE X f tx) (m:M2 X o "get" apos e f cpos):PE X (.Call (.Attribute o "get" apos) [e,f] [] cpos) (tDGet2 td ty tx):=by
 intro pins s σ H Q I h
 refine wpAny_Call_method m.base m.few m.line PySem.F.plainAttrs_dict PySem.F.slot_dict_get PySem.F.type_dict_get (thn (ho s σ H _ I h) fun u s1 hz_ => ?_)
 refine Elim.el hz_ _ ?_
 clear hz_
 rintro x H1 I1 rx ⟨a,ex,d,q1⟩
 subst ex
 obtain rfl:u=Value.ref a:=rx
 obtain ⟨t1,t2,_⟩:=isD_at I1 d
 refine ⟨t1,t2,?_⟩
 rw [m.trees]
 refine Calls.callWith_builtin rfl (Calls.evalArgs_plain (Calls.spliced_cons (thn (he s1 σ H1 _ I1 q1) fun iv s2 ⟨y,H2,I2,ry,q2⟩=>
  Calls.spliced_cons (thn (hf s2 σ H2 _ I2 q2) fun fv s3 ⟨z,H3,I3,rz,ov,g,q3⟩=>Calls.spliced_nil ?_))))
 exact d_get2 hu I3 g ry rz fun w' s4 I4 rw'=>⟨_,H3,I4,rw',q3⟩
end
section
variable {X:Cx} {pins:List (Addr×Obj)} {σ:St} {H:Hp} {s:Shared} {a:Addr} {kvs:List (Key×V)} {A:Around} {E:Value→Shared→Prop}
end
section
variable {X:Cx} {pins:List (Addr×Obj)} {σ:St} {H:Hp} {s:Shared} {a:Addr} {y:V} {u:Value} {A:Around} {E:Value→Shared→Prop}
end
end L2
namespace HT
open PySem PyProof.Rows
section
open PySem.SeqAt
open PySem.AutoSeq1 (wpAny_loadPart')
open PySem.MeetsSeq PySem.MeetsSeq2 PySem.MeetsSeq3
end
section
variable {prog:Program} {w:World} {A:Around} {E:Value→Shared→Prop} {s:Shared}
noncomputable def sIx (n d:Nat):Option Int→Nat
 | none=>d
 | some v=>if v<0 then (v+(n:Int)).toNat else min v.toNat n
theorem sIx_none (n d:Nat):sIx n d none=d:=rfl
theorem sIx_nat (n d k:Nat):sIx n d (some (k:Int))=min k n:=by
 show (if (k:Int)<0 then ((k:Int)+(n:Int)).toNat else min (k:Int).toNat n)=min k n
 rw [if_neg (by omega),Int.toNat_natCast]
theorem sIx_le (n d:Nat) (hd:d≤n) (o:Option Int):sIx n d o≤n:=by
 cases o with
 | none=>exact hd
 | some v=>
  show (if v<0 then (v+(n:Int)).toNat else min v.toNat n)≤n
  by_cases hv:v<0
  ·rw [if_pos hv];omega
  ·rw [if_neg hv];exact Nat.min_le_right _ _
theorem clip_eq (v:Int) (n d:Nat):(if v<0 then max (v+(n:Int)) 0 else min v (n:Int))=((sIx n d (some v):Nat):Int):=by
 show (if v<0 then max (v+(n:Int)) 0 else min v (n:Int))=(((if v<0 then (v+(n:Int)).toNat else min v.toNat n):Nat):Int)
 by_cases hv:v<0
 ·simp only [if_pos hv];omega
 ·simp only [if_neg hv];omega
theorem adjust_gen (lo hi:Option Int) (n:Nat):Builtin.Slice.sliceAdjust lo hi 1 (n:Int)=(((sIx n 0 lo:Nat):Int),((sIx n n hi:Nat):Int)):=by
 have h1:¬((1:Int)<0):=by omega
 unfold Builtin.Slice.sliceAdjust
 simp only [h1,if_false]
 refine Prod.ext ?_ ?_
 ·cases lo with
  | none=>rfl
  | some v=>exact clip_eq v n 0
 ·cases hi with
  | none=>rfl
  | some v=>exact clip_eq v n n
theorem places_gen (i j:Nat):Builtin.Slice.slicePlaces (i:Int) (j:Int) 1=j-i:=by
 unfold Builtin.Slice.slicePlaces
 have h1:(1:Int)>0:=by omega
 simp only [h1,if_true,Int.ediv_one]
 split <;> omega
theorem slicePart_ {v:Value} {o:Option Int} {Q:Option Int→Shared→Prop} (p:IsPart v o) (h:Q o s):wpAny (model prog w) A (Builtin.Slice.slicePartIndex v) Q E s:=by
 cases p with
 | none=>exact slicePart_none h
 | int i t=>exact slicePart_int h
theorem sliceApplied_gen {sl:Addr} {vl vu:Value} {lo hi:Option Int} {n:Nat} {Q:Int×Int×Nat→Shared→Prop} (hs:s.heap.IsSliceOf sl vl vu .none) (pl:IsPart vl lo) (pu:IsPart vu hi)
  (h:Q (((sIx n 0 lo:Nat):Int),1,sIx n n hi-sIx n 0 lo) s):wpAny (model prog w) A (Builtin.Slice.sliceApplied (.ref sl) (pure (n:Int))) Q E s:=by
 obtain ⟨os,hos,hcs,hds⟩:=id hs
 unfold Builtin.Slice.sliceApplied Builtin.Slice.sliceFields
 refine wpAny_bind (wpAny_bind (wpAny_field hos hds (x:=vl) rfl (wpAny_bind (wpAny_field hos hds (x:=vu) rfl (wpAny_bind (wpAny_field hos hds (x := .none) rfl (wpAny_pure ?_)))))))
 refine wpAny_bind (slicePart_none ?_)
 show wpAny _ _ (if ((1:Int) == 0)=true then _ else _) _ _ s
 rw [if_neg (by decide)]
 refine wpAny_bind (slicePart_ pl (wpAny_bind (slicePart_ pu (wpAny_bind (wpAny_pure ?_)))))
 show wpAny _ _ (match Builtin.Slice.sliceAdjust lo hi 1 (n:Int) with|(lo,hi)=>pure (lo,(1:Int),Builtin.Slice.slicePlaces lo hi 1)) _ _ s
 rw [adjust_gen lo hi n]
 show wpAny _ _ (pure (((sIx n 0 lo:Nat):Int),(1:Int),Builtin.Slice.slicePlaces ((sIx n 0 lo:Nat):Int) ((sIx n n hi:Nat):Int) 1)) _ _ s
 rw [places_gen]
 exact wpAny_pure h
theorem pick_gen (xs:Array Value) (i k:Nat):((List.range k).filterMap fun (m:Nat)=>xs[((i:Int)+(m:Int)*1).toNat]?).toArray=((xs.toList.drop i).take k).toArray:=by
 have e:(fun (m:Nat)=>xs[((i:Int)+(m:Int)*1).toNat]?)=fun m=>xs[i+m]?:=by
  funext m
  have:((i:Int)+(m:Int)*1).toNat=i+m:=by omega
  rw [this]
 rw [e]
 have:=pick_run xs i k
 rw [List.filterMap_map] at this
 have e2:((fun x=>xs[x]?) ∘ fun x=>i+x)=fun m=>xs[i+m]?:=rfl
 rw [e2] at this
 rw [this]
theorem getItem_tuple_cut {t sl:Addr} {items:Array Value} {vl vu:Value} {lo hi:Option Int} {Q:Value→Shared→Prop} (ht:IsTup s.heap t items) (hs:s.heap.IsSliceOf sl vl vu .none) (pl:IsPart vl lo) (pu:IsPart vu hi)
  (hw:¬(sIx items.size 0 lo=0∧sIx items.size items.size hi=items.size))
  (h:Q (.ref s.heap.objs.size) { s with heap:=s.heap.push { cls := .type "tuple",data := .seq ((items.toList.drop (sIx items.size 0 lo)).take (sIx items.size items.size hi-sIx items.size 0 lo)).toArray } })
  (hsz:items.size≤sizeLine):wpAny (model prog w) A (getItem (.ref t) (.ref sl)) Q E s:=by
 have htake:sizeOk (.seq ((items.toList.drop (sIx items.size 0 lo)).take (sIx items.size items.size hi-sIx items.size 0 lo)).toArray):=by
  show ((items.toList.drop (sIx items.size 0 lo)).take (sIx items.size items.size hi-sIx items.size 0 lo)).toArray.size≤sizeLine
  rw [List.size_toArray,List.length_take,List.length_drop,Array.length_toList]
  omega
 have hj:sIx items.size items.size hi≤items.size:=sIx_le _ _ (Nat.le_refl _) hi
 obtain ⟨os,hos,hcs,hds⟩:=id hs
 have hTs:s.TypeIs (.ref sl) "slice":=⟨os,hos,hcs⟩
 unfold getItem
 try with_reducible refine wpAny_holding ?_
 first|refine wpAny_bind (wpAny_pure ?_)|skip
 refine wpAny_bind (wpAny_sequenceKey ht.typeIs (by decide) ?_)
 refine wpAny_bind (wpAny_callSpecial?_slot (name:=Str.ofString "__getitem__") ht.typeIs PyProof.Rows.slot_tuple_getitem
  (wpAny_call_entry PyProof.Rows.slot_tuple_getitem ht.typeIs entry_tuple_getitem ?_ (args_tuple_getitem _ _)))
 show wpAny _ _ (Builtin.Tuple.tupleItemsOf (.ref t) >>= _) _ _ s
 refine wpAny_bind (tupleItemsOf_ ht ?_)
 refine wpAny_bind (wpAny_typeOf hTs ?_)
 rw [if_pos (by decide)]
 refine wpAny_bind (sliceApplied_gen hs pl pu ?_)
 have hno:¬((((sIx items.size 0 lo:Nat):Int) == 0&&(1:Int) == 1&&(sIx items.size items.size hi-sIx items.size 0 lo) == items.size)=true):=by
  intro q
  rw [Bool.and_eq_true,Bool.and_eq_true] at q
  have q1:((sIx items.size 0 lo:Nat):Int)=0:=eq_of_beq q.1.1
  have q2:sIx items.size items.size hi-sIx items.size 0 lo=items.size:=eq_of_beq q.2
  exact hw ⟨by omega,by omega⟩
 show wpAny _ _ (if (((sIx items.size 0 lo:Nat):Int) == 0&&(1:Int) == 1&&(sIx items.size items.size hi-sIx items.size 0 lo) == items.size)=true then _ else _) _ _ s
 rw [if_neg hno,pick_gen]
 first
  | exact wpAny_bind (m:=Builtin.Tuple.tupleExact _) (wpAny_newObj_type (wpAny_pure ⟨_,rfl,wpAny_pure h⟩) htake)
  | exact wpAny_bind (m:=Builtin.Tuple.tupleExact _) (wpAny_newObj_type (wpAny_bind (wpAny_pure (wpAny_pure ⟨_,rfl,wpAny_pure h⟩))) htake)
  | exact wpAny_bind (wpAny_bind (m:=Builtin.Tuple.tupleExact _) (wpAny_newObj_type (wpAny_pure (wpAny_pure ⟨_,rfl,wpAny_pure h⟩)) htake))
  | exact wpAny_bind (wpAny_bind (m:=Builtin.Tuple.tupleExact _) (wpAny_newObj_type (wpAny_pure ⟨_,rfl,wpAny_pure h⟩) htake))
end
end HT
namespace L2
open PySem PySem.Spec PyProof.Rows
abbrev TO:=St→Hp→(Option Int→Hp→Prop)→Prop
def PO (X:Cx) (e:Option Expr) (t:TO):Prop:=
 ∀ ⦃pins:List (Addr×Obj)⦄ (s:Shared) (σ:St) (H:Hp) (Q:Option Int→Hp→Prop),Inv X pins σ H s→t σ H Q →
  wpAny (model X.prog X.w) X.A (evalPart e X.env) (fun u s'=>Ex2 fun o H'=>Inv X pins σ H' s'∧IsPart u o∧Q o H') X.xe s
noncomputable def tNoPart:TO:=fun _ H Q=>Q none H
noncomputable def tPart (t:TE):TO:=fun σ H Q=>t σ H fun x H1=>∃i,x = .int i∧Q (some i) H1
section
variable {X:Cx} {e:Expr} {te:TE} {lo hi:Option Expr} {tl th:TO} {pos p2:Pos}
theorem po_none:PO X none tNoPart:=by
 intro pins s σ H Q I h
 rw [evalPart_none]
 exact wpAny_pure ⟨none,H,I, .none,h⟩
theorem po_some (h:PE X e te):PO X (some e) (tPart te):=by
 intro pins s σ H Q I hw
 rw [evalPart_some]
 refine thn (h s σ H _ I hw) fun u s1 hz_ => ?_
 refine Elim.el hz_ _ ?_
 clear hz_
 rintro x H1 I1 r1 q1
 obtain ⟨i,rfl,q⟩:=q1
 obtain ⟨t,rfl⟩:=r1
 exact ⟨some i,H1,I1, .int i t,q⟩
def SlR (X:Cx) (r:V→Option Int→Option Int→Hp→VK→Prop):Prop:=
 ∀ ⦃pins:List (Addr×Obj)⦄ (s:Shared) (σ:St) (H:Hp) (x:V) (v vl vu:Value) (lo hi:Option Int) (sl:Addr) (Q:VK),Inv X pins σ H s→RelV x v→s.heap.IsSliceOf sl vl vu .none→IsPart vl lo→IsPart vu hi→r x lo hi H Q →
  Ex2 fun T id=>typeLookup (.type T) "__getitem__" = pure (some (.builtin id))∧s.TypeIs v T∧wpAny (model X.prog X.w) X.A (getItem v (.ref sl)) (EP X pins σ Q) X.xe s
theorem SlR.or {r r':V→Option Int→Option Int→Hp→VK→Prop} (h:SlR X r) (h':SlR X r'):SlR X (fun x lo hi H Q=>r x lo hi H Q∨r' x lo hi H Q):=by
 intro pins s σ H x v vl vu lo hi sl Q I rx hs pl pu q
 rcases q with q|q
 ·exact h s σ H x v vl vu lo hi sl Q I rx hs pl pu q
 ·exact h' s σ H x v vl vu lo hi sl Q I rx hs pl pu q
def tSl (r:V→Option Int→Option Int→Hp→VK→Prop) (te:TE) (tl th:TO):TE:=fun σ H Q=>te σ H fun x H1=>tl σ H1 fun l H2=>th σ H2 fun u H3=>r x l u H3 Q
theorem pe_slice {r:V→Option Int→Option Int→Hp→VK→Prop} (hr:SlR X r) (he:PE X e te) (hl:PO X lo tl) (hu:PO X hi th):PE X (.Subscript e (.Slice lo hi none p2) pos) (tSl r te tl th):=by
 intro pins s σ H Q I h
 refine Subscript_ (thn (he s σ H _ I h) fun v s1 hz_ => ?_)
 refine Elim.el hz_ _ ?_
 clear hz_
 rintro x H1 I1 r1 q1
 refine wpAny_Slice (thn (hl s1 σ H1 _ I1 q1) fun vl s2 hz_=>Elim.el hz_ _ fun l H2 I2 pl q2=>thn (hu s2 σ H2 _ I2 q2) fun vu s3 hz_ => ?_)
 refine Elim.el hz_ _ ?_
 clear hz_
 rintro u H3 I3 pu q3
 rw [evalPart_none]
 refine wpAny_pure ?_
 have I4:Inv X pins σ H3 { s3 with heap:=s3.heap.push { cls := .type "slice",data := .fields #[vl,vu, .none] } }:=I3.kept (t':=s3.toks) fun b ob q=>Heap.get?_push_of_some _ q
 obtain ⟨T,id,hT,ht,hg⟩:=hr { s3 with heap:=s3.heap.push { cls := .type "slice",data := .fields #[vl,vu, .none] } } σ H3 x v vl vu l u s3.heap.objs.size Q I4 r1 (Heap.IsSliceOf.new ..) pl pu q3
 show wpAny (model X.prog X.w) X.A (subscriptTail e (.Slice lo hi none p2) v (.ref s3.heap.objs.size)) (EP X pins σ Q) X.xe { s3 with heap:=s3.heap.push { cls := .type "slice",data := .fields #[vl,vu, .none] } }
 exact tail_any (ops:=[.ref s3.heap.objs.size,v]) ht hT hg (by with_unfolding_all rfl)
noncomputable def cutV (xs:List V) (lo hi:Option Int):List V:=(xs.drop (HT.sIx xs.length 0 lo)).take (HT.sIx xs.length xs.length hi-HT.sIx xs.length 0 lo)
theorem cutV_length (xs:List V) (lo hi:Option Int):(cutV xs lo hi).length≤xs.length:=by
 unfold cutV
 rw [List.length_take,List.length_drop]
 omega
def rSlT (K:PySem.W.Frag):V→Option Int→Option Int→Hp→VK→Prop:=fun x lo hi H Q=>Ex2 fun a xs=>x = .ref a∧SqT K H a xs ∧
 ¬(HT.sIx xs.length 0 lo=0∧HT.sIx xs.length xs.length hi=xs.length)∧∀p,H p=none→Q (.ref p) (upd H p (.tup (cutV xs lo hi)))
theorem sl_tup:SlR X (rSlT X.K):=by
 intro pins s σ H x v vl vu lo hi sl Q I rx hs pl pu h
 obtain ⟨a,xs,rfl,hx,hw,q⟩:=h
 cases rx
 obtain ⟨its,r,ht,hz⟩:=I.tuple hx
 have hlen:its.toArray.size=xs.length:=by rw [List.size_toArray];exact r.length.symm
 refine ⟨"tuple",_,PyProof.Rows.slot_tuple_getitem.lookup,ht.typeIs,?_⟩
 refine HT.getItem_tuple_cut ht hs pl pu (by rw [hlen];exact hw) ?_ (by rw [hlen];exact hz)
 rw [hlen]
 refine ⟨.ref s.heap.objs.size,_,I.laid (t':=s.toks) (o := .tup (cutV xs lo hi)) (fun b ob q=>Heap.get?_push_of_some _ q) (Nat.le_refl _) ?_,rfl,q _ (I.hok.fresh (Nat.le_refl _))⟩
 exact ⟨Nat.le_trans (cutV_length xs lo hi) hz,_,(r.drop (HT.sIx xs.length 0 lo)).take (HT.sIx xs.length xs.length hi-HT.sIx xs.length 0 lo),IsTup.new _ _⟩
end
end L2
namespace L2
open PySem PySem.Spec PyProof.Rows
noncomputable def ixN (n:Nat) (i:Int):Option Nat:=if 0≤i then (if i<n then some i.toNat else none) else if -(n:Int)≤i then some (i+n).toNat else none
noncomputable def atI {α:Type} (xs:List α) (i:Int):Option α:=(ixN xs.length i).bind fun j=>xs[j]?
theorem ixN_seq {n:Nat} {i:Int} {j:Nat} (h:ixN n i=some j):seqIndex? i n=some j∧j<n ∧ -(n:Int)≤i∧i<n:=by
 unfold ixN at h
 by_cases h0:0≤i
 ·rw [if_pos h0] at h
  by_cases h1:i<n
  ·rw [if_pos h1] at h
   have e:i.toNat=j:=Option.some.inj h
   exact ⟨by rw [seqIndex_of h0 h1,e],by omega,by omega,h1⟩
  ·rw [if_neg h1] at h;cases h
 ·rw [if_neg h0] at h
  by_cases h1 : -(n:Int)≤i
  ·rw [if_pos h1] at h
   have e:(i+n).toNat=j:=Option.some.inj h
   exact ⟨by rw [seqIndex_neg (by omega) h1,e],by omega,h1,by omega⟩
  ·rw [if_neg h1] at h;cases h
theorem atI_get {α:Type} {xs:List α} {i:Int} {v : α} (h:atI xs i=some v):∃j,seqIndex? i xs.length=some j∧xs[j]? = some v∧j<xs.length ∧ -(xs.length:Int)≤i∧i<xs.length:=by
 unfold atI at h
 cases e:ixN xs.length i with
 | none=>rw [e] at h;cases h
 | some j=>
  rw [e] at h
  obtain ⟨h1,h2,h3,h4⟩:=ixN_seq e
  exact ⟨j,h1,h,h2,h3,h4⟩
theorem atI_nat {α:Type} {xs:List α} {j:Nat} {v : α} (h:xs[j]? = some v):atI xs (j:Int)=some v:=by
 have hj:j<xs.length:=(List.getElem?_eq_some_iff.mp h).1
 have e:ixN xs.length (j:Int)=some j:=by
  unfold ixN
  rw [if_pos (by omega),if_pos (by omega)];simp
 unfold atI;rw [e];exact h
def PlainIx (b:Expr):Prop:=∀o i,subscripted b false o i=operate [o,i] (getItem o i)
def IxR (X:Cx) (r:R2):Prop:=
 ∀ ⦃value slice:Expr⦄ ⦃pins:List (Addr×Obj)⦄ (s:Shared) (σ:St) (H:Hp) (x y:V) (v u:Value) (Q:VK),Inv X pins σ H s→RelV x v→RelV y u→r x y H Q →
  subscripted slice false v u=operate [v,u] (getItem v u)→wpAny (model X.prog X.w) X.A (subscriptTail value slice v u) (EP X pins σ Q) X.xe s
def MtR (X:Cx) (id:String) (r:V→List V→Hp→VK→Prop):Prop:=
 ∀ ⦃pins:List (Addr×Obj)⦄ (s:Shared) (σ:St) (H:Hp) (x:V) (xs:List V) (v:Value) (us:List Value) (Q:VK),Inv X pins σ H s→RelV x v→Vals xs us→r x xs H Q →
  wpAny (model X.prog X.w) X.A (call (.builtin id) (v :: us)) (EP X pins σ Q) X.xe s
section
variable {X:Cx} {a b:Expr} {ta tb:TE} {pos:Pos}
theorem IxR.or {r r':R2} (h:IxR X r) (h':IxR X r'):IxR X (fun x y H Q=>r x y H Q∨r' x y H Q):=by
 intro value slice pins s σ H x y v u Q I rx ry q hs
 rcases q with q|q
 ·exact h s σ H x y v u Q I rx ry q hs
 ·exact h' s σ H x y v u Q I rx ry q hs
theorem pe_ix {r:R2} (hr:IxR X r) (ha:PE X a ta) (hb:PE X b tb) (hs:PlainIx b):PE X (.Subscript a b pos) (tOp r ta tb):=by
 intro pins s σ H Q I h
 exact Subscript_ (binT ha hb I h fun v u s2 x y H2 I2 rx ry q=>hr s2 σ H2 x y v u Q I2 rx ry q (hs _ _))
def rIxL (K:PySem.W.Frag):R2:=fun x y H Q=>Ex4 fun p xs i v=>x = .ref p∧y = .int i∧SqL K H p xs∧atI xs i=some v∧Q v H
def rIxT (K:PySem.W.Frag):R2:=fun x y H Q=>Ex4 fun p xs i v=>x = .ref p∧y = .int i∧SqT K H p xs∧atI xs i=some v∧Q v H
def rIxS:R2:=fun x y H Q=>Ex3 fun z i c=>x = .str z∧y = .int i∧z.length≤sizeLine∧atI z.cps.toList i=some c∧Q (.str ⟨#[c]⟩) H
theorem ix_list:IxR X (rIxL X.K):=by
 intro value slice pins s σ H x y v u Q I rx ry h hs
 obtain ⟨p,xs,i,z,rfl,rfl,hq,he,q⟩:=h
 cases rx
 obtain ⟨t,rfl⟩:=ry
 obtain ⟨its,r,pl,hz⟩:=I.list hq
 obtain ⟨j,h1,h2,h3,h4,h5⟩:=atI_get he
 obtain ⟨w,ew,rw'⟩:=r.get h2
 have hl:=r.length
 have hn:=line63
 have fin:EP X pins σ Q w s:=⟨z,H,I,rw',q⟩
 by_cases h0:0≤i
 ·have hj:i.toNat=j:=by
   rw [seqIndex_of h0 h5] at h1
   exact Option.some.inj h1
  exact item_listR pl.isList h0 (by omega) (by rw [hj];simpa using ew) fin hs
 ·have hj:(i+(its.toArray.size:Int)).toNat=j:=by
   rw [seqIndex_neg (by omega) h4] at h1
   rw [List.size_toArray, ←hl]
   exact Option.some.inj h1
  exact subscriptTail_builtinR (x:=w) pl.isList.typeIs slot_list_getitem.lookup
   (wpAny_getItem_list_neg (Q:=fun r s'=>r=w∧EP X pins σ Q r s') pl.isList (by omega) (by rw [List.size_toArray] <;> omega) (by omega) (by rw [hj];simpa using ew) ⟨rfl,fin⟩) hs
theorem ix_tup:IxR X (rIxT X.K):=by
 intro value slice pins s σ H x y v u Q I rx ry h hs
 obtain ⟨p,xs,i,z,rfl,rfl,hq,he,q⟩:=h
 cases rx
 obtain ⟨t,rfl⟩:=ry
 obtain ⟨its,r,pl,hz⟩:=I.tuple hq
 obtain ⟨j,h1,h2,h3,h4,h5⟩:=atI_get he
 obtain ⟨w,ew,rw'⟩:=r.get h2
 have hl:=r.length
 have hn:=line63
 have fin:EP X pins σ Q w s:=⟨z,H,I,rw',q⟩
 exact subscriptTail_builtinR (x:=w) pl.typeIs slot_tuple_getitem.lookup
  (getItem_tuple (j:=j) (Q:=fun r s'=>r=w∧EP X pins σ Q r s') pl (by omega) (by omega) (by rw [List.size_toArray, ←hl];exact h1) (by simpa using ew) ⟨rfl,fin⟩) hs
theorem ix_str:IxR X rIxS:=by
 intro value slice pins s σ H x y v u Q I rx ry h hs
 obtain ⟨z,i,c,rfl,rfl,hz,he,q⟩:=h
 obtain ⟨t,rfl⟩:=rx
 obtain ⟨t',rfl⟩:=ry
 obtain ⟨j,h1,h2,h3,h4,h5⟩:=atI_get he
 have hl:z.cps.toList.length=z.length:=by simp [Str.length]
 rw [hl] at h1 h4 h5
 have hn:=line63
 exact tail_any (typeIs_str s z t) slot_str_getitem.lookup (getItem_str (c:=c) (by
  have e1:decide (i < -(2 ^ 63:Int))=false:=decide_eq_false (by omega)
  have e2:decide (i≥2 ^ 63)=false:=decide_eq_false (by omega)
  rw [e1,e2,Bool.or_false]) (by rw [h1];simpa using h2) ⟨.str ⟨#[c]⟩,H,I.tok _,⟨_,rfl⟩,q⟩) hs
def rIx (K:PySem.W.Frag):R2:=fun x y H Q=>rIxL K x y H Q∨rIxT K x y H Q∨rIxS x y H Q
theorem ix_seq:IxR X (rIx X.K):=ix_list.or (ix_tup.or ix_str)
theorem mapSeq_set (its:List Value) (n j:Nat) (u:Value):Obj.mapSeq (·.setIfInBounds j u) { cls := .type "list",data := .seq its.toArray n } = { cls := .type "list",data := .seq (its.set j u).toArray n }:=by
 simp [Obj.mapSeq]
theorem Inv.lst {pins:List (Addr×Obj)} {σ:St} {H:Hp} {s:Shared} {p:Addr} {xs:List V} (I:Inv X pins σ H s) (h:H p=some (.lst xs)) :
  ∃(its:List Value) (n:Nat),Vals xs its∧s.heap.get? p=some { cls := .type "list",data := .seq its.toArray n } ∧ xs.length≤sizeLine:=by
 obtain ⟨z,its,n,r,e⟩:=I.hok p _ h
 exact ⟨its,n,r,e,z⟩
theorem Inv.lstUpd {pins:List (Addr×Obj)} {σ:St} {H:Hp} {s:Shared} {p:Addr} {xs ys:List V} {its its':List Value} {n n':Nat} {f:Obj→Obj} (I:Inv X pins σ H s) (h:H p=some (.lst xs))
  (ho:s.heap.get? p=some { cls := .type "list",data := .seq its.toArray n }) (hf:f { cls := .type "list",data := .seq its.toArray n } = { cls := .type "list",data := .seq its'.toArray n' }) (r:Vals ys its') (hz:ys.length≤sizeLine) (t:Nat) :
  Inv X pins σ (upd H p (.lst ys)) { s with heap:=s.heap.update p f,toks:=t }:=by
 have e:(s.heap.update p f).get? p=some { cls := .type "list",data := .seq its'.toArray n' }:=by
  rw [Heap.get?_update_self f ho (by rw [hf] <;> rfl),hf]
 refine I.write (x:=p) (e:=p) (by rw [h];trivial) (.inl rfl) (fun b u hb q=>(Heap.get?_update_other _ _ (Ne.symm hb)).trans q) ⟨_,e⟩ ?_
 exact ⟨hz,its',n',r,e⟩
def rSetL:V→V→V→Hp→(Hp→Prop)→Prop:=fun o i v H Q=>Ex4 fun p xs k j=>o = .ref p∧i = .int k∧H p=some (.lst xs)∧ixN xs.length k=some j∧Q (upd H p (.lst (xs.set j v)))
theorem set_list:PSet X rSetL:=by
 intro pins s σ H o i v ov iv u Q I ro ri rv h
 obtain ⟨p,xs,k,j,rfl,rfl,hp,hj,q⟩:=h
 cases ro
 obtain ⟨t,rfl⟩:=ri
 obtain ⟨its,n,r,ho,hz⟩:=I.lst hp
 obtain ⟨h1,h2,h3,h4⟩:=ixN_seq hj
 have hl:=r.length
 have hn:=line63
 have I':Inv X pins σ (upd H p (.lst (xs.set j v))) { s with heap:=s.heap.update p (Obj.mapSeq (·.setIfInBounds j u)) }:=
  I.lstUpd hp ho (mapSeq_set its n j u) (r.set rv j) (by rw [List.length_set];exact hz) s.toks
 by_cases h0:0≤k
 ·have hk:k.toNat=j:=by
   rw [seqIndex_of h0 h4] at h1
   exact Option.some.inj h1
  exact PySem.W.ki_setAt ho h0 (by omega) (by rw [List.size_toArray, ←hl];exact h4) (by rw [hk];exact ⟨_,I',q⟩)
 ·have hk:(k+(its.toArray.size:Int)).toNat=j:=by
   rw [seqIndex_neg (by omega) h3] at h1
   rw [List.size_toArray, ←hl]
   exact Option.some.inj h1
  exact PySem.W.ki_setBack ho (by omega) (by rw [List.size_toArray, ←hl];exact h3) (by omega) (by rw [hk];exact ⟨_,I',q⟩)
theorem slice_bounds (lo hi:Option Int) (n:Nat):(sliceBounds lo hi none n).1=((HT.sIx n 0 lo:Nat):Int)∧(sliceBounds lo hi none n).2.1=((HT.sIx n n hi:Nat):Int)∧(sliceBounds lo hi none n).2.2=1:=by
 refine ⟨?_,?_,rfl⟩
 ·cases lo with
  | none=>simp [sliceBounds,HT.sIx]
  | some i=>
   simp only [sliceBounds,HT.sIx,Option.getD_none,show (1:Int)>0 by decide,if_true]
   by_cases h:i<0
   ·simp only [h,if_true] <;> omega
   ·simp only [h,if_false] <;> omega
 ·cases hi with
  | none=>simp [sliceBounds,HT.sIx]
  | some i=>
   simp only [sliceBounds,HT.sIx,Option.getD_none,show (1:Int)>0 by decide,if_true]
   by_cases h:i<0
   ·simp only [h,if_true] <;> omega
   ·simp only [h,if_false] <;> omega
theorem slicePick_cut (its:List Value) (lo hi:Option Int):slicePick its.toArray lo hi none=((its.drop (HT.sIx its.length 0 lo)).take (HT.sIx its.length its.length hi-HT.sIx its.length 0 lo)).toArray:=by
 obtain ⟨h1,h2,h3⟩:=slice_bounds lo hi its.toArray.size
 unfold slicePick
 rw [h1,h2,h3]
 simp only [sliceRange_one,pick_run,List.size_toArray] <;> rfl
def rSlL (K:PySem.W.Frag):V→Option Int→Option Int→Hp→VK→Prop:=fun x lo hi H Q=>Ex2 fun a xs=>x = .ref a∧SqL K H a xs∧∀p,H p=none→Q (.ref p) (upd H p (.lst (cutV xs lo hi)))
theorem sl_list:SlR X (rSlL X.K):=by
 intro pins s σ H x v vl vu lo hi sl Q I rx hs pl pu h
 obtain ⟨a,xs,rfl,hx,q⟩:=h
 cases rx
 obtain ⟨its,r,ht,hz⟩:=I.list hx
 have hlen:=r.length
 refine ⟨"list",_,slot_list_getitem.lookup,ht.isList.typeIs,?_⟩
 refine wpAny_getItem_list_slice ht.isList hs pl pu .none (by simp) ?_ (by rw [List.size_toArray] <;> omega)
 rw [slicePick_cut, ←hlen]
 refine ⟨.ref s.heap.objs.size,_,I.laid (t':=s.toks) (o := .lst (cutV xs lo hi)) (fun b ob q=>Heap.get?_push_of_some _ q) (Nat.le_refl _) ?_,rfl,q _ (I.hok.fresh (Nat.le_refl _))⟩
 exact ⟨Nat.le_trans (cutV_length xs lo hi) hz,_,0,(r.drop (HT.sIx xs.length 0 lo)).take (HT.sIx xs.length xs.length hi-HT.sIx xs.length 0 lo),Heap.get?_push_size _ rfl⟩
noncomputable def flatV:V→Bool
 | .non=>true
 | .bl _=>true
 | .int _=>true
 | .str _=>true
 | _=>false
noncomputable def eqV:V→V→Bool
 | .non, .non=>true
 | .bl a, .bl b=>a == b
 | .bl a, .int b=>(if a then 1 else 0) == b
 | .int a, .bl b=>a == (if b then 1 else 0)
 | .int a, .int b=>a == b
 | .str a, .str b=>a == b
 | _,_=>false
theorem eqAt_V {A:Around} {s:Shared} {y x:V} {u v:Value} (ry:RelV y u) (rx:RelV x v) (fy:flatV y=true) (fx:flatV x=true):SeqAt.EqAt A s u v (eqV y x):=by
 cases y with
 | non=>
  cases ry
  cases x with
  | non=>cases rx;exact SeqAt.EqAt.same _
  | bl b=>cases rx;exact SeqAt.EqAt.none_bool b
  | int b=>obtain ⟨t,rfl⟩:=rx;exact SeqAt.EqAt.none_int b t
  | str b=>obtain ⟨t,rfl⟩:=rx;exact SeqAt.EqAt.none_str b t
  | _=>exact absurd (show false=true from fx) Bool.false_ne_true
 | bl a=>
  cases ry
  cases x with
  | non=>cases rx;exact SeqAt.EqAt.bool_none a
  | bl b=>cases rx;exact SeqAt.EqAt.bool_bool a b
  | int b=>obtain ⟨t,rfl⟩:=rx;exact SeqAt.EqAt.bool_int a b t
  | str b=>obtain ⟨t,rfl⟩:=rx;exact SeqAt.EqAt.bool_str a b t
  | _=>exact absurd (show false=true from fx) Bool.false_ne_true
 | int a=>
  obtain ⟨t',rfl⟩:=ry
  cases x with
  | non=>cases rx;exact SeqAt.EqAt.int_none a t'
  | bl b=>cases rx;exact SeqAt.EqAt.int_bool a t' b
  | int b=>obtain ⟨t,rfl⟩:=rx;exact SeqAt.EqAt.int_int a t' b t
  | str b=>obtain ⟨t,rfl⟩:=rx;exact SeqAt.EqAt.int_str a t' b t
  | _=>exact absurd (show false=true from fx) Bool.false_ne_true
 | str a=>
  obtain ⟨t',rfl⟩:=ry
  cases x with
  | non=>cases rx;exact SeqAt.EqAt.str_none a t'
  | bl b=>cases rx;exact SeqAt.EqAt.str_bool a t' b
  | int b=>obtain ⟨t,rfl⟩:=rx;exact SeqAt.EqAt.str_int a t' b t
  | str b=>obtain ⟨t,rfl⟩:=rx;exact SeqAt.EqAt.str_str a t' b t
  | _=>exact absurd (show false=true from fx) Bool.false_ne_true
 | _=>exact absurd (show false=true from fy) Bool.false_ne_true
noncomputable def eqU (x:V) (u:Value):Bool:=match u with
 | .none=>eqV .non x
 | .bool b=>eqV (.bl b) x
 | .int i _=>eqV (.int i) x
 | .str z _=>eqV (.str z) x
 | _=>false
theorem eqU_of {x y:V} {u:Value} (r:RelV y u) (f:flatV y=true):eqU x u=eqV y x:=by
 cases y with
 | non=>cases r;rfl
 | bl b=>cases r;rfl
 | int i=>obtain ⟨t,rfl⟩:=r;rfl
 | str z=>obtain ⟨t,rfl⟩:=r;rfl
 | _=>exact absurd (show false=true from f) Bool.false_ne_true
theorem any_eqU {x:V} : ∀{xs:List V} {us:List Value},Vals xs us→xs.all flatV=true→us.any (eqU x)=xs.any fun y=>eqV y x
 | _,_, .nil,_=>rfl
 | y :: xs,u :: us, .cons r t,f=>by
  rw [List.all_cons,Bool.and_eq_true] at f
  rw [List.any_cons,List.any_cons,eqU_of r f.1,any_eqU t f.2]
theorem mem_eqAt {A:Around} {s:Shared} {x:V} {v:Value} (rx:RelV x v) (fx:flatV x=true):∀{xs:List V} {us:List Value},Vals xs us→xs.all flatV=true→∀u∈us,SeqAt.EqAt A s u v (eqU x u)
 | _,_, .nil,_=>fun u hu=>by cases hu
 | y :: xs,u :: us, .cons r t,f=>fun u' hu=>by
  rw [List.all_cons,Bool.and_eq_true] at f
  rcases List.mem_cons.mp hu with rfl|hu
  ·rw [eqU_of r f.1];exact eqAt_V r rx f.1 fx
  ·exact mem_eqAt rx fx t f.2 u' hu
noncomputable def inV (x:V) (xs:List V):Bool:=xs.any fun y=>eqV y x
def rIn (K:PySem.W.Frag) (neg:Bool):R2:=fun x y H Q=>Ex2 fun p xs=>y = .ref p∧(SqL K H p xs∨SqT K H p xs)∧flatV x=true∧xs.all flatV=true∧Q (.bl (if neg then !inV x xs else inV x xs)) H
theorem op_in_seq:OpR X (compareOp .In) (rIn X.K false):=by
 intro pins s σ H x y v u Q I rx ry h
 obtain ⟨p,xs,rfl,hq,fx,fs,q⟩:=h
 cases ry
 rcases hq with hq|hq
 ·obtain ⟨its,r,pl,hz⟩:=I.list hq
  refine SeqAt.in_listAt (eqU x) pl.isList (fun w hw=>mem_eqAt rx fx r fs w (by simpa using hw)) ⟨.bl _,H,I,rfl,?_⟩
  rw [show its.toArray.any (eqU x)=its.any (eqU x) by simp,any_eqU r fs]
  exact q
 ·obtain ⟨its,r,pl,hz⟩:=I.tuple hq
  refine SeqAt.in_tupleAt (eqU x) pl (fun w hw=>mem_eqAt rx fx r fs w (by simpa using hw)) ⟨.bl _,H,I,rfl,?_⟩
  rw [show its.toArray.any (eqU x)=its.any (eqU x) by simp,any_eqU r fs]
  exact q
theorem op_notIn_seq:OpR X (compareOp .NotIn) (rIn X.K true):=by
 intro pins s σ H x y v u Q I rx ry h
 obtain ⟨p,xs,rfl,hq,fx,fs,q⟩:=h
 cases ry
 rcases hq with hq|hq
 ·obtain ⟨its,r,pl,hz⟩:=I.list hq
  refine SeqAt.notIn_listAt (eqU x) pl.isList (fun w hw=>mem_eqAt rx fx r fs w (by simpa using hw)) ⟨.bl _,H,I,rfl,?_⟩
  rw [show its.toArray.any (eqU x)=its.any (eqU x) by simp,any_eqU r fs]
  exact q
 ·obtain ⟨its,r,pl,hz⟩:=I.tuple hq
  refine SeqAt.notIn_tupleAt (eqU x) pl (fun w hw=>mem_eqAt rx fx r fs w (by simpa using hw)) ⟨.bl _,H,I,rfl,?_⟩
  rw [show its.toArray.any (eqU x)=its.any (eqU x) by simp,any_eqU r fs]
  exact q
theorem CallR.or {f:Value} {r r':List V→Hp→VK→Prop} (h:CallR X f r) (h':CallR X f r'):CallR X f (fun xs H Q=>r xs H Q∨r' xs H Q):=by
 intro pins s σ H xs us Q I rs q
 rcases q with q|q
 ·exact h s σ H xs us Q I rs q
 ·exact h' s σ H xs us Q I rs q
theorem call_list_of:CallR X (.type "list") (fun xs H Q=>∃p ys,xs=[.ref p]∧(SqL X.K H p ys∨SqT X.K H p ys)∧∀l,H l=none→Q (.ref l) (upd H l (.lst ys))):=by
 intro pins s σ H xs us Q I r h
 obtain ⟨p,ys,rfl,hq,q⟩:=h
 obtain ⟨u,rfl,rx⟩:=vals1 r
 cases rx
 have fin:∀(its:List Value),Vals ys its→ys.length≤sizeLine→∀(h':Heap) (c':Nat),(∀b o',s.heap.get? b=some o'→h'.get? b=some o') →
   h'.get? s.heap.objs.size=some { cls := .type "list",dict:=none,data := .seq its.toArray c',slots := #[] } → EP X pins σ Q (.ref s.heap.objs.size) { s with heap:=h' }:=fun its r' hz h' c' kp e=>
  ⟨.ref s.heap.objs.size,_,I.laid (t':=s.toks) kp (Nat.le_refl _) (show ObjOk X.prog X.w _ h' _ (.lst ys) from ⟨hz,its,c',r',e⟩),rfl,q _ (I.hok.fresh (Nat.le_refl _))⟩
 rcases hq with hq|hq
 ·obtain ⟨its,r',pl,hz⟩:=I.list hq
  have hlen:=r'.length
  obtain ⟨o,ho,hc,n,hd⟩:=pl.isList
  exact call_list_seq p (.inl rfl) ho hc hd (fun h' c' kp e=>fin its r' hz h' c' kp e) (by simp only [List.size_toArray] <;> omega)
 ·obtain ⟨its,r',pl,hz⟩:=I.tuple hq
  have hlen:=r'.length
  obtain ⟨o,ho,hc,n,hd⟩:=pl
  exact call_list_seq p (.inr rfl) ho hc hd (fun h' c' kp e=>fin its r' hz h' c' kp e) (by simp only [List.size_toArray] <;> omega)
theorem call_tuple_of:CallR X (.type "tuple") (fun xs H Q=>∃p ys,xs=[.ref p]∧((SqL X.K H p ys∧∀l,H l=none→Q (.ref l) (upd H l (.tup ys)))∨(SqT X.K H p ys∧Q (.ref p) H))):=by
 intro pins s σ H xs us Q I r h
 obtain ⟨p,ys,rfl,h⟩:=h
 obtain ⟨u,rfl,rx⟩:=vals1 r
 cases rx
 rcases h with ⟨hq,q⟩|⟨hq,q⟩
 ·obtain ⟨its,r',pl,hz⟩:=I.list hq
  have hlen:=r'.length
  refine call_tuple_list pl.isList (fun h' kp => ?_) (by simp only [List.size_toArray] <;> omega)
  have I1:Inv X pins σ H { s with heap:=h' }:=I.kept (t':=s.toks) kp
  have I2:Inv X pins σ (upd H h'.objs.size (.tup ys)) { s with heap:=h'.push { cls := .type "tuple",data := .seq its.toArray } }:=
   I1.laid (t':=s.toks) (fun b o e=>Heap.get?_push_of_some _ e) (Nat.le_refl _) (show ObjOk X.prog X.w _ _ _ (.tup ys) from ⟨hz,its,r',IsTup.new _ _⟩)
  exact ⟨.ref h'.objs.size,_,I2,rfl,q _ (I1.hok.fresh (Nat.le_refl _))⟩
 ·obtain ⟨its,r',pl,hz⟩:=I.tuple hq
  exact call_tuple_same pl ⟨.ref p,H,I,rfl,q⟩
def tyV (K:PySem.W.Frag) (T:String) (x:V) (H:Hp):Prop:=match x with
 | .str _=>T = "str"
 | .int _=>T = "int"
 | .ref p=>(T = "list" ∧ ∃xs,SqL K H p xs)∨(T = "tuple" ∧ ∃o,K.lookup p=some o∧o.cls = .type "tuple" ∧ o.dict=none) ∨
   (T = "dict" ∧ ((∃kvs,H p=some (.dK kvs))∨∃kvs,H p=some (.dT kvs)))∨(T = "set" ∧ Ex2 fun S n=>H p=some (.set S n))
 | _=>False
theorem tyV_is {pins:List (Addr×Obj)} {σ:St} {H:Hp} {s:Shared} {T:String} {x:V} {v:Value} (I:Inv X pins σ H s) (r:RelV x v) (ty:tyV X.K T x H) :
  s.TypeIs v T∧∀a,v = .ref a→∃ob,s.heap.get? a=some ob∧ob.dict=none:=by
 cases x with
 | str z=>
  obtain ⟨t,rfl⟩:=r
  cases (show T = "str" from ty)
  exact ⟨typeIs_str s z t,fun _ e=>nomatch e⟩
 | int i=>
  obtain ⟨t,rfl⟩:=r
  cases (show T = "int" from ty)
  exact ⟨typeIs_int s i t,fun _ e=>nomatch e⟩
 | ref p=>
  cases r
  rcases ty with ⟨rfl,xs,hq⟩|⟨rfl,o,hk,hc,hd⟩|⟨rfl,hk⟩|⟨rfl,S,n,hk⟩
  ·obtain ⟨its,_,pl,_⟩:=I.list hq
   refine ⟨pl.isList.typeIs,fun a e => ?_⟩
   cases e
   obtain ⟨o,n,e,c,hd,_⟩:=pl
   exact ⟨o,e,hd⟩
  ·refine ⟨⟨o,I.kIn p o hk,hc⟩,fun a e => ?_⟩
   cases e
   exact ⟨o,I.kIn _ o hk,hd⟩
  ·have z:∃o,s.heap.get? p=some o∧o.ExactDict:=by
    rcases hk with ⟨kvs,hk⟩|⟨kvs,hk⟩
    ·obtain ⟨_,_,_,_,o,_,_,e,ex,_⟩:=I.hok p _ hk
     exact ⟨o,e,ex⟩
    ·obtain ⟨_,_,_,_,o,_,_,e,ex,_⟩:=I.hok p _ hk
     exact ⟨o,e,ex⟩
   obtain ⟨o,e,ex⟩:=z
   refine ⟨⟨o,e,ex.1⟩,fun a e2 => ?_⟩
   cases e2
   exact ⟨o,e,ex.2.1⟩
  ·obtain ⟨o,_,_,_,e,ex,_⟩:=I.hok p _ hk
   refine ⟨⟨o,e,ex.1⟩,fun a e2 => ?_⟩
   cases e2
   exact ⟨o,e,ex.2.1⟩
 | _=>exact False.elim ty
def tBM (K:PySem.W.Frag) (T:String) (r:V→List V→Hp→VK→Prop) (to:TE) (t:TA):TE:=fun σ H Q=>to σ H fun x H1=>tyV K T x H1∧t σ H1 fun xs H2=>r x xs H2 Q
variable {o e:Expr} {es:List Expr} {to:TE} {t:TA} {name:Str} {apos cpos:Pos} {T id:String} {r:V→List V→Hp→VK→Prop}
theorem pe_bm (pa:PlainAttrs T) (slot:Slot T name id) (hty:typeOf (.builtin id)=pure (.type "method_descriptor")) (hm:MtR X id r) (ho:PE X o to) (ha:PA X (e :: es) t)
  (hbase:attributeBase o name X.env (eval o X.env)=eval o X.env:=by rfl)
  (hfew:((backTo cpos (starEach (e :: es) X.env)).all (fun x => !x.1)&&(backToKw cpos (keywordEach [] X.env)).all (fun x=>x.1.isSome)
   && decide ((e :: es).length+([]:List Keyword).length+(if ([]:List Keyword).isEmpty then 0 else 1)<30))=true:=by rfl)
  (hline:(apos.endLine == cpos.line)=true:=by rfl) (hs:starEach (e :: es) X.env=(false,eval e X.env) :: starEach es X.env:=by rfl) (hplain:(backTo cpos (starEach es X.env)).any (·.1)=false:=by rfl) :
  PE X (.Call (.Attribute o name apos) (e :: es) [] cpos) (tBM X.K T r to t):=by
 intro pins s σ H Q I h
 refine wpAny_Call_method_late hbase hfew hline rfl (thn (ho s σ H _ I h) fun v s1 hz_ => ?_)
 refine Elim.el hz_ _ ?_
 clear hz_
 rintro x H1 I1 r1 ⟨ty,q1⟩
 obtain ⟨h1,h2⟩:=tyV_is I1 r1 ty
 refine ⟨T,id,pa,slot,hty,h1,h2,?_⟩
 have hA:=ha (pos:=cpos) s1 σ H1 _ I1 q1
 rw [hs] at hA ⊢
 refine Calls.callWith_builtin (by show (false||(backTo cpos (starEach es X.env)).any (·.1))=false;rw [hplain] <;> rfl) (Calls.evalArgs_plain ?_)
 exact thn hA fun us s2 hz_=>Elim.el hz_ _ fun vs H2 I2 r2 q2=>hm s2 σ H2 x vs v us Q I2 r1 r2 q2
end
end L2
namespace L2
open PySem PySem.Spec PyProof.Rows
def MtM (X:Cx) (id:String) (r:V→List V→Hp→VK→Prop):Prop:=
 ∀ ⦃pins:List (Addr×Obj)⦄ (s:Shared) (σ:St) (H:Hp) (x:V) (xs:List V) (v:Value) (us:List Value) (Q:VK),Inv X pins σ H s→RelV x v→Vals xs us→r x xs H Q →
  wpAny (model X.prog X.w) X.A (call (.builtin id) (v :: us)) (EP X pins σ Q) X.xe s
theorem Vals.hd {x:V} {xs:List V} {us:List Value} (h:Vals (x :: xs) us):∃u r,us=u :: r∧RelV x u∧Vals xs r:=by
 cases h with|cons a b=>exact ⟨_,_,rfl,a,b⟩
theorem Vals.one {x:V} {us:List Value} (h:Vals [x] us):∃u,us=[u]∧RelV x u:=by
 obtain ⟨u,r,rfl,a,h⟩:=h.hd
 cases h
 exact ⟨_,rfl,a⟩
theorem Vals.rep {xs:List V} {us:List Value} (h:Vals xs us):∀k:Nat,Vals (List.replicate k xs).flatten (List.replicate k us).flatten
 | 0 => .nil
 | k+1=>by
  rw [List.replicate_succ,List.replicate_succ,List.flatten_cons,List.flatten_cons]
  exact Vals.append h (Vals.rep h k)
theorem foldl_rep (its:List Value):∀(k:Nat) (acc:List Value),
  List.foldl (fun x1 x2=>x1++x2) acc.toArray (List.replicate k its.toArray)=(acc++(List.replicate k its).flatten).toArray
 | 0,acc=>by simp
 | k+1,acc=>by
  have e:acc.toArray++its.toArray=(acc++its).toArray:=by simp
  have e2:(acc++its)++(List.replicate k its).flatten=acc++(List.replicate (k+1) its).flatten:=by
   rw [List.replicate_succ,List.flatten_cons,List.append_assoc]
  rw [←e2, ←foldl_rep its k (acc++its), ←e,List.replicate_succ,List.foldl_cons]
section
variable {X:Cx} {pins:List (Addr×Obj)} {σ:St} {H:Hp} {s:Shared} {l b:Addr} {xs ys zs:List V}
theorem Inv.lset {its its':List Value} {n:Nat} {f:Array Value→Array Value} {t':Nat} (I:Inv X pins σ H s) (hH:H l=some (.lst xs))
  (e:s.heap.get? l=some { cls := .type "list",data := .seq its.toArray n }) (hf:f its.toArray=its'.toArray) (hv:Vals ys its') (hz:ys.length≤sizeLine) :
  Inv X pins σ (upd H l (.lst ys)) { s with heap:=s.heap.update l (Obj.mapSeq f),toks:=t' }:=by
 have q:=PySem.IsL.update e f
 rw [hf] at q
 refine I.write (x:=l) (e:=l) (by rw [hH];exact trivial) (.inl rfl) (fun b' u hb hu=>(Heap.get?_update_other s.heap (Obj.mapSeq f) (Ne.symm hb)).trans hu) ⟨_,q⟩ ?_
 exact ⟨hz,its',_,hv,q⟩
theorem Inv.lnew {its:List Value} {t':Nat} (I:Inv X pins σ H s) (hv:Vals ys its) (hz:ys.length≤sizeLine) :
  Inv X pins σ (upd H s.heap.objs.size (.lst ys)) { s with heap:=s.heap.push { cls := .type "list",data := .seq its.toArray },toks:=t' }:=
 I.laid (fun _ _ q=>Heap.get?_push_of_some _ q) (Nat.le_refl _) ⟨hz,its,0,hv,Heap.get?_push_size _ rfl⟩
theorem Inv.fresh (I:Inv X pins σ H s):H s.heap.objs.size=none:=I.hok.fresh (Nat.le_refl _)
theorem Inv.lstM (I:Inv X pins σ H s) (hH:H l=some (.lst xs)):xs.length≤sizeLine∧∃(its:List Value) (n:Nat),Vals xs its∧xs.length=its.length∧s.heap.get? l=some { cls := .type "list",data := .seq its.toArray n }:=by
 obtain ⟨z,its,n,r,e⟩:=I.hok l _ hH
 exact ⟨z,its,n,r,r.length,e⟩
theorem notLongL {n:Nat} (h:n≤sizeLine):Builtin.List.listTooLong n=false:=by
 unfold Builtin.List.listTooLong
 exact decide_eq_false (by omega)
end
section
variable {X:Cx}
def rAppend:V→List V→Hp→VK→Prop:=fun x vs H Q=>Ex3 fun l xs y=>x = .ref l∧vs=[y]∧H l=some (.lst xs)∧xs.length<sizeLine∧Q .non (upd H l (.lst (xs++[y])))
theorem mt_append:MtM X "list.append" rAppend:=by
 intro pins s σ H x vs v us Q I rx rv h
 obtain ⟨l,xs,y,rfl,rfl,hH,hz,q⟩:=h
 cases rx
 obtain ⟨u,rfl,ru⟩:=rv.one
 obtain ⟨z,its,n,r,hl,e⟩:=I.lstM hH
 refine call_meets F.slot_list_append ⟨_,e,rfl⟩ F.entry_list_append (F.args_list_append_2 _ _) (PySem.list_append l its.toArray n u (by rw [List.size_toArray];omega)) ⟨e,?_⟩
 refine ⟨.non,_,I.lset (its':=its++[u]) hH e (by simp) (r.append (.cons ru .nil)) ?_,rfl,q⟩
 rw [List.length_append,List.length_singleton]
 omega
def rCat:R2:=fun x y H Q=>Ex4 fun l b xs zs=>x = .ref l∧y = .ref b∧H l=some (.lst xs)∧H b=some (.lst zs)∧xs.length+zs.length≤sizeLine∧∀p,H p=none→Q (.ref p) (upd H p (.lst (xs++zs)))
theorem op_cat:OpR X (binaryOp .Add) rCat:=by
 intro pins s σ H x y v u Q I rx ry h
 obtain ⟨l,b,xs,zs,rfl,rfl,hH,hB,hz,q⟩:=h
 cases rx
 cases ry
 obtain ⟨z,its,n,r,hl,e⟩:=I.lstM hH
 obtain ⟨z2,its2,n2,r2,hl2,e2⟩:=I.lstM hB
 refine PySem.P.add_list e e2 ?_ (by rw [List.size_toArray,List.size_toArray];omega)
 have ea:its.toArray++its2.toArray=(its++its2).toArray:=by simp
 rw [ea]
 exact ⟨.ref _,_,I.lnew (t':=s.toks) (r.append r2) (by rw [List.length_append];omega),rfl,q _ I.fresh⟩
def rRep:R2:=fun x y H Q=>Ex3 fun l k xs=>x = .ref l∧y = .int k∧H l=some (.lst xs) ∧ -(2 ^ 63)≤k∧k<2 ^ 63∧xs.length*k.toNat≤sizeLine ∧
 ∀p,H p=none→Q (.ref p) (upd H p (.lst (List.replicate k.toNat xs).flatten))
theorem len_rep {α:Type} (xs:List α) (k:Nat):(List.replicate k xs).flatten.length=k*xs.length:=by
 induction k with
 | zero=>simp
 | succ k ih=>rw [List.replicate_succ,List.flatten_cons,List.length_append,ih,Nat.succ_mul,Nat.add_comm]
theorem op_rep:OpR X (binaryOp .Mult) rRep:=by
 intro pins s σ H x y v u Q I rx ry h
 obtain ⟨l,k,xs,rfl,rfl,hH,h1,h2,hz,q⟩:=h
 cases rx
 obtain ⟨t,rfl⟩:=ry
 obtain ⟨z,its,n,r,hl,e⟩:=I.lstM hH
 have hlen:its.toArray.size*k.toNat≤sizeLine:=by rw [List.size_toArray, ←hl];exact hz
 have hcap:¬its.toArray.size*k.toNat>(2 ^ 63-1) / 8:=by
  have:(sizeLine:Nat)≤(2 ^ 63-1) / 8:=by decide
  omega
 have hfit:¬(!Builtin.List.listFitsIndex k)=true:=by
  rw [fitsIndex_both h1 h2]
  exact Bool.false_ne_true
 have hlong:¬Builtin.List.listTooLong (its.toArray.size*k.toNat)=true:=by
  rw [notLongL hlen]
  exact Bool.false_ne_true
 have hnew:List.foldl (fun x1 x2=>x1++x2) #[] (List.replicate (if its.toArray.isEmpty=true then 0 else k.toNat) its.toArray)=(List.replicate k.toNat its).flatten.toArray:=by
  have f0:∀m:Nat,List.foldl (fun x1 x2=>x1++x2) #[] (List.replicate m its.toArray)=(List.replicate m its).flatten.toArray:=fun m=>by
   have:=foldl_rep its m []
   rw [List.nil_append] at this
   exact this
  rw [f0]
  cases its with
  | nil=>simp
  | cons a r'=>rw [if_neg (by simp)]
 refine wpAny_binaryOp_repeat_ref (T := "list") (U := "int") (by decide) ⟨_,e,rfl⟩ (fun s'=>typeIs_int s' k t) noFill_list_mul F.fills_int_mul F.slot_int_rmul repeat_list F.slot_int_index.lookup
  (call_meets F.slot_int_rmul (typeIs_int s k t) F.entry_int_rmul (F.args_int_rmul_2 _ _) (int___rmul___int_list k t l its.toArray n)
   ⟨e,rfl,⟨_,e,rfl⟩,call_meets F.slot_list_mul ⟨_,e,rfl⟩ F.entry_list_mul (F.args_list_mul_2 _ _) (AutoListH.list___mul___list_int_3 l its.toArray n k t hfit hcap hlong) ⟨e,?_⟩⟩)
 rw [hnew]
 exact ⟨.ref _,_,I.lnew (t':=s.toks) (r.rep k.toNat) (by rw [len_rep,Nat.mul_comm];exact hz),rfl,q _ I.fresh⟩
end
section
variable {prog:Program} {w:World} {A:Around} {E:Value→Shared→Prop} {s:Shared}
set_option maxRecDepth 100000 in
end
section
variable {X:Cx}
end
end L2
namespace Att
open PySem PySem.W PySem.Calls PyProof.Rows
theorem ints_of_wellAll {P:Params} {h:Heap} : ∀(ns:List Int) (vs:List Value),WellAll P h vs (ns.map WData.int)→IntsAre vs ns:=by
 intro ns
 induction ns with
 | nil=>
  intro vs w
  rw [List.map_nil] at w
  cases w
  exact .nil
 | cons n ns ih=>
  intro vs w
  rw [List.map_cons] at w
  cases w with
  | cons a b=>
   cases a
   exact .cons _ _ (ih _ b)
theorem script_of {l:OpenLaw} {n:Nat} (hn:l.most=some n) {P:Params} {h:Heap} {args:List WData} {vals:List Value}
  (hpre:l.row.toRowW.claim.pre args=true) (hwl:WellAll P h vals args) :
  ∃a vs ns,vals=[Value.ref a]∧args=[WData.list (ns.map WData.int)]∧h.get? a=some { cls := .type "list",data := .seq vs.toArray } ∧ IntsAre vs ns∧ns.length≤n:=by
 have hsh:WShape.hasAll [] args [.list .int]=true:=(pre_splitW hpre).1
 have hc:l.pre.holds [] { args:=args } = true:=(pre_splitW hpre).2
 obtain ⟨d,r,rfl,h1,h2⟩:=hasAllW_cons hsh
 obtain rfl:=hasAllW_nil h2
 obtain ⟨xs,rfl,h3⟩:=hasW_list h1
 obtain ⟨ns,rfl⟩:=items_int h3
 have hlen:ns.length≤n:=by
  unfold OpenLaw.pre at hc
  have h4:(WTm.not (.lt (.lit (.int (n:Int))) (.len (.arg 0)))).holds [] { args:=[.list (ns.map .int)] } = true:=by
   have h4:=(holds_andW hc).1
   rw [hn] at h4
   exact h4
  have h5:=condW_of h4 (w_not (w_lt w_lit (w_len_list (w_arg rfl))))
  rw [List.length_map] at h5
  refine Nat.le_of_not_lt fun q => ?_
  have q':(n:Int)<((ns.length:Nat):Int):=by omega
  first
   | (rw [decide_eq_true q'] at h5;exact absurd h5 (by decide))
   | (simp at h5;omega)
 cases hwl with
 | cons w1 w2=>
  cases w2
  cases w1 with
  | list ho hall=>exact ⟨_,_,ns,rfl,rfl,ho,ints_of_wellAll ns _ hall,hlen⟩
theorem post_true (l:OpenLaw) (args:List WData):l.row.toRowW.claim.post args (.bool true) args=true:=
 postW_of (r:=l.row.toRowW) (X:=(true == true))
  (show WShape.has [] (.bool true) .bool=true by first|rfl|decide|simp [WShape.has,WShape.arms,WShape.armsAll])
  (show (WTm.eq .res (.lit (.bool true))).value [] { args:=args,res:=some (.bool true),after:=args } = some (.bool (true == true)) from w_eq_bool (w_res rfl) w_lit) rfl
theorem attach_call {l:OpenLaw} {n:Nat} {q:Program} {loose:List Str} {XP:(Str→Option Value)→Heap→Prop} {YP:World→Heap→Prop} {d:DefRec}
  (hn:l.most=some n) (hdf:d.params.defaults=[])
  (call:∀(w:World) (s₀ s₁:Shared) (mg mb:Str→Option Value) (fa:Addr) (o:Obj) (pm cd doc:Value) (a:Addr) (vs:List Value) (ns:List Int),
   Ground q loose [] XP w s₀ mg mb s₁.heap→YP w s₁.heap →
   s₁.heap.get? fa=some o→o.data = .func (docDef d.name d.params d.body d.scope pm cd doc)→s₁.heap.CodeRec cd d.name→mg d.name=some (.ref fa) →
   s₁.heap.get? a=some { cls := .type "list",data := .seq vs.toArray } → IntsAre vs ns→ns.length≤n→s₁.gens = #[] →
   codeAny (model l.prog w) callerA (.call (.ref fa) ⟨[.ref a],[]⟩) (fun r s'=>r = .ok (.ret (.bool true))∧OldK s₁.heap s'.heap∧s'.os=s₁.os∧AllBare s'.gens) s₁) :
  WalkO q loose XP YP l.row.toRowW d [] (fun f vs=>PySem.call f vs):=by
 intro w s₀ s₁ mg mb G Y fa o pm cd doc dV kV ho hd hcd hD hmg hg args vals as hpre hlay hrd hwl hlo
 obtain rfl:dV = .none:=Dflts.none hD hdf
 obtain rfl:kV = .none:=Dflts.noKw hD
 obtain ⟨a,vs,ns,rfl,rfl,hobj,hints,hlen⟩:=script_of hn hpre hwl
 refine enter_call (codeAny_mono (call w s₀ s₁ mg mb fa o pm cd doc a vs ns G Y ho (fd_plain hd) hcd hmg hobj hints hlen hg) fun r s' hq => ?_)
 obtain ⟨rfl,h2,h3,h4⟩:=hq
 exact ⟨.inl ⟨.bool true, .bool true,[],rfl,fun _=>rfl, .bool true,post_true l _,fun _=>⟨List.Pairwise.nil,fun _ hm=>(nomatch hm)⟩⟩,h2,h3,h4⟩
section
variable {prog:Program} {w:World} {A:Around} {E:Value→Shared→Prop} {s:Shared} {K:Frag}
end
end Att
namespace L2
open PySem PySem.Spec PyProof.Rows
theorem vals_ints {vs:List Value} {ns:List Int} (h:IntsAre vs ns):Vals (ns.map V.int) vs:=by
 induction h with
 | nil=>exact .nil
 | cons n t h ih=>exact .cons ⟨t,rfl⟩ ih
def Only (H:Hp):Prop:=∀b,H b=none∨Ex2 fun o xs=>H b=some (.frz o (.lst xs))
theorem law_call {P:Program} {w:World} {K:PySem.W.Frag} {mg mb:Str→Option Value} {CX:CXT} {k:Nat} {fa a:Addr} {fd:FuncData} {x:Str} {sp:Sp} {s₁:Shared} {vs:List Value} {ns:List Int}
  (KX:K.In s₁.heap) (hns:s₁.heap.Ns mainGlobals mg) (hb:s₁.heap.Ns builtinsNs mb) (hbb:∀x:Str,x ≠ "__name__" → mb x=bootBuiltins x) (hlim:s₁.heap.NoLimit) (hg:s₁.gens = #[])
  (ha:s₁.heap.get? a=some { cls := .type "list",data := .seq vs.toArray }) (hi:IntsAre vs ns) (hl:ns.length≤sizeLine) (hr:Room k callerA)
  (F:∀base:Heap,K.In base→base.Ns mainGlobals mg→FnOk P w K mg base CX k fa fd [x] sp) (hbind:∀(s:Shared) (u:Value),BindsTo s fd ⟨[u],[]⟩ [(x,u)])
  (hsp:∀H:Hp,Only H→SqL K H a (ns.map V.int)→sp [.ref a] H (fun v _=>v = .bl true) fun _ _ _=>False)
  (hCX:∀H e s',CX [] H s₁ (fun _ _ _=>False) e s'→False) :
  codeAny (model P w) callerA (.call (.ref fa) ⟨[.ref a],[]⟩) (fun r s'=>r = .ok (.ret (.bool true))∧OldK s₁.heap s'.heap∧s'.os=s₁.os∧AllBare s'.gens) s₁:=by
 have rv:=vals_ints hi
 have lenV:=hi.length
 have core:∀H:Hp,Only H→SqL K H a (ns.map V.int)→HOk P w H s₁.heap→(∀b,H b≠none→b=a)→(H a≠none→K.lookup a=none) →
   codeAny (model P w) callerA (.call (.ref fa) ⟨[.ref a],[]⟩) (fun r s'=>r = .ok (.ret (.bool true))∧OldK s₁.heap s'.heap∧s'.os=s₁.os∧AllBare s'.gens) s₁:=by
  intro H hO hS hok hA hK
  have base_of:∀{b:Addr} {o:Obj},s₁.heap.get? b=some o→H b=none→(hidT s₁.heap H).get? b=some o:=fun e n=>hidT_get e n
  have noA:∀{b:Addr} {o:Obj} {es:Array DictEntry} {ep:Nat},s₁.heap.get? b=some o→o.data = .dict es ep→H b=none:=fun {b o es ep} e d=>by
   cases q:H b with
   | none=>rfl
   | some u=>
    have e':b=a:=hA b (by rw [q];simp)
    subst e'
    rw [ha] at e;cases e
    have d':Data.seq vs.toArray _=Data.dict es ep:=d
    cases d'
  have nsK:∀{b:Addr} {m:Str→Option Value},s₁.heap.Ns b m→(hidT s₁.heap H).Ns b m:=fun {b m} ⟨o,es,ep,e,d,r⟩=>⟨o,es,ep,base_of e (noA e d),d,r⟩
  have hKb:K.In (hidT s₁.heap H):=fun b o e=>base_of (KX b o e) (by
   cases q:H b with
   | none=>rfl
   | some u=>
    have e':b=a:=hA b (by rw [q];simp)
    subst e'
    rw [hK (by rw [q];simp)] at e;cases e)
  have hM:Mod K mg (hidT s₁.heap H):=⟨hKb,nsK hns,⟨mb,nsK hb,hbb⟩,let ⟨mc,h1,h2⟩:=hlim; ⟨mc,nsK h1,h2⟩⟩
  have e0:Env0 P w K mg (hidT s₁.heap H) callerA [] s₁ H:=⟨rfl,hM,fun b o e=>of_hidT e,Nat.le_of_eq (hidT_size _ _),trivial,fun b hb=>absurd (show b∈([]:List Addr) from hb) (by simp),hok, .of_eq hg⟩
  refine codeAny_mono ((F _ hKb (nsK hns)).run callerA [] s₁ H ⟨[.ref a],[]⟩ [.ref a] [.ref a] _ _ hr e0 (hbind s₁ (.ref a)) (.cons rfl .nil) (hsp H hO hS)) fun r s' h => ?_
  cases r with
  | error e=>exact (hCX H e s' h).elim
  | ok fl=>
   cases fl with
   | next=>exact False.elim h
   | brk=>exact False.elim h
   | cont=>exact False.elim h
   | ret u=>
    obtain ⟨v,H',os,bare,un,hok',r',q⟩:=h
    have q':v = .bl true:=q
    subst q'
    obtain rfl:u=Value.bool true:=r'
    refine ⟨rfl,OldK.of_keep fun b o e => ?_,os,bare⟩
    cases q:H b with
    | none=>exact un.keep b o e q (by intro z;exact absurd (show b∈([]:List Addr) from z) (by simp)) (by simp)
    | some u=>
     rcases hO b with z|⟨ob,xs,z⟩
     ·rw [q] at z;cases z
     ·have z2:=un.frzs b ob _ z
      obtain ⟨e1,_⟩:=hok b _ z
      obtain ⟨e2,_⟩:=hok' b _ z2
      rw [e] at e1;cases e1
      exact e2
 cases hk:K.lookup a with
 | some o=>
  have e:=KX a o hk
  rw [ha] at e
  cases e
  refine core (fun _=>none) (fun _ => .inl rfl) (.inr ⟨_,vs.toArray,_,hk,rfl,rfl,rfl,by rw [List.size_toArray,lenV];exact hl,by simpa using rv⟩) (fun b u z=>by have z':(none:Option HO)=some u:=z;cases z') (fun b z=>absurd rfl z) fun z=>absurd rfl z
 | none=>
  refine core (fun b=>if b=a then some (.frz { cls := .type "list",data := .seq vs.toArray } (.lst (ns.map V.int))) else none) (fun b => ?_) (.inl (.inr ⟨{ cls := .type "list",data := .seq vs.toArray },if_pos rfl⟩)) (fun b u z => ?_) (fun b z => ?_) fun _=>hk
  ·by_cases hb:b=a
   ·exact .inr ⟨_,_,if_pos hb⟩
   ·exact .inl (if_neg hb)
  ·by_cases hb:b=a
   ·have z':=(if_pos hb).symm.trans z
    cases z'
    subst hb
    exact ⟨ha,by rw [List.length_map];exact hl,vs,_,rv,ha⟩
   ·have z':=(if_neg hb).symm.trans z
    cases z'
  ·by_cases hb:b=a
   ·exact hb
   ·exact absurd (if_neg hb) z
end L2
namespace L2
open PySem PySem.Spec PyProof.Rows
theorem walk_of {l:PySem.W.OpenLaw} {n k:Nat} {q:Program} {loose:List Str} {XP:(Str→Option Value)→Heap→Prop} {YP:World→Heap→Prop} {d:DefRec} {K:Params→PySem.W.Frag} {CX:World→CXT} {sp:World→Sp} {x:Str}
  (hn:l.most=some n) (hn2:n≤sizeLine) (hdf:d.params.defaults=[]) (hr:Room k callerA)
  (hY:∀(w:World) (h:Heap),YP w h→(K w.params).In h)
  (F:∀(w:World) (mg:Str→Option Value) (fa:Addr) (h:Heap),(K w.params).In h→h.Ns mainGlobals mg→mg d.name=some (.ref fa) →
   ∃fd:FuncData,(∀(s:Shared) (u:Value),BindsTo s fd ⟨[u],[]⟩ [(x,u)]) ∧
    ∀base:Heap,(K w.params).In base→base.Ns mainGlobals mg→FnOk l.prog w (K w.params) mg base (CX w) k fa fd [x] (sp w))
  (hsp:∀(w:World) (H:Hp) (a:Addr) (ns:List Int),ns.length≤n→Only H→SqL (K w.params) H a (ns.map V.int)→sp w [.ref a] H (fun v _=>v = .bl true) fun _ _ _=>False)
  (hCX:∀(w:World) (H:Hp) (s:Shared) (e:Value) (s':Shared),CX w [] H s (fun _ _ _=>False) e s'→False) :
  PySem.W.WalkO q loose XP YP l.row.toRowW d [] (fun f vs=>PySem.call f vs):=by
 refine Att.attach_call hn hdf fun w s₀ s₁ mg mb fa o pm cd doc a vs ns G Y ho hd hcd hmg hobj hints hlen hg => ?_
 have KX:=hY w _ Y
 obtain ⟨fd,hb,hF⟩:=F w mg fa _ KX G.T.g hmg
 exact law_call KX G.T.g G.T.b G.T.builtins G.T.nolimit hg hobj hints (Nat.le_trans hlen hn2) hr hF hb (fun H hO hS=>hsp w H a ns hlen hO hS) fun H e s'=>hCX w H s₁ e s'
end L2
namespace L2
open PySem PySem.Spec PyProof.Rows
noncomputable def inClass (s:Stmt) (j:Nat):Stmt:=match s with
 | .ClassDef _ _ _ body _ _ _ _ _ _ _=>body.getD j (.Pass ⟨0,0,0,0⟩)
 | _ => .Pass ⟨0,0,0,0⟩
noncomputable def defArgs (s:Stmt):Arguments:=match s with
 | .FunctionDef _ a _ _ _ _ _ _ _ _=>a
 | _=>{ posonlyargs:=[],args:=[],vararg:=none,kwonlyargs:=[],kw_defaults:=[],kwarg:=none,defaults:=[] }
noncomputable def defBody (s:Stmt):List Stmt:=match s with
 | .FunctionDef _ _ b _ _ _ _ _ _ _=>b
 | _=>[]
noncomputable def defScope (s:Stmt):Scope:=match s with
 | .FunctionDef _ _ _ _ _ _ sc _ _ _=>sc
 | _=>{ kind := .function,names:=[],isGenerator:=false,isCoroutine:=false }
abbrev CX0:CXT:=fun _ _ _ _ _ _=>False
abbrev E0:XK:=fun _ _ _=>False
theorem pass0 {X:Cx} : Passes CX0 X E0:=fun _ _ _ _ _ _ _ h=>h.elim
structure Fun (K:PySem.W.Frag) (x qual:Str) (st:Stmt) (f:Addr) (fd:FuncData):Prop where
 ex:∃(oc:Value) (od:Option Addr) (kV doc pm:Value) (an:Option Addr) (cdv ct:Value) (osl:Array (Option Value)),
  fd=PySem.W.fnOf x qual (defArgs st) (defBody st) (defScope st) .none kV doc pm an cdv ct∧K.lookup f=some ⟨oc,od, .func fd,osl⟩∧PySem.W.codeIn K cdv qual=true
 kp:PySem.W.keepIn K (.ref f)=true
section
variable {P:Program} {w:World} {K:PySem.W.Frag} {mg:Str→Option Value} {base:Heap}
theorem Fun.ok {x qual:Str} {st:Stmt} {f:Addr} {fd:FuncData} {N ps:List Str} {k:Nat} {sp:Sp} (F:Fun K x qual st f fd) (S:FnScope N ps (defScope st)) (len:∀vs H Q E,sp vs H Q E→vs.length=ps.length)
  (hbody:∀(cdv:Value) (A:Around) (outer:List Env) (s:Shared) (H:Hp) (vs:List V) (Q:VK) (E:XK),Room k (A.deeper (envOfC qual (defScope st) s.heap.objs.size f cdv))→sp vs H Q E →
   ∃t,PSs (cxOf CX0 P w K mg base N qual (defScope st) f cdv A outer s H E).nox (defBody st) t∧t { nx:=fun _ H'=>Q .non H',rt:=Q } (start N vs) H):FnOk P w K mg base CX0 (k+1) f fd ps sp:=by
 obtain ⟨oc,od,kV,doc,pm,an,cdv,ct,osl,rfl,lk,hcd⟩:=F.ex
 refine fn_of lk hcd S len fun A outer s H vs Q E hr hsp => ?_
 obtain ⟨t,h,q⟩:=hbody cdv A outer s H vs Q E hr hsp
 exact ⟨t,h.nox,q⟩
theorem Fun.binds {x qual:Str} {st:Stmt} {f:Addr} {fd:FuncData} {ps:List Str} (F:Fun K x qual st f fd)
  (h:∀(kV doc pm:Value) (an:Option Addr) (cdv ct:Value) (us:List Value),us.length=ps.length→bindArgs (PySem.W.fnOf x qual (defArgs st) (defBody st) (defScope st) .none kV doc pm an cdv ct) ⟨us,[]⟩=pure (ps.zip us)):Binds K fd ps []:=by
 obtain ⟨oc,od,kV,doc,pm,an,cdv,ct,osl,rfl,lk,hcd⟩:=F.ex
 exact .all (h kV doc pm an cdv ct)
theorem fun_mk {x qual:Str} {st:Stmt} {f:Addr} {oc:Value} {od an:Option Addr} {osl:Array (Option Value)} {kV doc pm cdv ct:Value} (l:K.lookup f=some ⟨oc,od, .func (PySem.W.fnOf x qual (defArgs st) (defBody st) (defScope st) .none kV doc pm an cdv ct),osl⟩)
  (c:PySem.W.codeIn K cdv qual=true) (k:PySem.W.keepIn K (.ref f)=true):Fun K x qual st f (PySem.W.fnOf x qual (defArgs st) (defBody st) (defScope st) .none kV doc pm an cdv ct):=⟨⟨oc,od,kV,doc,pm,an,cdv,ct,osl,rfl,l,c⟩,k⟩
end
theorem hu_of {A:Around} {k:Nat} (hr:Room k A):A.units+1<cLine:=Nat.lt_of_le_of_lt (Nat.add_le_add_left (by decide:1≤64) _) hr.units
section
variable {X:Cx}
theorem pv (i:Nat) {x:Str} {pos:Pos} (hN:X.N[i]? = some x:=by rfl) (hv:Vis X.env.scope x:=by first|exact Or.inl rfl|exact Or.inr (Or.inl rfl)|exact Or.inr (Or.inr rfl)) (hd:(x == ("__debug__" : Str))=false:=by decide)
  (hcd:(x == ("__classdict__" : Str))=false:=by decide):PE X (.Name x pos) (tVar i):=pe_var hN hv hd hcd
end
theorem iteF {A B:Prop} (h:B):if false=true then A else B:=by
 rw [if_neg Bool.false_ne_true]
 exact h
theorem iteT {A B:Prop} (h:A):if true=true then A else B:=by
 rw [if_pos rfl]
 exact h
theorem ite2 {c A B:Prop} [Decidable c] (h1:c→A) (h2:¬c→B):if c then A else B:=by
 by_cases h:c
 ·rw [if_pos h]
  exact h1 h
 ·rw [if_neg h]
  exact h2 h
def Same (H H':Hp):Prop:=∀b o,H b=some o→H' b=some o
theorem Same.refl (H:Hp):Same H H:=fun _ _ h=>h
theorem Same.trans {H H1 H2:Hp} (a:Same H H1) (b:Same H1 H2):Same H H2:=fun c o h=>b c o (a c o h)
theorem Same.free {H H':Hp} (e:Same H H') {l:Addr} (h:H' l=Option.none):H l=Option.none:=by
 cases q:H l with
 | none=>rfl
 | some o=>
  rw [e l o q] at h
  cases h
theorem Same.seq {K:PySem.W.Frag} {H H':Hp} {a:Addr} {xs:List V} (e:Same H H') (h:SqL K H a xs):SqL K H' a xs:=by
 rcases h with (h|⟨o,h⟩)|h
 ·exact .inl (.inl (e _ _ h))
 ·exact .inl (.inr ⟨o,e _ _ h⟩)
 ·exact .inr h
end L2
namespace L2
open PySem PySem.Spec PyProof.Rows
section
variable {X:Cx}
theorem call_lenD:CallR X (.builtin "len") (fun xs H Q=>∃a kvs,xs=[V.ref a]∧H a=some (.dK kvs)∧Q (.int kvs.length) H):=by
 intro pins s σ H xs us Q I r h
 obtain ⟨a,kvs,rfl,ha,q⟩:=h
 obtain ⟨u,rfl,ru⟩:=vals1 r
 cases ru
 exact d_len I (.inl ha) fun t s' I'=>⟨.int kvs.length,H,I',⟨t,rfl⟩,q⟩
end
end L2
namespace L2
open PySem PySem.Spec PyProof.Rows
section
variable {κ:Type} [DecidableEq κ]
end
end L2
set_option maxHeartbeats 4000000
namespace L2
open PySem PySem.Spec PyProof.Rows
abbrev noE:Value→Shared→Prop:=fun _ _=>False
theorem noE_to {α:Type} {M:Model} {A:Around} {t:Sem α} {Q : α→Shared→Prop} {E:Value→Shared→Prop} {s:Shared} (h:wpAny M A t Q noE s):wpAny M A t Q E s:=
 wpAny_mono h (fun _ _ q=>q) fun _ _ z=>z.elim
theorem addr_ne {a b:Addr} {n:Nat} (h:a<n) (h':n≤b):a≠b:=fun e=>absurd (Nat.lt_of_lt_of_le h h') (by rw [e];exact Nat.lt_irrefl _)
theorem addr_ne' {a b:Addr} {n:Nat} (h:a<n) (h':n≤b):b≠a:=fun e=>addr_ne h h' e.symm
theorem closure_go (env:Env):∀(names:List (Str×NameKind)) (acc:List (Str×Addr)),
  (∀y∈names,y.2 = .free→∃c,env.cells.lookup y.1=some c)→(∀n c,acc.lookup n=some c→env.cells.lookup n=some c) →
  ∃cl,(forIn names acc fun (x:Str×NameKind) (cs:List (Str×Addr))=>(if (x.2 == NameKind.free)=true then do
    let a ←cellOf env x.1
    pure (ForInStep.yield ((x.1,a) :: cs)) else pure (ForInStep.yield cs):Sem (ForInStep (List (Str×Addr)))))=pure cl ∧
   (∀n c,cl.lookup n=some c→env.cells.lookup n=some c)∧(∀n c,acc.lookup n=some c→∃c',cl.lookup n=some c')∧∀y∈names,y.2 = .free→∃c,cl.lookup y.1=some c
 | [],acc,_,h2=>⟨acc,rfl,h2,fun _ c h=>⟨c,h⟩,fun _ h=>nomatch h⟩
 | (n,k) :: r,acc,h1,h2=>by
  have hr:∀y∈r,y.2 = .free→∃c,env.cells.lookup y.1=some c:=fun y hy=>h1 y (List.mem_cons_of_mem _ hy)
  by_cases hk:k = .free
  ·subst hk
   obtain ⟨c,hc⟩:=h1 (n, .free) List.mem_cons_self rfl
   obtain ⟨cl,e,p1,p2,p3⟩:=closure_go env r ((n,c) :: acc) hr (fun m d hm=>by
    rw [List.lookup_cons] at hm
    by_cases q:m == n
    ·rw [q] at hm
     have:m=n:=by simpa using q
     subst this
     cases hm
     exact hc
    ·have q':(m == n)=false:=by simpa using q
     rw [q'] at hm
     exact h2 m d hm)
   refine ⟨cl,?_,p1,fun m d hm => ?_,fun y hy hf => ?_⟩
   ·rw [List.forIn_cons]
    rw [←e]
    show (cellOf env n >>= fun a=>_) >>= _=_
    unfold cellOf
    rw [hc]
    rfl
   ·by_cases q:m=n
    ·subst q
     exact p2 m c (by rw [List.lookup_cons];simp)
    ·exact p2 m d (by rw [List.lookup_cons];simp -iota only [beq_eq_false_iff_ne.mpr q];exact hm)
   ·rcases List.mem_cons.mp hy with rfl|hy
    ·exact p2 n c (by rw [List.lookup_cons];simp)
    ·exact p3 y hy hf
  ·refine Elim.el (closure_go env r acc hr h2) _ ?_
   rintro cl e p1 p2 p3
   refine ⟨cl,?_,p1,p2,fun y hy hf => ?_⟩
   ·rw [List.forIn_cons, ←e]
    have hb:(k == NameKind.free)=false:=by simpa using hk
    simp -iota only [hb,Bool.false_eq_true,if_false]
    rfl
   ·rcases List.mem_cons.mp hy with rfl|hy
    ·exact absurd hf hk
    ·exact p3 y hy hf
theorem closure_of {scope:Scope} {env:Env} (h:∀y∈scope.names,y.2 = .free→∃c,env.cells.lookup y.1=some c) :
  ∃cl,closureFor scope env=pure cl∧(∀n c,cl.lookup n=some c→env.cells.lookup n=some c)∧∀y∈scope.names,y.2 = .free→∃c,cl.lookup y.1=some c:=by
 obtain ⟨cl,e,p1,_,p3⟩:=closure_go env scope.names [] h (fun n c h=>by simp at h)
 refine ⟨cl,?_,p1,p3⟩
 unfold closureFor
 refine Eq.trans ?_ (congrArg (fun m=>m >>= fun (cs:List (Str×Addr))=>(pure cs:Sem _)) e)
 rfl
noncomputable def testsOf (ifs:List Expr) (env:Env):Sem Bool:=forIn ifs true fun c r=>if r=true then do let ok ←isTrue c env (eval c env);pure (ForInStep.yield ok) else pure (ForInStep.yield r)
section
variable {prog:Program} {w:World} {A:Around} {R:Result→Shared→Prop} {s:Shared}
theorem comp_turns {elt target iter:Expr} {ifs:List Expr} {scope:Scope} {pos:Pos} {it acc:Value} {env:Env} (I:Nat→Shared→Prop)
  (turn:∀n s,I n s→wpAny (model prog w) A (pyNext it) (fun r s1=>match r with
   | none=>R (.ok .next) s1
   | some v=>wpAny (model prog w) A (letOwnedTupleGo target it v) (fun _ s1'=>wpAny (model prog w) A (assign target env v) (fun _ s2=>
     wpAny (model prog w) A (testsOf ifs env) (fun ok s3=>
      if ok=true then wpAny (model prog w) A (eval elt env) (fun x s4=>
       wpAny (model prog w) A (call (.builtin "list.append") [acc,x]) (fun _ s5=>∃m,m<n∧I m s5) noE s4) noE s3
      else ∃m,m<n∧I m s3) noE s2) noE s1') noE s1) noE s)
  (n:Nat) (h:I n s):codeAny (model prog w) A (.compLoop (.ListComp elt [⟨target,iter,ifs,0⟩] scope pos) 0 it acc env) R s:=by
 refine codeAny_loop rfl I (fun n s hI=>(show wpAny _ A (Sem.onRaise (compTurn (.ListComp elt [⟨target,iter,ifs,0⟩] scope pos) 0 it acc env) (fun x=>do noteFrame x env;theTreesLotGoes x)) _ _ s from wpAny_noted ?_)) n h
 rw [compTurn_list]
 refine wpAny_bind (wpAny_standAt (wpAny_bind (noE_to (thn (turn n s hI) fun r s1 h1 => ?_))))
 cases r with
 | none=>exact wpAny_pure h1
 | some v=>
  refine wpAny_bind (noE_to (thn h1 fun _ s1' h1' => ?_))
  refine wpAny_bind (noE_to (thn h1' fun _ s2 h2=>wpAny_bind (noE_to (thn h2 fun ok s3 h3 => ?_))))
  cases ok with
  | false=>exact wpAny_pure ⟨rfl,h3⟩
  | true=>exact wpAny_bind (wpAny_bind (noE_to (thn h3 fun x s4 h4=>wpAny_bind (noE_to (thn h4 fun _ s5 h5=>wpAny_pure (wpAny_pure ⟨rfl,h5⟩))))))
end
theorem HOk.adopt {P:Program} {w:World} {H:Hp} {h:Heap} {a:Addr} {o:HO} (x:HOk P w H h) (hn:H a=none) (new:ObjOk P w (upd H a o) h a o):HOk P w (upd H a o) h:=fun b u e=>by
 by_cases hb:b=a
 ·subst hb;rw [upd_same] at e;cases e;exact new
 ·rw [upd_ne hb] at e
  exact (x b u e).stay (fun c v _ q=>q) (fun c q=>by rw [upd_ne (ne_of_none q hn)];exact q) fun c xs q=>by rw [upd_ne (ne_of_none q hn)];exact q
structure CompOk (X:Cx) (scope:Scope) (Nc Fc:List Str) (js:List Nat):Prop where
 kind:scope.kind = .function
 nocell:∀y∈scope.names,y.2 ≠ .cell
 names:∀y∈scope.names,y.2 = .local→scope.names.lookup y.1=some .local
 free:∀y∈scope.names,y.2 = .free→X.env.kindOf y.1=some .cell∨X.env.kindOf y.1=some .free
 frees:∀(k:Nat) (x:Str),Fc[k]? = some x→scope.names.lookup x=some .free∧∃j,js[k]? = some j∧X.N[j]? = some x
 lens:js.length=Fc.length
noncomputable def cvals (σ:St) (js:List Nat):St:=js.map fun j=>(σ[j]?).join
noncomputable def cxC (X:Cx) (Nc Fc:List Str) (scope:Scope) (cl:List (Str×Addr)) (C:Addr) (s:Shared) (H:Hp) (fp:List Addr):Cx:=
 { X with N:=Nc++Fc,s₀:=s,H₀:=H,env:=compEnvC scope cl C X.env,outer:=X.stack,stack:=X.stack,ex:=fp,fn:=fun _=>false,pn:=[],xe:=noE }
theorem relabel_free {env:Env} : ∀{names:List (Str×NameKind)} {x:Str} {k:NameKind},(names.map fun (n,k)=>if (k == NameKind.free&&env.scope.kind == .function&&env.kindOf n == some .cell) then (n,NameKind.cell) else (n,k)).lookup x=some k →
  names.lookup x=some k∨(k = .cell∧names.lookup x=some .free)
 | [],_,_,h=>by simp at h
 | (n,k0) :: r,x,k,h=>by
  have ih := @relabel_free env r x k
  rw [List.map_cons] at h
  dsimp only at h
  by_cases hx:x=n
  ·subst hx
   by_cases hc:(k0 == NameKind.free&&env.scope.kind == .function&&env.kindOf x == some .cell)=true
   ·rw [if_pos hc] at h
    simp -iota only [List.lookup_cons,beq_self_eq_true] at h
    have hk:k0 = .free:=by
     have:=(Bool.and_eq_true _ _).mp ((Bool.and_eq_true _ _).mp hc).1
     simpa using this.1
    subst hk
    cases h
    exact .inr ⟨rfl,by simp only [List.lookup_cons,beq_self_eq_true]⟩
   ·rw [if_neg hc] at h
    simp -iota only [List.lookup_cons,beq_self_eq_true] at h ⊢
    exact .inl h
  ·have hb:(x == n)=false:=beq_eq_false_iff_ne.mpr hx
   have e:List.lookup x ((if (k0 == NameKind.free&&env.scope.kind == .function&&env.kindOf n == some .cell)=true then (n,NameKind.cell) else (n,k0)) :: (r.map fun (n,k)=>if (k == NameKind.free&&env.scope.kind == .function&&env.kindOf n == some .cell) then (n,NameKind.cell) else (n,k)))=some k:=h
   have e2:List.lookup x (r.map fun (n,k)=>if (k == NameKind.free&&env.scope.kind == .function&&env.kindOf n == some .cell) then (n,NameKind.cell) else (n,k))=some k:=by
    by_cases hc:(k0 == NameKind.free&&env.scope.kind == .function&&env.kindOf n == some .cell)=true
    ·rw [if_pos hc] at e;simp -iota only [List.lookup_cons,hb] at e;exact e
    ·rw [if_neg hc] at e;simp -iota only [List.lookup_cons,hb] at e;exact e
   simp -iota only [List.lookup_cons,hb]
   exact ih e2
theorem relabel_of_free {env:Env} : ∀{names:List (Str×NameKind)} {x:Str},names.lookup x=some .free →
  (names.map fun (n,k)=>if (k == NameKind.free&&env.scope.kind == .function&&env.kindOf n == some .cell) then (n,NameKind.cell) else (n,k)).lookup x=some .cell ∨
  (names.map fun (n,k)=>if (k == NameKind.free&&env.scope.kind == .function&&env.kindOf n == some .cell) then (n,NameKind.cell) else (n,k)).lookup x=some .free
 | [],_,h=>by simp at h
 | (n,k0) :: r,x,h=>by
  have ih := @relabel_of_free env r x
  rw [List.map_cons]
  dsimp only
  by_cases hx:x=n
  ·subst hx
   simp -iota only [List.lookup_cons,beq_self_eq_true] at h
   cases h
   by_cases hc:(NameKind.free == NameKind.free&&env.scope.kind == .function&&env.kindOf x == some .cell)=true
   ·rw [if_pos hc];left;simp only [List.lookup_cons,beq_self_eq_true]
   ·rw [if_neg hc];right;simp only [List.lookup_cons,beq_self_eq_true]
  ·have hb:(x == n)=false:=beq_eq_false_iff_ne.mpr hx
   simp -iota only [List.lookup_cons,hb] at h
   by_cases hc:(k0 == NameKind.free&&env.scope.kind == .function&&env.kindOf n == some .cell)=true
   ·rw [if_pos hc];simp -iota only [List.lookup_cons,hb];exact ih h
   ·rw [if_neg hc];simp -iota only [List.lookup_cons,hb];exact ih h
theorem mem_of_lookup':∀{l:List (Str×NameKind)} {x:Str} {k:NameKind},l.lookup x=some k→(x,k)∈l:=fun h=>PySem.mem_of_lookup h
section
variable {X:Cx} {pins:List (Addr×Obj)} {σ:St} {H:Hp} {s:Shared} {scope:Scope} {Nc Fc:List Str} {js:List Nat} {cl:List (Str×Addr)} {C D:Addr} {fp:List Addr}
theorem cxC_kind {x:Str} : (cxC X Nc Fc scope cl C s H fp).env.kindOf x=(scope.names.map fun (n,k)=>if (k == NameKind.free&&X.env.scope.kind == .function&&X.env.kindOf n == some .cell) then (n,NameKind.cell) else (n,k)).lookup x:=rfl
theorem cxC_ok (I:Inv X pins σ H s) (c:CompOk X scope Nc Fc js) (hsub:∀n c,cl.lookup n=some c→X.env.cells.lookup n=some c) (hhas:∀y∈scope.names,y.2 = .free→∃c,cl.lookup y.1=some c)
  (hC:s.heap.objs.size≤C) (hf:∀b∈fp,FpOk X pins H b) (ho:∀b∈fp,∃o,s.heap.get? b=some o):(cxC X Nc Fc scope cl C s H fp).Ok where
 mod:=I.ok.mod
 kind:=c.kind
 glob:=I.ok.glob
 blt:=I.ok.blt
 above:=hC
 inj:=fun x y a h1 h2=>I.ok.inj x y a (hsub _ _ h1) (hsub _ _ h2)
 has:=fun x hx=>by
  have key:scope.names.lookup x=some .free:=by
   rw [cxC_kind] at hx
   rcases hx with h|h
   ·rcases relabel_free h with q|⟨_,q⟩
    ·exact absurd rfl (c.nocell _ (mem_of_lookup' q))
    ·exact q
   ·rcases relabel_free h with q|⟨q,_⟩
    ·exact q
    ·cases q
  exact hhas _ (mem_of_lookup' key) rfl
 cab:=fun _ _ h=>nomatch h
 hd:=I.ok.hd
 frames:=I.ok.frames
 stk := .inl rfl
 exf:=fun b hb=>⟨fun z=>by
   obtain ⟨o,e⟩:=ho b hb
   exact addr_ne (Heap.lt_size e) hC z,fun x a e z=>(hf b hb).2.2.2.2.1 x a (hsub _ _ e) z⟩
 bs:=fun b o e=>I.bs b o e
 bsz:=Nat.le_trans I.ok.bsz I.sz
 noex:=fun b o e hb=>by
  rcases (hf b hb).2.2.2.1 with z|z
  ·exact I.ok.noex b o e z
  ·exact absurd (Nat.lt_of_lt_of_le (Heap.lt_size (I.ok.bs b o e).1) z) (Nat.lt_irrefl _)
 exfs:=fun b hb z=>by
  rcases List.mem_cons.mp (I.stkSub b z) with q|q
  ·exact (hf b hb).2.1 q
  ·exact (hf b hb).2.2.1 q
 funs:=I.stack
 frf:=I.stkFree
theorem cxC_inv (I:Inv X pins σ H s) (c:CompOk X scope Nc Fc js) (hsub:∀n c,cl.lookup n=some c→X.env.cells.lookup n=some c) (hhas:∀y∈scope.names,y.2 = .free→∃c,cl.lookup y.1=some c)
  (hC:s.heap.objs.size≤C) (hD:s.heap.objs.size≤D) (hDC:D≠C) (hf:∀b∈fp,FpOk X pins H b) (ho:∀b∈fp,∃o,s.heap.get? b=some o) {h1:Heap} {t1:Nat} {m:Str→Option Value} {ob:Obj}
  (hk:∀b o,s.heap.get? b=some o→h1.get? b=some o) (hm:h1.Ns C m) (hob:h1.get? D=some ob) (hnc:∀v,ob.data ≠ .cell v) :
  Inv (cxC X Nc Fc scope cl C s H fp) [(D,ob)] (List.replicate Nc.length none++cvals σ js) H { s with heap:=h1,toks:=t1 }:=by
 refine ⟨cxC_ok I c hsub hhas hC hf ho,rfl,I.bare,Un.kept hk,⟨m,hm,fun i x v e1 e2 e3 => ?_⟩,fun x a e => ?_,I.hok.fresh hC,fun x a e=>I.freeC x a (hsub x a e),fun p hp => ?_,I.hok.kept hk,?_⟩
 ·have e1:(Nc++Fc)[i]? = some x:=e1
  have e2:(List.replicate Nc.length none++cvals σ js)[i]? = some (some v):=e2
  by_cases hi:i<Nc.length
  ·rw [List.getElem?_append_left (by simpa using hi),List.getElem?_replicate] at e2
   split at e2 <;> cases e2
  ·rw [List.getElem?_append_right (by omega)] at e1
   rw [List.getElem?_append_right (by rw [List.length_replicate];omega),List.length_replicate] at e2
   refine Elim.el (c.frees _ _ e1) _ ?_
   rintro hfr j hj hN
   have hv : σ[j]? = some (some v):=by
    unfold cvals at e2
    rw [List.getElem?_map,hj] at e2
    have e2:some ((σ[j]?).join)=some (some v):=e2
    cases q : σ[j]? with
    | none=>rw [q] at e2;cases e2
    | some z=>rw [q] at e2;cases e2;rfl
   have kx:=c.free _ (mem_of_lookup' hfr) rfl
   refine Elim.el (I.loc) _ ?_
   rintro m0 hn0 hl0
   have vis:Vis X.env.scope x:=by
    rcases kx with k|k
    ·exact .inr (.inl k)
    ·exact .inr (.inr k)
   refine Elim.el (hl0 j x v hN hv vis) _ ?_
   rintro u ru lk
   refine ⟨u,ru, .inr ⟨?_,?_⟩⟩
   ·rw [cxC_kind];exact relabel_of_free hfr
   ·obtain ⟨a,ha⟩:=hhas _ (mem_of_lookup' hfr) rfl
    refine ⟨a,ha,?_⟩
    rcases lk with ⟨k,_⟩|⟨_,a',ha',hcell⟩
    ·rcases kx with q|q <;> (rw [k] at q;cases q)
    ·have e:=hsub _ _ ha
     dsimp only at e
     rw [ha'] at e;cases e
     exact hcell.keeps hk
 ·obtain ⟨v,z⟩:=I.cell x a (hsub x a e)
  exact ⟨v,z.keeps hk⟩
 ·have hp:p=(D,ob):=by
   have:p∈[(D,ob)]:=hp
   simpa using this
  subst hp
  refine ⟨hob,I.hok.fresh hD,hDC,fun z => ?_,hnc⟩
  have z:D∈frs X.stack:=z
  rcases List.mem_cons.mp (I.stkSub D z) with q|q
  ·exact addr_ne' I.lt hD q
  ·exact I.nofs hD q
 ·show (List.replicate Nc.length none++cvals σ js).length=(Nc++Fc).length
  unfold cvals
  rw [List.length_append,List.length_append,List.length_replicate,List.length_map,c.lens]
end
def PTs (X:Cx) (ifs:List Expr) (t:TT):Prop:=
 ∀ ⦃pins:List (Addr×Obj)⦄ (s:Shared) (σ:St) (H:Hp) (Q:Bool→Hp→Prop),Inv X pins σ H s→t σ H Q→wpAny (model X.prog X.w) X.A (testsOf ifs X.env) (TP X pins σ Q) X.xe s
def tYes:TT:=fun _ H Q=>Q true H
theorem pts_nil {X:Cx} : PTs X [] tYes:=fun _ _ _ H _ I h=>wpAny_tests_nil ⟨H,I,h⟩
theorem pts_one {X:Cx} {c:Expr} {t:TT} (h:PT X c t):PTs X [c] t:=fun pins s σ H Q I hw=>wpAny_tests_one (h s σ H Q I hw)
def CompW (J:It) (n:Nat) (js:List Nat) (g:TG) (tc:TT) (te:TE) (σ:St) (H1:Hp) (fin:List V→Hp→Prop):Prop:=
 ∃W:Nat→Nat→List V→Hp→Prop,(∃m,W 0 m [] H1)∧∀i m ys H,W i m ys H →
  (J.stop i H∧fin ys H) ∨
  (J.go i H∧ys.length<sizeLine∧∀x H',J.yld i H x H'→g x (List.replicate n none++cvals σ js) H' fun σ2 H2=>tc σ2 H2 fun b H3=>
   if b=true then te σ2 H3 fun y H4=>∃m',m'<m∧W (i+1) m' (ys++[y]) H4 else ∃m',m'<m∧W (i+1) m' ys H3)
def tComp (wi:TI) (n:Nat) (js:List Nat) (g:TG) (tc:TT) (te:TE):TE:=fun σ H Q=>wi σ H fun J H1=>
 CompW J n js g tc te σ H1 fun ys H2=>∀p,H2 p=none→Q (.ref p) (upd H2 p (.lst ys))
def Gk (n:Nat) (g:TG):Prop:=∀x σ H Q,g x σ H Q→g x σ H fun σ' H'=>Q σ' H'∧(∀j,n≤j → σ'[j]? = σ[j]?) ∧ σ'.length = σ.length
def Gks (n:Nat) (g:TGs):Prop:=∀x σ H Q,g x σ H Q→g x σ H fun σ' H'=>Q σ' H'∧(∀j,n≤j → σ'[j]? = σ[j]?) ∧ σ'.length = σ.length
theorem gk_name {n i:Nat} (h:i<n:=by decide):Gk n (gName i):=fun x σ H Q q=>⟨q,fun j hj=>List.getElem?_set_ne (by omega),List.length_set⟩
theorem gks_nil {n:Nat} : Gks n gNil:=fun x σ H Q q=>⟨q.1,q.2,fun _ _=>rfl,rfl⟩
theorem gks_cons {n:Nat} {t:TG} {u:TGs} (h1:Gk n t) (h2:Gks n u) (mt:∀x σ H Q Q',(∀a b,Q a b→Q' a b)→t x σ H Q→t x σ H Q') (mu:∀x σ H Q Q',(∀a b,Q a b→Q' a b)→u x σ H Q→u x σ H Q'):Gks n (gCons t u):=fun x σ H Q q=>by
 obtain ⟨v,r,e,q⟩:=q
 refine ⟨v,r,e,mt _ _ _ _ _ (fun σ1 H1 z => ?_) (h1 _ _ _ _ q)⟩
 refine Elim.el (z) _ ?_
 rintro z k1 l1
 exact mu _ _ _ _ _ (fun σ2 H2 ⟨z2,k2,l2⟩=>⟨z2,fun j hj=>(k2 j hj).trans (k1 j hj),l2.trans l1⟩) (h2 _ _ _ _ z)
theorem gk_tup {K:PySem.W.Frag} {n m:Nat} {t:TGs} (h:Gks n t):Gk n (gTup K m t):=fun x σ H Q q=>by
 obtain ⟨a,xs,e,h1,h2,q⟩:=q
 exact ⟨a,xs,e,h1,h2,h _ _ _ _ q⟩
theorem comp_core {X:Cx} {elt tg iter:Expr} {ifs:List Expr} {scope:Scope} {pos:Pos} {Nc Fc:List Str} {js:List Nat} {wi:TI} {g:TG} {tc:TT} {te:TE} {use:Option (Value→Sem Unit)} {QV:Value→Shared→Prop}
  (hcalm:X.calm=true) (c:CompOk X scope Nc Fc js) (hi:PI X tg iter wi)
  (hg:∀cl C s H fp,PG (cxC X Nc Fc scope cl C s H fp) tg g) (htc:∀cl C s H fp,PTs (cxC X Nc Fc scope cl C s H fp) ifs tc) (hte:∀cl C s H fp,PE (cxC X Nc Fc scope cl C s H fp) elt te) (gk:Gk Nc.length g)
  {pins:List (Addr×Obj)} {s:Shared} {σ:St} {H:Hp} {fin:List V→Hp→Prop} (I:Inv X pins σ H s)
  (h:wi σ H fun J H1=>CompW J Nc.length js g tc te σ H1 fin)
  (behind:∀(C D:Addr) (m:Str→Option Value) (ys:List V) (H2:Hp) (s2:Shared),Inv X pins σ (upd H2 D (.lst ys)) s2→s2.heap.Ns C m→FpOk X pins (upd H2 D (.lst ys)) C→H2 D=none→fin ys H2→compPost (model X.prog X.w) X.A X.xe use QV (.ref D) C (.ok .next) s2)
  (hs:∀x,foldedSetIterable iter X.env x=pure x) :
  wpAny (model X.prog X.w) X.A (comprehension (.ListComp elt [⟨tg,iter,ifs,0⟩] scope pos) scope X.env (firstIterPos [⟨tg,iter,ifs,0⟩] pos) (newList []) false (eval iter X.env) use) QV X.xe s:=by
 obtain ⟨cl,hclos,hsub,hhas⟩:=closure_of (scope:=scope) (env:=X.env) fun y hy hf=>I.ok.has y.1 (c.free y hy hf)
 refine wpAny_comprehension_free (use:=use) rfl hs hclos c.kind c.names ?_
 refine thn (hi s σ H _ I h) fun v s1 h1=>thn h1 fun itv s2 h2 => ?_
 obtain ⟨it,fp,tn,J,H2,e,I2,T,st2,f2,W,⟨m0,w0⟩,turn⟩:=h2
 subst e
 refine wpAny_newObj_type (wpAny_newFunctionEnv c.nocell (by intro y hy;simp at hy) (fun h1 hns1 hsb1 => ?_) c.kind)
 dsimp only at hns1 hsb1 ⊢
 generalize hG:s2.heap.push { cls := .type "list",dict:=none,data := .seq ([]:List Value).toArray } = G at hns1 hsb1 ⊢
 have hC:G.objs.size=s2.heap.objs.size+1:=by rw [←hG,Heap.size_push]
 have hDC:s2.heap.objs.size≠G.objs.size:=by rw [hC];exact Nat.ne_of_lt (Nat.lt_succ_self _)
 have hle:s2.heap.objs.size≤G.objs.size:=by rw [hC];exact Nat.le_succ _
 have old:∀b o,s2.heap.get? b=some o→h1.get? b=some o:=fun b o e=>
  hsb1.extBut b o (addr_ne (Heap.lt_size e) hle) (Heap.get?_push_of_some _ (hG ▸ Heap.get?_push_of_some _ e))
 have hacc:h1.PlainList s2.heap.objs.size #[]:=⟨_,hsb1.extBut _ _ hDC (Heap.get?_push_of_some _ (hG ▸ Heap.get?_push_size _ rfl))⟩
 obtain ⟨n0,hacc⟩:=hacc
 have fo:∀b∈fp,∃o,s2.heap.get? b=some o:=fun b hb=>let ⟨o,e,_⟩:=T.obj 0 _ st2 b hb; ⟨o,e⟩
 have hDfp:∀b∈fp,b<s2.heap.objs.size:=fun b hb=>let ⟨o,e⟩:=fo b hb;Heap.lt_size e
 let Xc:Cx:=cxC X Nc Fc scope cl G.objs.size s2 H2 fp
 let D:Addr:=s2.heap.objs.size
 have stat:∀{pl:List (Addr×Obj)} {H':Hp},(∀p∈pl,p.1=D)→(∀b∈fp,H' b=none)→∀b∈fp,FpOk Xc pl H' b:=fun {pl H'} hp hn b hb=>by
  refine ⟨hn b hb,?_,?_, .inl hb,fun x a e => ?_,fun p hq => ?_⟩
  ·exact addr_ne (hDfp b hb) hle
  ·exact (cxC_ok I2 c hsub hhas hle f2 fo).exfs b hb
  ·exact (f2 b hb).2.2.2.2.1 x a (hsub _ _ e)
  ·have q:p∈([]:List (Addr×Obj))++pl:=hq
   rw [hp p (by simpa using q)]
   exact addr_ne' (hDfp b hb) (Nat.le_refl _)
 have loop:∀t1,codeAny (model X.prog X.w) X.A (.compLoop (.ListComp elt [⟨tg,iter,ifs,0⟩] scope pos) 0 (.ref it) (.ref s2.heap.objs.size) (compEnvC scope cl G.objs.size X.env))
   (compPost (model X.prog X.w) X.A X.xe use QV (.ref s2.heap.objs.size) G.objs.size) { s2 with heap:=h1,toks:=t1 }:=by
  intro t1
  refine comp_turns (fun n s'=>∃i ys H' its k,Inv Xc [(D,{ cls := .type "list",data := .seq its k })] (List.replicate Nc.length none++cvals σ js) H' s'∧Vals ys its.toList∧ys.length≤sizeLine∧tn i s'.heap∧(∀b∈fp,H' b=none)∧W i n ys H') ?_ m0
   ⟨0,[],H2, #[],n0,cxC_inv I2 c hsub hhas hle (Nat.le_refl _) hDC f2 fo old hns1 hacc (fun _ z=>nomatch z), .nil,Nat.zero_le _,T.keep _ _ _ st2 (fun b hb o e=>old b o e),fun b hb=>(f2 b hb).1,w0⟩
  intro n s3
  refine Elim.go ?_
  rintro i ys H3 its k I3 rv hz st3 fr3 w3
  have onlyD:∀p∈[(D,({ cls := .type "list",data := .seq its k } : Obj))],p.1=D:=fun p hp=>congrArg Prod.fst (List.mem_singleton.mp hp)
  rcases turn i n ys H3 w3 with ⟨stop,qn⟩|⟨go,hlt,step⟩
  ·refine thn (T.done Xc rfl rfl rfl hcalm i _ s3 _ H3 noE I3 (stat onlyD fr3) st3 stop) fun r s4 hz_ => ?_
   refine Elim.el hz_ _ ?_
   clear hz_
   rintro hr I4
   subst hr
   show compPost _ _ _ _ _ _ _ _ _
   obtain ⟨hDo,hDn,hDne,hDfs,_⟩:=I4.pin (D,_) (List.mem_append_right _ List.mem_cons_self)
   have hDC':D≠G.objs.size:=hDC
   refine Elim.el (I4.loc) _ ?_
   rintro mC hmC _
   have hCn:H3 G.objs.size=none:=I4.free
   have neD:∀b o,s2.heap.get? b=some o→b≠D:=fun b o e=>Nat.ne_of_lt (Heap.lt_size e)
   have u:Un (frs X.stack) fp H2 H3 s2.heap s4.heap:=I4.base
   have hdn2:H2 D=none:=I2.hok.fresh (Nat.le_refl _)
   have u':Un (frs X.stack) fp H2 (upd H3 D (.lst ys)) s2.heap s4.heap:=
    ⟨u.keep,u.slot,fun b o e n hx=>by rw [upd_ne (neD b o e)];exact u.free b o e n hx,u.there,
      fun b xs e=>by rw [upd_ne (ne_of_none e hdn2)];exact u.tups b xs e,fun b o xs e=>by rw [upd_ne (ne_of_none e hdn2)];exact u.frzs b o xs e,
      fun b ps e=>by rw [upd_ne (ne_of_none e hdn2)];exact u.tbls b ps e⟩
   have hok':HOk X.prog X.w (upd H3 D (.lst ys)) s4.heap:=I4.hok.adopt hDn ⟨hz,its.toList,k,rv,by simpa using hDo⟩
   have hch:∀b∈fp,(b∈X.ex∨X.s₀.heap.objs.size≤b)∧b≠X.env.locals∧(∀x c,X.env.cells.lookup x=some c→c≠b)∧∀p∈X.pn++pins,p.1≠b:=fun b hb=>
    ⟨(f2 b hb).2.2.2.1,(f2 b hb).2.1,(f2 b hb).2.2.2.2.1,(f2 b hb).2.2.2.2.2⟩
   have os4:s4.os=s2.os:=I4.os
   have J4:Inv X pins σ (upd H3 D (.lst ys)) s4:=I2.call' (H':=upd H3 D (.lst ys)) os4 u' hok' I4.bare hch
   refine behind G.objs.size D mC ys H3 s4 J4 hmC (I2.fpOk hle ?_) hDn qn
   rw [upd_ne (Ne.symm hDC')]
   exact hCn
  ·refine thn (T.item Xc rfl rfl rfl hcalm i _ s3 _ H3 noE I3 (stat onlyD fr3) st3 go) fun r s4 hz_ => ?_
   refine Elim.el hz_ _ ?_
   clear hz_
   rintro u hr h4
   subst hr
   show wpAny _ _ (letOwnedTupleGo tg (.ref it) u) _ _ _
   refine thn h4 fun _ s5 hz_ => ?_
   refine Elim.el hz_ _ ?_
   clear hz_
   rintro x H5 I5 r5 y5 st5 fr5
   have I5':=I5.pinned (stat onlyD fr5) (T.obj _ _ st5)
   refine thn (hg cl G.objs.size s2 H2 fp s5 _ H5 x u _ I5' r5 (gk _ _ _ _ (step x H5 y5))) fun _ s6 hz_ => ?_
   refine Elim.el hz_ _ ?_
   clear hz_
   rintro σ6 H6 I6 q6 kσ kl
   refine thn (htc cl G.objs.size s2 H2 fp s6 σ6 H6 _ I6 q6) fun b s7 hz_ => ?_
   refine Elim.el hz_ _ ?_
   clear hz_
   rintro H7 I7 q7
   have later:∀{σ':St} {H':Hp} {s':Shared},Inv Xc ([(D,({ cls := .type "list",data := .seq its k } : Obj))]++pinsAt fp s5.heap) σ' H' s'→tn (i+1) s'.heap∧∀b∈fp,H' b=none:=fun {σ' H' s'} Iz=>by
    refine ⟨T.keep _ _ _ st5 fun b hb o e=>(Iz.pin (b,o) (List.mem_append_right _ (List.mem_append_right _ (mem_pinsAt hb e)))).1,fun b hb => ?_⟩
    refine Elim.el (T.obj _ _ st5 b hb) _ ?_
    rintro o e d
    exact (Iz.pin (b,o) (List.mem_append_right _ (List.mem_append_right _ (mem_pinsAt hb e)))).2.1
   have back:∀{pl:List (Addr×Obj)} {H':Hp} {s':Shared},Inv Xc pl σ6 H' s'→Inv Xc pl (List.replicate Nc.length none++cvals σ js) H' s':=fun {pl H' s'} Iz=>by
    refine Iz.weak (by rw [←kl]) fun j v hj => ?_
    by_cases hn:j<Nc.length
    ·rw [List.getElem?_append_left (by simpa using hn),List.getElem?_replicate] at hj
     split at hj <;> cases hj
    ·rw [kσ j (by omega)];exact hj
   cases b with
   | false=>
    rw [if_neg Bool.false_ne_true] at q7 ⊢
    refine Elim.el (q7) _ ?_
    rintro m' hm' w7
    obtain ⟨l1,l2⟩:=later I7
    exact ⟨m',hm',i+1,ys,H7,its,k,back I7.unpinned,rv,hz,l1,l2,w7⟩
   | true=>
    rw [if_pos rfl] at q7 ⊢
    refine thn (hte cl G.objs.size s2 H2 fp s7 σ6 H7 _ I7 q7) fun yv s8 hz_ => ?_
    refine Elim.el hz_ _ ?_
    clear hz_
    rintro y H8 I8 r8 q8
    refine Elim.el (q8) _ ?_
    rintro m' hm' w8
    obtain ⟨hDo,hDn,hDne,hDfs,_⟩:=I8.pin (D,_) (List.mem_append_right _ (List.mem_append_left _ List.mem_cons_self))
    obtain ⟨l1,l2⟩:=later I8
    have hits:its.size=ys.length:=by
     have e1:=rv.length
     simp -iota only [Array.length_toList] at e1
     omega
    refine wpAny_list_append_plain (hsz:=by omega) ⟨k,hDo⟩ fun h9 hl9 hs9 => ?_
    obtain ⟨k9,hD9⟩:=hl9
    have pinF:∀p∈pinsAt fp s5.heap,p.1≠D:=fun p hp=>by
     obtain ⟨hb,_⟩:=of_pinsAt hp
     exact addr_ne (hDfp _ hb) (Nat.le_refl _)
    have I8':Inv Xc (pinsAt fp s5.heap) σ6 H8 s8:=I8.pins_of fun p hp=>I8.pin p (List.mem_append_right _ (List.mem_append_right _ hp))
    have I9:Inv Xc (pinsAt fp s5.heap) σ6 H8 { s8 with heap:=h9,toks:=s8.toks }:=I8'.turned (it:=D) (fun b o hb e=>hs9.extBut b o hb e) hDn hDC (.inr (Nat.le_refl _))
     (fun x a e z=>by
      obtain ⟨v,q⟩:=I2.cell x a (hsub _ _ e)
      exact addr_ne q.lt (Nat.le_refl _) z) (fun p hp=>pinF p (by
       have hp:p∈([]:List (Addr×Obj))++pinsAt fp s5.heap:=hp
       simpa using hp))
    obtain ⟨st9,fr9⟩:tn (i+1) h9∧∀b∈fp,H8 b=none:=by
     refine ⟨T.keep _ _ _ l1 fun b hb o e=>hs9.extBut b o ?_ e,l2⟩
     exact addr_ne (hDfp _ hb) (Nat.le_refl _)
    refine ⟨m',hm',i+1,ys++[y],H8,its.push yv,k9,back (I9.pins_of fun p hp => ?_),?_,?_,st9,fr9,w8⟩
    ·cases List.mem_singleton.mp hp
     exact ⟨hD9,hDn,hDne,hDfs,fun _ z=>nomatch z⟩
    ·rw [Array.toList_push]
     exact rv.append (.cons r8 .nil)
    ·rw [List.length_append,List.length_singleton];omega
 exact codeAny_compStart_list (loop _) (T.self _ 0 _ _ _ (T.keep _ _ _ st2 fun b hb o e=>old b o e) (loop _))
theorem pe_lcomp {X:Cx} {elt tg iter:Expr} {ifs:List Expr} {scope:Scope} {pos:Pos} {Nc Fc:List Str} {js:List Nat} {wi:TI} {g:TG} {tc:TT} {te:TE}
  (hcalm:X.calm=true) (c:CompOk X scope Nc Fc js) (hi:PI X tg iter wi) (gk:Gk Nc.length g)
  (hg:∀cl C s H fp,PG (cxC X Nc Fc scope cl C s H fp) tg g) (htc:∀cl C s H fp,PTs (cxC X Nc Fc scope cl C s H fp) ifs tc) (hte:∀cl C s H fp,PE (cxC X Nc Fc scope cl C s H fp) elt te)
  (hs:∀x,foldedSetIterable iter X.env x=pure x:=by intro _;rfl) :
  PE X (.ListComp elt [⟨tg,iter,ifs,0⟩] scope pos) (tComp wi Nc.length js g tc te):=by
 intro pins s σ H Q I h
 rw [eval_ListComp]
 refine comp_core (use:=none) hcalm c hi hg htc hte gk I h (fun C D m ys H2 s2 I2 hm hC hD q => ?_) hs
 refine ⟨m,hm,fun h' hs' => ?_⟩
 refine ⟨.ref D,_,I2.turned (it:=C) (t':=s2.toks) (fun b o hb e=>hs'.extBut b o hb e) hC.1 (hC.2.1) hC.2.2.2.1 hC.2.2.2.2.1 hC.2.2.2.2.2,rfl,q D hD⟩
theorem ps_setcomp {X:Cx} {i:Nat} {y:Str} {elt tg iter:Expr} {ifs:List Expr} {scope:Scope} {pos pos' py:Pos} {Nc Fc:List Str} {js:List Nat} {wi:TI} {g:TG} {tc:TT} {te:TE} (hN:X.N.Nodup) (hy:X.N[i]? = some y) (hl:Loc X.env.scope y)
  (hcalm:X.calm=true) (c:CompOk X scope Nc Fc js) (hi:PI X tg iter wi) (gk:Gk Nc.length g)
  (hg:∀cl C s H fp,PG (cxC X Nc Fc scope cl C s H fp) tg g) (htc:∀cl C s H fp,PTs (cxC X Nc Fc scope cl C s H fp) ifs tc) (hte:∀cl C s H fp,PE (cxC X Nc Fc scope cl C s H fp) elt te)
  (hsw:swapsWith (.ListComp elt [⟨tg,iter,ifs,0⟩] scope pos) (some (.Name y py)) pos'.line X.env=pure true:=by rfl)
  (hs:∀x,foldedSetIterable iter X.env x=pure x:=by intro _;rfl)
  (hf:X.fn y=true∨X.env.scope.names.lookup y=some .local:=by first|exact .inl rfl|exact .inr rfl|assumption) :
  PS X (.Assign [.Name y py] (.ListComp elt [⟨tg,iter,ifs,0⟩] scope pos) pos') (tAsg (tComp wi Nc.length js g tc te) (gName i)):=by
 intro pins s σ H E I h
 rw [exec_Assign_Name_used _ _ _ _ hsw]
 refine wpAny_bind (wpAny_standAt (wpAny_bind ?_))
 show wpAny _ X.A (do let _ ←comprehension (.ListComp elt [⟨tg,iter,ifs,0⟩] scope pos) scope X.env _ (newList []) false (eval iter X.env) (some (assign (.Name y py) X.env))) _ _ s
 refine wpAny_bind (thn (comp_core (use:=some (assign (.Name y py) X.env)) (QV:=fun _ s'=>SP X pins E .next s') hcalm c hi hg htc hte gk I h (fun C D m ys H2 s2 I2 hm hC hD q => ?_) hs) fun _ s' hq=>wpAny_pure (wpAny_pure hq))
 show wpAny _ _ (assign (.Name y py) X.env (.ref D)) _ _ s2
 refine wpAny_assign_Name (store_ok2 I2 hN hy hl (v := .ref D) rfl (fun s3 I3 ⟨a,hsa,ha⟩ => ?_) hf)
 have hne:C≠a:=by
  rcases ha with e|e
  ·rw [e];exact hC.2.1
  ·exact fun z=>hC.2.2.2.2.1 _ _ e z.symm
 refine ⟨m,hm.at' fun o e=>hsa.extBut _ o hne e,fun h' hs' => ?_⟩
 exact ⟨_,_,I3.turned (it:=C) (t':=s3.toks) (fun b o hb e=>hs'.extBut b o hb e) hC.1 hC.2.1 hC.2.2.2.1 hC.2.2.2.2.1 hC.2.2.2.2.2,q D hD⟩
end L2
namespace L2
open PySem PySem.Spec PyProof.Rows
section
variable {X:Cx} {pins:List (Addr×Obj)} {σ:St} {H:Hp} {s:Shared} {p:Addr} {ys:List V}
theorem walk_list {A:Around} (hh:A.handled=none) (I:Inv X pins σ H s) (hq:SqL X.K H p ys) {R:Value→Shared→Prop} {E:Value→Shared→Prop}
  (h:∀(its:List Value) (it:Addr) (s2:Shared),Vals ys its→its.length≤sizeLine →
   Walks X.prog X.w A it [it,p] [it] its.toArray.size (fun i v=>its.toArray[i]? = some v) (fun i h=>h.IsListIter it p i∧h.IsList p its.toArray)→(s2.heap.IsListIter it p 0∧s2.heap.IsList p its.toArray)→(∀b∈[it,p],b<s2.heap.objs.size) →
   (∀h' tk,(∀b o,b ∉ [it]→s2.heap.get? b=some o→h'.get? b=some o)→Inv X pins σ H { s2 with heap:=h',toks:=tk })→R (.ref it) s2) :
  wpAny (model X.prog X.w) A (pyIter (.ref p)) R E s:=by
 obtain ⟨its,rv,pl,hz⟩:=I.list hq
 have hl:=pl.isList
 have hp:p<s.heap.objs.size:=by obtain ⟨o,e,_⟩:=hl;exact Heap.lt_size e
 refine wpAny_pyIter_list hl ?_
 refine h its s.heap.objs.size _ rv (by have:=rv.length;omega) (Walks.list hh _ p (Nat.ne_of_lt hp) its.toArray) ⟨⟨_,Heap.get?_push_size _ rfl,rfl,rfl⟩,hl.push _⟩ (fun b hb => ?_) fun h' tk hk => ?_
 ·show b<(s.heap.push _).objs.size
  rw [Heap.size_push]
  rcases List.mem_cons.mp hb with rfl|hb
  ·exact Nat.lt_succ_self _
  ·rw [List.mem_singleton.mp hb];exact Nat.lt_succ_of_lt hp
 ·exact I.kept (t':=tk) fun b o e=>hk b o (fun z=>addr_ne (Heap.lt_size e) (Nat.le_refl _) (List.mem_singleton.mp z)) (Heap.get?_push_of_some _ e)
theorem vals_at {ys:List V} {its:List Value} (r:Vals ys its) {i:Nat} {v:Value} (e:its.toArray[i]? = some v):∃y,ys[i]? = some y∧RelV y v:=by
 have e':its[i]? = some v:=by simpa using e
 have hi:i<its.length:=(List.getElem?_eq_some_iff.mp e').1
 have hl:=r.length
 obtain ⟨u,h1,h2⟩:=r.get (i:=i) (x:=ys[i]'(by omega)) (by simp)
 rw [e'] at h1;cases h1
 exact ⟨_,by simp,h2⟩
theorem range_all (bs:List Bool):(List.range bs.length).all (fun i=>bs.getD i false)=bs.all id:=by
 induction bs with
 | nil=>rfl
 | cons b r ih=>
  rw [List.length_cons,List.range_succ_eq_map,List.all_cons,List.all_map,List.all_cons, ←ih]
  rfl
theorem range_any (bs:List Bool):(List.range bs.length).any (fun i=>bs.getD i false)=bs.any id:=by
 induction bs with
 | nil=>rfl
 | cons b r ih=>
  rw [List.length_cons,List.range_succ_eq_map,List.any_cons,List.any_map,List.any_cons, ←ih]
  rfl
theorem truth_bl {A:Around} {bs:List Bool} {its:List Value} (r:Vals (bs.map V.bl) its):TruthOf X.prog X.w A (fun i v=>its.toArray[i]? = some v) (fun i=>bs.getD i false):=by
 intro i v s Q E e hQ
 obtain ⟨y,h1,h2⟩:=vals_at r e
 rw [List.getElem?_map] at h1
 cases q:bs[i]? with
 | none=>rw [q] at h1;cases h1
 | some b=>
  rw [q] at h1;cases h1
  cases h2
  have:bs.getD i false=b:=by simp [List.getD,q]
  have hQ:Q (bs.getD i false) s:=hQ
  rw [this] at hQ
  exact wpAny_pure hQ
theorem call_all_bl (hc:X.calm=true):CallR X (.builtin "all") (fun xs H Q=>∃(p:Addr) (bs:List Bool),xs=[.ref p]∧SqL X.K H p (bs.map V.bl)∧Q (.bl (bs.all id)) H):=by
 intro pins s σ H xs us Q I r h
 obtain ⟨p,bs,rfl,hq,q⟩:=h
 obtain ⟨u,rfl,ru⟩:=vals1 r
 cases ru
 refine call_all_walk (walk_list (A:=X.A.in1) (I.ok.hd hc) I hq fun its it s2 rv hz W st hlt hI => ?_)
 refine ⟨it,_,_,_,_,_,fun i=>bs.getD i false,rfl,W,st,truth_bl rv,fun h' tk hk => ?_⟩
 have hl:its.toArray.size=bs.length:=by have:=rv.length;simp at this ⊢;omega
 rw [hl,range_all]
 exact ⟨.bl _,H,hI h' tk hk,rfl,q⟩
theorem call_any_bl (hc:X.calm=true):CallR X (.builtin "any") (fun xs H Q=>∃(p:Addr) (bs:List Bool),xs=[.ref p]∧SqL X.K H p (bs.map V.bl)∧Q (.bl (bs.any id)) H):=by
 intro pins s σ H xs us Q I r h
 obtain ⟨p,bs,rfl,hq,q⟩:=h
 obtain ⟨u,rfl,ru⟩:=vals1 r
 cases ru
 refine call_any_walk (walk_list (A:=X.A.in1) (I.ok.hd hc) I hq fun its it s2 rv hz W st hlt hI => ?_)
 refine ⟨it,_,_,_,_,_,fun i=>bs.getD i false,rfl,W,st,truth_bl rv,fun h' tk hk => ?_⟩
 have hl:its.toArray.size=bs.length:=by have:=rv.length;simp at this ⊢;omega
 rw [hl,range_any]
 exact ⟨.bl _,H,hI h' tk hk,rfl,q⟩
theorem allK (K:PySem.W.Frag) (hc:X.calm=true) (hK:X.K=K:=by rfl):CallR X (.builtin "all") (fun xs H Q=>∃(p:Addr) (bs:List Bool),xs=[.ref p]∧SqL K H p (bs.map V.bl)∧Q (.bl (bs.all id)) H):=by subst hK;exact call_all_bl hc
theorem anyK (K:PySem.W.Frag) (hc:X.calm=true) (hK:X.K=K:=by rfl):CallR X (.builtin "any") (fun xs H Q=>∃(p:Addr) (bs:List Bool),xs=[.ref p]∧SqL K H p (bs.map V.bl)∧Q (.bl (bs.any id)) H):=by subst hK;exact call_any_bl hc
theorem mt_strip1:MtR X "str.strip" (fun x vs H Q=>∃a b,x = .str a∧vs=[.str b]∧a.length≤sizeLine∧Q (.str (Txt.stripChars a b)) H):=by
 intro pins s σ H x vs v us Q I rx rv h
 obtain ⟨a,b,rfl,rfl,hz,q⟩:=h
 obtain ⟨t,rfl⟩:=rx
 obtain ⟨u,rfl,t',rfl⟩:=rv.one
 exact SC.stripChars (fun t' k=>⟨.str _,H,I.tok _,⟨_,rfl⟩,q⟩) hz
theorem strs_are:∀{xs:List Str} {its:List Value},Vals (xs.map V.str) its→StrsAre its xs:=by
 intro xs its r
 induction xs generalizing its with
 | nil=>cases r;exact StrsAre.nil
 | cons x xs ih=>
  cases r with
  | cons r1 r2=>
   obtain ⟨t,rfl⟩:=r1
   exact StrsAre.cons x t (ih r2)
theorem mt_join:MtR X "str.join" (fun x vs H Q=>∃(sep:Str) (p:Addr) (xs:List Str),x = .str sep∧vs=[.ref p]∧SqL X.K H p (xs.map V.str)∧(xs.map (·.length)).sum+xs.length*sep.length≤16777216∧Q (.str (Txt.join sep xs)) H):=by
 intro pins s σ H x vs v us Q I rx rv h
 obtain ⟨sep,p,xs,rfl,rfl,hq,hz,q⟩:=h
 obtain ⟨t,rfl⟩:=rx
 obtain ⟨u,rfl,ru⟩:=rv.one
 cases ru
 obtain ⟨its,r',pl,_⟩:=I.list hq
 exact join_list pl.isList (strs_are r') hz fun t' k=>⟨.str _,H,I.tok _,⟨_,rfl⟩,q⟩
end
end L2
namespace L2
open PySem PySem.Spec PyProof.Rows
mutual
def Den (K:PySem.W.Frag) (H:Hp):PyData→V→Prop
 | .none,v=>v = .non
 | .bool b,v=>v = .bl b
 | .int i,v=>v = .int i
 | .str x,v=>v = .str x
 | .list ds,v=>Ex2 fun a vs=>v = .ref a∧SqL K H a vs∧Dens K H ds vs
 | .tuple ds,v=>Ex2 fun a vs=>v = .ref a∧SqT K H a vs∧Dens K H ds vs
 | .dict _,_=>False
def Dens (K:PySem.W.Frag) (H:Hp):List PyData→List V→Prop
 | [],vs=>vs=[]
 | d :: ds,vs=>Ex2 fun v r=>vs=v :: r∧Den K H d v∧Dens K H ds r
end
theorem Same.seqT {K:PySem.W.Frag} {H H':Hp} {a:Addr} {xs:List V} (e:Same H H') (h:SqT K H a xs):SqT K H' a xs:=by
 rcases h with (h|⟨o,h⟩)|h
 ·exact .inl (.inl (e _ _ h))
 ·exact .inl (.inr ⟨o,e _ _ h⟩)
 ·exact .inr h
mutual
theorem Den.same {K:PySem.W.Frag} {H H':Hp} (e:Same H H'):∀{d:PyData} {v:V},Den K H d v→Den K H' d v
 | .none,_,h=>by unfold Den at h ⊢;exact h
 | .bool _,_,h=>by unfold Den at h ⊢;exact h
 | .int _,_,h=>by unfold Den at h ⊢;exact h
 | .str _,_,h=>by unfold Den at h ⊢;exact h
 | .list ds,_,h=>by
  unfold Den at h ⊢
  obtain ⟨a,vs,h1,h2,h3⟩:=h
  exact ⟨a,vs,h1,e.seq h2,Dens.same e h3⟩
 | .tuple ds,_,h=>by
  unfold Den at h ⊢
  obtain ⟨a,vs,h1,h2,h3⟩:=h
  exact ⟨a,vs,h1,e.seqT h2,Dens.same e h3⟩
 | .dict _,_,h=>by unfold Den at h;exact h.elim
theorem Dens.same {K:PySem.W.Frag} {H H':Hp} (e:Same H H'):∀{ds:List PyData} {vs:List V},Dens K H ds vs→Dens K H' ds vs
 | [],_,h=>by unfold Dens at h ⊢;exact h
 | d :: ds,_,h=>by
  unfold Dens at h ⊢
  obtain ⟨v,r,h1,h2,h3⟩:=h
  exact ⟨v,r,h1,Den.same e h2,Dens.same e h3⟩
end
mutual
theorem Den.reads {X:Cx} {pins:List (Addr×Obj)} {σ:St} {H:Hp} {s:Shared} (I:Inv X pins σ H s):∀{d:PyData} {v:V} {u:Value},Den X.K H d v→RelV v u→∃as,Reads s.heap u d as
 | .none,_,_,h,r=>by unfold Den at h;subst h;cases r;exact ⟨_, .none⟩
 | .bool _,_,_,h,r=>by unfold Den at h;subst h;cases r;exact ⟨_, .bool _⟩
 | .int _,_,_,h,r=>by unfold Den at h;subst h;obtain ⟨t,rfl⟩:=r;exact ⟨_, .int _ _⟩
 | .str _,_,_,h,r=>by unfold Den at h;subst h;obtain ⟨t,rfl⟩:=r;exact ⟨_, .str _ _⟩
 | .list ds,_,_,h,r=>by
  unfold Den at h
  obtain ⟨a,vs,rfl,h2,h3⟩:=h
  cases r
  obtain ⟨its,rv,⟨o,n,e1,e2,_,e4⟩,_⟩:=I.list h2
  obtain ⟨as,q⟩:=Dens.reads I h3 rv
  exact ⟨_, .list e1 e2 e4 (by simpa using q)⟩
 | .tuple ds,_,_,h,r=>by
  unfold Den at h
  obtain ⟨a,vs,rfl,h2,h3⟩:=h
  cases r
  obtain ⟨its,rv,⟨o,e1,e2,n,e4⟩,_⟩:=I.tuple h2
  obtain ⟨as,q⟩:=Dens.reads I h3 rv
  exact ⟨_, .tuple e1 e2 e4 (by simpa using q)⟩
 | .dict _,_,_,h,_=>by unfold Den at h;exact h.elim
theorem Dens.reads {X:Cx} {pins:List (Addr×Obj)} {σ:St} {H:Hp} {s:Shared} (I:Inv X pins σ H s):∀{ds:List PyData} {vs:List V} {us:List Value},Dens X.K H ds vs→Vals vs us→∃as,ReadsAll s.heap us ds as
 | [],_,_,h,r=>by unfold Dens at h;subst h;cases r;exact ⟨_, .nil⟩
 | d :: ds,_,_,h,r=>by
  unfold Dens at h
  obtain ⟨v,q,rfl,h2,h3⟩:=h
  cases r with
  | cons r1 r2=>
   obtain ⟨as,q1⟩:=Den.reads I h2 r1
   obtain ⟨bs,q2⟩:=Dens.reads I h3 r2
   exact ⟨_, .cons q1 q2⟩
end
section
variable {X:Cx}
open PySem.SeqAt in
theorem op_eqD (hu:X.A.units+64<cLine):OpR X (compareOp .Eq) (fun x y H Q=>∃d e,Den X.K H d x∧Den X.K H e y∧shaped d=true∧shaped e=true∧Q (.bl (PyData.eqv d e)) H):=by
 intro pins s σ H x y v u Q I rx ry h
 obtain ⟨d,e,hd,he,sd,se,q⟩:=h
 obtain ⟨as,r1⟩:=hd.reads I rx
 obtain ⟨bs,r2⟩:=he.reads I ry
 exact eq_dataH r1 r2 sd se hu ⟨.bl _,H,I,rfl,q⟩
open PySem.SeqAt in
theorem op_neD (hu:X.A.units+64<cLine):OpR X (compareOp .NotEq) (fun x y H Q=>∃d e,Den X.K H d x∧Den X.K H e y∧shaped d=true∧shaped e=true∧Q (.bl (!PyData.eqv d e)) H):=by
 intro pins s σ H x y v u Q I rx ry h
 obtain ⟨d,e,hd,he,sd,se,q⟩:=h
 obtain ⟨as,r1⟩:=hd.reads I rx
 obtain ⟨bs,r2⟩:=he.reads I ry
 exact ne_dataH r1 r2 sd se hu ⟨.bl _,H,I,rfl,q⟩
theorem op_isB:OpR X (compareOp .Is) (fun x y H Q=>∃a b,x = .bl a∧y = .bl b∧Q (.bl (decide (a=b))) H):=by
 intro pins s σ H x y v u Q I rx ry h
 obtain ⟨a,b,rfl,rfl,q⟩:=h
 cases rx;cases ry
 refine wpAny_is_plain rfl (fin_bl I q ?_)
 cases a <;> cases b <;> rfl
theorem op_isnotB:OpR X (compareOp .IsNot) (fun x y H Q=>∃a b,x = .bl a∧y = .bl b∧Q (.bl (!decide (a=b))) H):=by
 intro pins s σ H x y v u Q I rx ry h
 obtain ⟨a,b,rfl,rfl,q⟩:=h
 cases rx;cases ry
 refine wpAny_isNot_plain rfl (fin_bl I q ?_)
 cases a <;> cases b <;> rfl
theorem call_isi:CallR X (.builtin "isinstance") (fun xs H Q=>∃x T t b,xs=[x, .ty T]∧TyOf X.K H x t∧PySem.W.kitOne X.K t (.type T)=some b∧Q (.bl b) H):=by
 intro pins s σ H xs us Q I r h
 obtain ⟨x,T,t,b,rfl,ty,e,q⟩:=h
 obtain ⟨u,w',rfl,r1,r2⟩:=vals2 r
 cases r2
 exact isinst_ok I r1 ty e fun tk=>⟨.bl b,H,I.tok _,rfl,q⟩
theorem sl_str:SlR X (fun x lo hi H Q=>∃z,x = .str z∧z.length≤sizeLine∧Q (.str (Txt.slice z lo hi)) H):=by
 intro pins s σ H x v vl vu lo hi sl Q I rx hs pl pu q
 obtain ⟨z,rfl,hz,q⟩:=q
 obtain ⟨t,rfl⟩:=rx
 refine ⟨"str",_,F.slot_str_getitem.lookup,typeIs_str _ _ _,?_⟩
 have fin:∀t' k,EP X pins σ Q (.str (Txt.slice z lo hi) t') { s with toks:=k }:=fun t' k=>⟨.str _,H,I.tok _,⟨_,rfl⟩,q⟩
 cases pl with
 | none=>
  cases pu with
  | none=>exact wpAny_getItem_str_slice (l:=none) (u:=none) (st:=none) hs rfl (post_val_or_str ⟨Nat.le_trans (Txt.slice_le z _ _) hz,fin⟩)
  | int j uj=>exact wpAny_getItem_str_slice (l:=none) (u:=some (j,uj)) (st:=none) hs rfl (post_val_or_str ⟨Nat.le_trans (Txt.slice_le z _ _) hz,fin⟩)
 | int i ui=>
  cases pu with
  | none=>exact wpAny_getItem_str_slice (l:=some (i,ui)) (u:=none) (st:=none) hs rfl (post_val_or_str ⟨Nat.le_trans (Txt.slice_le z _ _) hz,fin⟩)
  | int j uj=>exact wpAny_getItem_str_slice (l:=some (i,ui)) (u:=some (j,uj)) (st:=none) hs rfl (post_val_or_str ⟨Nat.le_trans (Txt.slice_le z _ _) hz,fin⟩)
end
end L2
namespace L2
open PySem PySem.Spec PyProof.Rows
section
variable {X:Cx} {pins:List (Addr×Obj)} {σ:St} {H:Hp} {s:Shared} {h':Heap}
theorem Inv.iter {t':Nat} {ch:List Addr} (I:Inv X pins σ H s) (hf:∀b∈ch,FpOk X pins H b) (keep:∀b o,b ∉ ch→s.heap.get? b=some o→h'.get? b=some o):Inv X pins σ H { s with heap:=h',toks:=t' }:=by
 have nch:∀b u,H b=some u→b ∉ ch:=fun b u e z=>by rw [(hf b z).1] at e;cases e
 refine I.step (g':=s.gens) (d':=s.drawn) (ch:=ch) (fun b hb=>⟨(hf b hb).2.2.2.1,(hf b hb).2.1,(hf b hb).2.2.2.2.1,(hf b hb).2.2.2.2.2⟩) (fun b o _ _ hc e _=>keep b o hc e) (fun b o _ _ hc e _=>⟨o.slots,keep b o hc e⟩)
  (fun _ _ _ _ n=>n) (fun b o hc e=>⟨o,keep b o hc e⟩) (fun _ _ e=>e) (fun _ _ _ e=>e) (fun b ps e=>⟨#[],by rw [e];simp⟩) (fun m hm=>hm.at' fun o e=>keep _ o (fun z=>(hf _ z).2.1 rfl) e) (fun b u e => ?_) I.bare
 refine (I.hok b u e).stay (fun c v hc q=>keep c v ?_ q) (fun _ q=>q) fun _ _ q=>q
 rcases hc with z|z
 ·rw [z];exact nch b u e
 ·exact nch c _ z
theorem Inv.adopt {T:Addr} {o:HO} (I:Inv X pins σ H s) (hT:FpOk X pins H T) (hex:X.s₀.heap.objs.size≤T) (new:ObjOk X.prog X.w (upd H T o) s.heap T o):Inv X pins σ (upd H T o) s:=
 ⟨I.ok,I.os,I.bare,⟨I.base.keep,I.base.slot,fun b ob e n hx=>by rw [upd_ne (addr_ne (Heap.lt_size e) hex)];exact I.base.free b ob e n hx,I.base.there,
   fun b xs e=>by rw [upd_ne (ne_of_none (I.base.tups b xs e) hT.1)];exact I.base.tups b xs e,fun b ob xs e=>by rw [upd_ne (ne_of_none (I.base.frzs b ob xs e) hT.1)];exact I.base.frzs b ob xs e,
   fun b ps e=>by
    obtain ⟨m,q⟩:=I.base.tbls b ps e
    exact ⟨m,by rw [upd_ne (ne_of_none q hT.1)];exact q⟩⟩,
  I.loc,I.cell,by rw [upd_ne (Ne.symm hT.2.1)];exact I.free,fun x c e=>by rw [upd_ne (hT.2.2.2.2.1 x c e)];exact I.freeC x c e,
  fun p hp=>by
   refine Elim.el (I.pin p hp) _ ?_
   rintro a b c d f
   exact ⟨a,by rw [upd_ne (hT.2.2.2.2.2 p hp)];exact b,c,d,f⟩,I.hok.adopt hT.1 new,I.len⟩
end
theorem vals_get {xs:List V} {its:List Value} {i:Nat} {x:V} (r:Vals xs its) (e:xs[i]? = some x):∃u,its.toArray[i]? = some u∧RelV x u:=by
 refine Elim.el (r.get e) _ ?_
 rintro u h1 h2
 exact ⟨u,by simpa using h1,h2⟩
section
variable {X:Cx}
end
end L2
namespace L2
open PySem PySem.Spec PyProof.Rows
noncomputable def Ite (K:PySem.W.Frag) (a:Addr):It:=
 ⟨fun i H=>Ex2 fun xs x=>SqL K H a xs∧xs[i]? = some x,
   fun i H v H'=>∃T,v = .ref T∧H T=none∧∀xs x,SqL K H a xs→xs[i]? = some x→H'=upd H T (.tup [.int i,x]),
   fun i H=>∃xs,SqL K H a xs∧xs.length≤i⟩
theorem turn_enum {P:Program} {w:World} {K:PySem.W.Frag} {elts:List Expr} {k:Nat} {tp:Pos} (e it l:Addr) (hei:e≠it) (hle:l≠e) (hli:l≠it) :
  Turn P w K (.Tuple elts k tp) (Ite K l) [e,it] e (fun i h=>(∃old,IsEnum h e it i old)∧h.IsListIter it l i) where
 mem:=by simp
 obj:=fun i h st b hb=>by
  obtain ⟨⟨_,h1⟩,⟨o4,h4,_,d4⟩⟩:=st
  simp at hb
  rcases hb with rfl|rfl
  ·exact ⟨_,h1,fun _ z=>nomatch z⟩
  ·exact ⟨_,h4,fun v q=>by rw [d4] at q;cases q⟩
 keep:=fun i h h' st hk=>by
  obtain ⟨⟨a,h1⟩,h4⟩:=st
  exact ⟨⟨a,hk e (by simp) _ h1⟩,h4.at fun o e=>hk it (by simp) o e⟩
 item:=fun X hP hw hK hc i pins s σ H E I hf st go=>by
  subst hP hw hK
  obtain ⟨⟨old,he⟩,h1⟩:=st
  obtain ⟨xs,x,q1,e1⟩:=go
  obtain ⟨its1,r1,p1,_⟩:=I.list q1
  obtain ⟨u1,g1,ru1⟩:=vals_get r1 e1
  refine wpAny_pyNext_enum_item he h1 p1.isList g1 hei fun h' a1 a3 a5 a6 a7=>⟨_,rfl,?_⟩
  refine wpAny_letOwnedTupleGo_enum a1 fun h'' b1 b2 => ?_
  have hTz:s.heap.objs.size≠e:=addr_ne' (Heap.lt_size he) (Nat.le_refl _)
  have kp:∀c o,c ∉ [e,it]→s.heap.get? c=some o→h''.get? c=some o:=fun c o hc z=>by
   simp only [List.mem_cons,List.not_mem_nil,or_false,not_or] at hc
   exact b2.extBut c o hc.1 (a7 c o hc.1 hc.2 z)
  have I1:Inv X pins σ H { s with heap:=h'',toks:=s.toks+1 }:=I.iter hf kp
  have fT:FpOk X pins H s.heap.objs.size:=I.fpOk (Nat.le_refl _) (I.hok.fresh (Nat.le_refl _))
  have oT:h''.get? s.heap.objs.size=some { cls := .type "tuple",data := .seq #[.int i s.toks,u1] }:=b2.extBut _ _ hTz a5
  have I2:=I1.adopt (T:=s.heap.objs.size) (o := .tup [.int i,x]) fT I.sz ⟨by show 2≤sizeLine;decide,[.int i s.toks,u1], .cons ⟨_,rfl⟩ (.cons ru1 .nil),⟨_,oT,rfl,_,rfl⟩⟩
  refine ⟨.ref s.heap.objs.size,_,I2,rfl,⟨_,rfl,fT.1,fun xs' x' q1' e1' => ?_⟩,⟨⟨_,by
   have b1:IsEnum h'' e it ((i:Int)+1) u1:=b1
   have z:(((i+1:Nat):Int))=(i:Int)+1:=by omega
   show IsEnum h'' e it ((i+1:Nat):Int) _
   rw [z];exact b1⟩,a3.extBut b2.extBut (Ne.symm hei)⟩,fun c hc => ?_⟩
  ·rw [I.list_inj q1' q1] at e1'
   rw [e1] at e1';cases e1';rfl
  ·have hcs:c<s.heap.objs.size:=by
    simp at hc
    obtain ⟨_,h1,_⟩:=h1
    rcases hc with rfl|rfl
    ·exact Heap.lt_size he
    ·exact Heap.lt_size h1
   rw [upd_ne (addr_ne hcs (Nat.le_refl _))]
   exact (hf c hc).1
 done:=fun X hP hw hK hc i pins s σ H E I hf st stop=>by
  subst hP hw hK
  obtain ⟨⟨old,he⟩,h1⟩:=st
  obtain ⟨xs,q1,e⟩:=stop
  obtain ⟨its1,r1,p1,_⟩:=I.list q1
  have l1':=r1.length
  refine wpAny_pyNext_enum_end (I.ok.hd hc) he h1 p1.isList (by simp;omega) fun h' kp=>⟨rfl,?_⟩
  refine I.iter (ch:=[it]) (t':=s.toks) (fun c hc=>hf c (by simp at hc ⊢;simp [hc])) fun c o hc z=>kp c o (fun q=>hc (by simp [q])) z
 self:=fun A i s Q E st hQ=>by
  obtain ⟨⟨old,he⟩,_⟩:=st
  exact wpAny_pyIter_enum he hQ
section
variable {X:Cx}
def iEnum (K:PySem.W.Frag) (ta:TA):TI:=fun σ H R=>ta σ H fun vs H1=>∃a,vs=[.ref a]∧(∃xs,SqL K H1 a xs)∧R (Ite K a) H1
theorem pi_enum {elts:List Expr} {k:Nat} {tp:Pos} {a:Expr} {ta:TA} {p pos:Pos} (hg:Gl X "enumerate") (hm:X.mg "enumerate" = none) (ha:PA X [a] ta) (hb:bootBuiltins "enumerate" = some (.type "enumerate"):=by first|rfl|decide) (hs:starEach [a] X.env=[(false,eval a X.env)]:=by rfl) :
  PI X (.Tuple elts k tp) (.Call (.Name "enumerate" p) [a] [] pos) (iEnum X.K ta):=by
 intro pins s σ H R I h
 refine Call_ (ld_blt I hg hm hb (PyProof.Rows.callWith_type1 (thn (ha s σ H _ I h) fun us s1 hz_=>Elim.el hz_ _ fun vs H1 I1 r1 q1 => ?_) hs rfl))
 obtain ⟨l1,e,⟨xs,q1⟩,q⟩:=q1
 subst e
 obtain ⟨u,rfl,ru⟩:=vals1 r1
 cases ru
 obtain ⟨its1,rv1,p1,_⟩:=I1.list q1
 have a1:l1<s1.heap.objs.size:=by obtain ⟨_,e,_⟩:=p1.isList;exact Heap.lt_size e
 refine call_enumerate_list p1.isList (fun h' he hi1 hsz hk => ?_)
 refine wpAny_pyIter_enum he ?_
 have I2:Inv X pins σ H1 { s1 with heap:=h' }:=I1.kept (t':=s1.toks) hk
 refine ⟨_,_,_,_,H1,rfl,I2,turn_enum _ _ _ (Nat.succ_ne_self _) (Nat.ne_of_lt (Nat.lt_succ_of_lt a1)) (Nat.ne_of_lt a1),⟨⟨_,he⟩,hi1⟩,fun c hc => ?_,q⟩
 have hcs:s1.heap.objs.size≤c:=by
  simp at hc
  rcases hc with rfl|rfl
  ·exact Nat.le_add_right _ _
  ·exact Nat.le_refl _
 exact I1.fpOk hcs (I1.hok.fresh hcs)
end
end L2
namespace L2
open PySem PySem.Spec PyProof.Rows
section
variable {X:Cx}
def rAddA:R2:=fun x y H Q=>(Ex2 fun i j=>x = .int i∧y = .int j∧Q (.int (i+j)) H)∨(∃i j,x = .str i∧y = .str j∧i.length+j.length≤sizeLine∧Q (.str (i++j)) H)∨rCat x y H Q
theorem g_add:OpR X (binaryOp .Add) rAddA:=op_add.or (op_add_str.or op_cat)
def rMulA:R2:=fun x y H Q=>(Ex2 fun i j=>x = .int i∧y = .int j∧CMul i j∧Q (.int (i*j)) H)∨rRep x y H Q
theorem g_mul:OpR X (binaryOp .Mult) rMulA:=op_mul.or op_rep
structure Fn (P:Program) (w:World) (K:PySem.W.Frag) (mg:Str→Option Value) (base:Heap) (k:Nat) (x:Str) (ps:List Str) (sp:Sp):Prop where
 ex:∃f fd,FnOk P w K mg base CX0 k f fd ps sp∧Binds K fd ps []∧PySem.W.keepIn K (.ref f)=true∧mg x=some (.ref f)
theorem Fn.mono {P:Program} {w:World} {K:PySem.W.Frag} {mg:Str→Option Value} {base:Heap} {j k:Nat} {x:Str} {ps:List Str} {sp:Sp} (F:Fn P w K mg base j x ps sp) (h:j≤k):Fn P w K mg base k x ps sp:=by
 refine Elim.el (F.ex) _ ?_
 rintro f fd a b c d
 exact ⟨f,fd,a.mono h,b,c,d⟩
theorem pe_fn {k:Nat} {x:Str} {ps:List Str} {sp:Sp} {p pos:Pos} {e:Expr} {es:List Expr} {t:TA} (F:Fn X.prog X.w X.K X.mg X.base k x ps sp) (hr:Room k X.A) (hg:Gl X x)
  (ha:PA X (e :: es) t) (hdb:(x == ("__debug__" : Str))=false:=by decide) (he:starEach (e :: es) X.env=(false,eval e X.env) :: starEach es X.env:=by rfl) (hpl:(backTo pos (starEach es X.env)).any (·.1)=false:=by rfl) :
  PE X (.Call (.Name x p) (e :: es) [] pos) (tCall sp [] E0 t):=by
 refine Elim.el (F.ex) _ ?_
 rintro f fd a b c d
 exact pe_call a hr hg d c b .nil pass0 ha hdb he hpl
end
noncomputable def compChk (pn sn:List (Str×NameKind)) (N Fc:List Str) (js:List Nat):Bool:=
 sn.all (fun y=>y.2 != .cell)&&sn.all (fun y=>y.2 != .local||sn.lookup y.1 == some .local)&&sn.all (fun y=>y.2 != .free||pn.lookup y.1 == some .cell||pn.lookup y.1 == some .free)&&js.length == Fc.length &&
 (List.range Fc.length).all fun k=>match Fc[k]?,js[k]? with
  | some x,some j=>sn.lookup x == some .free&&N[j]? == some x
  | _,_=>false
theorem comp_ok {X:Cx} {scope:Scope} {Nc Fc:List Str} {js:List Nat} (hk:scope.kind = .function:=by rfl) (h:compChk X.env.scope.names scope.names X.N Fc js=true:=by rfl):CompOk X scope Nc Fc js:=by
 unfold compChk at h
 simp -iota only [Bool.and_eq_true,List.all_eq_true,Bool.or_eq_true,bne_iff_ne,beq_iff_eq,ne_eq] at h
 obtain ⟨⟨⟨⟨h1,h2⟩,h3⟩,h4⟩,h5⟩:=h
 refine ⟨hk,h1,fun y hy hl=>(h2 y hy).resolve_left (fun z=>z hl),fun y hy hf => ?_,fun k x hx => ?_,h4⟩
 ·rcases h3 y hy with (z|z)|z
  ·exact absurd hf z
  ·exact .inl z
  ·exact .inr z
 ·have hk':k<Fc.length:=(List.getElem?_eq_some_iff.mp hx).1
  have q:=h5 k (List.mem_range.mpr hk')
  have hj:k<js.length:=by omega
  rw [hx,List.getElem?_eq_getElem hj] at q
  simp only [Bool.and_eq_true,beq_iff_eq] at q
  exact ⟨q.1,_,List.getElem?_eq_getElem hj,q.2⟩
end L2
namespace L2
open PySem PySem.Spec PyProof.Rows
section
variable {X:Cx}
theorem g_eq (hu:X.A.units+64<cLine):OpR X (compareOp .Eq) (fun x y H Q=>rEq x y H Q∨(∃d e,Den X.K H d x∧Den X.K H e y∧SeqAt.shaped d=true∧SeqAt.shaped e=true∧Q (.bl (PyData.eqv d e)) H)):=op_eq.or (op_eqD hu)
theorem g_ne (hu:X.A.units+64<cLine):OpR X (compareOp .NotEq) (fun x y H Q=>rNe x y H Q∨(∃d e,Den X.K H d x∧Den X.K H e y∧SeqAt.shaped d=true∧SeqAt.shaped e=true∧Q (.bl (!PyData.eqv d e)) H)):=op_ne.or (op_neD hu)
theorem g_is:OpR X (compareOp .Is) (fun x y H Q=>(y = .non∧Q (.bl (decide (x = .non))) H)∨(∃a b,x = .bl a∧y = .bl b∧Q (.bl (decide (a=b))) H)):=op_isN.or op_isB
theorem g_isnot:OpR X (compareOp .IsNot) (fun x y H Q=>(y = .non∧Q (.bl (!decide (x = .non))) H)∨(∃a b,x = .bl a∧y = .bl b∧Q (.bl (!decide (a=b))) H)):=op_notN.or op_isnotB
theorem g_sl:SlR X (fun x lo hi H Q=>rSlL X.K x lo hi H Q∨(∃z,x = .str z∧z.length≤sizeLine∧Q (.str (Txt.slice z lo hi)) H)):=sl_list.or sl_str
structure Nm (mg:Str→Option Value):Prop where
 n_len:mg "len" = none
 n_range:mg "range" = none
 n_max:mg "max" = none
 n_min:mg "min" = none
 n_sum:mg "sum" = none
 n_all:mg "all" = none
 n_any:mg "any" = none
 n_list:mg "list" = none
 n_tuple:mg "tuple" = none
 n_int:mg "int" = none
 n_str:mg "str" = none
 n_bool:mg "bool" = none
 n_zip:mg "zip" = none
 n_enumerate:mg "enumerate" = none
 n_isinstance:mg "isinstance" = none
 n_divmod:mg "divmod" = none
end
end L2
namespace L2
open PySem PySem.Spec PyProof.Rows
theorem comp_go {J:It} {n:Nat} {js:List Nat} {g:TG} {tc:TT} {te:TE} {σ:St} {H1:Hp} {fin:List V→Hp→Prop} (N:Nat) (Pv:Nat→List V→Hp→Prop) (h0:Pv 0 [] H1)
  (go:∀i ys H (Nx:List V→Hp→Prop),i<N→Pv i ys H→(∀ys' H',Pv (i+1) ys' H'→Nx ys' H')→J.go i H∧ys.length<sizeLine ∧
   ∀x H',J.yld i H x H'→g x (List.replicate n none++cvals σ js) H' fun σ2 H2=>tc σ2 H2 fun b H3=>if b=true then te σ2 H3 fun y H4=>Nx (ys++[y]) H4 else Nx ys H3)
  (stop:∀ys H,Pv N ys H→J.stop N H∧fin ys H):CompW J n js g tc te σ H1 fin:=by
 refine ⟨fun i m ys H=>m=N-i∧i≤N∧Pv i ys H,⟨N,by simp,Nat.zero_le _,h0⟩,?_⟩
 intro i m ys H
 refine Elim.go ?_
 rintro rfl hi p
 by_cases hlt:i<N
 ·exact .inr (go i ys H (fun ys' H'=>∃m',m'<N-i∧(m'=N-(i+1)∧i+1≤N∧Pv (i+1) ys' H')) hlt p fun ys' H' q=>⟨_,by omega,rfl,hlt,q⟩)
 ·have e:i=N:=by omega
  subst e
  exact .inl (stop ys H p)
section
variable {X:Cx} (K:PySem.W.Frag)
theorem ixK (hK:X.K=K:=by rfl):IxR X (rIx K):=by subst hK;exact ix_seq
theorem lenK (hK:X.K=K:=by rfl):CallR X (.builtin "len") (fun xs H Q=>∃x n,xs=[x]∧LenV K x H n∧Q (.int n) H):=by subst hK;exact call_len
theorem joinK (hK:X.K=K:=by rfl):MtR X "str.join" (fun x vs H Q=>∃(sep:Str) (p:Addr) (xs:List Str),x = .str sep∧vs=[.ref p]∧SqL K H p (xs.map V.str)∧(xs.map (·.length)).sum+xs.length*sep.length≤16777216∧Q (.str (Txt.join sep xs)) H):=by subst hK;exact mt_join
theorem piK {tg l:Expr} {tl:TE} (hl:PE X l tl) (hK:X.K=K:=by rfl):PI X tg l (iList K tl):=by subst hK;exact pi_list hl
theorem tupK {pos:Pos} {es:List Expr} {k:Nat} {t:TGs} (n:Nat) (hc:X.calm=true) (h:PGs X es t) (hn:(assignEach es X.env).length=n:=by rfl) (hst:(assignEach es X.env).findIdx? (·.1)=none:=by rfl) (hK:X.K=K:=by rfl):PG X (.Tuple es k pos) (gTup K n t):=by subst hK;exact pg_tup hc h hn hst
theorem bmK {o e:Expr} {es:List Expr} {to:TE} {t:TA} {name:Str} {apos cpos:Pos} {T id:String} {r:V→List V→Hp→VK→Prop} (pa:PlainAttrs T) (slot:Slot T name id) (hty:typeOf (.builtin id)=pure (.type "method_descriptor")) (hm:MtR X id r) (ho:PE X o to) (ha:PA X (e :: es) t)
  (hbase:attributeBase o name X.env (eval o X.env)=eval o X.env:=by rfl)
  (hfew:((backTo cpos (starEach (e :: es) X.env)).all (fun x => !x.1)&&(backToKw cpos (keywordEach [] X.env)).all (fun x=>x.1.isSome)
   && decide ((e :: es).length+([]:List Keyword).length+(if ([]:List Keyword).isEmpty then 0 else 1)<30))=true:=by rfl)
  (hline:(apos.endLine == cpos.line)=true:=by rfl) (hs:starEach (e :: es) X.env=(false,eval e X.env) :: starEach es X.env:=by rfl) (hplain:(backTo cpos (starEach es X.env)).any (·.1)=false:=by rfl) (hK:X.K=K:=by rfl) :
  PE X (.Call (.Attribute o name apos) (e :: es) [] cpos) (tBM K T r to t):=by subst hK;exact pe_bm pa slot hty hm ho ha hbase hfew hline hs hplain
theorem eqK (hu:X.A.units+64<cLine) (hK:X.K=K:=by rfl):OpR X (compareOp .Eq) (fun x y H Q=>rEq x y H Q∨(∃d e,Den K H d x∧Den K H e y∧SeqAt.shaped d=true∧SeqAt.shaped e=true∧Q (.bl (PyData.eqv d e)) H)):=by subst hK;exact g_eq hu
theorem neK (hu:X.A.units+64<cLine) (hK:X.K=K:=by rfl):OpR X (compareOp .NotEq) (fun x y H Q=>rNe x y H Q∨(∃d e,Den K H d x∧Den K H e y∧SeqAt.shaped d=true∧SeqAt.shaped e=true∧Q (.bl (!PyData.eqv d e)) H)):=by subst hK;exact g_ne hu
end
end L2
namespace L2
open PySem PySem.Spec PyProof.Rows
abbrev Keeps (g h:Heap) (c:Addr→Prop):Prop:=∀b o, ¬c b→g.get? b=some o→h.get? b=some o
section
variable {prog:Program} {w:World} {A:Around} {it S:Addr} {T:String} {fp:Addr→Prop} {n:Nat} {P:Nat→Value→Heap→Prop} {R:Value→Value→Prop} {St:Nat→Heap→Prop}
end
end L2
namespace L2
open PySem PySem.Spec PyProof.Rows
section
variable {prog:Program} {w:World} {A:Around} {E:Value→Shared→Prop} {s:Shared} {z TI TO i1 i2 l1 l2 a:Addr} {f:Bool} {oa:Obj}
end
end L2
namespace L2
open PySem PySem.Spec PyProof.Rows
section
variable {X:Cx}
end
end L2
namespace L2
open PySem PySem.Spec PyProof.Rows
structure New (H:Hp) (p:Addr) (o:HO) (H':Hp):Prop where
 nn:H p=none
 eq:H'=upd H p o
theorem New.at {H H':Hp} {p:Addr} {o:HO} (n:New H p o H'):H' p=some o:=by rw [n.eq];exact upd_same
theorem New.ne {H H':Hp} {p a:Addr} {o:HO} (n:New H p o H') (h:a≠p):H' a=H a:=by rw [n.eq];exact upd_ne h
theorem New.same {H H':Hp} {p:Addr} {o:HO} (n:New H p o H'):Same H H':=fun a u e=>by rw [n.ne (ne_of_none e n.nn)];exact e
theorem New.back {H H':Hp} {p a:Addr} {o:HO} (n:New H p o H') (h:H' a=none):H a=none:=by
 cases e:H a with
 | none=>rfl
 | some u=>rw [n.same a u e] at h;cases h
structure Chg (H:Hp) (p:Addr) (o:HO) (H':Hp):Prop where
 eq:H'=upd H p o
theorem Chg.at {H H':Hp} {p:Addr} {o:HO} (n:Chg H p o H'):H' p=some o:=by rw [n.eq];exact upd_same
theorem Chg.ne {H H':Hp} {p a:Addr} {o:HO} (n:Chg H p o H') (h:a≠p):H' a=H a:=by rw [n.eq];exact upd_ne h
theorem new_all {H:Hp} {o:HO} {F:Addr→Hp→Prop} : (∀p,H p=none→F p (upd H p o)) = ∀p H',New H p o H'→F p H':=
 propext ⟨fun h p H' n=>by rw [n.eq];exact h p n.nn,fun h p hp=>h p _ ⟨hp,rfl⟩⟩
theorem chg_all {H:Hp} {p:Addr} {o:HO} {F:Hp→Prop} : F (upd H p o) = ∀H',Chg H p o H'→F H':=
 propext ⟨fun h H' n=>by rw [n.eq];exact h,fun h=>h _ ⟨rfl⟩⟩
section
variable {X:Cx} {pos:Pos} {es:List Expr} {t:TA}
def tTupN (t:TA):TE:=fun σ H Q=>t σ H fun xs H1=>xs.length≤sizeLine∧∀p H',New H1 p (.tup xs) H'→Q (.ref p) H'
def tLstN (t:TA):TE:=fun σ H Q=>t σ H fun xs H1=>xs.length≤sizeLine∧∀p H',New H1 p (.lst xs) H'→Q (.ref p) H'
theorem tupN {x1} (h:PA X es t):PE X (.Tuple es x1 pos) (tTupN t):=by
 have e:tTupN t=tTup t:=by
  funext σ H Q
  show t σ H _=t σ H _
  congr 1;funext xs H1
  exact congrArg (_ ∧ ·) (new_all (F:=fun p H'=>Q (.ref p) H')).symm
 rw [e];exact pe_tup h
theorem lstN (h:PA X es t):PE X (.List es pos) (tLstN t):=by
 have e:tLstN t=tLst t:=by
  funext σ H Q
  show t σ H _=t σ H _
  congr 1;funext xs H1
  exact congrArg (_ ∧ ·) (new_all (F:=fun p H'=>Q (.ref p) H')).symm
 rw [e];exact pe_lst h
def tDispN (trs:List (TE×TE)):TE:=fun σ H Q=>∀p H0,New H p (.dK []) H0→tPairs trs σ H0 fun ps H2=>H2 p=some (.dK [])∧∃kvs:List (Key×V),ps=kvs.map (fun kv=>(kV kv.1,kv.2))∧kvs.length≤15∧∀H3,Chg H2 p (.dK (mergeK [] kvs)) H3→Q (.ref p) H3
theorem dispN {keys:List (Option Expr)} {values:List Expr} {trs:List (TE×TE)} (h:PPs X pos keys values trs) (hall:keys.all (·.isSome)=true) (hl:keys.length=values.length) (h0:keys≠[])
  (h15:keys.length≤15):PE X (.Dict keys values pos) (tDispN trs):=by
 have e:tDispN trs=tDisp trs:=by
  funext σ H Q
  unfold tDispN tDisp
  rw [new_all (F:=fun p H0=>tPairs trs σ H0 fun ps H2=>H2 p=some (.dK [])∧∃kvs:List (Key×V),ps=kvs.map (fun kv=>(kV kv.1,kv.2))∧kvs.length≤15∧Q (.ref p) (upd H2 p (.dK (mergeK [] kvs))))]
  simp only [←chg_all (F:=fun H3=>Q (.ref _) H3)]
 rw [e];exact pe_disp h hall hl h0 h15
end
section
variable {X:Cx} (K:PySem.W.Frag)
def rSlN (K:PySem.W.Frag):V→Option Int→Option Int→Hp→VK→Prop:=fun x lo hi H Q=>(Ex2 fun a xs=>x = .ref a∧SqL K H a xs∧∀p H',New H p (.lst (cutV xs lo hi)) H'→Q (.ref p) H')∨(∃z,x = .str z∧z.length≤sizeLine∧Q (.str (Txt.slice z lo hi)) H)
theorem slN (hK:X.K=K:=by rfl):SlR X (rSlN K):=by
 subst hK
 intro pins s σ H x v vl vu lo hi sl Q I rx hs pl pu q
 refine g_sl s σ H x v vl vu lo hi sl Q I rx hs pl pu ?_
 rcases q with ⟨a,xs,e,h,q⟩|q
 ·exact .inl ⟨a,xs,e,h,fun p hp=>q p _ ⟨hp,rfl⟩⟩
 ·exact .inr q
theorem listN (hK:X.K=K:=by rfl):CallR X (.type "list") (fun xs H Q=>∃p ys,xs=[.ref p]∧(SqL K H p ys∨SqT K H p ys)∧∀l H',New H l (.lst ys) H'→Q (.ref l) H'):=by
 subst hK
 intro pins s σ H xs us Q I r h
 refine Elim.el (h) _ ?_
 rintro p ys e h q
 exact call_list_of s σ H xs us Q I r ⟨p,ys,e,h,fun l hl=>q l _ ⟨hl,rfl⟩⟩
theorem tupleN (hK:X.K=K:=by rfl):CallR X (.type "tuple") (fun xs H Q=>∃p ys,xs=[.ref p]∧((SqL K H p ys∧∀l H',New H l (.tup ys) H'→Q (.ref l) H')∨(SqT K H p ys∧Q (.ref p) H))):=by
 subst hK
 intro pins s σ H xs us Q I r h
 refine Elim.el (h) _ ?_
 rintro p ys e h
 refine call_tuple_of s σ H xs us Q I r ⟨p,ys,e,?_⟩
 rcases h with ⟨h,q⟩|h
 ·exact .inl ⟨h,fun l hl=>q l _ ⟨hl,rfl⟩⟩
 ·exact .inr h
end
section
variable {X:Cx}
def rAddN:R2:=fun x y H Q=>(Ex2 fun i j=>x = .int i∧y = .int j∧Q (.int (i+j)) H)∨(∃i j,x = .str i∧y = .str j∧i.length+j.length≤sizeLine∧Q (.str (i++j)) H) ∨
 Ex4 fun l b xs zs=>x = .ref l∧y = .ref b∧H l=some (.lst xs)∧H b=some (.lst zs)∧xs.length+zs.length≤sizeLine∧∀p H',New H p (.lst (xs++zs)) H'→Q (.ref p) H'
theorem addN:OpR X (binaryOp .Add) rAddN:=by
 intro pins s σ H x y v u Q I rx ry h
 refine g_add s σ H x y v u Q I rx ry ?_
 rcases h with h|h|⟨l,b,xs,zs,e1,e2,h1,h2,h3,q⟩
 ·exact .inl h
 ·exact .inr (.inl h)
 ·exact .inr (.inr ⟨l,b,xs,zs,e1,e2,h1,h2,h3,fun p hp=>q p _ ⟨hp,rfl⟩⟩)
def rMulN:R2:=fun x y H Q=>(Ex2 fun i j=>x = .int i∧y = .int j∧CMul i j∧Q (.int (i*j)) H) ∨
 Ex3 fun l k xs=>x = .ref l∧y = .int k∧H l=some (.lst xs) ∧ -(2 ^ 63)≤k∧k<2 ^ 63∧xs.length*k.toNat≤sizeLine∧∀p H',New H p (.lst (List.replicate k.toNat xs).flatten) H'→Q (.ref p) H'
theorem mulN:OpR X (binaryOp .Mult) rMulN:=by
 intro pins s σ H x y v u Q I rx ry h
 refine g_mul s σ H x y v u Q I rx ry ?_
 rcases h with h|⟨l,k,xs,e1,e2,h1,h2,h3,h4,q⟩
 ·exact .inl h
 ·exact .inr ⟨l,k,xs,e1,e2,h1,h2,h3,h4,fun p hp=>q p _ ⟨hp,rfl⟩⟩
theorem divmodN:CallR X (.builtin "divmod") (fun xs H Q=>∃i j,xs=[.int i, .int j]∧CDiv i j∧∀p H',New H p (.tup [.int (i / j), .int (i % j)]) H'→Q (.ref p) H'):=by
 intro pins s σ H xs us Q I r h
 refine Elim.el (h) _ ?_
 rintro i j e c q
 exact call_divmod s σ H xs us Q I r ⟨i,j,e,c,fun p hp=>q p _ ⟨hp,rfl⟩⟩
theorem appendN:MtM X "list.append" (fun x vs H Q=>∃l xs y,x = .ref l∧vs=[y]∧H l=some (.lst xs)∧xs.length<sizeLine∧∀H',Chg H l (.lst (xs++[y])) H'→Q .non H'):=by
 intro pins s σ H x xs v us Q I rx rv h
 refine Elim.el (h) _ ?_
 rintro l ys y e1 e2 h1 h2 q
 exact mt_append s σ H x xs v us Q I rx rv ⟨l,ys,y,e1,e2,h1,h2,q _ ⟨rfl⟩⟩
end
theorem at_nat {α:Type} {xs:List α} {i:Int} {v : α} (h0:0≤i) (h:xs[i.toNat]? = some v):atI xs i=some v:=by
 have q:=atI_nat h
 have e:((i.toNat:Nat):Int)=i:=by omega
 rw [e] at q
 exact q
end L2
namespace L2
open PySem PySem.Spec PyProof.Rows
noncomputable def tyD:PyData→String
 | .none => "NoneType"
 | .bool _ => "bool"
 | .int _ => "int"
 | .str _ => "str"
 | .list _ => "list"
 | .tuple _ => "tuple"
 | .dict _ => "dict"
noncomputable def isD (d:PyData) (T:String):Bool:=tyD d == T||(tyD d == "bool" && T == "int")
theorem kitT (K:PySem.W.Frag) (d:PyData):PySem.W.kitOne K (.type (tyD d)) (.type "bool")=some (isD d "bool")∧PySem.W.kitOne K (.type (tyD d)) (.type "int")=some (isD d "int")∧PySem.W.kitOne K (.type (tyD d)) (.type "str")=some (isD d "str") ∧
  PySem.W.kitOne K (.type (tyD d)) (.type "list")=some (isD d "list")∧PySem.W.kitOne K (.type (tyD d)) (.type "tuple")=some (isD d "tuple"):=by
 cases d <;> exact ⟨rfl,rfl,rfl,rfl,rfl⟩
section
variable {X:Cx}
theorem den_kit {pins:List (Addr×Obj)} {σ:St} {H:Hp} {s:Shared} {x:V} {u:Value} {d:PyData} (I:Inv X pins σ H s) (rx:RelV x u) (h:Den X.K H d x):∃HH:Heap→Prop,PySem.W.KitX X.K u (.type (tyD d)) HH∧HH s.heap∧u ≠ .builtin "__main__.__loader__#opaque":=by
 cases d with
 | none=>unfold Den at h;subst h;cases rx;exact ⟨_,PySem.W.kitx_none,True.intro,fun z=>nomatch z⟩
 | bool b=>unfold Den at h;subst h;cases rx;exact ⟨_,PySem.W.kitx_bool,True.intro,fun z=>nomatch z⟩
 | int i=>unfold Den at h;subst h;obtain ⟨t,rfl⟩:=rx;exact ⟨_,PySem.W.kitx_int,True.intro,fun z=>nomatch z⟩
 | str y=>unfold Den at h;subst h;obtain ⟨t,rfl⟩:=rx;exact ⟨_,PySem.W.kitx_str,True.intro,fun z=>nomatch z⟩
 | list ds=>
  unfold Den at h
  refine Elim.el (h) _ ?_
  rintro a vs rfl h2 _
  cases rx
  obtain ⟨its,_,⟨o,n,e1,e2,_⟩,_⟩:=I.list h2
  exact ⟨_,PySem.W.kitx_list,⟨o,e1,e2⟩,fun z=>nomatch z⟩
 | tuple ds=>
  unfold Den at h
  refine Elim.el (h) _ ?_
  rintro a vs rfl h2 _
  cases rx
  obtain ⟨its,_,⟨o,e1,e2,_⟩,_⟩:=I.tuple h2
  exact ⟨_,PySem.W.kitx_tuple,⟨o,e1,e2⟩,fun z=>nomatch z⟩
 | dict _=>unfold Den at h;exact h.elim
theorem call_isiD:CallR X (.builtin "isinstance") (fun xs H Q=>∃(x:V) (T:String) (d:PyData) (b:Bool),xs=[x, .ty T]∧Den X.K H d x∧PySem.W.kitOne X.K (.type (tyD d)) (.type T)=some b∧Q (.bl b) H):=by
 intro pins s σ H xs us Q I r h
 refine Elim.el (h) _ ?_
 rintro x T d b rfl hd e q
 refine Elim.el (vals2 r) _ ?_
 rintro u w' rfl r1 r2
 cases r2
 refine Elim.el (den_kit I r1 hd) _ ?_
 rintro HH Z hh hx
 exact PySem.W.kia_one Z I.kIn hh e hx fun tk=>⟨.bl b,H,I.tok _,rfl,q⟩
theorem call_isiTD:CallR X (.builtin "isinstance") (fun xs H Q=>∃(x:V) (p:Addr) (Ts:List String) (d:PyData) (b:Bool),xs=[x, .ref p]∧H p=some (.tup (Ts.map V.ty))∧Den X.K H d x∧PySem.W.kitAny X.K (.type (tyD d)) (Ts.map Value.type)=some b∧Q (.bl b) H):=by
 intro pins s σ H xs us Q I r h
 refine Elim.el (h) _ ?_
 rintro x p Ts d b rfl hp hd e q
 refine Elim.el (vals2 r) _ ?_
 rintro u w' rfl r1 r2
 cases r2
 refine Elim.el (den_kit I r1 hd) _ ?_
 rintro HH Z hh hx
 obtain ⟨_,its,rv,o,h1,h2,n,h3⟩:=(show ObjOk X.prog X.w H s.heap p (.tup (Ts.map V.ty)) from I.hok p _ hp)
 have ei:its=Ts.map Value.type:=by
  clear e hp h3 h2 h1
  rename_i hz
  clear hz
  induction Ts generalizing its with
  | nil=>cases rv;rfl
  | cons T Ts ih=>
   cases rv with
   | cons q1 q2=>cases q1;rw [ih _ q2];rfl
 subst ei
 obtain ⟨cls,dd,data,sl⟩:=o
 simp only at h2 h3
 subst h2 h3
 exact PySem.W.kia_tup Z I.kIn hh h1 e hx fun tk=>⟨.bl b,H,I.tok _,rfl,q⟩
def rIsi (K:PySem.W.Frag):List V→Hp→VK→Prop:=fun xs H Q=>(∃(x:V) (T:String) (d:PyData) (b:Bool),xs=[x, .ty T]∧Den K H d x∧PySem.W.kitOne K (.type (tyD d)) (.type T)=some b∧Q (.bl b) H) ∨
 ∃x T t b,xs=[x, .ty T]∧TyOf K H x t∧PySem.W.kitOne K t (.type T)=some b∧Q (.bl b) H
theorem isiK (K:PySem.W.Frag) (hK:X.K=K:=by rfl):CallR X (.builtin "isinstance") (rIsi K):=by subst hK;exact call_isiD.or call_isi
def rIsiT (K:PySem.W.Frag):List V→Hp→VK→Prop:=fun xs H Q=>∃(x:V) (p:Addr) (Ts:List String) (d:PyData) (b:Bool),xs=[x, .ref p]∧H p=some (.tup (Ts.map V.ty))∧Den K H d x∧PySem.W.kitAny K (.type (tyD d)) (Ts.map Value.type)=some b∧Q (.bl b) H
theorem isiTK (K:PySem.W.Frag) (hK:X.K=K:=by rfl):CallR X (.builtin "isinstance") (rIsiT K):=by subst hK;exact call_isiTD
end
end L2
namespace L2
open PySem PySem.Spec PyProof.Rows
noncomputable def kSeq (k:Bool):String:=if k then "tuple" else "list"
noncomputable def kIter (k:Bool):String:=if k then "tuple_iterator" else "list_iterator"
def SeqOf (k:Bool) (h:Heap) (a:Addr) (its:Array Value):Prop:=∃o,h.get? a=some o∧o.cls = .type (kSeq k)∧∃n,o.data = .seq its n
def SeqIt (k:Bool) (h:Heap) (it a:Addr) (i:Nat):Prop:=∃o,h.get? it=some o∧o.cls = .type (kIter k)∧o.data = .fields #[.ref a, .int i 0]
theorem SeqOf.at {k:Bool} {h h':Heap} {a:Addr} {its:Array Value} (x:SeqOf k h a its) (e:∀o,h.get? a=some o→h'.get? a=some o):SeqOf k h' a its:=let ⟨o,ho,r⟩:=x; ⟨o,e _ ho,r⟩
theorem SeqIt.at {k:Bool} {h h':Heap} {it a:Addr} {i:Nat} (x:SeqIt k h it a i) (e:∀o,h.get? it=some o→h'.get? it=some o):SeqIt k h' it a i:=let ⟨o,ho,r⟩:=x; ⟨o,e _ ho,r⟩
theorem SeqOf.lt {k:Bool} {h:Heap} {a:Addr} {its:Array Value} (x:SeqOf k h a its):a<h.objs.size:=let ⟨_,e,_⟩:=x;Heap.lt_size e
theorem SeqIt.lt {k:Bool} {h:Heap} {it a:Addr} {i:Nat} (x:SeqIt k h it a i):it<h.objs.size:=let ⟨_,e,_⟩:=x;Heap.lt_size e
section
variable {prog:Program} {w:World} {A:Around} {E:Value→Shared→Prop} {s:Shared} {k:Bool} {it a:Addr} {i:Nat} {its:Array Value}
theorem seq_next {x:Value} {Q:Value→Shared→Prop} (h1:SeqIt k s.heap it a i) (h2:SeqOf k s.heap a its) (hx:its[i]? = some x)
  (q:∀h',SeqIt k h' it a (i+1)→Heap.SameBut it s.heap h'→Q x { s with heap:=h' }):wpAny (model prog w) A (Builtin.SmallTypes.nextOf (.ref it)) Q E s:=by
 cases k with
 | false=>exact wpAny_nextOf_list_item h1 h2 hx q
 | true=>
  obtain ⟨o,ho,hc,hd⟩:=h1
  obtain ⟨ol,hol,_,nl,hdl⟩:=h2
  have hT:s.TypeIs (.ref it) "tuple_iterator":=⟨o,ho,hc⟩
  unfold Builtin.SmallTypes.nextOf
  refine wpAny_bind (wpAny_callSpecial?_slot (name:=Str.ofString "__next__") hT F.slot_tuple_iterator_next (wpAny_call_entry F.slot_tuple_iterator_next hT F.entry_tuple_iterator_next ?_ (F.args_tuple_iterator_next_1 _)))
  change wpAny _ _ (Bind.bind (field (.ref it) 0) _) _ _ s
  refine wpAny_bind (wpAny_field ho hd (x := .ref a) rfl ?_)
  rw [if_neg (by intro z;cases z)]
  refine wpAny_bind (wpAny_field ho hd (x := .int i 0) rfl (wpAny_bind (wpAny_seqItems hol hdl ?_)))
  simp only [Int.toNat_natCast,hx]
  refine wpAny_bind (wpAny_setField ho hd (by simp) (wpAny_pure ⟨x,rfl,wpAny_pure (q _ ⟨_,Heap.get?_update_self _ ho (Obj.isFreed_of_fields (Obj.data_mapFields hd _)),(Obj.cls_mapFields ..).trans hc,?_⟩ (Heap.SameBut.update ..))⟩))
  rw [Obj.data_mapFields hd]
  simp [rawInt]
theorem seq_stop {Q:Value→Shared→Prop} (hh:A.handled=none) (h1:SeqIt k s.heap it a i) (h2:SeqOf k s.heap a its) (hx:its[i]? = none)
  (q:∀h' e,Heap.ExtBut it s.heap h'→(∃o,h'.get? e=some o∧o.cls = .type "StopIteration")→E (.ref e) { s with heap:=h' }):wpAny (model prog w) A (Builtin.SmallTypes.nextOf (.ref it)) Q E s:=by
 cases k with
 | false=>exact wpAny_nextOf_list_end hh h1 h2 hx q
 | true=>
  obtain ⟨o,ho,hc,hd⟩:=h1
  obtain ⟨ol,hol,_,nl,hdl⟩:=h2
  have hT:s.TypeIs (.ref it) "tuple_iterator":=⟨o,ho,hc⟩
  unfold Builtin.SmallTypes.nextOf
  refine wpAny_bind (wpAny_callSpecial?_slot (name:=Str.ofString "__next__") hT F.slot_tuple_iterator_next (wpAny_call_entry F.slot_tuple_iterator_next hT F.entry_tuple_iterator_next ?_ (F.args_tuple_iterator_next_1 _)))
  change wpAny _ _ (Bind.bind (field (.ref it) 0) _) _ _ s
  refine wpAny_bind (wpAny_field ho hd (x := .ref a) rfl ?_)
  rw [if_neg (by intro z;cases z)]
  refine wpAny_bind (wpAny_field ho hd (x := .int i 0) rfl (wpAny_bind (wpAny_seqItems hol hdl ?_)))
  simp only [Int.toNat_natCast,hx]
  refine wpAny_bind (wpAny_rule (wpAny_bind (wpAny_setField ho hd (by simp) (wpAny_bind ?_))))
  simp only [newExc,newTuple]
  refine wpAny_bind (wpAny_newObj_type ?_ (by size_fits))
  refine wpAny_bind (m:=firstArgMember _ _) (wpAny_of_eq (a:=Value.none) (by first|rfl|(simp only [firstArgMember];rfl)) (wpAny_newObj_type ?_ (by size_fits)))
  simp only [raiseNew]
  refine wpAny_bind (wpAny_handled ?_)
  rw [show A.in1.handled=none from hh]
  exact wpAny_bind (wpAny_pure (wpAny_throw (q _ _ (((Heap.SameBut.update ..).extBut.push _).push _) ⟨_,Heap.get?_push_size _ rfl,rfl⟩)))
end
structure ZipSt (k1 k2:Bool) (z TI TO i1 i2 l1 l2:Addr) (i:Nat) (h:Heap):Prop where
 zp:IsZip h z TI TO .none
 ti:IsPair h TI (.ref i1) (.ref i2)
 to:∃a b,IsPair h TO a b
 it1:SeqIt k1 h i1 l1 i
 it2:SeqIt k2 h i2 l2 i
section
variable {prog:Program} {w:World} {A:Around} {E:Value→Shared→Prop} {s:Shared} {k1 k2:Bool} {z TI TO i1 i2 l1 l2:Addr} {i:Nat} {xs ys:Array Value}
abbrev zipW (z TO i1 i2:Addr) (b:Addr):Prop:=b=z∨b=TO∨b=i1∨b=i2
theorem zipk_item {x y:Value} {Q:Option Value→Shared→Prop} (D:ZipApart z TI TO i1 i2 l1 l2) (st:ZipSt k1 k2 z TI TO i1 i2 l1 l2 i s.heap) (hl1:SeqOf k1 s.heap l1 xs) (hl2:SeqOf k2 s.heap l2 ys) (hx:xs[i]? = some x) (hy:ys[i]? = some y)
  (q:∀h',IsZip h' z TI TO (rawInt s.heap.objs.size)→IsPair h' TO x y→SeqIt k1 h' i1 l1 (i+1)→SeqIt k2 h' i2 l2 (i+1)→IsPair h' s.heap.objs.size x y→Keeps s.heap h' (zipW z TO i1 i2)→Q (some (.ref s.heap.objs.size)) { s with heap:=h' }) :
  wpAny (model prog w) A (pyNext (.ref z)) Q E s:=by
 obtain ⟨hz,hTI,⟨a,b,hTO⟩,h1,h2⟩:=st
 have hT:s.TypeIs (.ref z) "zip":=⟨_,hz,rfl⟩
 unfold pyNext
 refine wpAny_bind (wpAny_attempt (wpAny_callSpecial?_slot (name:=Str.ofString "__next__") hT F.slot_zip_next (wpAny_call_entry F.slot_zip_next hT F.entry_zip_next ?_ (F.args_zip_next_1 _))))
 change wpAny _ _ (Bind.bind (field (.ref z) 2) _) _ _ _
 refine wpAny_bind (wpAny_field hz rfl (x := .bool false) rfl ?_)
 change wpAny _ _ (Bind.bind (field (.ref z) 3) _) _ _ _
 refine wpAny_bind (wpAny_field hz rfl (x := .ref TI) rfl (wpAny_bind (wpAny_seqItems hTI rfl ?_)))
 change wpAny _ _ (Bind.bind (Builtin.SmallTypes.ownedTupleIsFree (.ref z)) _) _ _ _
 refine wpAny_bind ?_
 unfold Builtin.SmallTypes.ownedTupleIsFree
 refine wpAny_bind (wpAny_field hz rfl (x := .none) rfl (wpAny_pure ?_))
 simp only [if_true]
 refine wpAny_bind (wpAny_rule (wpAny_bind (wpAny_field hz rfl (x := .ref TO) rfl (wpAny_bind (wpAny_setField_rec hz (by simp) fun g1 z1 e1=>wpAny_bind ?_)))))
 simp only [List.zipIdx_cons,List.zipIdx_nil,List.forIn_cons,List.forIn_nil]
 refine wpAny_bind (wpAny_bind (wpAny_onRaise ?_))
 change wpAny _ _ (Bind.bind (Builtin.SmallTypes.nextOf (.ref i1)) _) _ _ _
 refine wpAny_bind (seq_next (h1.at fun o e=>e1.extBut _ _ D.i1z e) (hl1.at fun o e=>e1.extBut _ _ D.l1z e) hx fun g2 it1 e2=>wpAny_pure ?_)
 have to2:IsPair g2 TO a b:=e2.extBut _ _ D.TOi1 (e1.extBut _ _ D.TOz hTO)
 refine wpAny_bind (wpAny_seqItems to2 rfl (wpAny_bind (wpAny_updateSeq_pair to2 fun g3 to3 e3=>wpAny_bind (wpAny_letGo (wpAny_pure ?_)))))
 have to3:IsPair g3 TO x b:=to3
 have k13:Keeps s.heap g3 (fun c=>c=z∨c=i1∨c=TO):=fun c o nc e=>e3.extBut _ _ (fun q=>nc (.inr (.inr q))) (e2.extBut _ _ (fun q=>nc (.inr (.inl q))) (e1.extBut _ _ (fun q=>nc (.inl q)) e))
 refine wpAny_bind (wpAny_bind (wpAny_onRaise ?_))
 change wpAny _ _ (Bind.bind (Builtin.SmallTypes.nextOf (.ref i2)) _) _ _ _
 refine wpAny_bind (seq_next (h2.at fun o e=>k13 _ _ (fun q=>q.elim D.i2z fun q=>q.elim D.i12.symm D.TOi2.symm) e) (hl2.at fun o e=>k13 _ _ (fun q=>q.elim D.l2z fun q=>q.elim D.l2i1 D.l2TO) e) hy fun g4 it2 e4=>wpAny_pure ?_)
 have to4:IsPair g4 TO x b:=e4.extBut _ _ D.TOi2 to3
 refine wpAny_bind (wpAny_seqItems to4 rfl (wpAny_bind (wpAny_updateSeq_pair to4 fun g5 to5 e5=>wpAny_bind (wpAny_letGo (wpAny_pure (wpAny_pure ?_))))))
 have to5:IsPair g5 TO x y:=to5
 refine wpAny_bind (wpAny_seqItems to5 rfl (wpAny_bind (wpAny_newTuple ?_)))
 have hsz:g5.objs.size=s.heap.objs.size:=by rw [e5.1,e4.1,e3.1,e2.1,e1.1]
 have z5:IsZip g5 z TI TO .ellipsis:=e5.extBut _ _ D.TOz.symm (e4.extBut _ _ D.i2z.symm (e3.extBut _ _ D.TOz.symm (e2.extBut _ _ D.i1z.symm z1)))
 have k5:Keeps s.heap g5 (zipW z TO i1 i2):=fun c o nc e=>e5.extBut _ _ (fun q=>nc (.inr (.inl q))) (e4.extBut _ _ (fun q=>nc (.inr (.inr (.inr q)))) (k13 c o (fun q=>q.elim (fun q=>nc (.inl q)) fun q=>q.elim (fun q=>nc (.inr (.inr (.inl q)))) fun q=>nc (.inr (.inl q))) e))
 have it1':SeqIt k1 g5 i1 l1 (i+1):=it1.at fun o e=>e5.extBut _ _ D.TOi1.symm (e4.extBut _ _ D.i12 (e3.extBut _ _ D.TOi1.symm e))
 have it2':SeqIt k2 g5 i2 l2 (i+1):=it2.at fun o e=>e5.extBut _ _ D.TOi2.symm e
 have zlt:z<g5.objs.size:=Heap.lt_size z5
 change wpAny _ _ (Bind.bind (Builtin.SmallTypes.ownedTupleHandOut (.ref z) (.ref g5.objs.size)) _) _ _ _
 refine wpAny_bind ?_
 unfold Builtin.SmallTypes.ownedTupleHandOut
 have z6:IsZip (g5.push { cls := .type "tuple",data := .seq #[x,y] }) z TI TO .ellipsis:=Heap.get?_push_of_some _ z5
 refine wpAny_bind (wpAny_setField_rec z6 (by simp) fun g7 z7 e7 => ?_)
 have z7:IsZip g7 z TI TO (rawInt g5.objs.size):=z7
 refine wpAny_setField_rec z7 (by simp) fun g8 z8 e8=>wpAny_pure ⟨_,rfl,wpAny_pure ?_⟩
 have up:∀c o,c≠z→g5.get? c=some o→g8.get? c=some o:=fun c o c1 e=>e8.extBut _ _ c1 (e7.extBut _ _ c1 (Heap.get?_push_of_some _ e))
 have tp:IsPair g8 g5.objs.size x y:=e8.extBut _ _ (Nat.ne_of_gt zlt) (e7.extBut _ _ (Nat.ne_of_gt zlt) (Heap.get?_push_size _ rfl))
 have z8:IsZip g8 z TI TO (rawInt g5.objs.size):=z8
 show Q (some (.ref g5.objs.size)) _
 rw [hsz] at z8 tp ⊢
 exact q g8 z8 (up _ _ D.TOz to5) (it1'.at fun o e=>up _ o D.i1z e) (it2'.at fun o e=>up _ o D.i2z e) tp fun c o nc e=>up c o (fun q=>nc (.inl q)) (k5 c o nc e)
theorem zipk_stop {Q:Option Value→Shared→Prop} (hh:A.handled=none) (D:ZipApart z TI TO i1 i2 l1 l2) (st:ZipSt k1 k2 z TI TO i1 i2 l1 l2 i s.heap) (hl1:SeqOf k1 s.heap l1 xs) (hl2:SeqOf k2 s.heap l2 ys) (hend:xs[i]? = none∨ys[i]? = none)
  (q:∀h',Keeps s.heap h' (zipW z TO i1 i2)→Q none { s with heap:=h' }):wpAny (model prog w) A (pyNext (.ref z)) Q E s:=by
 obtain ⟨hz,hTI,⟨a,b,hTO⟩,h1,h2⟩:=st
 have hT:s.TypeIs (.ref z) "zip":=⟨_,hz,rfl⟩
 unfold pyNext
 refine wpAny_bind (wpAny_attempt (wpAny_callSpecial?_slot (name:=Str.ofString "__next__") hT F.slot_zip_next (wpAny_call_entry F.slot_zip_next hT F.entry_zip_next ?_ (F.args_zip_next_1 _))))
 change wpAny _ _ (Bind.bind (field (.ref z) 2) _) _ _ _
 refine wpAny_bind (wpAny_field hz rfl (x := .bool false) rfl ?_)
 change wpAny _ _ (Bind.bind (field (.ref z) 3) _) _ _ _
 refine wpAny_bind (wpAny_field hz rfl (x := .ref TI) rfl (wpAny_bind (wpAny_seqItems hTI rfl ?_)))
 change wpAny _ _ (Bind.bind (Builtin.SmallTypes.ownedTupleIsFree (.ref z)) _) _ _ _
 refine wpAny_bind ?_
 unfold Builtin.SmallTypes.ownedTupleIsFree
 refine wpAny_bind (wpAny_field hz rfl (x := .none) rfl (wpAny_pure ?_))
 simp only [if_true]
 refine wpAny_bind (wpAny_rule (wpAny_bind (wpAny_field hz rfl (x := .ref TO) rfl (wpAny_bind (wpAny_setField_rec hz (by simp) fun g1 z1 e1=>wpAny_bind ?_)))))
 have z1:IsZip g1 z TI TO .ellipsis:=z1
 simp only [List.zipIdx_cons,List.zipIdx_nil,List.forIn_cons,List.forIn_nil]
 refine wpAny_bind (wpAny_bind (wpAny_onRaise ?_))
 change wpAny _ _ (Bind.bind (Builtin.SmallTypes.nextOf (.ref i1)) _) _ _ _
 cases hx:xs[i]? with
 | none=>
  refine wpAny_bind (seq_stop hh (h1.at fun o e=>e1.extBut _ _ D.i1z e) (hl1.at fun o e=>e1.extBut _ _ D.l1z e) hx fun g2 e e2 oe => ?_)
  refine Elim.el (oe) _ ?_
  rintro o ho hc
  have z2:IsZip g2 z TI TO .ellipsis:=e2 _ _ D.i1z.symm z1
  have ez:e≠z:=fun q=>by subst q;rw [z2] at ho;cases ho;simp at hc
  refine wpAny_setField_rec z2 (by simp) fun g3 _ e3 => ?_
  refine wpAny_bind (wpAny_isInstance (T := "StopIteration") (b:=true) ⟨o,e3.extBut _ _ ez ho,hc⟩ isSubtype_stop (wpAny_pure (q g3 fun c o nc h => ?_)))
  exact e3.extBut _ _ (fun q=>nc (.inl q)) (e2 _ _ (fun q=>nc (.inr (.inr (.inl q)))) (e1.extBut _ _ (fun q=>nc (.inl q)) h))
 | some x=>
  have hy:ys[i]? = none:=hend.resolve_left (by rw [hx];exact fun z=>nomatch z)
  refine wpAny_bind (seq_next (h1.at fun o e=>e1.extBut _ _ D.i1z e) (hl1.at fun o e=>e1.extBut _ _ D.l1z e) hx fun g2 it1 e2=>wpAny_pure ?_)
  have to2:IsPair g2 TO a b:=e2.extBut _ _ D.TOi1 (e1.extBut _ _ D.TOz hTO)
  refine wpAny_bind (wpAny_seqItems to2 rfl (wpAny_bind (wpAny_updateSeq_pair to2 fun g3 to3 e3=>wpAny_bind (wpAny_letGo (wpAny_pure ?_)))))
  have k13:Keeps s.heap g3 (fun c=>c=z∨c=i1∨c=TO):=fun c o nc e=>e3.extBut _ _ (fun q=>nc (.inr (.inr q))) (e2.extBut _ _ (fun q=>nc (.inr (.inl q))) (e1.extBut _ _ (fun q=>nc (.inl q)) e))
  refine wpAny_bind (wpAny_bind (wpAny_onRaise ?_))
  change wpAny _ _ (Bind.bind (Builtin.SmallTypes.nextOf (.ref i2)) _) _ _ _
  refine wpAny_bind (seq_stop hh (h2.at fun o e=>k13 _ _ (fun q=>q.elim D.i2z fun q=>q.elim D.i12.symm D.TOi2.symm) e) (hl2.at fun o e=>k13 _ _ (fun q=>q.elim D.l2z fun q=>q.elim D.l2i1 D.l2TO) e) hy fun g4 e e4 oe => ?_)
  refine Elim.el (oe) _ ?_
  rintro o ho hc
  have z4:IsZip g4 z TI TO .ellipsis:=e4 _ _ D.i2z.symm (e3.extBut _ _ D.TOz.symm (e2.extBut _ _ D.i1z.symm z1))
  have ez:e≠z:=fun q=>by subst q;rw [z4] at ho;cases ho;simp at hc
  refine wpAny_setField_rec z4 (by simp) fun g5 _ e5 => ?_
  refine wpAny_bind (wpAny_isInstance (T := "StopIteration") (b:=true) ⟨o,e5.extBut _ _ ez ho,hc⟩ isSubtype_stop (wpAny_pure (q g5 fun c o nc h => ?_)))
  exact e5.extBut _ _ (fun q=>nc (.inl q)) (e4 _ _ (fun q=>nc (.inr (.inr (.inr q)))) (k13 c o (fun q=>q.elim (fun q=>nc (.inl q)) fun q=>q.elim (fun q=>nc (.inr (.inr (.inl q)))) fun q=>nc (.inr (.inl q))) h))
theorem seq_iter {k:Bool} {a:Addr} {its:Array Value} {Q:Value→Shared→Prop} (h:SeqOf k s.heap a its) (q:Q (.ref s.heap.objs.size) { s with heap:=s.heap.push { cls := .type (kIter k),data := .fields #[.ref a, .int 0 0] } }):wpAny (model prog w) A (pyIter (.ref a)) Q E s:=by
 cases k with
 | false=>exact wpAny_pyIter_list h q
 | true=>exact wpAny_pyIter_tuple h q
end
noncomputable abbrev zpO (k:Bool) (a:Addr):Obj:={ cls := .type (kIter k),data := .fields #[.ref a, .int 0 0] }
noncomputable abbrev zpH (k1 k2:Bool) (h:Heap) (a b:Addr):Heap:=((((h.push (zpO k1 a)).push (zpO k2 b)).push { cls := .type "tuple",data := .seq #[.ref h.objs.size, .ref (h.objs.size+1)] }).push { cls := .type "tuple",data := .seq #[.none, .none] }).push
 { cls := .type "zip",data := .fields #[.none, .bool false, .bool false, .ref (h.objs.size+2), .ref (h.objs.size+3)] }
theorem zipk_new (k1 k2:Bool) (a b:Addr) (xs ys:Array Value) :
  Meets (Builtin.«zip.__new__» ⟨[.type "zip", .ref a, .ref b],[]⟩) (fun _ R s=>SeqOf k1 s.heap a xs∧SeqOf k2 s.heap b ys∧R (.ok (.ret (.ref (s.heap.objs.size+4)))) { s with heap:=zpH k1 k2 s.heap a b }):=
 .of_wp fun prog w A R s h=>by
  obtain ⟨hp,g,d,tk,os⟩:=s;obtain ⟨hl1,hl2,h⟩:=h
  have hsub:=sub_zip
  have hL1:SeqOf k1 (Shared.heap ⟨hp,g,d,tk,os⟩) a xs:=hl1
  have hL2:SeqOf k2 (Shared.heap ⟨hp.push (zpO k1 a),g,d,tk,os⟩) b ys:=hl2.at fun o e=>Heap.get?_push_of_some _ e
  have s1:(hp.push (zpO k1 a)).objs.size=hp.objs.size+1:=Heap.size_push ..
  wp_walk using seq_iter hL1,seq_iter hL2
  refine ⟨_,rfl,?_⟩
  simp only [Heap.size_push] at h ⊢
  exact h
end L2
namespace L2
open PySem PySem.Spec PyProof.Rows
section
variable {prog:Program} {w:World} {A:Around} {E:Value→Shared→Prop} {s:Shared}
theorem call_zipk {k1 k2:Bool} {a b:Addr} {xs ys:Array Value} {Q:Value→Shared→Prop} (h1:SeqOf k1 s.heap a xs) (h2:SeqOf k2 s.heap b ys)
  (q:∀h',ZipSt k1 k2 (s.heap.objs.size+4) (s.heap.objs.size+2) (s.heap.objs.size+3) s.heap.objs.size (s.heap.objs.size+1) a b 0 h'→(∀c o,s.heap.get? c=some o→h'.get? c=some o)→Q (.ref (s.heap.objs.size+4)) { s with heap:=h' }) :
  wpAny (model prog w) A (call (.type "zip") [.ref a, .ref b]) Q E s:=by
 refine callType_new F.called_zip (by decide) (F.typeCall_zip_2 _ _) (F.newCall_zip_2 _ _) (fun obj=>F.args_object_init_3 obj _ _) F.entry_zip_new (zipk_new k1 k2 a b xs ys) ⟨h1,h2,?_⟩
 have up:∀{h:Heap} {c:Addr} {o:Obj} (p:Obj),h.get? c=some o→(h.push p).get? c=some o:=fun p e=>Heap.get?_push_of_some p e
 have last:∀{h:Heap} {n:Nat} {p:Obj},h.objs.size=n→p.isFreed=false→(h.push p).get? n=some p:=fun e hf=>by rw [←e];exact Heap.get?_push_size _ hf
 have z1:(s.heap.push (zpO k1 a)).objs.size=s.heap.objs.size+1:=Heap.size_push ..
 have z2:((s.heap.push (zpO k1 a)).push (zpO k2 b)).objs.size=s.heap.objs.size+2:=by rw [Heap.size_push,z1]
 have z3:(((s.heap.push (zpO k1 a)).push (zpO k2 b)).push { cls := .type "tuple",data := .seq #[.ref s.heap.objs.size, .ref (s.heap.objs.size+1)] }).objs.size=s.heap.objs.size+3:=by rw [Heap.size_push,z2]
 have z4:((((s.heap.push (zpO k1 a)).push (zpO k2 b)).push { cls := .type "tuple",data := .seq #[.ref s.heap.objs.size, .ref (s.heap.objs.size+1)] }).push { cls := .type "tuple",data := .seq #[.none, .none] }).objs.size=s.heap.objs.size+4:=by rw [Heap.size_push,z3]
 have st:ZipSt k1 k2 (s.heap.objs.size+4) (s.heap.objs.size+2) (s.heap.objs.size+3) s.heap.objs.size (s.heap.objs.size+1) a b 0 (zpH k1 k2 s.heap a b):=
  ⟨last z4 rfl,up _ (up _ (last z2 rfl)),⟨.none, .none,up _ (last z3 rfl)⟩,⟨_,up _ (up _ (up _ (up _ (last rfl rfl)))),rfl,rfl⟩,⟨_,up _ (up _ (up _ (last z1 rfl))),rfl,rfl⟩⟩
 have kp:∀c o,s.heap.get? c=some o→(zpH k1 k2 s.heap a b).get? c=some o:=fun c o e=>up _ (up _ (up _ (up _ (up _ e))))
 have ob:(zpH k1 k2 s.heap a b).get? (s.heap.objs.size+4)=some _:=st.zp
 exact ⟨⟨_,ob,rfl⟩,q _ st kp⟩
end
def SqK (k:Bool) (K:PySem.W.Frag) (H:Hp) (a:Addr) (xs:List V):Prop:=if k=true then SqT K H a xs else SqL K H a xs
theorem Inv.seqk {X:Cx} {pins:List (Addr×Obj)} {σ:St} {H:Hp} {s:Shared} {k:Bool} {a:Addr} {xs:List V} (I:Inv X pins σ H s) (h:SqK k X.K H a xs):∃its:List Value,Vals xs its∧SeqOf k s.heap a its.toArray∧xs.length≤sizeLine:=by
 cases k with
 | false=>
  obtain ⟨its,r,⟨o,n,e1,e2,_,e4⟩,z⟩:=I.list h
  exact ⟨its,r,⟨o,e1,e2,n,e4⟩,z⟩
 | true=>
  obtain ⟨its,r,⟨o,e1,e2,n,e4⟩,z⟩:=I.tuple h
  exact ⟨its,r,⟨o,e1,e2,n,e4⟩,z⟩
theorem Inv.seqk_inj {X:Cx} {pins:List (Addr×Obj)} {σ:St} {H:Hp} {s:Shared} {k:Bool} {a:Addr} {xs ys:List V} (I:Inv X pins σ H s) (h:SqK k X.K H a xs) (h':SqK k X.K H a ys):xs=ys:=by
 cases k with
 | false=>exact I.list_inj h h'
 | true=>exact I.tuple_inj h h'
noncomputable def ItzK (K:PySem.W.Frag) (k1 k2:Bool) (a b:Addr):It:=
 ⟨fun i H=>Ex4 fun xs ys x y=>SqK k1 K H a xs∧SqK k2 K H b ys∧xs[i]? = some x∧ys[i]? = some y,
   fun i H v H'=>∃T,v = .ref T∧∀xs ys x y,SqK k1 K H a xs→SqK k2 K H b ys→xs[i]? = some x→ys[i]? = some y→New H T (.tup [x,y]) H',
   fun i H=>Ex2 fun xs ys=>SqK k1 K H a xs∧SqK k2 K H b ys∧(xs.length≤i∨ys.length≤i)⟩
theorem turn_zipk {P:Program} {w:World} {K:PySem.W.Frag} {elts:List Expr} {k:Nat} {tp:Pos} (k1 k2:Bool) (z TI TO i1 i2 l1 l2:Addr) (D:ZipApart z TI TO i1 i2 l1 l2) :
  Turn P w K (.Tuple elts k tp) (ItzK K k1 k2 l1 l2) [z,TI,TO,i1,i2] z (ZipSt k1 k2 z TI TO i1 i2 l1 l2) where
 mem:=by simp
 obj:=fun i h st b hb=>by
  obtain ⟨h1,h2,⟨_,_,h3⟩,⟨o4,h4,_,d4⟩,⟨o5,h5,_,d5⟩⟩:=st
  simp at hb
  rcases hb with rfl|rfl|rfl|rfl|rfl
  ·exact ⟨_,h1,fun _ z=>nomatch z⟩
  ·exact ⟨_,h2,fun _ z=>nomatch z⟩
  ·exact ⟨_,h3,fun _ z=>nomatch z⟩
  ·exact ⟨_,h4,fun v q=>by rw [d4] at q;cases q⟩
  ·exact ⟨_,h5,fun v q=>by rw [d5] at q;cases q⟩
 keep:=fun i h h' st hk=>by
  obtain ⟨h1,h2,⟨a,b,h3⟩,h4,h5⟩:=st
  exact ⟨hk z (by simp) _ h1,hk TI (by simp) _ h2,⟨a,b,hk TO (by simp) _ h3⟩,h4.at fun o e=>hk i1 (by simp) o e,h5.at fun o e=>hk i2 (by simp) o e⟩
 item:=fun X hP hw hK hc i pins s σ H E I hf st go=>by
  subst hP hw hK
  obtain ⟨xs,ys,x,y,q1,q2,e1,e2⟩:=go
  refine Elim.el (I.seqk q1) _ ?_
  rintro its1 r1 p1 _
  refine Elim.el (I.seqk q2) _ ?_
  rintro its2 r2 p2 _
  refine Elim.el (vals_get r1 e1) _ ?_
  rintro u1 g1 ru1
  refine Elim.el (vals_get r2 e2) _ ?_
  rintro u2 g2 ru2
  have hz:=st.zp
  have hTI:=st.ti
  refine zipk_item D st p1 p2 g1 g2 fun h' a1 a2 a3 a4 a5 a7=>⟨_,rfl,?_⟩
  refine wpAny_letOwnedTupleGo_zip a1 fun h'' b1 b2 => ?_
  have hTz:s.heap.objs.size≠z:=addr_ne' (Heap.lt_size hz) (Nat.le_refl _)
  have hf':∀c∈[z,TO,i1,i2],FpOk X pins H c:=fun c hc=>hf c (by simp at hc ⊢;rcases hc with q|q|q|q <;> simp [q])
  have kp:∀c o,c ∉ [z,TO,i1,i2]→s.heap.get? c=some o→h''.get? c=some o:=fun c o hc e=>by
   simp only [List.mem_cons,List.not_mem_nil,or_false] at hc
   exact b2.extBut c o (fun q=>hc (.inl q)) (a7 c o hc e)
  have I1:Inv X pins σ H { s with heap:=h'',toks:=s.toks }:=I.iter hf' kp
  have fT:FpOk X pins H s.heap.objs.size:=I.fpOk (Nat.le_refl _) (I.hok.fresh (Nat.le_refl _))
  have oT:h''.get? s.heap.objs.size=some { cls := .type "tuple",data := .seq #[u1,u2] }:=b2.extBut _ _ hTz a5
  have I2:=I1.adopt (T:=s.heap.objs.size) (o := .tup [x,y]) fT I.sz ⟨by show 2≤sizeLine;decide,[u1,u2], .cons ru1 (.cons ru2 .nil),⟨_,oT,rfl,_,rfl⟩⟩
  refine ⟨.ref s.heap.objs.size,_,I2,rfl,⟨_,rfl,fun xs' ys' x' y' q1' q2' e1' e2' => ?_⟩,⟨b1,b2.extBut _ _ D.TIz (a7 _ _ (fun q=>q.elim D.TIz fun q=>q.elim D.TITO fun q=>q.elim D.TIi1 D.TIi2) hTI),⟨_,_,b2.extBut _ _ D.TOz a2⟩,a3.at fun o e=>b2.extBut _ _ D.i1z e,a4.at fun o e=>b2.extBut _ _ D.i2z e⟩,fun c hc => ?_⟩
  ·rw [I.seqk_inj q1' q1] at e1'
   rw [I.seqk_inj q2' q2] at e2'
   rw [e1] at e1';rw [e2] at e2';cases e1';cases e2'
   exact ⟨fT.1,rfl⟩
  ·obtain ⟨_,_,⟨_,_,hTO⟩,h1,h2⟩:=st
   have hcs:c<s.heap.objs.size:=by
    simp at hc
    rcases hc with rfl|rfl|rfl|rfl|rfl
    ·exact Heap.lt_size hz
    ·exact Heap.lt_size hTI
    ·exact Heap.lt_size hTO
    ·exact h1.lt
    ·exact h2.lt
   rw [upd_ne (addr_ne hcs (Nat.le_refl _))]
   exact (hf c hc).1
 done:=fun X hP hw hK hc i pins s σ H E I hf st stop=>by
  subst hP hw hK
  obtain ⟨xs,ys,q1,q2,e⟩:=stop
  refine Elim.el (I.seqk q1) _ ?_
  rintro its1 r1 p1 _
  refine Elim.el (I.seqk q2) _ ?_
  rintro its2 r2 p2 _
  have l1':=r1.length
  have l2':=r2.length
  refine zipk_stop (I.ok.hd hc) D st p1 p2 ?_ fun h' kp=>⟨rfl,?_⟩
  ·rcases e with e|e
   ·exact .inl (by simp;omega)
   ·exact .inr (by simp;omega)
  ·refine I.iter (ch:=[z,TO,i1,i2]) (t':=s.toks) (fun c hc=>hf c (by simp at hc ⊢;rcases hc with q|q|q|q <;> simp [q])) fun c o hc e => ?_
   simp only [List.mem_cons,List.not_mem_nil,or_false] at hc
   exact kp c o hc e
 self:=fun A i s Q E st hQ=>wpAny_pyIter_zip st.zp hQ
section
variable {X:Cx}
def iZipK (K:PySem.W.Frag) (ta:TA):TI:=fun σ H R=>ta σ H fun vs H1=>Ex4 fun k1 k2 a b=>vs=[.ref a, .ref b]∧(∃xs,SqK k1 K H1 a xs)∧(∃ys,SqK k2 K H1 b ys)∧R (ItzK K k1 k2 a b) H1
theorem pi_zipK (K:PySem.W.Frag) {elts:List Expr} {k:Nat} {tp:Pos} {a b:Expr} {ta:TA} {p pos:Pos} (hg:Gl X "zip") (hm:X.mg "zip" = none) (ha:PA X [a,b] ta) (hb:bootBuiltins "zip" = some (.type "zip"):=by first|rfl|decide)
  (hs:starEach [a,b] X.env=[(false,eval a X.env),(false,eval b X.env)]:=by rfl) (hs2:starEach [b] X.env=[(false,eval b X.env)]:=by rfl) (hK:X.K=K:=by rfl) :
  PI X (.Tuple elts k tp) (.Call (.Name "zip" p) [a,b] [] pos) (iZipK K ta):=by
 subst hK
 intro pins s σ H R I h
 refine Call_ (ld_blt I hg hm hb (PyProof.Rows.callWith_type1 (thn (ha s σ H _ I h) fun us s1 ⟨vs,H1,I1,r1,q1⟩ => ?_) (by rw [hs,hs2]) (by rw [hs2];rfl)))
 obtain ⟨k1,k2,l1,l2,e,⟨xs,q1⟩,⟨ys,q2⟩,q⟩:=q1
 subst e
 refine Elim.el (vals2 r1) _ ?_
 rintro u w' rfl r1 r2
 cases r1;cases r2
 refine Elim.el (I1.seqk q1) _ ?_
 rintro its1 rv1 p1 _
 refine Elim.el (I1.seqk q2) _ ?_
 rintro its2 rv2 p2 _
 refine call_zipk p1 p2 fun h' st hk=>wpAny_pyIter_zip st.zp ?_
 have I2:Inv X pins σ H1 { s1 with heap:=h' }:=I1.kept (t':=s1.toks) hk
 refine ⟨_,_,_,_,H1,rfl,I2,turn_zipk k1 k2 _ _ _ _ _ _ _ (zipApart_new p1.lt p2.lt),st,fun c hc => ?_,q⟩
 have hcs:s1.heap.objs.size≤c:=by
  simp at hc
  rcases hc with rfl|rfl|rfl|rfl|rfl
  ·exact Nat.le_add_right _ _
  ·exact Nat.le_add_right _ _
  ·exact Nat.le_add_right _ _
  ·exact Nat.le_refl _
  ·exact Nat.le_add_right _ _
 exact I1.fpOk hcs (I1.hok.fresh hcs)
end
end L2
namespace L2
open PySem PySem.Spec PyProof.Rows
section
variable {X:Cx}
end
noncomputable def Itx (z:Str):It:=⟨fun i _=>i<z.cps.size,fun i H x H'=>H'=H∧∀c,z.cps[i]? = some c→x = .str ⟨#[c]⟩,fun i _=>z.cps.size≤i⟩
theorem turn_text {P:Program} {w:World} {K:PySem.W.Frag} {tg:Expr} (it:Addr) (z:Str) (t:Tok):Turn P w K tg (Itx z) [it] it (fun i h=>h.IsStrIter it "str_ascii_iterator" z t i) where
 mem:=by simp
 obj:=fun i h st b hb=>by
  have e:b=it:=by simpa using hb
  subst e
  obtain ⟨o,h1,h2,h3⟩:=st
  exact ⟨o,h1,fun v q=>by rw [h3] at q;cases q⟩
 keep:=fun i h h' st k=>by
  obtain ⟨o,h1,r⟩:=st
  exact ⟨o,k it (by simp) o h1,r⟩
 item:=by
  intro X hP hw hK hc i pins s σ H E I hf st hg
  subst hP hw hK
  obtain ⟨f0,f1,f2,f3,f4,f5⟩:=hf it (by simp)
  have hg:i<z.cps.size:=hg
  refine wpAny_pyNext_ascii_item st (c:=z.cps[i]) (by simp [hg]) fun h' st' hs' => ?_
  have I1:Inv X pins σ H { s with heap:=h',toks:=s.toks+1 }:=I.turned (fun b o hb e=>hs'.extBut b o hb e) f0 f1 f3 f4 f5
  obtain ⟨o,h1,h2,h3⟩:=id st'
  refine ⟨_,rfl,go_of (s:={ s with heap:=h',toks:=s.toks+1 }) (n := "str_ascii_iterator") h1 h2 h3 (by decide) ⟨.str ⟨#[z.cps[i]]⟩,H,I1,⟨_,rfl⟩,⟨rfl,fun c e => ?_⟩,st',fun b hb=>(hf b hb).1⟩⟩
  rw [Array.getElem?_eq_getElem hg] at e
  cases e;rfl
 done:=by
  intro X hP hw hK hc i pins s σ H E I hf st hg
  subst hP hw hK
  obtain ⟨f0,f1,f2,f3,f4,f5⟩:=hf it (by simp)
  exact wpAny_pyNext_ascii_end (I.ok.hd hc) st (Array.getElem?_eq_none hg) fun h' eb=>⟨rfl,I.turned (t':=s.toks) (fun b o hb e=>eb b o hb e) f0 f1 f3 f4 f5⟩
 self:=fun _ _ _ _ _ st h=>wpAny_pyIter_striter_ascii st h
def iTxt (tl:TE):TI:=fun σ H R=>tl σ H fun x H1=>∃z,x = .str z∧z.cps.all (· < 128)=true∧R (Itx z) H1
section
variable {X:Cx} {tg:Expr}
theorem pi_text {l:Expr} {tl:TE} (hl:PE X l tl):PI X tg l (iTxt tl):=by
 intro pins s σ H R I h
 refine thn (hl s σ H _ I h) fun v s1 hz_ => ?_
 refine Elim.el hz_ _ ?_
 clear hz_
 rintro x H1 I1 r1 q1
 obtain ⟨z,e,hz,q⟩:=q1
 subst e
 obtain ⟨t,rfl⟩:=r1
 refine wpAny_pyIter_ascii hz ?_
 refine ⟨s1.heap.objs.size,[s1.heap.objs.size],_,_,H1,rfl,I1.kept (t':=s1.toks) fun b o e=>Heap.get?_push_of_some _ e,turn_text _ z t,⟨_,Heap.get?_push_size _ rfl,rfl,rfl⟩,fun b hb => ?_,q⟩
 have e:b=s1.heap.objs.size:=by simpa using hb
 subst e
 exact I1.fpOk (Nat.le_refl _) (I1.hok.fresh (Nat.le_refl _))
theorem pi_tupK (K:PySem.W.Frag) {l:Expr} {tl:TE} (hl:PE X l tl) (hK:X.K=K:=by rfl):PI X tg l (iTup K tl):=by subst hK;exact pi_tup hl
end
section
variable {X:Cx} {e:Expr} {te:TE} {pos p2 p3 p4:Pos} {j:Nat}
end
end L2
namespace L2
open PySem PySem.Spec PyProof.Rows
section
variable {prog:Program} {w:World} {A:Around} {R:Result→Shared→Prop} {I S:Addr} {fp wr:List Addr} {n:Nat} {P:Nat→Value→Prop} {St:Nat→Heap→Prop}
end
section
variable {X:Cx} (K:PySem.W.Frag)
end
end L2
namespace L2
open PySem
section
variable {X:Cx} (K:PySem.W.Frag)
theorem inK (hK:X.K=K:=by rfl):OpR X (compareOp .In) (rIn K false):=by subst hK;exact op_in_seq
theorem notInK (hK:X.K=K:=by rfl):OpR X (compareOp .NotIn) (rIn K true):=by subst hK;exact op_notIn_seq
theorem enumK {elts:List Expr} {k:Nat} {tp:Pos} {a:Expr} {ta:TA} {p pos:Pos} (hg:Gl X "enumerate") (hm:X.mg "enumerate" = none) (ha:PA X [a] ta) (hb:bootBuiltins "enumerate" = some (.type "enumerate"):=by first|rfl|decide) (hs:starEach [a] X.env=[(false,eval a X.env)]:=by rfl) (hK:X.K=K:=by rfl) :
  PI X (.Tuple elts k tp) (.Call (.Name "enumerate" p) [a] [] pos) (iEnum K ta):=by subst hK;exact pi_enum hg hm ha hb hs
end
end L2
namespace L2
open PySem PySem.Spec PyProof.Rows
section
variable {prog:Program} {w:World} {A:Around} {R:Result→Shared→Prop} {s:Shared}
end
section
variable {X:Cx} {pins:List (Addr×Obj)} {σ:St} {H:Hp} {s:Shared} {a:Addr} {y v:V} {u r:Value} {A:Around} {E:Value→Shared→Prop}
end
section
variable {X:Cx} {pins:List (Addr×Obj)} {σ:St} {H:Hp} {s:Shared} {scope:Scope} {Nc Fc:List Str} {js:List Nat} {cl:List (Str×Addr)} {C:Addr} {fp:List Addr}
end
end L2
namespace L2
open PySem PySem.Spec PyProof.Rows
section
variable {X:Cx} (K:PySem.W.Frag)
end
end L2
namespace L2
open PySem PySem.Spec PyProof.Rows PySem.W
def TrD (h base:Heap) (e:Addr) (cls a0:Value) (dx:Option Addr) (fl:Value):Prop:=∃oe vs T oT ts,
 h.get? e=some oe∧oe.cls=cls∧oe.dict=dx∧oe.data = .fields vs∧vs[0]? = some a0∧vs[1]? = some (.ref T)∧base.get? T=none∧T≠e∧h.get? T=some oT∧oT.data = .fields ts∧ts[3]? = some fl
def FlyD (base:Heap) (l:List Env) (e:Addr) (cls a0:Value) (dx:Option Addr) (h:Heap):Prop:=base.StaysIn h∧base.get? e=none∧h.FunFrames base l∧TrD h base e cls a0 dx .none
def HeldD (base:Heap) (l:List Env) (e:Addr) (cls a0:Value) (dx:Option Addr) (L:Addr) (h:Heap):Prop:=base.StaysIn h∧base.get? e=none∧h.FunFrames base l∧TrD h base e cls a0 dx (rawInt L)
theorem FlyD.own {base h:Heap} {l:List Env} {e:Addr} {cls a0:Value} {dx:Option Addr} (x:FlyD base l e cls a0 dx h):∃o,h.get? e=some o∧o.cls=cls∧o.dict=dx∧∃vs,o.data = .fields vs:=by
 obtain ⟨_,_,_,oe,vs,T,oT,ts,a1,a2,a3,a4,_⟩:=x
 exact ⟨oe,a1,a2,a3,vs,a4⟩
section
variable {M:Model} {A:Around} {E:Value→Shared→Prop} {s:Shared} {base:Heap} {env:Env} {outer:List Env} {L e:Addr} {cls a0:Value} {dx:Option Addr} {Q:Unit→Shared→Prop}
theorem trace_laid {oe:Obj} {vs:Array Value} {head:Value} {hn:Bool} (hfr:A.frames=some (env :: outer)) (fun_:s.heap.FunFrames base (env :: outer)) (hf:env.frame=some L) (he:s.heap.get? e=some oe) (stay:base.StaysIn s.heap) (new:base.get? e=none)
  (hd:oe.data = .fields vs) (sz:1<vs.size) (h0:vs[0]? = some a0)
  (q:∀h',base.StaysIn h'→h'.FunFrames base (env :: outer)→TrD h' base e oe.cls a0 oe.dict (rawInt L)→s.heap.UpToSlots h'→Q () { s with heap:=h' }) :
  wpAny M A (do let a ←frameOf env;let pl ←entryPlaceOf L hn;let b ←EntryCells.newEntry head a .none (rawInt L) .none pl;setField (.ref e) 1 b) Q E s:=by
 have apart:e ∉ (env :: outer).filterMap (·.frame):=fun m=>by
  obtain ⟨_,o,ho,nf⟩:=fun_.mem m
  rw [he] at ho;cases ho
  exact nf vs hd
 refine wpAny_bind (wpAny_frameOf_fun hfr fun_ hf fun h1 so=>wpAny_bind (wpAny_entryPlaceOf fun pl isp => ?_))
 unfold EntryCells.newEntry newFields
 refine wpAny_bind (wpAny_newObj_type ?_ (isp.sizeOk5 _ _ _ _ _))
 obtain ⟨tr,etr⟩:∃tr:Obj,tr={ cls := .type "traceback",dict:=none,data := .fields ([head, .ref L, .none,rawInt L, .none]++(if pl.isEmpty then List.replicate 6 Value.none else pl)).toArray }:=⟨_,rfl⟩
 rw [←etr]
 have e1:h1.get? e=some oe:=(so.2.1 e apart).trans he
 have st1:base.StaysIn h1:=fun b o x=>(so.2.1 b fun m=>by rw [(fun_.mem m).1] at x;cases x).trans (stay b o x)
 have e2:(h1.push tr).get? e=some oe:=Heap.get?_push_of_some _ e1
 refine wpAny_setField e2 hd sz (q _ ?_ ?_ ?_ ?_)
 all_goals have nT:h1.objs.size≠e:=Nat.ne_of_gt (Heap.lt_size e1)
 all_goals have kp:∀b o,b≠e→h1.get? b=some o→((h1.push tr).update e (Obj.mapFields (·.setIfInBounds 1 (Value.ref h1.objs.size)))).get? b=some o:=fun b o nb x=>(Heap.get?_update_other _ _ (Ne.symm nb)).trans (Heap.get?_push_of_some _ x)
 all_goals have nr:∀b o,s.heap.get? b=some o→(∀ws,o.data ≠ .fields ws)→b≠e:=fun b o x nf z=>(by rw [z,he] at x;cases x;exact nf vs hd)
 ·exact fun b o x=>kp b o (fun z=>by rw [z,new] at x;cases x) (st1 b o x)
 ·refine fun_.of_keeps fun b o x nf => ?_
  obtain ⟨sl,hs⟩:=so.2.2 b o x
  exact ⟨_,kp b _ (nr b o x nf) hs,rfl⟩
 ·have d3:=Obj.data_mapFields hd (·.setIfInBounds 1 (Value.ref h1.objs.size))
  have e3:=Heap.get?_update_self (Obj.mapFields (·.setIfInBounds 1 (Value.ref h1.objs.size))) e2 (Obj.isFreed_of_fields d3)
  refine ⟨_,_,h1.objs.size,tr,_,e3,Obj.cls_mapFields _ _,?_,d3,by rw [Array.getElem?_setIfInBounds_ne (by decide)];exact h0,by simp [sz],st1.fresh,nT,(Heap.get?_update_other _ _ (Ne.symm nT)).trans (Heap.get?_push_size h1 (by rw [etr];rfl)),by rw [etr],?_⟩
  ·obtain ⟨c1,c2,c3,c4⟩:=oe
   cases c3 <;> rfl
  ·first
    | (simp;done)
    | (rcases isp with rfl|⟨_,_,_,_,_,_,_,rfl⟩ <;> simp)
 ·intro b o x nf
  obtain ⟨sl,hs⟩:=so.2.2 b o x
  exact ⟨sl,kp b _ (nr b o x nf) hs⟩
theorem note_first {oe:Obj} {vs:Array Value} (hfr:A.frames=some (env :: outer)) (fun_:s.heap.FunFrames base (env :: outer)) (hf:env.frame=some L) (he:s.heap.get? e=some oe) (stay:base.StaysIn s.heap) (new:base.get? e=none)
  (hd:oe.data = .fields vs) (h1:vs[1]? = some .none) (h0:vs[0]? = some a0) (q:∀h',HeldD base (env :: outer) e oe.cls a0 oe.dict L h'→s.heap.UpToSlots h'→Q () { s with heap:=h' }):wpAny M A (noteFrame (.ref e) env) Q E s:=by
 unfold noteFrame
 simp only [hf]
 refine wpAny_bind (wpAny_field he hd h1 ?_)
 rw [if_neg (by decide)]
 exact trace_laid hfr fun_ hf he stay new hd (Array.getElem?_eq_some_iff.mp h1).1 h0 fun h' k1 k2 k3 k4=>q h' ⟨k1,new,k2,k3⟩ k4
theorem slot_set {T:Addr} {oT:Obj} {ts:Array Value} {x:Value} (hT:s.heap.get? T=some oT) (dT:oT.data = .fields ts) (nT:base.get? T=none) (stay:base.StaysIn s.heap) {l:List Env} (fun_:s.heap.FunFrames base l) :
  (∀b,b≠T→(s.heap.update T (Obj.mapFields (·.setIfInBounds 3 x))).get? b=s.heap.get? b)∧base.StaysIn (s.heap.update T (Obj.mapFields (·.setIfInBounds 3 x)))∧(s.heap.update T (Obj.mapFields (·.setIfInBounds 3 x))).FunFrames base l ∧
   ∀b o,s.heap.get? b=some o→(∀ws,o.data ≠ .fields ws)→(s.heap.update T (Obj.mapFields (·.setIfInBounds 3 x))).get? b=some o:=by
 have off:∀b,b≠T→(s.heap.update T (Obj.mapFields (·.setIfInBounds 3 x))).get? b=s.heap.get? b:=fun b nb=>Heap.get?_update_other _ _ (Ne.symm nb)
 have kp:∀b o,s.heap.get? b=some o→(∀ws,o.data ≠ .fields ws)→(s.heap.update T (Obj.mapFields (·.setIfInBounds 3 x))).get? b=some o:=fun b o z nf=>
  (off b fun w=>by rw [w,hT] at z;cases z;exact nf ts dT).trans z
 exact ⟨off,fun b o z=>(off b fun w=>by rw [w,nT] at z;cases z).trans (stay b o z),fun_.of_keeps fun b o z nf=>⟨o,kp b o z nf,rfl⟩,kp⟩
theorem note_on (hfr:A.frames=some (env :: outer)) (hf:env.frame=some L) (fly:FlyD base (env :: outer) e cls a0 dx s.heap) (q:∀h',HeldD base (env :: outer) e cls a0 dx L h'→s.heap.UpToSlots h'→Q () { s with heap:=h' }):wpAny M A (noteFrame (.ref e) env) Q E s:=by
 obtain ⟨stay,new,fun_,oe,vs,T,oT,ts,he,rfl,rfl,hd,h0,h1,nT,ne,hT,dT,h3⟩:=fly
 obtain ⟨off,st2,fu2,kp⟩:=slot_set (x := .none) hT dT nT stay fun_
 unfold noteFrame
 simp only [hf]
 refine wpAny_bind (wpAny_field he hd h1 ?_)
 rw [if_pos (show (Value.ref T != Value.none)=true by simp)]
 refine wpAny_bind (wpAny_field hT dT h3 ?_)
 rw [if_neg (show ¬((Value.none == rawInt L)=true) by simp [rawInt])]
 refine wpAny_bind (wpAny_setField hT dT (Array.getElem?_eq_some_iff.mp h3).1 ?_)
 refine trace_laid hfr fu2 hf ((off e (Ne.symm ne)).trans he) st2 new hd (Array.getElem?_eq_some_iff.mp h1).1 h0 fun h' k1 k2 k3 k4=>q h' ⟨k1,new,k2,k3⟩ fun b o z nf=>k4 b o (kp b o z nf) nf
theorem lands {l:List Env} {fl:Value} (stay:base.StaysIn s.heap) (new:base.get? e=none) (fun_:s.heap.FunFrames base l) (tr:TrD s.heap base e cls a0 dx fl) (q:∀h',FlyD base l e cls a0 dx h'→s.heap.UpToSlots h'→Q () { s with heap:=h' }) :
  wpAny M A (setFlight (.ref e) none) Q E s:=by
 obtain ⟨oe,vs,T,oT,ts,he,rfl,rfl,hd,h0,h1,nT,ne,hT,dT,h3⟩:=tr
 have sz3:3<ts.size:=(Array.getElem?_eq_some_iff.mp h3).1
 obtain ⟨off,st2,fu2,kp⟩:=slot_set (x:=(none:Option Addr).elim Value.none fun f=>rawInt f) hT dT nT stay fun_
 unfold setFlight
 refine wpAny_bind (wpAny_field he hd h1 ?_)
 rw [if_pos (show (Value.ref T != Value.none)=true by simp)]
 have dT':=Obj.data_mapFields dT (·.setIfInBounds 3 ((none:Option Addr).elim Value.none fun f=>rawInt f))
 exact wpAny_setField hT dT sz3 (q _ ⟨st2,new,fu2,oe,vs,T,_,_,(off e (Ne.symm ne)).trans he,rfl,rfl,hd,h0,h1,nT,ne,Heap.get?_update_self _ hT (Obj.isFreed_of_fields dT'),dT',by simp [sz3]⟩ fun b o z nf=>⟨o.slots,kp b o z nf⟩)
theorem FlyD.tail {h:Heap} (x:FlyD base (env :: outer) e cls a0 dx h):FlyD base outer e cls a0 dx h:=let ⟨a,b,⟨_,_,c⟩,d⟩:=x; ⟨a,b,c,d⟩
theorem leaves_first {oe:Obj} {vs:Array Value} (hfr:A.frames=some (env :: outer)) (fun_:s.heap.FunFrames base (env :: outer)) (hf:env.frame=some L) (he:s.heap.get? e=some oe) (stay:base.StaysIn s.heap) (new:base.get? e=none)
  (hd:oe.data = .fields vs) (h1:vs[1]? = some .none) (h0:vs[0]? = some a0) (q:∀h',FlyD base outer e oe.cls a0 oe.dict h'→s.heap.UpToSlots h'→Q () { s with heap:=h' }):wpAny M A (leaving env (.ref e)) Q E s:=by
 unfold leaving
 exact wpAny_bind (note_first hfr fun_ hf he stay new hd h1 h0 fun h1 hd up=>lands hd.1 hd.2.1 hd.2.2.1 hd.2.2.2 fun h2 fly2 up2=>q h2 fly2.tail (up.trans up2))
end
end L2
namespace L2
open PySem PySem.Spec PyProof.Rows PySem.W
theorem ObjOk.ex {P:Program} {w:World} {H:Hp} {h:Heap} {a:Addr} {o:HO} (x:ObjOk P w H h a o):∃q,h.get? a=some q:=by
 cases o with
 | lst xs=>obtain ⟨_,_,_,_,e⟩:=x;exact ⟨_,e⟩
 | tup xs=>obtain ⟨_,_,_,_,e,_⟩:=x;exact ⟨_,e⟩
 | dK kvs=>obtain ⟨_,_,_,_,_,_,_,e,_⟩:=x;exact ⟨_,e⟩
 | dT kvs=>obtain ⟨_,_,_,_,_,_,_,e,_⟩:=x;exact ⟨_,e⟩
 | set S n=>obtain ⟨_,_,_,_,e,_⟩:=x;exact ⟨_,e⟩
 | ins C dx fs=>exact ⟨_,x.2.2.2.1⟩
 | own y=>exact x
 | xd fs=>obtain ⟨_,⟨_,_,_,e,_⟩,_⟩:=x;exact ⟨_,e⟩
 | rng lo hi=>obtain ⟨_,_,_,e⟩:=x;exact ⟨_,e⟩
 | frz ob u=>exact ⟨_,x.1⟩
 | tbl ps=>exact ⟨_,x⟩
 | met f y=>exact ⟨_,x⟩
 | ext φ=>exact x.2.1
theorem HOk.part {P:Program} {w:World} {H:Hp} {h h' B:Heap} (x:HOk P w H h) (hB:B.StaysIn h) (hB':B.StaysIn h') (hin:∀b u,H b=some u→∃o,B.get? b=some o):HOk P w H h':=fun a o e=>
 (x a o e).stay (fun b u hb q=>by
  obtain ⟨o',eo⟩:∃o',B.get? b=some o':=by
   rcases hb with hb|hb
   ·subst hb;exact hin _ _ e
   ·exact hin _ _ hb
  have:=hB b o' eo
  rw [q] at this;cases this
  exact hB' b _ eo) (fun _ q=>q) fun _ _ q=>q
noncomputable def drp (H:Hp) (a:Addr):Hp:=fun b=>if b=a then none else H b
theorem drp_same {H:Hp} {a:Addr} : drp H a a=none:=if_pos rfl
theorem drp_ne {H:Hp} {a b:Addr} (h:b≠a):drp H a b=H b:=if_neg h
def CXE (P:Program) (w:World) (base:Heap):CXT:=fun outer H s E e s'=>Ex6 fun ea cls t B H' dx=>e = .ref ea∧s'.os=s.os∧AllBare s'.gens∧Un (frs outer) [] H H' s.heap s'.heap∧HOk P w H' s'.heap ∧
 base.StaysIn B∧(∀b o,s.heap.get? b=some o→b ∉ frs outer→∃o',B.get? b=some o')∧(∀b u,H' b=some u→∃o',B.get? b=some o')∧FlyD B outer ea cls (.ref t) dx s'.heap∧E cls dx H'
theorem fun_data {base h:Heap} : ∀{l:List Env} {b:Addr},h.FunFrames base l→b∈frs l→∃o,h.get? b=some o∧∀vs,o.data ≠ .fields vs:=fun {l b} hl hb=>by
 refine Elim.el (hl.mem hb) _ ?_
 rintro _ o e n
 exact ⟨o,e,n⟩
section
variable {P:Program} {w:World} {K:PySem.W.Frag} {mg:Str→Option Value} {base:Heap} {N:List Str} {qual:Str} {scope:Scope} {f:Addr} {cd:Value} {A:Around} {outer:List Env} {s0:Shared} {H0:Hp} {E:XK}
theorem exc_leaves {pins:List (Addr×Obj)} {σ:St} {H:Hp} {s:Shared} {e t:Addr} {oe:Obj} {vs:Array Value}
  (I:Inv (cxOf (CXE P w base) P w K mg base N qual scope f cd A outer s0 H0 E) pins σ H s) (he:s.heap.get? e=some oe) (new:s0.heap.get? e=none) (hd:oe.data = .fields vs) (v1:vs[1]? = some .none) (v0:vs[0]? = some (.ref t))
  (let_:H e=none∨∃ φ,H e=some (.ext φ)) (hE:E oe.cls oe.dict (drp H e)):(cxOf (CXE P w base) P w K mg base N qual scope f cd A outer s0 H0 E).xe (.ref e) s:=by
 let env:=envOfC qual scope s0.heap.objs.size f cd
 let B:=hideAll s.heap (e :: frs (env :: outer))
 have hst:B.StaysIn s.heap:=fun b o q=>of_hideAll _ q
 have hfun:s.heap.FunFrames base (env :: outer):=I.stack
 have hfr:(A.deeper env).frames=some (env :: outer):=I.ok.frames
 have hLs:∀b o,s0.heap.get? b=some o→b≠s0.heap.objs.size:=fun b o q=>Nat.ne_of_lt (Heap.lt_size q)
 have hes:∀b o,s0.heap.get? b=some o→b≠e:=fun b o q z=>by rw [z,new] at q;cases q
 have hmem:∀b,b∈frs (env :: outer)→b=s0.heap.objs.size∨b∈frs outer:=fun b hb=>by
  have:b∈(env :: outer).filterMap (·.frame):=hb
  rw [List.filterMap_cons] at this
  exact List.mem_cons.mp this
 have hbs:∀b o,base.get? b=some o→b≠e:=fun b o q z=>by
  have q0:=I.ok.bs b o q
  exact hes b _ q0.1 z
 have hin:∀b u,drp H e b=some u→∃o,B.get? b=some o:=fun b u q=>by
  have nb:b≠e:=fun z=>by rw [z,drp_same] at q;cases q
  rw [drp_ne nb] at q
  obtain ⟨o,eo⟩:=(I.hok b u q).ex
  refine ⟨o,hideAll_get _ eo fun z => ?_⟩
  rcases List.mem_cons.mp z with z|z
  ·exact nb z
  ·have:=I.stkFree b z
   rw [q] at this;cases this
 have hbB:base.StaysIn B:=fun b o q=>by
  refine hideAll_get _ (I.bs b o q).1 fun z => ?_
  rcases List.mem_cons.mp z with z|z
  ·exact hbs b o q z
  ·have:=(hfun.mem z).1
   rw [q] at this;cases this
 have ub:Un (frs outer) [] H0 H s0.heap s.heap:=I.base
 show wpAny _ _ (leaving env (.ref e)) _ _ _
 refine leaves_first (base:=B) hfr (funFrames_hide hfun fun v hv a ha=>List.mem_cons_of_mem _ (List.mem_filterMap.mpr ⟨v,hv,ha⟩)) rfl he hst (hideAll_none _ (List.mem_cons_self ..)) hd v1 v0 fun h' fly up => ?_
 have hk:∀b o,b≠e→b ∉ frs (env :: outer)→s.heap.get? b=some o→h'.get? b=some o:=fun b o ne hb q=>fly.1 b o (hideAll_get _ q fun z=>(List.mem_cons.mp z).elim ne hb)
 have hslot:∀b o,b∈frs (env :: outer)→s.heap.get? b=some o→∃sl,h'.get? b=some { o with slots:=sl }:=fun b o hb q=>by
  refine Elim.el (fun_data hfun hb) _ ?_
  rintro o' e' nf
  rw [q] at e';cases e'
  exact up b o q nf
 have old:∀b o,s0.heap.get? b=some o→b ∉ frs outer→b ∉ frs (env :: outer):=fun b o q hb z=>(hmem b z).elim (hLs b o q) hb
 have hdrop:HOk P w (drp H e) s.heap:=fun b u q=>by
  have nb:b≠e:=fun z=>by rw [z,drp_same] at q;cases q
  rw [drp_ne nb] at q
  refine (I.hok b u q).stay (fun _ _ _ z=>z) (fun c z => ?_) fun c xs z => ?_
  all_goals
   have nc:c≠e:=fun y=>by
    rw [y] at z
    rcases let_ with l|⟨φ,l⟩ <;> (rw [l] at z;cases z)
   rw [drp_ne nc];exact z
 have keepL:∀b o,H0 b=some o→(∀ φ,H b≠some (.ext φ))→H b≠none→drp H e b=H b:=fun b o q n1 n2=>by
  refine drp_ne fun z => ?_
  rw [z] at n1 n2
  rcases let_ with l|⟨φ,l⟩
  ·exact n2 l
  ·exact n1 φ l
 refine ⟨e,oe.cls,t,B,drp H e,oe.dict,rfl,I.os,I.bare,⟨?_,?_,?_,?_,?_,?_,?_⟩,hdrop.part hst fly.1 hin,hbB,?_,hin,fly,hE⟩
 ·exact fun b o q n hb hx'=>hk b o (hes b o q) (old b o q hb) (ub.keep b o q n hb hx')
 ·intro b o q n hb hx'
  obtain ⟨sl,e1⟩:=ub.slot b o q n hb hx'
  obtain ⟨sl',e2⟩:=hslot b _ (by show b∈(env :: outer).filterMap (·.frame);rw [List.filterMap_cons];exact List.mem_cons_of_mem _ hb) e1
  exact ⟨sl',e2⟩
 ·intro b o q n hx'
  rw [drp_ne (hes b o q)]
  exact ub.free b o q n hx'
 ·intro b o q hx'
  obtain ⟨o1,e1⟩:=ub.there b o q hx'
  by_cases hb:b∈frs (env :: outer)
  ·obtain ⟨sl,e2⟩:=hslot b o1 hb e1
   exact ⟨_,e2⟩
  ·exact ⟨o1,hk b o1 (hes b o q) hb e1⟩
 ·intro b xs q
  have z:=ub.tups b xs q
  rw [keepL b _ q (fun φ y=>by rw [z] at y;cases y) (fun y=>by rw [z] at y;cases y)]
  exact z
 ·intro b o u q
  have z:=ub.frzs b o u q
  rw [keepL b _ q (fun φ y=>by rw [z] at y;cases y) (fun y=>by rw [z] at y;cases y)]
  exact z
 ·intro b ps q
  obtain ⟨m,z⟩:=ub.tbls b ps q
  refine ⟨m,?_⟩
  rw [keepL b _ q (fun φ y=>by rw [z] at y;cases y) (fun y=>by rw [z] at y;cases y)]
  exact z
 ·intro b o q hb
  obtain ⟨o1,e1⟩:=ub.there b o q (by simp)
  exact ⟨o1,hideAll_get _ e1 fun z=>(List.mem_cons.mp z).elim (hes b o q) (old b o q hb)⟩
end
end L2
namespace L2
open PySem PySem.Spec PyProof.Rows PySem.W
def Et (X:Cx) (pins:List (Addr×Obj)) (σ0:St) (E':XK):Value→Shared→Prop:=fun e s'=>Ex3 fun pins' H s=>Inv X (pins++pins') σ0 H s∧CXE X.prog X.w X.base X.stack H s E' e s'
noncomputable def xB (X:Cx) (pins:List (Addr×Obj)) (σ0:St) (E':XK):Cx:={ X with pn:=X.pn++pins,xe:=Et X pins σ0 E' }
noncomputable def xH (X:Cx) (e:Addr):Cx:={ X with A:=X.A.mark (some (.ref e)),calm:=false,xe:=fun _ _=>False }
section
variable {X:Cx} {pins pins':List (Addr×Obj)} {σ σ0:St} {E':XK} {H:Hp} {s:Shared}
theorem Inv.toB (I:Inv X pins σ H s):Inv (xB X pins σ0 E') [] σ H s:=
 ⟨⟨I.ok.mod,I.ok.kind,I.ok.glob,I.ok.blt,I.ok.above,I.ok.inj,I.ok.has,I.ok.cab,I.ok.hd,I.ok.frames,I.ok.stk,I.ok.exf,I.ok.bs,I.ok.bsz,I.ok.noex,I.ok.exfs,I.ok.funs,I.ok.frf⟩,I.os,I.bare,I.base,I.loc,I.cell,I.free,I.freeC,
  fun p hp=>I.pin p (by have hp:p∈(X.pn++pins)++[]:=hp;simpa using hp),I.hok,I.len⟩
theorem Inv.ofB (I:Inv (xB X pins σ0 E') pins' σ H s):Inv X (pins++pins') σ H s:=
 ⟨⟨I.ok.mod,I.ok.kind,I.ok.glob,I.ok.blt,I.ok.above,I.ok.inj,I.ok.has,I.ok.cab,I.ok.hd,I.ok.frames,I.ok.stk,I.ok.exf,I.ok.bs,I.ok.bsz,I.ok.noex,I.ok.exfs,I.ok.funs,I.ok.frf⟩,I.os,I.bare,I.base,I.loc,I.cell,I.free,I.freeC,
  fun p hp=>I.pin p (by show p∈(X.pn++pins)++pins';simpa [List.append_assoc] using hp),I.hok,I.len⟩
theorem Inv.toH {e:Addr} (I:Inv X pins σ H s):Inv (xH X e) pins σ H s:=
 ⟨⟨I.ok.mod,I.ok.kind,I.ok.glob,I.ok.blt,I.ok.above,I.ok.inj,I.ok.has,I.ok.cab,fun z=>Bool.noConfusion z,I.ok.frames,I.ok.stk,I.ok.exf,I.ok.bs,I.ok.bsz,I.ok.noex,I.ok.exfs,I.ok.funs,I.ok.frf⟩,I.os,I.bare,I.base,I.loc,I.cell,I.free,I.freeC,I.pin,I.hok,I.len⟩
theorem Inv.ofH {e:Addr} (k:X.Ok) (I:Inv (xH X e) pins σ H s):Inv X pins σ H s:=
 ⟨k,I.os,I.bare,I.base,I.loc,I.cell,I.free,I.freeC,I.pin,I.hok,I.len⟩
def tCallAt (σ0:St) (sp:Sp) (E:XK) (t:TA):TE:=fun σ H Q => σ = σ0∧t σ H fun vs H1=>sp vs H1 Q E
theorem pe_fnT {k:Nat} {f:Addr} {fd:FuncData} {ps:List Str} {sp:Sp} {x:Str} {e:Expr} {es:List Expr} {t:TA} {p pos:Pos} (F:FnOk X.prog X.w X.K X.mg X.base (CXE X.prog X.w X.base) k f fd ps sp) (hr:Room k X.A) (hg:Gl X x) (hm:X.mg x=some (.ref f))
  (hk:PySem.W.keepIn X.K (.ref f)=true) (hb:Binds X.K fd ps []) (ha:PA (xB X pins σ0 E') (e :: es) t) (hdb:(x == ("__debug__" : Str))=false:=by decide)
  (he:starEach (e :: es) X.env=(false,eval e X.env) :: starEach es X.env:=by rfl) (hpl:(backTo pos (starEach es X.env)).any (·.1)=false:=by rfl) :
  PE (xB X pins σ0 E') (.Call (.Name x p) (e :: es) [] pos) (tCallAt σ0 sp E' t):=by
 intro pl s σ H Q I h
 obtain ⟨hσ,h⟩:=h
 subst hσ
 refine wpAny_Call_Name_kw (ld_glob (X:=xB X pins σ E') I hg hm ?_ hdb)
 refine PySem.W.callWith_K (h₀:=X.base) I.ok.mod.kin hk (thn (ha s σ H _ I h) fun us s1 hz_=>Elim.el hz_ _ fun vs H1 I1 r q=>⟨I1.kIn,?_⟩) he hpl
 have J1:Inv X (pins++pl) σ H1 s1:=I1.ofB
 have hl:us.length=ps.length:=by rw [←r.length];exact F.len _ _ _ _ q
 have hb1:=hb s1 us J1.kIn (by simpa using hl)
 refine wpAny_call (codeAny_mono (F.run X.A X.stack s1 H1 ⟨us,[]⟩ us vs Q E' hr J1.env0 (by simpa using hb1) r q) fun r s' hq => ?_)
 cases r with
 | error e=>exact ⟨pl,H1,s1,J1,hq⟩
 | ok fl=>
  cases fl with
  | ret u=>exact I1.after hq
  | next=>exact False.elim hq
  | brk=>exact False.elim hq
  | cont=>exact False.elim hq
end
theorem Un.land {st:List Env} {H H':Hp} {h h1 h3 B:Heap} (u:Un (frs st) [] H H' h h1) (hold:∀b o,h.get? b=some o→b ∉ frs st→∃o',B.get? b=some o') (k1:B.StaysIn h1) (k3:B.StaysIn h3) (hf:h1.FunFrames B st) (up:h1.UpToSlots h3) :
  Un (frs st) [] H H' h h3:=by
 have step:∀b o,h.get? b=some o→b ∉ frs st→∀o1,h1.get? b=some o1→h3.get? b=some o1:=fun b o q hb o1 e1=>by
  obtain ⟨o',eo⟩:=hold b o q hb
  have e2:=k1 b o' eo
  rw [e1] at e2;cases e2
  exact k3 b _ eo
 have sl:∀b o,b∈frs st→h1.get? b=some o→∃l,h3.get? b=some { o with slots:=l }:=fun b o hb q=>by
  refine Elim.el (fun_data hf hb) _ ?_
  rintro o' e' nf
  rw [q] at e';cases e'
  exact up b o q nf
 refine ⟨fun b o q n hb hx=>step b o q hb o (u.keep b o q n hb hx),fun b o q n hb hx => ?_,u.free,fun b o q hx => ?_,u.tups,u.frzs,u.tbls⟩
 ·obtain ⟨l1,e1⟩:=u.slot b o q n hb hx
  obtain ⟨l2,e2⟩:=sl b _ hb e1
  exact ⟨l2,e2⟩
 ·obtain ⟨o1,e1⟩:=u.there b o q hx
  by_cases hb:b∈frs st
  ·obtain ⟨l,e2⟩:=sl b o1 hb e1
   exact ⟨_,e2⟩
  ·exact ⟨o1,step b o q hb o1 e1⟩
theorem looks_cls {M:Model} {h:Heap} {e:Addr} {o:Obj} (he:h.get? e=some o):Looks M h (typeOf (.ref e)) o.cls:=by
 exact (Looks.ld he).andThen .now
section
variable {X:Cx} {L:Addr}
end
section
variable {X:Cx} {L:Addr} {pins:List (Addr×Obj)} {σ:St} {H:Hp} {s:Shared}
theorem name_gone {M:Model} {A:Around} {E:Value→Shared→Prop} {i:Nat} {n:Str} {pos:Pos} {Q:Unit→Shared→Prop} (I:Inv X pins σ H s) (hN:X.N.Nodup) (hi:X.N[i]? = some n) (hlo:X.env.kindOf n=some .local)
  (h:∀s',Inv X pins (σ.set i none) H s'→Q () s'):wpAny M A (do bindName X.env n .none;unbindBehindTheSuite X.env n pos) Q E s:=by
 refine Elim.el (id I.loc) _ ?_
 rintro m hn hl
 have hp:(X.env.scope.kind == .class||(X.env.scope.kind == .module&&X.env.locals != X.env.globals))=false:=by rw [I.ok.kind];rfl
 obtain ⟨oL,_,_,hoL,_⟩:=id hn
 refine wpAny_nameGoes_keeps hlo hn hp fun h' v hn' hs=>h _ ?_
 have off:∀b,b≠X.env.locals→h'.get? b=s.heap.get? b:=fun b hb=>hs.2 b hb
 have old:∀b o,X.s₀.heap.get? b=some o→b≠X.env.locals:=fun b o e=>Nat.ne_of_lt (Nat.lt_of_lt_of_le (Heap.lt_size e) I.ok.above)
 have trk:∀b u,H b=some u→b≠X.env.locals:=fun b u e z=>by have:=I.free;rw [←z,e] at this;cases this
 refine ⟨I.ok,I.os,I.bare,⟨fun b o e n hb hx => ?_,fun b o e n hb hx => ?_,I.base.free,fun b o e hx => ?_,I.base.tups,I.base.frzs,I.base.tbls⟩,⟨_,hn',fun j y w e1 e2 e3 => ?_⟩,fun y c e => ?_,I.free,I.freeC,fun p hp => ?_,?_,by simpa using I.len⟩
 ·rw [off b (old b o e)];exact I.base.keep b o e n hb hx
 ·rw [off b (old b o e)];exact I.base.slot b o e n hb hx
 ·rw [off b (old b o e)];exact I.base.there b o e hx
 ·have hj:j≠i:=fun z=>by
   subst z
   have hlt:j < σ.length:=by rw [I.len];exact (List.getElem?_eq_some_iff.mp hi).1
   rw [List.getElem?_set_self hlt] at e2
   cases e2
  have hy:y≠n:=fun z=>hj (nodup_ix hN e1 (z ▸ hi))
  rw [List.getElem?_set_ne (Ne.symm hj)] at e2
  refine Elim.el (hl j y w e1 e2 e3) _ ?_
  rintro u ru lk
  refine ⟨u,ru,?_⟩
  rcases lk with ⟨k1,k2⟩|⟨k1,c,k2,k3⟩
  ·exact .inl ⟨k1,by show (if y=n then v else m y)=some u;rw [if_neg hy];exact k2⟩
  ·refine .inr ⟨k1,c,k2,?_⟩
   have hc:c≠X.env.locals:=I.cne y c k2
   exact k3.sameBut hs hc
 ·obtain ⟨w,z⟩:=I.cell y c e
  exact ⟨w,z.sameBut hs (I.cne y c e)⟩
 ·refine Elim.el (I.pin p hp) _ ?_
  rintro p1 p2 p3 p4 p5
  exact ⟨by rw [off _ p3];exact p1,p2,p3,p4,p5⟩
 ·intro b u e
  refine (I.hok b u e).stay (fun c w hc q => ?_) (fun _ q=>q) fun _ _ q=>q
  rw [off c (by
   rcases hc with hc|hc
   ·subst hc;exact trk _ _ e
   ·exact trk _ _ hc)]
  exact q
end
noncomputable def excIs (e:Addr) (cls:Value):HO := .ext fun h=>∃o,h.get? e=some o∧o.cls=cls
noncomputable def excC (e:Addr) (cls:Value) (d:Addr):HO := .ext fun h=>∃o,h.get? e=some o∧o.cls=cls∧o.dict=some d∧notCls o=true
noncomputable def excAs (e:Addr) (cls:Value):Option Addr→HO
 | none=>excIs e cls
 | some d=>excC e cls d
theorem excAs_ok {P:Program} {w:World} {H:Hp} {h:Heap} {e:Addr} {o:Obj} {cls:Value} {dx:Option Addr} {vs:Array Value} (h1:h.get? e=some o) (h2:o.cls=cls) (h3:o.dict=dx) (h4:o.data = .fields vs):ObjOk P w H h e (excAs e cls dx):=by
 cases dx with
 | none=>exact ⟨⟨o,h1,h2⟩,⟨o,h1⟩,fun a b ⟨o,e1,r⟩ k=>⟨o,k _ e1,r⟩⟩
 | some d=>exact ⟨⟨o,h1,h2,h3,by obtain ⟨_,_,dt,_⟩:=o;cases h4;rfl⟩,⟨o,h1⟩,fun a b ⟨o,e1,r⟩ k=>⟨o,k _ e1,r⟩⟩
section
variable {X:Cx} {L:Addr} {pins:List (Addr×Obj)} {σ:St} {H:Hp} {s:Shared}
theorem Inv.adoptE {e:Addr} {o:HO} (I:Inv X pins σ H s) (h0:H e=none) (h1:e≠X.env.locals) (h2:∀x c,X.env.cells.lookup x=some c→c≠e) (h3:∀p∈X.pn++pins,p.1≠e) (h4:∀b u,X.s₀.heap.get? b=some u→b≠e)
  (new:ObjOk X.prog X.w (upd H e o) s.heap e o):Inv X pins σ (upd H e o) s:=by
 refine ⟨I.ok,I.os,I.bare,⟨I.base.keep,I.base.slot,fun b u q n hx => ?_,I.base.there,fun b xs q => ?_,fun b u xs q => ?_,fun b ps q => ?_⟩,I.loc,I.cell,?_,fun x c q => ?_,fun p hp => ?_,I.hok.adopt h0 new,I.len⟩
 ·rw [upd_ne (h4 b u q)];exact I.base.free b u q n hx
 ·have z:=I.base.tups b xs q
  rw [upd_ne (ne_of_none z h0)];exact z
 ·have z:=I.base.frzs b u xs q
  rw [upd_ne (ne_of_none z h0)];exact z
 ·obtain ⟨m,z⟩:=I.base.tbls b ps q
  exact ⟨m,by rw [upd_ne (ne_of_none z h0)];exact z⟩
 ·rw [upd_ne (Ne.symm h1)];exact I.free
 ·rw [upd_ne (h2 x c q)];exact I.freeC x c q
 ·obtain ⟨p1,p2,p3⟩:=I.pin p hp
  exact ⟨p1,by rw [upd_ne (h3 p hp)];exact p2,p3⟩
noncomputable def Ends.gone (D:Ends) (j:Nat):Ends:={ nx:=fun σ H=>D.nx (σ.set j none) H,rt:=D.rt,bk:=fun σ H=>D.bk (σ.set j none) H,ct:=fun σ H=>D.ct (σ.set j none) H }
def tTry1 (K:PySem.W.Frag) (C:Addr) (j:Nat) (tb:St→XK→TS) (th:TS):TS:=fun D σ H=>∃E':XK,tb σ E' D σ H ∧
 ∀cls dx H',E' cls dx H'→exmOne K cls (.ref C)=some true∧∀e,H' e=none→th (D.gone j) (σ.set j (some (.ref e))) (upd H' e (excAs e cls dx))
theorem ps_try1 {c n:Str} {j:Nat} {C:Addr} {body suite:List Stmt} {b0:Stmt} {tb:St→XK→TS} {th:TS} {np hp pos:Pos} (hst:X.stack=X.env :: X.outer) (hfm:X.env.frame=some L) (hN:X.N.Nodup) (hj:X.N[j]? = some n) (hlo:X.env.kindOf n=some .local)
  (hg:Gl X c) (hm:X.mg c=some (.ref C)) (hb:∀pins σ0 E',PSs (xB X pins σ0 E') body (tb σ0 E')) (hh:∀e,PSs (xH X e) (b0 :: suite) th) (hd:(c == ("__debug__" : Str))=false:=by decide) (hex:X.ex=[]:=by rfl) :
  PS X (.Try body [.ExceptHandler (some (.Name c np)) (some n) (b0 :: suite) hp] [] [] pos) (tTry1 X.K C j tb th):=by
 intro pins s σ H D I h
 obtain ⟨E',hb',hc⟩:=h
 refine wpAny_Try_except (wpAny_mono (hb pins σ E' s σ H D I.toB hb') (fun f s1 q => ?_) fun ev s1 q => ?_)
 ·cases f with
  | next=>
   obtain ⟨σ',H',J,q⟩:=q
   have J:=J.ofB
   rw [List.append_nil] at J
   exact wpAny_execs_nil ⟨σ',H',J,q⟩
  | brk=>
   obtain ⟨σ',H',J,q⟩:=q
   have J:=J.ofB
   rw [List.append_nil] at J
   exact ⟨σ',H',J,q⟩
  | cont=>
   obtain ⟨σ',H',J,q⟩:=q
   have J:=J.ofB
   rw [List.append_nil] at J
   exact ⟨σ',H',J,q⟩
  | ret u=>
   obtain ⟨v, σ',H',J,r,q⟩:=q
   have J:=J.ofB
   rw [List.append_nil] at J
   exact ⟨v, σ',H',J,r,q⟩
 ·obtain ⟨pins',H1,s0,J,ea,cls,t,B,H',dx,rfl,os',bare',u1,hok',hbB,hold,hin,fly,q⟩:=q
  obtain ⟨hx,ht⟩:=hc _ _ _ q
  have hfr:X.A.frames=some (X.env :: X.outer):=by rw [←hst];exact J.ok.frames
  have hnB:B.get? ea=none:=fly.2.1
  have hdat:∃oe vs,s1.heap.get? ea=some oe∧oe.data = .fields vs:=by
   refine Elim.el (fly.own) _ ?_
   rintro oe e1 _ _ vs e3
   exact ⟨oe,vs,e1,e3⟩
  have hnf:ea ∉ frs X.stack:=fun z=>by
   refine Elim.el (fun_data fly.2.2.1 z) _ ?_
   rintro o e1 e2
   refine Elim.el (hdat) _ ?_
   rintro oe vs e3 e4
   rw [e1] at e3;cases e3
   exact e2 vs e4
  have hns:∀b o,s0.heap.get? b=some o→b≠ea:=fun b o e z=>by
   subst z
   obtain ⟨o',e'⟩:=hold b o e hnf
   rw [hnB] at e';cases e'
  have hnH:H' ea=none:=by
   cases e:H' ea with
   | none=>rfl
   | some u=>obtain ⟨o',e'⟩:=hin _ _ e;rw [hnB] at e';cases e'
  have fly':=fly
  rw [hst] at fly'
  refine note_on hfr hfm fly' fun h4 held4 up4 => ?_
  refine lands held4.1 held4.2.1 held4.2.2.1 held4.2.2.2 fun h5 fly5 up5 => ?_
  have at_:∀{h9:Heap},B.StaysIn h9→s1.heap.UpToSlots h9→Inv X pins σ H' { s1 with heap:=h9 }:=fun {h9} k9 up9=>
   (J.call' (s':={ s1 with heap:=h9 }) (ch:=[]) os' (u1.land hold fly.1 k9 fly.2.2.1 up9) (hok'.part fly.1 k9 hin) bare' (fun b z=>absurd z (by simp))).unpinned
  have J5:=at_ fly5.1 (up4.trans up5)
  obtain ⟨ob,hob,hcl,_⟩:=fly5.own
  refine wpAny_handleBy_cons (codeAny_handlers_test (ld_glob (X:=xH X ea) J5.toH hg hm ?_ hd)) (by intro z;cases z)
  refine exm_one (K:=X.K) J5.kIn (by rw [←hcl];exact looks_cls hob) hx _ _ _ _ (fun b o z=>z) ?_
  refine codeAny_handlers_suite_as (lands fly5.1 fly5.2.1 fly5.2.2.1 fly5.2.2.2 fun h6 fly6 up6 => ?_)
  have J6:=at_ fly6.1 ((up4.trans up5).trans up6)
  refine Elim.el (fly6.own) _ ?_
  rintro o6 ho6 hc6 hd6 w6 hw6
  have K6:Inv X pins σ (upd H' ea (excAs ea cls dx)) { s1 with heap:=h6 }:=by
   refine J6.adoptE hnH (fun z => ?_) (fun x k e => ?_) (fun p hp => ?_) (fun b u e => ?_) (excAs_ok ho6 hc6 hd6 hw6)
   ·obtain ⟨m,⟨oL,_,_,e,_⟩,_⟩:=J.loc
    exact hns _ _ e z.symm
   ·obtain ⟨v,o,e1,_⟩:=J.cell x k e
    exact hns _ _ e1
   ·exact hns _ _ (J.pin p (by
     have hp:p∈X.pn++pins:=hp
     rcases List.mem_append.mp hp with z|z
     ·exact List.mem_append_left _ z
     ·exact List.mem_append_right _ (List.mem_append_left _ z))).1
   ·obtain ⟨o',e'⟩:=J.base.there b u e (by rw [hex];simp)
    exact hns _ _ e'
  refine store_ok (X:=xH X ea) (K6.toH) hN hj (.inl hlo) (v := .ref ea) rfl (fun s7 K7 => ?_) (.inr hlo)
  refine wpAny_mono (hh ea _ _ _ (D.gone j) K7 (ht ea hnH)) (fun f s8 q8 => ?_) fun _ _ z=>False.elim z
  cases f with
  | next=>obtain ⟨σ',H8,J8,q8⟩:=q8;exact name_gone (J8.ofH J.ok) hN hj hlo fun s9 J9=>⟨_,_,J9,q8⟩
  | brk=>obtain ⟨σ',H8,J8,q8⟩:=q8;exact name_gone (J8.ofH J.ok) hN hj hlo fun s9 J9=>⟨_,_,J9,q8⟩
  | cont=>obtain ⟨σ',H8,J8,q8⟩:=q8;exact name_gone (J8.ofH J.ok) hN hj hlo fun s9 J9=>⟨_,_,J9,q8⟩
  | ret u=>obtain ⟨v, σ',H8,J8,r,q8⟩:=q8;exact name_gone (J8.ofH J.ok) hN hj hlo fun s9 J9=>⟨v,_,_,J9,r,q8⟩
end
section
variable {P:Program} {w:World} {K:PySem.W.Frag} {mg:Str→Option Value} {base:Heap}
theorem Fun.okX {x qual:Str} {st:Stmt} {f:Addr} {fd:FuncData} {N ps:List Str} {k:Nat} {sp:Sp} (F:Fun K x qual st f fd) (S:FnScope N ps (defScope st)) (len:∀vs H Q E,sp vs H Q E→vs.length=ps.length)
  (hbody:∀(cdv:Value) (A:Around) (outer:List Env) (s:Shared) (H:Hp) (vs:List V) (Q:VK) (E:XK),Room k (A.deeper (envOfC qual (defScope st) s.heap.objs.size f cdv))→sp vs H Q E →
   ∃t,PSs (cxOf (CXE P w base) P w K mg base N qual (defScope st) f cdv A outer s H E) (defBody st) t∧t { nx:=fun _ H'=>Q .non H',rt:=Q } (start N vs) H):FnOk P w K mg base (CXE P w base) (k+1) f fd ps sp:=by
 refine Elim.el (F.ex) _ ?_
 rintro oc od kV doc pm an cdv ct osl rfl lk hcd
 exact fn_of lk hcd S len fun A outer s H vs Q E hr hsp=>hbody cdv A outer s H vs Q E hr hsp
structure FnX (P:Program) (w:World) (K:PySem.W.Frag) (mg:Str→Option Value) (base:Heap) (k:Nat) (x:Str) (ps:List Str) (sp:Sp):Prop where
 ex:∃f fd,FnOk P w K mg base (CXE P w base) k f fd ps sp∧Binds K fd ps []∧PySem.W.keepIn K (.ref f)=true∧mg x=some (.ref f)
theorem FnX.mono {j k:Nat} {x:Str} {ps:List Str} {sp:Sp} (F:FnX P w K mg base j x ps sp) (h:j≤k):FnX P w K mg base k x ps sp:=by
 refine Elim.el (F.ex) _ ?_
 rintro f fd a b c d
 exact ⟨f,fd,a.mono h,b,c,d⟩
theorem pe_fnC {X:Cx} {pins:List (Addr×Obj)} {σ0:St} {E':XK} {k:Nat} {x:Str} {ps:List Str} {sp:Sp} {p pos:Pos} {e:Expr} {es:List Expr} {t:TA} (F:FnX X.prog X.w X.K X.mg X.base k x ps sp) (hr:Room k X.A) (hg:Gl X x)
  (ha:PA (xB X pins σ0 E') (e :: es) t) (hdb:(x == ("__debug__" : Str))=false:=by decide) (he:starEach (e :: es) X.env=(false,eval e X.env) :: starEach es X.env:=by rfl) (hpl:(backTo pos (starEach es X.env)).any (·.1)=false:=by rfl) :
  PE (xB X pins σ0 E') (.Call (.Name x p) (e :: es) [] pos) (tCallAt σ0 sp E' t):=by
 refine Elim.el (F.ex) _ ?_
 rintro f fd a b c d
 exact pe_fnT a hr hg d c b ha hdb he hpl
end
end L2
namespace L2
open PySem PySem.Spec PyProof.Rows
section
variable {prog:Program} {w:World} {A:Around} {E:Value→Shared→Prop} {s:Shared} {a₀:Array Keyed} {key:Keyed→Int} {kd:SortKind}
end
end L2
namespace L2
open PySem PySem.Spec PyProof.Rows
section
variable {prog:Program} {w:World} {A:Around} {E:Value→Shared→Prop} {s:Shared} {a₀:Array Keyed} {key:Keyed→Int} {kd:SortKind}
section
variable {α:Type} {c:Prop} [Decidable c] {m n:StateT SortSt Sem α} {Q : α→SortSt→Prop} {st:SortSt}
end
end
end L2
namespace L2
open PySem PySem.Spec PyProof.Rows
section
variable {prog:Program} {w:World} {A:Around} {E:Value→Shared→Prop} {s:Shared} {a₀:Array Keyed} {key:Keyed→Int} {kd:SortKind}
end
end L2
namespace L2
open PySem PySem.Spec PyProof.Rows
section
variable {prog:Program} {w:World} {A:Around} {E:Value→Shared→Prop} {s:Shared} {a₀:Array Keyed} {key:Keyed→Int} {kd:SortKind}
end
end L2
namespace L2
open PySem PySem.Spec PyProof.Rows
section
variable {prog:Program} {w:World} {A:Around} {E:Value→Shared→Prop} {s:Shared} {a₀:Array Keyed} {key:Keyed→Int} {kd:SortKind}
end
end L2
namespace L2
open PySem PySem.Spec PyProof.Rows
section
variable {prog:Program} {w:World} {A:Around} {E:Value→Shared→Prop} {s:Shared} {a₀:Array Keyed} {key:Keyed→Int} {kd:SortKind}
end
end L2
namespace L2
open PySem PySem.Spec PyProof.Rows
section
variable {prog:Program} {w:World} {A:Around} {E:Value→Shared→Prop} {s:Shared} {a₀:Array Keyed} {key:Keyed→Int} {kd:SortKind}
end
end L2
namespace L2
open PySem PySem.Spec PyProof.Rows
section
variable {prog:Program} {w:World} {A:Around} {E:Value→Shared→Prop} {s:Shared}
end
section
variable {X:Cx} (K:PySem.W.Frag)
end
end L2
namespace L2
open PySem PySem.Spec PyProof.Rows PySem.W
section
variable {prog:Program} {w:World} {A:Around} {E:Value→Shared→Prop} {s:Shared}
end
section
variable {X:Cx} (K:PySem.W.Frag)
end
end L2
namespace L2
open PySem PySem.Spec PyProof.Rows
section
variable {X:Cx} {pos:Pos}
def tDNewN:TE:=fun _ H Q=>∀p H',New H p (.dK []) H'→Q (.ref p) H'
theorem dnewN:PE X (.Dict [] [] pos) tDNewN:=by
 have e:tDNewN=tDNewK:=by
  funext σ H Q
  exact (new_all (F:=fun p H'=>Q (.ref p) H')).symm
 rw [e];exact pe_dnewK
end
end L2
namespace L2
open PySem PySem.Spec PyProof.Rows PySem.W
theorem FnX.calm {P:Program} {w:World} {K:PySem.W.Frag} {mg:Str→Option Value} {base:Heap} {k:Nat} {x:Str} {ps:List Str} {sp sp':Sp} (F:FnX P w K mg base k x ps sp) (h:∀vs H Q E,sp' vs H Q E→sp vs H Q (fun _ _ _=>False)):Fn P w K mg base k x ps sp':=by
 refine Elim.el (F.ex) _ ?_
 rintro f fd a b c d
 refine ⟨f,fd,⟨fun vs H Q E q=>a.len _ _ _ _ (h _ _ _ _ q),fun A outer s H args us vs Q E hr he hb hv hs=>codeAny_mono (a.run A outer s H args us vs Q _ hr he hb hv (h _ _ _ _ hs)) fun r s' q => ?_⟩,b,c,d⟩
 cases r with
 | error e=>obtain ⟨_,_,_,_,_,_,_,_,_,_,_,_,_,_,_,z⟩:=q;exact z
 | ok fl=>cases fl <;> exact q
end L2
namespace L2
open PySem PySem.Spec PyProof.Rows PySem.W
end L2
namespace L2
open PySem PySem.Spec PyProof.Rows PySem.W PySem.Calls Builtin Builtin.ObjectAttr Builtin.Getset_descriptor
def ExcAt (e C:Addr) (h:Heap):Prop:=∃o,h.get? e=some o∧o.cls = .ref C
structure ExcOk (K:Frag) (C:Addr):Prop where
 cl:(clsIn K C).isSome=true
 ga:findIn K (.ref C) "__getattribute__" = some (some (.builtin "BaseException.__getattribute__"))
 gt:findIn K (.ref C) "__getattr__" = some none
 ca:findIn K (.ref C) "__class__" = some (some (.builtin "object.__class__"))
 cg:specialIn K (.builtin "object.__class__") "__get__" = some (some (.builtin "getset_descriptor.__get__"))
 ct:takesIn K (.builtin "object.__class__")=some true
 mo:mroIn K C (.type "object")=some true
 mb:mroIn K C (.type "BaseException")=some true
section
variable {K:Frag} {e C:Addr}
theorem exc_type {M:Model} {h:Heap} (p:ExcAt e C h):Looks M h (typeOf (.ref e)) (.ref C):=by
 obtain ⟨o,h1,h2⟩:=p
 exact h2 ▸ (Looks.ld h1).andThen .now
theorem exc_find {M:Model} {h:Heap} {self:Value} (X:K.In h) (O:ExcOk K C):Looks M h (find self (.ref C) "__class__") (.bind (.builtin "getset_descriptor.__get__") (.builtin "object.__class__")):=by
 have a:=looks_findIn (M:=M) X O.ca
 have g:Looks M h (getOf (some (.builtin "object.__class__"))) (some (.builtin "getset_descriptor.__get__")):=looks_specialIn X O.cg
 have t:=looks_takesIn (M:=M) X O.ct
 have d:Looks M h (dataDescriptor? (some (.builtin "object.__class__")) (some (.builtin "getset_descriptor.__get__"))) (some (.builtin "getset_descriptor.__get__", .builtin "object.__class__")):=t.andThen .now
 exact a.andThen (g.andThen (d.andThen (Looks.tag .now)))
variable {prog:Program} {w:World} {A:Around} {E:Value→Shared→Prop} {s:Shared}
theorem exc_cget {R:Result→Shared→Prop} {tp:Value} (X:K.In s.heap) (O:ExcOk K C) (p:ExcAt e C s.heap) (h:R (.ok (.ret (.ref C))) s) :
  codeAny (model prog w) A (.call (.builtin "getset_descriptor.__get__") ⟨[.builtin "object.__class__", .ref e,tp],[]⟩) R s:=by
 obtain ⟨hh,g,dr,t,os⟩:=s
 have T0:=exc_type (M:=model prog w) p
 have T1:=looks_mroIn (M:=model prog w) X O.mo
 refine codeAny_call_builtin KF.slot_gs.plain KF.entry_gs ?_
 refine KF.slot_gs.check _ _ _ _ _ _ _ _ KF.type_class (KF.args_gs _ _ _) ?_
 unfold Builtin.«getset_descriptor.__get__» descrGet
 rw [dga_obj]
 refine wpAny_bind (wpAny_pure ?_)
 unfold descrGetter descrCheckInstance descrNameAndClass isInstance
 simp only [KF.owner_class]
 repeat lk
 refine ⟨Code.quiet_builtin _ (by decide +kernel),?_⟩
 refine codeAny_builtin KF.entry_class ?_
 unfold Builtin.«object.__class__» shownTypeOf
 repeat lk
 exact h
theorem exc_entry {tk:Tok} {Q:Fin→Shared→Prop} (X:K.In s.heap) (O:ExcOk K C) (p:ExcAt e C s.heap) (h:Q (.done (.ret (.ref C))) s) :
  wpAny (model prog w) A (Builtin.«object.__getattribute__» ⟨[.ref e, .str "__class__" tk],[]⟩) Q E s:=by
 obtain ⟨hh,g,dr,t,os⟩:=s
 have T0:=exc_type (M:=model prog w) p
 have T1:=exc_find (M:=model prog w) (self := .ref e) X O
 unfold Builtin.«object.__getattribute__»
 refine wpAny_bind (wpAny_pure ?_)
 refine wpAny_bind (wpAny_pure ?_)
 refine wpAny_bind (T0.at (wpAny_bind (T1.at ?_)))
 show wpAny _ _ (holding [.builtin "object.__class__"] (call (.builtin "getset_descriptor.__get__") [.builtin "object.__class__", .ref e, .ref C]) >>= ret) _ _ _
 exact wpAny_bind (wpAny_holding (wpAny_call (exc_cget X O p (wpAny_pure h))))
theorem exc_check {nameV:Value} {Q:Unit→Shared→Prop} (X:K.In s.heap) (O:ExcOk K C) (p:ExcAt e C s.heap) (h:Q () s):wpAny (model prog w) A (checkBuiltinCall "BaseException.__getattribute__" ⟨[.ref e,nameV],[]⟩) Q E s:=by
 obtain ⟨hh,g,dr,t,os⟩:=s
 have T0:=exc_type (M:=model prog w) p
 have T1:=looks_mroIn (M:=model prog w) X O.mb
 have k1:builtinKind "BaseException.__getattribute__" = some .slot:=by decide +kernel
 have k2:splitId "BaseException.__getattribute__" = some ("BaseException", "__getattribute__"):=by decide +kernel
 have k3:=F.args_bexc_ga (.ref e) nameV
 simp only [checkBuiltinCall,k1,k2]
 unfold isInstance
 repeat (first|lk|wp_step)
 exact h
theorem exc_attr {Q:Option Value→Shared→Prop} (X:K.In s.heap) (O:ExcOk K C) (p:ExcAt e C s.heap) (h:Q (some (.ref C)) { s with toks:=s.toks+1 }):wpAny (model prog w) A (getAttr? (.ref e) "__class__") Q E s:=by
 obtain ⟨hh,g,dr,t,os⟩:=s
 have T0:=exc_type (M:=model prog w) p
 have T1:=looks_findIn (M:=model prog w) X O.ga
 have T2:=looks_findIn (M:=model prog w) X O.gt
 have f3:=F.attr_ValueError.ga.bind (.ref e)
 unfold getAttr? getAttrBy?
 unfold getAttrBy
 refine wpAny_bind (wpAny_mkText ?_)
 refine wpAny_bind (wpAny_attempt (wpAny_holding ?_))
 refine wpAny_bind (T0.at ?_)
 refine wpAny_bind (T1.at ?_)
 show wpAny _ _ (getAttrByItsOwn _ _ _ _ _ _) _ _ _
 unfold getAttrByItsOwn
 refine wpAny_bind ?_
 show wpAny _ _ (typeLookup (.ref C) "__getattr__") _ _ _
 refine T2.at ?_
 refine wpAny_bind (wpAny_attempt (wpAny_holding ?_))
 show wpAny _ _ (boundAndCalled _ _ _) _ _ _
 unfold boundAndCalled
 rw [f3]
 refine wpAny_bind (wpAny_pure ?_)
 refine wpAny_call (codeAny_call_builtin F.attr_ValueError.ga.plain F.entry_bexc_ga (exc_check (s:=⟨hh,g,dr,t+1,os⟩) X O p (exc_entry (s:=⟨hh,g,dr,t+1,os⟩) X O p ?_)))
 exact handed_on rfl (wpAny_pure h)
theorem kitx_exc (O:ExcOk K C):KitX K (.ref e) (.ref C) (ExcAt e C) where
 ty:=fun _ _ _ p=>exc_type p
 it:=fun _ _ X _=>by
  have z:=O.cl
  cases q:K.lookup C with
  | none=>simp [clsIn,q] at z
  | some o=>
   obtain ⟨c1,c2,c3,c4⟩:=o
   cases c3 <;> simp [clsIn,q] at z
   intro A Q E s k h
   unfold isType loadHead
   exact wpAny_bind (wpAny_loadPart (k _ _ (X _ _ q)) (wpAny_pure h))
 ne:=fun h tp dd its n sl X htp=>Bool.eq_false_iff.mpr fun z=>by
  have z:C=tp:=Value.ref.inj (beq_iff_eq.mp z)
  subst z
  have z:=O.cl
  cases q:K.lookup C with
  | none=>simp [clsIn,q] at z
  | some o=>
   have w:=(X _ _ q).symm.trans htp
   cases w
   simp [clsIn,q] at z
 ca:=fun X p h=>exc_attr X O p h
theorem kit_ref {C D:Addr} {cd} {b:Bool} (h1:clsIn K D=some cd) (h2:typeIn K (.ref D)=some (.type "type")) (h3:subIn K (.ref C) (.ref D)=some b) (hne:(Value.ref C == Value.ref D)=false):kitOne K (.ref C) (.ref D)=some b:=by
 unfold kitOne kitCls
 rw [if_neg (by rw [hne];decide)]
 simp [h1,h2,h3]
theorem exm_sub {C D:Addr} {cd} (h1:subIn K (.ref D) (.type "BaseException")=some true) (h2:clsIn K D=some cd) (h3:typeIn K (.ref D)=some (.type "type")) (h4:subIn K (.ref C) (.ref D)=some true):exmOne K (.ref C) (.ref D)=some true:=by
 unfold exmOne kitCls
 rw [h1]
 simp [h2,h3,h4]
theorem cls_some {C:Addr} {cd} (h:clsIn K C=some cd):(clsIn K C).isSome=true:=by rw [h];rfl
theorem kit_self {C:Addr} : kitOne K (.ref C) (.ref C)=some true:=by
 unfold kitOne
 rw [if_pos (beq_iff_eq.mpr rfl)]
theorem kit_ty {C:Addr} {T:String} {b:Bool} (h1:kitMeta T=true) (h3:subIn K (.ref C) (.type T)=some b):kitOne K (.ref C) (.type T)=some b:=by
 unfold kitOne kitCls
 rw [if_neg (fun z=>by cases beq_iff_eq.mp z)]
 simp [h1,h3]
end
section
variable {X:Cx}
theorem pe_gref {x:Str} {C:Addr} {pos:Pos} (hg:Gl X x) (hm:X.mg x=some (.ref C)) (hd:(x == ("__debug__" : Str))=false:=by decide):PE X (.Name x pos) (tC (.ref C)):=pe_glob (v := .ref C) hg hm rfl hd
noncomputable def clsV:V→Option Value
 | .ref D=>some (.ref D)
 | .ty T=>some (.type T)
 | _=>none
end
end L2
namespace L2
open PySem PySem.Spec PyProof.Rows
section
variable {X:Cx}
theorem op_mulS:OpR X (binaryOp .Mult) (fun x y H Q=>∃(z:Str) (n:Int),x = .str z∧y = .int n∧MulOk z n∧Q (.str (Txt.mul z n)) H):=by
 intro pins s σ H x y v u Q I rx ry h
 obtain ⟨z,n,rfl,rfl,ok,q⟩:=h
 obtain ⟨t,rfl⟩:=rx
 obtain ⟨t',rfl⟩:=ry
 exact SB.mul ok fun t' k=>⟨.str _,H,I.tok _,⟨_,rfl⟩,q⟩
def rMulS:R2:=fun x y H Q=>rMulN x y H Q∨∃(z:Str) (n:Int),x = .str z∧y = .int n∧MulOk z n∧Q (.str (Txt.mul z n)) H
theorem mulS:OpR X (binaryOp .Mult) rMulS:=mulN.or op_mulS
theorem mulOk_small {z:Str} {n:Int} (h1:z.length≤1000) (h2:n≤1000) (h3 : -1000≤n):MulOk z n:=by
 refine ⟨?_,fun a _ => ?_,fun a _ => ?_⟩
 ·rw [decide_eq_false (by omega),decide_eq_false (by omega)];rfl
 ·have:(1000:Int)≤(2 ^ 63-1) / n:=by
   rw [Int.le_ediv_iff_mul_le (by omega)]
   omega
  omega
 ·have:z.length*n.toNat≤1000*1000:=Nat.mul_le_mul h1 (by omega)
  show decide (_>sizeLine)=false
  simp
  exact Nat.le_trans this (by decide)
end
end L2
namespace L2
open PySem PySem.Spec PyProof.Rows
section
variable {prog:Program} {w:World} {K:Type} [DecidableEq K] {knd:PySem.KeyKind prog w K}
variable {A:Around} {R:Result→Shared→Prop} {I:Addr} {fp wr:List Addr} {G:Array GenState→Array GenState→Prop} {n:Nat} {P:Nat→Value→Prop} {St:Nat→Shared→Prop}
end
section
variable {prog:Program} {w:World} {K:Type} [DecidableEq K] {knd:PySem.KeyKind prog w K} {A:Around} {E:Value→Shared→Prop} {s:Shared}
end
section
variable {X:Cx}
end
end L2
namespace L2
open PySem PySem.Spec PyProof.Rows
noncomputable def strD:PyData→Str
 | .str x=>x
 | d=>d.shown
section
variable {X:Cx} {pins:List (Addr×Obj)} {σ:St} {H:Hp} {s:Shared}
mutual
theorem den_reads (I:Inv X pins σ H s):∀(d:PyData) (x:V) (u:Value),Den X.K H d x→RelV x u→∃as,Reads s.heap u d as
 | .none,x,u,h,r=>by unfold Den at h;subst h;cases r;exact ⟨_, .none⟩
 | .bool b,x,u,h,r=>by unfold Den at h;subst h;cases r;exact ⟨_, .bool b⟩
 | .int i,x,u,h,r=>by unfold Den at h;subst h;obtain ⟨t,rfl⟩:=r;exact ⟨_, .int i t⟩
 | .str y,x,u,h,r=>by unfold Den at h;subst h;obtain ⟨t,rfl⟩:=r;exact ⟨_, .str y t⟩
 | .list ds,x,u,h,r=>by
  unfold Den at h
  obtain ⟨a,vs,rfl,h1,h2⟩:=h
  cases r
  obtain ⟨its,rv,pl,hz⟩:=I.list h1
  obtain ⟨o,e1,e2,n,e3⟩:=pl.isList
  obtain ⟨bs,hb⟩:=dens_reads I ds vs its h2 rv
  exact ⟨_, .list e1 e2 e3 (by simpa using hb)⟩
 | .tuple ds,x,u,h,r=>by
  unfold Den at h
  obtain ⟨a,vs,rfl,h1,h2⟩:=h
  cases r
  obtain ⟨its,rv,⟨o,e1,e2,n,e3⟩,hz⟩:=I.tuple h1
  obtain ⟨bs,hb⟩:=dens_reads I ds vs its h2 rv
  exact ⟨_, .tuple e1 e2 e3 (by simpa using hb)⟩
 | .dict _,x,u,h,r=>by unfold Den at h;exact h.elim
theorem dens_reads (I:Inv X pins σ H s):∀(ds:List PyData) (vs:List V) (us:List Value),Dens X.K H ds vs→Vals vs us→∃as,ReadsAll s.heap us ds as
 | [],vs,us,h,r=>by unfold Dens at h;subst h;cases r;exact ⟨_, .nil⟩
 | d :: ds,vs,us,h,r=>by
  unfold Dens at h
  obtain ⟨v,vr,rfl,h1,h2⟩:=h
  cases r with
  | cons r1 r2=>
   obtain ⟨as,ha⟩:=den_reads I d _ _ h1 r1
   obtain ⟨bs,hb⟩:=dens_reads I ds _ _ h2 r2
   exact ⟨_, .cons ha hb⟩
end
mutual
theorem nodict {K:PySem.W.Frag} {H:Hp} : ∀(d:PyData) (x:V),Den K H d x→d.hasDict=false
 | .none,_,_=>rfl
 | .bool _,_,_=>rfl
 | .int _,_,_=>rfl
 | .str _,_,_=>rfl
 | .list ds,x,h=>by
  unfold Den at h
  obtain ⟨a,vs,_,_,h2⟩:=h
  simp only [PyData.hasDict]
  exact nodicts ds vs h2
 | .tuple ds,x,h=>by
  unfold Den at h
  obtain ⟨a,vs,_,_,h2⟩:=h
  simp only [PyData.hasDict]
  exact nodicts ds vs h2
 | .dict _,x,h=>by unfold Den at h;exact h.elim
theorem nodicts {K:PySem.W.Frag} {H:Hp} : ∀(ds:List PyData) (vs:List V),Dens K H ds vs→PyData.hasDictAll ds=false
 | [],_,_=>rfl
 | d :: ds,vs,h=>by
  unfold Dens at h
  obtain ⟨v,r,_,h1,h2⟩:=h
  simp only [PyData.hasDictAll,nodict d v h1,nodicts ds r h2,Bool.or_false]
end
def rStr (K:PySem.W.Frag):List V→Hp→VK→Prop:=fun xs H Q=>Ex2 fun (x:V) (d:PyData)=>xs=[x]∧Den K H d x∧d.showable=true∧d.depth≤40∧d.shown.length≤sizeLine∧Q (.str (strD d)) H
theorem strK (K:PySem.W.Frag) (hg:X.A.guards=some []) (hu:X.A.units+64<cLine) (hK:X.K=K:=by rfl):CallR X (.type "str") (rStr K):=by
 subst hK
 intro pins s σ H xs us Q I r h
 obtain ⟨x,d,rfl,hd,hs,hp,hz,q⟩:=h
 obtain ⟨u,rfl,ru⟩:=vals1 r
 have nd:=nodict d x hd
 obtain ⟨as,rd⟩:=den_reads I d x u hd ru
 cases d with
 | none=>cases rd;exact PySem.P.str_of_none ⟨.str _,H,I.tok _,⟨_,rfl⟩,q⟩
 | bool b=>cases rd;exact PySem.P.str_of_bool ⟨.str _,H,I.tok _,⟨_,rfl⟩,q⟩
 | int i=>
  cases rd
  refine PySem.P.str_of_int (by simpa [PyData.showable] using hs) ⟨.str _,H,I.tok _,⟨_,rfl⟩,q⟩
 | str y=>cases rd;exact PySem.P.str_of_str ⟨.str _,H,I,⟨_,rfl⟩,q⟩
 | list ds=>
  have hu':∃a,u = .ref a:=by cases rd;exact ⟨_,rfl⟩
  obtain ⟨a,rfl⟩:=hu'
  exact str_of_reads rd hs (fun z=>by rw [nd] at z;cases z) hg (by omega) (fun _ _ e=>e) (fun h' u' tk k=>⟨.str _,H,I.kept k,⟨_,rfl⟩,q⟩) hz
 | tuple ds=>
  have hu':∃a,u = .ref a:=by cases rd;exact ⟨_,rfl⟩
  obtain ⟨a,rfl⟩:=hu'
  exact str_of_reads rd hs (fun z=>by rw [nd] at z;cases z) hg (by omega) (fun _ _ e=>e) (fun h' u' tk k=>⟨.str _,H,I.kept k,⟨_,rfl⟩,q⟩) hz
 | dict _=>unfold Den at hd;exact hd.elim
end
end L2
namespace L2
open PySem PySem.Spec PyProof.Rows
section
variable {prog:Program} {w:World} {K:Type} [DecidableEq K] {knd:PySem.KeyKind prog w K} {A:Around} {E:Value→Shared→Prop} {s:Shared} {a:Addr}
end
end L2
namespace L2
open PySem PySem.Spec PyProof.Rows
section
variable {prog:Program} {w:World} {A:Around} {R:Result→Shared→Prop} {s:Shared}
end
section
end
end L2
namespace L2
open PySem PySem.Spec PyProof.Rows
section
variable {X:Cx}
theorem pe_gstr {x:Str} {z:Str} {t:Tok} {pos:Pos} (hg:Gl X x) (hm:X.mg x=some (.str z t)) (hd:(x == ("__debug__" : Str))=false:=by decide):PE X (.Name x pos) (tC (.str z)):=pe_glob (v := .str z) hg hm ⟨t,rfl⟩ hd
theorem pe_gint {x:Str} {z:Int} {t:Tok} {pos:Pos} (hg:Gl X x) (hm:X.mg x=some (.int z t)) (hd:(x == ("__debug__" : Str))=false:=by decide):PE X (.Name x pos) (tC (.int z)):=pe_glob (v := .int z) hg hm ⟨t,rfl⟩ hd
end
end L2
namespace L2
open PySem PySem.Spec PyProof.Rows
section
variable {X:Cx} (K:PySem.W.Frag)
end
section
variable {X:Cx}
theorem inTxt:OpR X (compareOp .In) (fun x y H Q=>∃a b:Str,x = .str a∧y = .str b∧Q (.bl (Txt.contains b a)) H):=by
 intro pins s σ H x y v u Q I rx ry h
 obtain ⟨a,b,rfl,rfl,q⟩:=h
 obtain ⟨t,rfl⟩:=rx
 obtain ⟨t',rfl⟩:=ry
 exact PySem.P.in_str ⟨.bl _,H,I,rfl,q⟩
end
end L2
namespace L2
open PySem PySem.Spec PyProof.Rows
section
variable {X:Cx} {tg:Expr}
end
end L2
namespace L2
open PySem PySem.Spec PyProof.Rows
section
variable {X:Cx}
def tPar3 (i j k:Nat) (ta:TA):TS:=fun D σ H=>ta σ H fun vs H1=>∃u v w,vs=[u,v,w]∧D.nx (((σ.set i (some u)).set j (some v)).set k (some w)) H1
theorem ps_par3 {i j k:Nat} {x y z:Str} {a b c:Expr} {ta:TA} {px py pz pt pos:Pos} {kt k2 pt2} (hc:X.calm=true) (hN:X.N.Nodup) (hi:X.N[i]? = some x) (hj:X.N[j]? = some y) (hk:X.N[k]? = some z) (hij:i≠j) (hik:i≠k) (hjk:j≠k)
  (hx:X.env.scope.names.lookup x=some .local) (hy:X.env.scope.names.lookup y=some .local) (hz:X.env.scope.names.lookup z=some .local) (ha:PA X [a,b,c] ta)
  (hw:swappedStores [.Tuple [.Name x px, .Name y py, .Name z pz] kt pt] (.Tuple [a,b,c] k2 pt2) X.env=pure (some [x,y,z]))
  (hs:swapsWithSole [.Tuple [.Name x px, .Name y py, .Name z pz] kt pt] (.Tuple [a,b,c] k2 pt2) pos.line X.env=pure false:=by rfl) :
  PS X (.Assign [.Tuple [.Name x px, .Name y py, .Name z pz] kt pt] (.Tuple [a,b,c] k2 pt2) pos) (tPar3 i j k ta):=by
 intro pins s σ H D I h
 rw [exec_Assign_arm]
 refine wpAny_bind (wpAny_standAt ?_)
 rw [hs]
 refine wpAny_bind (wpAny_pure ?_)
 rw [if_neg (by decide)]
 refine wpAny_bind (Tuple_ (thn (ha s σ H _ I h) ?_))
 rintro us s1 ⟨vs,H1,I1,r1,v1,v2,v3,rfl,q1⟩
 cases r1 with
 | cons r1 t1=>cases t1 with
  | cons r2 t2=>cases t2 with
   | cons r3 t3=>
    cases t3
    rename_i u1 u2 u3
    refine wpAny_newObj_type ?_ (by show 3≤sizeLine;decide)
    have I2:Inv X pins σ H1 { s1 with heap:=s1.heap.push { cls := .type "tuple",data := .seq [u1,u2,u3].toArray } }:=I1.kept (t':=s1.toks) fun b o e=>Heap.get?_push_of_some _ e
    rw [hw]
    refine wpAny_bind (wpAny_pure ?_)
    show wpAny (model X.prog X.w) X.A (do rule "assign.swapped-stores";let items ←unpackItems (.ref s1.heap.objs.size) 3 none;assignInOrder [fun v=>bindName X.env z v,fun v=>bindName X.env y v,fun v=>bindName X.env x v] items.reverse;pure Flow.next) _ _ _
    refine wpAny_bind (wpAny_rule (wpAny_bind (unpackItems_tuple (items := #[u1,u2,u3]) (I.ok.hd hc) (IsTup.new s1.heap _) fun h' hx' => ?_)))
    have I3:=I2.kept (h':=h') (t':=s1.toks) fun b o e=>hx' b o (Nat.ne_of_lt (Heap.lt_size e)) e
    show wpAny _ _ (assignInOrder [fun v=>bindName X.env z v,fun v=>bindName X.env y v,fun v=>bindName X.env x v] [u3,u2,u1] >>= fun _=>pure Flow.next) _ _ _
    refine wpAny_bind (assignInOrder_cons (wpAny_bindName (store_ok I3 hN hk (.inl hz) r3 (fun s2 I4 => ?_) (.inr hz))))
    refine assignInOrder_cons (wpAny_bindName (store_ok I4 hN hj (.inl hy) r2 (fun s3 I5 => ?_) (.inr hy)))
    refine assignInOrder_cons (wpAny_bindName (store_ok I5 hN hi (.inl hx) r1 (fun s4 I6=>assignInOrder_nil (wpAny_pure ?_)) (.inr hx)))
    rw [List.set_comm _ _ (Ne.symm hij),List.set_comm _ _ (Ne.symm hik)] at I6
    rw [List.set_comm _ _ (Ne.symm hjk)] at I6
    exact ⟨_,H1,I6,q1⟩
end
end L2
namespace L2
open PySem PySem.Spec PyProof.Rows
section
variable {X:Cx} {K:PySem.W.Frag}
end
end L2
namespace L2
open PySem PySem.Spec PyProof.Rows PySem.W
section
variable {X:Cx} {pins:List (Addr×Obj)} {σ:St} {H:Hp} {s:Shared}
end
section
variable {X:Cx}
end
end L2
namespace L2
open PySem PySem.Spec PyProof.Rows
section
variable {X:Cx}
end
end L2
namespace L2
open PySem PySem.Spec PyProof.Rows
section
variable {X:Cx} {e:Expr} {te:TE} {j p2 p3 p4 pos}
end
end L2
namespace L2
open PySem PySem.Spec PyProof.Rows
theorem PE.weak {X:Cx} {e:Expr} {t t':TE} (h:PE X e t) (w:∀ σ H Q,t' σ H Q→t σ H Q):PE X e t':=fun _ s σ H Q I q=>h s σ H Q I (w σ H Q q)
theorem PA.weak {X:Cx} {es:List Expr} {t t':TA} (h:PA X es t) (w:∀ σ H Q,t' σ H Q→t σ H Q):PA X es t':=fun _ _ s σ H Q I q=>h s σ H Q I (w σ H Q q)
noncomputable def newOf (H H':Hp):Hp:=fun a=>match H a with
 | none=>H' a
 | some _=>none
theorem newOf_none {H H':Hp} {a:Addr} (h:H a=none):newOf H H' a=H' a:=by unfold newOf;rw [h]
theorem of_newOf {H H':Hp} {a:Addr} {o:HO} (h:newOf H H' a=some o):H a=none∧H' a=some o:=by
 unfold newOf at h
 cases e:H a with
 | none=>rw [e] at h;exact ⟨rfl,h⟩
 | some u=>rw [e] at h;cases h
theorem newOf_more {H H1 H2:Hp} (s:Same H1 H2):Same (newOf H H1) (newOf H H2):=fun a o h=>by
 rw [newOf_none (of_newOf h).1];exact s a o (of_newOf h).2
theorem newOf_less {H H1 H2:Hp} (s:Same H H1):Same (newOf H1 H2) (newOf H H2):=fun a o h=>by
 rw [newOf_none (s.free (of_newOf h).1)];exact (of_newOf h).2
def tLit (K:PySem.W.Frag) (d:PyData):TE:=fun _ H Q=>∀v H',Same H H'→Den K (newOf H H') d v→Q v H'
noncomputable def tLits (K:PySem.W.Frag) (ds:List PyData):TA:=fun _ H Q=>∀vs H',Same H H'→Dens K (newOf H H') ds vs→Q vs H'
section
variable {X:Cx} {K:PySem.W.Frag}
theorem lit_str {x:Str} {j pos} : PE X (.Constant (.str x) j pos) (tLit K (.str x)):=pe_str.weak fun σ H Q h=>h _ H (Same.refl _) (by unfold Den;rfl)
theorem lits_nil:PA X [] (tLits K []):=pa_nil.weak fun σ H Q h=>h [] H (Same.refl _) (by unfold Dens;rfl)
theorem lits_cons {e:Expr} {es:List Expr} {d:PyData} {ds:List PyData} (h:PE X e (tLit K d)) (hs:PA X es (tLits K ds)) (hst:starEach (e :: es) X.env=(false,eval e X.env) :: starEach es X.env:=by rfl):PA X (e :: es) (tLits K (d :: ds)):=
 (pa_cons h hs hst).weak fun σ H Q q v H1 s1 d1 vs H2 s2 d2=>q (v :: vs) H2 (s1.trans s2) (by
  unfold Dens
  exact ⟨v,vs,rfl,d1.same (newOf_more s2),d2.same (newOf_less s1)⟩)
theorem lens_of {K:PySem.W.Frag} {H:Hp} : ∀{ds:List PyData} {vs:List V},Dens K H ds vs→vs.length=ds.length
 | [],_,h=>by unfold Dens at h;subst h;rfl
 | d :: ds,vs,h=>by
  unfold Dens at h
  obtain ⟨v,r,rfl,h1,h2⟩:=h
  rw [List.length_cons,List.length_cons,lens_of h2]
end
structure CDict (K:PySem.W.Frag) (w:World) (a:Addr):Prop where
 ex:∃es n,K.lookup a=some ⟨.type "dict",none, .dict es n, #[]⟩∧PySem.W.KeysLit w.params es.toList
def tCGet (K:PySem.W.Frag) (w:World) (td ty:TE):TE:=fun σ H Q=>td σ H fun x H1=>ty σ H1 fun y H2=>∃a k u v,x = .ref a∧y = .str k∧CDict K w a∧PySem.W.nsIn K a k=some (some u)∧RelV v u∧Q v H2
section
variable {X:Cx} {o i:Expr} {td ty:TE} {pos:Pos}
theorem pe_cget (K:PySem.W.Frag) (w:World) (ho:PE X o td) (hi:PE X i ty) (hs:NoSl i) (hK:X.K=K:=by rfl) (hw:X.w=w:=by rfl):PE X (.Subscript o i pos) (tCGet K w td ty):=by
 subst hK hw
 intro pins s σ H Q I h
 refine subD_of PySem.F.slot_dict_getitem.lookup hs (thn (ho s σ H _ I h) fun u s1 hz_=>Elim.el hz_ _ fun x H1 I1 rx q1=>thn (hi s1 σ H1 _ I1 q1) fun iv s2 hz_ => ?_)
 refine Elim.el hz_ _ ?_
 clear hz_
 rintro y H2 I2 ry ⟨a,k,u',v,ex,ey,cd,e,rv,q2⟩
 subst ex ey
 obtain rfl:u=Value.ref a:=rx
 obtain ⟨t,rfl⟩:=ry
 obtain ⟨es,n,hl,hk⟩:=cd.ex
 have hm:=PySem.W.mapOf_K (prog:=X.prog) I2.kIn hl hk
 exact ⟨hm.typeIs,wpAny_getItem_of (strKind_is X.prog X.w k t) hm (PySem.W.find_K hl e) ⟨v,H2,I2.tok _,rv,q2⟩⟩
end
noncomputable def inD (d:PyData) (ds:List PyData):Bool:=ds.any fun e=>PyData.eqv e d
def rInD (K:PySem.W.Frag) (neg:Bool):R2:=fun x y H Q=>Ex4 fun p xs d ds=>y = .ref p∧(SqL K H p xs∨SqT K H p xs)∧Den K H d x∧Dens K H ds xs∧d.canLay0=true∧(∀e∈ds,SeqAt.shaped e=true)∧Q (.bl (if neg then !inD d ds else inD d ds)) H
section
variable {X:Cx} {pins:List (Addr×Obj)} {σ:St} {H:Hp} {s:Shared}
open Classical in
noncomputable def answ (h:Heap) (d:PyData) (u:Value):Bool:=if hd:∃e as,Reads h u e as∧e.canLay0=true∧e.depth≤64 then PyData.eqv hd.choose d else false
theorem eqAt_data (hu:X.A.units+66<cLine) (I:Inv X pins σ H s) {d:PyData} {x:V} {v:Value} (hd:Den X.K H d x) (rx:RelV x v) (hc:d.canLay0=true) {e:PyData} {y:V} {u:Value} (he:Den X.K H e y) (ry:RelV y u) (hs:SeqAt.shaped e=true) :
  SeqAt.EqAt X.A.in1 s u v (PyData.eqv e d):=by
 obtain ⟨as,ra⟩:=hd.reads I rx
 obtain ⟨bs,rb⟩:=he.reads I ry
 have hdp:=SeqAt.depth_of_shaped hs
 refine SeqAt.eqAt_reads e d X.A.in1 s u v bs as rb ra (SeqAt.canLay_of_shaped hs) hc ?_
 have:X.A.in1.units=X.A.units+1:=rfl
 have:min e.depth d.depth≤e.depth:=Nat.min_le_left _ _
 omega
theorem answ_of (hu:X.A.units+66<cLine) (I:Inv X pins σ H s) {d:PyData} {x:V} {v:Value} (hd:Den X.K H d x) (rx:RelV x v) (hc:d.canLay0=true):∀{ds:List PyData} {xs:List V} {us:List Value},Dens X.K H ds xs→Vals xs us→(∀e∈ds,SeqAt.shaped e=true) →
  ∃f:Value→Bool,(∀u∈us,SeqAt.EqAt X.A.in1 s u v (f u))∧us.any f=inD d ds:=by
 intro ds xs us h r hs
 refine ⟨answ s.heap d,?_⟩
 induction ds generalizing xs us with
 | nil=>unfold Dens at h;subst h;cases r;exact ⟨(fun u hu=>nomatch hu),rfl⟩
 | cons e ds ih=>
  unfold Dens at h
  obtain ⟨y,ys,rfl,h1,h2⟩:=h
  cases r with
  | @cons _ u _ us r1 r2=>
   obtain ⟨g1,g2⟩:=ih h2 r2 fun e he=>hs e (List.mem_cons_of_mem _ he)
   have hse:=hs e List.mem_cons_self
   obtain ⟨bs,rb⟩:=h1.reads I r1
   have hex:∃e as,Reads s.heap u e as∧e.canLay0=true∧e.depth≤64:=⟨e,bs,rb,SeqAt.canLay_of_shaped hse,SeqAt.depth_of_shaped hse⟩
   have ea:answ s.heap d u=PyData.eqv hex.choose d:=by unfold answ;rw [dif_pos hex]
   have eqc:hex.choose=e:=SeqAt.Reads.unique _ _ _ _ _ hex.choose_spec.choose_spec.2.1 hex.choose_spec.choose_spec.1 rb
   refine ⟨fun u' hu' => ?_,?_⟩
   ·rcases List.mem_cons.mp hu' with rfl|hu'
    ·rw [ea,eqc];exact eqAt_data hu I hd rx hc h1 r1 hse
    ·exact g1 u' hu'
   ·rw [List.any_cons,g2,ea,eqc];rfl
end
section
variable {X:Cx}
theorem in_dat (hu:X.A.units+66<cLine):OpR X (compareOp .In) (rInD X.K false):=by
 intro pins s σ H x y v u Q I rx ry h
 obtain ⟨p,xs,d,ds,rfl,hq,hd,hds,hc,hs,q⟩:=h
 cases ry
 rcases hq with hq|hq
 ·obtain ⟨its,r,pl,hz⟩:=I.list hq
  obtain ⟨f,g1,g2⟩:=answ_of hu I hd rx hc hds r hs
  refine SeqAt.in_listAt f pl.isList (fun w hw=>g1 w (by simpa using hw)) ⟨.bl _,H,I,rfl,?_⟩
  rw [show its.toArray.any f=its.any f by simp,g2]
  exact q
 ·obtain ⟨its,r,pl,hz⟩:=I.tuple hq
  obtain ⟨f,g1,g2⟩:=answ_of hu I hd rx hc hds r hs
  refine SeqAt.in_tupleAt f pl (fun w hw=>g1 w (by simpa using hw)) ⟨.bl _,H,I,rfl,?_⟩
  rw [show its.toArray.any f=its.any f by simp,g2]
  exact q
theorem notin_dat (hu:X.A.units+66<cLine):OpR X (compareOp .NotIn) (rInD X.K true):=by
 intro pins s σ H x y v u Q I rx ry h
 obtain ⟨p,xs,d,ds,rfl,hq,hd,hds,hc,hs,q⟩:=h
 cases ry
 rcases hq with hq|hq
 ·obtain ⟨its,r,pl,hz⟩:=I.list hq
  obtain ⟨f,g1,g2⟩:=answ_of hu I hd rx hc hds r hs
  refine SeqAt.notIn_listAt f pl.isList (fun w hw=>g1 w (by simpa using hw)) ⟨.bl _,H,I,rfl,?_⟩
  rw [show its.toArray.any f=its.any f by simp,g2]
  exact q
 ·obtain ⟨its,r,pl,hz⟩:=I.tuple hq
  obtain ⟨f,g1,g2⟩:=answ_of hu I hd rx hc hds r hs
  refine SeqAt.notIn_tupleAt f pl (fun w hw=>g1 w (by simpa using hw)) ⟨.bl _,H,I,rfl,?_⟩
  rw [show its.toArray.any f=its.any f by simp,g2]
  exact q
theorem inDK (K:PySem.W.Frag) (hu:X.A.units+66<cLine) (hK:X.K=K:=by rfl):OpR X (compareOp .In) (rInD K false):=by subst hK;exact in_dat hu
theorem notInDK (K:PySem.W.Frag) (hu:X.A.units+66<cLine) (hK:X.K=K:=by rfl):OpR X (compareOp .NotIn) (rInD K true):=by subst hK;exact notin_dat hu
end
section
variable {X:Cx}
def rSlTN (K:PySem.W.Frag):V→Option Int→Option Int→Hp→VK→Prop:=fun x lo hi H Q=>Ex2 fun a xs=>x = .ref a∧SqT K H a xs ∧
 ¬(HT.sIx xs.length 0 lo=0∧HT.sIx xs.length xs.length hi=xs.length)∧∀p H',New H p (.tup (cutV xs lo hi)) H'→Q (.ref p) H'
theorem slTN (K:PySem.W.Frag) (hK:X.K=K:=by rfl):SlR X (rSlTN K):=by
 subst hK
 intro pins s σ H x v vl vu lo hi sl Q I rx hs pl pu q
 refine sl_tup s σ H x v vl vu lo hi sl Q I rx hs pl pu ?_
 obtain ⟨a,xs,e,h,nw,q⟩:=q
 exact ⟨a,xs,e,h,nw,fun p hp=>q p _ ⟨hp,rfl⟩⟩
end
theorem sqt_mk {K:PySem.W.Frag} {a:Addr} {dd:Option Addr} {its:List Value} {n:Nat} {sl:Array (Option Value)} {xs:List V} (h:K.lookup a=some ⟨.type "tuple",dd, .seq its.toArray n,sl⟩) (hv:Vals xs its) (hz:xs.length≤1000) (H:Hp):SqT K H a xs:=
 .inr ⟨_,its.toArray,n,h,rfl,rfl,Nat.le_trans (by rw [List.size_toArray, ←hv.length];exact hz) (show 1000≤sizeLine by decide),by simpa using hv⟩
theorem hu66_of {k:Nat} {A:Around} (r:Room k A):A.units+66<cLine:=by have:=r.un;omega
def tLitL (K:PySem.W.Frag) (ds:List PyData):TE:=fun _ H Q=>∀p vs H',Same H H'→newOf H H' p=some (.lst vs)→Dens K (newOf H H') ds vs→Q (.ref p) H'
theorem lit_lstO {X:Cx} {K:PySem.W.Frag} {es:List Expr} {ds:List PyData} {pos:Pos} (h:PA X es (tLits K ds)) (hl:ds.length≤1000:=by decide):PE X (.List es pos) (tLitL K ds):=
 (lstN h).weak fun σ H Q q vs H1 s1 d1=>⟨Nat.le_trans (by rw [lens_of d1];exact hl) (show 1000≤sizeLine by decide),fun p H' n=>q p vs H' (s1.trans n.same) (by rw [newOf_none (s1.free n.nn)];exact n.at) (d1.same (newOf_more n.same))⟩
theorem pe_fn0 {X:Cx} {k:Nat} {x:Str} {ps:List Str} {sp:Sp} {p pos:Pos} (F:Fn X.prog X.w X.K X.mg X.base k x ps sp) (hr:Room k X.A) (hg:Gl X x) (hdb:(x == ("__debug__" : Str))=false:=by decide) :
  PE X (.Call (.Name x p) [] [] pos) (tCall sp [] E0 tNil):=by
 obtain ⟨f,fd,a,b,c,d⟩:=F.ex
 exact pe_call0 a hr hg d c b .nil pass0 hdb
end L2
namespace L2
open PySem PySem.Spec PyProof.Rows PySem.W PySem.Calls Builtin Builtin.ObjectAttr
noncomputable abbrev tailVE:List Value:=[.type "ValueError", .type "Exception", .type "BaseException", .type "object"]
structure ExcSt (K:Frag) (C:Addr) (f:Str):Prop where
 sa:findIn K (.ref C) "__setattr__" = some (some (.builtin "object.__setattr__"))
 na:findIn K (.ref C) f=some none
 mo:mroIn K C (.type "object")=some true
 cl:∃cd D,clsIn K C=some cd∧cd.mro = .ref C :: .ref D :: tailVE∧cd.hasDict=true
def Raw (o:Obj):Prop:=∃t,o.data = .fields #[.ref t, .none, .none, .none, .bool false, .none]
theorem Raw.nc {o:Obj} (h:Raw o):notCls o=true:=by
 obtain ⟨_,_,dt,_⟩:=o
 obtain ⟨t,h⟩:=h
 cases h;rfl
noncomputable def excN (e C:Addr):HO := .ext fun h=>∃o,h.get? e=some o∧o.cls = .ref C∧o.dict=none∧Raw o
noncomputable def excF (e C dx:Addr):HO := .ext fun h=>∃o,h.get? e=some o∧o.cls = .ref C∧o.dict=some dx∧Raw o
section
variable {prog:Program} {w:World} {A:Around} {K:Frag} {C e:Addr} {s:Shared} {E:Value→Shared→Prop} {f:Str} {v:Value}
theorem exc_store {o:Obj} {Q:Unit→Shared→Prop} (X:K.In s.heap) (O:ExcSt K C f) (hx:s.heap.get? e=some o) (hc:o.cls = .ref C) (hd:o.dict=none) (hn:notCls o=true)
  (k:∀h' tk,h'.get? e=some { o with dict:=some s.heap.objs.size } → h'.Ns1 s.heap.objs.size (fun y=>if y=f then some v else none)→(∀b ob,b≠e→s.heap.get? b=some ob→h'.get? b=some ob)→Q () { s with heap:=h',toks:=tk }) :
  wpAny (model prog w) A (setAttr (.ref e) f v) Q E s:=by
 have J:InstAt s.heap e o C none:=⟨hx,hc,hn,by rw [hd];trivial⟩
 refine Elim.el (O.cl) _ ?_
 rintro cd D c1 c2 c3
 have SF:=PySem.F.store_object
 have top:Looks (model prog w) s.heap (isInstance (.ref e) (.type "object")) true:=J.type.andThen (looks_mroIn X O.mo)
 have mros:Looks (model prog w) s.heap (mroOf (.ref C)) cd.mro:=(looks_clsIn X c1).andThen .now
 refine set_plain X J O.sa ?_
 refine codeAny_call_builtin SF.slot.plain SF.entry ?_
 refine @check_slot (model prog w) _ _ { s with toks:=s.toks+1 } "object.__setattr__" "object" "__setattr__" (.ref e) [.str f s.toks,v] [] _ SF.kind SF.split top (SF.args (.ref e) (.str f s.toks) v) ?_
 rw [osa_eq,refuse_eq]
 refine wpAny_bind (wpAny_bind (J.type.here (s:={ s with toks:=s.toks+1 }) (wpAny_bind (mros.here (s:={ s with toks:=s.toks+1 }) ?_))))
 rw [c2,refuseLoop_ref,refuseLoop_ref,PySem.F.store_ValueError.passes]
 refine wpAny_pure (wpAny_bind (J.type.here (s:={ s with toks:=s.toks+1 }) ?_))
 refine wpAny_bind ((looks_findIn X O.na).here (s:={ s with toks:=s.toks+1 }) ?_)
 refine wpAny_bind (wpAny_pure ?_)
 show wpAny _ _ (storeInOwnDict (.ref e) (.ref C) (.str f s.toks) f v false) _ _ _
 obtain ⟨oc,od,odt,osl⟩:=o
 dsimp only at hc hd
 subst hc hd
 have hfr:=(Heap.get?_some_iff.mp hx).2
 have hes:e≠s.heap.objs.size:=Nat.ne_of_lt (Heap.lt_size hx)
 refine wpAny_bind (wpAny_pure (wpAny_bind ?_))
 show wpAny _ _ (instanceDict e true) _ _ _
 unfold instanceDict
 refine wpAny_bind (wpAny_loadPart hx ?_)
 refine wpAny_bind ((looks_clsIn X c1).here (s:={ s with toks:=s.toks+1 }) ?_)
 rw [c3]
 dsimp only
 rw [if_neg (by decide),if_neg (by simp [typeHasDict])]
 split
 ·rename_i c
  exact absurd hn (by simp [notCls])
 have hx1:(s.heap.push { cls := .type "dict",data := .dict #[] }).get? e=some ⟨.ref C,none,odt,osl⟩:=Heap.get?_push_of_some _ hx
 refine wpAny_bind (wpAny_alloc' ?_)
 refine wpAny_bind (wpAny_update' hx1 ?_)
 refine wpAny_pure ?_
 obtain ⟨G,hG⟩:∃G,G=(s.heap.push { cls := .type "dict",data := .dict #[] }).update e fun o=>{ cls:=o.cls,dict:=some s.heap.objs.size,data:=o.data,slots:=o.slots }:=⟨_,rfl⟩
 have gd:G.get? s.heap.objs.size=some { cls := .type "dict",data := .dict #[] }:=by
  rw [hG]
  exact (Heap.get?_update_ne _ _ _ _ hes.symm).trans (Heap.get?_push_at rfl rfl)
 have ge:G.get? e=some ⟨.ref C,some s.heap.objs.size,odt,osl⟩:=by
  rw [hG]
  refine Heap.get?_update_self _ hx1 ?_
  cases odt <;> first|rfl|exact hfr
 have go:∀b ob,b≠e→s.heap.get? b=some ob→G.get? b=some ob:=fun b ob nb q=>by
  rw [hG]
  exact (Heap.get?_update_ne _ _ _ _ nb).trans (Heap.get?_push_of_some _ q)
 have ns0:G.Ns s.heap.objs.size (fun _=>none):=⟨_, #[],_,gd,rfl,(fun a ha=>absurd ha (by simp)),fun _=>rfl⟩
 rw [←hG]
 show wpAny _ _ (storeInDict s.heap.objs.size (.str f s.toks) f v) _ _ _
 unfold storeInDict newKeyGuard
 refine wpAny_bind (wpAny_pure (wpAny_bind (wpAny_nsSet1 (Heap.Ns1.of_empty ns0) fun h2 ns2 sb => ?_)))
 refine Elim.el (ns2.count (Within.cons f v Within.nil)) _ ?_
 rintro oD eD pD hoD dD cD
 refine wpAny_bind (wpAny_lookBehind hoD ?_ ?_)
 ·rw [dD]
  refine pastItsLine_dict (Nat.le_trans cD ?_)
  rw [List.length_cons,List.length_nil,sizeLine_eq]
  omega
 exact wpAny_pure (k h2 _ ((sb.2 e hes).trans ge) ns2 fun b ob nb q=>(sb.2 b (Nat.ne_of_lt (Heap.lt_size q))).trans (go b ob nb q))
theorem exc_load {o od:Obj} {dx:Addr} {Q:Value→Shared→Prop} (X:K.In s.heap) (O:ExcOk K C) (S:ExcSt K C f) (hx:s.heap.get? e=some o) (hc:o.cls = .ref C) (hd:o.dict=some dx) (hn:notCls o=true) (ho:s.heap.get? dx=some od)
  (hl:lookIn f od=some (some v)) (hv:handedIn v=true) (k:Q v { s with toks:=s.toks+1 }):wpAny (model prog w) A (getAttr (.ref e) f true) Q E s:=by
 have J:InstAt s.heap e o C (some od):=⟨hx,hc,hn,by rw [hd];exact ho⟩
 have p:ExcAt e C s.heap:=⟨o,hx,hc⟩
 refine Elim.el (S.cl) _ ?_
 rintro cd D c1 c2 c3
 have fo:findObj K C (some od) f=some (.value v):=by
  unfold findObj PySem.W.ownOf
  simp only [c1,S.na,Option.bind_some,c3,if_true,hl]
 obtain ⟨hh,g,dr,t,os⟩:=s
 have T0:=exc_type (M:=model prog w) p
 have T1:=looks_findIn (M:=model prog w) X O.ga
 have T2:=looks_findIn (M:=model prog w) X O.gt
 have T3:=looks_find (M:=model prog w) X J fo
 have f3:=F.attr_ValueError.ga.bind (.ref e)
 unfold getAttr getAttrBy
 refine wpAny_bind (wpAny_mkText (wpAny_holding ?_))
 refine wpAny_bind (T0.at (wpAny_bind (T1.at ?_)))
 show wpAny _ _ (getAttrByItsOwn _ _ _ _ _ _) _ _ _
 unfold getAttrByItsOwn
 refine wpAny_bind ?_
 show wpAny _ _ (typeLookup (.ref C) "__getattr__") _ _ _
 refine T2.at (wpAny_bind (wpAny_attempt (wpAny_holding ?_)))
 show wpAny _ _ (boundAndCalled _ _ _) _ _ _
 unfold boundAndCalled
 rw [f3]
 refine wpAny_bind (wpAny_pure (wpAny_call (codeAny_call_builtin F.attr_ValueError.ga.plain F.entry_bexc_ga (exc_check (s:=⟨hh,g,dr,t+1,os⟩) X O p ?_))))
 unfold Builtin.«object.__getattribute__»
 refine wpAny_bind (wpAny_pure (wpAny_bind (wpAny_pure (wpAny_bind (T0.at (wpAny_bind (T3.at ?_)))))))
 exact wpAny_pure (handed_on hv k)
end
section
variable {prog:Program} {w:World} {A:Around} {E:Value→Shared→Prop} {h0:Heap} {g0:Array GenState} {d0:Drawn} {t0:Nat} {os0:OsState} {nm qn:Str} {C N fi:Addr} {bs up tail:List Value} {hdct:Bool} {sn:List Str} {sub:List Value} {ab:Bool}
 {col:Option Bool} {dd:Option Addr} {k0 k1 k2 k3 k5:Option Value} {B newId initId:String}
theorem xcls_call (FB:ExcBaseFacts B newId initId tail) (TL:OwnTail h0 tail up) {vs:List Value} {oi:Obj} {Q:Fin→Shared→Prop}
  (hcl:h0.get? C=some (excClassObj nm qn C N bs up hdct sn sub ab col dd k0 k1 k2 k3 k5 newId)) (hin:∀h1:Heap,(∀b o,h0.get? b=some o→h1.get? b=some o)→Looks (model prog w) h1 (typeLookup (.ref C) "__init__") (some (.ref fi))) (hfi:h0.get? fi=some oi) (hfk:oi.cls = .type "function") (fit:vs.length≤sizeLine)
  (run:∀h' e,Heap.MadeExcOf h0 h' e (.ref C) vs→wpAny (model prog w) A (call (.ref fi) (.ref e :: vs)) (fun r s'=>r = .none∧Q (.done (.ret (.ref e))) s') E ⟨h',g0,d0,t0,os0⟩) :
  wpAny (model prog w) A (Builtin.«type.__call__» ⟨.ref C :: vs,[]⟩) Q E ⟨h0,g0,d0,t0,os0⟩:=by
 repeat (first
  | with_reducible refine wpAny_loadPart_at hcl ?_
  | with_reducible refine wpAny_madeBy_exc hcl ?_
  | wp_step)
 refine codeAny_call_builtin_code (Code.quiet_builtin _ FB.quiet) ?_
 refine wpAny_check_new_subT FB TL hcl ?_
 refine codeAny_exc_new_subT FB TL hcl ?_ fit
 show wpAny _ _ _ _ _ _
 obtain ⟨H1,e1⟩:∃H1,H1=(h0.push { cls := .type "tuple",data := .seq vs.toArray }).push { cls := .ref C,data := .fields #[.ref h0.objs.size, .none, .none, .none, .bool false, .none] }:=⟨_,rfl⟩
 have kp:∀b o,h0.get? b=some o→H1.get? b=some o:=fun b o z=>by
  rw [e1]
  exact Heap.get?_push_of_some _ (Heap.get?_push_of_some _ z)
 have me:H1.get? (h0.objs.size+1)=some { cls := .ref C,data := .fields #[.ref h0.objs.size, .none, .none, .none, .bool false, .none] }:=by
  rw [e1]
  heap_get
 have mt:H1.get? h0.objs.size=some { cls := .type "tuple",data := .seq vs.toArray }:=by
  rw [e1]
  exact Heap.get?_push_of_some _ (Heap.get?_push_at rfl rfl)
 rw [←e1]
 have hcl1:=kp _ _ hcl
 have self:(Value.ref C :: up).contains (.ref C)=true:=by simp
 unfold isInstance
 repeat (first
  | with_reducible refine wpAny_loadPart_at me ?_
  | (with_reducible refine wpAny_isSubtype_exc hcl1 ?_;rw [self])
  | wp_step)
 show wpAny _ _ (typeLookup (.ref C) _) _ _ _
 refine (hin H1 kp).at ?_
 refine wpAny_holding (wpAny_bind ?_)
 unfold bindSpecial
 refine wpAny_bind (wpAny_typeOf (T := "function") ⟨_,kp _ _ hfi,hfk⟩ ?_)
 rw [if_pos (by decide)]
 have made:Heap.MadeExcOf h0 H1 (h0.objs.size+1) (.ref C) vs:=⟨kp,Heap.get?_none_of_le (Nat.le_succ _),h0.objs.size,me,Heap.get?_none_of_le (Nat.le_refl _),mt⟩
 refine wpAny_pure (wpAny_bind (wpAny_mono (run H1 _ made) (fun r s' hr => ?_) fun _ _ x=>x))
 obtain ⟨rfl,q⟩:=hr
 wp_walk
 exact q
theorem xcall (FB:ExcBaseFacts B newId initId tail) (TL:OwnTail h0 tail up) {vs:List Value} {oi:Obj} {Q:Value→Shared→Prop}
  (hcl:h0.get? C=some (excClassObj nm qn C N bs up hdct sn sub ab col dd k0 k1 k2 k3 k5 newId)) (hin:∀h1:Heap,(∀b o,h0.get? b=some o→h1.get? b=some o)→Looks (model prog w) h1 (typeLookup (.ref C) "__init__") (some (.ref fi))) (hfi:h0.get? fi=some oi) (hfk:oi.cls = .type "function") (fit:vs.length≤sizeLine)
  (run:∀h' e,Heap.MadeExcOf h0 h' e (.ref C) vs→wpAny (model prog w) (A.under (.builtin "type.__call__" ⟨.ref C :: vs,[]⟩)) (call (.ref fi) (.ref e :: vs)) (fun r s'=>r = .none∧Q (.ref e) s') E ⟨h',g0,d0,t0,os0⟩) :
  wpAny (model prog w) A (call (.ref C) vs) Q E ⟨h0,g0,d0,t0,os0⟩:=by
 have b1:=tc_lookup
 have b2:=tc_bind (.ref C)
 have ty:(⟨h0,g0,d0,t0,os0⟩:Shared).TypeIs (.ref C) "type":=⟨_,hcl,rfl⟩
 refine wpAny_call (codeAny_of_tree ?_)
 show wpAny _ _ (callAny (.ref C) _) _ _ _
 repeat (any_goals (first
  | assumption
  | with_reducible refine wpAny_loadPart_at hcl ?_
  | wp_step))
 refine ⟨rfl,codeAny_call_builtin_at (Code.quiet_builtin _ (by decide +kernel)) entry_typeCall ?_⟩
 exact wpAny_check_type_call_sub hcl (xcls_call FB TL hcl hin hfi hfk fit fun h' e m=>run h' e m)
end
section
variable {X:Cx} {pins:List (Addr×Obj)} {σ:St} {H:Hp} {s:Shared} {e C:Addr}
theorem excN_ok {P:Program} {w:World} {H:Hp} {h:Heap} {o:Obj} (h1:h.get? e=some o) (h2:o.cls = .ref C) (h3:o.dict=none) (h4:Raw o):ObjOk P w H h e (excN e C):=
 ⟨⟨o,h1,h2,h3,h4⟩,⟨o,h1⟩,fun a b ⟨o,e1,r⟩ k=>⟨o,k _ e1,r⟩⟩
theorem excF_ok {P:Program} {w:World} {H:Hp} {h:Heap} {o:Obj} {dx:Addr} (h1:h.get? e=some o) (h2:o.cls = .ref C) (h3:o.dict=some dx) (h4:Raw o):ObjOk P w H h e (excF e C dx):=
 ⟨⟨o,h1,h2,h3,h4⟩,⟨o,h1⟩,fun a b ⟨o,e1,r⟩ k=>⟨o,k _ e1,r⟩⟩
theorem Inv.noObj (I:Inv X pins σ H s) (h:s.heap.get? e=none):H e=none:=by
 cases z:H e with
 | none=>rfl
 | some o=>obtain ⟨q,hq⟩:=(I.hok e o z).ex;rw [hq] at h;cases h
theorem Inv.madeE {h':Heap} {us:List Value} {tk:Nat} (I:Inv X pins σ H s) (m:Heap.MadeExcOf s.heap h' e (.ref C) us) (hex:X.ex=[]):Inv X pins σ (upd H e (excN e C)) { s with heap:=h',toks:=tk }:=by
 obtain ⟨k,ne,t0,me,nt,mt⟩:=m
 have I2:Inv X pins σ H { s with heap:=h',toks:=tk }:=I.kept k
 have hs:∀b o,s.heap.get? b=some o→b≠e:=fun b o q z=>by rw [z,ne] at q;cases q
 refine I2.adoptE (I.noObj ne) (fun z => ?_) (fun x c q => ?_) (fun p hp => ?_) (fun b u q => ?_) (excN_ok me rfl rfl ⟨_,rfl⟩)
 ·obtain ⟨m,⟨oL,_,_,q,_⟩,_⟩:=I.loc
  exact hs _ _ q z.symm
 ·obtain ⟨v,o,e1,_⟩:=I.cell x c q
  exact hs _ _ e1
 ·exact hs _ _ (I.pin p hp).1
 ·obtain ⟨o',q'⟩:=I.base.there b u q (by rw [hex];exact fun z=>nomatch z)
  exact hs _ _ q'
structure XMk (K:Frag) (C fi:Addr):Prop where
 cl:∃nm qn N bs D hdct sn sub ab col dd k0 k1 k2 k3 k5,K.lookup C=some (excClassObj nm qn C N bs (.ref D :: tailVE) hdct sn sub ab col dd k0 k1 k2 k3 k5 "ValueError.__new__")∧∀h:Heap,K.In h→OwnTail h tailVE (.ref D :: tailVE)
 ini:findIn K (.ref C) "__init__" = some (some (.ref fi))
 fn:∃oi:Obj,K.lookup fi=some oi∧oi.cls = .type "function"
 kp:keepIn K (.ref C)=true
def tXMake (C:Addr) (sp:Sp) (t:TA):TE:=fun σ H Q=>t σ H fun vs H1=>vs.length≤1000∧∀e,H1 e=none→sp (.ref e :: vs) (upd H1 e (excN e C)) (fun v H2=>v = .non∧Q (.ref e) H2) E0
theorem run_xmake {k:Nat} {fi:Addr} {fd:FuncData} {ps:List Str} {sp:Sp} {Q:VK} {us:List Value} {vs:List V} (M:XMk X.K C fi) (F:FnOk X.prog X.w X.K X.mg X.base CX0 k fi fd ps sp) (hr:Room (k+1) X.A) (hb:Binds X.K fd ps []) (hex:X.ex=[])
  (I:Inv X pins σ H s) (r:Vals vs us) (hl:vs.length≤1000) (h:∀e,H e=none→sp (.ref e :: vs) (upd H e (excN e C)) (fun v H2=>v = .non∧Q (.ref e) H2) E0):wpAny (model X.prog X.w) X.A (call (.ref C) us) (EP X pins σ Q) X.xe s:=by
 refine Elim.el (M.cl) _ ?_
 rintro nm qn N bs D hdct sn sub ab col dd k0 k1 k2 k3 k5 lk TL
 refine Elim.el (M.fn) _ ?_
 rintro oi l2 ft
 have kin:=I.kIn
 refine xcall (h0:=s.heap) (g0:=s.gens) (d0:=s.drawn) (t0:=s.toks) (os0:=s.os) PySem.F.excBase_ValueError (TL _ kin) (kin _ _ lk) (fun h1 kp=>looks_findIn (fun a o z=>kp a o (kin a o z)) M.ini) (kin _ _ l2) ft (by rw [←r.length];exact Nat.le_trans hl (by decide)) fun h' e m => ?_
 have I2:Inv X pins σ (upd H e (excN e C)) { s with heap:=h',toks:=s.toks }:=I.madeE m hex
 have hq:=h e (I.noObj m.2)
 have r2:Vals (V.ref e :: vs) (Value.ref e :: us) := .cons rfl r
 have hlen:(Value.ref e :: us).length=ps.length:=by rw [←r2.length];exact F.len _ _ _ _ hq
 have hb2:=hb { s with heap:=h',toks:=s.toks } (Value.ref e :: us) I2.kIn (by rw [List.append_nil];exact hlen)
 rw [List.append_nil] at hb2
 refine wpAny_call (codeAny_mono (F.run _ X.stack { s with heap:=h',toks:=s.toks } _ ⟨Value.ref e :: us,[]⟩ (Value.ref e :: us) _ _ E0 (hr.make C us []) (I2.env0.make C us []) hb2 r2 hq) fun rr s' hq' => ?_)
 cases rr with
 | error x=>exact hq'.elim
 | ok fl=>
  cases fl with
  | ret u=>
   obtain ⟨v,H',I3,rv,ev,q3⟩:=I2.after hq'
   subst ev
   exact ⟨rv,⟨V.ref e,H',I3,rfl,q3⟩⟩
  | next=>exact hq'.elim
  | brk=>exact hq'.elim
  | cont=>exact hq'.elim
theorem pe_xmake {k:Nat} {fi:Addr} {fd:FuncData} {ps:List Str} {sp:Sp} {x:Str} {p pos:Pos} {a:Expr} {as:List Expr} {t:TA} (M:XMk X.K C fi) (F:FnOk X.prog X.w X.K X.mg X.base CX0 k fi fd ps sp) (hr:Room (k+1) X.A) (hg:Gl X x) (hm:X.mg x=some (.ref C))
  (hb:Binds X.K fd ps []) (ha:PA X (a :: as) t) (hex:X.ex=[]:=by rfl) (hdb:(x == ("__debug__" : Str))=false:=by decide) (he:starEach (a :: as) X.env=(false,eval a X.env) :: starEach as X.env:=by rfl) (hpl:(backTo pos (starEach as X.env)).any (·.1)=false:=by rfl) :
  PE X (.Call (.Name x p) (a :: as) [] pos) (tXMake C sp t):=by
 intro pins s σ H Q I h
 refine wpAny_Call_Name_kw (ld_glob I hg hm ?_ hdb)
 refine PySem.W.callWith_K (h₀:=X.base) I.ok.mod.kin M.kp (thn (ha s σ H _ I h) fun us s1 hz_=>Elim.el hz_ _ fun vs H1 I1 r q=>⟨I1.kIn,?_⟩) he hpl
 exact run_xmake M F hr hb hex I1 r q.1 q.2
def sXFld (K:Frag) (to tv:TE) (f:Str):TS:=fun D σ H=>tv σ H fun v H1=>to σ H1 fun x H2=>∃e C,x = .ref e∧H2 e=some (excN e C)∧ExcSt K C f∧∀dx,H2 dx=none→dx≠e→D.nx σ (upd (upd H2 e (excF e C dx)) dx (.xd [(f,v)]))
theorem ps_xfld {o value:Expr} {f:Str} {to tv:TE} {pos pos':Pos} (ho:PE X o to) (hv:PE X value tv) (hs:swapsWith value (some (.Attribute o f pos')) pos.line X.env=pure false):PS X (.Assign [.Attribute o f pos'] value pos) (sXFld X.K to tv f):=by
 intro pins s σ H D I h
 refine plainObj_wpAny_Assign_Attribute (thn (hv s σ H _ I h) fun u s1 ⟨v,H1,I1,ru,q⟩=>thn (ho s1 σ H1 _ I1 q) fun ov s2 ⟨x,H2,I2,rx,e,C,ex,ee,S,q2⟩ => ?_) hs
 subst ex
 obtain rfl:ov=Value.ref e:=rx
 obtain ⟨ob,b1,b2,b3,b4⟩:=(show ObjOk X.prog X.w H2 s2.heap e (excN e C) from I2.hok e _ ee).1
 have hes:e≠s2.heap.objs.size:=Nat.ne_of_lt (Heap.lt_size b1)
 refine exc_store I2.kIn S b1 b2 b3 b4.nc fun h' tk a1 a2 a3 => ?_
 have I3:Inv X pins σ (upd H2 e (excF e C s2.heap.objs.size)) { s2 with heap:=h',toks:=tk }:=I2.write (x:=e) (e:=e) (by rw [ee];exact True.intro) (.inl rfl) a3 ⟨_,a1⟩ (excF_ok a1 b2 rfl b4)
 have hd:H2 s2.heap.objs.size=none:=I2.hok.fresh (Nat.le_refl _)
 have fp:=I2.fpOk (H':=H2) (Nat.le_refl _) hd
 refine ⟨σ,_,?_,q2 _ hd hes.symm⟩
 refine I3.adoptE (by rw [upd_ne hes.symm];exact hd) fp.2.1 fp.2.2.2.2.1 fp.2.2.2.2.2 (fun b u q z => ?_) ⟨_,a2,fun g => ?_⟩
 ·have:=Heap.lt_size q
  rw [z] at this
  exact absurd (Nat.lt_of_lt_of_le this I2.sz) (Nat.lt_irrefl _)
 ·show RelO (List.lookup g [(f,v)]) (if g=f then some u else none)
  by_cases z:g=f
  ·rw [if_pos z,z,List.lookup_cons_self];exact ru
  ·rw [if_neg z]
   have:List.lookup g [(f,v)]=none:=by
    rw [List.lookup_cons]
    have:(g == f)=false:=by simpa using z
    rw [this];rfl
   rw [this];trivial
end
section
variable {K:Frag} {C D N:Addr} {nm qn:Str} {bs up:List Value} {hdct:Bool} {sn:List Str} {sub:List Value} {ab:Bool} {col:Option Bool} {dd:Option Addr} {k0 k1 k2 k3 k5:Option Value}
theorem exc_parts (lk:K.lookup C=some (excClassObj nm qn C N bs up hdct sn sub ab col dd k0 k1 k2 k3 k5 "ValueError.__new__")) (made:excIn K C tailVE "ValueError.__new__" = true):nsOkIn K N=true∧nsIn K N "__init__" = some none:=by
 have h:(C == C && "ValueError.__new__" == "ValueError.__new__" && !false&&tailIn K tailVE up&&nsOkIn K N&&nsIn K N "__init__" == some none)=true:=by
  unfold excIn at made
  rw [lk] at made
  exact made
 have h1:=Bool.and_eq_true_iff.mp h
 exact ⟨(Bool.and_eq_true_iff.mp h1.1).2,beq_iff_eq.mp h1.2⟩
theorem own_tail (lk:K.lookup C=some (excClassObj nm qn C N bs tailVE hdct sn sub ab col dd k0 k1 k2 k3 k5 "ValueError.__new__")) (made:excIn K C tailVE "ValueError.__new__" = true) (h:Heap) (kin:K.In h):OwnTail h tailVE (.ref C :: tailVE):=by
 obtain ⟨a,b⟩:=exc_parts lk made
 exact .own (kin _ _ lk) (.of_isNs (isNs_of_in kin a)) (nsMap_none_of_in kin a b) .base
theorem excSt_mk {f:Str} (lk:K.lookup C=some (excClassObj nm qn C N bs (.ref D :: tailVE) true sn sub ab col dd k0 k1 k2 k3 k5 "ValueError.__new__")) (sa:findIn K (.ref C) "__setattr__" = some (some (.builtin "object.__setattr__"))) (na:findIn K (.ref C) f=some none)
  (mo:mroIn K C (.type "object")=some true):ExcSt K C f:=by
 refine ⟨sa,na,mo,⟨{ name:=nm,bases:=bs,mro := .ref C :: .ref D :: tailVE,ns:=N,qualname:=qn,hasDict:=true,slotNames:=sn,subclasses:=sub,abstract:=ab,collection:=col,hasDel:=false },D,?_,rfl,rfl⟩⟩
 unfold clsIn
 rw [lk]
end
section
variable {prog:Program} {w:World} {A:Around} {E:Value→Shared→Prop}
end
end L2
namespace L2
open PySem PySem.Spec PyProof.Rows PySem.Builtin PySem.Builtin.Str
end L2
namespace L2
open PySem PySem.Spec PyProof.Rows
end L2
namespace L2
open PySem PySem.Spec PyProof.Rows
section
variable {prog:Program} {w:World} {K:Type} [DecidableEq K] {knd:KeyKind prog w K} {A:Around} {E:Value→Shared→Prop} {s:Shared}
end
section
variable {prog:Program} {w:World} {A:Around} {it S:Addr} {fp:Addr→Prop} {n:Nat} {P:Nat→Value→Heap→Prop} {R:Value→Value→Prop} {St:Nat→Heap→Prop}
end
section
variable {prog:Program} {w:World} {K:Type} [DecidableEq K] {knd:KeyKind prog w K}
end
section
variable {X:Cx}
end
end L2
namespace L2
open PySem PySem.Spec PyProof.Rows
open AutoSeq1 (wpAny_loadPart')
section
variable {prog:Program} {w:World} {A:Around} {E:Value→Shared→Prop} {s:Shared}
end
end L2
namespace L2
open PySem PySem.Spec PyProof.Rows
end L2
namespace L2
open PySem PySem.Spec PyProof.Rows
section
variable {prog:Program} {w:World} {A:Around} {E:Value→Shared→Prop} {s:Shared} {a:Addr} {es:Array (Int×Value)} {ep:Nat} {t:SetTable} {o:Obj} {lo:Nat}
end
end L2
namespace L2
open PySem PySem.Spec PyProof.Rows
section
variable {prog:Program} {w:World} {a:Addr} {es:Array (Int×Value)} {ep:Nat} {t:SetTable} {lo:Nat}
end
end L2
namespace L2
open PySem PySem.Spec PyProof.Rows
section
variable {prog:Program} {w:World} {A:Around} {E:Value→Shared→Prop} {h:Heap} {g:Array GenState} {d:Drawn} {t:Nat} {os:OsState} {a:Addr} {o:Obj}
end
end L2
namespace L2
open PySem PySem.Spec PyProof.Rows
section
variable {prog:Program} {w:World} {K:Type} [DecidableEq K] {knd:KeyKind prog w K} {A:Around} {E:Value→Shared→Prop}
end
section
variable {X:Cx} {pins:List (Addr×Obj)} {σ:St} {H:Hp} {s:Shared}
end
end L2
namespace L2
open PySem PySem.Spec PyProof.Rows
section
variable {prog:Program} {w:World} {K:Type} [DecidableEq K] {knd:PySem.KeyKind prog w K}
variable {A:Around} {R:Result→Shared→Prop} {I:Addr} {fp wr:List Addr} {G:Array GenState→Array GenState→Prop} {n:Nat} {P:Nat→Value→Prop} {St:Nat→Shared→Prop}
end
section
variable {prog:Program} {w:World} {K:Type} [DecidableEq K] {knd:PySem.KeyKind prog w K} {A:Around} {E:Value→Shared→Prop} {s:Shared}
end
section
variable {X:Cx}
end
end L2
namespace L2
open PySem PySem.Spec PyProof.Rows PySem.W PySem.Calls
section
variable {M:Model} {A:Around} {E:Value→Shared→Prop} {s:Shared} {env:Env}
variable {nm q:Str} {C N:Addr} {bs bm:List Value} {hdct:Bool} {sn:List Str} {sub:List Value} {ab:Bool} {col:Option Bool} {dd:Option Addr} {k0 k1 k2 k3 k5:Option Value} {newId:String}
theorem raise_obj {x:Expr} {pos:Pos} {Q:Flow→Shared→Prop} (hh:A.handled=none) (hb:bm.contains (.type "BaseException")=true)
  (h:wpAny M A (eval x env) (fun v s1=>∃e o,v = .ref e∧s1.heap.get? C=some (excClassObj nm q C N bs bm hdct sn sub ab col dd k0 k1 k2 k3 k5 newId)∧s1.heap.get? e=some o∧o.cls = .ref C∧Raw o∧E (.ref e) s1) E s) :
  wpAny M A (exec (.Raise (some x) none pos) env) Q E s:=by
 have hcB:(Value.ref C :: bm).contains (.type "BaseException")=true:=by rw [List.contains_cons,hb,Bool.or_true]
 rw [arm_exec_Raise]
 show wpAny M A (do standAt pos;raiseStmt env (some (do let v ←eval x env;standAt pos;pure v)) none) Q E s
 refine wpAny_bind (wpAny_standAt ?_)
 unfold raiseStmt
 refine wpAny_bind (wpAny_bind (wpAny_mono h (fun v s1 h1=>wpAny_bind (wpAny_standAt (wpAny_pure ?_))) fun _ _ z=>z))
 obtain ⟨e,o,rfl,hC,he,hc,⟨t,hd⟩,hE⟩:=h1
 obtain ⟨oc,od,odt,osl⟩:=o
 dsimp only at hc hd
 subst hc hd
 obtain ⟨hp,g,d,tk,os⟩:=s1
 repeat (first|with_reducible refine wpAny_loadPart_at he ?_|with_reducible refine wpAny_loadPart_at hC ?_|(with_reducible refine wpAny_isSubtype_exc hC ?_;rw [hcB])|wp_step)
 exact wpAny_raiseNew_none hh hE
end
section
variable {P:Program} {w:World} {K:PySem.W.Frag} {mg:Str→Option Value} {base:Heap} {N:List Str} {qual:Str} {scope:Scope} {f:Addr} {cd:Value} {A:Around} {outer:List Env} {s0:Shared} {H0:Hp} {E:XK}
def sRaiseM (C:Addr) (H0:Hp) (E:XK) (sp:Sp) (t:TA):TS:=fun _ σ H=>tXMake C sp t σ H fun v H2=>∃e dx,v = .ref e∧H2 e=some (excF e C dx)∧H0 e=none∧E (.ref C) (some dx) (drp H2 e)
theorem ps_raiseM {k:Nat} {fi C:Addr} {fd:FuncData} {ps:List Str} {sp:Sp} {x:Str} {p cpos pos:Pos} {a:Expr} {as:List Expr} {t:TA} (M:XMk K C fi) (F:FnOk P w K mg base CX0 k fi fd ps sp) (hr:Room (k+1) (A.deeper (envOfC qual scope s0.heap.objs.size f cd)))
  (hg:Gl (cxOf (CXE P w base) P w K mg base N qual scope f cd A outer s0 H0 E) x) (hm:mg x=some (.ref C)) (hb:Binds K fd ps []) (ha:PA (cxOf (CXE P w base) P w K mg base N qual scope f cd A outer s0 H0 E) (a :: as) t) (hdb:(x == ("__debug__" : Str))=false:=by decide)
  (he:starEach (a :: as) (envOfC qual scope s0.heap.objs.size f cd)=(false,eval a (envOfC qual scope s0.heap.objs.size f cd)) :: starEach as (envOfC qual scope s0.heap.objs.size f cd):=by rfl) (hpl:(backTo cpos (starEach as (envOfC qual scope s0.heap.objs.size f cd))).any (·.1)=false:=by rfl) :
  PS (cxOf (CXE P w base) P w K mg base N qual scope f cd A outer s0 H0 E) (.Raise (some (.Call (.Name x p) (a :: as) [] cpos)) none pos) (sRaiseM C H0 E sp t):=by
 intro pins s σ H D I h
 obtain ⟨nm,qn,Nn,bs,Db,hdct,sn,sub,ab,col,dd,k0,k1,k2,k3,k5,lk,TL⟩:=id M.cl
 have ev:=pe_xmake (X:=cxOf (CXE P w base) P w K mg base N qual scope f cd A outer s0 H0 E) (pos:=cpos) (p:=p) M F hr hg hm hb ha rfl hdb he hpl s σ H _ I h
 refine raise_obj (C:=C) (nm:=nm) (q:=qn) (N:=Nn) (bs:=bs) (bm := .ref Db :: tailVE) (hdct:=hdct) (sn:=sn) (sub:=sub) (ab:=ab) (col:=col) (dd:=dd) (k0:=k0) (k1:=k1) (k2:=k2) (k3:=k3) (k5:=k5) (newId := "ValueError.__new__")
  (I.ok.hd rfl) (by simp [tailVE]) (thn ev fun v s1 ⟨y,H1,I1,ry,e,dx,ey,ee,h0,hE⟩ => ?_)
 subst ey
 obtain rfl:v=Value.ref e:=ry
 obtain ⟨ob,b1,b2,b3,b4⟩:=(show ObjOk P w H1 s1.heap e (excF e C dx) from I1.hok e _ ee).1
 obtain ⟨t0,b5⟩:=id b4
 have ub:Un (frs outer) [] H0 H1 s0.heap s1.heap:=I1.base
 refine ⟨e,ob,rfl,I1.kIn _ _ lk,b1,b2,b4,exc_leaves (t:=t0) I1 b1 ?_ b5 rfl rfl (.inr ⟨_,ee⟩) (by rw [b2,b3];exact hE)⟩
 cases z:s0.heap.get? e with
 | none=>rfl
 | some o=>
  have:=ub.free e o z h0 (by simp)
  rw [ee] at this;cases this
end
section
variable {X:Cx}
def tXGetC (K:Frag) (to:TE) (f:Str):TE:=fun σ H Q=>to σ H fun x H1=>∃e C dx fs v,x = .ref e∧H1 e=some (excAs e (.ref C) (some dx))∧H1 dx=some (.xd fs)∧fs.lookup f=some v∧ExcOk K C∧ExcSt K C f∧((∃i,v = .int i)∨∃z,v = .str z)∧Q v H1
theorem pe_xgetC {o:Expr} {f:Str} {to:TE} {pos:Pos} (K:Frag) (ho:PE X o to) (hb:attributeBase o f X.env (eval o X.env)=eval o X.env:=by rfl) (hK:X.K=K:=by rfl):PE X (.Attribute o f pos) (tXGetC K to f):=by
 subst hK
 intro pins s σ H Q I h
 refine attr_of hb (thn (ho s σ H _ I h) fun ov s1 hz_ => ?_)
 refine Elim.el hz_ _ ?_
 clear hz_
 rintro x H1 I1 rx ⟨e,C,dx,fs,v,ex,ee,ed,el,O,S,hv,q⟩
 subst ex
 obtain rfl:ov=Value.ref e:=rx
 obtain ⟨ob,b1,b2,b3,b4⟩:=(show ObjOk X.prog X.w H1 s1.heap e (excC e (.ref C) dx) from I1.hok e _ ee).1
 obtain ⟨mA,n1,n2⟩:=I1.hok dx _ ed
 obtain ⟨od,c1,c2⟩:=lookIn_ns n1
 have hf:=n2 f
 rw [el] at hf
 cases hm:mA f with
 | none=>rw [hm] at hf;exact hf.elim
 | some u=>
  rw [hm] at hf
  have ru:RelV v u:=hf
  refine exc_load I1.kIn O S b1 b2 b3 b4 c1 (by rw [c2,hm]) ?_ ⟨v,H1,I1.tok _,ru,q⟩
  rcases hv with ⟨i,rfl⟩|⟨z,rfl⟩
  ·obtain ⟨t,rfl⟩:=ru;rfl
  ·obtain ⟨t,rfl⟩:=ru;rfl
theorem excAs_at {P:Program} {w:World} {H:Hp} {h:Heap} {e C:Addr} {dx:Option Addr} (x:ObjOk P w H h e (excAs e (.ref C) dx)):ExcAt e C h:=by
 cases dx with
 | none=>exact x.1
 | some d=>obtain ⟨o,a,b,_⟩:=x.1;exact ⟨o,a,b⟩
def rIsA (K:Frag):List V→Hp→VK→Prop:=fun xs H Q=>Ex6 fun (e C:Addr) (dx:Option Addr) (c:V) (cv:Value) (b:Bool)=>xs=[.ref e,c]∧H e=some (excAs e (.ref C) dx)∧ExcOk K C∧clsV c=some cv∧kitOne K (.ref C) cv=some b∧Q (.bl b) H
theorem isiA (K:Frag) (hK:X.K=K:=by rfl):CallR X (.builtin "isinstance") (rIsA K):=by
 subst hK
 intro pins s σ H xs us Q I r h
 obtain ⟨e,C,dx,c,cv,b,rfl,hE,O,hc,hk,q⟩:=h
 obtain ⟨u,w',rfl,r1,r2⟩:=vals2 r
 cases r1
 have hx:=excAs_at (I.hok e _ hE)
 have ew:w'=cv:=by
  cases c <;> simp [clsV] at hc
  ·subst hc;cases r2;rfl
  ·subst hc;cases r2;rfl
 subst ew
 exact kia_one (kitx_exc O) I.kIn hx hk (fun z=>nomatch z) fun tk=>⟨.bl b,H,I.tok _,rfl,q⟩
end
end L2
namespace L2
open PySem PySem.Spec PyProof.Rows PySem.W
theorem intS {X:Cx} : CallR X (.type "int") (fun xs H Q=>∃x n,xs=[.str x]∧PySem.intText? x=some n∧x.length≤640∧Q (.int n) H):=by
 intro pins s σ H xs us Q I r h
 obtain ⟨x,n,rfl,e,hl,q⟩:=h
 obtain ⟨u,rfl,t,rfl⟩:=vals1 r
 exact KIN.call_text e hl ⟨.int n,H,I.tok _,⟨_,rfl⟩,q⟩
end L2
namespace L2
open PySem PySem.Spec PyProof.Rows PySem.W Builtin.Str
theorem rel_numbered:∀(tk:Nat) (xs:List Str),Vals (xs.map V.str) (strValues (numbered tk xs))
 | _,[] => .nil
 | tk,x :: r => .cons ⟨tk,rfl⟩ (rel_numbered (tk+1) r)
section
variable {X:Cx}
theorem endsW:MtR X "str.endswith" (fun x vs H Q=>Ex2 fun a b=>x = .str a∧vs=[.str b]∧Q (.bl (Txt.endswith a b)) H):=by
 intro pins s σ H x vs v us Q I rx rv h
 obtain ⟨a,b,rfl,rfl,q⟩:=h
 obtain ⟨t,rfl⟩:=rx
 obtain ⟨u,rfl,t',rfl⟩:=rv.one
 exact SC.endswith ⟨.bl _,H,I,rfl,q⟩
theorem splitN:MtR X "str.split" (fun x vs H Q=>Ex2 fun a b=>x = .str a∧vs=[.str b]∧b.length≠0∧a.length≤10000000∧(Txt.split a b).length≤10000000∧∀p H',New H p (.lst ((Txt.split a b).map V.str)) H'→Q (.ref p) H'):=by
 intro pins s σ H x vs v us Q I rx rv h
 obtain ⟨a,b,rfl,rfl,hb,ha,hn,q⟩:=h
 obtain ⟨t,rfl⟩:=rx
 obtain ⟨u,rfl,t',rfl⟩:=rv.one
 have hb':(b.length == 0)=false:=by simpa using hb
 have new:∀(tk:Nat) (its:List Value),Vals ((Txt.split a b).map V.str) its→EP X pins σ Q (.ref s.heap.objs.size) { s with toks:=tk,heap:=s.heap.push { cls := .type "list",data := .seq its.toArray } }:=fun tk its r=>
  ⟨.ref _,_,I.laid (a:=s.heap.objs.size) (o := .lst ((Txt.split a b).map V.str)) (t':=tk) (fun _ _ e=>Heap.get?_push_of_some _ e) (Nat.le_refl _) ⟨by rw [List.length_map];exact Nat.le_trans hn (by decide),its,0,r,Heap.get?_push_size _ rfl⟩,rfl,q _ _ ⟨I.hok.fresh (Nat.le_refl _),rfl⟩⟩
 have self:Txt.split a b=[a]→Vals ((Txt.split a b).map V.str) [.str a t]:=fun e=>by rw [e];exact .cons ⟨t,rfl⟩ .nil
 by_cases h1:(decide (a.length<b.length)||decide (strKind a<strKind b))=true
 ·exact call_meets F.slot_str_split (typeIs_str _ _ _) F.entry_str_split (F.args_str_split_2 _ _) (meets_str_split_cannot_occur a b t t' h1) (new s.toks _ (self (if_pos h1)))
 have h1':=Bool.eq_false_iff.mpr h1
 by_cases hf:(occurrences a b 0 a.length (a.length+1)).isEmpty=true
 ·exact call_meets F.slot_str_split (typeIs_str _ _ _) F.entry_str_split (F.args_str_split_2 _ _) (meets_str_split_not_found a b t t' h1' hb' hf) (new s.toks _ (self ((if_neg h1).trans (if_pos hf))))
 have e:Txt.split a b=partsBetween a (occurrences a b 0 a.length (a.length+1)) b.length:=(if_neg h1).trans (if_neg hf)
 refine call_meets F.slot_str_split (typeIs_str _ _ _) F.entry_str_split (F.args_str_split_2 _ _) (meets_str_split_sep a b t t' h1' hb' (Bool.eq_false_iff.mpr hf) (Nat.le_trans ha (by decide)) (by rw [←e];exact Nat.le_trans hn (by decide))) ?_
 refine new _ _ ?_
 rw [←e,strsFrom_eq]
 exact rel_numbered _ _
def rTup (K:PySem.W.Frag):R2:=fun x y H Q=>Ex4 fun (a b:Addr) (xs ys:List V)=>x = .ref a∧y = .ref b∧SqT K H a xs∧SqT K H b ys∧xs.length+ys.length≤100000∧xs≠[] ∧
 (ys=[]→Q (.ref a) H)∧(ys≠[]→∀p H',New H p (.tup (xs++ys)) H'→Q (.ref p) H')
theorem op_tup:OpR X (binaryOp .Add) (rTup X.K):=by
 intro pins s σ H x y v u Q I rx ry h
 obtain ⟨a,b,xs,ys,rfl,rfl,ha,hb,hl,hx,q0,q1⟩:=h
 cases rx
 cases ry
 obtain ⟨is,ra,⟨⟨c1,d1,k1,l1⟩,e1,f1,n1,g1⟩,_⟩:=I.tuple ha
 obtain ⟨js,rb,⟨⟨c2,d2,k2,l2⟩,e2,f2,n2,g2⟩,_⟩:=I.tuple hb
 simp only at f1 g1 f2 g2
 subst f1 g1 f2 g2
 have li:=ra.length
 have lj:=rb.length
 have hi:¬is.toArray.isEmpty=true:=fun z=>hx (by
  have:is=[]:=by simpa using z
  rw [this] at li
  exact List.length_eq_zero_iff.mp li)
 by_cases hy:ys=[]
 ·have hj:js.toArray.isEmpty=true:=by
   rw [hy] at lj
   have:js=[]:=List.length_eq_zero_iff.mp lj.symm
   rw [this];rfl
  exact concat_meets ⟨_,e1,rfl⟩ ⟨_,e2,rfl⟩ noFill_tuple_add seq_tuple_add F.slot_tuple_add F.entry_tuple_add (F.args_tuple_add_2 _ _) (tuple_addW1 a b is.toArray js.toArray n1 n2 d1 d2 l1 l2 hi hj) ⟨e1,e2,⟨.ref a,H,I,rfl,q0 hy⟩⟩
 ·have hj:¬js.toArray.isEmpty=true:=fun z=>hy (by
   have:js=[]:=by simpa using z
   rw [this] at lj
   exact List.length_eq_zero_iff.mp lj)
  refine concat_meets ⟨_,e1,rfl⟩ ⟨_,e2,rfl⟩ noFill_tuple_add seq_tuple_add F.slot_tuple_add F.entry_tuple_add (F.args_tuple_add_2 _ _) (tuple_addW2 a b is.toArray js.toArray n1 n2 d1 d2 l1 l2 hi hj (by rw [List.size_toArray,List.size_toArray];exact Nat.le_trans (by omega) (show 100000≤sizeLine by decide))) ⟨e1,e2,?_⟩
  refine ⟨.ref s.heap.objs.size,_,I.laid (a:=s.heap.objs.size) (o := .tup (xs++ys)) (t':=s.toks) (fun _ _ e=>Heap.get?_push_of_some _ e) (Nat.le_refl _) ?_,rfl,q1 hy _ _ ⟨I.hok.fresh (Nat.le_refl _),rfl⟩⟩
  refine ⟨by rw [List.length_append];exact Nat.le_trans hl (by decide),is++js,ra.append rb,⟨_,Heap.get?_push_size _ rfl,rfl,0,by simp⟩⟩
theorem addT (K:PySem.W.Frag) (hK:X.K=K:=by rfl):OpR X (binaryOp .Add) (rTup K):=by subst hK;exact op_tup
end
end L2
namespace L2
open PySem PySem.Spec PyProof.Rows PySem.W
section
variable {X:Cx} {H Hj:Hp} {s sj:Shared} {pins:List (Addr×Obj)} {σ:St}
end
section
variable {prog:Program} {w:World} {A:Around} {E:Value→Shared→Prop} {s:Shared}
end
section
variable {X:Cx} {H:Hp} {s0:Shared} {pins:List (Addr×Obj)} {σ:St} {D kS:Addr} {ts:List Str} {vs:List Value}
end
end L2
namespace L2
open PySem PySem.Spec PyProof.Rows PySem.W
section
variable {X:Cx} {x:Str} {p pos:Pos} {e:Expr} {es:List Expr} {kws:List Keyword} {t tk:TA} {id:String} {ks:List Str} {r:List V→List V→Hp→VK→Prop}
end
section
variable {X:Cx} (K:PySem.W.Frag)
end
end L2
namespace L2
open PySem PySem.Spec PyProof.Rows
section
open PySem.SeqAt
open PySem.AutoSeq1 (wpAny_loadPart')
open PySem.MeetsSeq PySem.MeetsSeq2 PySem.MeetsSeq3
end
section
variable {prog:Program} {w:World} {A:Around} {E:Value→Shared→Prop} {s:Shared}
end
section
variable {X:Cx}
end
end L2
namespace L2
open PySem PySem.Spec PyProof.Rows PySem.W
section
variable {X:Cx} {H:Hp} {s0:Shared} {pins:List (Addr×Obj)} {σ:St} {I S p:Addr} {as:List Addr} {kt:Nat→Str} {f:Addr} {r:V→Hp→VK→Prop}
end
section
variable {X:Cx} (K:PySem.W.Frag)
end
end L2
namespace L2
open PySem PySem.Spec PyProof.Rows
section
variable {X:Cx} {pins:List (Addr×Obj)} {σ:St} {H:Hp} {s:Shared} {a:Addr} {u v:HO}
end
end L2
namespace L2
open PySem PySem.Spec PyProof.Rows
section
variable {X:Cx}
end
end L2
namespace L2
open PySem PySem.Spec PyProof.Rows PySem.W
theorem keys_rel {prog:Program} {w:World} {kvs:List (Key×V)} {vs:List (Key×Value)} (h:KV kvs vs):∀{its:List Value},its.length=vs.length →
  (∀(j:Nat) v,its[j]? = some v→∃k x,vs[j]? = some (k,x)∧(mixKind prog w).is k v=true)→Vals (kvs.map fun q=>kV q.1) its:=by
 unfold KV at h
 induction h with
 | nil=>
  intro its hl _
  rw [List.eq_nil_of_length_eq_zero hl]
  exact .nil
 | @cons p q kvs vs h1 _ ih=>
  intro its hl h
  cases its with
  | nil=>cases hl
  | cons v its=>
  refine .cons ?_ (ih (Nat.succ.inj hl) fun j u e=>h (j+1) u e)
  obtain ⟨k,x,e1,e2⟩:=h 0 v rfl
  cases e1
  show RelV (kV p.1) v
  rw [show p.1=k from h1.1]
  rcases keyIs_shape e2 with ⟨n,t,z1,z2⟩|⟨y,t,z1,z2⟩
  ·rw [z1,z2];exact ⟨t,rfl⟩
  ·rw [z1,z2];exact ⟨t,rfl⟩
section
variable {X:Cx}
theorem listD (hc:X.calm=true):CallR X (.type "list") (fun xs H Q=>Ex2 fun (d:Addr) (kvs:List (Key×V))=>xs=[.ref d]∧H d=some (.dK kvs)∧∀p H',New H p (.lst (kvs.map fun q=>kV q.1)) H'→Q (.ref p) H'):=by
 intro pins s σ H xs us Q I r h
 obtain ⟨d,kvs,rfl,hd,q⟩:=h
 obtain ⟨u,rfl,ru⟩:=vals1 r
 cases ru
 obtain ⟨z,ns,vs,kv,o,es,ep,e,rr⟩:=I.hok d _ hd
 have kl:=kv.length
 refine kdl_call (kdl_dict (knd:=mixKind X.prog X.w) (kvs:=vs) (ep:=ep) ns) (I.ok.hd hc) ⟨o,es,e,rr⟩ (by omega) fun h' tk acc c k hS items => ?_
 refine ⟨.ref s.heap.objs.size,_,I.laid (a:=s.heap.objs.size) (o := .lst (kvs.map fun q=>kV q.1)) (t':=tk) k (Nat.le_refl _) ⟨by rw [List.length_map];exact z,acc.toList,c,?_,by simpa using hS⟩,rfl,q _ _ ⟨I.hok.fresh (Nat.le_refl _),rfl⟩⟩
 exact keys_rel kv (by rw [Array.length_toList];exact items.1) fun j v ej=>items.2 j v (by rw [←Array.getElem?_toList];exact ej)
end
end L2
namespace Z
open PySem L2
noncomputable def top (i:Nat):Stmt:=PySem.Challenge.pw_oddlong_k81_sheets_spoilt_anywhere.main.body.getD i (.Pass ⟨0,0,0,0⟩)
noncomputable abbrev i_OddError:Nat:=1
noncomputable abbrev i_TooFull:Nat:=2
noncomputable abbrev i_NoPlace:Nat:=3
noncomputable abbrev i_NoName:Nat:=4
noncomputable abbrev i_BadText:Nat:=5
noncomputable abbrev i_NoForm:Nat:=6
noncomputable abbrev i_TooFar:Nat:=7
noncomputable abbrev i_NoTarget:Nat:=8
noncomputable abbrev i_BadRow:Nat:=9
noncomputable abbrev i_made_of:Nat:=17
noncomputable abbrev i_is_name:Nat:=18
noncomputable abbrev i_read_program:Nat:=22
noncomputable abbrev i_label_places:Nat:=23
noncomputable abbrev i_label_in:Nat:=24
noncomputable abbrev i_row_in:Nat:=25
noncomputable abbrev i_value_in:Nat:=26
noncomputable abbrev i_number_in:Nat:=27
noncomputable abbrev i_law_begin:Nat:=29
noncomputable abbrev i_law_take:Nat:=30
noncomputable abbrev i_law_program:Nat:=31
noncomputable abbrev i_law_word:Nat:=32
noncomputable abbrev i_law_is_name:Nat:=33
noncomputable abbrev i_law_is_figures:Nat:=34
noncomputable abbrev i_law_row_told:Nat:=35
noncomputable abbrev i_law_read:Nat:=36
noncomputable abbrev i_law_sheet:Nat:=37
noncomputable abbrev i_law_signs:Nat:=38
noncomputable abbrev i_law_spelt:Nat:=39
noncomputable abbrev i_law_line_spelt:Nat:=40
noncomputable abbrev i_law_refused:Nat:=41
noncomputable abbrev i_law_many:Nat:=42
noncomputable abbrev i_law_same:Nat:=43
noncomputable abbrev i_law:Nat:=44
end Z
set_option maxHeartbeats 0
namespace Z
open PySem PySem.W PySem.Calls PyProof.Rows L2
noncomputable def khPos (s:Stmt):Pos:=match s with
 | .FunctionDef _ _ _ _ _ _ _ _ _ p=>p
 | _=>default
noncomputable def khK:Params→Frag:=fun P=>
 (nat_lit 2,⟨.none,none,(.dict #[] 0), #[]⟩) ::
 (nat_lit 3,⟨(.type "dict"),none,(.dict #[⟨PyData.keyHash P (.ofString "__name__"), .str (.ofString "__name__") 165,(.str (.ofString "law_oddlong_k81_sheets_spoilt_anywhere") 526)⟩,⟨PyData.keyHash P (.ofString "__doc__"), .str (.ofString "__doc__") 166, .none⟩,⟨PyData.keyHash P (.ofString "__package__"), .str (.ofString "__package__") 167, .none⟩,⟨PyData.keyHash P (.ofString "__loader__"), .str (.ofString "__loader__") 168,(.builtin "__main__.__loader__#opaque")⟩,⟨PyData.keyHash P (.ofString "__spec__"), .str (.ofString "__spec__") 169, .none⟩,⟨PyData.keyHash P (.ofString "__annotations__"), .str (.ofString "__annotations__") 170,(.ref 6)⟩,⟨PyData.keyHash P (.ofString "__builtins__"), .str (.ofString "__builtins__") 171,(.ref 4)⟩,⟨PyData.keyHash P (.ofString "__file__"), .str (.ofString "__file__") 173,(.str (.ofString "/claim/cut.py") 172)⟩,⟨PyData.keyHash P (.ofString "__cached__"), .str (.ofString "__cached__") 174, .none⟩,⟨PyData.keyHash P (.ofString "OddError"), .str (.ofString "OddError") 206,(.ref 24)⟩,⟨PyData.keyHash P (.ofString "TooFull"), .str (.ofString "TooFull") 222,(.ref 37)⟩,⟨PyData.keyHash P (.ofString "NoPlace"), .str (.ofString "NoPlace") 238,(.ref 49)⟩,⟨PyData.keyHash P (.ofString "NoName"), .str (.ofString "NoName") 263,(.ref 68)⟩,⟨PyData.keyHash P (.ofString "BadText"), .str (.ofString "BadText") 288,(.ref 87)⟩,⟨PyData.keyHash P (.ofString "NoForm"), .str (.ofString "NoForm") 313,(.ref 106)⟩,⟨PyData.keyHash P (.ofString "TooFar"), .str (.ofString "TooFar") 338,(.ref 125)⟩,⟨PyData.keyHash P (.ofString "NoTarget"), .str (.ofString "NoTarget") 363,(.ref 144)⟩,⟨PyData.keyHash P (.ofString "BadRow"), .str (.ofString "BadRow") 388,(.ref 163)⟩,⟨PyData.keyHash P (.ofString "SMALL_LETTERS"), .str (.ofString "SMALL_LETTERS") 392,(.str (.ofString "abcdefghijklmnopqrstuvwxyz") 391)⟩,⟨PyData.keyHash P (.ofString "LONGEST_NAME"), .str (.ofString "LONGEST_NAME") 394,(.int 8 393)⟩,⟨PyData.keyHash P (.ofString "SPOT_NAMES"), .str (.ofString "SPOT_NAMES") 399,(.ref 166)⟩,⟨PyData.keyHash P (.ofString "GREATEST_NUMBER"), .str (.ofString "GREATEST_NUMBER") 401,(.int 255 400)⟩,⟨PyData.keyHash P (.ofString "ROW_KINDS"), .str (.ofString "ROW_KINDS") 410,(.ref 167)⟩,⟨PyData.keyHash P (.ofString "PARTS"), .str (.ofString "PARTS") 448,(.ref 168)⟩,⟨PyData.keyHash P (.ofString "made_of"), .str (.ofString "made_of") 456,(.ref 186)⟩,⟨PyData.keyHash P (.ofString "is_name"), .str (.ofString "is_name") 463,(.ref 193)⟩,⟨PyData.keyHash P (.ofString "MOST_ROWS"), .str (.ofString "MOST_ROWS") 467,(.int 200 466)⟩,⟨PyData.keyHash P (.ofString "FIGURES"), .str (.ofString "FIGURES") 469,(.str (.ofString "0123456789") 468)⟩,⟨PyData.keyHash P (.ofString "read_program"), .str (.ofString "read_program") 484,(.ref 200)⟩,⟨PyData.keyHash P (.ofString "label_places"), .str (.ofString "label_places") 495,(.ref 207)⟩,⟨PyData.keyHash P (.ofString "label_in"), .str (.ofString "label_in") 502,(.ref 214)⟩,⟨PyData.keyHash P (.ofString "row_in"), .str (.ofString "row_in") 508,(.ref 219)⟩,⟨PyData.keyHash P (.ofString "value_in"), .str (.ofString "value_in") 517,(.ref 226)⟩,⟨PyData.keyHash P (.ofString "number_in"), .str (.ofString "number_in") 525,(.ref 233)⟩,⟨PyData.keyHash P (.ofString "_law_begin"), .str (.ofString "_law_begin") 535,(.ref 240)⟩,⟨PyData.keyHash P (.ofString "_law_take"), .str (.ofString "_law_take") 548,(.ref 247)⟩,⟨PyData.keyHash P (.ofString "_law_program"), .str (.ofString "_law_program") 562,(.ref 254)⟩,⟨PyData.keyHash P (.ofString "_law_word"), .str (.ofString "_law_word") 568,(.ref 259)⟩,⟨PyData.keyHash P (.ofString "_law_is_name"), .str (.ofString "_law_is_name") 574,(.ref 264)⟩,⟨PyData.keyHash P (.ofString "_law_is_figures"), .str (.ofString "_law_is_figures") 580,(.ref 269)⟩,⟨PyData.keyHash P (.ofString "_law_row_told"), .str (.ofString "_law_row_told") 588,(.ref 276)⟩,⟨PyData.keyHash P (.ofString "_law_read"), .str (.ofString "_law_read") 594,(.ref 281)⟩,⟨PyData.keyHash P (.ofString "_law_sheet"), .str (.ofString "_law_sheet") 600,(.ref 286)⟩,⟨PyData.keyHash P (.ofString "_law_signs"), .str (.ofString "_law_signs") 606,(.ref 293)⟩,⟨PyData.keyHash P (.ofString "_law_spelt"), .str (.ofString "_law_spelt") 623,(.ref 300)⟩,⟨PyData.keyHash P (.ofString "_law_line_spelt"), .str (.ofString "_law_line_spelt") 640,(.ref 307)⟩,⟨PyData.keyHash P (.ofString "_law_refused"), .str (.ofString "_law_refused") 651,(.ref 314)⟩,⟨PyData.keyHash P (.ofString "_law_many"), .str (.ofString "_law_many") 658,(.ref 321)⟩,⟨PyData.keyHash P (.ofString "_law_same"), .str (.ofString "_law_same") 664,(.ref 326)⟩,⟨PyData.keyHash P (.ofString "law"), .str (.ofString "law") 682,(.ref 333)⟩] 50), #[]⟩) ::
 (nat_lit 15,⟨(.type "tuple"),none,(.seq #[(.type "ValueError")] 0), #[]⟩) ::
 (nat_lit 22,⟨(.type "tuple"),none,(.seq #[] 0), #[]⟩) ::
 (nat_lit 23,⟨(.type "dict"),none,(.dict #[⟨PyData.keyHash P (.ofString "__module__"), .str (.ofString "__module__") 196,(.str (.ofString "oddlong.errors") 187)⟩,⟨PyData.keyHash P (.ofString "__firstlineno__"), .str (.ofString "__firstlineno__") 200,(.int 2 199)⟩,⟨PyData.keyHash P (.ofString "__static_attributes__"), .str (.ofString "__static_attributes__") 201,(.ref 22)⟩,⟨PyData.keyHash P (.ofString "__weakref__"), .str (.ofString "__weakref__") 203,(.ref 25)⟩,⟨PyData.keyHash P (.ofString "__doc__"), .str (.ofString "__doc__") 204, .none⟩] 3), #[]⟩) ::
 (nat_lit 24,⟨(.type "type"),none,(.cls ⟨(.ofString "OddError"),[(.type "ValueError")],[(.ref 24),(.type "ValueError"),(.type "Exception"),(.type "BaseException"),(.type "object")],23,(.ofString "OddError"),true,[],[(.ref 37),(.ref 49),(.ref 68),(.ref 87),(.ref 106),(.ref 125),(.ref 144),(.ref 163)],false,none,false⟩), #[(some (.ref 15)),none,(some (.str (.ofString "OddError") 189)),(some (.str (.ofString "OddError") 197)),(some (.builtin "ValueError.__new__")),(some (.bool true))]⟩) ::
 (nat_lit 25,⟨(.type "getset_descriptor"),none,(.fields #[(.str (.ofString "__weakref__") 202),(.ref 24),(.builtin "ExceptionGroup.__weakref__"), .none]), #[]⟩) ::
 (nat_lit 28,⟨(.type "tuple"),none,(.seq #[(.ref 24)] 0), #[]⟩) ::
 (nat_lit 35,⟨(.type "tuple"),none,(.seq #[] 0), #[]⟩) ::
 (nat_lit 36,⟨(.type "dict"),none,(.dict #[⟨PyData.keyHash P (.ofString "__module__"), .str (.ofString "__module__") 214,(.str (.ofString "oddlong.errors") 187)⟩,⟨PyData.keyHash P (.ofString "__firstlineno__"), .str (.ofString "__firstlineno__") 218,(.int 4 217)⟩,⟨PyData.keyHash P (.ofString "__static_attributes__"), .str (.ofString "__static_attributes__") 219,(.ref 35)⟩,⟨PyData.keyHash P (.ofString "__doc__"), .str (.ofString "__doc__") 220, .none⟩] 2), #[]⟩) ::
 (nat_lit 37,⟨(.type "type"),none,(.cls ⟨(.ofString "TooFull"),[(.ref 24)],[(.ref 37),(.ref 24),(.type "ValueError"),(.type "Exception"),(.type "BaseException"),(.type "object")],36,(.ofString "TooFull"),true,[],[],false,none,false⟩), #[(some (.ref 28)),none,(some (.str (.ofString "TooFull") 207)),(some (.str (.ofString "TooFull") 215)),(some (.builtin "ValueError.__new__")),(some (.bool true))]⟩) ::
 (nat_lit 40,⟨(.type "tuple"),none,(.seq #[(.ref 24)] 0), #[]⟩) ::
 (nat_lit 47,⟨(.type "tuple"),none,(.seq #[] 0), #[]⟩) ::
 (nat_lit 48,⟨(.type "dict"),none,(.dict #[⟨PyData.keyHash P (.ofString "__module__"), .str (.ofString "__module__") 230,(.str (.ofString "oddlong.errors") 187)⟩,⟨PyData.keyHash P (.ofString "__firstlineno__"), .str (.ofString "__firstlineno__") 234,(.int 6 233)⟩,⟨PyData.keyHash P (.ofString "__static_attributes__"), .str (.ofString "__static_attributes__") 235,(.ref 47)⟩,⟨PyData.keyHash P (.ofString "__doc__"), .str (.ofString "__doc__") 236, .none⟩] 2), #[]⟩) ::
 (nat_lit 49,⟨(.type "type"),none,(.cls ⟨(.ofString "NoPlace"),[(.ref 24)],[(.ref 49),(.ref 24),(.type "ValueError"),(.type "Exception"),(.type "BaseException"),(.type "object")],48,(.ofString "NoPlace"),true,[],[],false,none,false⟩), #[(some (.ref 40)),none,(some (.str (.ofString "NoPlace") 223)),(some (.str (.ofString "NoPlace") 231)),(some (.builtin "ValueError.__new__")),(some (.bool true))]⟩) ::
 (nat_lit 52,⟨(.type "tuple"),none,(.seq #[(.ref 24)] 0), #[]⟩) ::
 (nat_lit 59,⟨(.type "tuple"),none,(.seq #[] 0), #[]⟩) ::
 (nat_lit 61,⟨(.type "tuple"),none,(.seq #[(.str (.ofString "self") 254),(.str (.ofString "name") 255)] 0), #[]⟩) ::
 (nat_lit 62,⟨(.type "tuple"),none,(.seq #[] 0), #[]⟩) ::
 (nat_lit 64,⟨(.type "code"),none,(.fields #[(.str (.ofString "__init__") 251),(.str (.ofString "NoName.__init__") 252),(.str (.ofString "/claim/cut.py") 253),(.int 10 0),(.int 2 0),(.int 0 0),(.int 0 0),(.int 3 0),(.ref 59),(.bool true),(.int 181 0),(.ref 60), .none,(.ref 61),(.ref 62),(.ref 63),(.int 256 0),(.int 10 0),(.str (.ofString "/claim/cut.py") 257)]), #[]⟩) ::
 (nat_lit 65,⟨(.type "function"),none,(.func (fnOf (.ofString "__init__") (.ofString "NoName.__init__") (defArgs (inClass (top 4) 0)) (defBody (inClass (top 4) 0)) (defScope (inClass (top 4) 0)) .none .none .none (.str (.ofString "oddlong.errors") 187) none (.ref 64) .none)), #[]⟩) ::
 (nat_lit 66,⟨(.type "tuple"),none,(.seq #[(.str (.ofString "name") 259)] 0), #[]⟩) ::
 (nat_lit 67,⟨(.type "dict"),none,(.dict #[⟨PyData.keyHash P (.ofString "__module__"), .str (.ofString "__module__") 246,(.str (.ofString "oddlong.errors") 187)⟩,⟨PyData.keyHash P (.ofString "__firstlineno__"), .str (.ofString "__firstlineno__") 250,(.int 8 249)⟩,⟨PyData.keyHash P (.ofString "__init__"), .str (.ofString "__init__") 258,(.ref 65)⟩,⟨PyData.keyHash P (.ofString "__static_attributes__"), .str (.ofString "__static_attributes__") 260,(.ref 66)⟩,⟨PyData.keyHash P (.ofString "__doc__"), .str (.ofString "__doc__") 261, .none⟩] 2), #[]⟩) ::
 (nat_lit 68,⟨(.type "type"),none,(.cls ⟨(.ofString "NoName"),[(.ref 24)],[(.ref 68),(.ref 24),(.type "ValueError"),(.type "Exception"),(.type "BaseException"),(.type "object")],67,(.ofString "NoName"),true,[],[],false,none,false⟩), #[(some (.ref 52)),none,(some (.str (.ofString "NoName") 239)),(some (.str (.ofString "NoName") 247)),(some (.builtin "ValueError.__new__")),(some (.bool true))]⟩) ::
 (nat_lit 71,⟨(.type "tuple"),none,(.seq #[(.ref 24)] 0), #[]⟩) ::
 (nat_lit 78,⟨(.type "tuple"),none,(.seq #[] 0), #[]⟩) ::
 (nat_lit 80,⟨(.type "tuple"),none,(.seq #[(.str (.ofString "self") 279),(.str (.ofString "place") 280)] 0), #[]⟩) ::
 (nat_lit 81,⟨(.type "tuple"),none,(.seq #[] 0), #[]⟩) ::
 (nat_lit 83,⟨(.type "code"),none,(.fields #[(.str (.ofString "__init__") 276),(.str (.ofString "BadText.__init__") 277),(.str (.ofString "/claim/cut.py") 278),(.int 14 0),(.int 2 0),(.int 0 0),(.int 0 0),(.int 3 0),(.ref 78),(.bool true),(.int 181 0),(.ref 79), .none,(.ref 80),(.ref 81),(.ref 82),(.int 281 0),(.int 14 0),(.str (.ofString "/claim/cut.py") 282)]), #[]⟩) ::
 (nat_lit 84,⟨(.type "function"),none,(.func (fnOf (.ofString "__init__") (.ofString "BadText.__init__") (defArgs (inClass (top 5) 0)) (defBody (inClass (top 5) 0)) (defScope (inClass (top 5) 0)) .none .none .none (.str (.ofString "oddlong.errors") 187) none (.ref 83) .none)), #[]⟩) ::
 (nat_lit 85,⟨(.type "tuple"),none,(.seq #[(.str (.ofString "place") 284)] 0), #[]⟩) ::
 (nat_lit 86,⟨(.type "dict"),none,(.dict #[⟨PyData.keyHash P (.ofString "__module__"), .str (.ofString "__module__") 271,(.str (.ofString "oddlong.errors") 187)⟩,⟨PyData.keyHash P (.ofString "__firstlineno__"), .str (.ofString "__firstlineno__") 275,(.int 12 274)⟩,⟨PyData.keyHash P (.ofString "__init__"), .str (.ofString "__init__") 283,(.ref 84)⟩,⟨PyData.keyHash P (.ofString "__static_attributes__"), .str (.ofString "__static_attributes__") 285,(.ref 85)⟩,⟨PyData.keyHash P (.ofString "__doc__"), .str (.ofString "__doc__") 286, .none⟩] 2), #[]⟩) ::
 (nat_lit 87,⟨(.type "type"),none,(.cls ⟨(.ofString "BadText"),[(.ref 24)],[(.ref 87),(.ref 24),(.type "ValueError"),(.type "Exception"),(.type "BaseException"),(.type "object")],86,(.ofString "BadText"),true,[],[],false,none,false⟩), #[(some (.ref 71)),none,(some (.str (.ofString "BadText") 264)),(some (.str (.ofString "BadText") 272)),(some (.builtin "ValueError.__new__")),(some (.bool true))]⟩) ::
 (nat_lit 90,⟨(.type "tuple"),none,(.seq #[(.ref 24)] 0), #[]⟩) ::
 (nat_lit 97,⟨(.type "tuple"),none,(.seq #[] 0), #[]⟩) ::
 (nat_lit 99,⟨(.type "tuple"),none,(.seq #[(.str (.ofString "self") 304),(.str (.ofString "why") 305)] 0), #[]⟩) ::
 (nat_lit 100,⟨(.type "tuple"),none,(.seq #[] 0), #[]⟩) ::
 (nat_lit 102,⟨(.type "code"),none,(.fields #[(.str (.ofString "__init__") 301),(.str (.ofString "NoForm.__init__") 302),(.str (.ofString "/claim/cut.py") 303),(.int 18 0),(.int 2 0),(.int 0 0),(.int 0 0),(.int 3 0),(.ref 97),(.bool true),(.int 181 0),(.ref 98), .none,(.ref 99),(.ref 100),(.ref 101),(.int 306 0),(.int 18 0),(.str (.ofString "/claim/cut.py") 307)]), #[]⟩) ::
 (nat_lit 103,⟨(.type "function"),none,(.func (fnOf (.ofString "__init__") (.ofString "NoForm.__init__") (defArgs (inClass (top 6) 0)) (defBody (inClass (top 6) 0)) (defScope (inClass (top 6) 0)) .none .none .none (.str (.ofString "oddlong.errors") 187) none (.ref 102) .none)), #[]⟩) ::
 (nat_lit 104,⟨(.type "tuple"),none,(.seq #[(.str (.ofString "why") 309)] 0), #[]⟩) ::
 (nat_lit 105,⟨(.type "dict"),none,(.dict #[⟨PyData.keyHash P (.ofString "__module__"), .str (.ofString "__module__") 296,(.str (.ofString "oddlong.errors") 187)⟩,⟨PyData.keyHash P (.ofString "__firstlineno__"), .str (.ofString "__firstlineno__") 300,(.int 16 299)⟩,⟨PyData.keyHash P (.ofString "__init__"), .str (.ofString "__init__") 308,(.ref 103)⟩,⟨PyData.keyHash P (.ofString "__static_attributes__"), .str (.ofString "__static_attributes__") 310,(.ref 104)⟩,⟨PyData.keyHash P (.ofString "__doc__"), .str (.ofString "__doc__") 311, .none⟩] 2), #[]⟩) ::
 (nat_lit 106,⟨(.type "type"),none,(.cls ⟨(.ofString "NoForm"),[(.ref 24)],[(.ref 106),(.ref 24),(.type "ValueError"),(.type "Exception"),(.type "BaseException"),(.type "object")],105,(.ofString "NoForm"),true,[],[],false,none,false⟩), #[(some (.ref 90)),none,(some (.str (.ofString "NoForm") 289)),(some (.str (.ofString "NoForm") 297)),(some (.builtin "ValueError.__new__")),(some (.bool true))]⟩) ::
 (nat_lit 109,⟨(.type "tuple"),none,(.seq #[(.ref 24)] 0), #[]⟩) ::
 (nat_lit 116,⟨(.type "tuple"),none,(.seq #[] 0), #[]⟩) ::
 (nat_lit 118,⟨(.type "tuple"),none,(.seq #[(.str (.ofString "self") 329),(.str (.ofString "row") 330)] 0), #[]⟩) ::
 (nat_lit 119,⟨(.type "tuple"),none,(.seq #[] 0), #[]⟩) ::
 (nat_lit 121,⟨(.type "code"),none,(.fields #[(.str (.ofString "__init__") 326),(.str (.ofString "TooFar.__init__") 327),(.str (.ofString "/claim/cut.py") 328),(.int 22 0),(.int 2 0),(.int 0 0),(.int 0 0),(.int 3 0),(.ref 116),(.bool true),(.int 181 0),(.ref 117), .none,(.ref 118),(.ref 119),(.ref 120),(.int 331 0),(.int 22 0),(.str (.ofString "/claim/cut.py") 332)]), #[]⟩) ::
 (nat_lit 122,⟨(.type "function"),none,(.func (fnOf (.ofString "__init__") (.ofString "TooFar.__init__") (defArgs (inClass (top 7) 0)) (defBody (inClass (top 7) 0)) (defScope (inClass (top 7) 0)) .none .none .none (.str (.ofString "oddlong.errors") 187) none (.ref 121) .none)), #[]⟩) ::
 (nat_lit 123,⟨(.type "tuple"),none,(.seq #[(.str (.ofString "row") 334)] 0), #[]⟩) ::
 (nat_lit 124,⟨(.type "dict"),none,(.dict #[⟨PyData.keyHash P (.ofString "__module__"), .str (.ofString "__module__") 321,(.str (.ofString "oddlong.errors") 187)⟩,⟨PyData.keyHash P (.ofString "__firstlineno__"), .str (.ofString "__firstlineno__") 325,(.int 20 324)⟩,⟨PyData.keyHash P (.ofString "__init__"), .str (.ofString "__init__") 333,(.ref 122)⟩,⟨PyData.keyHash P (.ofString "__static_attributes__"), .str (.ofString "__static_attributes__") 335,(.ref 123)⟩,⟨PyData.keyHash P (.ofString "__doc__"), .str (.ofString "__doc__") 336, .none⟩] 2), #[]⟩) ::
 (nat_lit 125,⟨(.type "type"),none,(.cls ⟨(.ofString "TooFar"),[(.ref 24)],[(.ref 125),(.ref 24),(.type "ValueError"),(.type "Exception"),(.type "BaseException"),(.type "object")],124,(.ofString "TooFar"),true,[],[],false,none,false⟩), #[(some (.ref 109)),none,(some (.str (.ofString "TooFar") 314)),(some (.str (.ofString "TooFar") 322)),(some (.builtin "ValueError.__new__")),(some (.bool true))]⟩) ::
 (nat_lit 128,⟨(.type "tuple"),none,(.seq #[(.ref 24)] 0), #[]⟩) ::
 (nat_lit 135,⟨(.type "tuple"),none,(.seq #[] 0), #[]⟩) ::
 (nat_lit 137,⟨(.type "tuple"),none,(.seq #[(.str (.ofString "self") 354),(.str (.ofString "place") 355)] 0), #[]⟩) ::
 (nat_lit 138,⟨(.type "tuple"),none,(.seq #[] 0), #[]⟩) ::
 (nat_lit 140,⟨(.type "code"),none,(.fields #[(.str (.ofString "__init__") 351),(.str (.ofString "NoTarget.__init__") 352),(.str (.ofString "/claim/cut.py") 353),(.int 26 0),(.int 2 0),(.int 0 0),(.int 0 0),(.int 3 0),(.ref 135),(.bool true),(.int 181 0),(.ref 136), .none,(.ref 137),(.ref 138),(.ref 139),(.int 356 0),(.int 26 0),(.str (.ofString "/claim/cut.py") 357)]), #[]⟩) ::
 (nat_lit 141,⟨(.type "function"),none,(.func (fnOf (.ofString "__init__") (.ofString "NoTarget.__init__") (defArgs (inClass (top 8) 0)) (defBody (inClass (top 8) 0)) (defScope (inClass (top 8) 0)) .none .none .none (.str (.ofString "oddlong.errors") 187) none (.ref 140) .none)), #[]⟩) ::
 (nat_lit 142,⟨(.type "tuple"),none,(.seq #[(.str (.ofString "place") 359)] 0), #[]⟩) ::
 (nat_lit 143,⟨(.type "dict"),none,(.dict #[⟨PyData.keyHash P (.ofString "__module__"), .str (.ofString "__module__") 346,(.str (.ofString "oddlong.errors") 187)⟩,⟨PyData.keyHash P (.ofString "__firstlineno__"), .str (.ofString "__firstlineno__") 350,(.int 24 349)⟩,⟨PyData.keyHash P (.ofString "__init__"), .str (.ofString "__init__") 358,(.ref 141)⟩,⟨PyData.keyHash P (.ofString "__static_attributes__"), .str (.ofString "__static_attributes__") 360,(.ref 142)⟩,⟨PyData.keyHash P (.ofString "__doc__"), .str (.ofString "__doc__") 361, .none⟩] 2), #[]⟩) ::
 (nat_lit 144,⟨(.type "type"),none,(.cls ⟨(.ofString "NoTarget"),[(.ref 24)],[(.ref 144),(.ref 24),(.type "ValueError"),(.type "Exception"),(.type "BaseException"),(.type "object")],143,(.ofString "NoTarget"),true,[],[],false,none,false⟩), #[(some (.ref 128)),none,(some (.str (.ofString "NoTarget") 339)),(some (.str (.ofString "NoTarget") 347)),(some (.builtin "ValueError.__new__")),(some (.bool true))]⟩) ::
 (nat_lit 147,⟨(.type "tuple"),none,(.seq #[(.ref 24)] 0), #[]⟩) ::
 (nat_lit 154,⟨(.type "tuple"),none,(.seq #[] 0), #[]⟩) ::
 (nat_lit 156,⟨(.type "tuple"),none,(.seq #[(.str (.ofString "self") 379),(.str (.ofString "row") 380)] 0), #[]⟩) ::
 (nat_lit 157,⟨(.type "tuple"),none,(.seq #[] 0), #[]⟩) ::
 (nat_lit 159,⟨(.type "code"),none,(.fields #[(.str (.ofString "__init__") 376),(.str (.ofString "BadRow.__init__") 377),(.str (.ofString "/claim/cut.py") 378),(.int 30 0),(.int 2 0),(.int 0 0),(.int 0 0),(.int 3 0),(.ref 154),(.bool true),(.int 181 0),(.ref 155), .none,(.ref 156),(.ref 157),(.ref 158),(.int 381 0),(.int 30 0),(.str (.ofString "/claim/cut.py") 382)]), #[]⟩) ::
 (nat_lit 160,⟨(.type "function"),none,(.func (fnOf (.ofString "__init__") (.ofString "BadRow.__init__") (defArgs (inClass (top 9) 0)) (defBody (inClass (top 9) 0)) (defScope (inClass (top 9) 0)) .none .none .none (.str (.ofString "oddlong.errors") 187) none (.ref 159) .none)), #[]⟩) ::
 (nat_lit 161,⟨(.type "tuple"),none,(.seq #[(.str (.ofString "row") 384)] 0), #[]⟩) ::
 (nat_lit 162,⟨(.type "dict"),none,(.dict #[⟨PyData.keyHash P (.ofString "__module__"), .str (.ofString "__module__") 371,(.str (.ofString "oddlong.errors") 187)⟩,⟨PyData.keyHash P (.ofString "__firstlineno__"), .str (.ofString "__firstlineno__") 375,(.int 28 374)⟩,⟨PyData.keyHash P (.ofString "__init__"), .str (.ofString "__init__") 383,(.ref 160)⟩,⟨PyData.keyHash P (.ofString "__static_attributes__"), .str (.ofString "__static_attributes__") 385,(.ref 161)⟩,⟨PyData.keyHash P (.ofString "__doc__"), .str (.ofString "__doc__") 386, .none⟩] 2), #[]⟩) ::
 (nat_lit 163,⟨(.type "type"),none,(.cls ⟨(.ofString "BadRow"),[(.ref 24)],[(.ref 163),(.ref 24),(.type "ValueError"),(.type "Exception"),(.type "BaseException"),(.type "object")],162,(.ofString "BadRow"),true,[],[],false,none,false⟩), #[(some (.ref 147)),none,(some (.str (.ofString "BadRow") 364)),(some (.str (.ofString "BadRow") 372)),(some (.builtin "ValueError.__new__")),(some (.bool true))]⟩) ::
 (nat_lit 166,⟨(.type "tuple"),none,(.seq #[(.str (.ofString "a") 395),(.str (.ofString "b") 396),(.str (.ofString "c") 397),(.str (.ofString "d") 398)] 0), #[]⟩) ::
 (nat_lit 167,⟨(.type "tuple"),none,(.seq #[(.str (.ofString "set") 402),(.str (.ofString "add") 403),(.str (.ofString "take") 404),(.str (.ofString "tell") 405),(.str (.ofString "ask") 406),(.str (.ofString "jump") 407),(.str (.ofString "zero") 408),(.str (.ofString "stop") 409)] 0), #[]⟩) ::
 (nat_lit 168,⟨(.type "dict"),none,(.dict #[⟨PyData.keyHash P (.ofString "set"), .str (.ofString "set") 411,(.ref 169)⟩,⟨PyData.keyHash P (.ofString "add"), .str (.ofString "add") 414,(.ref 170)⟩,⟨PyData.keyHash P (.ofString "take"), .str (.ofString "take") 417,(.ref 171)⟩,⟨PyData.keyHash P (.ofString "tell"), .str (.ofString "tell") 420,(.ref 172)⟩,⟨PyData.keyHash P (.ofString "ask"), .str (.ofString "ask") 422,(.ref 173)⟩,⟨PyData.keyHash P (.ofString "jump"), .str (.ofString "jump") 424,(.ref 174)⟩,⟨PyData.keyHash P (.ofString "zero"), .str (.ofString "zero") 426,(.ref 175)⟩,⟨PyData.keyHash P (.ofString "stop"), .str (.ofString "stop") 429,(.ref 176)⟩,⟨PyData.keyHash P (.ofString "farjump"), .str (.ofString "farjump") 430,(.ref 177)⟩,⟨PyData.keyHash P (.ofString "farzero"), .str (.ofString "farzero") 432,(.ref 178)⟩,⟨PyData.keyHash P (.ofString "skip"), .str (.ofString "skip") 435,(.ref 179)⟩] 11), #[]⟩) ::
 (nat_lit 169,⟨(.type "tuple"),none,(.seq #[(.str (.ofString "spot") 412),(.str (.ofString "number") 413)] 0), #[]⟩) ::
 (nat_lit 170,⟨(.type "tuple"),none,(.seq #[(.str (.ofString "spot") 415),(.str (.ofString "spot") 416)] 0), #[]⟩) ::
 (nat_lit 171,⟨(.type "tuple"),none,(.seq #[(.str (.ofString "spot") 418),(.str (.ofString "spot") 419)] 0), #[]⟩) ::
 (nat_lit 172,⟨(.type "tuple"),none,(.seq #[(.str (.ofString "spot") 421)] 0), #[]⟩) ::
 (nat_lit 173,⟨(.type "tuple"),none,(.seq #[(.str (.ofString "spot") 423)] 0), #[]⟩) ::
 (nat_lit 174,⟨(.type "tuple"),none,(.seq #[(.str (.ofString "near") 425)] 0), #[]⟩) ::
 (nat_lit 175,⟨(.type "tuple"),none,(.seq #[(.str (.ofString "spot") 427),(.str (.ofString "near") 428)] 0), #[]⟩) ::
 (nat_lit 176,⟨(.type "tuple"),none,(.seq #[] 0), #[]⟩) ::
 (nat_lit 177,⟨(.type "tuple"),none,(.seq #[(.str (.ofString "far") 431)] 0), #[]⟩) ::
 (nat_lit 178,⟨(.type "tuple"),none,(.seq #[(.str (.ofString "spot") 433),(.str (.ofString "far") 434)] 0), #[]⟩) ::
 (nat_lit 179,⟨(.type "tuple"),none,(.seq #[(.str (.ofString "many") 436)] 0), #[]⟩) ::
 (nat_lit 180,⟨(.type "tuple"),none,(.seq #[] 0), #[]⟩) ::
 (nat_lit 182,⟨(.type "tuple"),none,(.seq #[(.str (.ofString "text") 452),(.str (.ofString "signs") 453)] 0), #[]⟩) ::
 (nat_lit 183,⟨(.type "tuple"),none,(.seq #[] 0), #[]⟩) ::
 (nat_lit 185,⟨(.type "code"),none,(.fields #[(.str (.ofString "made_of") 449),(.str (.ofString "made_of") 450),(.str (.ofString "/claim/cut.py") 451),(.int 39 0),(.int 2 0),(.int 0 0),(.int 0 0),(.int 3 0),(.ref 180),(.bool true),(.int 181 0),(.ref 181), .none,(.ref 182),(.ref 183),(.ref 184),(.int 454 0),(.int 39 0),(.str (.ofString "/claim/cut.py") 455)]), #[]⟩) ::
 (nat_lit 186,⟨(.type "function"),none,(.func (fnOf (.ofString "made_of") (.ofString "made_of") (defArgs (top 17)) (defBody (top 17)) (defScope (top 17)) .none .none .none (.str (.ofString "oddlong.shared") 389) none (.ref 185) .none)), #[]⟩) ::
 (nat_lit 187,⟨(.type "tuple"),none,(.seq #[] 0), #[]⟩) ::
 (nat_lit 189,⟨(.type "tuple"),none,(.seq #[(.str (.ofString "thing") 460)] 0), #[]⟩) ::
 (nat_lit 190,⟨(.type "tuple"),none,(.seq #[] 0), #[]⟩) ::
 (nat_lit 192,⟨(.type "code"),none,(.fields #[(.str (.ofString "is_name") 457),(.str (.ofString "is_name") 458),(.str (.ofString "/claim/cut.py") 459),(.int 41 0),(.int 1 0),(.int 0 0),(.int 0 0),(.int 3 0),(.ref 187),(.bool true),(.int 181 0),(.ref 188), .none,(.ref 189),(.ref 190),(.ref 191),(.int 461 0),(.int 41 0),(.str (.ofString "/claim/cut.py") 462)]), #[]⟩) ::
 (nat_lit 193,⟨(.type "function"),none,(.func (fnOf (.ofString "is_name") (.ofString "is_name") (defArgs (top 18)) (defBody (top 18)) (defScope (top 18)) .none .none .none (.str (.ofString "oddlong.shared") 389) none (.ref 192) .none)), #[]⟩) ::
 (nat_lit 194,⟨(.type "tuple"),none,(.seq #[] 0), #[]⟩) ::
 (nat_lit 196,⟨(.type "tuple"),none,(.seq #[(.str (.ofString "text") 473),(.str (.ofString "rows") 474),(.str (.ofString "places") 475),(.str (.ofString "labels") 476),(.str (.ofString "program") 477),(.str (.ofString "at") 478),(.str (.ofString "row") 479),(.str (.ofString "name") 480),(.str (.ofString "read") 481)] 0), #[]⟩) ::
 (nat_lit 197,⟨(.type "tuple"),none,(.seq #[] 0), #[]⟩) ::
 (nat_lit 199,⟨(.type "code"),none,(.fields #[(.str (.ofString "read_program") 470),(.str (.ofString "read_program") 471),(.str (.ofString "/claim/cut.py") 472),(.int 46 0),(.int 1 0),(.int 0 0),(.int 0 0),(.int 3 0),(.ref 194),(.bool true),(.int 181 0),(.ref 195), .none,(.ref 196),(.ref 197),(.ref 198),(.int 482 0),(.int 46 0),(.str (.ofString "/claim/cut.py") 483)]), #[]⟩) ::
 (nat_lit 200,⟨(.type "function"),none,(.func (fnOf (.ofString "read_program") (.ofString "read_program") (defArgs (top 22)) (defBody (top 22)) (defScope (top 22)) .none .none .none (.str (.ofString "oddlong.sheet") 464) none (.ref 199) .none)), #[]⟩) ::
 (nat_lit 201,⟨(.type "tuple"),none,(.seq #[] 0), #[]⟩) ::
 (nat_lit 203,⟨(.type "tuple"),none,(.seq #[(.str (.ofString "rows") 488),(.str (.ofString "places") 489),(.str (.ofString "many") 490),(.str (.ofString "row") 491),(.str (.ofString "name") 492)] 0), #[]⟩) ::
 (nat_lit 204,⟨(.type "tuple"),none,(.seq #[] 0), #[]⟩) ::
 (nat_lit 206,⟨(.type "code"),none,(.fields #[(.str (.ofString "label_places") 485),(.str (.ofString "label_places") 486),(.str (.ofString "/claim/cut.py") 487),(.int 63 0),(.int 1 0),(.int 0 0),(.int 0 0),(.int 3 0),(.ref 201),(.bool true),(.int 181 0),(.ref 202), .none,(.ref 203),(.ref 204),(.ref 205),(.int 493 0),(.int 63 0),(.str (.ofString "/claim/cut.py") 494)]), #[]⟩) ::
 (nat_lit 207,⟨(.type "function"),none,(.func (fnOf (.ofString "label_places") (.ofString "label_places") (defArgs (top 23)) (defBody (top 23)) (defScope (top 23)) .none .none .none (.str (.ofString "oddlong.sheet") 464) none (.ref 206) .none)), #[]⟩) ::
 (nat_lit 208,⟨(.type "tuple"),none,(.seq #[] 0), #[]⟩) ::
 (nat_lit 210,⟨(.type "tuple"),none,(.seq #[(.str (.ofString "row") 499)] 0), #[]⟩) ::
 (nat_lit 211,⟨(.type "tuple"),none,(.seq #[] 0), #[]⟩) ::
 (nat_lit 213,⟨(.type "code"),none,(.fields #[(.str (.ofString "label_in") 496),(.str (.ofString "label_in") 497),(.str (.ofString "/claim/cut.py") 498),(.int 73 0),(.int 1 0),(.int 0 0),(.int 0 0),(.int 3 0),(.ref 208),(.bool true),(.int 181 0),(.ref 209), .none,(.ref 210),(.ref 211),(.ref 212),(.int 500 0),(.int 73 0),(.str (.ofString "/claim/cut.py") 501)]), #[]⟩) ::
 (nat_lit 214,⟨(.type "function"),none,(.func (fnOf (.ofString "label_in") (.ofString "label_in") (defArgs (top 24)) (defBody (top 24)) (defScope (top 24)) .none .none .none (.str (.ofString "oddlong.sheet") 464) none (.ref 213) .none)), #[]⟩) ::
 (nat_lit 215,⟨(.type "tuple"),none,(.seq #[] 0), #[]⟩) ::
 (nat_lit 218,⟨(.type "code"),none,(.fields #[(.str (.ofString "row_in") 503),(.str (.ofString "row_in") 504),(.str (.ofString "/claim/cut.py") 505),(.int 75 0),(.int 2 0),(.int 0 0),(.int 0 0),(.int 3 0),(.ref 215),(.bool true),(.int 181 0),(.ref 216), .none, .none, .none,(.ref 217),(.int 506 0),(.int 75 0),(.str (.ofString "/claim/cut.py") 507)]), #[]⟩) ::
 (nat_lit 219,⟨(.type "function"),none,(.func (fnOf (.ofString "row_in") (.ofString "row_in") (defArgs (top 25)) (defBody (top 25)) (defScope (top 25)) .none .none .none (.str (.ofString "oddlong.sheet") 464) none (.ref 218) .none)), #[]⟩) ::
 (nat_lit 220,⟨(.type "tuple"),none,(.seq #[] 0), #[]⟩) ::
 (nat_lit 222,⟨(.type "tuple"),none,(.seq #[(.str (.ofString "part") 512),(.str (.ofString "word") 513),(.str (.ofString "places") 514)] 0), #[]⟩) ::
 (nat_lit 223,⟨(.type "tuple"),none,(.seq #[] 0), #[]⟩) ::
 (nat_lit 225,⟨(.type "code"),none,(.fields #[(.str (.ofString "value_in") 509),(.str (.ofString "value_in") 510),(.str (.ofString "/claim/cut.py") 511),(.int 82 0),(.int 3 0),(.int 0 0),(.int 0 0),(.int 3 0),(.ref 220),(.bool true),(.int 181 0),(.ref 221), .none,(.ref 222),(.ref 223),(.ref 224),(.int 515 0),(.int 82 0),(.str (.ofString "/claim/cut.py") 516)]), #[]⟩) ::
 (nat_lit 226,⟨(.type "function"),none,(.func (fnOf (.ofString "value_in") (.ofString "value_in") (defArgs (top 26)) (defBody (top 26)) (defScope (top 26)) .none .none .none (.str (.ofString "oddlong.sheet") 464) none (.ref 225) .none)), #[]⟩) ::
 (nat_lit 227,⟨(.type "tuple"),none,(.seq #[] 0), #[]⟩) ::
 (nat_lit 229,⟨(.type "tuple"),none,(.seq #[(.str (.ofString "word") 521),(.str (.ofString "number") 522)] 0), #[]⟩) ::
 (nat_lit 230,⟨(.type "tuple"),none,(.seq #[] 0), #[]⟩) ::
 (nat_lit 232,⟨(.type "code"),none,(.fields #[(.str (.ofString "number_in") 518),(.str (.ofString "number_in") 519),(.str (.ofString "/claim/cut.py") 520),(.int 88 0),(.int 1 0),(.int 0 0),(.int 0 0),(.int 3 0),(.ref 227),(.bool true),(.int 181 0),(.ref 228), .none,(.ref 229),(.ref 230),(.ref 231),(.int 523 0),(.int 88 0),(.str (.ofString "/claim/cut.py") 524)]), #[]⟩) ::
 (nat_lit 233,⟨(.type "function"),none,(.func (fnOf (.ofString "number_in") (.ofString "number_in") (defArgs (top 27)) (defBody (top 27)) (defScope (top 27)) .none .none .none (.str (.ofString "oddlong.sheet") 464) none (.ref 232) .none)), #[]⟩) ::
 (nat_lit 234,⟨(.type "tuple"),none,(.seq #[] 0), #[]⟩) ::
 (nat_lit 236,⟨(.type "tuple"),none,(.seq #[(.str (.ofString "_law_script") 531),(.str (.ofString "_law_cells") 532)] 0), #[]⟩) ::
 (nat_lit 237,⟨(.type "tuple"),none,(.seq #[] 0), #[]⟩) ::
 (nat_lit 239,⟨(.type "code"),none,(.fields #[(.str (.ofString "_law_begin") 528),(.str (.ofString "_law_begin") 529),(.str (.ofString "/claim/cut.py") 530),(.int 94 0),(.int 1 0),(.int 0 0),(.int 0 0),(.int 3 0),(.ref 234),(.bool true),(.int 181 0),(.ref 235), .none,(.ref 236),(.ref 237),(.ref 238),(.int 533 0),(.int 94 0),(.str (.ofString "/claim/cut.py") 534)]), #[]⟩) ::
 (nat_lit 240,⟨(.type "function"),none,(.func (fnOf (.ofString "_law_begin") (.ofString "_law_begin") (defArgs (top 29)) (defBody (top 29)) (defScope (top 29)) .none .none .none (.str (.ofString "law_oddlong_k81_sheets_spoilt_anywhere") 526) none (.ref 239) .none)), #[]⟩) ::
 (nat_lit 241,⟨(.type "tuple"),none,(.seq #[] 0), #[]⟩) ::
 (nat_lit 243,⟨(.type "tuple"),none,(.seq #[(.str (.ofString "_law_state") 539),(.str (.ofString "_law_many_here") 540),(.str (.ofString "_law_turn") 541),(.str (.ofString "_law_place") 542),(.str (.ofString "_law_cell") 543),(.str (.ofString "_law_digit") 544),(.str (.ofString "_law_mixed") 545)] 0), #[]⟩) ::
 (nat_lit 244,⟨(.type "tuple"),none,(.seq #[] 0), #[]⟩) ::
 (nat_lit 246,⟨(.type "code"),none,(.fields #[(.str (.ofString "_law_take") 536),(.str (.ofString "_law_take") 537),(.str (.ofString "/claim/cut.py") 538),(.int 99 0),(.int 2 0),(.int 0 0),(.int 0 0),(.int 3 0),(.ref 241),(.bool true),(.int 181 0),(.ref 242), .none,(.ref 243),(.ref 244),(.ref 245),(.int 546 0),(.int 99 0),(.str (.ofString "/claim/cut.py") 547)]), #[]⟩) ::
 (nat_lit 247,⟨(.type "function"),none,(.func (fnOf (.ofString "_law_take") (.ofString "_law_take") (defArgs (top 30)) (defBody (top 30)) (defScope (top 30)) .none .none .none (.str (.ofString "law_oddlong_k81_sheets_spoilt_anywhere") 526) none (.ref 246) .none)), #[]⟩) ::
 (nat_lit 248,⟨(.type "tuple"),none,(.seq #[] 0), #[]⟩) ::
 (nat_lit 250,⟨(.type "tuple"),none,(.seq #[(.str (.ofString "_law_state") 552),(.str (.ofString "_law_many_here") 553),(.str (.ofString "_law_found") 554),(.str (.ofString "_law_k") 555),(.str (.ofString "_law_way") 556),(.str (.ofString "_law_spot") 557),(.str (.ofString "_law_other") 558),(.str (.ofString "_law_at") 559)] 0), #[]⟩) ::
 (nat_lit 251,⟨(.type "tuple"),none,(.seq #[] 0), #[]⟩) ::
 (nat_lit 253,⟨(.type "code"),none,(.fields #[(.str (.ofString "_law_program") 549),(.str (.ofString "_law_program") 550),(.str (.ofString "/claim/cut.py") 551),(.int 110 0),(.int 2 0),(.int 0 0),(.int 0 0),(.int 3 0),(.ref 248),(.bool true),(.int 181 0),(.ref 249), .none,(.ref 250),(.ref 251),(.ref 252),(.int 560 0),(.int 110 0),(.str (.ofString "/claim/cut.py") 561)]), #[]⟩) ::
 (nat_lit 254,⟨(.type "function"),none,(.func (fnOf (.ofString "_law_program") (.ofString "_law_program") (defArgs (top 31)) (defBody (top 31)) (defScope (top 31)) .none .none .none (.str (.ofString "law_oddlong_k81_sheets_spoilt_anywhere") 526) none (.ref 253) .none)), #[]⟩) ::
 (nat_lit 255,⟨(.type "tuple"),none,(.seq #[] 0), #[]⟩) ::
 (nat_lit 258,⟨(.type "code"),none,(.fields #[(.str (.ofString "_law_word") 563),(.str (.ofString "_law_word") 564),(.str (.ofString "/claim/cut.py") 565),(.int 128 0),(.int 2 0),(.int 0 0),(.int 0 0),(.int 3 0),(.ref 255),(.bool true),(.int 181 0),(.ref 256), .none, .none, .none,(.ref 257),(.int 566 0),(.int 128 0),(.str (.ofString "/claim/cut.py") 567)]), #[]⟩) ::
 (nat_lit 259,⟨(.type "function"),none,(.func (fnOf (.ofString "_law_word") (.ofString "_law_word") (defArgs (top 32)) (defBody (top 32)) (defScope (top 32)) .none .none .none (.str (.ofString "law_oddlong_k81_sheets_spoilt_anywhere") 526) none (.ref 258) .none)), #[]⟩) ::
 (nat_lit 260,⟨(.type "tuple"),none,(.seq #[] 0), #[]⟩) ::
 (nat_lit 263,⟨(.type "code"),none,(.fields #[(.str (.ofString "_law_is_name") 569),(.str (.ofString "_law_is_name") 570),(.str (.ofString "/claim/cut.py") 571),(.int 131 0),(.int 1 0),(.int 0 0),(.int 0 0),(.int 3 0),(.ref 260),(.bool true),(.int 181 0),(.ref 261), .none, .none, .none,(.ref 262),(.int 572 0),(.int 131 0),(.str (.ofString "/claim/cut.py") 573)]), #[]⟩) ::
 (nat_lit 264,⟨(.type "function"),none,(.func (fnOf (.ofString "_law_is_name") (.ofString "_law_is_name") (defArgs (top 33)) (defBody (top 33)) (defScope (top 33)) .none .none .none (.str (.ofString "law_oddlong_k81_sheets_spoilt_anywhere") 526) none (.ref 263) .none)), #[]⟩) ::
 (nat_lit 265,⟨(.type "tuple"),none,(.seq #[] 0), #[]⟩) ::
 (nat_lit 268,⟨(.type "code"),none,(.fields #[(.str (.ofString "_law_is_figures") 575),(.str (.ofString "_law_is_figures") 576),(.str (.ofString "/claim/cut.py") 577),(.int 133 0),(.int 1 0),(.int 0 0),(.int 0 0),(.int 3 0),(.ref 265),(.bool true),(.int 181 0),(.ref 266), .none, .none, .none,(.ref 267),(.int 578 0),(.int 133 0),(.str (.ofString "/claim/cut.py") 579)]), #[]⟩) ::
 (nat_lit 269,⟨(.type "function"),none,(.func (fnOf (.ofString "_law_is_figures") (.ofString "_law_is_figures") (defArgs (top 34)) (defBody (top 34)) (defScope (top 34)) .none .none .none (.str (.ofString "law_oddlong_k81_sheets_spoilt_anywhere") 526) none (.ref 268) .none)), #[]⟩) ::
 (nat_lit 270,⟨(.type "tuple"),none,(.seq #[] 0), #[]⟩) ::
 (nat_lit 272,⟨(.type "tuple"),none,(.seq #[(.str (.ofString "_law_words") 584),(.str (.ofString "_law_fine") 585)] 0), #[]⟩) ::
 (nat_lit 273,⟨(.type "tuple"),none,(.seq #[] 0), #[]⟩) ::
 (nat_lit 275,⟨(.type "code"),none,(.fields #[(.str (.ofString "_law_row_told") 581),(.str (.ofString "_law_row_told") 582),(.str (.ofString "/claim/cut.py") 583),(.int 137 0),(.int 1 0),(.int 0 0),(.int 0 0),(.int 3 0),(.ref 270),(.bool true),(.int 181 0),(.ref 271), .none,(.ref 272),(.ref 273),(.ref 274),(.int 586 0),(.int 137 0),(.str (.ofString "/claim/cut.py") 587)]), #[]⟩) ::
 (nat_lit 276,⟨(.type "function"),none,(.func (fnOf (.ofString "_law_row_told") (.ofString "_law_row_told") (defArgs (top 35)) (defBody (top 35)) (defScope (top 35)) .none .none .none (.str (.ofString "law_oddlong_k81_sheets_spoilt_anywhere") 526) none (.ref 275) .none)), #[]⟩) ::
 (nat_lit 277,⟨(.type "tuple"),none,(.seq #[] 0), #[]⟩) ::
 (nat_lit 280,⟨(.type "code"),none,(.fields #[(.str (.ofString "_law_read") 589),(.str (.ofString "_law_read") 590),(.str (.ofString "/claim/cut.py") 591),(.int 154 0),(.int 1 0),(.int 0 0),(.int 0 0),(.int 3 0),(.ref 277),(.bool true),(.int 181 0),(.ref 278), .none, .none, .none,(.ref 279),(.int 592 0),(.int 154 0),(.str (.ofString "/claim/cut.py") 593)]), #[]⟩) ::
 (nat_lit 281,⟨(.type "function"),none,(.func (fnOf (.ofString "_law_read") (.ofString "_law_read") (defArgs (top 36)) (defBody (top 36)) (defScope (top 36)) .none .none .none (.str (.ofString "law_oddlong_k81_sheets_spoilt_anywhere") 526) none (.ref 280) .none)), #[]⟩) ::
 (nat_lit 282,⟨(.type "tuple"),none,(.seq #[] 0), #[]⟩) ::
 (nat_lit 285,⟨(.type "code"),none,(.fields #[(.str (.ofString "_law_sheet") 595),(.str (.ofString "_law_sheet") 596),(.str (.ofString "/claim/cut.py") 597),(.int 171 0),(.int 3 0),(.int 0 0),(.int 0 0),(.int 3 0),(.ref 282),(.bool true),(.int 181 0),(.ref 283), .none, .none, .none,(.ref 284),(.int 598 0),(.int 171 0),(.str (.ofString "/claim/cut.py") 599)]), #[]⟩) ::
 (nat_lit 286,⟨(.type "function"),none,(.func (fnOf (.ofString "_law_sheet") (.ofString "_law_sheet") (defArgs (top 37)) (defBody (top 37)) (defScope (top 37)) .none .none .none (.str (.ofString "law_oddlong_k81_sheets_spoilt_anywhere") 526) none (.ref 285) .none)), #[]⟩) ::
 (nat_lit 287,⟨(.type "tuple"),none,(.seq #[] 0), #[]⟩) ::
 (nat_lit 289,⟨(.type "tuple"),none,(.seq #[] 0), #[]⟩) ::
 (nat_lit 290,⟨(.type "tuple"),none,(.seq #[] 0), #[]⟩) ::
 (nat_lit 292,⟨(.type "code"),none,(.fields #[(.str (.ofString "_law_signs") 601),(.str (.ofString "_law_signs") 602),(.str (.ofString "/claim/cut.py") 603),(.int 191 0),(.int 0 0),(.int 0 0),(.int 0 0),(.int 3 0),(.ref 287),(.bool true),(.int 181 0),(.ref 288), .none,(.ref 289),(.ref 290),(.ref 291),(.int 604 0),(.int 191 0),(.str (.ofString "/claim/cut.py") 605)]), #[]⟩) ::
 (nat_lit 293,⟨(.type "function"),none,(.func (fnOf (.ofString "_law_signs") (.ofString "_law_signs") (defArgs (top 38)) (defBody (top 38)) (defScope (top 38)) .none .none .none (.str (.ofString "law_oddlong_k81_sheets_spoilt_anywhere") 526) none (.ref 292) .none)), #[]⟩) ::
 (nat_lit 294,⟨(.type "tuple"),none,(.seq #[] 0), #[]⟩) ::
 (nat_lit 296,⟨(.type "tuple"),none,(.seq #[(.str (.ofString "_law_state") 610),(.str (.ofString "_law_text") 611),(.str (.ofString "_law_way") 612),(.str (.ofString "_law_near") 613),(.str (.ofString "_law_signs_here") 614),(.str (.ofString "_law_sign") 615),(.str (.ofString "_law_at") 616),(.str (.ofString "_law_ahead") 617),(.str (.ofString "_law_here") 618),(.str (.ofString "_law_behind") 619),(.str (.ofString "_law_some") 620)] 0), #[]⟩) ::
 (nat_lit 297,⟨(.type "tuple"),none,(.seq #[] 0), #[]⟩) ::
 (nat_lit 299,⟨(.type "code"),none,(.fields #[(.str (.ofString "_law_spelt") 607),(.str (.ofString "_law_spelt") 608),(.str (.ofString "/claim/cut.py") 609),(.int 193 0),(.int 2 0),(.int 0 0),(.int 0 0),(.int 3 0),(.ref 294),(.bool true),(.int 181 0),(.ref 295), .none,(.ref 296),(.ref 297),(.ref 298),(.int 621 0),(.int 193 0),(.str (.ofString "/claim/cut.py") 622)]), #[]⟩) ::
 (nat_lit 300,⟨(.type "function"),none,(.func (fnOf (.ofString "_law_spelt") (.ofString "_law_spelt") (defArgs (top 39)) (defBody (top 39)) (defScope (top 39)) .none .none .none (.str (.ofString "law_oddlong_k81_sheets_spoilt_anywhere") 526) none (.ref 299) .none)), #[]⟩) ::
 (nat_lit 301,⟨(.type "tuple"),none,(.seq #[] 0), #[]⟩) ::
 (nat_lit 303,⟨(.type "tuple"),none,(.seq #[(.str (.ofString "_law_state") 627),(.str (.ofString "_law_text") 628),(.str (.ofString "_law_way") 629),(.str (.ofString "_law_odd") 630),(.str (.ofString "_law_row") 631),(.str (.ofString "_law_rows") 632),(.str (.ofString "_law_at") 633),(.str (.ofString "_law_ahead") 634),(.str (.ofString "_law_here") 635),(.str (.ofString "_law_behind") 636),(.str (.ofString "_law_some") 637)] 0), #[]⟩) ::
 (nat_lit 304,⟨(.type "tuple"),none,(.seq #[] 0), #[]⟩) ::
 (nat_lit 306,⟨(.type "code"),none,(.fields #[(.str (.ofString "_law_line_spelt") 624),(.str (.ofString "_law_line_spelt") 625),(.str (.ofString "/claim/cut.py") 626),(.int 204 0),(.int 2 0),(.int 0 0),(.int 0 0),(.int 3 0),(.ref 301),(.bool true),(.int 181 0),(.ref 302), .none,(.ref 303),(.ref 304),(.ref 305),(.int 638 0),(.int 204 0),(.str (.ofString "/claim/cut.py") 639)]), #[]⟩) ::
 (nat_lit 307,⟨(.type "function"),none,(.func (fnOf (.ofString "_law_line_spelt") (.ofString "_law_line_spelt") (defArgs (top 40)) (defBody (top 40)) (defScope (top 40)) .none .none .none (.str (.ofString "law_oddlong_k81_sheets_spoilt_anywhere") 526) none (.ref 306) .none)), #[]⟩) ::
 (nat_lit 308,⟨(.type "tuple"),none,(.seq #[] 0), #[]⟩) ::
 (nat_lit 310,⟨(.type "tuple"),none,(.seq #[(.str (.ofString "_law_text") 644),(.str (.ofString "_law_caught") 645),(.str (.ofString "_law_told") 646),(.str (.ofString "error") 647),(.str (.ofString "_law_others") 648)] 0), #[]⟩) ::
 (nat_lit 311,⟨(.type "tuple"),none,(.seq #[] 0), #[]⟩) ::
 (nat_lit 313,⟨(.type "code"),none,(.fields #[(.str (.ofString "_law_refused") 641),(.str (.ofString "_law_refused") 642),(.str (.ofString "/claim/cut.py") 643),(.int 214 0),(.int 1 0),(.int 0 0),(.int 0 0),(.int 3 0),(.ref 308),(.bool true),(.int 181 0),(.ref 309), .none,(.ref 310),(.ref 311),(.ref 312),(.int 649 0),(.int 214 0),(.str (.ofString "/claim/cut.py") 650)]), #[]⟩) ::
 (nat_lit 314,⟨(.type "function"),none,(.func (fnOf (.ofString "_law_refused") (.ofString "_law_refused") (defArgs (top 41)) (defBody (top 41)) (defScope (top 41)) .none .none .none (.str (.ofString "law_oddlong_k81_sheets_spoilt_anywhere") 526) none (.ref 313) .none)), #[]⟩) ::
 (nat_lit 315,⟨(.type "tuple"),none,(.seq #[] 0), #[]⟩) ::
 (nat_lit 317,⟨(.type "tuple"),none,(.seq #[(.str (.ofString "_law_state") 655)] 0), #[]⟩) ::
 (nat_lit 318,⟨(.type "tuple"),none,(.seq #[] 0), #[]⟩) ::
 (nat_lit 320,⟨(.type "code"),none,(.fields #[(.str (.ofString "_law_many") 652),(.str (.ofString "_law_many") 653),(.str (.ofString "/claim/cut.py") 654),(.int 228 0),(.int 1 0),(.int 0 0),(.int 0 0),(.int 3 0),(.ref 315),(.bool true),(.int 181 0),(.ref 316), .none,(.ref 317),(.ref 318),(.ref 319),(.int 656 0),(.int 228 0),(.str (.ofString "/claim/cut.py") 657)]), #[]⟩) ::
 (nat_lit 321,⟨(.type "function"),none,(.func (fnOf (.ofString "_law_many") (.ofString "_law_many") (defArgs (top 42)) (defBody (top 42)) (defScope (top 42)) .none .none .none (.str (.ofString "law_oddlong_k81_sheets_spoilt_anywhere") 526) none (.ref 320) .none)), #[]⟩) ::
 (nat_lit 322,⟨(.type "tuple"),none,(.seq #[] 0), #[]⟩) ::
 (nat_lit 325,⟨(.type "code"),none,(.fields #[(.str (.ofString "_law_same") 659),(.str (.ofString "_law_same") 660),(.str (.ofString "/claim/cut.py") 661),(.int 232 0),(.int 2 0),(.int 0 0),(.int 0 0),(.int 3 0),(.ref 322),(.bool true),(.int 181 0),(.ref 323), .none, .none, .none,(.ref 324),(.int 662 0),(.int 232 0),(.str (.ofString "/claim/cut.py") 663)]), #[]⟩) ::
 (nat_lit 326,⟨(.type "function"),none,(.func (fnOf (.ofString "_law_same") (.ofString "_law_same") (defArgs (top 43)) (defBody (top 43)) (defScope (top 43)) .none .none .none (.str (.ofString "law_oddlong_k81_sheets_spoilt_anywhere") 526) none (.ref 325) .none)), #[]⟩) ::
 (nat_lit 327,⟨(.type "tuple"),none,(.seq #[] 0), #[]⟩) ::
 (nat_lit 329,⟨(.type "tuple"),none,(.seq #[(.str (.ofString "_law_script") 668),(.str (.ofString "_law_state") 669),(.str (.ofString "_law_turn") 670),(.str (.ofString "_law_empty") 671),(.str (.ofString "_law_program_here") 672),(.str (.ofString "_law_text") 673),(.str (.ofString "_law_some") 674),(.str (.ofString "_law_more") 675),(.str (.ofString "_law_ahead") 676),(.str (.ofString "_law_one") 677),(.str (.ofString "_law_row") 678),(.str (.ofString "_law_due") 679)] 0), #[]⟩) ::
 (nat_lit 330,⟨(.type "tuple"),none,(.seq #[] 0), #[]⟩) ::
 (nat_lit 332,⟨(.type "code"),none,(.fields #[(.str (.ofString "law") 665),(.str (.ofString "law") 666),(.str (.ofString "/claim/cut.py") 667),(.int 244 0),(.int 1 0),(.int 0 0),(.int 0 0),(.int 3 0),(.ref 327),(.bool true),(.int 181 0),(.ref 328), .none,(.ref 329),(.ref 330),(.ref 331),(.int 680 0),(.int 244 0),(.str (.ofString "/claim/cut.py") 681)]), #[]⟩) ::
 (nat_lit 333,⟨(.type "function"),none,(.func (fnOf (.ofString "law") (.ofString "law") (defArgs (top 44)) (defBody (top 44)) (defScope (top 44)) .none .none .none (.str (.ofString "law_oddlong_k81_sheets_spoilt_anywhere") 526) none (.ref 332) .none)), #[]⟩) :: []
noncomputable def khA:List Addr:=2 :: 3 :: 15 :: 22 :: 23 :: 24 :: 25 :: 28 :: 35 :: 36 :: 37 :: 40 :: 47 :: 48 :: 49 :: 52 :: 59 :: 61 :: 62 :: 64 :: 65 :: 66 :: 67 :: 68 :: 71 :: 78 :: 80 :: 81 :: 83 :: 84 :: 85 :: 86 :: 87 :: 90 :: 97 :: 99 :: 100 :: 102 :: 103 :: 104 :: 105 :: 106 :: 109 :: 116 :: 118 :: 119 :: 121 :: 122 :: 123 :: 124 :: 125 :: 128 :: 135 :: 137 :: 138 :: 140 :: 141 :: 142 :: 143 :: 144 :: 147 :: 154 :: 156 :: 157 :: 159 :: 160 :: 161 :: 162 :: 163 :: 166 :: 167 :: 168 :: 169 :: 170 :: 171 :: 172 :: 173 :: 174 :: 175 :: 176 :: 177 :: 178 :: 179 :: 180 :: 182 :: 183 :: 185 :: 186 :: 187 :: 189 :: 190 :: 192 :: 193 :: 194 :: 196 :: 197 :: 199 :: 200 :: 201 :: 203 :: 204 :: 206 :: 207 :: 208 :: 210 :: 211 :: 213 :: 214 :: 215 :: 218 :: 219 :: 220 :: 222 :: 223 :: 225 :: 226 :: 227 :: 229 :: 230 :: 232 :: 233 :: 234 :: 236 :: 237 :: 239 :: 240 :: 241 :: 243 :: 244 :: 246 :: 247 :: 248 :: 250 :: 251 :: 253 :: 254 :: 255 :: 258 :: 259 :: 260 :: 263 :: 264 :: 265 :: 268 :: 269 :: 270 :: 272 :: 273 :: 275 :: 276 :: 277 :: 280 :: 281 :: 282 :: 285 :: 286 :: 287 :: 289 :: 290 :: 292 :: 293 :: 294 :: 296 :: 297 :: 299 :: 300 :: 301 :: 303 :: 304 :: 306 :: 307 :: 308 :: 310 :: 311 :: 313 :: 314 :: 315 :: 317 :: 318 :: 320 :: 321 :: 322 :: 325 :: 326 :: 327 :: 329 :: 330 :: 332 :: 333 :: []
noncomputable def khQ:Program:=view PySem.Challenge.pw_oddlong_k81_sheets_spoilt_anywhere [1,2,3,4,5,6,7,8,9,11,12,13,14,15,16,17,18,20,21,22,23,24,25,26,27,29,30,31,32,33,34,35,36,37,38,39,40,41,42,43,44]
noncomputable def khL:List Str:=[.ofString "PARTS"]
theorem khA_eq:∀P,khA=(khK P).map (·.1):=fun _=>by kernel_rfl
noncomputable abbrev khH:Hook:=kHook khK khA khA_eq
noncomputable abbrev khX:Shared→Bool:=fun s=>xlAt khQ [] s&&recOk (RowW.records (OpenRow.toRowW (OpenLaw.row PySem.Challenge.rw_oddlong_k81_sheets_spoilt_anywhere))) s
theorem kh_left {p q:Program} {loose:List Str} {Xt:Shared→Bool} {α:Type} {Yf:Shared → α} {Ya:World → α} {N:Nat} {g0:Bool} (e:opening p=plainProg p.main.scope.names) (hN:Nat.ble 600 N=true) (f:∀s,fenceModules? p s=some s)
  (h:∀w:World,(fun os=>(topFrom treeTable p w N ⟨boot_heap w.params,Array.mk [],boot_drawn,boot_toks,os⟩).map fun s=>(openSeen q loose (importedModules p.main.body) Xt g0 s,Yf s))=fun _=>some (openGood q loose,Ya w)):LeftO p q loose Xt Yf Ya N g0:=fun w=>by
 obtain ⟨⟨hp,gs,d,k,os⟩,e1,e2⟩:=Option.map_eq_some_iff.mp (boot_open e hN f w)
 obtain ⟨rfl,rfl,rfl,rfl⟩:hp=boot_heap w.params∧gs=Array.mk []∧d=boot_drawn∧k=boot_toks:=by simpa using e2
 unfold openEnds
 rw [e1]
 exact congrFun (h w) os
theorem kh_said:OpenLaw.wellSaid PySem.Challenge.rw_oddlong_k81_sheets_spoilt_anywhere=true:=by
 rw [PySem.W.Fast.te9446332074065402090]
 kernel_rfl
theorem kh_false (w:World):(fun os=>(topFrom treeTable PySem.Challenge.pw_oddlong_k81_sheets_spoilt_anywhere (w.withFollow "special-get-raises" false) 6398 ⟨boot_heap (w.withFollow "special-get-raises" false).params,Array.mk [],boot_drawn,boot_toks,os⟩).map fun s=>(openSeen khQ khL (importedModules PySem.Challenge.pw_oddlong_k81_sheets_spoilt_anywhere.main.body) khX true s,Hook.obs khH s))=fun _=>some (openGood khQ khL,Hook.val khH (w.withFollow "special-get-raises" false)):=by
 unfold topFrom
 rw [PySem.W.Fast.te14082659384304107361,PySem.W.Fast.te14364793385576792824,PySem.W.Fast.te4187177175401517315]
 kernel_rfl
theorem kh_true (w:World):(fun os=>(topFrom treeTable PySem.Challenge.pw_oddlong_k81_sheets_spoilt_anywhere (w.withFollow "special-get-raises" true) 6398 ⟨boot_heap (w.withFollow "special-get-raises" true).params,Array.mk [],boot_drawn,boot_toks,os⟩).map fun s=>(openSeen khQ khL (importedModules PySem.Challenge.pw_oddlong_k81_sheets_spoilt_anywhere.main.body) khX true s,Hook.obs khH s))=fun _=>some (openGood khQ khL,Hook.val khH (w.withFollow "special-get-raises" true)):=by
 unfold topFrom
 rw [PySem.W.Fast.te14082659384304107361,PySem.W.Fast.te14364793385576792824,PySem.W.Fast.te4187177175401517315]
 kernel_rfl
theorem kh_key (w:World):(fun os=>(topFrom treeTable PySem.Challenge.pw_oddlong_k81_sheets_spoilt_anywhere (w) 6398 ⟨boot_heap (w).params,Array.mk [],boot_drawn,boot_toks,os⟩).map fun s=>(openSeen khQ khL (importedModules PySem.Challenge.pw_oddlong_k81_sheets_spoilt_anywhere.main.body) khX true s,Hook.obs khH s))=fun _=>some (openGood khQ khL,Hook.val khH (w)):=byRow2 "special-get-raises" (P:=fun w=>(fun os=>(topFrom treeTable PySem.Challenge.pw_oddlong_k81_sheets_spoilt_anywhere (w) 6398 ⟨boot_heap (w).params,Array.mk [],boot_drawn,boot_toks,os⟩).map fun s=>(openSeen khQ khL (importedModules PySem.Challenge.pw_oddlong_k81_sheets_spoilt_anywhere.main.body) khX true s,Hook.obs khH s))=fun _=>some (openGood khQ khL,Hook.val khH (w))) kh_false kh_true w
theorem kh_open:LeftO PySem.Challenge.pw_oddlong_k81_sheets_spoilt_anywhere khQ khL khX (Hook.obs khH) (Hook.val khH) 6398 true:=kh_left rfl rfl (fun _=>rfl) kh_key
noncomputable def khD:DefRec:=⟨.ofString "law",defArgs (top i_law),defBody (top i_law),defScope (top i_law),khPos (top i_law)⟩
theorem kh_head (hw:RowW.promised (OpenRow.toRowW (OpenLaw.row PySem.Challenge.rw_oddlong_k81_sheets_spoilt_anywhere))) (h:WalkO khQ khL (XL khQ []) (InK khK) (OpenRow.toRowW (OpenLaw.row PySem.Challenge.rw_oddlong_k81_sheets_spoilt_anywhere)) khD [] fun f vs=>PySem.call f vs):OpenLaw.Holds PySem.Challenge.rw_oddlong_k81_sheets_spoilt_anywhere:=
 holds_law kh_said fun sd=>holds_open (r:=OpenLaw.row PySem.Challenge.rw_oddlong_k81_sheets_spoilt_anywhere) (d:=khD) (kwd:=[]) kh_open (Hook.of khH) (Hook.keeps khH) (fun s e=>xl_of s (Bool.and_eq_true_iff.mp e).1) XL.keeps (by kernel_rfl) (by kernel_rfl) (by kernel_rfl) (fun s e=>recFacts_of (Bool.and_eq_true_iff.mp e).2) rfl sd (by decide +kernel) ⟨rfl,rfl,rfl,rfl,rfl,by decide +kernel⟩ hw h
end Z
namespace Z
open PySem L2
theorem sizeOk {n:Nat} (h:n≤10000000):n≤sizeLine:=Nat.le_trans h (by decide)
theorem ndS (l:List Str) (h:decide l.Nodup=true:=by decide +kernel):l.Nodup:=of_decide_eq_true h
end Z
namespace L2
set_option genSizeOf false
set_option genInjectivity false
end L2
namespace L2
set_option genSizeOf false
set_option genInjectivity false
inductive Ex11 {α0 α1 α2 α3 α4 α5 α6 α7 α8 α9 α10:Type} (P : α0 → α1 → α2 → α3 → α4 → α5 → α6 → α7 → α8 → α9 → α10→Prop):Prop|mk (x0 : α0) (x1 : α1) (x2 : α2) (x3 : α3) (x4 : α4) (x5 : α5) (x6 : α6) (x7 : α7) (x8 : α8) (x9 : α9) (x10 : α10) (h:P x0 x1 x2 x3 x4 x5 x6 x7 x8 x9 x10):Ex11 P
instance elimEx11 {α0 α1 α2 α3 α4 α5 α6 α7 α8 α9 α10:Type} {P : α0 → α1 → α2 → α3 → α4 → α5 → α6 → α7 → α8 → α9 → α10→Prop} {F : α0 → α1 → α2 → α3 → α4 → α5 → α6 → α7 → α8 → α9 → α10→Prop→Prop} [i:∀x0 x1 x2 x3 x4 x5 x6 x7 x8 x9 x10,Elim (P x0 x1 x2 x3 x4 x5 x6 x7 x8 x9 x10) (F x0 x1 x2 x3 x4 x5 x6 x7 x8 x9 x10)]:Elim (Ex11 P) (fun G=>∀x0 x1 x2 x3 x4 x5 x6 x7 x8 x9 x10,F x0 x1 x2 x3 x4 x5 x6 x7 x8 x9 x10 G):=⟨fun ⟨x0,x1,x2,x3,x4,x5,x6,x7,x8,x9,x10,h⟩ G k=>(i x0 x1 x2 x3 x4 x5 x6 x7 x8 x9 x10).el h G (k x0 x1 x2 x3 x4 x5 x6 x7 x8 x9 x10)⟩
end L2
namespace Z
open PySem L2
structure Box (H:Hp) (b c:Addr) (t:Int) (ns:List Int):Prop where
 d:H b=some (.dK [(.inr "cells", .ref c),(.inr "turn", .int t)])
 l:H c=some (.lst (ns.map V.int))
 ne:0<ns.length
 le:ns.length≤64
noncomputable def hid (H:Hp) (b c:Addr):Hp:=fun a=>if a=b∨a=c then none else H a
theorem hid_of {H:Hp} {b c a:Addr} (h1:a≠b) (h2:a≠c):hid H b c a=H a:=if_neg (fun z=>z.elim h1 h2)
theorem of_hid {H:Hp} {b c a:Addr} {o:HO} (h:hid H b c a=some o):H a=some o∧a≠b∧a≠c:=by
 unfold hid at h
 split at h
 ·cases h
 ·rename_i n
  exact ⟨h,fun z=>n (.inl z),fun z=>n (.inr z)⟩
theorem Box.bc {H:Hp} {b c:Addr} {t:Int} {ns:List Int} (x:Box H b c t ns):b≠c:=ne_of x.d x.l (by intro z;cases z)
theorem Box.get_turn {H:Hp} {b c:Addr} {t:Int} {ns:List Int} (x:Box H b c t ns):DGet H b (.str "turn") (some (.int t)):=DGet.k (k:=Sum.inr "turn") x.d
theorem Box.get_cells {H:Hp} {b c:Addr} {t:Int} {ns:List Int} (x:Box H b c t ns):DGet H b (.str "cells") (some (.ref c)):=DGet.k (k:=Sum.inr "cells") x.d
theorem Box.put_turn {H:Hp} {b c:Addr} {t:Int} {ns:List Int} (x:Box H b c t ns) (t':Int):DPut H b (.str "turn") (.int t') (upd H b (.dK [(.inr "cells", .ref c),(.inr "turn", .int t')])):=
 DPut.k (k:=Sum.inr "turn") x.d (by show 2<sizeLine;decide)
theorem Box.turned {H:Hp} {b c:Addr} {t:Int} {ns:List Int} (x:Box H b c t ns) (t':Int):Box (upd H b (.dK [(.inr "cells", .ref c),(.inr "turn", .int t')])) b c t' ns:=
 ⟨upd_same,by rw [upd_ne (Ne.symm x.bc)];exact x.l,x.ne,x.le⟩
theorem hid_upd_b {H:Hp} {b c:Addr} {o:HO} : hid (upd H b o) b c=hid H b c:=by
 funext a;unfold hid;split
 ·rfl
 ·rename_i n;exact upd_ne (fun z=>n (.inl z))
theorem hid_upd_c {H:Hp} {b c:Addr} {o:HO} : hid (upd H c o) b c=hid H b c:=by
 funext a;unfold hid;split
 ·rfl
 ·rename_i n;exact upd_ne (fun z=>n (.inr z))
def spTake:Sp:=fun vs H Q _=>Ex5 fun (b c:Addr) (t:Int) (ns:List Int) (many:Int)=>vs=[.ref b, .int many]∧Box H b c t ns∧0≤t∧t<100000000∧0<many∧many<1073741824 ∧
 ∀(r:Int) (H':Hp) (ns':List Int),0≤r→r<many→Box H' b c (t+1) ns'→Same (hid H b c) (hid H' b c)→Q (.int r) H'
theorem at_of {ns:List Int} {p:Int} (h0:0≤p) (h1:p<ns.length):∃v,atI (ns.map V.int) p=some (.int v)∧ns[p.toNat]? = some v:=by
 have hk:p.toNat<ns.length:=by omega
 have ek:p=((p.toNat:Nat):Int):=by omega
 have q:atI (ns.map V.int) ((p.toNat:Nat):Int)=some (.int ns[p.toNat]):=atI_nat (by rw [List.getElem?_map,List.getElem?_eq_getElem hk] <;> rfl)
 rw [←ek] at q
 exact ⟨_,q,List.getElem?_eq_getElem hk⟩
theorem cm_mod {a j m:Int} (h0:0<m) (h:m<2 ^ 64):CMul (a % m) j:=by
 have h1:=Int.emod_nonneg a (b:=m) (by omega)
 have h2:=Int.emod_lt_of_pos a h0
 exact .inl ⟨by omega,by omega⟩
theorem ixN_of {n:Nat} {p:Int} (h0:0≤p) (h1:p<n):ixN n p=some p.toNat:=by unfold ixN;rw [if_pos h0,if_pos h1]
theorem hid_more {H H':Hp} {b c:Addr} (h:∀a o,a≠b→a≠c→H a=some o→H' a=some o):Same (hid H b c) (hid H' b c):=fun a o e=>by
 refine Elim.el (of_hid e) _ ?_
 rintro e h1 h2
 rw [hid_of h1 h2]
 exact h a o h1 h2 e
end Z
namespace L2
open PySem
def Gm (t:TG):Prop:=∀x σ H (Q Q':St→Hp→Prop),(∀a b,Q a b→Q' a b)→t x σ H Q→t x σ H Q'
def Gms (t:TGs):Prop:=∀x σ H (Q Q':St→Hp→Prop),(∀a b,Q a b→Q' a b)→t x σ H Q→t x σ H Q'
theorem gm_name {i:Nat} : Gm (gName i):=fun _ _ _ _ _ h q=>h _ _ q
theorem gms_nil:Gms gNil:=fun _ _ _ _ _ h q=>⟨q.1,h _ _ q.2⟩
theorem gms_cons {t:TG} {u:TGs} (a:Gm t) (b:Gms u):Gms (gCons t u):=fun _ _ _ _ _ h ⟨v,r,e,q⟩=>⟨v,r,e,a _ _ _ _ _ (fun _ _ z=>b _ _ _ _ _ h z) q⟩
theorem Dens.get {K:PySem.W.Frag} {H:Hp} : ∀{ds:List PyData} {vs:List V} {i:Nat} {d:PyData},Dens K H ds vs→ds[i]? = some d→∃v,vs[i]? = some v∧Den K H d v
 | [],_,_,_,_,e=>by simp at e
 | d :: ds,vs,i,d',h,e=>by
  unfold Dens at h
  obtain ⟨v,r,rfl,h1,h2⟩:=h
  cases i with
  | zero=>cases e;exact ⟨v,rfl,h1⟩
  | succ i=>exact Dens.get (i:=i) h2 e
theorem Dens.len {K:PySem.W.Frag} {H:Hp} : ∀{ds:List PyData} {vs:List V},Dens K H ds vs→vs.length=ds.length
 | [],_,h=>by unfold Dens at h;subst h;rfl
 | d :: ds,vs,h=>by
  unfold Dens at h
  obtain ⟨v,r,rfl,h1,h2⟩:=h
  rw [List.length_cons,List.length_cons,Dens.len h2]
end L2
namespace Z
open PySem L2
theorem same_new {H:Hp} {p:Addr} (h:H p=none) (o:HO):Same H (upd H p o):=fun b u q=>by rw [upd_ne (ne_of_none q h)];exact q
end Z
namespace L2
open PySem
theorem for_go {J:It} {g:TG} {tb:TS} {D:Ends} {σ:St} {H:Hp} (N:Nat) (Pv:Nat→St→Hp→Prop) (h0:Pv 0 σ H)
  (go:∀i σ H,i<N→Pv i σ H→J.go i H∧∀x H',J.yld i H x H'→g x σ H' fun σ2 H2=>tb { D with nx:=Pv (i+1),ct:=Pv (i+1),bk:=D.nx } σ2 H2)
  (stop:∀ σ H,Pv N σ H→J.stop N H∧D.nx σ H) :
  ∃W:Nat→Nat→St→Hp→Prop,(∃m,W 0 m σ H)∧∀i m σ H,W i m σ H →
   (J.stop i H∧D.nx σ H)∨(J.go i H∧∃N:St→Hp→Prop,(∀ σ' H',N σ' H'→∃m',m'<m∧W (i+1) m' σ' H')∧∀x H',J.yld i H x H'→g x σ H' fun σ2 H2=>tb { D with nx:=N,ct:=N,bk:=D.nx } σ2 H2):=by
 refine ⟨fun i m σ H=>m=N-i∧i≤N∧Pv i σ H,⟨N,by simp,Nat.zero_le _,h0⟩,?_⟩
 intro i m σ H
 refine Elim.go ?_
 rintro rfl hi p
 by_cases hlt:i<N
 ·obtain ⟨g1,g2⟩:=go i σ H hlt p
  exact .inr ⟨g1,Pv (i+1),fun σ' H' p'=>⟨N-(i+1),by omega,rfl,hlt,p'⟩,g2⟩
 ·have e:i=N:=by omega
  subst e
  exact .inl (stop σ H p)
end L2
namespace L2
open PySem
theorem seqCut {t u:TS} {D:Ends} {σ:St} {H:Hp} (Ex:St→Hp→Prop) (h:∀Nx:St→Hp→Prop,(∀ σ H,Ex σ H→Nx σ H)→t { D with nx:=Nx } σ H) (fin:∀ σ H,Ex σ H→u D σ H):tSeq t u D σ H:=h (u D) fin
theorem whileGo {c:TT} {tb:TS} {D:Ends} {σ:St} {H:Hp} (Pv:Nat→St→Hp→Prop) (h0:∃m,Pv m σ H)
  (hs:∀m σ H,Pv m σ H→c σ H fun b H1=>if b=true then ∃N:St→Hp→Prop,(∀ σ' H',N σ' H'→∃m',m'<m∧Pv m' σ' H')∧tb { D with nx:=N,ct:=N,bk:=D.nx } σ H1 else D.nx σ H1):tWhile c tb D σ H:=⟨Pv,h0,hs⟩
end L2
namespace L2
open PySem
theorem asgCut {te:TE} {g:TG} {u:TS} {D:Ends} {σ:St} {H:Hp} (Ex:V→Hp→Prop) (h:∀Qn:VK,(∀v H,Ex v H→Qn v H)→te σ H Qn) (fin:∀v H,Ex v H→g v σ H (u D)):tSeq (tAsg te g) u D σ H:=h _ fin
end L2
namespace L2
open PySem
theorem gn {i:Nat} {v:V} {σ:St} {H:Hp} {Q:St→Hp→Prop} (h:Q (σ.set i (some v)) H):gName i v σ H Q:=h
end L2
namespace L2
open PySem
theorem seqGen {t u:TS} {D:Ends} {σ:St} {H:Hp} (h:∀D':Ends,(∀ σ H,u D σ H→D'.nx σ H)→(∀v H,D.rt v H→D'.rt v H)→t D' σ H):tSeq t u D σ H:=h { D with nx:=u D } (fun _ _ h=>h) fun _ _ h=>h
theorem genS {t:TS} {D:Ends} {σ:St} {H:Hp} (h:∀D':Ends,(∀ σ H,D.nx σ H→D'.nx σ H)→(∀v H,D.rt v H→D'.rt v H)→t D' σ H):t D σ H:=h D (fun _ _ h=>h) fun _ _ h=>h
end L2
namespace Z
open PySem L2
def Bx (H:Hp) (b c:Addr) (t:Int):Prop:=∃ns,Box H b c t ns
structure Step (b c:Addr) (H H':Hp) (t t' N:Int):Prop where
 le:t≤t'
 ub:t'≤t+N
 bx:Bx H' b c t'
 sm:Same (hid H b c) (hid H' b c)
theorem Step.refl {b c:Addr} {H:Hp} {t:Int} (h:Bx H b c t):Step b c H H t t 0:=⟨Int.le_refl _,by omega,h,Same.refl _⟩
theorem Step.trans {b c:Addr} {H H' H2:Hp} {t t' t2 N M:Int} (x:Step b c H H' t t' N) (y:Step b c H' H2 t' t2 M):Step b c H H2 t t2 (N+M):=
 ⟨by have:=x.le;have:=y.le;omega,by have:=x.ub;have:=y.ub;omega,y.bx,x.sm.trans y.sm⟩
theorem Step.more {b c:Addr} {H H':Hp} {t t' N M:Int} (x:Step b c H H' t t' N) (h:N≤M):Step b c H H' t t' M:=⟨x.le,by have:=x.ub;omega,x.bx,x.sm⟩
theorem Bx.ne_new {H:Hp} {b c p:Addr} {t:Int} (x:Bx H b c t) (h:H p=none):p≠b∧p≠c:=by
 obtain ⟨ns,x⟩:=x
 exact ⟨fun z=>(by rw [z,x.d] at h;cases h),fun z=>(by rw [z,x.l] at h;cases h)⟩
theorem Bx.upd {H:Hp} {b c p:Addr} {t:Int} {o:HO} (x:Bx H b c t) (h1:p≠b) (h2:p≠c):Bx (upd H p o) b c t:=by
 obtain ⟨ns,x⟩:=x
 exact ⟨ns,by rw [upd_ne (Ne.symm h1)];exact x.d,by rw [upd_ne (Ne.symm h2)];exact x.l,x.ne,x.le⟩
theorem Step.new {b c p:Addr} {H H':Hp} {t t' N:Int} (x:Step b c H H' t t' N) (h:H' p=none) (o:HO):Step b c H (upd H' p o) t t' N:=
 ⟨x.le,x.ub,x.bx.upd (x.bx.ne_new h).1 (x.bx.ne_new h).2,x.sm.trans (hid_more fun a u _ _ e=>by rw [upd_ne (ne_of_none e h)];exact e)⟩
theorem Step.chg {b c p:Addr} {H H':Hp} {t t' N:Int} (x:Step b c H H' t t' N) (h:H p=none) (h1:p≠b) (h2:p≠c) (o:HO):Step b c H (upd H' p o) t t' N:=
 ⟨x.le,x.ub,x.bx.upd h1 h2,fun a u e=>by
  have q:=x.sm a u e
  refine Elim.el (of_hid q) _ ?_
  rintro q n1 n2
  rw [hid_of n1 n2,upd_ne (fun z => ?_)]
  ·exact q
  ·rw [z] at e
   rw [(of_hid e).1] at h;cases h⟩
theorem Step.old {b c a:Addr} {H H':Hp} {t t' N:Int} {o:HO} (x:Step b c H H' t t' N) (h:H a=some o) (h1:a≠b) (h2:a≠c):H' a=some o:=
 (of_hid (x.sm a o (by rw [hid_of h1 h2];exact h))).1
theorem Step.fresh {b c a:Addr} {H H':Hp} {t t' N:Int} (x:Step b c H H' t t' N) (hb:Bx H b c t) (h:H' a=none):H a=none:=by
 obtain ⟨h1,h2⟩:=x.bx.ne_new h
 cases e:H a with
 | none=>rfl
 | some o=>rw [x.old e h1 h2] at h;cases h
theorem Same.hid {H H':Hp} {b c:Addr} (s:Same H H'):Same (hid H b c) (hid H' b c):=hid_more fun a o _ _ e=>s a o e
theorem Bx.same {H H':Hp} {b c:Addr} {t:Int} (x:Bx H b c t) (s:Same H H'):Bx H' b c t:=by
 obtain ⟨ns,x⟩:=x
 exact ⟨ns,s _ _ x.d,s _ _ x.l,x.ne,x.le⟩
theorem Step.same {b c:Addr} {H H':Hp} {t:Int} (x:Bx H b c t) (s:Same H H'):Step b c H H' t t 0:=⟨Int.le_refl _,by omega,x.same s,Same.hid s⟩
def spTk:Sp:=fun vs H Q _=>Ex4 fun (b c:Addr) (t many:Int)=>vs=[.ref b, .int many]∧Bx H b c t∧0≤t∧t<100000000∧0<many∧many<1073741824 ∧
 ∀(r:Int) (H':Hp),0≤r→r<many→Step b c H H' t (t+1) 1→Q (.int r) H'
theorem spTk_of {vs:List V} {H:Hp} {Q:VK} {E:XK} (h:spTk vs H Q E):spTake vs H Q E:=by
 obtain ⟨b,c,t,many,e,⟨ns,bx⟩,h1,h2,h3,h4,q⟩:=h
 exact ⟨b,c,t,ns,many,e,bx,h1,h2,h3,h4,fun r H' ns' r0 r1 bx' sm=>q r H' r0 r1 ⟨by omega,by omega,⟨ns',bx'⟩,sm⟩⟩
theorem cut_to (vs:List V) (j:Nat):cutV vs none (some (j:Int))=vs.take j:=by
 unfold cutV
 rw [HT.sIx_none,HT.sIx_nat,List.drop_zero,Nat.sub_zero]
 rcases Nat.le_total j vs.length with h|h
 ·rw [Nat.min_eq_left h]
 ·rw [Nat.min_eq_right h,List.take_of_length_le (Nat.le_refl _),List.take_of_length_le h]
theorem cut_from (vs:List V) (j:Nat):cutV vs (some (j:Int)) none=vs.drop j:=by
 unfold cutV
 rw [HT.sIx_none,HT.sIx_nat]
 rcases Nat.le_total j vs.length with h|h
 ·rw [Nat.min_eq_left h,List.take_of_length_le (by rw [List.length_drop];exact Nat.le_refl _)]
 ·rw [Nat.min_eq_right h,List.drop_of_length_le (Nat.le_refl _),List.drop_of_length_le h];simp
theorem Fn.imp {P:Program} {w:World} {K:PySem.W.Frag} {mg:Str→Option Value} {base:Heap} {k:Nat} {x:Str} {ps:List Str} {sp sp':Sp} (F:Fn P w K mg base k x ps sp) (h:∀vs H Q E,sp' vs H Q E→sp vs H Q E):Fn P w K mg base k x ps sp':=by
 refine Elim.el (F.ex) _ ?_
 rintro f fd a b c d
 exact ⟨f,fd,a.imp h,b,c,d⟩
end Z
namespace Z
open PySem L2
theorem Step.newN {b c p:Addr} {H H' H2:Hp} {t t' N:Int} {o:HO} (x:Step b c H H' t t' N) (n:New H' p o H2):Step b c H H2 t t' N:=by rw [n.eq];exact x.new n.nn _
theorem Step.chgN {b c p:Addr} {H H' H2:Hp} {t t' N:Int} {o:HO} (x:Step b c H H' t t' N) (n:Chg H' p o H2) (h:H p=none) (h1:p≠b) (h2:p≠c):Step b c H H2 t t' N:=by rw [n.eq];exact x.chg h h1 h2 _
end Z
namespace Z
open PySem L2
theorem glued_list (g:Str):∀(parts:List Str) (acc:Array Nat),(parts.foldl (fun acc p=>acc++g.cps++p.cps) acc).toList=acc.toList++parts.flatMap (fun p=>g.cps.toList++p.cps.toList)
 | [],acc=>by simp
 | p :: r,acc=>by rw [List.foldl_cons,glued_list g r];simp
theorem join_list0 (xs:List Str):(Txt.join "" xs).cps.toList=xs.flatMap (fun p=>p.cps.toList):=by
 cases xs with
 | nil=>rfl
 | cons x r=>
  show ((r.foldl (fun acc p=>acc++(Str.ofString "").cps++p.cps) x.cps)).toList=_
  rw [glued_list]
  have e:(Str.ofString "").cps.toList=[]:=rfl
  simp [e]
end Z
namespace Z
open PySem L2
theorem str_append_list (x y:Str):(x++y).cps.toList=x.cps.toList++y.cps.toList:=by
 show (x.cps++y.cps).toList=_
 simp
theorem str_len (x:Str):x.length=x.cps.toList.length:=by simp [Str.length]
theorem len_append (x y:Str):(x++y).length=x.length+y.length:=by rw [str_len,str_append_list,List.length_append, ←str_len, ←str_len]
end Z
namespace Z
open PySem L2
def Sh (n:Nat) (d:PyData):Prop:=d.canLay0=true∧d.depth≤n
theorem Sh.all {n:Nat} : ∀{ds:List PyData},(∀d∈ds,Sh n d)→PyData.canLayAll0 ds=true∧PyData.depthAll ds≤n
 | [],_=>⟨by simp [PyData.canLayAll0],by simp [PyData.depthAll]⟩
 | d :: ds,h=>by
  obtain ⟨h1,h2⟩:=h d List.mem_cons_self
  obtain ⟨h3,h4⟩:=Sh.all fun e he=>h e (List.mem_cons_of_mem _ he)
  exact ⟨by simp [PyData.canLayAll0,h1,h3],by simp only [PyData.depthAll];omega⟩
theorem Sh.list {n:Nat} {ds:List PyData} (h:∀d∈ds,Sh n d):Sh (n+1) (.list ds):=by
 obtain ⟨h1,h2⟩:=Sh.all h
 exact ⟨by simpa [PyData.canLay0] using h1,by simp only [PyData.depth];omega⟩
theorem Sh.shaped {n:Nat} {d:PyData} (h:Sh n d) (hn:n≤64):SeqAt.shaped d=true:=by
 unfold SeqAt.shaped
 rw [h.1,decide_eq_true (Nat.le_trans h.2 hn)]
 rfl
theorem Sh.str {n:Nat} {x:Str} (h:PyData.canLay0 (.str x)=true):Sh n (.str x):=⟨h,by simp [PyData.depth]⟩
theorem Sh.int {n:Nat} {i:Int} : Sh n (.int i):=⟨by simp [PyData.canLay0],by simp [PyData.depth]⟩
theorem canLay_small {x:Str} (h:∀ch∈x.cps.toList,ch<128):PyData.canLay0 (.str x)=true:=by
 simp only [PyData.canLay0,PyData.strOk]
 rw [←Array.all_toList,List.all_eq_true]
 intro ch hc
 have:=h ch hc
 exact decide_eq_true (by omega)
theorem Den.strs {K:PySem.W.Frag} {H:Hp} : ∀(xs:List Str),Dens K H (xs.map PyData.str) (xs.map V.str)
 | []=>by unfold Dens;rfl
 | x :: xs=>by
  rw [List.map_cons]
  unfold Dens
  exact ⟨_,_,rfl,by unfold Den;rfl,Den.strs xs⟩
theorem Den.list {K:PySem.W.Frag} {H:Hp} {l:Addr} {ds:List PyData} {vs:List V} (h:SqL K H l vs) (hd:Dens K H ds vs):Den K H (.list ds) (.ref l):=by
 unfold Den
 exact ⟨l,vs,rfl,h,hd⟩
theorem depth_at {n:Nat} : ∀{ds:List PyData} {d:PyData},PyData.depthAll ds≤n→d∈ds→d.depth≤n
 | [],_,_,h=>nomatch h
 | e :: ds,d,hn,h=>by
  simp only [PyData.depthAll] at hn
  rcases List.mem_cons.mp h with rfl|h
  ·omega
  ·exact depth_at (by omega) h
theorem weight_at {n:Nat} : ∀{ds:List PyData} {d:PyData},PyData.weightAll ds≤n→d∈ds→d.weight≤n
 | [],_,_,h=>nomatch h
 | e :: ds,d,hn,h=>by
  simp only [PyData.weightAll] at hn
  rcases List.mem_cons.mp h with rfl|h
  ·omega
  ·exact weight_at (by omega) h
theorem len_weight:∀(ds:List PyData),ds.length≤PyData.weightAll ds
 | []=>by simp
 | e :: ds=>by
  simp only [PyData.weightAll,List.length_cons]
  have:=len_weight ds
  omega
theorem all_true (n:Nat):(List.replicate n true).all id=true:=by
 induction n with
 | zero=>rfl
 | succ n ih=>rw [List.replicate_succ,List.all_cons,ih];rfl
end Z
namespace Z
open PySem L2
theorem Dens.of_get {K:PySem.W.Frag} {H:Hp} : ∀{ds:List PyData} {vs:List V},ds.length=vs.length→(∀(j:Nat) d v,ds[j]? = some d→vs[j]? = some v→Den K H d v)→Dens K H ds vs
 | [],[],_,_=>by unfold Dens;rfl
 | [],_ :: _,h,_=>by simp at h
 | _ :: _,[],h,_=>by simp at h
 | d :: ds,v :: vs,h,g=>by
  unfold Dens
  exact ⟨v,vs,rfl,g 0 d v rfl rfl,Dens.of_get (by simpa using h) fun j d' v' h1 h2=>g (j+1) d' v' h1 h2⟩
end Z
namespace Z
open PySem L2
theorem weight_int {i:Int} (h:i.natAbs<2 ^ 200):PyData.weight (.int i)≤201:=by
 simp only [PyData.weight]
 split
 ·omega
 ·rename_i h0
  have hne:i.natAbs≠0:=by
   intro z
   exact h0 (by simp;omega)
  have:=(Nat.log2_lt hne).mpr h
  omega
end Z
namespace Z
open PySem L2
def spBegin (K:PySem.W.Frag):Sp:=fun vs H Q _=>Ex2 fun (a:Addr) (ns:List Int)=>vs=[.ref a]∧SqL K H a (ns.map V.int)∧ns.length≤63 ∧
 ∀(b c:Addr) (H':Hp),Bx H' b c 0→H b=none→H c=none→Same H (hid H' b c)→Q (.ref b) H'
theorem Den.ints {K:PySem.W.Frag} {H:Hp} : ∀(ns:List Int),Dens K H (ns.map PyData.int) (ns.map V.int)
 | []=>by unfold Dens;rfl
 | n :: ns=>by
  rw [List.map_cons,List.map_cons]
  unfold Dens
  exact ⟨_,_,rfl,by unfold Den;rfl,Den.ints ns⟩
theorem eqvNil (ds:List PyData):PyData.eqv (.list ds) (.list [])=ds.isEmpty:=by
 cases ds <;> simp [PyData.eqv,PyData.eqvAll]
theorem sh_ints {n:Nat} (ns:List Int):Sh (n+1) (.list (ns.map PyData.int)):=Sh.list fun d hd=>by
 refine Elim.el (List.mem_map.mp hd) _ ?_
 rintro i _ rfl
 exact Sh.int
section
variable {P:Program} {w:World} {K:PySem.W.Frag} {mg:Str→Option Value} {base:Heap} {f:Addr} {fd:FuncData}
theorem sc_law_begin:FnScope ["_law_script", "_law_cells"] ["_law_script"] (defScope (top i_law_begin)):=⟨rfl,rfl,rfl,by decide +kernel,rfl,by decide +kernel,by decide +kernel⟩
theorem ok_begin (F:Fun K "_law_begin" "_law_begin" (top i_law_begin) f fd) (T:Nm mg):FnOk P w K mg base CX0 1 f fd ["_law_script"] (spBegin K):=by
 refine F.ok sc_law_begin (fun vs H Q E h => ?_) (fun cdv A outer s H vs Q E hr h => ?_)
 ·obtain ⟨a,ns,rfl,_⟩:=h
  rfl
 obtain ⟨a,ns,rfl,hS,hlen,q⟩:=h
 have hu6:=hr.units
 refine ⟨_,(pss_cons (ps_set (i:=1) sc_law_begin.nd rfl (Or.inl rfl) (pe_callTy (listN K) rfl T.n_list (by rfl) (pa_cons (pe_slice (slN K) (pv 0) po_none (po_some pe_int)) pa_nil)))
  (pss_cons (ps_if (pt_cmpR (eqK K hu6) (pv 1) (lstN pa_nil) (nomark _)) (pss_one (ps_set (i:=1) sc_law_begin.nd rfl (Or.inl rfl) (lstN (pa_cons pe_int pa_nil)))) pss_nil)
  (pss_one (ps_ret (dispN (pps_cons pe_str (pv 1) (pps_cons pe_str pe_int pps_nil)) rfl rfl (by decide) (by decide)))))),?_⟩
 refine ⟨_,rfl,_,rfl, .inl ⟨a,_,rfl,hS,fun r1 H1 n1 => ?_⟩⟩
 refine ⟨r1,_,rfl, .inl (SqL.of n1.at),fun r2 H2 n2=>gn ?_⟩
 have hc:cutV (ns.map V.int) none (some 63)=ns.map V.int:=by
  have e:=cut_to (ns.map V.int) 63
  rw [List.take_of_length_le (by rw [List.length_map];exact hlen)] at e
  exact e
 have hn2:H2 r2=some (.lst (ns.map V.int)):=by rw [←hc];exact n2.at
 have sm2:=n1.same.trans n2.same
 dsimp only
 refine seqCut (t:=tIfS _ _ _) (fun σ H'=>Ex2 fun (r:Addr) (ns':List Int) => σ=[some (.ref a),some (.ref r)]∧H' r=some (.lst (ns'.map V.int))∧0<ns'.length∧ns'.length≤64∧H r=none∧Same H H') (fun Nx nx => ?_) ?_
 ·refine ⟨_,rfl,by show 0≤sizeLine;decide,fun r3 H3 n3 => ?_⟩
  have d2:Den K H3 (.list (ns.map PyData.int)) (.ref r2):=Den.list (SqL.of (n3.same _ _ hn2)) (Den.ints ns)
  have d3:Den K H3 (.list []) (.ref r3):=Den.list (SqL.of n3.at) (Den.ints [])
  refine .inr ⟨_,_,d2,d3,(sh_ints (n:=1) ns).shaped (by decide),by decide +kernel,_,rfl,?_⟩
  rw [eqvNil]
  refine ite2 (fun e => ?_) (fun e => ?_)
  ·refine ⟨by show 1≤sizeLine;decide,fun r4 H4 n4=>gn (nx _ _ ⟨r4,[_],rfl,n4.at,by decide,by decide,(sm2.trans n3.same).free n4.nn,sm2.trans (n3.same.trans n4.same)⟩)⟩
  ·refine nx _ _ ⟨r2,ns,rfl,n3.same _ _ hn2,?_,by omega,n1.same.free n2.nn,sm2.trans n3.same⟩
   cases ns with
   | nil=>exact absurd rfl e
   | cons _ _=>exact Nat.succ_pos _
 intro σ H3
 refine Elim.go ?_
 rintro r ns' rfl hr' l0 l1 hn sm
 intro p H0 n0
 refine ⟨_,rfl,?_⟩
 refine ⟨n0.at,[(.inr "cells", .ref r),(.inr "turn", .int 0)],rfl,by show 2≤15;decide,fun H6 n6 => ?_⟩
 have hpr:r≠p:=ne_of_none hr' n0.nn
 have hp:H p=none:=sm.free n0.nn
 refine q p r H6 ⟨ns',?_,?_,l0,l1⟩ hp hn (fun b o e => ?_)
 ·rw [n6.at];rfl
 ·rw [n6.ne hpr,n0.ne hpr];exact hr'
 ·have hb1:b≠p:=ne_of_none e hp
  have hb2:b≠r:=ne_of_none e hn
  rw [hid_of hb1 hb2,n6.ne hb1,n0.ne hb1]
  exact sm _ _ e
end
end Z
namespace Z
open PySem L2
theorem Box.same {H H':Hp} {b c:Addr} {t:Int} {ns:List Int} (x:Box H b c t ns) (s:Same H H'):Box H' b c t ns:=⟨s _ _ x.d,s _ _ x.l,x.ne,x.le⟩
section
variable {P:Program} {w:World} {K:PySem.W.Frag} {mg:Str→Option Value} {base:Heap} {f:Addr} {fd:FuncData}
theorem sc_law_take:FnScope ["_law_state", "_law_many_here", "_law_turn", "_law_place", "_law_cell", "_law_digit", "_law_mixed"] ["_law_state", "_law_many_here"] (defScope (top i_law_take)):=⟨rfl,rfl,rfl,by decide +kernel,rfl,by decide +kernel,by decide +kernel⟩
theorem ok_take (F:Fun K "_law_take" "_law_take" (top i_law_take) f fd) (T:Nm mg):FnOk P w K mg base CX0 1 f fd ["_law_state", "_law_many_here"] spTake:=by
 refine F.ok sc_law_take (fun vs H Q E h => ?_) (fun cdv A outer s H vs Q E hr h => ?_)
 ·obtain ⟨b,c,t,ns,many,rfl,_⟩:=h
  rfl
 obtain ⟨b,c,t,ns,many,rfl,bx,t0,t1,m0,m1,q⟩:=h
 have hu:=hu_of hr
 refine ⟨_,(pss_cons (ps_set (i:=2) sc_law_take.nd rfl (Or.inl rfl) (pe_op addN (pe_dget hu (pv 0) pe_str (fun _ _=>rfl)) pe_int))
  (pss_cons (ps_dput hu (pv 0) pe_str (pv 2) rfl)
  (pss_cons (ps_set (i:=3) sc_law_take.nd rfl (Or.inl rfl) (pe_op op_mod (pv 2) (pe_callB (lenK K) rfl T.n_len (by rfl) (pa_cons (pe_dget hu (pv 0) pe_str (fun _ _=>rfl)) pa_nil))))
  (pss_cons (ps_set (i:=4) sc_law_take.nd rfl (Or.inl rfl) (pe_ix (ixK K) (pe_dget hu (pv 0) pe_str (fun _ _=>rfl)) (pv 3) (fun _ _=>rfl)))
  (pss_cons (ps_if (pt_cmpR op_ge (pv 4) (pe_op op_pow pe_int pe_int) (nomark _)) (pss_cons (ps_asg (pe_callB divmodN rfl T.n_divmod (by rfl) (pa_cons (pv 4) (pa_cons (pv 1) pa_nil))) (tupK K 2 rfl (pgs_cons (pg_sub (pe_dget hu (pv 0) pe_str (fun _ _=>rfl)) (pv 3) set_list) (pgs_cons (pg_name (i:=5) sc_law_take.nd rfl (Or.inl rfl)) pgs_nil))))
  (pss_one (ps_ret (pv 5)))) pss_nil)
  (pss_cons (ps_set (i:=6) sc_law_take.nd rfl (Or.inl rfl) (pe_op op_mod (pe_op mulN (pe_op addN (pe_op addN (pe_op op_mod (pv 4) pe_int) (pe_op mulN (pe_op mulN (pv 2) (pv 2)) pe_int)) pe_int) pe_int) pe_int))
  (pss_cons (ps_set (i:=6) sc_law_take.nd rfl (Or.inl rfl) (pe_op op_mod (pe_op mulN (pv 6) (pv 6)) pe_int))
  (pss_one (ps_ret (pe_op op_mod (pe_op op_fdiv (pe_op op_mod (pe_op mulN (pe_op addN (pv 6) (pe_op mulN (pv 2) pe_int)) pe_int) pe_int) pe_int) (pv 1))))))))))),?_⟩
 refine ⟨_,rfl,b,_,rfl,bx.get_turn, .inl ⟨_,_,rfl,rfl,?_⟩⟩
 refine ⟨_,rfl,_,rfl,b,_,rfl,bx.put_turn (t+1),?_⟩
 have bx1:=bx.turned (t+1)
 refine ⟨_,rfl,_,rfl,b,_,rfl,bx1.get_cells,_,_,rfl, .inl ⟨_,SqL.of bx1.l,rfl⟩,_,_,rfl,rfl,?_,?_⟩
 ·rw [List.length_map];have:=bx1.ne;omega
 have hlen:(ns.map V.int).length=ns.length:=List.length_map _
 have hp0:0≤(t+1) % ((ns.map V.int).length:Int):=Int.emod_nonneg _ (by have:=bx1.ne;omega)
 have hp1:(t+1) % ((ns.map V.int).length:Int)<ns.length:=by rw [hlen];exact Int.emod_lt_of_pos _ (by have:=bx1.ne;omega)
 refine Elim.el (at_of hp0 hp1) _ ?_
 rintro v hv hv'
 refine ⟨_,rfl,b,_,rfl,bx1.get_cells,_,rfl, .inl ⟨c,_,_,_,rfl,rfl,SqL.of bx1.l,hv,?_⟩⟩
 refine ⟨_,rfl,_,_,rfl,rfl,⟨by decide,by decide,by decide⟩,_,_,rfl,rfl,_,rfl,?_⟩
 refine ite2 (fun _ => ?_) (fun _ => ?_)
 ·refine ⟨_,rfl,_,rfl,v,many,rfl,⟨m0,by omega⟩,fun pt H2 n2 => ?_⟩
  obtain ⟨hpb,hpc⟩:pt≠b∧pt≠c:=⟨fun z=>(by have:=n2.nn;rw [z,bx1.d] at this;cases this),fun z=>(by have:=n2.nn;rw [z,bx1.l] at this;cases this)⟩
  have bx2:=bx1.same n2.same
  refine ⟨pt,_,rfl,SqT.of n2.at,rfl,_,_,rfl,?_⟩
  refine ⟨_,rfl,b,_,rfl,bx2.get_cells,_,rfl,c,_,_,_,rfl,rfl,bx2.l,ixN_of hp0 (by simpa only [hlen] using hp1),?_⟩
  refine ⟨_,_,rfl,rfl,_,rfl,?_⟩
  refine q (v % many) _ (ns.set ((t+1) % ((ns.map V.int).length:Int)).toNat (v / many)) (Int.emod_nonneg _ (by omega)) (Int.emod_lt_of_pos _ m0) ⟨?_,?_,?_,?_⟩ ?_
  ·rw [upd_ne bx2.bc];exact bx2.d
  ·rw [upd_same,List.map_set]
  ·rw [List.length_set];exact bx1.ne
  ·rw [List.length_set];exact bx1.le
  ·rw [hid_upd_c]
   refine hid_more fun a o h1 h2 e => ?_
   rw [n2.ne (fun z => ?_),upd_ne h1]
   ·exact e
   ·have z2:=n2.nn
    rw [upd_ne hpb, ←z,e] at z2
    cases z2
 ·refine ⟨_,rfl,_,_,rfl,rfl,(by dsimp only;decide),_,rfl,_,rfl, .inl ⟨_,_,rfl,rfl, .inl ⟨by omega,by omega⟩, .inl ⟨_,_,rfl,rfl, .inr ⟨by decide,by decide⟩, .inl ⟨_,_,rfl,rfl, .inl ⟨_,_,rfl,rfl, .inl ⟨_,_,rfl,rfl, .inr ⟨by decide,by decide⟩,_,_,rfl,rfl,(by dsimp only;decide),?_⟩⟩⟩⟩⟩⟩
  have cm:∀(x y p:Int),0<p→p<2 ^ 64→CMul (x % p) y:=fun x y p h0 h1=>cm_mod h0 h1
  refine ⟨_,rfl,_,rfl, .inl ⟨_,_,rfl,rfl,cm _ _ _ (by decide) (by decide),?_⟩⟩
  refine ⟨_,_,rfl,rfl,(by dsimp only;decide),?_⟩
  refine ⟨_,rfl,_,rfl, .inl ⟨_,_,rfl,rfl, .inl ⟨by omega,by omega⟩, .inl ⟨_,_,rfl,rfl, .inl ⟨_,_,rfl,rfl, .inr ⟨by decide,by decide⟩,_,_,rfl,rfl,(by dsimp only;decide),_,_,rfl,rfl,⟨by decide,by decide⟩,_,rfl,_,_,rfl,rfl,m0,?_⟩⟩⟩⟩
  exact q _ _ ns (Int.emod_nonneg _ (by omega)) (Int.emod_lt_of_pos _ m0) bx1 (by rw [hid_upd_b];exact Same.refl _)
end
end Z
namespace Z
open PySem L2
noncomputable def Asz (x:Str):Bool:=x.cps.all (· < 128)
mutual
noncomputable def Pz:PyData→Bool
 | .none | .bool _=>true
 | .int i=>decide (i.natAbs<10 ^ 40)
 | .str x=>Asz x
 | .list ds | .tuple ds=>Pzs ds
 | .dict _=>false
noncomputable def Pzs:List PyData→Bool
 | []=>true
 | d :: ds=>Pz d&&Pzs ds
end
theorem lText_len (ts:List Str):(listText ts).length≤piled ts+2:=by
 unfold listText
 rw [strLen_append]
 have e:(((("]" : String):Str))).length=1:=rfl
 rw [e]
 cases ts with
 | nil=>exact Nat.le_refl _
 | cons t ts=>
  have q:=textFrom_length_pos ts 1 ((("[" : String):Str)++((if 0>0 then ", " else "" : String):Str)++t) (by decide)
  show (textFrom 1 _ ts).length+1≤_
  rw [q,strLen_append,strLen_append,piled_cons]
  have e1:(((("[" : String):Str))).length=1:=rfl
  have e2:((((if 0>0 then ", " else "" : String):Str))).length=0:=rfl
  rw [e1,e2]
  omega
theorem tText_len (ts:List Str):(tupleText ts).length≤piled ts+3:=by
 unfold tupleText
 rw [strLen_append,strLen_append]
 have e1:((("(" : String):Str)).length=1:=rfl
 have e3:(((if ts.length == 1 then ",)" else ")" : String):Str)).length≤2:=by split <;> decide
 have e2:(Str.join ", " ts).length≤piled ts:=by
  cases ts with
  | nil=>exact Nat.le_refl _
  | cons t ts=>have:=join_length_add (t :: ts) (by simp);omega
 rw [e1]
 omega
theorem int_len {i:Int} (h:i.natAbs<10 ^ 40):(Str.ofString (toString i)).length≤41:=by
 cases i with
 | ofNat n=>
  have:=PyProof.Rows.toString_length_le (v:=Int.ofNat n) (by simp) (k:=40) (by decide) (by
   have h:n<10 ^ 40:=h
   show ((n:Nat):Int)<10 ^ 40
   exact_mod_cast h)
  omega
 | negSucc n=>
  have h:n+1<10 ^ 40:=h
  have:=PyProof.Rows.toString_length_le (v:=Int.ofNat (n+1)) (by show (0:Int)≤((n+1:Nat):Int);omega) (k:=40) (by decide) (by
   show ((n+1:Nat):Int)<10 ^ 40
   exact_mod_cast h)
  have e:toString (Int.negSucc n) = "-" ++ toString (Int.ofNat (n+1)):=rfl
  rw [e]
  have e2:∀a b:String,(Str.ofString (a++b)).length=(Str.ofString a).length+(Str.ofString b).length:=fun a b=>by
   simp [PyProof.Rows.ofString_length]
  rw [e2]
  have e3:(Str.ofString "-").length=1:=rfl
  omega
mutual
theorem pz_shown:∀(d:PyData),Pz d=true→d.shown.length≤44*d.weight+42∧d.showable=true∧d.canLay0=true
 | .none,_=>⟨by decide +kernel,rfl,rfl⟩
 | .bool b,_=>⟨by cases b <;> decide +kernel,rfl,rfl⟩
 | .int i,h=>by
  have h:i.natAbs<10 ^ 40:=by simpa [Pz] using h
  refine ⟨?_,?_,rfl⟩
  ·have:=int_len h
   simp only [PyData.shown]
   show (Str.ofString (toString i)).length≤_
   omega
  ·simp only [PyData.showable,decide_eq_true_eq]
   by_cases z:i.natAbs=0
   ·rw [z];decide
   ·exact (Nat.log2_lt z).mpr (Nat.lt_of_lt_of_le h (by decide))
 | .str x,h=>by
  have hx:∀c∈x.cps.toList,c<128:=fun c hc=>by
   have h:Asz x=true:=by simpa only [Pz] using h
   unfold Asz at h
   rw [Array.all_eq_true_iff_forall_mem] at h
   have:=h c (by simpa using hc)
   simpa using this
  refine ⟨?_,rfl,?_⟩
  ·have:=StrLaws.reprText_len x fun c hc=>Nat.lt_of_lt_of_le (hx c hc) (by decide)
   simp only [PyData.shown,PyData.weight]
   have e:x.cps.size=x.length:=rfl
   omega
  ·exact (Sh.str (n:=0) (canLay_small fun ch hc=>by have:=hx ch hc;omega)).1
 | .list ds,h=>by
  obtain ⟨h1,h2,h3⟩:=pzs_shown ds (by simpa only [Pz] using h)
  refine ⟨?_,by simpa only [PyData.showable] using h2,by simpa only [PyData.canLay0] using h3⟩
  have:=lText_len (PyData.shownAll ds)
  simp only [PyData.shown,PyData.weight]
  omega
 | .tuple ds,h=>by
  obtain ⟨h1,h2,h3⟩:=pzs_shown ds (by simpa only [Pz] using h)
  refine ⟨?_,by simpa only [PyData.showable] using h2,by simpa only [PyData.canLay0] using h3⟩
  have:=tText_len (PyData.shownAll ds)
  simp only [PyData.shown,PyData.weight]
  omega
 | .dict _,h=>by simp [Pz] at h
theorem pzs_shown:∀(ds:List PyData),Pzs ds=true→piled (PyData.shownAll ds)≤44*PyData.weightAll ds∧PyData.showableAll ds=true∧PyData.canLayAll0 ds=true
 | [],_=>⟨Nat.le_refl _,rfl,rfl⟩
 | d :: ds,h=>by
  simp only [Pzs,Bool.and_eq_true] at h
  refine Elim.el (pz_shown d h.1) _ ?_
  rintro a1 a2 a3
  refine Elim.el (pzs_shown ds h.2) _ ?_
  rintro b1 b2 b3
  refine ⟨?_,by simp only [PyData.showableAll,a2,b2];rfl,by simp only [PyData.canLayAll0,a3,b3];rfl⟩
  simp only [PyData.shownAll,PyData.weightAll,piled_cons]
  omega
end
theorem pzs_iff {ds:List PyData} : Pzs ds=true ↔ ∀d∈ds,Pz d=true:=by
 induction ds with
 | nil=>simp [Pzs]
 | cons d ds ih=>simp [Pzs,ih]
theorem dAll_le {m:Nat} : ∀{ds:List PyData},(∀e∈ds,e.depth≤m)→PyData.depthAll ds≤m
 | [],_=>by simp [PyData.depthAll]
 | d :: ds,h=>by
  have:=dAll_le (m:=m) (ds:=ds) fun e he=>h e (List.mem_cons_of_mem _ he)
  have:=h d List.mem_cons_self
  simp only [PyData.depthAll]
  omega
structure Gd (w dp:Nat) (d:PyData):Prop where
 pz:Pz d=true
 wt:d.weight≤w
 dp:d.depth≤dp
theorem Gd.mono {w dp w' dp':Nat} {d:PyData} (h:Gd w dp d) (hw:w≤w') (hd:dp≤dp'):Gd w' dp' d:=⟨h.pz,Nat.le_trans h.wt hw,Nat.le_trans h.dp hd⟩
theorem wAll_app (xs ys:List PyData):PyData.weightAll (xs++ys)=PyData.weightAll xs+PyData.weightAll ys:=by
 induction xs with
 | nil=>simp [PyData.weightAll]
 | cons x xs ih=>rw [List.cons_append];simp only [PyData.weightAll,ih];omega
structure Gs (w dp:Nat) (ds:List PyData):Prop where
 pz:∀d∈ds,Pz d=true
 wt:PyData.weightAll ds≤w
 dp:∀d∈ds,d.depth≤dp
theorem Gs.list {w dp:Nat} {ds:List PyData} (h:Gs w dp ds):Gd w (dp+1) (.list ds):=⟨by simp only [Pz];exact pzs_iff.mpr h.pz,by simp only [PyData.weight];exact h.wt,by simp only [PyData.depth];have:=dAll_le h.dp;omega⟩
theorem Gs.tuple {w dp:Nat} {ds:List PyData} (h:Gs w dp ds):Gd w (dp+1) (.tuple ds):=⟨by simp only [Pz];exact pzs_iff.mpr h.pz,by simp only [PyData.weight];exact h.wt,by simp only [PyData.depth];have:=dAll_le h.dp;omega⟩
theorem Gs.mono {w dp w' dp':Nat} {ds:List PyData} (h:Gs w dp ds) (hw:w≤w') (hd:dp≤dp'):Gs w' dp' ds:=⟨h.pz,Nat.le_trans h.wt hw,fun d m=>Nat.le_trans (h.dp d m) hd⟩
theorem Gs.app {w dp w':Nat} {xs ys:List PyData} (h:Gs w dp xs) (g:Gs w' dp ys):Gs (w+w') dp (xs++ys):=
 ⟨fun d m=>(List.mem_append.mp m).elim (h.pz d) (g.pz d),by rw [wAll_app];have:=h.wt;have:=g.wt;omega,fun d m=>(List.mem_append.mp m).elim (h.dp d) (g.dp d)⟩
theorem Gs.one {w dp:Nat} {d:PyData} (h:Gd w dp d):Gs (w+1) dp [d]:=
 ⟨fun e m=>by rw [List.mem_singleton.mp m];exact h.pz,by have:=h.wt;simp only [PyData.weightAll];omega,fun e m=>by rw [List.mem_singleton.mp m];exact h.dp⟩
theorem Gs.cons {w dp w':Nat} {d:PyData} {ds:List PyData} (h:Gd w dp d) (g:Gs w' dp ds):Gs (w+1+w') dp (d :: ds):=(Gs.one h).app g
theorem Gs.nil {dp:Nat} : Gs 0 dp []:=⟨(fun d m=>nomatch m),Nat.le_refl _,(fun d m=>nomatch m)⟩
theorem Gs.at {w dp:Nat} {ds:List PyData} {d:PyData} (h:Gs w dp ds) (m:d∈ds):Gd w dp d:=⟨h.pz d m,weight_at h.wt m,h.dp d m⟩
theorem Gd.int {w dp:Nat} {i:Int} (h:i.natAbs<10 ^ 40) (hw:201≤w):Gd w dp (.int i):=⟨by simpa [Pz] using h,Nat.le_trans (weight_int (Nat.lt_of_lt_of_le h (by decide))) hw,by simp [PyData.depth]⟩
theorem Gd.str {w dp:Nat} {x:Str} (h:Asz x=true) (hw:x.length≤w):Gd w dp (.str x):=⟨by simpa only [Pz] using h,by simp only [PyData.weight];exact hw,by simp [PyData.depth]⟩
theorem Gd.small {w dp:Nat} {d:PyData} (h:d = .none∨∃b,d = .bool b) (hw:10≤w):Gd w dp d:=by
 rcases h with rfl|⟨b,rfl⟩
 ·exact ⟨rfl,Nat.le_trans (by decide) hw,by simp [PyData.depth]⟩
 ·exact ⟨rfl,Nat.le_trans (by cases b <;> decide) hw,by simp [PyData.depth]⟩
end Z
namespace Z
open PySem L2
theorem dstr {K:PySem.W.Frag} {H:Hp} {x:Str} : Den K H (.str x) (.str x):=by unfold Den;rfl
theorem dint {K:PySem.W.Frag} {H:Hp} {x:Int} : Den K H (.int x) (.int x):=by unfold Den;rfl
theorem dsnil {K:PySem.W.Frag} {H:Hp} : Dens K H [] []:=by unfold Dens;rfl
theorem dscons {K:PySem.W.Frag} {H:Hp} {d:PyData} {v:V} {ds:List PyData} {vs:List V} (h:Den K H d v) (g:Dens K H ds vs):Dens K H (d :: ds) (v :: vs):=by unfold Dens;exact ⟨_,_,rfl,h,g⟩
theorem dtupN {K:PySem.W.Frag} {G:Hp} {p:Addr} {ds:List PyData} {vs:List V} (h:G p=some (.tup vs)) (g:Dens K G ds vs):Den K G (.tuple ds) (.ref p):=by unfold Den;exact ⟨p,vs,rfl,SqT.of h,g⟩
theorem dlstN {K:PySem.W.Frag} {G:Hp} {p:Addr} {ds:List PyData} {vs:List V} (h:G p=some (.lst vs)) (g:Dens K G ds vs):Den K G (.list ds) (.ref p):=by unfold Den;exact ⟨p,vs,rfl,SqL.of h,g⟩
theorem at_mem {α:Type} {xs:List α} {r:Int} (h0:0≤r) (h1:r<xs.length):∃v,atI xs r=some v∧v∈xs:=by
 have hk:r.toNat<xs.length:=by omega
 exact ⟨xs[r.toNat],at_nat h0 (List.getElem?_eq_getElem hk),List.getElem_mem hk⟩
theorem inV_str (ks:List Str) (x:Str):inV (.str x) (ks.map V.str)=ks.contains x:=by
 unfold inV
 rw [List.any_map,List.contains_eq_any_beq]
 congr 1
 funext y
 show eqV (.str y) (.str x)=(x == y)
 show (y == x)=(x == y)
 rw [Bool.eq_iff_iff,beq_iff_eq,beq_iff_eq]
 exact eq_comm
theorem flat_strs (ks:List Str):(ks.map V.str).all flatV=true:=by
 rw [List.all_map,List.all_eq_true]
 intro _ _
 rfl
noncomputable def fV:PyData→V
 | .str x => .str x
 | .int i => .int i
 | .bool b => .bl b
 | _ => .non
noncomputable def flatD:PyData→Bool
 | .str _=>true
 | .int _=>true
 | .bool _=>true
 | .none=>true
 | _=>false
theorem den_flat {K:PySem.W.Frag} {H:Hp} {d:PyData} {v:V} (h:Den K H d v) (f:flatD d=true):v=fV d:=by
 cases d with
 | str x=>unfold Den at h;exact h
 | int x=>unfold Den at h;exact h
 | bool x=>unfold Den at h;exact h
 | none=>unfold Den at h;exact h
 | list x=>cases f
 | tuple x=>cases f
 | dict x=>cases f
theorem dens_flat {K:PySem.W.Frag} {H:Hp} : ∀{ds:List PyData} {vs:List V},Dens K H ds vs→ds.all flatD=true→vs=ds.map fV
 | [],_,h,_=>by unfold Dens at h;exact h
 | d :: ds,_,h,f=>by
  unfold Dens at h
  obtain ⟨v,r,rfl,h1,h2⟩:=h
  rw [List.all_cons,Bool.and_eq_true] at f
  rw [den_flat h1 f.1,dens_flat h2 f.2];rfl
end Z
namespace L2
open PySem
end L2
namespace Z
open PySem L2
inductive Rw
 | set (p:Nat) (n:Int)
 | add (p q:Nat)
 | take (p q:Nat)
 | tell (p:Nat)
 | ask (p:Nat)
 | jump (t:Nat)
 | zero (p t:Nat)
 | stop
noncomputable abbrev sp:Nat→Str
 | 0 => "a"
 | 1 => "b"
 | 2 => "c"
 | _ => "d"
noncomputable abbrev Rw.ds:Rw→List PyData
 | .set p n=>[.str "set", .str (sp p), .int n]
 | .add p q=>[.str "add", .str (sp p), .str (sp q)]
 | .take p q=>[.str "take", .str (sp p), .str (sp q)]
 | .tell p=>[.str "tell", .str (sp p)]
 | .ask p=>[.str "ask", .str (sp p)]
 | .jump t=>[.str "jump", .int t]
 | .zero p t=>[.str "zero", .str (sp p), .int t]
 | .stop=>[.str "stop"]
noncomputable abbrev Rw.d (r:Rw):PyData := .tuple r.ds
theorem Rw.flat (r:Rw):r.ds.all flatD=true:=by cases r <;> rfl
noncomputable def kindS:Rw→Str
 | .set _ _ => "set"
 | .add _ _ => "add"
 | .take _ _ => "take"
 | .tell _ => "tell"
 | .ask _ => "ask"
 | .jump _ => "jump"
 | .zero _ _ => "zero"
 | .stop => "stop"
theorem kind_at (r:Rw):atI (r.ds.map fV) 0=some (.str (kindS r)):=by cases r <;> exact at_nat (by decide) rfl
def Rw.ok (len:Nat):Rw→Prop
 | .set p n=>p<4∧0≤n∧n<256
 | .add p q=>p<4∧q<4
 | .take p q=>p<4∧q<4
 | .tell p=>p<4
 | .ask p=>p<4
 | .jump t=>t≤len
 | .zero p t=>p<4∧t≤len
 | .stop=>True
end Z
namespace Z
open PySem L2 PyProof.Rows
noncomputable def joinL (c:Nat):List (List Nat)→List Nat
 | []=>[]
 | [x]=>x
 | x :: y :: r=>x++c :: joinL c (y :: r)
theorem str_eq' {x y:Str} (h:x.cps.toList=y.cps.toList):x=y:=by
 cases x;cases y;congr 1;exact Array.toList_inj.mp h
theorem sg_joinS (c:Nat):∀(xs:List Str),(Str.join ⟨#[c]⟩ xs).cps.toList=joinL c (xs.map fun x=>x.cps.toList)
 | []=>rfl
 | [x]=>rfl
 | x :: y :: r=>by
  rw [join_cons_cons,str_append_list,str_append_list,sg_joinS c (y :: r)]
  simp [joinL]
theorem flat_join (c:Nat) (x:List Nat):∀(r:List (List Nat)),x++r.flatMap (fun p=>[c]++p)=joinL c (x :: r)
 | []=>by simp [joinL]
 | y :: r=>by
  rw [List.flatMap_cons,joinL, ←flat_join c y r]
  simp
theorem sg_joinT (c:Nat) (xs:List Str):(Txt.join ⟨#[c]⟩ xs).cps.toList=joinL c (xs.map fun x=>x.cps.toList):=by
 cases xs with
 | nil=>rfl
 | cons x r=>
  show ((r.foldl (fun acc p=>acc++(⟨#[c]⟩:Str).cps++p.cps) x.cps)).toList=_
  rw [glued_list,List.map_cons, ←flat_join,List.flatMap_map]
theorem joinL_mem {c:Nat} {x y:List Nat} {r:List (List Nat)} : c∈joinL c (x :: y :: r):=by
 rw [joinL];exact List.mem_append_right _ List.mem_cons_self
theorem cut_one {c:Nat} : ∀{x x' y y':List Nat},c ∉ x→c ∉ x'→x++c :: y=x'++c :: y'→x=x'∧y=y'
 | [],[],y,y',_,_,e=>⟨rfl,(List.cons.inj e).2⟩
 | [],a :: x',y,y',_,h,e=>absurd (by rw [←(List.cons.inj e).1];exact List.mem_cons_self) h
 | a :: x,[],y,y',h,_,e=>absurd (by rw [(List.cons.inj e).1];exact List.mem_cons_self) h
 | a :: x,b :: x',y,y',h,h',e=>by
  obtain ⟨e1,e2⟩:=List.cons.inj e
  obtain ⟨k1,k2⟩:=cut_one (fun z=>h (List.mem_cons_of_mem _ z)) (fun z=>h' (List.mem_cons_of_mem _ z)) e2
  exact ⟨by rw [e1,k1],k2⟩
theorem joinL_one {c:Nat} : ∀{xs ys:List (List Nat)},xs≠[]→ys≠[]→(∀x∈xs,c ∉ x)→(∀y∈ys,c ∉ y)→joinL c xs=joinL c ys→xs=ys
 | [],_,h,_,_,_,_=>absurd rfl h
 | _,[],_,h,_,_,_=>absurd rfl h
 | [x],[y],_,_,_,_,e=>by rw [show x=y from e]
 | [x],y :: z :: r,_,_,hx,_,e=>by
  have:c∈x:=by
   have e:x=joinL c (y :: z :: r):=e
   rw [e];exact joinL_mem
  exact absurd this (hx x List.mem_cons_self)
 | x :: z :: r,[y],_,_,_,hy,e=>by
  have:c∈y:=by
   have e:joinL c (x :: z :: r)=y:=e
   rw [←e];exact joinL_mem
  exact absurd this (hy y List.mem_cons_self)
 | x :: x2 :: r,y :: y2 :: r',_,_,hx,hy,e=>by
  rw [joinL,joinL] at e
  obtain ⟨e1,e2⟩:=cut_one (hx x List.mem_cons_self) (hy y List.mem_cons_self) e
  rw [e1,joinL_one (by simp) (by simp) (fun z hz=>hx z (List.mem_cons_of_mem _ hz)) (fun z hz=>hy z (List.mem_cons_of_mem _ hz)) e2]
theorem map_inj {xs ys:List Str} (h:xs.map (fun x=>x.cps.toList)=ys.map fun x=>x.cps.toList):xs=ys:=by
 induction xs generalizing ys with
 | nil=>cases ys with|nil=>rfl|cons _ _=>cases h
 | cons x xs ih=>
  cases ys with
  | nil=>cases h
  | cons y ys=>
   rw [List.map_cons,List.map_cons] at h
   obtain ⟨h1,h2⟩:=List.cons.inj h
   rw [str_eq' h1,ih h2]
theorem split_join {c:Nat} {xs:List Str} (hx:xs≠[]) (hf:∀x∈xs,c ∉ x.cps.toList):Txt.split (Txt.join ⟨#[c]⟩ xs) ⟨#[c]⟩=xs:=by
 have h1:=StrLaws.join_split (Txt.join ⟨#[c]⟩ xs) ⟨#[c]⟩
 have h2:=StrLaws.split_free (Txt.join ⟨#[c]⟩ xs) c
 have h3:=congrArg (fun s:Str=>s.cps.toList) h1
 rw [sg_joinS,sg_joinT] at h3
 have hne:Txt.split (Txt.join ⟨#[c]⟩ xs) ⟨#[c]⟩≠[]:=by
  unfold Txt.split
  split
  ·exact fun z=>nomatch z
  ·split
   ·exact fun z=>nomatch z
   ·intro z
    have:=congrArg List.length z
    rw [len_partsBetween] at this
    cases this
 refine map_inj (joinL_one (by simpa using hne) (by simpa using hx) (fun x hx' => ?_) (fun x hx' => ?_) h3)
 ·obtain ⟨y,hy,rfl⟩:=List.mem_map.mp hx'
  exact h2 y hy
 ·obtain ⟨y,hy,rfl⟩:=List.mem_map.mp hx'
  exact hf y hy
theorem split_nil {c:Nat} : Txt.split ⟨#[]⟩ ⟨#[c]⟩=[⟨#[]⟩]:=split_join (c:=c) (xs:=[⟨#[]⟩]) (by simp) fun x hx=>by rw [List.mem_singleton.mp hx];simp
end Z
namespace Z
open PySem L2 PyProof.Rows
def TP (H H':Hp):Prop:=∀a us,H a=some (.tup us)→H' a=some (.tup us)
theorem TP.trans {H H' H2:Hp} (h:TP H H') (g:TP H' H2):TP H H2:=fun a us e=>g a us (h a us e)
theorem TP.same {H H':Hp} (h:Same H H'):TP H H':=fun a us e=>h _ _ e
theorem TP.step {b c:Addr} {H H':Hp} {t t' N t0:Int} (bx:Bx H b c t0) (st:Step b c H H' t t' N):TP H H':=fun a us e=>by
 obtain ⟨ns,bx⟩:=bx
 exact st.old e (fun z=>by rw [z,bx.d] at e;cases e) (fun z=>by rw [z,bx.l] at e;cases e)
theorem TP.chg {H H':Hp} {p:Addr} {xs:List V} {o:HO} (h:H p=some (.lst xs)) (c:Chg H p o H'):TP H H':=fun a us e=>by
 rw [c.ne (fun z=>by rw [z,h] at e;cases e)];exact e
def Tups (H:Hp) (rows:List Rw) (vs:List V):Prop:=vs.length=rows.length∧∀(i:Nat) (r:Rw),rows[i]? = some r→∃rp:Addr,vs[i]? = some (V.ref rp)∧H rp=some (.tup (r.ds.map fV))
theorem Tups.tp {H H':Hp} {rows:List Rw} {vs:List V} (h:Tups H rows vs) (g:TP H H'):Tups H' rows vs:=⟨h.1,fun i r e=>by
 obtain ⟨rp,h1,h2⟩:=h.2 i r e
 exact ⟨rp,h1,g _ _ h2⟩⟩
theorem Tups.snoc {H:Hp} {rows:List Rw} {vs:List V} {r:Rw} {rp:Addr} (h:Tups H rows vs) (g:H rp=some (.tup (r.ds.map fV))):Tups H (rows++[r]) (vs++[.ref rp]):=⟨by rw [List.length_append,List.length_append,h.1];rfl,fun i q e=>by
 by_cases hi:i<rows.length
 ·rw [List.getElem?_append_left hi] at e
  obtain ⟨p,h1,h2⟩:=h.2 i q e
  exact ⟨p,by rw [List.getElem?_append_left (by rw [h.1];exact hi)];exact h1,h2⟩
 ·rw [List.getElem?_append_right (by omega)] at e
  have:i-rows.length=0:=by have:=(List.getElem?_eq_some_iff.mp e).1;simp at this;omega
  rw [this] at e
  cases e
  exact ⟨rp,by rw [List.getElem?_append_right (by rw [h.1];omega),h.1,this];rfl,g⟩⟩
theorem fV_dens {K:PySem.W.Frag} {H:Hp} : ∀{ds:List PyData},ds.all flatD=true→Dens K H ds (ds.map fV)
 | [],_=>dsnil
 | d :: ds,h=>by
  rw [List.all_cons,Bool.and_eq_true] at h
  refine dscons ?_ (fV_dens h.2)
  cases d with
  | str x=>unfold Den;rfl
  | int x=>unfold Den;rfl
  | bool x=>unfold Den;rfl
  | none=>unfold Den;rfl
  | list x=>cases h.1
  | tuple x=>cases h.1
  | dict x=>cases h.1
theorem Tups.dens {K:PySem.W.Frag} {H:Hp} {rows:List Rw} {vs:List V} (h:Tups H rows vs):Dens K H (rows.map Rw.d) vs:=by
 refine Dens.of_get (by rw [List.length_map];exact h.1.symm) fun j d v h1 h2 => ?_
 rw [List.getElem?_map] at h1
 cases e:rows[j]? with
 | none=>rw [e] at h1;cases h1
 | some r=>
  rw [e] at h1
  cases h1
  obtain ⟨rp,g1,g2⟩:=h.2 j r e
  rw [h2] at g1
  cases g1
  exact dtupN g2 (fV_dens r.flat)
noncomputable def madeOf (x y:Str):Bool:=decide (V.str (Txt.stripChars x y)=V.str (Str.ofString ""))
theorem split_not {g:Nat→Bool} : ∀(l:List Nat),l.all g=false→∃p c r,l=p++c :: r∧(∀a∈p,g a=true)∧g c=false
 | [],h=>by cases h
 | a :: l,h=>by
  cases ha:g a with
  | false=>exact ⟨[],a,l,rfl,(fun _ z=>nomatch z),ha⟩
  | true=>
   rw [List.all_cons,ha,Bool.true_and] at h
   refine Elim.el (split_not l h) _ ?_
   rintro p c r rfl hp hc
   refine ⟨a :: p,c,r,rfl,fun x hx => ?_,hc⟩
   rcases List.mem_cons.mp hx with rfl|hx
   ·exact ha
   ·exact hp x hx
theorem madeOf_all (x y:Str):madeOf x y=x.cps.toList.all y.cps.contains:=by
 unfold madeOf Txt.stripChars
 rw [PyProof.Rows.stripBy_eq]
 generalize y.cps.contains=g
 unfold stripHi stripLo
 simp only [if_true]
 have sub:∀i j:Nat,decide (V.str (Builtin.Str.strSub x i j)=V.str (Str.ofString ""))=decide (min j x.length≤i):=fun i j=>by
  congr 1
  refine propext ⟨fun h => ?_,fun h => ?_⟩
  ·injection h with h
   have h:=congrArg (fun s:Str=>s.cps.size) h
   have e0:(Str.ofString "").cps.size=0:=rfl
   simp only [Builtin.Str.strSub,Array.size_extract,e0] at h
   have:x.cps.size=x.length:=rfl
   omega
  ·congr 1
   unfold Builtin.Str.strSub
   have e:x.cps.extract i j = #[]:=by
    apply Array.eq_empty_of_size_eq_zero
    rw [Array.size_extract]
    have:x.cps.size=x.length:=rfl
    omega
   rw [e]
   rfl
 rw [sub]
 have hlen:x.length=x.cps.toList.length:=by simp [Str.length]
 rw [hlen]
 generalize x.cps.toList=l
 by_cases h:l.all g=true
 ·rw [h]
  have e:l.takeWhile g=l:=by
   clear sub hlen
   induction l with
   | nil=>rfl
   | cons a l ih=>
    rw [List.all_cons,Bool.and_eq_true] at h
    rw [List.takeWhile_cons,if_pos h.1,ih h.2]
  rw [e]
  exact decide_eq_true (by omega)
 ·have hf:l.all g=false:=by simpa using h
  rw [hf]
  apply decide_eq_false
  intro z
  refine Elim.el (split_not l hf) _ ?_
  rintro p c r rfl hp hc
  have e:(p++c :: r).takeWhile g=p:=by
   clear z hlen sub h hf
   induction p with
   | nil=>rw [List.nil_append,List.takeWhile_cons,hc];rfl
   | cons a p ih=>
    rw [List.cons_append,List.takeWhile_cons,if_pos (hp a List.mem_cons_self),ih fun x hx=>hp x (List.mem_cons_of_mem _ hx)]
  have ed:(p++c :: r).drop p.length=c :: r:=List.drop_left
  rw [e,ed] at z
  have hl:(p++c :: r).length=p.length+(r.length+1):=by rw [List.length_append,List.length_cons]
  have tl:((c :: r).reverse.takeWhile g).length≤r.length:=by
   rw [List.reverse_cons]
   have:((r.reverse++[c]).takeWhile g).length≤r.reverse.length:=by
    rw [List.takeWhile_append]
    split
    ·rw [List.length_append]
     have e:[c].takeWhile g=[]:=by simp [List.takeWhile,hc]
     rw [e];simp
    ·exact (List.takeWhile_prefix g).length_le
   rw [List.length_reverse] at this
   exact this
  omega
noncomputable abbrev sSmall:Str := "abcdefghijklmnopqrstuvwxyz"
noncomputable abbrev sFig:Str := "0123456789"
structure Nam (x:Str):Prop where
 lo:1≤x.length
 hi:x.length≤8
 ch:∀c∈x.cps.toList,97≤c∧c≤122
noncomputable def numT (n:Nat):Str:=Str.ofString (toString (n:Int))
theorem num_small:∀n,n<256→(numT n).cps.toList.all (fun c=>decide (48≤c)&&decide (c≤57))=true∧1≤(numT n).length∧(numT n).length≤3:=by decide +kernel
noncomputable def plc:Rw→Option Nat
 | .jump t=>some t
 | .zero _ t=>some t
 | _=>none
noncomputable def wds (L:Nat→Str):Rw→List Str
 | .set p n=>["set",sp p,numT n.toNat]
 | .add p q=>["add",sp p,sp q]
 | .take p q=>["take",sp p,sp q]
 | .tell p=>["tell",sp p]
 | .ask p=>["ask",sp p]
 | .jump t=>["jump",L t]
 | .zero p t=>["zero",sp p,L t]
 | .stop=>["stop"]
noncomputable abbrev sBl:Str:=⟨#[32]⟩
noncomputable abbrev sNl:Str:=⟨#[10]⟩
noncomputable abbrev sCo:Str:=⟨#[58]⟩
noncomputable def rowT (L:Nat→Str) (r:Rw):Str:=Txt.join sBl (wds L r)
inductive Ln
 | lb (x:Str)
 | em
 | rw (r:Rw)
noncomputable def lnT (L:Nat→Str):Ln→Str
 | .lb x=>x++sCo
 | .em=>⟨#[]⟩
 | .rw r=>rowT L r
def LnOk (L:Nat→Str) (n:Nat):Ln→Prop
 | .lb x=>Nam x
 | .em=>True
 | .rw r=>r.ok n∧∀t,plc r=some t→Nam (L t)
def Wd (x:Str):Prop:=1≤x.length∧x.length≤8∧∀c∈x.cps.toList,(48≤c∧c≤57)∨(97≤c∧c≤122)
theorem Nam.wd {x:Str} (h:Nam x):Wd x:=⟨h.lo,h.hi,fun c hc => .inr (h.ch c hc)⟩
theorem wdB {x:Str} (h:(decide (1≤x.length)&&decide (x.length≤8)&&x.cps.toList.all fun c=>(decide (48≤c)&&decide (c≤57))||(decide (97≤c)&&decide (c≤122)))=true):Wd x:=by
 rw [Bool.and_eq_true,Bool.and_eq_true,decide_eq_true_iff,decide_eq_true_iff,List.all_eq_true] at h
 exact ⟨h.1.1,h.1.2,fun c hc=>by simpa using h.2 c hc⟩
theorem sp_wd (p:Nat):Wd (sp p):=by
 match p with
 | 0=>exact wdB (by decide +kernel)
 | 1=>exact wdB (by decide +kernel)
 | 2=>exact wdB (by decide +kernel)
 | n+3=>exact (wdB (by decide +kernel):Wd (Str.ofString "d"))
theorem num_wd {n:Nat} (h:n<256):Wd (numT n):=by
 obtain ⟨h1,h2,h3⟩:=num_small n h
 rw [List.all_eq_true] at h1
 exact ⟨h2,by omega,fun c hc => .inl (by simpa using h1 c hc)⟩
theorem wds_wd {L:Nat→Str} {n:Nat} {r:Rw} (h:r.ok n) (hL:∀t,plc r=some t→Nam (L t)):∀x∈wds L r,Wd x:=by
 have k:∀{s:Str},Wd s→∀{xs:List Str},(∀x∈xs,Wd x)→∀x∈s :: xs,Wd x:=fun {s} hs {xs} hx x hm=>by
  rcases List.mem_cons.mp hm with e|hm
  ·rw [e];exact hs
  ·exact hx x hm
 have nl:∀x∈([]:List Str),Wd x:=fun x hx=>nomatch hx
 cases r with
 | set p n=>exact k (wdB (by decide +kernel)) (k (sp_wd _) (k (num_wd (by have:=h.2;omega)) nl))
 | add p q=>exact k (wdB (by decide +kernel)) (k (sp_wd _) (k (sp_wd _) nl))
 | take p q=>exact k (wdB (by decide +kernel)) (k (sp_wd _) (k (sp_wd _) nl))
 | tell p=>exact k (wdB (by decide +kernel)) (k (sp_wd _) nl)
 | ask p=>exact k (wdB (by decide +kernel)) (k (sp_wd _) nl)
 | jump t=>exact k (wdB (by decide +kernel)) (k (hL t rfl).wd nl)
 | zero p t=>exact k (wdB (by decide +kernel)) (k (sp_wd _) (k (hL t rfl).wd nl))
 | stop=>exact k (wdB (by decide +kernel)) nl
theorem wds_ne (L:Nat→Str) (r:Rw):wds L r≠[]:=by cases r <;> exact fun z=>nomatch z
theorem wds_len (L:Nat→Str) (r:Rw):(wds L r).length≤3:=by cases r <;> exact Nat.le_of_ble_eq_true rfl
theorem split_row {L:Nat→Str} {n:Nat} {r:Rw} (h:r.ok n) (hL:∀t,plc r=some t→Nam (L t)):Txt.split (rowT L r) sBl=wds L r:=
 split_join (wds_ne L r) fun x hx hc=>by
  have:=(wds_wd h hL x hx).2.2 32 hc
  omega
theorem joinL_in {c:Nat} : ∀{xs:List (List Nat)} {a:Nat},a∈joinL c xs→a=c∨∃x∈xs,a∈x
 | [],a,h=>nomatch h
 | [x],a,h => .inr ⟨x,List.mem_cons_self,h⟩
 | x :: y :: r,a,h=>by
  rw [joinL] at h
  rcases List.mem_append.mp h with h|h
  ·exact .inr ⟨x,List.mem_cons_self,h⟩
  ·rcases List.mem_cons.mp h with h|h
   ·exact .inl h
   ·rcases joinL_in h with h|⟨z,hz,h⟩
    ·exact .inl h
    ·exact .inr ⟨z,List.mem_cons_of_mem _ hz,h⟩
theorem joinL_le {c m:Nat} : ∀{xs:List (List Nat)},(∀x∈xs,x.length≤m)→(joinL c xs).length≤(m+1)*xs.length
 | [],_=>Nat.zero_le _
 | [x],h=>by
  have:=h x List.mem_cons_self
  show x.length≤(m+1)*1
  omega
 | x :: y :: r,h=>by
  have h1:=joinL_le (c:=c) (m:=m) (xs:=y :: r) fun z hz=>h z (List.mem_cons_of_mem _ hz)
  have h2:=h x List.mem_cons_self
  rw [joinL,List.length_append,List.length_cons,List.length_cons (a:=x),Nat.mul_succ]
  omega
theorem row_chars {L:Nat→Str} {n:Nat} {r:Rw} (h:r.ok n) (hL:∀t,plc r=some t→Nam (L t)):∀c∈(rowT L r).cps.toList,c=32∨(48≤c∧c≤57)∨(97≤c∧c≤122):=fun c hc=>by
 unfold rowT at hc
 rw [sg_joinT] at hc
 rcases joinL_in hc with h'|⟨x,hx,hc⟩
 ·exact .inl h'
 ·obtain ⟨y,hy,rfl⟩:=List.mem_map.mp hx
  exact .inr ((wds_wd h hL y hy).2.2 c hc)
theorem row_len {L:Nat→Str} {n:Nat} {r:Rw} (h:r.ok n) (hL:∀t,plc r=some t→Nam (L t)):(rowT L r).length≤27∧rowT L r≠⟨#[]⟩:=by
 have e:(rowT L r).length=(joinL 32 ((wds L r).map fun x=>x.cps.toList)).length:=by rw [str_len];unfold rowT;rw [sg_joinT]
 refine ⟨?_,fun z => ?_⟩
 ·rw [e]
  have:=joinL_le (c:=32) (m:=8) (xs:=(wds L r).map fun x=>x.cps.toList) fun x hx=>by
   obtain ⟨y,hy,rfl⟩:=List.mem_map.mp hx
   have:=(wds_wd h hL y hy).2.1
   rw [str_len] at this
   exact this
  rw [List.length_map] at this
  have h3:=wds_len L r
  have:9*(wds L r).length≤27:=by omega
  omega
 ·rw [z] at e
  have e:0=(joinL 32 ((wds L r).map fun x=>x.cps.toList)).length:=e
  cases hw:wds L r with
  | nil=>exact wds_ne L r hw
  | cons x xs=>
   have h1:=(wds_wd h hL x (by rw [hw];exact List.mem_cons_self)).1
   rw [str_len] at h1
   rw [hw] at e
   cases xs with
   | nil=>
    have e:0=x.cps.toList.length:=e
    omega
   | cons y ys=>
    rw [List.map_cons,List.map_cons,joinL,List.length_append,List.length_cons] at e
    omega
end Z
namespace Z
open PySem L2
noncomputable abbrev sg (x:Str):List Nat:=x.cps.toList
end Z
namespace Z
open PySem L2
theorem str_eq {x y:Str} (h:sg x=sg y):x=y:=by
 cases x;cases y
 simp only [sg] at h
 rw [Array.toList_inj.mp h]
theorem sl_to {x:Str} {j:Int} (h0:0≤j) (h1:j≤x.length):sg (Txt.slice x none (some j))=(sg x).take j.toNat:=by
 have e:=PyProof.Rows.slice_closes_to (x:=x) (j:=j) ⟨h0,by rw [←str_len];exact h1⟩
 rw [eq_of_beq e]
 simp
end Z
namespace Z
open PySem L2
theorem take_next {α:Type} {l:List α} {i:Nat} (h:i<l.length):l.take (i+1)=l.take i++[l[i]]:=by
 rw [List.take_succ,List.getElem?_eq_getElem h];rfl
end Z
namespace Z
open PySem L2 PyProof.Rows
def spMade:Sp:=fun vs H Q _=>∃x y:Str,vs=[.str x, .str y]∧x.length≤10000000∧Q (.bl (madeOf x y)) H
noncomputable def namB (x:Str):Bool:=decide (1≤x.length)&&(decide (x.length≤8)&&madeOf x sSmall)
noncomputable def sl1 (x:Str):Str:=Txt.slice x none (some (-1))
noncomputable def lbO (x:Str):Option Str:=if Txt.endswith x sCo&&namB (sl1 x) then some (sl1 x) else none
noncomputable def optS:Option Str→V
 | some y => .str y
 | none => .non
noncomputable def valN (x:Str):Nat:=PySem.NumText.digitsVal x.cps.toList
noncomputable def numO (x:Str):Option Nat:=if decide (1≤x.length)&&(decide (x.length≤3)&&(madeOf x sFig&&(decide (valN x≤255)&&decide (numT (valN x)=x)))) then some (valN x) else none
noncomputable def optN:Option Nat→V
 | some n => .int (n:Nat)
 | none => .non
def spNamG (K:PySem.W.Frag):Sp:=fun vs H Q _=>∃x:Str,vs=[.str x]∧x.length≤10000000∧Q (.bl (namB x)) H
def spLinG (K:PySem.W.Frag):Sp:=fun vs H Q _=>∃x:Str,vs=[.str x]∧x.length≤10000000∧Q (optS (lbO x)) H
def spNumG (K:PySem.W.Frag):Sp:=fun vs H Q _=>∃x:Str,vs=[.str x]∧x.length≤10000000∧Q (optN (numO x)) H
theorem ends_iff (x:Str) (c:Nat):Txt.endswith x ⟨#[c]⟩=true ↔ ∃y,x.cps.toList=y++[c]:=by
 have e:Txt.endswith x ⟨#[c]⟩=(decide (0+1≤x.length)&&(x.cps.extract (x.length-1) (x.length-1+1) == #[c])):=rfl
 have hl:x.length=x.cps.toList.length:=str_len x
 rw [e,Bool.and_eq_true,decide_eq_true_iff,beq_iff_eq, ←Array.toList_inj,Array.toList_extract]
 rw [hl]
 generalize x.cps.toList=l
 constructor
 ·rintro ⟨h1,h2⟩
  rw [show l.length-1+1=l.length by omega,List.extract_eq_take_drop] at h2
  have h2:List.take (l.length-(l.length-1)) (List.drop (l.length-1) l)=[c]:=h2
  refine ⟨l.take (l.length-1),?_⟩
  have h3:l.drop (l.length-1)=[c]:=by
   rw [←h2,List.take_of_length_le (by rw [List.length_drop];omega)]
  rw [←h3,List.take_append_drop]
 ·rintro ⟨y,rfl⟩
  rw [List.length_append,List.extract_eq_take_drop]
  refine ⟨by show 0+1≤y.length+1;omega,?_⟩
  show List.take _ (List.drop (y.length+1-1) (y++[c]))=[c]
  rw [Nat.add_sub_cancel,List.drop_left,List.take_of_length_le (by show 1≤y.length+1-y.length;omega)]
theorem slice_last {x:Str} {c:Nat} (hx:x.length≤10000000):Txt.slice (x++⟨#[c]⟩) none (some (-1))=x:=by
 have hl:(x++(⟨#[c]⟩:Str)).length=x.length+1:=by rw [len_append];rfl
 have e:Txt.slice (x++⟨#[c]⟩) none (some (-1))=Txt.slice (x++⟨#[c]⟩) none (some (x.length:Nat)):=by
  unfold Txt.slice
  have:PySem.Builtin.Str.strSliceIndices none (some (-1)) 1 (x++(⟨#[c]⟩:Str)).length=PySem.Builtin.Str.strSliceIndices none (some ((x.length:Nat):Int)) 1 (x++(⟨#[c]⟩:Str)).length:=by
   unfold PySem.Builtin.Str.strSliceIndices
   rw [hl]
   dsimp only
   congr 1
   all_goals omega
  rw [this]
 rw [e]
 refine str_eq ?_
 rw [sl_to (by omega) (by rw [hl];omega),Int.toNat_natCast]
 show ((x++(⟨#[c]⟩:Str)).cps.toList).take x.length=_
 rw [str_append_list,str_len,List.take_left]
theorem int_shown (n:Int):strD (.int n)=Str.ofString (toString n):=by
 show (PyData.int n).shown=_
 simp only [PyData.shown]
theorem len255:(strD (.int 255)).length=3:=by rw [int_shown];decide +kernel
theorem fig_of:∀c,c∈sFig.cps.toList→48≤c∧c≤57:=by decide +kernel
theorem con_small:∀c,c<128→(decide (97≤c)&&decide (c≤122))=true→sSmall.cps.contains c=true:=by decide +kernel
theorem small_of:∀c,c∈sSmall.cps.toList→97≤c∧c≤122:=by decide +kernel
theorem namB_iff {x:Str} : namB x=true ↔ Nam x:=by
 unfold namB
 rw [Bool.and_eq_true,Bool.and_eq_true,decide_eq_true_iff,decide_eq_true_iff,madeOf_all,List.all_eq_true]
 refine ⟨fun h=>⟨h.1,h.2.1,fun c hc=>small_of c (by have:=h.2.2 c hc;simpa using this)⟩,fun h=>⟨h.lo,h.hi,fun c hc => ?_⟩⟩
 have:=h.ch c hc
 exact con_small c (by omega) (by simp;omega)
theorem made_digits {x:Str} (h:madeOf x sFig=true):PySem.NumText.AllDigits x.cps.toList:=by
 rw [madeOf_all,List.all_eq_true] at h
 intro c hc
 have:=fig_of c (by have:=h c hc;simpa using this)
 exact this
theorem val_le {x:Str} (h:madeOf x sFig=true) (hl:x.length≤3):valN x<1000:=by
 rw [madeOf_all,List.all_eq_true] at h
 have hd:∀c∈x.cps.toList,48≤c∧c≤57:=fun c hc=>fig_of c (by have:=h c hc;simpa using this)
 unfold valN
 rw [str_len] at hl
 revert hl hd
 generalize x.cps.toList=l
 intro hl hd
 match l,hl with
 | [],_=>decide
 | [a],_=>
  have:=hd a (by simp)
  show 0*10+(a-48)<1000
  omega
 | [a,b],_=>
  have:=hd a (by simp)
  have:=hd b (by simp)
  show (0*10+(a-48))*10+(b-48)<1000
  omega
 | [a,b,c],_=>
  have:=hd a (by simp)
  have:=hd b (by simp)
  have:=hd c (by simp)
  show ((0*10+(a-48))*10+(b-48))*10+(c-48)<1000
  omega
section
variable {P:Program} {w:World} {K:PySem.W.Frag} {mg:Str→Option Value} {base:Heap} {f:Addr} {fd:FuncData} {t1 t2 t3:Tok}
theorem sc_made_of:FnScope ["text", "signs"] ["text", "signs"] (defScope (top i_made_of)):=⟨rfl,rfl,rfl,by decide +kernel,rfl,by decide +kernel,by decide +kernel⟩
theorem ok_made (F:Fun K "made_of" "made_of" (top i_made_of) f fd) (T:Nm mg):FnOk P w K mg base CX0 1 f fd ["text", "signs"] spMade:=by
 refine F.ok sc_made_of (fun vs H Q E h => ?_) (fun cdv A outer s H vs Q E hr h => ?_)
 ·obtain ⟨x,y,rfl,_⟩:=h
  rfl
 obtain ⟨x,y,rfl,hx,q⟩:=h
 have hu6:=hr.units
 refine ⟨_,(pss_one (ps_ret (pe_cmpR (eqK K hu6) (bmK K PySem.F.plainAttrs_str PySem.F.slot_str_strip PySem.F.type_str_strip mt_strip1 (pv 0) (pa_cons (pv 1) pa_nil)) pe_str (nomark _)))),?_⟩
 exact ⟨_,rfl,rfl,_,rfl,x,y,rfl,rfl,sizeOk (by omega), .inl ⟨rfl,q⟩⟩
theorem sc_is_name:FnScope ["thing"] ["thing"] (defScope (top i_is_name)):=⟨rfl,rfl,rfl,by decide +kernel,rfl,by decide +kernel,by decide +kernel⟩
theorem ok_namG (F:Fun K "is_name" "is_name" (top i_is_name) f fd) (T:Nm mg) (v_LONGEST_NAME:mg "LONGEST_NAME" = some (.int 8 t1)) (v_SMALL_LETTERS:mg "SMALL_LETTERS" = some (.str sSmall t2)) (f_made_of:Fn P w K mg base 1 "made_of" ["text", "signs"] spMade):FnOk P w K mg base CX0 2 f fd ["thing"] (spNamG K):=by
 refine F.ok sc_is_name (fun vs H Q E h => ?_) (fun cdv A outer s H vs Q E hr h => ?_)
 ·obtain ⟨x,rfl,_⟩:=h
  rfl
 obtain ⟨x,rfl,hx,q⟩:=h
 refine ⟨_,(pss_one (ps_ret (pe_and (pe_callB (isiK K) rfl T.n_isinstance (by rfl) (pa_cons (pv 0) (pa_cons (pe_bltn rfl T.n_str (by rfl) (v := .ty "str") rfl) pa_nil))) (pe_and (pe_chain op_le op_le pe_int (pe_callB (lenK K) rfl T.n_len (by rfl) (pa_cons (pv 0) pa_nil)) (pe_gint rfl v_LONGEST_NAME)) (pe_one (pe_fn (f_made_of.mono (by decide)) hr rfl (pa_cons (pv 0) (pa_cons (pe_gstr rfl v_SMALL_LETTERS) pa_nil)))))))),?_⟩
 refine ⟨_,rfl, .inl ⟨_, "str", .str x,_,rfl,(by unfold Den;rfl),(kitT K (.str x)).2.2.1,_,rfl,iteT ?_⟩⟩
 refine ⟨_,rfl,_,_,rfl,⟨sizeOk (by omega),rfl⟩,_,_,rfl,rfl,_,rfl,?_⟩
 unfold namB at q
 by_cases h1:1≤x.length
 ·rw [decide_eq_true h1,Bool.true_and] at q
  rw [decide_eq_true (show (1:Int)≤(x.length:Nat) by omega)]
  refine iteT ⟨_,_,rfl,rfl,_,rfl,?_⟩
  by_cases h2:x.length≤8
  ·rw [decide_eq_true h2,Bool.true_and] at q
   rw [decide_eq_true (show ((x.length:Nat):Int)≤8 by omega)]
   exact iteT ⟨_,rfl,x,_,rfl,by omega,q⟩
  ·rw [decide_eq_false h2,Bool.false_and] at q
   rw [decide_eq_false (show ¬((x.length:Nat):Int)≤8 by omega)]
   exact iteF q
 ·rw [decide_eq_false h1,Bool.false_and] at q
  rw [decide_eq_false (show ¬(1:Int)≤(x.length:Nat) by omega)]
  exact iteF ⟨_,rfl,iteF q⟩
theorem sc_label_in:FnScope ["row"] ["row"] (defScope (top i_label_in)):=⟨rfl,rfl,rfl,by decide +kernel,rfl,by decide +kernel,by decide +kernel⟩
theorem ok_linG (F:Fun K "label_in" "label_in" (top i_label_in) f fd) (T:Nm mg) (f_is_name:Fn P w K mg base 2 "is_name" ["thing"] (spNamG K)):FnOk P w K mg base CX0 3 f fd ["row"] (spLinG K):=by
 refine F.ok sc_label_in (fun vs H Q E h => ?_) (fun cdv A outer s H vs Q E hr h => ?_)
 ·obtain ⟨x,rfl,_⟩:=h
  rfl
 obtain ⟨x,rfl,hx,q⟩:=h
 have hu6:=hr.units
 refine ⟨_,(pss_one (ps_ret (pe_ifExp (PW.pt (pw_and (pt_val (bmK K PySem.F.plainAttrs_str PySem.F.slot_str_endswith PySem.F.type_str_endswith endsW (pv 0) (pa_cons pe_str pa_nil))) (pw_and1 (pt_val (pe_fn (f_is_name.mono (by decide)) hr rfl (pa_cons (pe_slice (slN K) (pv 0) po_none (po_some (pe_un un_neg pe_int))) pa_nil)))))) (pe_slice (slN K) (pv 0) po_none (po_some (pe_un un_neg pe_int))) pe_non))),?_⟩
 have co:(Str.ofString ":")=sCo:=by decide +kernel
 refine ⟨_,rfl,rfl,_,_,rfl,rfl,_,rfl,?_⟩
 unfold lbO at q
 rw [co]
 cases he:Txt.endswith x sCo with
 | false=>
  rw [he,Bool.false_and] at q
  exact iteF (iteF q)
 | true=>
  rw [he,Bool.true_and] at q
  have ls:(sl1 x).length≤10000000:=by
   obtain ⟨y,e⟩:=(ends_iff x 58).mp he
   have ex:x=(⟨y.toArray⟩:Str)++(⟨#[58]⟩:Str):=str_eq (by show x.cps.toList=((⟨y.toArray⟩:Str)++(⟨#[58]⟩:Str)).cps.toList;rw [e,str_append_list])
   have hl:y.length≤10000000:=by rw [str_len,e,List.length_append] at hx;omega
   have hy:(⟨y.toArray⟩:Str).length=y.length:=by rw [str_len]
   unfold sl1
   rw [ex,slice_last (by rw [hy];exact hl),hy]
   exact hl
  refine iteT ⟨_,rfl,_,rfl,_,rfl, .inr ⟨_,rfl,sizeOk (by omega),sl1 x,rfl,ls,_,rfl,?_⟩⟩
  cases hn:namB (sl1 x) with
  | false=>
   rw [hn] at q
   exact iteF q
  | true=>
   rw [hn] at q
   exact iteT ⟨_,rfl,_,rfl,_,rfl, .inr ⟨_,rfl,sizeOk (by omega),q⟩⟩
theorem sc_number_in:FnScope ["word", "number"] ["word"] (defScope (top i_number_in)):=⟨rfl,rfl,rfl,by decide +kernel,rfl,by decide +kernel,by decide +kernel⟩
theorem ok_numG (F:Fun K "number_in" "number_in" (top i_number_in) f fd) (T:Nm mg) (v_GREATEST_NUMBER:mg "GREATEST_NUMBER" = some (.int 255 t1)) (v_FIGURES:mg "FIGURES" = some (.str sFig t2)) (f_made_of:Fn P w K mg base 1 "made_of" ["text", "signs"] spMade):FnOk P w K mg base CX0 2 f fd ["word"] (spNumG K):=by
 refine F.ok sc_number_in (fun vs H Q E h => ?_) (fun cdv A outer s H vs Q E hr h => ?_)
 ·obtain ⟨n,rfl,_⟩:=h
  rfl
 obtain ⟨x,rfl,hx,q⟩:=h
 have hu6:=hr.units
 refine ⟨_,(pss_cons (ps_if (PW.pt (pw_or (pt_cmpR (eqK K hu6) (pv 0) pe_str (nomark _)) (pw_or (pt_cmpR op_gt (pe_callB (lenK K) rfl T.n_len (by rfl) (pa_cons (pv 0) pa_nil)) (pe_callB (lenK K) rfl T.n_len (by rfl) (pa_cons (pe_callTy (strK K hr.gd hu6) rfl T.n_str (by rfl) (pa_cons (pe_gint rfl v_GREATEST_NUMBER) pa_nil)) pa_nil)) (nomark _)) (pw_or1 (pt_not (pt_val (pe_fn (f_made_of.mono (by decide)) hr rfl (pa_cons (pv 0) (pa_cons (pe_gstr rfl v_FIGURES) pa_nil))))))))) (pss_one (ps_ret pe_non)) pss_nil)
  (pss_cons (ps_set (i:=1) sc_number_in.nd rfl (Or.inl rfl) (pe_callTy intS rfl T.n_int (by rfl) (pa_cons (pv 0) pa_nil)))
  (pss_one (ps_ret (pe_ifExp (PW.pt (pw_and (pt_cmpR op_le (pv 1) (pe_gint rfl v_GREATEST_NUMBER) (nomark _)) (pw_and1 (pt_cmpR (eqK K hu6) (pe_callTy (strK K hr.gd hu6) rfl T.n_str (by rfl) (pa_cons (pv 1) pa_nil)) (pv 0) (nomark _))))) (pv 1) pe_non))))),?_⟩
 have sh:∀m:Int,m.natAbs<1000→(PyData.int m).showable=true∧(PyData.int m).depth≤40∧(PyData.int m).shown.length≤sizeLine:=fun m hm=>by
  have g:Gd 300 1 (.int m):=Gd.int (Nat.lt_of_lt_of_le hm (by decide)) (by decide)
  obtain ⟨h1,h2,h3⟩:=pz_shown _ g.pz
  have:=g.wt
  exact ⟨h2,by simp [PyData.depth],sizeOk (by omega)⟩
 have di:∀{H:Hp} {m:Int},Den K H (.int m) (.int m):=by intro H m;unfold Den;rfl
 have s255:=sh 255 (by decide)
 have e0:(Str.ofString "")=(⟨#[]⟩:Str):=by decide +kernel
 unfold numO at q
 refine ⟨_,rfl, .inl ⟨rfl,_,rfl,?_⟩⟩
 by_cases h1:¬ 1≤x.length
 ·rw [decide_eq_false h1,Bool.false_and] at q
  have ex:x=⟨#[]⟩:=str_eq (show x.cps.toList=[] from List.length_eq_zero_iff.mp (by rw [←str_len];omega))
  rw [decide_eq_true (by rw [e0,ex])]
  exact iteT q
 have h1:1≤x.length:=by omega
 rw [decide_eq_true h1,Bool.true_and] at q
 rw [decide_eq_false (fun z=>by injection z with z;rw [z,e0] at h1;exact absurd h1 (by decide))]
 refine iteF ⟨_,rfl,_,_,rfl,⟨sizeOk (by omega),rfl⟩,_,_,rfl,di,s255.1,s255.2.1,s255.2.2,_,_,rfl,⟨by rw [len255];decide,rfl⟩,_,_,rfl,rfl,_,rfl,?_⟩
 rw [len255]
 by_cases h2:¬x.length≤3
 ·rw [decide_eq_false h2,Bool.false_and] at q
  rw [decide_eq_true (show ((3:Nat):Int)<(x.length:Nat) by omega)]
  exact iteT q
 have h2:x.length≤3:=by omega
 rw [decide_eq_true h2,Bool.true_and] at q
 rw [decide_eq_false (by show ¬((3:Nat):Int)<(x.length:Nat);omega)]
 refine iteF ⟨_,rfl,_,_,rfl,by omega,_,rfl,?_⟩
 cases hm:madeOf x sFig with
 | false=>
  rw [hm,Bool.false_and] at q
  exact iteT q
 | true=>
  rw [hm,Bool.true_and] at q
  refine iteF ?_
  have rd:PySem.intText? x=some ((valN x:Nat):Int):=PySem.intText_digits (made_digits hm) (fun z=>by rw [str_len,z] at h1;exact absurd h1 (by decide)) (by rw [str_len] at h2;exact Nat.le_trans h2 (by decide))
  have vl:=val_le hm h2
  have sn:=sh (valN x:Nat) (by omega)
  refine ⟨_,rfl,x,_,rfl,rd,by omega,gn ?_⟩
  refine ⟨_,rfl,_,_,rfl,rfl,_,rfl,?_⟩
  by_cases h3:¬valN x≤255
  ·rw [decide_eq_false h3,Bool.false_and] at q
   rw [decide_eq_false (show ¬((valN x:Nat):Int)≤255 by omega)]
   exact iteF (iteF q)
  have h3:valN x≤255:=by omega
  rw [decide_eq_true h3,Bool.true_and] at q
  rw [decide_eq_true (show ((valN x:Nat):Int)≤255 by omega)]
  refine iteT ⟨_,rfl,_,_,rfl,di,sn.1,sn.2.1,sn.2.2,_,rfl, .inl ⟨rfl,_,rfl,?_⟩⟩
  rw [int_shown]
  by_cases h4:numT (valN x)=x
  ·rw [decide_eq_true h4,if_pos rfl] at q
   rw [decide_eq_true (show V.str (Str.ofString (toString ((valN x:Nat):Int)))=V.str x from congrArg V.str h4)]
   exact iteT ⟨_,rfl,q⟩
  ·rw [decide_eq_false h4,if_neg (fun z=>nomatch z)] at q
   rw [decide_eq_false (fun z=>h4 (by injection z))]
   exact iteF q
end
end Z
namespace Z
open PySem L2 PyProof.Rows
noncomputable abbrev kinds8:List Str:=["set", "add", "take", "tell", "ask", "jump", "zero", "stop"]
noncomputable abbrev spots4:List Str:=["a", "b", "c", "d"]
noncomputable def prts:Rw→List Str
 | .set _ _=>["spot", "number"]
 | .add _ _=>["spot", "spot"]
 | .take _ _=>["spot", "spot"]
 | .tell _=>["spot"]
 | .ask _=>["spot"]
 | .jump _=>["near"]
 | .zero _ _=>["spot", "near"]
 | .stop=>[]
theorem kind_in (r:Rw):kindS r∈kinds8:=by
 have h:kinds8.contains (kindS r)=true:=by cases r <;> rfl
 simpa using h
theorem sh_strs (ks:List Str) (h:ks.all (fun x=>x.cps.all (· < 128))=true):∀e∈ks.map PyData.str,SeqAt.shaped e=true:=fun e he=>by
 obtain ⟨x,hx,rfl⟩:=List.mem_map.mp he
 have hx:=List.all_eq_true.mp h x hx
 refine (Sh.str (n:=0) (canLay_small fun ch hc => ?_)).shaped (by decide)
 rw [Array.all_eq_true_iff_forall_mem] at hx
 have:=hx ch (by simpa using hc)
 simpa using this
theorem inD_strs (x:Str) (ks:List Str):inD (.str x) (ks.map PyData.str)=decide (x∈ks):=by
 unfold inD
 rw [List.any_map,Bool.eq_iff_iff,List.any_eq_true,decide_eq_true_iff]
 refine ⟨fun ⟨y,hy,e⟩ => ?_,fun h=>⟨x,h,?_⟩⟩
 ·have e:(y == x)=true:=by simpa [PyData.eqv] using e
  rw [←eq_of_beq e];exact hy
 ·show PyData.eqv (.str x) (.str x)=true
  simp [PyData.eqv]
structure Cs83 (K:PySem.W.Frag) (w:World) (mg:Str→Option Value) (aS aR aP:Addr):Prop where
 g_SPOT_NAMES:mg "SPOT_NAMES" = some (.ref aS)
 g_ROW_KINDS:mg "ROW_KINDS" = some (.ref aR)
 g_PARTS:mg "PARTS" = some (.ref aP)
 sS:∀H,SqT K H aS (spots4.map V.str)
 sR:∀H,SqT K H aR (kinds8.map V.str)
 cd:CDict K w aP
 pt:∀r:Rw,∃p,PySem.W.nsIn K aP (kindS r)=some (some (.ref p))∧∀H,SqT K H p ((prts r).map V.str)
theorem kind_ex {k:Str} (h:k∈kinds8):∃r:Rw,kindS r=k:=by
 have:k = "set" ∨ k = "add" ∨ k = "take" ∨ k = "tell" ∨ k = "ask" ∨ k = "jump" ∨ k = "zero" ∨ k = "stop":=by simpa using h
 rcases this with rfl|rfl|rfl|rfl|rfl|rfl|rfl|rfl
 ·exact ⟨.set 0 0,rfl⟩
 ·exact ⟨.add 0 0,rfl⟩
 ·exact ⟨.take 0 0,rfl⟩
 ·exact ⟨.tell 0,rfl⟩
 ·exact ⟨.ask 0,rfl⟩
 ·exact ⟨.jump 0,rfl⟩
 ·exact ⟨.zero 0 0,rfl⟩
 ·exact ⟨.stop,rfl⟩
def Asc (x:Str):Prop:=∀c∈x.cps.toList,c<128
theorem Asc.lay {x:Str} (h:Asc x):(PyData.str x).canLay0=true:=(Sh.str (n:=0) (canLay_small fun ch hc=>by have:=h ch hc;omega)).1
theorem joinL_sub {c:Nat} : ∀{xs:List (List Nat)} {x:List Nat} {a:Nat},x∈xs→a∈x→a∈joinL c xs
 | [],_,_,h,_=>nomatch h
 | [y],x,a,h,ha=>by rw [←List.mem_singleton.mp h];exact ha
 | y :: z :: r,x,a,h,ha=>by
  rw [joinL]
  rcases List.mem_cons.mp h with rfl|h
  ·exact List.mem_append_left _ ha
  ·exact List.mem_append_right _ (List.mem_cons_of_mem _ (joinL_sub h ha))
theorem joinL_cnt {c:Nat} : ∀{xs:List (List Nat)},xs.length≤(joinL c xs).length+1
 | []=>Nat.zero_le _
 | [y]=>Nat.le_add_left _ _
 | y :: z :: r=>by
  have:=joinL_cnt (c:=c) (xs:=z :: r)
  rw [joinL,List.length_append]
  simp only [List.length_cons] at this ⊢
  omega
theorem split_join' (x:Str) (c:Nat):joinL c ((Txt.split x ⟨#[c]⟩).map fun y=>y.cps.toList)=x.cps.toList:=by
 rw [←sg_joinS,StrLaws.join_split]
theorem split_asc {x:Str} {c:Nat} (h:Asc x):∀y∈Txt.split x ⟨#[c]⟩,Asc y:=fun y hy a ha=>h a (by
 rw [←split_join' x c]
 exact joinL_sub (List.mem_map.mpr ⟨y,hy,rfl⟩) ha)
theorem split_cnt (x:Str) (c:Nat):(Txt.split x ⟨#[c]⟩).length≤x.length+1:=by
 have:=joinL_cnt (c:=c) (xs:=(Txt.split x ⟨#[c]⟩).map fun y=>y.cps.toList)
 rw [split_join',List.length_map] at this
 rw [str_len]
 exact this
theorem joinL_len {c:Nat} : ∀{xs:List (List Nat)} {x:List Nat},x∈xs→x.length≤(joinL c xs).length
 | [],_,h=>nomatch h
 | [y],x,h=>by rw [←List.mem_singleton.mp h];exact Nat.le_refl _
 | y :: z :: r,x,h=>by
  rw [joinL,List.length_append,List.length_cons]
  rcases List.mem_cons.mp h with rfl|h
  ·omega
  ·have:=joinL_len (c:=c) h
   omega
theorem split_len {x:Str} {c:Nat} : ∀y∈Txt.split x ⟨#[c]⟩,y.length≤x.length:=fun y hy=>by
 have:=joinL_len (c:=c) (List.mem_map.mpr ⟨y,hy,rfl⟩:y.cps.toList∈(Txt.split x ⟨#[c]⟩).map fun y=>y.cps.toList)
 rw [split_join'] at this
 rw [str_len,str_len]
 exact this
noncomputable def valO (kvs:List (Key×V)) (p x:Str):Option V:=
 if p = "spot" then (if x∈spots4 then some (.str x) else none) else if p = "number" then (numO x).map fun n => .int (n:Nat) else valV kvs (.inr x)
def spValG (K:PySem.W.Frag):Sp:=fun vs H Q _=>Ex4 fun (p x:Str) (d:Addr) (kvs:List (Key×V))=>vs=[.str p, .str x, .ref d]∧H d=some (.dK kvs)∧Asc x∧x.length≤10000000∧Q ((valO kvs p x).getD .non) H
section
variable {P:Program} {w:World} {K:PySem.W.Frag} {mg:Str→Option Value} {base:Heap} {f:Addr} {fd:FuncData} {aS aR aP:Addr}
theorem sc_value_in:FnScope ["part", "word", "places"] ["part", "word", "places"] (defScope (top i_value_in)):=⟨rfl,rfl,rfl,by decide +kernel,rfl,by decide +kernel,by decide +kernel⟩
theorem ok_valG (F:Fun K "value_in" "value_in" (top i_value_in) f fd) (T:Nm mg) (C:Cs83 K w mg aS aR aP) (f_number_in:Fn P w K mg base 2 "number_in" ["word"] (spNumG K)):FnOk P w K mg base CX0 3 f fd ["part", "word", "places"] (spValG K):=by
 refine F.ok sc_value_in (fun vs H Q E h => ?_) (fun cdv A outer s H vs Q E hr h => ?_)
 ·obtain ⟨p,x,d,kvs,rfl,_⟩:=h
  rfl
 obtain ⟨p,x,d,kvs,rfl,hd,ha,hl,q⟩:=h
 have hu6:=hr.units
 have hu1:=hu_of hr
 have hu66:=hu66_of hr
 have g_SPOT_NAMES:=C.g_SPOT_NAMES
 refine ⟨_,(pss_cons (ps_if (pt_cmpR (eqK K hu6) (pv 0) pe_str (nomark _)) (pss_one (ps_ret (pe_ifExp (pt_cmpR (inDK K hu66) (pv 1) (pe_gref rfl g_SPOT_NAMES) (by with_unfolding_all rfl)) (pv 1) pe_non))) pss_nil)
  (pss_cons (ps_if (pt_cmpR (eqK K hu6) (pv 0) pe_str (nomark _)) (pss_one (ps_ret (pe_fn (f_number_in.mono (by decide)) hr rfl (pa_cons (pv 1) pa_nil)))) pss_nil)
  (pss_one (ps_ret (pe_dget1 hu1 (pv 2) (pv 1) ⟨rfl,rfl,rfl,rfl⟩))))),?_⟩
 unfold valO at q
 refine ⟨_,rfl, .inl ⟨rfl,_,rfl,?_⟩⟩
 by_cases h1:p = "spot"
 ·rw [if_pos h1] at q
  rw [decide_eq_true (by rw [h1])]
  refine iteT ⟨_,rfl,aS,_, .str x,spots4.map PyData.str,rfl, .inr (C.sS H),(by unfold Den;rfl),Den.strs _,ha.lay,sh_strs _ (by decide +kernel),_,rfl,?_⟩
  rw [if_neg (show ¬(false=true) from fun z=>nomatch z),inD_strs]
  by_cases h2:x∈spots4
  ·rw [if_pos h2] at q
   rw [decide_eq_true h2]
   exact iteT ⟨_,rfl,q⟩
  ·rw [if_neg h2] at q
   rw [decide_eq_false h2]
   exact iteF q
 rw [if_neg h1] at q
 rw [decide_eq_false (fun z=>h1 (by injection z))]
 refine iteF ⟨_,rfl, .inl ⟨rfl,_,rfl,?_⟩⟩
 by_cases h2:p = "number"
 ·rw [if_pos h2] at q
  rw [decide_eq_true (by rw [h2])]
  refine iteT ⟨_,rfl,x,rfl,hl,?_⟩
  cases e:numO x with
  | none=>rw [e] at q;exact q
  | some n=>rw [e] at q;exact q
 rw [if_neg h2] at q
 rw [decide_eq_false (fun z=>h2 (by injection z))]
 refine iteF ⟨_,rfl,d,rfl, .inl ⟨kvs, .inl hd⟩,_,rfl,valV kvs (.inr x), .inl ⟨kvs, .inr x, .inl hd,rfl,rfl⟩,q⟩
end
noncomputable def prtK (k:Str):List Str:=if k = "set" then ["spot", "number"] else if k = "add" then ["spot", "spot"] else if k = "take" then ["spot", "spot"] else if k = "tell" then ["spot"] else if k = "ask" then ["spot"] else if k = "jump" then ["near"] else if k = "zero" then ["spot", "near"] else []
theorem prt_kind (r:Rw):prtK (kindS r)=prts r:=by cases r <;> rfl
def Plc (kvs:List (Key×V)):Prop:=∀k v,valV kvs k=some v→∃n:Nat,v = .int (n:Nat)∧n≤10000000
def Vs (v:V):Prop:=(∃x:Str,v = .str x∧Asc x)∨∃n:Nat,v = .int (n:Nat)∧n≤10000000
theorem numO_le {x:Str} {n:Nat} (h:numO x=some n):n≤255:=by
 unfold numO at h
 split at h
 case isTrue e=>
  cases h
  simp only [Bool.and_eq_true,decide_eq_true_iff] at e
  exact e.2.2.2.1
 case isFalse e=>cases h
theorem valO_vs {kvs:List (Key×V)} (hk:Plc kvs) {p x:Str} (ha:Asc x) {v:V} (h:valO kvs p x=some v):Vs v:=by
 unfold valO at h
 split at h
 case isTrue e1=>
  split at h
  case isTrue e2=>cases h;exact .inl ⟨x,rfl,ha⟩
  case isFalse e2=>cases h
 case isFalse e1=>
  split at h
  case isTrue e2=>
   cases e:numO x with
   | none=>rw [e] at h;cases h
   | some n=>rw [e] at h;cases h;exact .inr ⟨n,rfl,Nat.le_trans (numO_le e) (by decide)⟩
  case isFalse e2=>
   obtain ⟨n,rfl,hn⟩:=hk _ _ h
   exact .inr ⟨n,rfl,hn⟩
noncomputable def vD:V→PyData
 | .str x => .str x
 | .int n => .int n
 | _ => .none
theorem vD_den {K:PySem.W.Frag} {H:Hp} : ∀{zs:List (Option V)},(∀o∈zs,o=none∨∃v,o=some v∧Vs v)→Dens K H ((zs.map (·.getD .non)).map vD) (zs.map (·.getD .non))
 | [],_=>dsnil
 | o :: zs,h=>by
  refine dscons ?_ (vD_den fun p hp=>h p (List.mem_cons_of_mem _ hp))
  rcases h o List.mem_cons_self with rfl|⟨v,rfl,⟨x,rfl,_⟩|⟨n,rfl,_⟩⟩
  ·show Den K H .none .non
   unfold Den;rfl
  ·show Den K H (.str x) (.str x)
   unfold Den;rfl
  ·show Den K H (.int (n:Nat)) (.int (n:Nat))
   unfold Den;rfl
theorem vD_sh {zs:List (Option V)} (h:∀o∈zs,o=none∨∃v,o=some v∧Vs v):∀e∈(zs.map (·.getD .non)).map vD,SeqAt.shaped e=true:=fun e he=>by
 obtain ⟨v,hv,rfl⟩:=List.mem_map.mp he
 obtain ⟨o,ho,rfl⟩:=List.mem_map.mp hv
 rcases h o ho with rfl|⟨v,rfl,⟨x,rfl,hx⟩|⟨n,rfl,_⟩⟩
 ·rfl
 ·exact (Sh.str (n:=0) (canLay_small fun ch hc=>by have:=hx ch hc;omega)).shaped (by decide)
 ·rfl
theorem vD_in {zs:List (Option V)} (h:∀o∈zs,o=none∨∃v,o=some v∧Vs v):inD .none ((zs.map (·.getD .non)).map vD) = !zs.all Option.isSome:=by
 unfold inD
 induction zs with
 | nil=>rfl
 | cons o zs ih=>
  have ih:=ih fun p hp=>h p (List.mem_cons_of_mem _ hp)
  rw [List.map_cons,List.map_cons,List.any_cons,ih,List.all_cons,Bool.not_and]
  congr 1
  rcases h o List.mem_cons_self with rfl|⟨v,rfl,⟨x,rfl,_⟩|⟨n,rfl,_⟩⟩
  ·rfl
  ·show PyData.eqv (.str x) .none=_
   simp [PyData.eqv]
  ·show PyData.eqv (.int (n:Nat)) .none=_
   simp [PyData.eqv]
noncomputable def vls (kvs:List (Key×V)) (k:Str) (ws:List Str):List (Option V):=List.zipWith (valO kvs) (prtK k) ws
noncomputable def rowO (kvs:List (Key×V)) (x:Str):Option (List V):=match Txt.split x sBl with
 | []=>none
 | k :: ws=>if k∈kinds8∧ws.length=(prtK k).length then (if (vls kvs k ws).all Option.isSome then some (.str k :: (vls kvs k ws).map (·.getD .non)) else none) else none
def spRinG (K:PySem.W.Frag):Sp:=fun vs H Q _=>Ex3 fun (x:Str) (d:Addr) (kvs:List (Key×V))=>vs=[.str x, .ref d]∧H d=some (.dK kvs)∧Plc kvs∧Asc x∧x.length≤9000000 ∧
 (rowO kvs x=none→∀H',Same H H'→Q .non H')∧∀us,rowO kvs x=some us→∀p H',Same H H'→H' p=some (.tup us)→Q (.ref p) H'
section
variable {P:Program} {w:World} {K:PySem.W.Frag} {mg:Str→Option Value} {base:Heap} {f:Addr} {fd:FuncData} {aS aR aP:Addr}
theorem sc_row_in:FnScope ["row", "places", "words", "kind", "values"] ["row", "places"] (defScope (top i_row_in)):=⟨rfl,rfl,rfl,by decide +kernel,rfl,by decide +kernel,by decide +kernel⟩
theorem ok_rinG (F:Fun K "row_in" "row_in" (top i_row_in) f fd) (T:Nm mg) (C:Cs83 K w mg aS aR aP) (f_value_in:Fn P w K mg base 3 "value_in" ["part", "word", "places"] (spValG K)):FnOk P w K mg base CX0 4 f fd ["row", "places"] (spRinG K):=by
 refine F.ok sc_row_in (fun vs H Q E h => ?_) (fun cdv A outer s H vs Q E hr h => ?_)
 ·obtain ⟨x,d,kvs,rfl,_⟩:=h
  rfl
 obtain ⟨x,d,kvs,rfl,hd,hk,ha,hl,q0,q1⟩:=h
 have hu6:=hr.units
 have hu66:=hu66_of hr
 have g_ROW_KINDS:=C.g_ROW_KINDS
 have g_PARTS:=C.g_PARTS
 have small:∀{n:Nat},n≤1000→n<sizeLine:=fun h=>Nat.lt_of_le_of_lt h (by decide)
 refine ⟨_,(pss_cons (ps_set (i:=2) sc_row_in.nd rfl (Or.inl rfl) (bmK K PySem.F.plainAttrs_str PySem.F.slot_str_split PySem.F.type_str_split splitN (pv 0) (pa_cons pe_str pa_nil)))
  (pss_cons (ps_set (i:=3) sc_row_in.nd rfl (Or.inl rfl) (pe_ix (ixK K) (pv 2) pe_int (fun _ _=>rfl)))
  (pss_cons (ps_if (PW.pt (pw_or (pt_cmpR (notInDK K hu66) (pv 3) (pe_gref rfl g_ROW_KINDS) (by with_unfolding_all rfl)) (pw_or1 (pt_cmpR (neK K hu6) (pe_callB (lenK K) rfl T.n_len (by rfl) (pa_cons (pv 2) pa_nil)) (pe_op addN pe_int (pe_callB (lenK K) rfl T.n_len (by rfl) (pa_cons (pe_cget K w (pe_gref rfl g_PARTS) (pv 3) (fun _ _=>rfl)) pa_nil))) (nomark _))))) (pss_one (ps_ret pe_non)) pss_nil)
  (pss_cons (ps_setcomp (i:=4) sc_row_in.nd rfl (Or.inl rfl) rfl (comp_ok (Nc:=["part", "word"]) (Fc:=["places"]) (js:=[1])) (pi_zipK K rfl T.n_zip (pa_cons (pe_cget K w (pe_gref rfl g_PARTS) (pv 3) (fun _ _=>rfl)) (pa_cons (pe_slice (slN K) (pv 2) (po_some pe_int) po_none) pa_nil))) (gk_tup (gks_cons (gk_name (i:=0) (n:=2) (by decide)) (gks_cons (gk_name (i:=1) (n:=2) (by decide)) gks_nil gm_name gms_nil) gm_name (gms_cons gm_name gms_nil))) (fun _ _ _ _ _=>(tupK K 2 rfl (pgs_cons (pg_name (i:=0) (ndS ["part", "word", "places"]) rfl (Or.inl rfl)) (pgs_cons (pg_name (i:=1) (ndS ["part", "word", "places"]) rfl (Or.inl rfl)) pgs_nil)))) (fun _ _ _ _ _=>pts_nil) (fun _ _ _ _ _=>(pe_fn (f_value_in.mono (by decide)) hr rfl (pa_cons (pv 0) (pa_cons (pv 1) (pa_cons (pv 2) pa_nil))))))
  (pss_one (ps_ret (pe_ifExp (pt_cmpR (inDK K hu66) pe_non (pv 4) (by with_unfolding_all rfl)) pe_non (pe_op (addT K) (tupN (pa_cons (pv 3) pa_nil)) (pe_callTy (tupleN K) rfl T.n_tuple (by rfl) (pa_cons (pv 4) pa_nil)))))))))),?_⟩
 have bl:(Str.ofString " ")=sBl:=by decide +kernel
 have cnt:(Txt.split x sBl).length≤x.length+1:=split_cnt x 32
 have asc:∀y∈Txt.split x sBl,Asc y:=split_asc (c:=32) ha
 have wlen:∀y∈Txt.split x sBl,y.length≤x.length:=split_len (x:=x) (c:=32)
 unfold rowO at q0 q1
 refine ⟨_,rfl,rfl,_,_,rfl,rfl,by decide +kernel,by omega,by rw [bl];omega,fun p1 H1 n1=>gn ?_⟩
 rw [bl] at n1
 cases hs:Txt.split x sBl with
 | nil=>
  have e:=split_join' x 32
  rw [show (⟨#[32]⟩:Str)=sBl from rfl,hs] at e
  have ex:x=⟨#[]⟩:=str_eq' e.symm
  rw [ex,split_nil] at hs
  cases hs
 | cons k ws=>
  rw [hs] at n1 q0 q1 asc wlen cnt
  dsimp only at q0 q1
  have hp1:=n1.at
  refine ⟨_,rfl, .inl ⟨p1,_,0, .str k,rfl,rfl,SqL.of hp1,at_nat (by decide) rfl,gn ?_⟩⟩
  refine ⟨_,rfl,aR,_, .str k,kinds8.map PyData.str,rfl, .inr (C.sR H1),(by unfold Den;rfl),Den.strs _,(asc k List.mem_cons_self).lay,sh_strs _ (by decide +kernel),_,rfl,?_⟩
  rw [if_pos rfl,inD_strs]
  by_cases hk8:¬k∈kinds8
  ·rw [decide_eq_false hk8]
   exact iteT (q0 (if_neg fun z=>hk8 z.1) _ n1.same)
  have hk8:k∈kinds8:=Decidable.not_not.mp hk8
  rw [decide_eq_true hk8]
  obtain ⟨r,rfl⟩:=kind_ex hk8
  obtain ⟨qp,hq1,hq2⟩:=C.pt r
  rw [←prt_kind r] at hq2
  refine iteF ⟨_,rfl,_,_,rfl, .inl ⟨_,SqL.of hp1,rfl⟩,_,rfl,aP,_,_, .ref qp,rfl,rfl,C.cd,hq1,rfl,_,_,rfl, .inr ⟨_,hq2 _,rfl⟩, .inl ⟨_,_,rfl,rfl, .inl ⟨rfl,_,rfl,?_⟩⟩⟩
  simp only [List.length_map,List.length_cons]
  by_cases hw:¬ws.length=(prtK (kindS r)).length
  ·rw [decide_eq_false (fun z=>hw (by injection z with z;omega))]
   exact iteT (q0 (if_neg fun z=>hw z.2) _ n1.same)
  have hw:ws.length=(prtK (kindS r)).length:=Decidable.not_not.mp hw
  rw [decide_eq_true (by rw [hw];congr 1;omega)]
  refine iteF ?_
  rw [if_pos ⟨hk8,hw⟩] at q0
  simp only [if_pos (show kindS r∈kinds8∧ws.length=(prtK (kindS r)).length from ⟨hk8,hw⟩)] at q1
  have p3:(prtK (kindS r)).length≤2:=by rw [prt_kind];cases r <;> exact Nat.le_of_ble_eq_true rfl
  have vl:(vls kvs (kindS r) ws).length=ws.length:=by unfold vls;rw [List.length_zipWith];omega
  generalize hP:prtK (kindS r)=Ps at hq2 hw p3
  have hV:vls kvs (kindS r) ws=List.zipWith (valO kvs) Ps ws:=by unfold vls;rw [hP]
  rw [hV] at q0 q1 vl
  have at1:∀{j:Nat} (hj:j<ws.length),(Ps.map V.str)[j]? = some (.str (Ps[j]'(by omega))):=fun hj=>by rw [List.getElem?_map,List.getElem?_eq_getElem (by omega)];rfl
  have at2:∀{j:Nat} (hj:j<ws.length),(ws.map V.str)[j]? = some (.str ws[j]):=fun hj=>by rw [List.getElem?_map,List.getElem?_eq_getElem hj];rfl
  dsimp only [tNext]
  refine asgCut (te:=tComp _ _ _ _ _ _) (fun v H'=>∃pv,v = .ref pv∧Same H1 H'∧H' pv=some (.lst ((List.zipWith (valO kvs) Ps ws).map (·.getD .non)))) (fun Qn qn => ?_) ?_
  ·refine ⟨_,rfl,aP,_,_, .ref qp,rfl,rfl,C.cd,hq1,rfl,_,rfl,1,rfl,?_⟩
   dsimp only [tNoPart]
   refine .inl ⟨p1,_,rfl,SqL.of hp1,fun p2 H2 n2 => ?_⟩
   have e2:cutV ((kindS r :: ws).map V.str) (some 1) none=ws.map V.str:=cut_from ((kindS r :: ws).map V.str) 1
   rw [e2] at n2
   have hd2:=n2.same _ _ (n1.same _ _ hd)
   refine ⟨true,false,qp,p2,rfl,⟨_,hq2 _⟩,⟨_,SqL.of n2.at⟩,?_⟩
   refine comp_go (N:=ws.length) (fun j ys H'=>Same H2 H'∧ys=((List.zipWith (valO kvs) Ps ws).take j).map (·.getD .non)) ⟨Same.refl _,rfl⟩ ?_ ?_
   ·rintro j ys H3 Ny hj ⟨s3,rfl⟩ ny
    have q1':SqK true K H3 qp (Ps.map V.str):=hq2 _
    have q2':SqK false K H3 p2 (ws.map V.str):=SqL.of (s3 _ _ n2.at)
    refine ⟨⟨_,_,_,_,q1',q2',at1 hj,at2 hj⟩,small (by rw [List.length_map,List.length_take];omega),?_⟩
    rintro x' H4 ⟨T',rfl,hN'⟩
    have n4:=hN' _ _ _ _ q1' q2' (at1 hj) (at2 hj)
    refine ⟨T',_,rfl,SqT.of n4.at,rfl,_,_,rfl,_,_,rfl,rfl,?_⟩
    dsimp only [tYes]
    rw [if_pos rfl]
    have hm:=List.mem_cons_of_mem (kindS r) (List.getElem_mem hj)
    refine ⟨_,rfl,_,rfl,_,rfl,_,_,d,kvs,rfl,n4.same _ _ (s3 _ _ hd2),asc _ hm,Nat.le_trans (wlen _ hm) (by omega),ny _ _ ⟨s3.trans n4.same,?_⟩⟩
    rw [take_next (by omega),List.map_append,List.getElem_zipWith];rfl
   ·rintro ys H3 ⟨s3,rfl⟩
    rw [List.take_of_length_le (by omega)]
    have q1':SqK true K H3 qp (Ps.map V.str):=hq2 _
    have q2':SqK false K H3 p2 (ws.map V.str):=SqL.of (s3 _ _ n2.at)
    refine ⟨?_,fun pv hp=>qn _ _ ⟨pv,rfl,n2.same.trans (s3.trans (same_new hp _)),upd_same⟩⟩
    exact ⟨_,_,q1',q2', .inl (by rw [List.length_map,hw];exact Nat.le_refl _)⟩
  rintro v H2 ⟨pv,rfl,s2,hpv⟩
  refine gn ?_
  have hz:∀o∈List.zipWith (valO kvs) Ps ws,o=none∨∃v,o=some v∧Vs v:=fun o ho=>by
   obtain ⟨j,hj,rfl⟩:=List.getElem_of_mem ho
   rw [List.getElem_zipWith]
   have hjw:j<ws.length:=by omega
   have hm:=List.mem_cons_of_mem (kindS r) (List.getElem_mem hjw)
   cases e:valO kvs (Ps[j]'(by omega)) ws[j] with
   | none=>exact .inl rfl
   | some v=>exact .inr ⟨v,rfl,valO_vs hk (asc _ hm) e⟩
  refine ⟨_,rfl,pv,_, .none,_,rfl, .inl (SqL.of hpv),(by unfold Den;rfl),vD_den hz,rfl,vD_sh hz,_,rfl,?_⟩
  rw [if_neg (show ¬(false=true) from fun z=>nomatch z),vD_in hz]
  have s12:=n1.same.trans s2
  cases ha':(List.zipWith (valO kvs) Ps ws).all Option.isSome with
  | false=>
   rw [ha'] at q0
   exact iteT (q0 (if_neg fun z=>nomatch z) _ s12)
  | true=>
   rw [ha'] at q1
   refine iteF ⟨_,rfl,by show 1≤sizeLine;decide,fun tp H3 n3=>⟨_,rfl,pv,_,rfl, .inl ⟨SqL.of (n3.same _ _ hpv),fun tq H4 n4 => ?_⟩⟩⟩
   have s4:=s12.trans (n3.same.trans n4.same)
   have q1:=q1 _ (if_pos rfl)
   refine ⟨tp,tq,_,_,rfl,rfl,SqT.of (n4.same _ _ n3.at),SqT.of n4.at,?_,(fun z=>nomatch z),fun ey => ?_,fun _ p5 H5 n5 => ?_⟩
   ·rw [List.length_map];show 1+_≤100000;omega
   ·refine q1 tp H4 s4 ?_
    rw [ey]
    exact n4.same _ _ n3.at
   ·exact q1 p5 H5 (s4.trans n5.same) n5.at
end
end Z
namespace Z
open PySem L2 PyProof.Rows
noncomputable def lpG (s:List (Key×V)×Nat) (x:Str):List (Key×V)×Nat:=match lbO x with
 | some y=>(putK s.1 (.inr y) (.int (s.2:Nat)),s.2)
 | none=>if x=⟨#[]⟩ then s else (s.1,s.2+1)
noncomputable def lpA (xs:List Str):List (Key×V)×Nat:=xs.foldl lpG ([],0)
theorem lpA_snoc (xs:List Str) (x:Str):lpA (xs++[x])=lpG (lpA xs) x:=by unfold lpA;rw [List.foldl_append];rfl
theorem lpG_le (s:List (Key×V)×Nat) (x:Str):(lpG s x).1.length≤s.1.length+1∧(lpG s x).2≤s.2+1:=by
 unfold lpG
 split
 ·exact ⟨length_putK _ _ _,Nat.le_succ _⟩
 ·split
  ·exact ⟨Nat.le_succ _,Nat.le_succ _⟩
  ·exact ⟨Nat.le_succ _,Nat.le_refl _⟩
theorem lpA_le:∀(xs:List Str) (s:List (Key×V)×Nat),(xs.foldl lpG s).1.length≤s.1.length+xs.length∧(xs.foldl lpG s).2≤s.2+xs.length
 | [],s=>⟨Nat.le_refl _,Nat.le_refl _⟩
 | x :: xs,s=>by
  rw [List.foldl_cons,List.length_cons]
  have h1:=lpA_le xs (lpG s x)
  have h2:=lpG_le s x
  omega
theorem lpA_plc:∀(xs:List Str) (s:List (Key×V)×Nat),Plc s.1→s.2+xs.length≤10000000→Plc (xs.foldl lpG s).1
 | [],s,h,_=>h
 | x :: xs,s,h,hl=>by
  rw [List.foldl_cons]
  rw [List.length_cons] at hl
  have hle:=lpG_le s x
  refine lpA_plc xs _ ?_ (by omega)
  unfold lpG
  split
  ·intro k v e
   rw [valV_put] at e
   split at e
   ·cases e;exact ⟨s.2,rfl,by omega⟩
   ·exact h k v e
  ·split
   ·exact h
   ·exact h
def spLplG (K:PySem.W.Frag):Sp:=fun vs H Q _=>Ex2 fun (xs:List Str) (p:Addr)=>vs=[.ref p]∧H p=some (.lst (xs.map V.str))∧(∀x∈xs,Asc x∧x.length≤9000000)∧xs.length≤9000000∧∀d H',Same H H'→H d=none→H' d=some (.dK (lpA xs).1)→Q (.ref d) H'
section
variable {P:Program} {w:World} {K:PySem.W.Frag} {mg:Str→Option Value} {base:Heap} {f:Addr} {fd:FuncData} {aS aR aP aJ:Addr} {t1:Tok}
theorem sc_label_places:FnScope ["rows", "places", "many", "row", "name"] ["rows"] (defScope (top i_label_places)):=⟨rfl,rfl,rfl,by decide +kernel,rfl,by decide +kernel,by decide +kernel⟩
theorem ok_lplG (F:Fun K "label_places" "label_places" (top i_label_places) f fd) (T:Nm mg) (f_label_in:Fn P w K mg base 3 "label_in" ["row"] (spLinG K)):FnOk P w K mg base CX0 4 f fd ["rows"] (spLplG K):=by
 refine F.ok sc_label_places (fun vs H Q E h => ?_) (fun cdv A outer s H vs Q E hr h => ?_)
 ·obtain ⟨xs,p,rfl,_⟩:=h
  rfl
 obtain ⟨xs,p,rfl,hp,ok,few,q⟩:=h
 have hu:=hu_of hr
 have hu6:=hr.units
 have small:∀{n:Nat},n≤10000000→n<sizeLine:=fun h=>Nat.lt_of_le_of_lt h (by decide)
 refine ⟨_,(pss_cons (ps_set (i:=1) sc_label_places.nd rfl (Or.inl rfl) dnewN)
  (pss_cons (ps_set (i:=2) sc_label_places.nd rfl (Or.inl rfl) pe_int)
  (pss_cons (ps_for PassesOwn.never rfl (piK K (pv 0)) (pg_name (i:=3) sc_label_places.nd rfl (Or.inl rfl)) (pss_cons (ps_set (i:=4) sc_label_places.nd rfl (Or.inl rfl) (pe_fn (f_label_in.mono (by decide)) hr rfl (pa_cons (pv 3) pa_nil)))
  (pss_one (ps_if (pt_cmpR g_isnot (pv 4) pe_non (nomark _)) (pss_one (ps_dput hu (pv 1) (pv 4) (pv 2) rfl)) (pss_one (ps_if (pt_cmpR (neK K hu6) (pv 3) pe_str (nomark _)) (pss_one (ps_aug (i:=2) sc_label_places.nd rfl (Or.inl rfl) pe_int ip_add)) pss_nil))))))
  (pss_one (ps_ret (pv 1)))))),?_⟩
 refine fun d H1 n1=>gn ?_
 dsimp only
 refine asgCut (te:=tC _) (fun v H'=>v = .int 0∧H1=H') (fun Qn qn=>qn _ _ ⟨rfl,rfl⟩) ?_
 rintro _ _ ⟨rfl,rfl⟩
 refine gn ?_
 have at1:∀{i:Nat} (hi:i<xs.length),(xs.map V.str)[i]? = some (.str xs[i]):=fun hi=>by rw [List.getElem?_map,List.getElem?_eq_getElem hi];rfl
 refine seqCut (t:=tFor _ _ _) (fun σ H'=>Ex3 fun (x2 x3 x4:Option V) => σ=[some (.ref p),some (.ref d),x2,x3,x4]∧Same H H'∧H' d=some (.dK (lpA xs).1)) (fun Nx nx => ?_) ?_
 ·refine ⟨_,rfl,p,rfl,⟨_,SqL.of (n1.same _ _ hp)⟩,?_⟩
  refine for_go (N:=xs.length) (fun i σ H'=>Ex2 fun (x3 x4:Option V) => σ=[some (.ref p),some (.ref d),some (.int ((lpA (xs.take i)).2:Nat)),x3,x4]∧Same H H'∧H' d=some (.dK (lpA (xs.take i)).1)) ⟨_,_,rfl,n1.same,n1.at⟩ ?_ ?_
  ·intro i σ H2 hi
   refine Elim.go ?_
   rintro x3 x4 rfl s2 hd2
   refine ⟨⟨_,_,SqL.of (s2 _ _ hp),at1 hi⟩,?_⟩
   rintro y H3 ⟨rfl,hy⟩
   have e:=hy _ (SqL.of (s2 _ _ hp))
   rw [at1 hi] at e;cases e
   have hok:=ok _ (List.getElem_mem hi)
   have htk:=lpA_snoc (xs.take i) xs[i]
   rw [←take_next hi] at htk
   have hl:=(lpA_le (xs.take i) ([],0)).1
   have hl:(lpA (xs.take i)).1.length≤9000000:=Nat.le_trans hl (by rw [List.length_take];show 0+min i xs.length≤9000000;omega)
   rw [htk]
   generalize lpA (xs.take i)=st at hd2 hl
   generalize xs[i]=x at hok
   refine gn ⟨_,rfl,x,rfl,by omega,gn ?_⟩
   unfold lpG
   have e0:(Str.ofString "")=(⟨#[]⟩:Str):=by decide +kernel
   cases hb:lbO x with
   | some y=>
    refine ⟨_,rfl, .inl ⟨rfl,_,rfl,iteT ?_⟩⟩
    refine ⟨_,rfl,_,rfl,_,rfl,d,_,rfl,DPut.k (k:=Sum.inr y) hd2 (small (by omega)),_,_,rfl,fun b o e => ?_,upd_same⟩
    rw [upd_ne (ne_of_none e n1.nn)];exact s2 b o e
   | none=>
    refine ⟨_,rfl, .inl ⟨rfl,_,rfl,iteF ⟨_,rfl, .inl ⟨rfl,_,rfl,?_⟩⟩⟩⟩
    by_cases he:x=⟨#[]⟩
    ·rw [show decide (V.str x=V.str (Str.ofString ""))=true from decide_eq_true (by rw [he,e0])]
     simp only [if_pos he]
     exact iteF ⟨_,_,rfl,s2,hd2⟩
    ·rw [show decide (V.str x=V.str (Str.ofString ""))=false from decide_eq_false fun z=>by
      injection z with z
      exact he (by rw [z,e0])]
     simp only [if_neg he]
     exact iteT ⟨_,rfl,_,_,rfl,rfl,gn ⟨_,_,rfl,s2,hd2⟩⟩
  ·intro σ H2
   refine Elim.go ?_
   rintro x3 x4 rfl s2 hd2
   rw [List.take_length] at hd2
   exact ⟨⟨_,SqL.of (s2 _ _ hp),by rw [List.length_map];exact Nat.le_refl _⟩,nx _ _ ⟨_,x3,x4,rfl,s2,hd2⟩⟩
 intro σ H2
 refine Elim.go ?_
 rintro x2 x3 x4 rfl s2 hd2
 exact ⟨_,rfl,q d H2 s2 n1.nn hd2⟩
end
end Z
namespace Z
open PySem L2 PyProof.Rows
noncomputable def rdS (kvs:List (Key×V)) (s:List Str×List (List V)) (x:Str):Option (List Str×List (List V)):=match lbO x with
 | some y=>if y∈s.1 then none else some (s.1++[y],s.2)
 | none=>if x=⟨#[]⟩ then some s else match rowO kvs x with
  | none=>none
  | some r=>if s.2.length=200 then none else some (s.1,s.2++[r])
noncomputable def rdR (kvs:List (Key×V)):List Str→Nat→List Str×List (List V)→Nat ⊕ List (List V)
 | [],_,s => .inr s.2
 | x :: xs,i,s=>match rdS kvs s x with
  | none => .inl i
  | some s'=>rdR kvs xs (i+1) s'
noncomputable def readA (t:Str):Nat ⊕ List (List V):=rdR (lpA (Txt.split t sNl)).1 (Txt.split t sNl) 0 ([],[])
def TupV (H:Hp) (rows:List (List V)) (vs:List V):Prop:=vs.length=rows.length∧∀(i:Nat) (r:List V),rows[i]? = some r→∃rp:Addr,vs[i]? = some (V.ref rp)∧H rp=some (.tup r)
theorem TupV.tp {H H':Hp} {rows:List (List V)} {vs:List V} (h:TupV H rows vs) (g:TP H H'):TupV H' rows vs:=⟨h.1,fun i r e=>by
 obtain ⟨rp,h1,h2⟩:=h.2 i r e
 exact ⟨rp,h1,g _ _ h2⟩⟩
theorem TupV.snoc {H:Hp} {rows:List (List V)} {vs:List V} {r:List V} {rp:Addr} (h:TupV H rows vs) (g:H rp=some (.tup r)):TupV H (rows++[r]) (vs++[.ref rp]):=⟨by rw [List.length_append,List.length_append,h.1];rfl,fun i q e=>by
 by_cases hi:i<rows.length
 ·rw [List.getElem?_append_left hi] at e
  obtain ⟨p,h1,h2⟩:=h.2 i q e
  exact ⟨p,by rw [List.getElem?_append_left (by rw [h.1];exact hi)];exact h1,h2⟩
 ·rw [List.getElem?_append_right (by omega)] at e
  have:i-rows.length=0:=by have:=(List.getElem?_eq_some_iff.mp e).1;simp at this;omega
  rw [this] at e
  cases e
  exact ⟨rp,by rw [List.getElem?_append_right (by rw [h.1];omega),h.1,this];rfl,g⟩⟩
noncomputable def lbE (xs:List Str):List (Key×V):=xs.foldl (fun kv x=>putK kv (.inr x) (.bl true)) []
theorem lbE_snoc (xs:List Str) (x:Str):lbE (xs++[x])=putK (lbE xs) (.inr x) (.bl true):=by unfold lbE;rw [List.foldl_append];rfl
theorem lbE_val {x:Str} : ∀(xs:List Str) (s:List (Key×V)),(valV (xs.foldl (fun kv x=>putK kv (.inr x) (.bl true)) s) (.inr x)).isSome=(decide (x∈xs)||(valV s (.inr x)).isSome)
 | [],s=>by simp
 | y :: xs,s=>by
  rw [List.foldl_cons,lbE_val xs,valV_put]
  by_cases e:x=y
  ·subst e
   simp
  ·rw [if_neg (fun z=>e (by injection z))]
   simp [e]
theorem lbE_len:∀(xs:List Str) (s:List (Key×V)),(xs.foldl (fun kv x=>putK kv (.inr x) (.bl true)) s).length≤s.length+xs.length
 | [],s=>Nat.le_refl _
 | y :: xs,s=>by
  rw [List.foldl_cons,List.length_cons]
  have h1:=lbE_len xs (putK s (.inr y) (.bl true))
  have h2:=length_putK s (.inr y) (V.bl true)
  omega
def spIni (C:Addr) (f:Str):Sp:=fun vs H Q _=>∃(e:Addr) (v:V),vs=[.ref e,v]∧H e=some (excN e C)∧∀dx,H dx=none→dx≠e→Q .non (upd (upd H e (excF e C dx)) dx (.xd [(f,v)]))
def spRdX (K:PySem.W.Frag) (C:Addr):Sp:=fun vs H Q E=>∃t:Str,vs=[.str t]∧Asc t∧t.length≤8000000 ∧
 (∀rows p us H',readA t = .inr rows→Same H H'→H p=none→H' p=some (.lst us)→TupV H' rows us→Q (.ref p) H') ∧
 (∀i dx H',readA t = .inl i→Same H H'→H' dx=some (.xd [("row", .int (i:Nat))])→E (.ref C) (some dx) H')
section
variable {P:Program} {w:World} {K:PySem.W.Frag} {mg:Str→Option Value} {base:Heap} {f fi:Addr} {fd fdi:FuncData} {C:Addr} {t1:Tok}
theorem sc_ini_BadRow:FnScope ["self", "row"] ["self", "row"] (defScope (inClass (top i_BadRow) 0)):=⟨rfl,rfl,rfl,by decide +kernel,rfl,by decide +kernel,by decide +kernel⟩
theorem ok_ini_BadRow (F:Fun K "__init__" "BadRow.__init__" (inClass (top i_BadRow) 0) f fd) (S:ExcSt K C "row"):FnOk P w K mg base CX0 1 f fd ["self", "row"] (spIni C "row"):=by
 refine F.ok sc_ini_BadRow (fun vs H Q E h => ?_) (fun cdv A outer s H vs Q E hr h => ?_)
 ·obtain ⟨e,v,rfl,_⟩:=h
  rfl
 obtain ⟨e,v,rfl,he,q⟩:=h
 refine ⟨_,(pss_one (ps_xfld (pv 0) (pv 1) rfl)),?_⟩
 exact ⟨_,rfl,_,rfl,e,C,rfl,he,S,fun dx h1 h2=>q dx h1 h2⟩
theorem sc_read_program:FnScope ["text", "rows", "places", "labels", "program", "at", "row", "name", "read"] ["text"] (defScope (top i_read_program)):=⟨rfl,rfl,rfl,by decide +kernel,rfl,by decide +kernel,by decide +kernel⟩
theorem ok_rdx (F:Fun K "read_program" "read_program" (top i_read_program) f fd) (T:Nm mg) (v_MOST_ROWS:mg "MOST_ROWS" = some (.int 200 t1)) (g_BadRow:mg "BadRow" = some (.ref C)) (M_BadRow:XMk K C fi) (F_BadRow:FnOk P w K mg base CX0 1 fi fdi ["self", "row"] (spIni C "row")) (b_BadRow:Binds K fdi ["self", "row"] []) (f_label_places:Fn P w K mg base 4 "label_places" ["rows"] (spLplG K)) (f_label_in:Fn P w K mg base 3 "label_in" ["row"] (spLinG K)) (f_row_in:Fn P w K mg base 4 "row_in" ["row", "places"] (spRinG K)) :
  FnOk P w K mg base (CXE P w base) 5 f fd ["text"] (spRdX K C):=by
 refine F.okX sc_read_program (fun vs H Q E h => ?_) (fun cdv A outer s H vs Q E hr h => ?_)
 ·obtain ⟨t,rfl,_⟩:=h
  rfl
 obtain ⟨t,rfl,ha,tl,qY,qN⟩:=h
 have hu:=hu_of hr
 have hu6:=hr.units
 have small:∀{n:Nat},n≤10000000→n<sizeLine:=fun h=>Nat.lt_of_le_of_lt h (by decide)
 refine ⟨_,(pss_cons (ps_set (i:=1) sc_read_program.nd rfl (Or.inl rfl) (bmK K PySem.F.plainAttrs_str PySem.F.slot_str_split PySem.F.type_str_split splitN (pv 0) (pa_cons pe_str pa_nil)))
  (pss_cons (ps_set (i:=2) sc_read_program.nd rfl (Or.inl rfl) (pe_fn (f_label_places.mono (by decide)) hr rfl (pa_cons (pv 1) pa_nil)))
  (pss_cons (ps_set (i:=3) sc_read_program.nd rfl (Or.inl rfl) dnewN)
  (pss_cons (ps_set (i:=4) sc_read_program.nd rfl (Or.inl rfl) (lstN pa_nil))
  (pss_cons (ps_for PassesOwn.leaving rfl (enumK K rfl T.n_enumerate (pa_cons (pv 1) pa_nil)) (tupK K 2 rfl (pgs_cons (pg_name (i:=5) sc_read_program.nd rfl (Or.inl rfl)) (pgs_cons (pg_name (i:=6) sc_read_program.nd rfl (Or.inl rfl)) pgs_nil))) (pss_cons (ps_set (i:=7) sc_read_program.nd rfl (Or.inl rfl) (pe_fn (f_label_in.mono (by decide)) hr rfl (pa_cons (pv 6) pa_nil)))
  (pss_one (ps_if (pt_cmpR g_isnot (pv 7) pe_non (nomark _)) (pss_cons (ps_if (pt_cmp (pc_din hu (pv 7) (pv 3))) (pss_one (ps_raiseM (k:=1) M_BadRow F_BadRow (hr.mono (by decide)) rfl g_BadRow b_BadRow (pa_cons (pv 5) pa_nil))) pss_nil)
  (pss_one (ps_dput hu (pv 3) (pv 7) pe_bl rfl))) (pss_one (ps_if (pt_cmpR (neK K hu6) (pv 6) pe_str (nomark _)) (pss_cons (ps_set (i:=8) sc_read_program.nd rfl (Or.inl rfl) (pe_fn (f_row_in.mono (by decide)) hr rfl (pa_cons (pv 6) (pa_cons (pv 2) pa_nil))))
  (pss_cons (ps_if (PW.pt (pw_or (pt_cmpR g_is (pv 8) pe_non (nomark _)) (pw_or1 (pt_cmpR (eqK K hu6) (pe_callB (lenK K) rfl T.n_len (by rfl) (pa_cons (pv 4) pa_nil)) (pe_gint rfl v_MOST_ROWS) (nomark _))))) (pss_one (ps_raiseM (k:=1) M_BadRow F_BadRow (hr.mono (by decide)) rfl g_BadRow b_BadRow (pa_cons (pv 5) pa_nil))) pss_nil)
  (pss_one (ps_expr (bmK K PySem.F.plainAttrs_list PySem.F.slot_list_append PySem.F.type_list_append appendN (pv 4) (pa_cons (pv 8) pa_nil)))))) pss_nil))))))
  (pss_one (ps_ret (pv 4)))))))),?_⟩
 have nlE:(Str.ofString "\n")=sNl:=by decide +kernel
 obtain ⟨xs,hxs⟩:∃xs,xs=Txt.split t sNl:=⟨_,rfl⟩
 have cnt:xs.length≤t.length+1:=by rw [hxs];exact split_cnt t 10
 have oks:∀x∈xs,Asc x∧x.length≤9000000:=fun x hx=>by
  rw [hxs] at hx
  exact ⟨split_asc (c:=10) ha x hx,Nat.le_trans (split_len (c:=10) x hx) (by omega)⟩
 unfold readA at qY qN
 rw [←hxs] at qY qN
 refine ⟨_,rfl,rfl,_,_,rfl,rfl,by decide +kernel,by omega,by rw [nlE, ←hxs];omega,fun p1 H1 n1=>gn ?_⟩
 rw [nlE, ←hxs] at n1
 refine ⟨_,rfl,xs,p1,rfl,n1.at,oks,by omega,fun d H2 s2 hd0 hd2=>gn ?_⟩
 have plc2:Plc (lpA xs).1:=lpA_plc xs ([],0) (fun k v e=>nomatch e) (by show 0+xs.length≤10000000;omega)
 generalize (lpA xs).1=kvs at qY qN hd2 plc2
 refine fun lb H3 n3=>gn ⟨by show 0≤sizeLine;decide,fun pp H4 n4=>gn ?_⟩
 dsimp only
 have h2:Same H H2:=n1.same.trans s2
 have hp2:=s2 _ _ n1.at
 have lb2:H2 lb=none:=n3.nn
 have pp2:H2 pp=none:=n3.back n4.nn
 have npl:pp≠lb:=fun z=>by have:=n4.nn;rw [z,n3.at] at this;cases this
 have nb:∀{Hx:Hp} {a:Addr},Same H2 Hx→Hx a=none→H a=none:=fun {Hx a} s h=>by
  cases e:H a with
  | none=>rfl
  | some o=>rw [(h2.trans s) _ _ e] at h;cases h
 have at1:∀{i:Nat} (hi:i<xs.length),(xs.map V.str)[i]? = some (.str xs[i]):=fun hi=>by rw [List.getElem?_map,List.getElem?_eq_getElem hi];rfl
 refine seqCut (t:=tFor _ _ _) (fun σ H'=>Ex6 fun (x5 x6 x7 x8:Option V) (us:List V) (rows:List (List V)) => σ=[some (.str t),some (.ref p1),some (.ref d),some (.ref lb),some (.ref pp),x5,x6,x7,x8]∧Same H2 H'∧H' pp=some (.lst us)∧TupV H' rows us∧rdR kvs xs 0 ([],[]) = .inr rows) (fun Nx nx => ?_) ?_
 ·refine ⟨_,rfl,p1,rfl,⟨_,SqL.of ((n3.same.trans n4.same) _ _ hp2)⟩,?_⟩
  refine for_go (N:=xs.length) (fun i σ H'=>Ex6 fun (x5 x6 x7 x8:Option V) (us:List V) (st:List Str×List (List V)) => σ=[some (.str t),some (.ref p1),some (.ref d),some (.ref lb),some (.ref pp),x5,x6,x7,x8]∧Same H2 H'∧H' pp=some (.lst us)∧TupV H' st.2 us∧H' lb=some (.dK (lbE st.1))∧st.1.length≤i∧st.2.length≤i∧rdR kvs xs 0 ([],[])=rdR kvs (xs.drop i) i st) ⟨_,_,_,_,[],([],[]),rfl,n3.same.trans n4.same,n4.at,⟨rfl,fun i r e=>by cases e⟩,n4.same _ _ n3.at,Nat.le_refl _,Nat.le_refl _,rfl⟩ ?_ ?_
  ·intro i σ H5 hi
   refine Elim.go ?_
   rintro x5 x6 x7 x8 us st rfl s5 hp5 tu hl5 b1 b2 eR
   refine ⟨⟨_,_,SqL.of (s5 _ _ hp2),at1 hi⟩,?_⟩
   rintro y H6 ⟨T',rfl,hT,hy⟩
   have e:=hy _ _ (SqL.of (s5 _ _ hp2)) (at1 hi)
   have n6:New H5 T' (.tup [.int i, .str xs[i]]) H6:=⟨hT,e⟩
   have hok:=oks _ (List.getElem_mem hi)
   have s6:=s5.trans n6.same
   have hp6:=n6.same _ _ hp5
   have hl6:=n6.same _ _ hl5
   have tu6:=tu.tp (TP.same n6.same)
   refine ⟨T',_,rfl,SqT.of n6.at,rfl,_,_,rfl,_,_,rfl,rfl,?_⟩
   rw [List.drop_eq_getElem_cons hi,rdR] at eR
   have eS:rdS kvs st xs[i]=match lbO xs[i] with
    | some y=>if y∈st.1 then none else some (st.1++[y],st.2)
    | none=>if xs[i]=⟨#[]⟩ then some st else match rowO kvs xs[i] with
     | none=>none
     | some r=>if st.2.length=200 then none else some (st.1,st.2++[r]):=rfl
   generalize xs[i]=x at hok eR eS
   clear hy
   have rs:∀{Hx:Hp},Same H2 Hx→rdS kvs st x=none→∀e:Addr,Hx e=none→∀dx:Addr,(upd Hx e (excN e C)) dx=none→dx≠e→E (.ref C) (some dx) (drp (upd (upd (upd Hx e (excN e C)) e (excF e C dx)) dx (.xd [("row", .int (i:Nat))])) e):=fun {Hx} sx hn e he dx d1 d2=>by
    refine qN i dx _ (by rw [eR,hn]) (fun a o z => ?_) ?_
    ·have z1:=(h2.trans sx) _ _ z
     have na:a≠e:=ne_of_none z1 he
     have nd:a≠dx:=fun y=>by
      rw [upd_ne d2, ←y,z1] at d1
      cases d1
     rw [drp_ne na,upd_ne nd,upd_ne na,upd_ne na]
     exact z1
    ·rw [drp_ne d2,upd_same]
   refine gn ⟨_,rfl,x,rfl,by omega,gn ?_⟩
   have e0:(Str.ofString "")=(⟨#[]⟩:Str):=by decide +kernel
   cases hb:lbO x with
   | some y=>
    rw [hb] at eS
    dsimp only at eS
    refine ⟨_,rfl, .inl ⟨rfl,_,rfl,iteT ?_⟩⟩
    have hv:(valV (lbE st.1) (.inr y)).isSome=decide (y∈st.1):=by
     have:=lbE_val (x:=y) st.1 []
     rw [show (valV ([]:List (Key×V)) (.inr y)).isSome=false from rfl,Bool.or_false] at this
     exact this
    refine ⟨_,rfl,_,rfl,lb,_,rfl,DGet.k (k := .inr y) hl6,_,rfl,?_⟩
    rw [hv]
    by_cases hm:y∈st.1
    ·rw [if_pos hm] at eS
     rw [decide_eq_true hm]
     refine iteT ?_
     refine ⟨_,rfl,by show 1≤1000;decide,fun e he=>⟨e, .int (i:Nat),rfl,upd_same,fun dx d1 d2=>⟨rfl,e,dx,rfl,?_,nb s6 he,rs s6 eS e he dx d1 d2⟩⟩⟩
     rw [upd_ne (Ne.symm d2),upd_same]
    ·rw [if_neg hm] at eS
     rw [decide_eq_false hm]
     rw [eS] at eR
     refine iteF (gn ?_)
     have bl:=lbE_len st.1 []
     have bl:(lbE st.1).length≤9000000:=Nat.le_trans bl (by show 0+st.1.length≤9000000;omega)
     refine ⟨_,rfl,_,rfl,lb,_,rfl,DPut.k (k:=Sum.inr y) hl6 (small (by omega)),_,_,_,_,us,(st.1++[y],st.2),rfl,?_,?_,?_,?_,?_,Nat.le_succ_of_le b2,eR⟩
     ·exact fun b o e=>by rw [upd_ne (ne_of_none e lb2)];exact s6 b o e
     ·rw [upd_ne npl];exact hp6
     ·have:TP H6 (upd H6 lb (.dK (putK (lbE st.1) (.inr y) (.bl true)))):=fun a us e=>by
       rw [upd_ne (fun z=>by rw [z,hl6] at e;cases e)];exact e
      exact tu6.tp this
     ·show _=some (HO.dK (lbE (st.1++[y])))
      rw [lbE_snoc];exact upd_same
     ·show (st.1++[y]).length≤i+1
      rw [List.length_append];exact Nat.succ_le_succ b1
   | none=>
    rw [hb] at eS
    dsimp only at eS
    refine ⟨_,rfl, .inl ⟨rfl,_,rfl,iteF ⟨_,rfl, .inl ⟨rfl,_,rfl,?_⟩⟩⟩⟩
    by_cases he:x=⟨#[]⟩
    ·rw [if_pos he] at eS
     rw [eS] at eR
     rw [show decide (V.str x=V.str (Str.ofString ""))=true from decide_eq_true (by rw [he,e0])]
     exact iteF ⟨_,_,_,_,us,st,rfl,s6,hp6,tu6,hl6,Nat.le_succ_of_le b1,Nat.le_succ_of_le b2,eR⟩
    ·rw [if_neg he] at eS
     rw [show decide (V.str x=V.str (Str.ofString ""))=false from decide_eq_false fun z=>by
      injection z with z
      exact he (by rw [z,e0])]
     refine iteT ⟨_,rfl,_,rfl,x,d,kvs,rfl,s6 _ _ hd2,plc2,hok.1,hok.2,fun hR H7 s7=>gn ?_,fun r hR rp H7 s7 h7=>gn ?_⟩
     ·rw [hR] at eS
      refine ⟨_,rfl, .inl ⟨rfl,_,rfl,iteT (iteT ?_)⟩⟩
      refine ⟨_,rfl,by show 1≤1000;decide,fun e he=>⟨e, .int (i:Nat),rfl,upd_same,fun dx d1 d2=>⟨rfl,e,dx,rfl,?_,nb (s6.trans s7) he,rs (s6.trans s7) eS e he dx d1 d2⟩⟩⟩
      rw [upd_ne (Ne.symm d2),upd_same]
     ·rw [hR] at eS
      dsimp only at eS
      have hp7:=s7 _ _ hp6
      refine ⟨_,rfl, .inl ⟨rfl,_,rfl,iteF ?_⟩⟩
      refine ⟨_,rfl,_,_,rfl, .inl ⟨_,SqL.of hp7,rfl⟩, .inl ⟨rfl,_,rfl,?_⟩⟩
      have ul:=tu6.1
      by_cases h200:st.2.length=200
      ·rw [if_pos h200] at eS
       rw [decide_eq_true (show V.int (us.length:Nat)=V.int 200 by rw [ul,h200];rfl)]
       refine iteT ?_
       refine ⟨_,rfl,by show 1≤1000;decide,fun e he=>⟨e, .int (i:Nat),rfl,upd_same,fun dx d1 d2=>⟨rfl,e,dx,rfl,?_,nb (s6.trans s7) he,rs (s6.trans s7) eS e he dx d1 d2⟩⟩⟩
       rw [upd_ne (Ne.symm d2),upd_same]
      ·rw [if_neg h200] at eS
       rw [eS] at eR
       rw [decide_eq_false (show ¬V.int (us.length:Nat)=V.int 200 from fun z=>by injection z with z;omega)]
       refine iteF (gn ?_)
       refine ⟨_,rfl, .inl ⟨rfl,_,SqL.of hp7⟩,_,rfl,pp,us,_,rfl,rfl,hp7,small (by omega),fun H8 c8=>gn ⟨_,_,_,_,us++[.ref rp],(st.1,st.2++[r]),rfl,?_,c8.at,?_,?_,Nat.le_succ_of_le b1,?_,eR⟩⟩
       ·exact fun b o e=>by rw [c8.ne (ne_of_none e pp2)];exact (s6.trans s7) b o e
       ·exact ((tu6.tp (TP.same s7)).snoc h7).tp (TP.chg hp7 c8)
       ·rw [c8.ne npl.symm];exact s7 _ _ hl6
       ·show (st.2++[r]).length≤i+1
        rw [List.length_append];exact Nat.succ_le_succ b2
  ·intro σ H5
   refine Elim.go ?_
   rintro x5 x6 x7 x8 us st rfl s5 hp5 tu hl5 b1 b2 eR
   rw [List.drop_length] at eR
   exact ⟨⟨_,SqL.of (s5 _ _ hp2),by rw [List.length_map];exact Nat.le_refl _⟩,nx _ _ ⟨x5,x6,x7,x8,us,st.2,rfl,s5,hp5,tu,eR⟩⟩
 intro σ H5
 refine Elim.go ?_
 rintro x5 x6 x7 x8 us rows rfl s5 hp5 tu eR
 exact ⟨_,rfl,qY rows pp us H5 eR (h2.trans s5) (nb (Same.refl _) pp2) hp5 tu⟩
end
end Z
namespace Z
open PySem L2 PyProof.Rows
theorem con_sm:∀c,c<128→Txt.contains sSmall ⟨#[c]⟩=sSmall.cps.contains c:=by decide +kernel
theorem con_fg:∀c,c<128→Txt.contains sFig ⟨#[c]⟩=sFig.cps.contains c:=by decide +kernel
theorem all_con {x y:Str} (h:Asc x) (hy:∀c,c<128→Txt.contains y ⟨#[c]⟩=y.cps.contains c):(x.cps.toList.all fun c=>Txt.contains y ⟨#[c]⟩)=madeOf x y:=by
 rw [madeOf_all,Bool.eq_iff_iff,List.all_eq_true,List.all_eq_true]
 exact ⟨fun z c hc=>by rw [←hy c (h c hc)];exact z c hc,fun z c hc=>by rw [hy c (h c hc)];exact z c hc⟩
theorem Asc.arr {x:Str} (h:Asc x):x.cps.all (· < 128)=true:=by
 rw [Array.all_eq_true_iff_forall_mem]
 intro c hc
 exact decide_eq_true (h c (by simpa using hc))
theorem can1:∀a,a<10→numT a=⟨#[48+a]⟩:=by decide +kernel
theorem can2:∀a,a<10→∀b,b<10→decide (numT (10*a+b)=⟨#[48+a,48+b]⟩)=decide (a≠0):=by decide +kernel
theorem can3:∀a,a<10→∀b,b<10→∀c,c<10→decide (numT (100*a+10*b+c)=⟨#[48+a,48+b,48+c]⟩)=decide (a≠0):=by decide +kernel
theorem fig_canon {x:Str} (h:madeOf x sFig=true) (h1:1≤x.length) (h3:x.length≤3):∃c,x.cps.toList[0]? = some c∧decide (numT (valN x)=x)=(decide (x=⟨#[48]⟩)||decide (c≠48)):=by
 rw [madeOf_all,List.all_eq_true] at h
 have hd:∀c∈x.cps.toList,48≤c∧c≤57:=fun c hc=>fig_of c (by have:=h c hc;simpa using this)
 rw [str_len] at h1 h3
 unfold valN
 obtain ⟨l,hl⟩:∃l,l=x.cps.toList:=⟨_,rfl⟩
 have ex:x=⟨l.toArray⟩:=str_eq' (by rw [hl])
 rw [←hl] at hd h1 h3 ⊢
 rw [ex]
 clear h ex hl
 match l,h1,h3 with
 | [a],_,_=>
  have:=hd a (by simp)
  obtain ⟨d,rfl⟩:∃d,a=48+d:=⟨a-48,by omega⟩
  refine ⟨48+d,rfl,?_⟩
  have e:=can1 d (by omega)
  rw [show PySem.NumText.digitsVal [48+d]=d by show 0*10+(48+d-48)=d;omega,decide_eq_true e]
  by_cases z:d=0
  ·subst z;rfl
  ·rw [decide_eq_true (show 48+d≠48 by omega),Bool.or_true]
 | [a,b],_,_=>
  have:=hd a (by simp)
  have:=hd b (by simp)
  obtain ⟨d,rfl⟩:∃d,a=48+d:=⟨a-48,by omega⟩
  obtain ⟨e,rfl⟩:∃d,b=48+d:=⟨b-48,by omega⟩
  refine ⟨48+d,rfl,?_⟩
  rw [show PySem.NumText.digitsVal [48+d,48+e]=10*d+e by show (0*10+(48+d-48))*10+(48+e-48)=_;omega,show (⟨[48+d,48+e].toArray⟩:Str)=⟨#[48+d,48+e]⟩ from rfl,can2 d (by omega) e (by omega),decide_eq_false (show ¬(⟨#[48+d,48+e]⟩:Str)=⟨#[48]⟩ from fun z=>by injection z with z;have:=congrArg Array.size z;simp at this),Bool.false_or]
  congr 1
  exact propext ⟨fun z=>by omega,fun z=>by omega⟩
 | [a,b,c],_,_=>
  have:=hd a (by simp)
  have:=hd b (by simp)
  have:=hd c (by simp)
  obtain ⟨d,rfl⟩:∃d,a=48+d:=⟨a-48,by omega⟩
  obtain ⟨e,rfl⟩:∃d,b=48+d:=⟨b-48,by omega⟩
  obtain ⟨g,rfl⟩:∃d,c=48+d:=⟨c-48,by omega⟩
  refine ⟨48+d,rfl,?_⟩
  rw [show PySem.NumText.digitsVal [48+d,48+e,48+g]=100*d+10*e+g by show ((0*10+(48+d-48))*10+(48+e-48))*10+(48+g-48)=_;omega,show (⟨[48+d,48+e,48+g].toArray⟩:Str)=⟨#[48+d,48+e,48+g]⟩ from rfl,can3 d (by omega) e (by omega) g (by omega),decide_eq_false (show ¬(⟨#[48+d,48+e,48+g]⟩:Str)=⟨#[48]⟩ from fun z=>by injection z with z;have:=congrArg Array.size z;simp at this),Bool.false_or]
  congr 1
  exact propext ⟨fun z=>by omega,fun z=>by omega⟩
def spNamA:Sp:=fun vs H Q _=>∃x:Str,vs=[.str x]∧Asc x∧x.length≤10000000∧∀H',Same H H'→Q (.bl (namB x)) H'
def spFigA:Sp:=fun vs H Q _=>∃x:Str,vs=[.str x]∧Asc x∧x.length≤10000000∧∀H',Same H H'→Q (.bl (numO x).isSome) H'
section
variable {P:Program} {w:World} {K:PySem.W.Frag} {mg:Str→Option Value} {base:Heap} {f fi:Addr} {fd fdi:FuncData} {C:Addr} {t1:Tok}
theorem sc_law_is_name:FnScope ["_law_word_here"] ["_law_word_here"] (defScope (top i_law_is_name)):=⟨rfl,rfl,rfl,by decide +kernel,rfl,by decide +kernel,by decide +kernel⟩
theorem ok_lin82 (F:Fun K "_law_is_name" "_law_is_name" (top i_law_is_name) f fd) (T:Nm mg):FnOk P w K mg base CX0 1 f fd ["_law_word_here"] spNamA:=by
 refine F.ok sc_law_is_name (fun vs H Q E h => ?_) (fun cdv A outer s H vs Q E hr h => ?_)
 ·obtain ⟨x,rfl,_⟩:=h
  rfl
 obtain ⟨x,rfl,ha,hx,q⟩:=h
 have hu6:=hr.units
 refine ⟨_,(pss_one (ps_ret (pe_and (pe_chain op_le op_le pe_int (pe_callB (lenK K) rfl T.n_len (by rfl) (pa_cons (pv 0) pa_nil)) pe_int) (pe_one (pe_callB (allK K rfl) rfl T.n_all (by rfl) (pa_cons (pe_lcomp rfl (comp_ok (Nc:=["_law_sign"]) (Fc:=[]) (js:=[])) (pi_text (pv 0)) (gk_name (i:=0) (n:=1) (by decide)) (fun _ _ _ _ _=>(pg_name (i:=0) (ndS ["_law_sign"]) rfl (Or.inl rfl))) (fun _ _ _ _ _=>pts_nil) (fun _ _ _ _ _=>(pe_cmpR inTxt (pv 0) pe_str (by with_unfolding_all rfl)))) pa_nil)))))),?_⟩
 have xl:x.cps.toList.length=x.length:=(str_len x).symm
 have q:=q
 unfold namB at q
 refine ⟨_,rfl,_,_,rfl,⟨sizeOk (by omega),rfl⟩,_,_,rfl,rfl,_,rfl,?_⟩
 by_cases h1:¬ 1≤x.length
 ·rw [decide_eq_false h1,Bool.false_and] at q
  rw [decide_eq_false (show ¬(1:Int)≤(x.length:Nat) by omega)]
  exact iteF ⟨_,rfl,iteF (q _ (Same.refl _))⟩
 have h1:1≤x.length:=by omega
 rw [decide_eq_true h1,Bool.true_and] at q
 rw [decide_eq_true (show (1:Int)≤(x.length:Nat) by omega)]
 refine iteT ⟨_,_,rfl,rfl,_,rfl,?_⟩
 by_cases h2:¬x.length≤8
 ·rw [decide_eq_false h2,Bool.false_and] at q
  rw [decide_eq_false (show ¬((x.length:Nat):Int)≤8 by omega)]
  exact iteF (q _ (Same.refl _))
 have h2:x.length≤8:=by omega
 rw [decide_eq_true h2,Bool.true_and] at q
 rw [decide_eq_true (show ((x.length:Nat):Int)≤8 by omega)]
 refine iteT ⟨_,rfl,x,rfl,ha.arr,?_⟩
 refine comp_go (N:=x.length) (fun i ys H'=>H'=H∧ys=((x.cps.toList.take i).map fun c=>Txt.contains sSmall ⟨#[c]⟩).map V.bl) ⟨rfl,rfl⟩ ?_ ?_
 ·rintro i ys H' Nx hi ⟨rfl,rfl⟩ nx
  have hi':i<x.cps.toList.length:=by omega
  have ec:x.cps[i]? = some (x.cps.toList[i]):=by
   rw [←Array.getElem?_toList,List.getElem?_eq_getElem hi']
  refine ⟨hi,Nat.lt_of_le_of_lt (by rw [List.length_map,List.length_map,List.length_take];omega) (show 10000000<sizeLine by decide),?_⟩
  rintro x' H2 ⟨rfl,hy⟩
  have e:=hy _ ec
  subst e
  refine ⟨_,rfl,_,_,rfl,rfl,nx _ _ ⟨rfl,?_⟩⟩
  rw [List.take_succ_eq_append_getElem hi',List.map_append,List.map_append];rfl
 ·rintro ys H1 ⟨rfl,rfl⟩
  refine ⟨Nat.le_refl _,fun p3 hp3=>⟨p3,_,rfl,SqL.of upd_same,?_⟩⟩
  rw [←xl,List.take_length,List.all_map]
  rw [show (id ∘ fun c=>Txt.contains sSmall ⟨#[c]⟩)=fun c=>Txt.contains sSmall ⟨#[c]⟩ from rfl,all_con ha con_sm]
  exact q _ (same_new hp3 _)
theorem sc_law_is_figures:FnScope ["_law_word_here"] ["_law_word_here"] (defScope (top i_law_is_figures)):=⟨rfl,rfl,rfl,by decide +kernel,rfl,by decide +kernel,by decide +kernel⟩
theorem ok_lif82 (F:Fun K "_law_is_figures" "_law_is_figures" (top i_law_is_figures) f fd) (T:Nm mg):FnOk P w K mg base CX0 1 f fd ["_law_word_here"] spFigA:=by
 refine F.ok sc_law_is_figures (fun vs H Q E h => ?_) (fun cdv A outer s H vs Q E hr h => ?_)
 ·obtain ⟨x,rfl,_⟩:=h
  rfl
 obtain ⟨x,rfl,ha,hx,q⟩:=h
 have hu6:=hr.units
 refine ⟨_,(pss_cons (ps_if (PW.pt (pw_or (pt_not (pt_chain op_le op_le pe_int (pe_callB (lenK K) rfl T.n_len (by rfl) (pa_cons (pv 0) pa_nil)) pe_int)) (pw_or1 (pt_not (pt_val (pe_callB (allK K rfl) rfl T.n_all (by rfl) (pa_cons (pe_lcomp rfl (comp_ok (Nc:=["_law_sign"]) (Fc:=[]) (js:=[])) (pi_text (pv 0)) (gk_name (i:=0) (n:=1) (by decide)) (fun _ _ _ _ _=>(pg_name (i:=0) (ndS ["_law_sign"]) rfl (Or.inl rfl))) (fun _ _ _ _ _=>pts_nil) (fun _ _ _ _ _=>(pe_cmpR inTxt (pv 0) pe_str (by with_unfolding_all rfl)))) pa_nil))))))) (pss_one (ps_ret pe_bl)) pss_nil)
  (pss_one (ps_ret (pe_and (pe_or (pe_cmpR (eqK K hu6) (pv 0) pe_str (nomark _)) (pe_one (pe_cmpR (neK K hu6) (pe_ix (ixK K) (pv 0) pe_int (fun _ _=>rfl)) pe_str (nomark _)))) (pe_one (pe_cmpR op_lt (pe_callTy intS rfl T.n_int (by rfl) (pa_cons (pv 0) pa_nil)) pe_int (nomark _))))))),?_⟩
 have xl:x.cps.toList.length=x.length:=(str_len x).symm
 unfold numO at q
 refine ⟨_,rfl,_,_,rfl,⟨sizeOk (by omega),rfl⟩,_,_,rfl,rfl,_,rfl,?_⟩
 by_cases h1:¬ 1≤x.length
 ·rw [decide_eq_false h1,Bool.false_and] at q
  rw [decide_eq_false (show ¬(1:Int)≤(x.length:Nat) by omega)]
  exact iteF ⟨_,rfl,iteT (iteT (q _ (Same.refl _)))⟩
 have h1:1≤x.length:=by omega
 rw [decide_eq_true h1,Bool.true_and] at q
 rw [decide_eq_true (show (1:Int)≤(x.length:Nat) by omega)]
 refine iteT ⟨_,_,rfl,rfl,_,rfl,?_⟩
 by_cases h2:¬x.length≤3
 ·rw [decide_eq_false h2,Bool.false_and] at q
  rw [decide_eq_false (show ¬((x.length:Nat):Int)≤3 by omega)]
  exact iteT (iteT (q _ (Same.refl _)))
 have h2:x.length≤3:=by omega
 rw [decide_eq_true h2,Bool.true_and] at q
 rw [decide_eq_true (show ((x.length:Nat):Int)≤3 by omega)]
 refine iteF ⟨_,rfl,x,rfl,ha.arr,?_⟩
 refine comp_go (N:=x.length) (fun i ys H'=>H'=H∧ys=((x.cps.toList.take i).map fun c=>Txt.contains sFig ⟨#[c]⟩).map V.bl) ⟨rfl,rfl⟩ ?_ ?_
 ·rintro i ys H' Nx hi ⟨rfl,rfl⟩ nx
  have hi':i<x.cps.toList.length:=by omega
  have ec:x.cps[i]? = some (x.cps.toList[i]):=by
   rw [←Array.getElem?_toList,List.getElem?_eq_getElem hi']
  refine ⟨hi,Nat.lt_of_le_of_lt (by rw [List.length_map,List.length_map,List.length_take];omega) (show 10000000<sizeLine by decide),?_⟩
  rintro x' H2 ⟨rfl,hy⟩
  have e:=hy _ ec
  subst e
  refine ⟨_,rfl,_,_,rfl,rfl,nx _ _ ⟨rfl,?_⟩⟩
  rw [List.take_succ_eq_append_getElem hi',List.map_append,List.map_append];rfl
 ·rintro ys H1 ⟨rfl,rfl⟩
  refine ⟨Nat.le_refl _,fun p3 hp3=>⟨p3,_,rfl,SqL.of upd_same,_,rfl,?_⟩⟩
  rw [←xl,List.take_length,List.all_map]
  rw [show (id ∘ fun c=>Txt.contains sFig ⟨#[c]⟩)=fun c=>Txt.contains sFig ⟨#[c]⟩ from rfl,all_con ha con_fg]
  have q:=fun H' s=>q H' ((same_new hp3 (.lst ((x.cps.toList.map fun c=>Txt.contains sFig ⟨#[c]⟩).map V.bl))).trans s)
  generalize upd H1 p3 (.lst ((x.cps.toList.map fun c=>Txt.contains sFig ⟨#[c]⟩).map V.bl))=H3 at q ⊢
  have q:=q _ (Same.refl _)
  cases hm:madeOf x sFig with
  | false=>
   rw [hm,Bool.false_and] at q
   exact iteT q
  | true=>
   rw [hm,Bool.true_and] at q
   refine iteF ?_
   obtain ⟨c,hc,ec⟩:=fig_canon hm h1 h2
   rw [ec] at q
   have rd:PySem.intText? x=some ((valN x:Nat):Int):=PySem.intText_digits (made_digits hm) (fun z=>by rw [str_len,z] at h1;exact absurd h1 (by decide)) (by rw [str_len] at h2;exact Nat.le_trans h2 (by decide))
   have e48:(Str.ofString "0")=(⟨#[48]⟩:Str):=by decide +kernel
   have fin:∀z:Bool,(decide (x=⟨#[48]⟩)||decide (c≠48))=z→z=true→∀R:VK,(R=Q)→R (.bl (decide (((valN x:Nat):Int)<256))) H3:=fun z ez zt R eR=>by
    rw [eR]
    rw [ez,zt,Bool.and_true] at q
    by_cases h3:valN x≤255
    ·rw [decide_eq_true h3,if_pos rfl] at q
     rw [decide_eq_true (show ((valN x:Nat):Int)<256 by omega)]
     exact q
    ·rw [decide_eq_false h3,if_neg (fun z=>nomatch z)] at q
     rw [decide_eq_false (show ¬((valN x:Nat):Int)<256 by omega)]
     exact q
   refine ⟨_,rfl, .inl ⟨rfl,_,rfl,?_⟩⟩
   rw [e48]
   by_cases h0:x=⟨#[48]⟩
   ·rw [decide_eq_true (show V.str x=V.str ⟨#[48]⟩ by rw [h0])]
    refine iteT ⟨_,rfl,iteT ⟨_,rfl,x,_,rfl,rd,by omega,_,_,rfl,rfl,?_⟩⟩
    exact fin _ rfl (by rw [decide_eq_true h0,Bool.true_or]) _ rfl
   ·rw [decide_eq_false (show ¬V.str x=V.str ⟨#[48]⟩ from fun z=>h0 (by injection z))]
    refine iteF ⟨_,rfl, .inr (.inr ⟨_,0,c,rfl,rfl,sizeOk (by omega),at_nat (by decide) hc, .inl ⟨rfl,_,rfl,?_⟩⟩)⟩
    by_cases hc0:c=48
    ·rw [decide_eq_true (show V.str ⟨#[c]⟩=V.str ⟨#[48]⟩ by rw [hc0])]
     rw [decide_eq_false h0,decide_eq_false (show ¬c≠48 from fun z=>z hc0),Bool.or_false,Bool.and_false] at q
     exact iteF q
    ·rw [decide_eq_false (show ¬V.str ⟨#[c]⟩=V.str ⟨#[48]⟩ from fun z=>hc0 (by injection z with z;injection z with z;have:=congrArg Array.toList z;injection this))]
     refine iteT ⟨_,rfl,x,_,rfl,rd,by omega,_,_,rfl,rfl,?_⟩
     exact fin _ rfl (by rw [decide_eq_true (show c≠48 from hc0),Bool.or_true]) _ rfl
end
end Z
namespace Z
open PySem L2 PyProof.Rows
theorem cstCut {v:V} {i:Nat} {u:TS} {D:Ends} {σ:L2.St} {H:Hp} (h:u D (σ.set i (some v)) H):tSeq (tAsg (tC v) (gName i)) u D σ H:=h
noncomputable def rowD (r:List V):PyData := .tuple (r.map vD)
noncomputable def anD:Nat ⊕ List (List V)→PyData
 | .inl i => .tuple [.int (i:Nat), .none]
 | .inr rows => .tuple [.none, .list (rows.map rowD)]
def Vz (v:V):Prop:=(∃x:Str,v = .str x∧Asc x∧x.length≤8)∨∃n:Nat,v = .int (n:Nat)∧n≤10000000
theorem vz_den {K:PySem.W.Frag} {H:Hp} {v:V} (h:Vz v):Den K H (vD v) v:=by
 rcases h with ⟨x,rfl,_⟩|⟨n,rfl,_⟩
 ·exact dstr
 ·exact dint
theorem vz_dens {K:PySem.W.Frag} {H:Hp} : ∀{r:List V},(∀v∈r,Vz v)→Dens K H (r.map vD) r
 | [],_=>dsnil
 | v :: r,h=>dscons (vz_den (h v List.mem_cons_self)) (vz_dens fun u hu=>h u (List.mem_cons_of_mem _ hu))
theorem vz_gd {v:V} (h:Vz v):Gd 300 0 (vD v):=by
 rcases h with ⟨x,rfl,h1,h2⟩|⟨n,rfl,h1⟩
 ·exact Gd.str h1.arr (by omega)
 ·exact Gd.int (Nat.lt_of_le_of_lt (show ((n:Nat):Int).natAbs≤10000000 by omega) (by decide)) (by decide)
def Rz (r:List V):Prop:=r.length≤3∧∀v∈r,Vz v
theorem vz_gs:∀{r:List V},(∀v∈r,Vz v)→Gs (301*r.length) 0 (r.map vD)
 | [],_=>Gs.nil
 | v :: r,h=>(Gs.cons (vz_gd (h v List.mem_cons_self)) (vz_gs fun u hu=>h u (List.mem_cons_of_mem _ hu))).mono (by rw [List.length_cons];omega) (Nat.le_refl _)
theorem rz_gd {r:List V} (h:Rz r):Gd 903 1 (rowD r):=(vz_gs h.2).tuple.mono (by have:=h.1;omega) (Nat.le_refl _)
theorem rz_gs:∀{rows:List (List V)},(∀r∈rows,Rz r)→Gs (904*rows.length) 1 (rows.map rowD)
 | [],_=>Gs.nil
 | r :: rows,h=>(Gs.cons (rz_gd (h r List.mem_cons_self)) (rz_gs fun u hu=>h u (List.mem_cons_of_mem _ hu))).mono (by rw [List.length_cons];omega) (Nat.le_refl _)
theorem TupV.dens {K:PySem.W.Frag} {H:Hp} {rows:List (List V)} {us:List V} (h:TupV H rows us) (hz:∀r∈rows,Rz r):Dens K H (rows.map rowD) us:=by
 refine Dens.of_get (by rw [List.length_map,h.1]) fun j d v hd hv => ?_
 rw [List.getElem?_map] at hd
 cases e:rows[j]? with
 | none=>rw [e] at hd;cases hd
 | some r=>
  rw [e] at hd
  cases hd
  obtain ⟨rp,h1,h2⟩:=h.2 j r e
  rw [h1] at hv
  cases hv
  exact dtupN h2 (vz_dens (hz r (List.mem_of_getElem? e)).2)
def Az:Nat ⊕ List (List V)→Prop
 | .inl i=>i≤10000000
 | .inr rows=>rows.length≤200∧∀r∈rows,Rz r
theorem Az.gd {a:Nat ⊕ List (List V)} (h:Az a):Gd 200000 3 (anD a):=by
 cases a with
 | inl i=>
  have h:i≤10000000:=h
  exact (Gs.cons (dp:=0) (Gd.int (w:=300) (Nat.lt_of_le_of_lt (show ((i:Nat):Int).natAbs≤10000000 by omega) (by decide)) (by decide)) (Gs.one (Gd.small (w:=10) (.inl rfl) (by decide)))).tuple.mono (by decide) (by decide)
 | inr rows=>
  have g:=(rz_gs h.2).list
  have hl:=h.1
  exact (Gs.cons (Gd.small (w:=10) (.inl rfl) (by decide)) (Gs.one g)).tuple.mono (by omega) (by decide)
theorem spot_short:∀x∈spots4,x.length≤8:=by decide +kernel
theorem kind_short:∀x∈kinds8,x.length≤8:=by decide +kernel
theorem prt_short:∀x∈kinds8,(prtK x).length≤2:=by decide +kernel
theorem valO_vz {kvs:List (Key×V)} (hk:Plc kvs) {p x:Str} (ha:Asc x) {v:V} (h:valO kvs p x=some v):Vz v:=by
 unfold valO at h
 split at h
 case isTrue e1=>
  split at h
  case isTrue e2=>cases h;exact .inl ⟨x,rfl,ha,spot_short x e2⟩
  case isFalse e2=>cases h
 case isFalse e1=>
  split at h
  case isTrue e2=>
   cases e:numO x with
   | none=>rw [e] at h;cases h
   | some n=>rw [e] at h;cases h;exact .inr ⟨n,rfl,Nat.le_trans (numO_le e) (by decide)⟩
  case isFalse e2=>
   obtain ⟨n,rfl,hn⟩:=hk _ _ h
   exact .inr ⟨n,rfl,hn⟩
theorem rowO_rz {kvs:List (Key×V)} (hk:Plc kvs) {x:Str} (ha:Asc x) {r:List V} (h:rowO kvs x=some r):Rz r:=by
 unfold rowO at h
 have asc:∀y∈Txt.split x sBl,Asc y:=split_asc (c:=32) ha
 cases hs:Txt.split x sBl with
 | nil=>rw [hs] at h;cases h
 | cons k ws=>
  rw [hs] at h asc
  dsimp only at h
  split at h
  case isFalse e=>cases h
  case isTrue e=>
   split at h
   case isFalse e2=>cases h
   case isTrue e2=>
    cases h
    have hv:(vls kvs k ws).length≤2:=by
     have:=prt_short k e.1
     unfold vls
     rw [List.length_zipWith]
     omega
    refine ⟨by rw [List.length_cons,List.length_map];omega,fun v hv => ?_⟩
    rcases List.mem_cons.mp hv with rfl|hv
    ·exact .inl ⟨k,rfl,asc k List.mem_cons_self,kind_short k e.1⟩
    ·obtain ⟨o,ho,rfl⟩:=List.mem_map.mp hv
     obtain ⟨v,rfl⟩:=Option.isSome_iff_exists.mp (List.all_eq_true.mp e2 o ho)
     obtain ⟨j,hj,e3⟩:=List.getElem_of_mem ho
     unfold vls at hj e3
     rw [List.getElem_zipWith] at e3
     exact valO_vz hk (asc _ (List.mem_cons_of_mem _ (List.getElem_mem _))) e3
theorem rdR_az {kvs:List (Key×V)} (hk:Plc kvs):∀(xs:List Str) (i:Nat) (s:List Str×List (List V)),(∀x∈xs,Asc x)→i+xs.length≤10000000→s.2.length≤200→(∀r∈s.2,Rz r)→Az (rdR kvs xs i s)
 | [],i,s,_,_,h2,h3=>⟨h2,h3⟩
 | x :: xs,i,s,ha,hi,h2,h3=>by
  rw [List.length_cons] at hi
  rw [rdR]
  cases e:rdS kvs s x with
  | none=>show i≤10000000;omega
  | some s'=>
   have:s'.2.length≤200∧∀r∈s'.2,Rz r:=by
    unfold rdS at e
    split at e
    ·split at e
     ·cases e
     ·cases e;exact ⟨h2,h3⟩
    ·split at e
     ·cases e;exact ⟨h2,h3⟩
     ·split at e
      ·cases e
      case h_2 r hr=>
       split at e
       ·cases e
       case isFalse h200=>
        cases e
        refine ⟨by rw [List.length_append];show s.2.length+1≤200;omega,fun q hq => ?_⟩
        rcases List.mem_append.mp hq with hq|hq
        ·exact h3 q hq
        ·rw [List.mem_singleton.mp hq];exact rowO_rz hk (ha x List.mem_cons_self) hr
   exact rdR_az hk xs (i+1) s' (fun y hy=>ha y (List.mem_cons_of_mem _ hy)) (by omega) this.1 this.2
theorem readA_az {t:Str} (ha:Asc t) (hl:t.length≤8000000):Az (readA t):=by
 have cnt:(Txt.split t sNl).length≤t.length+1:=split_cnt t 10
 refine rdR_az ?_ _ _ _ (split_asc (c:=10) ha) (by omega) (Nat.zero_le _) (fun r h=>nomatch h)
 exact lpA_plc _ ([],0) (fun k v e=>nomatch e) (by show 0+_≤10000000;omega)
def spRef (K:PySem.W.Frag):Sp:=fun vs H Q _=>∃t:Str,vs=[.str t]∧Asc t∧t.length≤8000000∧∀v H',Same H H'→Den K H' (anD (readA t)) v→Q v H'
section
variable {P:Program} {w:World} {K:PySem.W.Frag} {mg:Str→Option Value} {base:Heap} {f:Addr} {fd:FuncData} {C cO c1 c2 c3 c4 c5 c6 c7:Addr}
theorem sc_law_refused:FnScope ["_law_text", "_law_caught", "_law_told", "error", "_law_others"] ["_law_text"] (defScope (top i_law_refused)):=⟨rfl,rfl,rfl,by decide +kernel,rfl,by decide +kernel,by decide +kernel⟩
theorem ok_ref (F:Fun K "_law_refused" "_law_refused" (top i_law_refused) f fd) (T:Nm mg) (n_ValueError:mg "ValueError" = none) (g_OddError:mg "OddError" = some (.ref cO)) (g_BadRow:mg "BadRow" = some (.ref C)) (g_BadText:mg "BadText" = some (.ref c1)) (g_NoForm:mg "NoForm" = some (.ref c2)) (g_NoName:mg "NoName" = some (.ref c3)) (g_NoPlace:mg "NoPlace" = some (.ref c4)) (g_NoTarget:mg "NoTarget" = some (.ref c5)) (g_TooFar:mg "TooFar" = some (.ref c6)) (g_TooFull:mg "TooFull" = some (.ref c7))
  (hexm:PySem.W.exmOne K (.ref C) (.ref cO)=some true) (O:ExcOk K C) (S:ExcSt K C "row") (kO:∀D∈[c1,c2,c3,c4,c5,c6,c7],PySem.W.kitOne K (.ref C) (.ref D)=some false) (kV:PySem.W.kitOne K (.ref C) (.type "ValueError")=some true) (f_read_program:FnX P w K mg base 5 "read_program" ["text"] (spRdX K C)) :
  FnOk P w K mg base CX0 6 f fd ["_law_text"] (spRef K):=by
 refine F.ok sc_law_refused (fun vs H Q E h => ?_) (fun cdv A outer s H vs Q E hr h => ?_)
 ·obtain ⟨t,rfl,_⟩:=h
  rfl
 obtain ⟨t,rfl,ha,tl,q⟩:=h
 have hu6:=hr.units
 have az:=readA_az ha tl
 refine ⟨_,(pss_cons (ps_set (i:=1) sc_law_refused.nd rfl (Or.inl rfl) pe_non)
  (pss_cons (ps_set (i:=2) sc_law_refused.nd rfl (Or.inl rfl) pe_non)
  (pss_cons (ps_try1 (j:=3) rfl rfl sc_law_refused.nd rfl rfl rfl g_OddError (fun _ _ _=>(pss_one (ps_set (i:=2) sc_law_refused.nd rfl (Or.inl rfl) (pe_fnC (f_read_program.mono (by first|decide|exact Nat.le_refl _|omega)) hr rfl (pa_cons (pv 0) pa_nil))))) (fun _=>(pss_one (ps_set (i:=1) sc_law_refused.nd rfl (Or.inl rfl) (pv 3)))))
  (pss_cons (ps_if (pt_cmpR g_is (pv 1) pe_non (nomark _)) (pss_one (ps_ret (tupN (pa_cons pe_non (pa_cons (pv 2) pa_nil))))) pss_nil)
  (pss_cons (ps_if (PW.pt (pw_or (pt_not (pt_val (pe_callB (isiA K) rfl T.n_isinstance (by rfl) (pa_cons (pv 1) (pa_cons (pe_gref rfl g_BadRow) pa_nil))))) (pw_or1 (pt_not (pt_val (pe_callB (isiA K) rfl T.n_isinstance (by rfl) (pa_cons (pv 1) (pa_cons (pe_bltn rfl n_ValueError (by rfl) (v := .ty "ValueError") rfl) pa_nil)))))))) (pss_one (ps_ret (tupN (pa_cons pe_str (pa_cons pe_non pa_nil))))) pss_nil)
  (pss_cons (ps_set (i:=4) sc_law_refused.nd rfl (Or.inl rfl) (lstN (pa_cons (pe_callB (isiA K) rfl T.n_isinstance (by rfl) (pa_cons (pv 1) (pa_cons (pe_gref rfl g_NoName) pa_nil))) (pa_cons (pe_callB (isiA K) rfl T.n_isinstance (by rfl) (pa_cons (pv 1) (pa_cons (pe_gref rfl g_BadText) pa_nil))) (pa_cons (pe_callB (isiA K) rfl T.n_isinstance (by rfl) (pa_cons (pv 1) (pa_cons (pe_gref rfl g_NoForm) pa_nil))) pa_nil)))))
  (pss_cons (ps_set (i:=4) sc_law_refused.nd rfl (Or.inl rfl) (pe_op addN (pv 4) (lstN (pa_cons (pe_callB (isiA K) rfl T.n_isinstance (by rfl) (pa_cons (pv 1) (pa_cons (pe_gref rfl g_TooFar) pa_nil))) (pa_cons (pe_callB (isiA K) rfl T.n_isinstance (by rfl) (pa_cons (pv 1) (pa_cons (pe_gref rfl g_NoTarget) pa_nil))) (pa_cons (pe_callB (isiA K) rfl T.n_isinstance (by rfl) (pa_cons (pv 1) (pa_cons (pe_gref rfl g_TooFull) pa_nil))) pa_nil))))))
  (pss_one (ps_ret (tupN (pa_cons (pe_ifExp (PW.pt (pw_or (pt_val (pe_callB (anyK K rfl) rfl T.n_any (by rfl) (pa_cons (pv 4) pa_nil))) (pw_or1 (pt_val (pe_callB (isiA K) rfl T.n_isinstance (by rfl) (pa_cons (pv 1) (pa_cons (pe_gref rfl g_NoPlace) pa_nil))))))) pe_str (pe_xgetC K (pv 1))) (pa_cons pe_non pa_nil)))))))))))),?_⟩
 refine cstCut ?_
 refine cstCut ?_
 dsimp only
 generalize hR:readA t=an at q az
 refine seqCut (t:=tTry1 _ _ _ _ _) (fun σ H'=>(∃(p:Addr) (rows:List (List V)), σ=[some (.str t),some .non,some (.ref p),none,none]∧an = .inr rows∧Same H H'∧Den K H' (.list (rows.map rowD)) (.ref p))∨(∃(e dx:Addr) (i:Nat), σ=[some (.str t),some (.ref e),some .non,none,none]∧an = .inl i∧Same H H'∧H' e=some (excAs e (.ref C) (some dx))∧H' dx=some (.xd [("row", .int (i:Nat))]))) (fun Nx nx => ?_) ?_
 ·refine ⟨fun cls d H'=>∃(dx:Addr) (i:Nat),cls = .ref C∧d=some dx∧an = .inl i∧Same H H'∧H' dx=some (.xd [("row", .int (i:Nat))]),?_,?_⟩
  ·refine ⟨rfl,_,rfl,t,rfl,ha,tl,fun rows p us H' e s' hp hp' tu=>gn (nx _ _ (.inl ⟨p,rows,rfl,by rw [←hR,e],s',?_⟩)),fun i dx H' e s' hx=>⟨dx,i,rfl,rfl,by rw [←hR,e],s',hx⟩⟩
   rw [hR] at e
   rw [e] at az
   exact dlstN hp' (tu.dens az.2)
  ·rintro cls d H' ⟨dx,i,rfl,rfl,hb,sm,hx⟩
   refine ⟨hexm,fun e he => ?_⟩
   have hx0:upd H' e (excAs e (.ref C) (some dx)) dx=some (.xd [("row", .int (i:Nat))]):=by rw [upd_ne (ne_of_none hx he)];exact hx
   exact ⟨_,rfl,gn (nx _ _ (.inr ⟨e,dx,i,rfl,hb,sm.trans (same_new he _),upd_same,hx0⟩))⟩
 ·rintro σ H1 (⟨p,rows,rfl,he,s1,hd⟩|⟨e,dx,i,rfl,he,s1,h0,hx0⟩)
  ·subst he
   refine ⟨_,rfl, .inl ⟨rfl,_,rfl,?_⟩⟩
   rw [decide_eq_true rfl]
   refine iteT ⟨_,rfl,by show 2≤sizeLine;decide,fun tp H2 n2=>q _ H2 (s1.trans n2.same) ?_⟩
   exact dtupN n2.at (dscons (by unfold Den;rfl) (dscons (hd.same n2.same) dsnil))
  ·subst he
   have kk:∀{D:Addr},D∈[c1,c2,c3,c4,c5,c6,c7]→PySem.W.kitOne K (.ref C) (.ref D)=some false:=fun h=>kO _ h
   refine ⟨_,rfl, .inl ⟨rfl,_,rfl,?_⟩⟩
   rw [decide_eq_false (fun z=>nomatch z)]
   refine iteF ?_
   dsimp only [tNext]
   refine ⟨_,rfl,e,C,some dx,_,_,true,rfl,h0,O,rfl,kit_self,_,rfl,iteF ⟨_,rfl,e,C,some dx,_,_,true,rfl,h0,O,rfl,kV,_,rfl,iteF ?_⟩⟩
   refine ⟨_,rfl,e,C,some dx,_,_,false,rfl,h0,O,rfl,kk (by simp),_,rfl,e,C,some dx,_,_,false,rfl,h0,O,rfl,kk (by simp),_,rfl,e,C,some dx,_,_,false,rfl,h0,O,rfl,kk (by simp),by show 3≤sizeLine;decide,fun l1 H2 n2=>gn ?_⟩
   have h2:=n2.same _ _ h0
   refine ⟨_,rfl,_,rfl,e,C,some dx,_,_,false,rfl,h2,O,rfl,kk (by simp),_,rfl,e,C,some dx,_,_,false,rfl,h2,O,rfl,kk (by simp),_,rfl,e,C,some dx,_,_,false,rfl,h2,O,rfl,kk (by simp),by show 3≤sizeLine;decide,fun l2 H3 n3 => ?_⟩
   have h3:=n3.same _ _ h2
   refine .inr (.inr ⟨l1,l2,_,_,rfl,rfl,n3.same _ _ n2.at,n3.at,by show 6≤sizeLine;decide,fun l3 H4 n4=>gn ?_⟩)
   have h4:=n4.same _ _ h3
   have hx4:=n4.same _ _ (n3.same _ _ (n2.same _ _ hx0))
   refine ⟨_,rfl,l3,[false,false,false,false,false,false],rfl,SqL.of n4.at,_,rfl,iteF ⟨_,rfl,e,C,some dx,_,_,false,rfl,h4,O,rfl,kk (by simp),_,rfl,iteF ?_⟩⟩
   refine ⟨_,rfl,e,C,dx,_, .int (i:Nat),rfl,h4,hx4,rfl,O,S, .inl ⟨_,rfl⟩,by show 2≤sizeLine;decide,fun tq H5 n5=>q _ H5 (s1.trans (n2.same.trans (n3.same.trans (n4.same.trans n5.same)))) ?_⟩
   exact dtupN n5.at (dscons dint (dscons (by unfold Den;rfl) dsnil))
end
end Z
namespace Z
open PySem L2 PyProof.Rows
noncomputable def symO:List Str→Option (List V)
 | [k]=>if k = "stop" then some [.str k] else none
 | [k,a]=>if k = "jump" then (if namB a then some [.str k, .str a] else none) else if a∈spots4 then (if k = "tell" ∨ k = "ask" then some [.str k, .str a] else none) else none
 | [k,a,b]=>if k = "jump" then none else if a∈spots4 then
   (if k = "set" then (numO b).map (fun n=>[.str k, .str a, .int (n:Nat)]) else if k = "zero" then (if namB b then some [.str k, .str a, .str b] else none) else if k = "add" ∨ k = "take" then (if b∈spots4 then some [.str k, .str a, .str b] else none) else none) else none
 | _=>none
noncomputable def resO (kvs:List (Key×V)):List V→Option (List V)
 | [.str k, .str a]=>if k = "jump" then (valV kvs (.inr a)).map (fun v=>[.str k,v]) else some [.str k, .str a]
 | [.str k, .str a, .str b]=>if k = "zero" then (valV kvs (.inr b)).map (fun v=>[.str k, .str a,v]) else some [.str k, .str a, .str b]
 | r=>some r
def NamK (kvs:List (Key×V)):Prop:=∀x:Str,(valV kvs (.inr x)).isSome=true→namB x=true
theorem kinds_or {k:Str} (h:k∈kinds8):k = "set" ∨ k = "add" ∨ k = "take" ∨ k = "tell" ∨ k = "ask" ∨ k = "jump" ∨ k = "zero" ∨ k = "stop":=by simpa using h
theorem sym_kind {k:Str} {ws:List Str} (h:k ∉ kinds8):symO (k :: ws)=none:=by
 have n:∀{y:Str},y∈kinds8→k≠y:=fun hy e=>h (e ▸ hy)
 have n1:k ≠ "stop":=n (by decide)
 have n2:k ≠ "jump":=n (by decide)
 have n3:k ≠ "tell":=n (by decide)
 have n4:k ≠ "ask":=n (by decide)
 have n5:k ≠ "set":=n (by decide)
 have n6:k ≠ "zero":=n (by decide)
 have n7:k ≠ "add":=n (by decide)
 have n8:k ≠ "take":=n (by decide)
 match ws with
 | []=>simp [symO,n1]
 | [a]=>simp [symO,n2,n3,n4]
 | [a,b]=>simp [symO,n2,n5,n6,n7,n8]
 | _ :: _ :: _ :: _=>rfl
theorem val_spot (kvs:List (Key×V)) (x:Str):valO kvs "spot" x=if x∈spots4 then some (.str x) else none:=by unfold valO;rw [if_pos rfl]
theorem val_number (kvs:List (Key×V)) (x:Str):valO kvs "number" x=(numO x).map fun n => .int (n:Nat):=by unfold valO;rw [if_neg (by decide),if_pos rfl]
theorem val_near (kvs:List (Key×V)) (x:Str):valO kvs "near" x=valV kvs (.inr x):=by unfold valO;rw [if_neg (by decide),if_neg (by decide)]
theorem row_sym {kvs:List (Key×V)} (hk:NamK kvs) (x:Str):rowO kvs x=(symO (Txt.split x sBl)).bind (resO kvs):=by
 unfold rowO
 cases Txt.split x sBl with
 | nil=>rfl
 | cons k ws=>
  dsimp only
  by_cases h:k∈kinds8
  ·unfold vls
   rcases kinds_or h with rfl|rfl|rfl|rfl|rfl|rfl|rfl|rfl
   ·have ne:∀y∈(["add", "take", "tell", "ask", "jump", "zero", "stop"]:List Str),((Str.ofString "set" : Str)=y)=False:=fun y hy=>eq_false fun e=>by rw [←e] at hy;exact absurd hy (by decide)
    have n_add:=ne "add" (by decide)
    have n_take:=ne "take" (by decide)
    have n_tell:=ne "tell" (by decide)
    have n_ask:=ne "ask" (by decide)
    have n_jump:=ne "jump" (by decide)
    have n_zero:=ne "zero" (by decide)
    have n_stop:=ne "stop" (by decide)
    clear ne
    rw [show prtK "set" = (["spot", "number"]:List Str) from rfl]
    match ws with
    | []=>rw [if_neg (fun z=>absurd z.2 (by simp))];simp [symO,n_add,n_take,n_tell,n_ask,n_jump,n_zero,n_stop]
    | [a]=>rw [if_neg (fun z=>absurd z.2 (by simp))];simp [symO,n_add,n_take,n_tell,n_ask,n_jump,n_zero,n_stop]
    | [a,b]=>
     rw [if_pos ⟨h,rfl⟩]
     show (if ((valO kvs "spot" a).isSome&&((valO kvs "number" b).isSome&&(true))) then some (V.str "set" :: [(valO kvs "spot" a).getD .non,(valO kvs "number" b).getD .non]) else none)=_
     simp only [val_spot,val_number]
     have hb:numO b=none∨∃n,numO b=some n:=by cases numO b with|none=>exact .inl rfl|some n=>exact .inr ⟨n,rfl⟩
     by_cases ha:a∈spots4 <;> rcases hb with hb|⟨n,hb⟩ <;> simp [symO,resO,ha,hb,n_add,n_take,n_tell,n_ask,n_jump,n_zero,n_stop]
    | _ :: _ :: _ :: _=>rw [if_neg (fun z=>absurd z.2 (by simp))];simp [symO,n_add,n_take,n_tell,n_ask,n_jump,n_zero,n_stop]
   ·have ne:∀y∈(["set", "take", "tell", "ask", "jump", "zero", "stop"]:List Str),((Str.ofString "add" : Str)=y)=False:=fun y hy=>eq_false fun e=>by rw [←e] at hy;exact absurd hy (by decide)
    have n_set:=ne "set" (by decide)
    have n_take:=ne "take" (by decide)
    have n_tell:=ne "tell" (by decide)
    have n_ask:=ne "ask" (by decide)
    have n_jump:=ne "jump" (by decide)
    have n_zero:=ne "zero" (by decide)
    have n_stop:=ne "stop" (by decide)
    clear ne
    rw [show prtK "add" = (["spot", "spot"]:List Str) from rfl]
    match ws with
    | []=>rw [if_neg (fun z=>absurd z.2 (by simp))];simp [symO,n_set,n_take,n_tell,n_ask,n_jump,n_zero,n_stop]
    | [a]=>rw [if_neg (fun z=>absurd z.2 (by simp))];simp [symO,n_set,n_take,n_tell,n_ask,n_jump,n_zero,n_stop]
    | [a,b]=>
     rw [if_pos ⟨h,rfl⟩]
     show (if ((valO kvs "spot" a).isSome&&((valO kvs "spot" b).isSome&&(true))) then some (V.str "add" :: [(valO kvs "spot" a).getD .non,(valO kvs "spot" b).getD .non]) else none)=_
     simp only [val_spot]
     by_cases ha:a∈spots4 <;> by_cases hb:b∈spots4 <;> simp [symO,resO,ha,hb,n_set,n_take,n_tell,n_ask,n_jump,n_zero,n_stop]
    | _ :: _ :: _ :: _=>rw [if_neg (fun z=>absurd z.2 (by simp))];simp [symO,n_set,n_take,n_tell,n_ask,n_jump,n_zero,n_stop]
   ·have ne:∀y∈(["set", "add", "tell", "ask", "jump", "zero", "stop"]:List Str),((Str.ofString "take" : Str)=y)=False:=fun y hy=>eq_false fun e=>by rw [←e] at hy;exact absurd hy (by decide)
    have n_set:=ne "set" (by decide)
    have n_add:=ne "add" (by decide)
    have n_tell:=ne "tell" (by decide)
    have n_ask:=ne "ask" (by decide)
    have n_jump:=ne "jump" (by decide)
    have n_zero:=ne "zero" (by decide)
    have n_stop:=ne "stop" (by decide)
    clear ne
    rw [show prtK "take" = (["spot", "spot"]:List Str) from rfl]
    match ws with
    | []=>rw [if_neg (fun z=>absurd z.2 (by simp))];simp [symO,n_set,n_add,n_tell,n_ask,n_jump,n_zero,n_stop]
    | [a]=>rw [if_neg (fun z=>absurd z.2 (by simp))];simp [symO,n_set,n_add,n_tell,n_ask,n_jump,n_zero,n_stop]
    | [a,b]=>
     rw [if_pos ⟨h,rfl⟩]
     show (if ((valO kvs "spot" a).isSome&&((valO kvs "spot" b).isSome&&(true))) then some (V.str "take" :: [(valO kvs "spot" a).getD .non,(valO kvs "spot" b).getD .non]) else none)=_
     simp only [val_spot]
     by_cases ha:a∈spots4 <;> by_cases hb:b∈spots4 <;> simp [symO,resO,ha,hb,n_set,n_add,n_tell,n_ask,n_jump,n_zero,n_stop]
    | _ :: _ :: _ :: _=>rw [if_neg (fun z=>absurd z.2 (by simp))];simp [symO,n_set,n_add,n_tell,n_ask,n_jump,n_zero,n_stop]
   ·have ne:∀y∈(["set", "add", "take", "ask", "jump", "zero", "stop"]:List Str),((Str.ofString "tell" : Str)=y)=False:=fun y hy=>eq_false fun e=>by rw [←e] at hy;exact absurd hy (by decide)
    have n_set:=ne "set" (by decide)
    have n_add:=ne "add" (by decide)
    have n_take:=ne "take" (by decide)
    have n_ask:=ne "ask" (by decide)
    have n_jump:=ne "jump" (by decide)
    have n_zero:=ne "zero" (by decide)
    have n_stop:=ne "stop" (by decide)
    clear ne
    rw [show prtK "tell" = (["spot"]:List Str) from rfl]
    match ws with
    | []=>rw [if_neg (fun z=>absurd z.2 (by simp))];simp [symO,n_set,n_add,n_take,n_ask,n_jump,n_zero,n_stop]
    | [a]=>
     rw [if_pos ⟨h,rfl⟩]
     show (if ((valO kvs "spot" a).isSome&&(true)) then some (V.str "tell" :: [(valO kvs "spot" a).getD .non]) else none)=_
     simp only [val_spot]
     by_cases ha:a∈spots4 <;> simp [symO,resO,ha,n_set,n_add,n_take,n_ask,n_jump,n_zero,n_stop]
    | [a,b]=>rw [if_neg (fun z=>absurd z.2 (by simp))];simp [symO,n_set,n_add,n_take,n_ask,n_jump,n_zero,n_stop]
    | _ :: _ :: _ :: _=>rw [if_neg (fun z=>absurd z.2 (by simp))];simp [symO,n_set,n_add,n_take,n_ask,n_jump,n_zero,n_stop]
   ·have ne:∀y∈(["set", "add", "take", "tell", "jump", "zero", "stop"]:List Str),((Str.ofString "ask" : Str)=y)=False:=fun y hy=>eq_false fun e=>by rw [←e] at hy;exact absurd hy (by decide)
    have n_set:=ne "set" (by decide)
    have n_add:=ne "add" (by decide)
    have n_take:=ne "take" (by decide)
    have n_tell:=ne "tell" (by decide)
    have n_jump:=ne "jump" (by decide)
    have n_zero:=ne "zero" (by decide)
    have n_stop:=ne "stop" (by decide)
    clear ne
    rw [show prtK "ask" = (["spot"]:List Str) from rfl]
    match ws with
    | []=>rw [if_neg (fun z=>absurd z.2 (by simp))];simp [symO,n_set,n_add,n_take,n_tell,n_jump,n_zero,n_stop]
    | [a]=>
     rw [if_pos ⟨h,rfl⟩]
     show (if ((valO kvs "spot" a).isSome&&(true)) then some (V.str "ask" :: [(valO kvs "spot" a).getD .non]) else none)=_
     simp only [val_spot]
     by_cases ha:a∈spots4 <;> simp [symO,resO,ha,n_set,n_add,n_take,n_tell,n_jump,n_zero,n_stop]
    | [a,b]=>rw [if_neg (fun z=>absurd z.2 (by simp))];simp [symO,n_set,n_add,n_take,n_tell,n_jump,n_zero,n_stop]
    | _ :: _ :: _ :: _=>rw [if_neg (fun z=>absurd z.2 (by simp))];simp [symO,n_set,n_add,n_take,n_tell,n_jump,n_zero,n_stop]
   ·have ne:∀y∈(["set", "add", "take", "tell", "ask", "zero", "stop"]:List Str),((Str.ofString "jump" : Str)=y)=False:=fun y hy=>eq_false fun e=>by rw [←e] at hy;exact absurd hy (by decide)
    have n_set:=ne "set" (by decide)
    have n_add:=ne "add" (by decide)
    have n_take:=ne "take" (by decide)
    have n_tell:=ne "tell" (by decide)
    have n_ask:=ne "ask" (by decide)
    have n_zero:=ne "zero" (by decide)
    have n_stop:=ne "stop" (by decide)
    clear ne
    rw [show prtK "jump" = (["near"]:List Str) from rfl]
    match ws with
    | []=>rw [if_neg (fun z=>absurd z.2 (by simp))];simp [symO,n_set,n_add,n_take,n_tell,n_ask,n_zero,n_stop]
    | [a]=>
     rw [if_pos ⟨h,rfl⟩]
     show (if ((valO kvs "near" a).isSome&&(true)) then some (V.str "jump" :: [(valO kvs "near" a).getD .non]) else none)=_
     simp only [val_near]
     have:=hk a
     have hv:valV kvs (.inr a)=none∨∃v,valV kvs (.inr a)=some v:=by cases valV kvs (.inr a) with|none=>exact .inl rfl|some n=>exact .inr ⟨n,rfl⟩
     rcases hv with hv|⟨v,hv⟩ <;> rw [hv] at this <;> simp at this <;> simp [symO,resO,hv,this,n_set,n_add,n_take,n_tell,n_ask,n_zero,n_stop] <;> (split <;> simp [resO,hv])
    | [a,b]=>rw [if_neg (fun z=>absurd z.2 (by simp))];simp [symO,n_set,n_add,n_take,n_tell,n_ask,n_zero,n_stop]
    | _ :: _ :: _ :: _=>rw [if_neg (fun z=>absurd z.2 (by simp))];simp [symO,n_set,n_add,n_take,n_tell,n_ask,n_zero,n_stop]
   ·have ne:∀y∈(["set", "add", "take", "tell", "ask", "jump", "stop"]:List Str),((Str.ofString "zero" : Str)=y)=False:=fun y hy=>eq_false fun e=>by rw [←e] at hy;exact absurd hy (by decide)
    have n_set:=ne "set" (by decide)
    have n_add:=ne "add" (by decide)
    have n_take:=ne "take" (by decide)
    have n_tell:=ne "tell" (by decide)
    have n_ask:=ne "ask" (by decide)
    have n_jump:=ne "jump" (by decide)
    have n_stop:=ne "stop" (by decide)
    clear ne
    rw [show prtK "zero" = (["spot", "near"]:List Str) from rfl]
    match ws with
    | []=>rw [if_neg (fun z=>absurd z.2 (by simp))];simp [symO,n_set,n_add,n_take,n_tell,n_ask,n_jump,n_stop]
    | [a]=>rw [if_neg (fun z=>absurd z.2 (by simp))];simp [symO,n_set,n_add,n_take,n_tell,n_ask,n_jump,n_stop]
    | [a,b]=>
     rw [if_pos ⟨h,rfl⟩]
     show (if ((valO kvs "spot" a).isSome&&((valO kvs "near" b).isSome&&(true))) then some (V.str "zero" :: [(valO kvs "spot" a).getD .non,(valO kvs "near" b).getD .non]) else none)=_
     simp only [val_spot,val_near]
     have:=hk b
     have hv:valV kvs (.inr b)=none∨∃v,valV kvs (.inr b)=some v:=by cases valV kvs (.inr b) with|none=>exact .inl rfl|some n=>exact .inr ⟨n,rfl⟩
     by_cases ha:a∈spots4 <;> rcases hv with hv|⟨v,hv⟩ <;> rw [hv] at this <;> simp at this <;> simp [symO,resO,ha,hv,this,n_set,n_add,n_take,n_tell,n_ask,n_jump,n_stop] <;> (split <;> simp [resO,hv])
    | _ :: _ :: _ :: _=>rw [if_neg (fun z=>absurd z.2 (by simp))];simp [symO,n_set,n_add,n_take,n_tell,n_ask,n_jump,n_stop]
   ·have ne:∀y∈(["set", "add", "take", "tell", "ask", "jump", "zero"]:List Str),((Str.ofString "stop" : Str)=y)=False:=fun y hy=>eq_false fun e=>by rw [←e] at hy;exact absurd hy (by decide)
    have n_set:=ne "set" (by decide)
    have n_add:=ne "add" (by decide)
    have n_take:=ne "take" (by decide)
    have n_tell:=ne "tell" (by decide)
    have n_ask:=ne "ask" (by decide)
    have n_jump:=ne "jump" (by decide)
    have n_zero:=ne "zero" (by decide)
    clear ne
    rw [show prtK "stop" = ([]:List Str) from rfl]
    match ws with
    | []=>
     rw [if_pos ⟨h,rfl⟩]
     show (if (true) then some (V.str "stop" :: []) else none)=_
     simp [symO,resO,n_set,n_add,n_take,n_tell,n_ask,n_jump,n_zero]
    | [a]=>rw [if_neg (fun z=>absurd z.2 (by simp))];simp [symO,n_set,n_add,n_take,n_tell,n_ask,n_jump,n_zero]
    | [a,b]=>rw [if_neg (fun z=>absurd z.2 (by simp))];simp [symO,n_set,n_add,n_take,n_tell,n_ask,n_jump,n_zero]
    | _ :: _ :: _ :: _=>rw [if_neg (fun z=>absurd z.2 (by simp))];simp [symO,n_set,n_add,n_take,n_tell,n_ask,n_jump,n_zero]
  ·rw [if_neg (fun z=>h z.1),sym_kind h];rfl
theorem tail_co {x:Str} (hx:x.length≤10000000):decide (V.str (Txt.slice x (some (-1)) none)=V.str sCo)=Txt.endswith x sCo:=by
 cases hl:x.cps.toList.reverse with
 | nil=>
  have e:x=⟨#[]⟩:=str_eq' (show x.cps.toList=[] from List.reverse_eq_nil_iff.mp hl)
  subst e
  decide +kernel
 | cons c r=>
  have e:x.cps.toList=r.reverse++[c]:=by rw [←List.reverse_reverse x.cps.toList,hl,List.reverse_cons]
  have hn:x.length=r.length+1:=by rw [str_len,e,List.length_append,List.length_reverse];rfl
  have es:Txt.slice x (some (-1)) none=Txt.slice x (some ((r.length:Nat):Int)) none:=by
   unfold Txt.slice
   have:PySem.Builtin.Str.strSliceIndices (some (-1)) none 1 x.length=PySem.Builtin.Str.strSliceIndices (some ((r.length:Nat):Int)) none 1 x.length:=by
    unfold PySem.Builtin.Str.strSliceIndices
    rw [hn]
    dsimp only
    congr 1
    all_goals omega
   rw [this]
  have e2:Txt.slice x (some (-1)) none=⟨#[c]⟩:=by
   rw [es]
   refine str_eq' ?_
   rw [PyProof.Rows.slice_from_eq (b:=(x.length:Int)) (by omega) (by omega) rfl]
   show (((x.cps.toList).drop (r.length:Int).toNat).take ((x.length:Int)-r.length).toNat).toArray.toList=[c]
   rw [List.toList_toArray,e,Int.toNat_natCast, ←List.length_reverse,List.drop_left,List.take_of_length_le (by rw [hn,List.length_reverse];show 1≤_;omega)]
  rw [e2,Bool.eq_iff_iff,decide_eq_true_iff,ends_iff]
  refine ⟨fun z => ?_,fun ⟨y,hy⟩ => ?_⟩
  ·injection z with z
   injection z with z
   have:=congrArg Array.toList z
   injection this with this
   exact ⟨r.reverse,by rw [e,this]⟩
  ·rw [e] at hy
   obtain ⟨_,hy⟩:=List.append_inj' hy rfl
   injection hy with hy
   rw [hy]
noncomputable def lbW:List Str→Option Str
 | [x]=>lbO x
 | _=>none
theorem lb_no {x:Str} {y:Str} (hx:x.length≤10000000) (h:lbO x=some y):32 ∉ x.cps.toList∧Nam y:=by
 unfold lbO at h
 split at h
 case isFalse e=>cases h
 case isTrue e=>
  cases h
  rw [Bool.and_eq_true] at e
  obtain ⟨z,ez⟩:=(ends_iff x 58).mp e.1
  have nm:=namB_iff.mp e.2
  refine ⟨fun hc => ?_,nm⟩
  have ex:x=(⟨z.toArray⟩:Str)++(⟨#[58]⟩:Str):=str_eq' (by rw [ez,str_append_list])
  have hz:(⟨z.toArray⟩:Str).length≤10000000:=by rw [str_len];rw [str_len,ez,List.length_append] at hx;show z.length≤_;omega
  unfold sl1 at nm
  rw [ex,slice_last hz] at nm
  rw [ez] at hc
  rcases List.mem_append.mp hc with hc|hc
  ·have:=nm.ch 32 hc
   omega
  ·exact absurd (List.mem_singleton.mp hc) (by decide)
theorem lb_words {x:Str} (hx:x.length≤10000000):lbW (Txt.split x sBl)=lbO x:=by
 cases h:Txt.split x sBl with
 | nil=>
  have e:=split_join' x 32
  rw [show (⟨#[32]⟩:Str)=sBl from rfl,h] at e
  have ex:x=⟨#[]⟩:=str_eq' e.symm
  rw [ex,split_nil] at h
  cases h
 | cons k ws=>
  have e:=split_join' x 32
  rw [show (⟨#[32]⟩:Str)=sBl from rfl,h] at e
  cases ws with
  | nil=>
   have:k=x:=str_eq' e
   rw [this];rfl
  | cons a ws=>
   show none=lbO x
   cases hb:lbO x with
   | none=>rfl
   | some y=>
    refine absurd ?_ (lb_no hx hb).1
    rw [←e]
    exact joinL_mem
end Z
namespace Z
open PySem L2 PyProof.Rows
def TupAt (H:Hp) (v:V) (us:List V):Prop:=∃p:Addr,v = .ref p∧H p=some (.tup us)
theorem TupAt.same {H H':Hp} {v:V} {us:List V} (h:TupAt H v us) (s:Same H H'):TupAt H' v us:=by
 obtain ⟨p,e,h⟩:=h
 exact ⟨p,e,s _ _ h⟩
def RtV (H:Hp) (lb:Option Str) (sy:Option (List V)) (v:V):Prop:=match lb with
 | some y=>TupAt H v [.str "label", .str y]
 | none=>match sy with
  | some r=>∃u,TupAt H v [.str "row",u]∧TupAt H u r
  | none=>v = .non
theorem RtV.same {H H':Hp} {lb:Option Str} {sy:Option (List V)} {v:V} (h:RtV H lb sy v) (s:Same H H'):RtV H' lb sy v:=by
 unfold RtV at h ⊢
 cases lb with
 | some y=>exact TupAt.same h s
 | none=>
  cases sy with
  | none=>exact h
  | some r=>
   obtain ⟨u,h1,h2⟩:=h
   exact ⟨u,h1.same s,h2.same s⟩
theorem sl1_ok {x:Str} (he:Txt.endswith x sCo=true) (ha:Asc x) (hx:x.length≤9000000):Asc (sl1 x)∧(sl1 x).length≤9000000:=by
 obtain ⟨z,ez⟩:=(ends_iff x 58).mp he
 have ex:x=(⟨z.toArray⟩:Str)++(⟨#[58]⟩:Str):=str_eq' (by rw [ez,str_append_list])
 have hz:(⟨z.toArray⟩:Str).length≤9000000:=by rw [str_len];rw [str_len,ez,List.length_append] at hx;show z.length≤_;omega
 unfold sl1
 rw [ex,slice_last (by omega)]
 exact ⟨fun c hc=>ha c (by rw [ez];exact List.mem_append_left _ hc),hz⟩
def spRt:Sp:=fun vs H Q _=>Ex2 fun (p:Addr) (ws:List Str)=>vs=[.ref p]∧H p=some (.lst (ws.map V.str))∧ws≠[]∧ws.length≤10000000∧(∀x∈ws,Asc x∧x.length≤9000000)∧∀v H',Same H H'→RtV H' (lbW ws) (symO ws) v→Q v H'
noncomputable def fineK (b:Str):List (Key×V):=putK (putK (putK (putK [] (.inr "set") (.bl (numO b).isSome)) (.inr "zero") (.bl (namB b))) (.inr "add") (.bl (decide (b∈spots4)))) (.inr "take") (.bl (decide (b∈spots4)))
theorem num_read {b:Str} {n:Nat} (h:numO b=some n):PySem.intText? b=some ((n:Nat):Int)∧b.length≤3:=by
 unfold numO at h
 split at h
 case isFalse e=>cases h
 case isTrue e=>
  cases h
  simp only [Bool.and_eq_true,decide_eq_true_iff] at e
  obtain ⟨h1,h2,h3,_⟩:=e
  exact ⟨PySem.intText_digits (made_digits h3) (fun z=>by rw [str_len,z] at h1;exact absurd h1 (by decide)) (by rw [str_len] at h2;exact Nat.le_trans h2 (by decide)),h2⟩
theorem fine_of {k a b:Str} (hj:k ≠ "jump") (hs:a∈spots4):∃g:Bool,(valV (fineK b) (.inr k)).getD (.bl false) = .bl g∧((g=false∧symO [k,a,b]=none)∨(g=true∧∃l:V,symO [k,a,b]=some [.str k, .str a,l]∧((k = "set" ∧ ∃n:Nat,l = .int (n:Nat)∧PySem.intText? b=some ((n:Nat):Int)∧b.length≤3)∨(k ≠ "set" ∧ l = .str b)))):=by
 have inj:∀x y:Str,((Sum.inr x:Key) = .inr y)=(x=y):=fun x y=>propext ⟨fun e=>by injection e,fun e=>by rw [e]⟩
 have sy:symO [k,a,b]=(if k = "set" then (numO b).map (fun n=>[.str k, .str a, .int (n:Nat)]) else if k = "zero" then (if namB b then some [.str k, .str a, .str b] else none) else if k = "add" ∨ k = "take" then (if b∈spots4 then some [.str k, .str a, .str b] else none) else none):=by
  simp only [symO]
  rw [if_neg hj,if_pos hs]
 rw [sy]
 unfold fineK
 simp only [valV_put,inj]
 by_cases h1:k = "set"
 ·subst h1
  rw [if_neg (by decide),if_neg (by decide),if_neg (by decide),if_pos rfl,if_pos rfl]
  refine ⟨(numO b).isSome,rfl,?_⟩
  cases e:numO b with
  | none=>exact .inl ⟨rfl,rfl⟩
  | some n=>exact .inr ⟨rfl,_,rfl, .inl ⟨rfl,n,rfl,num_read e⟩⟩
 rw [if_neg h1,if_neg h1]
 by_cases h2:k = "zero"
 ·subst h2
  rw [if_neg (by decide),if_neg (by decide),if_pos rfl,if_pos rfl]
  refine ⟨namB b,rfl,?_⟩
  cases e:namB b with
  | false=>exact .inl ⟨rfl,rfl⟩
  | true=>exact .inr ⟨rfl,_,rfl, .inr ⟨h1,rfl⟩⟩
 rw [if_neg h2,if_neg h2]
 by_cases h3:k = "add" ∨ k = "take"
 ·rw [if_pos h3]
  refine ⟨decide (b∈spots4),?_,?_⟩
  ·rcases h3 with rfl|rfl
   ·rw [if_neg (by decide),if_pos rfl];rfl
   ·rw [if_pos rfl];rfl
  ·by_cases e:b∈spots4
   ·exact .inr ⟨decide_eq_true e,_,if_pos e, .inr ⟨h1,rfl⟩⟩
   ·exact .inl ⟨decide_eq_false e,if_neg e⟩
 ·rw [if_neg h3,if_neg (fun z=>h3 (.inr z)),if_neg (fun z=>h3 (.inl z))]
  exact ⟨false,rfl, .inl ⟨rfl,rfl⟩⟩
section
variable {P:Program} {w:World} {K:PySem.W.Frag} {mg:Str→Option Value} {base:Heap} {f:Addr} {fd:FuncData}
theorem sc_law_row_told:FnScope ["_law_words", "_law_fine"] ["_law_words"] (defScope (top i_law_row_told)):=⟨rfl,rfl,rfl,by decide +kernel,rfl,by decide +kernel,by decide +kernel⟩
theorem ok_rt (F:Fun K "_law_row_told" "_law_row_told" (top i_law_row_told) f fd) (T:Nm mg) (f_law_is_name:Fn P w K mg base 1 "_law_is_name" ["_law_word_here"] spNamA) (f_law_is_figures:Fn P w K mg base 1 "_law_is_figures" ["_law_word_here"] spFigA):FnOk P w K mg base CX0 2 f fd ["_law_words"] spRt:=by
 refine F.ok sc_law_row_told (fun vs H Q E h => ?_) (fun cdv A outer s H vs Q E hr h => ?_)
 ·obtain ⟨p,ws,rfl,_⟩:=h
  rfl
 obtain ⟨p,ws,rfl,hp,hne,hcnt,hok,q⟩:=h
 have hu:=hu_of hr
 have hu1:=hu_of hr
 have hu6:=hr.units
 refine ⟨_,(pss_cons (ps_if (pt_cmpR (eqK K hu6) (pe_callB (lenK K) rfl T.n_len (by rfl) (pa_cons (pv 0) pa_nil)) pe_int (nomark _)) (pss_cons (ps_if (pt_cmpR (eqK K hu6) (pe_ix (ixK K) (pv 0) pe_int (fun _ _=>rfl)) pe_str (nomark _)) (pss_one (ps_ret (tupN (pa_cons pe_str (pa_cons (tupN (pa_cons pe_str pa_nil)) pa_nil))))) pss_nil)
  (pss_one (ps_ret (pe_ifExp (PW.pt (pw_and (pt_cmpR (eqK K hu6) (pe_slice (slN K) (pe_ix (ixK K) (pv 0) pe_int (fun _ _=>rfl)) (po_some (pe_un un_neg pe_int)) po_none) pe_str (nomark _)) (pw_and1 (pt_val (pe_fn (f_law_is_name.mono (by decide)) hr rfl (pa_cons (pe_slice (slN K) (pe_ix (ixK K) (pv 0) pe_int (fun _ _=>rfl)) po_none (po_some (pe_un un_neg pe_int))) pa_nil)))))) (tupN (pa_cons pe_str (pa_cons (pe_slice (slN K) (pe_ix (ixK K) (pv 0) pe_int (fun _ _=>rfl)) po_none (po_some (pe_un un_neg pe_int))) pa_nil))) pe_non)))) pss_nil)
  (pss_cons (ps_if (pt_cmpR (eqK K hu6) (pe_ix (ixK K) (pv 0) pe_int (fun _ _=>rfl)) pe_str (nomark _)) (pss_one (ps_ret (pe_ifExp (PW.pt (pw_and (pt_cmpR (eqK K hu6) (pe_callB (lenK K) rfl T.n_len (by rfl) (pa_cons (pv 0) pa_nil)) pe_int (nomark _)) (pw_and1 (pt_val (pe_fn (f_law_is_name.mono (by decide)) hr rfl (pa_cons (pe_ix (ixK K) (pv 0) pe_int (fun _ _=>rfl)) pa_nil)))))) (tupN (pa_cons pe_str (pa_cons (tupN (pa_cons pe_str (pa_cons (pe_ix (ixK K) (pv 0) pe_int (fun _ _=>rfl)) pa_nil))) pa_nil))) pe_non))) pss_nil)
  (pss_cons (ps_if (PW.pt (pw_or (pt_cmpR (notInK K) (pe_ix (ixK K) (pv 0) pe_int (fun _ _=>rfl)) (tupN (pa_cons pe_str (pa_cons pe_str (pa_cons pe_str (pa_cons pe_str pa_nil))))) (by with_unfolding_all rfl)) (pw_or1 (pt_cmpR op_gt (pe_callB (lenK K) rfl T.n_len (by rfl) (pa_cons (pv 0) pa_nil)) pe_int (nomark _))))) (pss_one (ps_ret pe_non)) pss_nil)
  (pss_cons (ps_if (pt_cmpR (eqK K hu6) (pe_callB (lenK K) rfl T.n_len (by rfl) (pa_cons (pv 0) pa_nil)) pe_int (nomark _)) (pss_one (ps_ret (pe_ifExp (pt_cmpR (inK K) (pe_ix (ixK K) (pv 0) pe_int (fun _ _=>rfl)) (tupN (pa_cons pe_str (pa_cons pe_str pa_nil))) (by with_unfolding_all rfl)) (tupN (pa_cons pe_str (pa_cons (pe_callTy (tupleN K) rfl T.n_tuple (by rfl) (pa_cons (pv 0) pa_nil)) pa_nil))) pe_non))) pss_nil)
  (pss_cons (ps_set (i:=1) sc_law_row_told.nd rfl (Or.inl rfl) (dispN (pps_cons pe_str (pe_fn (f_law_is_figures.mono (by decide)) hr rfl (pa_cons (pe_ix (ixK K) (pv 0) pe_int (fun _ _=>rfl)) pa_nil)) (pps_cons pe_str (pe_fn (f_law_is_name.mono (by decide)) hr rfl (pa_cons (pe_ix (ixK K) (pv 0) pe_int (fun _ _=>rfl)) pa_nil)) pps_nil)) rfl rfl (by decide) (by decide)))
  (pss_cons (ps_dput hu (pv 1) pe_str (pe_cmpR (inK K) (pe_ix (ixK K) (pv 0) pe_int (fun _ _=>rfl)) (tupN (pa_cons pe_str (pa_cons pe_str (pa_cons pe_str (pa_cons pe_str pa_nil))))) (by with_unfolding_all rfl)) rfl)
  (pss_cons (ps_dput hu (pv 1) pe_str (pe_dget hu (pv 1) pe_str (fun _ _=>rfl)) rfl)
  (pss_cons (ps_if (pt_not (pt_val (pe_dget2 hu1 (pv 1) (pe_ix (ixK K) (pv 0) pe_int (fun _ _=>rfl)) pe_bl ⟨rfl,rfl,rfl,rfl⟩))) (pss_one (ps_ret pe_non)) pss_nil)
  (pss_one (ps_ret (tupN (pa_cons pe_str (pa_cons (tupN (pa_cons (pe_ix (ixK K) (pv 0) pe_int (fun _ _=>rfl)) (pa_cons (pe_ix (ixK K) (pv 0) pe_int (fun _ _=>rfl)) (pa_cons (pe_ifExp (pt_cmpR (eqK K hu6) (pe_ix (ixK K) (pv 0) pe_int (fun _ _=>rfl)) pe_str (nomark _)) (pe_callTy intS rfl T.n_int (by rfl) (pa_cons (pe_ix (ixK K) (pv 0) pe_int (fun _ _=>rfl)) pa_nil)) (pe_ix (ixK K) (pv 0) pe_int (fun _ _=>rfl))) pa_nil)))) pa_nil))))))))))))),?_⟩
 have co:(Str.ofString ":")=sCo:=by decide +kernel
 have wl:(ws.map V.str).length=ws.length:=List.length_map _
 match ws,hne with
 | [x],_=>
  have hx:=hok x List.mem_cons_self
  refine ⟨_,rfl,_,_,rfl, .inl ⟨_,SqL.of hp,rfl⟩, .inl ⟨rfl,_,rfl,iteT ?_⟩⟩
  refine ⟨_,rfl, .inl ⟨p,_,0, .str x,rfl,rfl,SqL.of hp,at_nat (by decide) rfl, .inl ⟨rfl,_,rfl,?_⟩⟩⟩
  by_cases h1:x = "stop"
  ·rw [decide_eq_true (by rw [h1])]
   subst h1
   refine iteT ⟨by show 1≤sizeLine;decide,fun tp H1 n1=>⟨by show 2≤sizeLine;decide,fun tq H2 n2=>q _ H2 (n1.same.trans n2.same) ?_⟩⟩
   show RtV H2 (lbO "stop") (symO ["stop"]) _
   rw [show lbO "stop" = none by decide +kernel,show symO ["stop"]=some [.str "stop"] by simp [symO]]
   exact ⟨_,⟨tq,rfl,n2.at⟩,tp,rfl,n2.same _ _ n1.at⟩
  ·rw [decide_eq_false (fun z=>h1 (by injection z))]
   refine iteF ?_
   have sy:symO [x]=none:=if_neg h1
   rw [sy] at q
   have q:∀v H',Same H H'→RtV H' (lbO x) none v→Q v H':=q
   unfold lbO at q
   refine ⟨_,rfl, .inl ⟨p,_,0, .str x,rfl,rfl,SqL.of hp,at_nat (by decide) rfl,_,rfl,_,rfl, .inr ⟨_,rfl,sizeOk (by omega), .inl ⟨rfl,_,rfl,?_⟩⟩⟩⟩
   rw [co,tail_co (by omega)]
   cases he:Txt.endswith x sCo with
   | false=>
    rw [he,Bool.false_and] at q
    exact iteF (iteF (q _ _ (Same.refl _) rfl))
   | true=>
    rw [he,Bool.true_and] at q
    have hs:Asc (sl1 x)∧(sl1 x).length≤9000000:=sl1_ok he hx.1 hx.2
    refine iteT ⟨_,rfl, .inl ⟨p,_,0, .str x,rfl,rfl,SqL.of hp,at_nat (by decide) rfl,_,rfl,_,rfl, .inr ⟨_,rfl,sizeOk (by omega),sl1 x,rfl,hs.1,by omega,fun H1 s1=>⟨_,rfl,?_⟩⟩⟩⟩
    cases hn:namB (sl1 x) with
    | false=>
     rw [hn] at q
     exact iteF (q _ _ s1 rfl)
    | true=>
     rw [hn] at q
     refine iteT ⟨_,rfl, .inl ⟨p,_,0, .str x,rfl,rfl,SqL.of (s1 _ _ hp),at_nat (by decide) rfl,_,rfl,_,rfl, .inr ⟨_,rfl,sizeOk (by omega),by show 2≤sizeLine;decide,fun tq H2 n2=>q _ _ (s1.trans n2.same) ⟨tq,rfl,n2.at⟩⟩⟩⟩
 | k :: a :: ws,_=>
  have ha:=hok a (List.mem_cons_of_mem _ List.mem_cons_self)
  have q:∀v H',Same H H'→RtV H' none (symO (k :: a :: ws)) v→Q v H':=q
  have at0:atI ((k :: a :: ws).map V.str) 0=some (.str k):=at_nat (by decide) rfl
  have at1:atI ((k :: a :: ws).map V.str) 1=some (.str a):=at_nat (by decide) rfl
  have iv:∀x,inV (.str x) [V.str (Str.ofString "a"),V.str (Str.ofString "b"),V.str (Str.ofString "c"),V.str (Str.ofString "d")]=decide (x∈spots4):=fun x=>(inV_str spots4 x).trans (List.contains_eq_mem _ _)
  have iv2:∀x,inV (.str x) [V.str (Str.ofString "tell"),V.str (Str.ofString "ask")]=decide (x∈([Str.ofString "tell",Str.ofString "ask"]:List Str)):=fun x=>(inV_str [Str.ofString "tell",Str.ofString "ask"] x).trans (List.contains_eq_mem _ _)
  have ll:(((k :: a :: ws).map V.str).length:Int)=((ws.length+2:Nat):Int):=by rw [List.length_map];rfl
  generalize hW:(k :: a :: ws).map V.str=W at hp at0 at1 ll
  refine ⟨_,rfl,_,_,rfl, .inl ⟨_,SqL.of hp,rfl⟩, .inl ⟨rfl,_,rfl,?_⟩⟩
  rw [decide_eq_false (fun z=>by injection z with z;omega)]
  refine iteF ⟨_,rfl, .inl ⟨p,_,0, .str k,rfl,rfl,SqL.of hp,at0, .inl ⟨rfl,_,rfl,?_⟩⟩⟩
  by_cases hj:k = "jump"
  ·rw [decide_eq_true (by rw [hj])]
   refine iteT ⟨_,rfl,_,_,rfl, .inl ⟨_,SqL.of hp,rfl⟩, .inl ⟨rfl,_,rfl,?_⟩⟩
   subst hj
   cases ws with
   | cons b ws=>
    rw [decide_eq_false (fun z=>by injection z with z;rw [List.length_cons] at ll;omega)]
    refine iteF (iteF (q _ _ (Same.refl _) ?_))
    have sy:symO (Str.ofString "jump" :: a :: b :: ws)=none:=by cases ws <;> simp [symO]
    rw [sy];rfl
   | nil=>
    rw [decide_eq_true (by rw [ll];rfl)]
    have sy:symO [Str.ofString "jump",a]=if namB a then some [.str (Str.ofString "jump"), .str a] else none:=by simp [symO]
    rw [sy] at q
    refine iteT ⟨_,rfl, .inl ⟨p,_,1, .str a,rfl,rfl,SqL.of hp,at1,a,rfl,ha.1,by omega,fun H1 s1=>⟨_,rfl,?_⟩⟩⟩
    cases hn:namB a with
    | false=>
     rw [hn] at q
     exact iteF (q _ _ s1 rfl)
    | true=>
     rw [hn] at q
     refine iteT ⟨_,rfl, .inl ⟨p,_,1, .str a,rfl,rfl,SqL.of (s1 _ _ hp),at1,by show 2≤sizeLine;decide,fun tp H2 n2=>⟨by show 2≤sizeLine;decide,fun tq H3 n3=>q _ _ (s1.trans (n2.same.trans n3.same)) ⟨_,⟨tq,rfl,n3.at⟩,tp,rfl,n3.same _ _ n2.at⟩⟩⟩⟩
  rw [decide_eq_false (fun z=>hj (by injection z))]
  refine iteF ⟨_,rfl, .inl ⟨p,_,1, .str a,rfl,rfl,SqL.of hp,at1,by show 4≤sizeLine;decide,fun tp H1 n1=>⟨tp,_,rfl, .inr (SqT.of n1.at),rfl,rfl,_,rfl,?_⟩⟩⟩
  rw [if_pos rfl,iv]
  by_cases hs:¬a∈spots4
  ·rw [decide_eq_false hs]
   refine iteT (iteT (q _ _ n1.same ?_))
   have sy:symO (k :: a :: ws)=none:=by
    match ws with
    | []=>simp only [symO];rw [if_neg hj,if_neg hs]
    | [b]=>simp only [symO];rw [if_neg hj,if_neg hs]
    | _ :: _ :: _=>rfl
   rw [sy];rfl
  have hs:a∈spots4:=Decidable.not_not.mp hs
  rw [decide_eq_true hs]
  have hp1:=n1.same _ _ hp
  refine iteF ⟨_,rfl,_,_,rfl, .inl ⟨_,SqL.of hp1,rfl⟩,_,_,rfl,rfl,_,rfl,?_⟩
  match ws with
  | b :: c :: ws=>
   rw [decide_eq_true (by simp only [List.length_cons] at ll;omega)]
   exact iteT (q _ _ n1.same rfl)
  | []=>
   rw [decide_eq_false (by rw [ll];decide)]
   refine iteF ⟨_,rfl,_,_,rfl, .inl ⟨_,SqL.of hp1,rfl⟩, .inl ⟨rfl,_,rfl,?_⟩⟩
   rw [decide_eq_true (by rw [ll];rfl)]
   have sy:symO [k,a]=if k = "tell" ∨ k = "ask" then some [.str k, .str a] else none:=by simp only [symO];rw [if_neg hj,if_pos hs]
   rw [sy] at q
   refine iteT ⟨_,rfl, .inl ⟨p,_,0, .str k,rfl,rfl,SqL.of hp1,at0,by show 2≤sizeLine;decide,fun tp H2 n2=>⟨tp,_,rfl, .inr (SqT.of n2.at),rfl,rfl,_,rfl,?_⟩⟩⟩
   rw [if_neg (show ¬(false=true) from fun z=>nomatch z),iv2]
   by_cases ht:k = "tell" ∨ k = "ask"
   ·rw [if_pos ht] at q
    rw [decide_eq_true (by simpa using ht)]
    have s2:=n1.same.trans n2.same
    refine iteT ⟨_,rfl,p,_,rfl, .inl ⟨SqL.of (s2 _ _ hp),fun tr H3 n3=>⟨by show 2≤sizeLine;decide,fun tq H4 n4=>q _ _ (s2.trans (n3.same.trans n4.same)) ⟨_,⟨tq,rfl,n4.at⟩,tr,rfl,n4.same _ _ ?_⟩⟩⟩⟩
    rw [n3.at, ←hW];rfl
   ·rw [if_neg ht] at q
    rw [decide_eq_false (by simpa using ht)]
    exact iteF (q _ _ (n1.same.trans n2.same) rfl)
  | [b]=>
   have hb:=hok b (List.mem_cons_of_mem _ (List.mem_cons_of_mem _ List.mem_cons_self))
   have at2:atI W 2=some (.str b):=by rw [←hW];exact at_nat (by decide) rfl
   have ll:(W.length:Int)=3:=ll
   rw [decide_eq_false (by rw [ll];decide)]
   refine iteF ⟨_,rfl,_,_,rfl, .inl ⟨_,SqL.of hp1,rfl⟩, .inl ⟨rfl,_,rfl,?_⟩⟩
   rw [decide_eq_false (fun z=>by injection z with z;rw [ll] at z;exact absurd z (by decide))]
   refine iteF ?_
   dsimp only [tNext]
   obtain ⟨g,fin,hfin⟩:=fine_of hj hs (b:=b)
   refine fun d H2 n2 => ?_
   have hp2:=n2.same _ _ hp1
   refine ⟨_,rfl, .inl ⟨p,_,2, .str b,rfl,rfl,SqL.of hp2,at2,b,rfl,hb.1,by omega,fun H3 s3 => ?_⟩⟩
   have hp3:=s3 _ _ hp2
   refine ⟨_,rfl, .inl ⟨p,_,2, .str b,rfl,rfl,SqL.of hp3,at2,b,rfl,hb.1,by omega,fun H4 s4 => ?_⟩⟩
   have hd4:=s4 _ _ (s3 _ _ n2.at)
   refine ⟨hd4,[(.inr "set", .bl (numO b).isSome),(.inr "zero", .bl (namB b))],rfl,by show 2≤15;decide,fun H5 c5=>gn ?_⟩
   have d1:H1 d=none:=n2.nn
   have up5:∀{a o},H1 a=some o→H5 a=some o:=fun {a o} e=>by rw [c5.ne (ne_of_none e d1)];exact s4 _ _ (s3 _ _ (n2.same _ _ e))
   have hp5:=up5 hp1
   have sm5:Same H1 H5:=fun a o e=>up5 e
   refine ⟨_,rfl, .inl ⟨p,_,2, .str b,rfl,rfl,SqL.of hp5,at2,by show 4≤sizeLine;decide,fun tp6 H6 n6=>⟨tp6,_,rfl, .inr (SqT.of n6.at),rfl,rfl,?_⟩⟩⟩
   rw [if_neg (show ¬(false=true) from fun z=>nomatch z),iv]
   have hd6:=n6.same _ _ c5.at
   refine ⟨_,rfl,d,_,rfl,DPut.k (k := .inr (Str.ofString "add")) hd6 (Nat.lt_of_le_of_lt (show 2≤1000 by decide) (by decide)),?_⟩
   refine ⟨_,rfl,d, .bl (decide (b∈spots4)),rfl, .inl ⟨_, .inr (Str.ofString "add"), .inl upd_same,rfl,?_⟩,_,rfl,d,_,rfl,DPut.k (k := .inr (Str.ofString "take")) upd_same (Nat.lt_of_le_of_lt (show 3≤1000 by decide) (by decide)),?_⟩
   ·rw [valV_put,if_pos rfl]
   rw [upd_upd]
   have h7:upd H6 d (.dK (fineK b)) d=some (.dK (fineK b)):=upd_same
   have sm7:Same H1 (upd H6 d (.dK (fineK b))):=fun a o e=>by rw [upd_ne (ne_of_none e d1)];exact n6.same _ _ (sm5 _ _ e)
   have hp7:=sm7 _ _ hp1
   refine ⟨_,rfl,d,rfl, .inl ⟨_, .inl h7⟩,_,rfl, .inl ⟨p,_,0, .str k,rfl,rfl,SqL.of hp7,at0,valV (fineK b) (.inr k), .inl ⟨_, .inr k, .inl h7,rfl,rfl⟩,?_⟩⟩
   rw [fin]
   have s7:=n1.same.trans sm7
   rcases hfin with ⟨rfl,sy⟩|⟨rfl,l,sy,hl⟩
   ·rw [sy] at q
    exact ⟨_,rfl,iteT (q _ _ s7 rfl)⟩
   ·rw [sy] at q
    refine ⟨_,rfl,iteF ?_⟩
    refine ⟨_,rfl, .inl ⟨p,_,0, .str k,rfl,rfl,SqL.of hp7,at0,_,rfl, .inl ⟨p,_,1, .str a,rfl,rfl,SqL.of hp7,at1,_,rfl, .inl ⟨p,_,0, .str k,rfl,rfl,SqL.of hp7,at0, .inl ⟨rfl,_,rfl,?_⟩⟩⟩⟩⟩
    rcases hl with ⟨hk,n,rfl,hi,hb3⟩|⟨hk,rfl⟩
    ·rw [decide_eq_true (by rw [hk])]
     exact iteT ⟨_,rfl, .inl ⟨p,_,2, .str b,rfl,rfl,SqL.of hp7,at2,b,_,rfl,hi,by omega,by show 3≤sizeLine;decide,fun tr H8 n8=>⟨by show 2≤sizeLine;decide,fun tq H9 n9=>q _ _ (s7.trans (n8.same.trans n9.same)) ⟨_,⟨tq,rfl,n9.at⟩,tr,rfl,n9.same _ _ n8.at⟩⟩⟩⟩
    ·rw [decide_eq_false (fun z=>hk (by injection z))]
     exact iteF ⟨_,rfl, .inl ⟨p,_,2, .str b,rfl,rfl,SqL.of hp7,at2,by show 3≤sizeLine;decide,fun tr H8 n8=>⟨by show 2≤sizeLine;decide,fun tq H9 n9=>q _ _ (s7.trans (n8.same.trans n9.same)) ⟨_,⟨tq,rfl,n9.at⟩,tr,rfl,n9.same _ _ n8.at⟩⟩⟩⟩
end
end Z
namespace Z
open PySem L2 PyProof.Rows
structure Jm (r:List V) (a:Str):Prop where
 k0:∃k:Str,atI r 0=some (.str k)∧(k = "jump" ∨ k = "zero")
 la:atI r (-1)=some (.str a)
 c1:¬(HT.sIx r.length 0 none=0∧HT.sIx r.length r.length (some (-1))=r.length)
 c2:cutV r none (some (-1))≠[]
 c3:(cutV r none (some (-1))).length≤3
 rs:∀kvs,resO kvs r=(valV kvs (.inr a)).map fun v=>cutV r none (some (-1))++[v]
structure Nj (r:List V):Prop where
 k0:∃k:Str,atI r 0=some (.str k)∧k ≠ "jump" ∧ k ≠ "zero"
 rs:∀kvs,resO kvs r=some r
theorem jm_jump (a:Str):Jm [.str "jump", .str a] a:=⟨⟨"jump",rfl, .inl rfl⟩,rfl,(by decide:¬(HT.sIx 2 0 none=0∧HT.sIx 2 2 (some (-1))=2)),(fun z=>nomatch z),by show 1≤3;decide,fun kvs=>by
 simp only [resO]
 rw [if_pos trivial];rfl⟩
theorem jm_zero (p a:Str):Jm [.str "zero", .str p, .str a] a:=⟨⟨"zero",rfl, .inr rfl⟩,rfl,(by decide:¬(HT.sIx 3 0 none=0∧HT.sIx 3 3 (some (-1))=3)),(fun z=>nomatch z),by show 2≤3;decide,fun kvs=>by
 simp only [resO]
 rw [if_pos trivial];rfl⟩
theorem at_zero (v:V) (r:List V):atI (v :: r) 0=some v:=at_nat (by simp) rfl
theorem sym_r {ws:List Str} {r:List V} (h:symO ws=some r):(∃a,Jm r a)∨Nj r:=by
 have nj1:∀{k:Str},k ≠ "jump" → k ≠ "zero" → Nj [.str k]:=fun h1 h2=>⟨⟨_,at_zero _ _,h1,h2⟩,fun kvs=>rfl⟩
 have nj2:∀{k a:Str},k ≠ "jump" → k ≠ "zero" → Nj [.str k, .str a]:=fun {k a} h1 h2=>⟨⟨_,at_zero _ _,h1,h2⟩,fun kvs=>by simp only [resO];rw [if_neg h1]⟩
 have nj3:∀{k a b:Str},k ≠ "jump" → k ≠ "zero" → Nj [.str k, .str a, .str b]:=fun {k a b} h1 h2=>⟨⟨_,at_zero _ _,h1,h2⟩,fun kvs=>by simp only [resO];rw [if_neg h2]⟩
 match ws with
 | []=>cases h
 | [k]=>
  simp only [symO] at h
  split at h
  case isTrue e=>cases h;subst e;exact .inr (nj1 (by decide) (by decide))
  case isFalse e=>cases h
 | [k,a]=>
  simp only [symO] at h
  split at h
  case isTrue e=>
   split at h
   case isTrue e2=>cases h;subst e;exact .inl ⟨a,jm_jump a⟩
   case isFalse e2=>cases h
  case isFalse e=>
   split at h
   case isTrue e2=>
    split at h
    case isTrue e3=>
     cases h
     refine .inr (nj2 e ?_)
     rcases e3 with rfl|rfl <;> decide
    case isFalse e3=>cases h
   case isFalse e2=>cases h
 | [k,a,b]=>
  simp only [symO] at h
  split at h
  case isTrue e=>cases h
  case isFalse e=>
   split at h
   case isFalse e2=>cases h
   case isTrue e2=>
    split at h
    case isTrue e3=>
     cases hb:numO b with
     | none=>rw [hb] at h;cases h
     | some n=>
      rw [hb] at h
      cases h
      subst e3
      exact .inr ⟨⟨_,at_zero _ _,by decide,by decide⟩,fun kvs=>rfl⟩
    case isFalse e3=>
     split at h
     case isTrue e4=>
      split at h
      case isTrue e5=>cases h;subst e4;exact .inl ⟨b,jm_zero a b⟩
      case isFalse e5=>cases h
     case isFalse e4=>
      split at h
      case isFalse e5=>cases h
      case isTrue e5=>
       split at h
       case isTrue e6=>cases h;exact .inr (nj3 e e4)
       case isFalse e6=>cases h
 | _ :: _ :: _ :: _ :: _=>cases h
theorem lb_nam {x y:Str} (h:lbO x=some y):namB y=true:=by
 unfold lbO at h
 split at h
 case isFalse e=>cases h
 case isTrue e=>cases h;rw [Bool.and_eq_true] at e;exact e.2
theorem lp_val (a:Str):∀(xs:List Str) (s:List (Key×V)×Nat),(valV (xs.foldl lpG s).1 (.inr a)).isSome=(decide (a∈xs.filterMap lbO)||(valV s.1 (.inr a)).isSome)
 | [],s=>by simp
 | x :: xs,s=>by
  rw [List.foldl_cons,lp_val a xs,List.filterMap_cons]
  unfold lpG
  cases h:lbO x with
  | none=>
   dsimp only
   split <;> rfl
  | some y=>
   dsimp only
   rw [valV_put]
   by_cases e:a=y
   ·subst e
    simp
   ·rw [if_neg (fun z=>e (by injection z))]
    simp [e]
theorem lp_known (a:Str) (xs:List Str):(valV (lpA xs).1 (.inr a)).isSome=decide (a∈xs.filterMap lbO):=by
 have:=lp_val a xs ([],0)
 rw [show (valV ([]:List (Key×V)) (.inr a)).isSome=false from rfl,Bool.or_false] at this
 exact this
theorem lp_namK (xs:List Str):NamK (lpA xs).1:=fun x h=>by
 rw [lp_known,decide_eq_true_iff,List.mem_filterMap] at h
 obtain ⟨z,_,e⟩:=h
 exact lb_nam e
def TolV (H:Hp) (x:Str) (v:V):Prop:=if x=⟨#[]⟩ then TupAt H v [.str "none", .str ⟨#[]⟩] else RtV H (lbO x) (symO (Txt.split x sBl)) v
theorem TolV.same {H H':Hp} {x:Str} {v:V} (h:TolV H x v) (s:Same H H'):TolV H' x v:=by
 unfold TolV at h ⊢
 split at h
 ·rename_i e;rw [if_pos e];exact TupAt.same h s
 ·rename_i e;rw [if_neg e];exact RtV.same h s
theorem TolV.cases {H:Hp} {x:Str} {v:V} (h:TolV H x v):(x=⟨#[]⟩∧lbO x=none∧TupAt H v [.str "none", .str ⟨#[]⟩])∨(∃y,x≠⟨#[]⟩∧lbO x=some y∧TupAt H v [.str "label", .str y])∨(∃r u,x≠⟨#[]⟩∧lbO x=none∧symO (Txt.split x sBl)=some r∧TupAt H v [.str "row",u]∧TupAt H u r)∨(x≠⟨#[]⟩∧lbO x=none∧symO (Txt.split x sBl)=none∧v = .non):=by
 unfold TolV at h
 split at h
 case isTrue e=>exact .inl ⟨e,by rw [e];decide +kernel,h⟩
 case isFalse e=>
  unfold RtV at h
  cases hb:lbO x with
  | some y=>rw [hb] at h;exact .inr (.inl ⟨y,e,rfl,h⟩)
  | none=>
   rw [hb] at h
   cases hs:symO (Txt.split x sBl) with
   | none=>rw [hs] at h;exact .inr (.inr (.inr ⟨e,rfl,rfl,h⟩))
   | some r=>
    rw [hs] at h
    obtain ⟨u,h1,h2⟩:=h
    exact .inr (.inr (.inl ⟨r,u,e,rfl,rfl,h1,h2⟩))
def Tols (H:Hp) (xs:List Str) (vs:List V):Prop:=vs.length=xs.length∧∀(j:Nat) x,xs[j]? = some x→∃v,vs[j]? = some v∧TolV H x v
theorem Tols.same {H H':Hp} {xs:List Str} {vs:List V} (h:Tols H xs vs) (s:Same H H'):Tols H' xs vs:=⟨h.1,fun j x e=>by
 obtain ⟨v,h1,h2⟩:=h.2 j x e
 exact ⟨v,h1,h2.same s⟩⟩
theorem Tols.snoc {H:Hp} {xs:List Str} {vs:List V} {x:Str} {v:V} (h:Tols H xs vs) (g:TolV H x v):Tols H (xs++[x]) (vs++[v]):=⟨by rw [List.length_append,List.length_append,h.1];rfl,fun i q e=>by
 by_cases hi:i<xs.length
 ·rw [List.getElem?_append_left hi] at e
  obtain ⟨p,h1,h2⟩:=h.2 i q e
  exact ⟨p,by rw [List.getElem?_append_left (by rw [h.1];exact hi)];exact h1,h2⟩
 ·rw [List.getElem?_append_right (by omega)] at e
  have:i-xs.length=0:=by have:=(List.getElem?_eq_some_iff.mp e).1;simp at this;omega
  rw [this] at e
  cases e
  exact ⟨v,by rw [List.getElem?_append_right (by rw [h.1];omega),h.1,this];rfl,g⟩⟩
section
variable {P:Program} {w:World} {K:PySem.W.Frag} {mg:Str→Option Value} {base:Heap} {f:Addr} {fd:FuncData}
theorem sc_law_read:FnScope ["_law_text", "_law_told", "_law_known", "_law_rows", "_law_places", "_law_number", "_law_one", "_law_found", "_law_row"] ["_law_text"] (defScope (top i_law_read)):=⟨rfl,rfl,rfl,by decide +kernel,rfl,by decide +kernel,by decide +kernel⟩
theorem ok_read (F:Fun K "_law_read" "_law_read" (top i_law_read) f fd) (T:Nm mg) (f_law_row_told:Fn P w K mg base 2 "_law_row_told" ["_law_words"] spRt):FnOk P w K mg base CX0 3 f fd ["_law_text"] (spRef K):=by
 refine F.ok sc_law_read (fun vs H Q E h => ?_) (fun cdv A outer s H vs Q E hr h => ?_)
 ·obtain ⟨t,rfl,_⟩:=h
  rfl
 obtain ⟨t,rfl,ha,tl,q⟩:=h
 have hu:=hu_of hr
 have hu6:=hr.units
 have az:=readA_az ha tl
 have small:∀{n:Nat},n≤10000000→n<sizeLine:=fun h=>Nat.lt_of_le_of_lt h (by decide)
 refine ⟨_,(pss_cons (ps_setcomp (i:=1) sc_law_read.nd rfl (Or.inl rfl) rfl (comp_ok (Nc:=["_law_row"]) (Fc:=[]) (js:=[])) (piK K (bmK K PySem.F.plainAttrs_str PySem.F.slot_str_split PySem.F.type_str_split splitN (pv 0) (pa_cons pe_str pa_nil))) (gk_name (i:=0) (n:=1) (by decide)) (fun _ _ _ _ _=>(pg_name (i:=0) (ndS ["_law_row"]) rfl (Or.inl rfl))) (fun _ _ _ _ _=>pts_nil) (fun _ _ _ _ _=>(pe_ifExp (pt_cmpR (neK K hu6) (pv 0) pe_str (nomark _)) (pe_fn (f_law_row_told.mono (by decide)) hr rfl (pa_cons (bmK K PySem.F.plainAttrs_str PySem.F.slot_str_split PySem.F.type_str_split splitN (pv 0) (pa_cons pe_str pa_nil)) pa_nil)) (tupN (pa_cons pe_str (pa_cons pe_str pa_nil))))))
  (pss_cons (ps_setcomp (i:=2) sc_law_read.nd rfl (Or.inl rfl) rfl (comp_ok (Nc:=["_law_one"]) (Fc:=[]) (js:=[])) (piK K (pv 1)) (gk_name (i:=0) (n:=1) (by decide)) (fun _ _ _ _ _=>(pg_name (i:=0) (ndS ["_law_one"]) rfl (Or.inl rfl))) (fun _ _ _ _ _=>(pts_one (PW.pt (pw_and (pt_cmpR g_isnot (pv 0) pe_non (nomark _)) (pw_and1 (pt_cmpR (eqK K hu6) (pe_ix (ixK K) (pv 0) pe_int (fun _ _=>rfl)) pe_str (nomark _))))))) (fun _ _ _ _ _=>(pe_ix (ixK K) (pv 0) pe_int (fun _ _=>rfl))))
  (pss_cons (ps_par (i:=3) (j:=4) rfl sc_law_read.nd rfl rfl (by decide) rfl rfl (pa_cons (lstN pa_nil) (pa_cons dnewN pa_nil)) rfl)
  (pss_cons (ps_for PassesOwn.never rfl (enumK K rfl T.n_enumerate (pa_cons (pv 1) pa_nil)) (tupK K 2 rfl (pgs_cons (pg_name (i:=5) sc_law_read.nd rfl (Or.inl rfl)) (pgs_cons (pg_name (i:=6) sc_law_read.nd rfl (Or.inl rfl)) pgs_nil))) (pss_cons (ps_if (PW.pt (pw_or (pt_cmpR g_is (pv 6) pe_non (nomark _)) (pw_or (PW.pt (pw_and (pt_cmpR (eqK K hu6) (pe_ix (ixK K) (pv 6) pe_int (fun _ _=>rfl)) pe_str (nomark _)) (pw_and1 (pt_cmp (pc_din hu (pe_ix (ixK K) (pv 6) pe_int (fun _ _=>rfl)) (pv 4)))))) (pw_or1 (PW.pt (pw_and (pt_cmpR (eqK K hu6) (pe_ix (ixK K) (pv 6) pe_int (fun _ _=>rfl)) pe_str (nomark _)) (pw_and1 (pt_cmpR (eqK K hu6) (pe_callB (lenK K) rfl T.n_len (by rfl) (pa_cons (pv 3) pa_nil)) pe_int (nomark _))))))))) (pss_one (ps_ret (tupN (pa_cons (pv 5) (pa_cons pe_non pa_nil))))) pss_nil)
  (pss_one (ps_if (pt_cmpR (eqK K hu6) (pe_ix (ixK K) (pv 6) pe_int (fun _ _=>rfl)) pe_str (nomark _)) (pss_cons (ps_if (PW.pt (pw_and (pt_cmpR (inK K) (pe_ix (ixK K) (pe_ix (ixK K) (pv 6) pe_int (fun _ _=>rfl)) pe_int (fun _ _=>rfl)) (tupN (pa_cons pe_str (pa_cons pe_str pa_nil))) (by with_unfolding_all rfl)) (pw_and1 (pt_cmpR (notInK K) (pe_ix (ixK K) (pe_ix (ixK K) (pv 6) pe_int (fun _ _=>rfl)) (pe_un un_neg pe_int) (fun _ _=>rfl)) (pv 2) (by with_unfolding_all rfl))))) (pss_one (ps_ret (tupN (pa_cons (pv 5) (pa_cons pe_non pa_nil))))) pss_nil)
  (pss_one (ps_expr (bmK K PySem.F.plainAttrs_list PySem.F.slot_list_append PySem.F.type_list_append appendN (pv 3) (pa_cons (pe_ix (ixK K) (pv 6) pe_int (fun _ _=>rfl)) pa_nil))))) (pss_one (ps_if (pt_cmpR (eqK K hu6) (pe_ix (ixK K) (pv 6) pe_int (fun _ _=>rfl)) pe_str (nomark _)) (pss_one (ps_dput hu (pv 4) (pe_ix (ixK K) (pv 6) pe_int (fun _ _=>rfl)) (pe_callB (lenK K) rfl T.n_len (by rfl) (pa_cons (pv 3) pa_nil)) rfl)) pss_nil))))))
  (pss_cons (ps_set (i:=7) sc_law_read.nd rfl (Or.inl rfl) (lstN pa_nil))
  (pss_cons (ps_for PassesOwn.never rfl (piK K (pv 3)) (pg_name (i:=8) sc_law_read.nd rfl (Or.inl rfl)) (pss_one (ps_expr (bmK K PySem.F.plainAttrs_list PySem.F.slot_list_append PySem.F.type_list_append appendN (pv 7) (pa_cons (pe_ifExp (pt_cmpR (inK K) (pe_ix (ixK K) (pv 8) pe_int (fun _ _=>rfl)) (tupN (pa_cons pe_str (pa_cons pe_str pa_nil))) (by with_unfolding_all rfl)) (pe_op (addT K) (pe_slice (slTN K) (pv 8) po_none (po_some (pe_un un_neg pe_int))) (tupN (pa_cons (pe_dget hu (pv 4) (pe_ix (ixK K) (pv 8) (pe_un un_neg pe_int) (fun _ _=>rfl)) (fun _ _=>rfl)) pa_nil))) (pv 8)) pa_nil)))))
  (pss_one (ps_ret (tupN (pa_cons pe_non (pa_cons (pv 7) pa_nil))))))))))),?_⟩
 have nlE:(Str.ofString "\n")=sNl:=by decide +kernel
 have blE:(Str.ofString " ")=sBl:=by decide +kernel
 have e0:(Str.ofString "")=(⟨#[]⟩:Str):=by decide +kernel
 obtain ⟨xs,hxs⟩:∃xs,xs=Txt.split t sNl:=⟨_,rfl⟩
 have cnt:xs.length≤t.length+1:=by rw [hxs];exact split_cnt t 10
 have oks:∀x∈xs,Asc x∧x.length≤9000000:=fun x hx=>by
  rw [hxs] at hx
  exact ⟨split_asc (c:=10) ha x hx,Nat.le_trans (split_len (c:=10) x hx) (by omega)⟩
 have hR:readA t=rdR (lpA xs).1 xs 0 ([],[]):=by rw [hxs];rfl
 have at1:∀{i:Nat} (hi:i<xs.length),(xs.map V.str)[i]? = some (.str xs[i]):=fun hi=>by rw [List.getElem?_map,List.getElem?_eq_getElem hi];rfl
 refine asgCut (te:=tComp _ _ _ _ _ _) (fun v H'=>∃(lt:Addr) (vs:List V),v = .ref lt∧Same H H'∧H' lt=some (.lst vs)∧Tols H' xs vs) (fun Qn qn => ?_) ?_
 ·refine ⟨_,rfl,rfl,_,_,rfl,rfl,by decide +kernel,by omega,by rw [nlE, ←hxs];omega,fun p1 H1 n1 => ?_⟩
  rw [nlE, ←hxs] at n1
  refine ⟨p1,rfl,⟨_,SqL.of n1.at⟩,?_⟩
  refine comp_go (N:=xs.length) (fun j ys H'=>Same H1 H'∧Tols H' (xs.take j) ys) ⟨Same.refl _,rfl,fun j x e=>by cases e⟩ ?_ ?_
  ·rintro j ys H2 Ny hj ⟨s2,tol⟩ ny
   refine ⟨⟨_,_,SqL.of (s2 _ _ n1.at),at1 hj⟩,small (by rw [tol.1,List.length_take];omega),?_⟩
   rintro x' H3 ⟨rfl,hy⟩
   have e:=hy _ (SqL.of (s2 _ _ n1.at))
   rw [at1 hj] at e;cases e
   have hok:=oks _ (List.getElem_mem hj)
   rw [take_next hj] at ny
   generalize xs[j]=x at hok ny hy
   refine gn ?_
   dsimp only [tYes]
   rw [if_pos rfl]
   refine ⟨_,rfl, .inl ⟨rfl,_,rfl,?_⟩⟩
   by_cases hx:x=⟨#[]⟩
   ·rw [decide_eq_true (by rw [hx,e0])]
    refine iteF ⟨by show 2≤sizeLine;decide,fun tp H4 n4=>ny _ _ ⟨s2.trans n4.same,(tol.same n4.same).snoc ?_⟩⟩
    unfold TolV
    rw [if_pos hx]
    exact ⟨tp,rfl,by rw [n4.at,e0]⟩
   ·rw [decide_eq_false (fun z=>hx (by injection z))]
    have cnt2:(Txt.split x sBl).length≤x.length+1:=split_cnt x 32
    refine iteT ⟨_,rfl,rfl,_,_,rfl,rfl,by decide +kernel,by omega,by rw [blE];omega,fun p4 H4 n4 => ?_⟩
    rw [blE] at n4
    refine ⟨p4,_,rfl,n4.at,?_,by omega,fun y hy'=>⟨split_asc (c:=32) hok.1 y hy',Nat.le_trans (split_len (c:=32) y hy') hok.2⟩,fun v H5 s5 hv=>ny _ _ ⟨s2.trans (n4.same.trans s5),(tol.same (n4.same.trans s5)).snoc ?_⟩⟩
    ·intro hs
     have e:=split_join' x 32
     rw [show (⟨#[32]⟩:Str)=sBl from rfl,hs] at e
     exact hx (str_eq' e.symm)
    ·unfold TolV
     rw [if_neg hx]
     rw [lb_words (by omega)] at hv
     exact hv
  ·rintro ys H2 ⟨s2,tol⟩
   rw [List.take_length] at tol
   exact ⟨⟨_,SqL.of (s2 _ _ n1.at),by rw [List.length_map];exact Nat.le_refl _⟩,fun pv hp=>qn _ _ ⟨pv,_,rfl,n1.same.trans (s2.trans (same_new hp _)),upd_same,tol.same (same_new hp _)⟩⟩
 rintro v H1 ⟨lt,vs,rfl,s1,hlt,tol⟩
 refine gn ?_
 have tat:∀{Hx:Hp} {i:Nat} (hi:i<xs.length),Same H1 Hx→∃v,vs[i]? = some v∧TolV Hx xs[i] v:=fun hi sx=>by
  obtain ⟨v,h1,h2⟩:=tol.2 _ _ (List.getElem?_eq_getElem hi)
  exact ⟨v,h1,h2.same sx⟩
 refine asgCut (te:=tComp _ _ _ _ _ _) (fun v H'=>∃lk:Addr,v = .ref lk∧Same H1 H'∧H' lk=some (.lst ((xs.filterMap lbO).map V.str))) (fun Qn qn => ?_) ?_
 ·refine ⟨_,rfl,lt,rfl,⟨_,SqL.of hlt⟩,?_⟩
  refine comp_go (N:=xs.length) (fun j ys H'=>Same H1 H'∧ys=((xs.take j).filterMap lbO).map V.str) ⟨Same.refl _,rfl⟩ ?_ ?_
  ·rintro j ys H2 Ny hj ⟨s2,rfl⟩ ny
   obtain ⟨v,h1,h2⟩:=tat hj s2
   have fl:((xs.take j).filterMap lbO).length≤j:=Nat.le_trans (List.length_filterMap_le _ _) (by rw [List.length_take];omega)
   refine ⟨⟨_,_,SqL.of (s2 _ _ hlt),h1⟩,small (by rw [List.length_map];omega),?_⟩
   rintro x' H3 ⟨rfl,hy⟩
   have e:=hy _ (SqL.of (s2 _ _ hlt))
   rw [h1] at e;cases e
   rw [take_next hj,List.filterMap_append,List.map_append] at ny
   generalize xs[j]=x at h2 ny
   refine gn ?_
   have skip:lbO x=none→List.map V.str (List.filterMap lbO [x])=[]:=fun h=>by rw [List.filterMap_cons,h];rfl
   rcases h2.cases with ⟨_,hb,p,rfl,ht⟩|⟨y,_,hb,p,rfl,ht⟩|⟨r,u,_,hb,_,⟨p,rfl,ht⟩,_⟩|⟨_,hb,_,rfl⟩
   ·rw [skip hb,List.append_nil] at ny
    refine ⟨_,rfl, .inl ⟨rfl,_,rfl,iteT ⟨_,rfl, .inr (.inl ⟨p,_,0,_,rfl,rfl,SqT.of ht,at_zero _ _, .inl ⟨rfl,_,rfl,?_⟩⟩)⟩⟩⟩
    first|exact iteF (ny _ _ ⟨s2,rfl⟩)|exact iteF (iteF (ny _ _ ⟨s2,rfl⟩))
   ·have ey:List.map V.str (List.filterMap lbO [x])=[.str y]:=by rw [List.filterMap_cons,hb];rfl
    rw [ey] at ny
    refine ⟨_,rfl, .inl ⟨rfl,_,rfl,iteT ⟨_,rfl, .inr (.inl ⟨p,_,0,_,rfl,rfl,SqT.of ht,at_zero _ _, .inl ⟨rfl,_,rfl,iteT ⟨_,rfl, .inr (.inl ⟨p,_,1,_,rfl,rfl,SqT.of ht,at_nat (by decide) rfl,ny _ _ ⟨s2,rfl⟩⟩)⟩⟩⟩)⟩⟩⟩
   ·rw [skip hb,List.append_nil] at ny
    refine ⟨_,rfl, .inl ⟨rfl,_,rfl,iteT ⟨_,rfl, .inr (.inl ⟨p,_,0,_,rfl,rfl,SqT.of ht,at_zero _ _, .inl ⟨rfl,_,rfl,?_⟩⟩)⟩⟩⟩
    first|exact iteF (ny _ _ ⟨s2,rfl⟩)|exact iteF (iteF (ny _ _ ⟨s2,rfl⟩))
   ·rw [skip hb,List.append_nil] at ny
    refine ⟨_,rfl, .inl ⟨rfl,_,rfl,iteF (iteF (ny _ _ ⟨s2,rfl⟩))⟩⟩
  ·rintro ys H2 ⟨s2,rfl⟩
   rw [List.take_length]
   exact ⟨⟨_,SqL.of (s2 _ _ hlt),by rw [tol.1];exact Nat.le_refl _⟩,fun pv hp=>qn _ _ ⟨pv,rfl,s2.trans (same_new hp _),upd_same⟩⟩
 rintro v H2 ⟨lk,rfl,s2,hlk⟩
 refine gn ?_
 refine ⟨by show 0≤sizeLine;decide,fun rl H3 n3 d H4 n4=>⟨_,_,rfl,?_⟩⟩
 have hl3:H2 rl=none:=n3.nn
 have hd3:H2 d=none:=n3.back n4.nn
 have nrd:rl≠d:=fun z=>by have:=n4.nn;rw [←z,n3.at] at this;cases this
 have s4:Same H2 H4:=n3.same.trans n4.same
 rw [show (List.set _ _ _:L2.St)=[some (.str t),some (.ref lt),some (.ref lk),some (.ref rl),some (.ref d),none,none,none,none] from rfl]
 have h02:Same H H2:=s1.trans s2
 have namK:=lp_namK xs
 have known:=fun a=>lp_known a xs
 have hlt2:=s2 _ _ hlt
 obtain ⟨kvs,hkvs⟩:∃kvs,kvs=(lpA xs).1:=⟨_,rfl⟩
 rw [←hkvs] at hR namK known
 dsimp only
 refine seqCut (t:=tFor _ _ _) (fun σ H'=>Ex5 fun (x5 x6:Option V) (us:List V) (rs rows:List (List V)) => σ=[some (.str t),some (.ref lt),some (.ref lk),some (.ref rl),some (.ref d),x5,x6,none,none]∧Same H2 H'∧H' rl=some (.lst us)∧TupV H' rs us∧H' d=some (.dK kvs)∧rs.map (resO kvs)=rows.map some∧(∀r∈rs,∃ws,symO ws=some r)∧rs.length≤10000000∧readA t = .inr rows) (fun Nx nx => ?_) ?_
 ·refine ⟨_,rfl,lt,rfl,⟨_,SqL.of (s4 _ _ hlt2)⟩,?_⟩
  refine for_go (N:=xs.length) (fun i σ H'=>Ex6 fun (x5 x6:Option V) (us:List V) (rs:List (List V)) (labs:List Str) (rows:List (List V)) => σ=[some (.str t),some (.ref lt),some (.ref lk),some (.ref rl),some (.ref d),x5,x6,none,none]∧Same H2 H'∧H' rl=some (.lst us)∧TupV H' rs us∧H' d=some (.dK (lpA (xs.take i)).1)∧rs.length=(lpA (xs.take i)).2∧rs.map (resO kvs)=rows.map some∧(∀r∈rs,∃ws,symO ws=some r)∧(∀y,y∈labs ↔ (valV (lpA (xs.take i)).1 (.inr y)).isSome=true)∧rs.length≤i∧readA t=rdR kvs (xs.drop i) i (labs,rows)) ⟨_,_,[],[],[],[],rfl,s4,n4.same _ _ n3.at,⟨rfl,fun i r e=>by cases e⟩,n4.at,rfl,rfl,(fun r h=>nomatch h),fun y=>⟨(fun h=>nomatch h),(fun h=>nomatch h)⟩,Nat.le_refl _,hR⟩ ?_ ?_
  ·intro i σ H5 hi
   refine Elim.go ?_
   rintro x5 x6 us rs labs rows rfl s5 hr5 tu hd5 rl5 rm5 sy5 lb5 rn5 eR
   obtain ⟨v,h1,h2⟩:=tat hi (s2.trans s5)
   refine ⟨⟨_,_,SqL.of (s5 _ _ hlt2),h1⟩,?_⟩
   rintro y H6 ⟨T',rfl,hT,hy⟩
   have e:=hy _ _ (SqL.of (s5 _ _ hlt2)) h1
   have n6:New H5 T' (.tup [.int i,v]) H6:=⟨hT,e⟩
   have s6:=s5.trans n6.same
   have hr6:=n6.same _ _ hr5
   have hd6:=n6.same _ _ hd5
   have hk6:=s6 _ _ hlk
   have tu6:=tu.tp (TP.same n6.same)
   have h2':=h2.same n6.same
   clear h2
   refine ⟨T',_,rfl,SqT.of n6.at,rfl,_,_,rfl,_,_,rfl,rfl,?_⟩
   rw [List.drop_eq_getElem_cons hi,rdR] at eR
   have htk:=lpA_snoc (xs.take i) xs[i]
   rw [←take_next hi] at htk
   rw [htk]
   have hl1:=(lpA_le (xs.take i) ([],0)).1
   have hl:(lpA (xs.take i)).1.length≤9000000:=Nat.le_trans hl1 (by rw [List.length_take];show 0+min i xs.length≤9000000;omega)
   clear htk hl1 hy
   generalize lpA (xs.take i)=st at hd6 hl rl5 lb5 hd5
   generalize xs[i]=x at eR h2'
   have rwl:rows.length=rs.length:=by have:=congrArg List.length rm5;simpa using this.symm
   have bad:rdS kvs (labs,rows) x=none→∀{Hx:Hp} {tp:Addr},Same H2 Hx→Hx tp=some (.tup [.int (i:Nat), .non])→Q (.ref tp) Hx:=fun hn {Hx tp} sx ht=>by
    rw [hn] at eR
    refine q _ _ (h02.trans sx) ?_
    rw [eR]
    exact dtupN ht (dscons dint (dscons (by unfold Den;rfl) dsnil))
   have eS:rdS kvs (labs,rows) x=match lbO x with
    | some y=>if y∈labs then none else some (labs++[y],rows)
    | none=>if x=⟨#[]⟩ then some (labs,rows) else match rowO kvs x with
     | none=>none
     | some r=>if rows.length=200 then none else some (labs,rows++[r]):=rfl
   refine gn ?_
   rcases h2'.cases with ⟨hx,hb,p,rfl,ht⟩|⟨y,hx,hb,p,rfl,ht⟩|⟨r,u,hx,hb,hsy,⟨p,rfl,ht⟩,⟨pr,rfl,hpr⟩⟩|⟨hx,hb,hsy,rfl⟩
   ·rw [hb,if_pos hx] at eS
    rw [eS] at eR
    have i0:∀{Hx:Hp},Same H6 Hx→SqT K Hx p [.str "none", .str ⟨#[]⟩]:=fun sx=>SqT.of (sx _ _ ht)
    have lg:lpG st x=st:=by unfold lpG;rw [hb];dsimp only;rw [if_pos hx]
    rw [lg]
    refine genS fun D1 h1 r1 => ?_
    refine ⟨_,rfl, .inl ⟨rfl,_,rfl,iteF ?_⟩⟩
    refine ⟨_,rfl, .inr (.inl ⟨p,_,0,_,rfl,rfl,SqT.of ht,at_zero _ _, .inl ⟨rfl,_,rfl,iteF (iteF ?_)⟩⟩)⟩
    refine ⟨_,rfl, .inr (.inl ⟨p,_,0,_,rfl,rfl,SqT.of ht,at_zero _ _, .inl ⟨rfl,_,rfl,iteF (iteF ?_)⟩⟩)⟩
    refine h1 _ _ ?_
    dsimp only
    clear r1 h1 D1
    refine genS fun D2 h2 r2 => ?_
    refine ⟨_,rfl, .inr (.inl ⟨p,_,0,_,rfl,rfl,SqT.of ht,at_zero _ _, .inl ⟨rfl,_,rfl,iteF ?_⟩⟩)⟩
    refine ⟨_,rfl, .inr (.inl ⟨p,_,0,_,rfl,rfl,SqT.of ht,at_zero _ _, .inl ⟨rfl,_,rfl,iteF ?_⟩⟩)⟩
    exact h2 _ _ ⟨_,_,us,rs,labs,rows,rfl,s6,hr6,tu6,hd6,rl5,rm5,sy5,lb5,by omega,eR⟩
   ·rw [hb] at eS
    dsimp only at eS
    have lg:lpG st x=(putK st.1 (.inr y) (.int (st.2:Nat)),st.2):=by unfold lpG;rw [hb]
    rw [lg]
    refine genS fun D1 h1 r1 => ?_
    have a1:atI [V.str (Str.ofString "label"),V.str y] 1=some (.str y):=at_nat (by decide) rfl
    refine ⟨_,rfl, .inl ⟨rfl,_,rfl,iteF ?_⟩⟩
    refine ⟨_,rfl, .inr (.inl ⟨p,_,0,_,rfl,rfl,SqT.of ht,at_zero _ _, .inl ⟨rfl,_,rfl,iteT ?_⟩⟩)⟩
    refine ⟨_,rfl, .inr (.inl ⟨p,_,1,_,rfl,rfl,SqT.of ht,a1,_,rfl,d,_,rfl,DGet.k (k := .inr y) hd6,_,rfl,?_⟩)⟩
    by_cases hm:y∈labs
    ·rw [if_pos hm] at eS
     rw [(lb5 y).mp hm]
     exact iteT (iteT ⟨_,rfl,by show 2≤sizeLine;decide,fun tp H7 n7=>r1 _ _ (bad eS (s6.trans n7.same) n7.at)⟩)
    ·rw [if_neg hm] at eS
     rw [eS] at eR
     rw [Bool.eq_false_iff.mpr (fun z=>hm ((lb5 y).mpr z))]
     refine iteF ?_
     refine ⟨_,rfl, .inr (.inl ⟨p,_,0,_,rfl,rfl,SqT.of ht,at_zero _ _, .inl ⟨rfl,_,rfl,iteF (iteF ?_)⟩⟩)⟩
     refine h1 _ _ ?_
     dsimp only
     clear r1 h1 D1
     refine genS fun D2 h2 r2 => ?_
     refine ⟨_,rfl, .inr (.inl ⟨p,_,0,_,rfl,rfl,SqT.of ht,at_zero _ _, .inl ⟨rfl,_,rfl,iteF ?_⟩⟩)⟩
     refine ⟨_,rfl, .inr (.inl ⟨p,_,0,_,rfl,rfl,SqT.of ht,at_zero _ _, .inl ⟨rfl,_,rfl,iteT ?_⟩⟩)⟩
     refine ⟨_,rfl,_,_,rfl, .inl ⟨_,SqL.of hr6,rfl⟩,_,rfl,_,rfl, .inr (.inl ⟨p,_,1,_,rfl,rfl,SqT.of ht,a1,d,_,rfl,DPut.k (k:=Sum.inr y) hd6 (small (by omega)),?_⟩)⟩
     have el:V.int (us.length:Nat)=V.int (st.2:Nat):=by rw [tu6.1,rl5]
     rw [el]
     refine h2 _ _ ⟨_,_,us,rs,labs++[y],rows,rfl,fun b o e => ?_,by rw [upd_ne nrd];exact hr6,?_,upd_same,rl5,rm5,sy5,fun z => ?_,by omega,eR⟩
     ·rw [upd_ne (ne_of_none e hd3)];exact s6 b o e
     ·refine tu6.tp fun a us e => ?_
      rw [upd_ne (fun z=>by rw [z,hd6] at e;cases e)];exact e
     ·rw [valV_put,List.mem_append,List.mem_singleton,lb5 z]
      by_cases ez:z=y
      ·subst ez
       rw [if_pos rfl];simp
      ·rw [if_neg (fun e=>ez (by injection e))]
       exact ⟨fun h=>h.elim id fun e=>absurd e ez, .inl⟩
   ·rw [hb,if_neg hx] at eS
    have lg:lpG st x=(st.1,st.2+1):=by unfold lpG;rw [hb];dsimp only;rw [if_neg hx]
    rw [lg]
    refine genS fun D1 h1 r1 => ?_
    have ro:=row_sym namK x
    rw [hsy] at ro
    have ro:rowO kvs x=resO kvs r:=ro
    rw [ro] at eS
    have a1:atI [V.str (Str.ofString "row"),V.ref pr] 1=some (.ref pr):=at_nat (by decide) rfl
    refine ⟨_,rfl, .inl ⟨rfl,_,rfl,iteF ?_⟩⟩
    refine ⟨_,rfl, .inr (.inl ⟨p,_,0,_,rfl,rfl,SqT.of ht,at_zero _ _, .inl ⟨rfl,_,rfl,iteF (iteF ?_)⟩⟩)⟩
    refine ⟨_,rfl, .inr (.inl ⟨p,_,0,_,rfl,rfl,SqT.of ht,at_zero _ _, .inl ⟨rfl,_,rfl,iteT ?_⟩⟩)⟩
    refine ⟨_,rfl,_,_,rfl, .inl ⟨_,SqL.of hr6,rfl⟩, .inl ⟨rfl,_,rfl,?_⟩⟩
    by_cases h200:rs.length=200
    ·rw [decide_eq_true (show V.int (us.length:Nat)=V.int 200 by rw [tu6.1,h200];rfl)]
     have eN:rdS kvs (labs,rows) x=none:=by
      rw [eS]
      cases resO kvs r with
      | none=>rfl
      | some r'=>exact if_pos (by omega)
     exact iteT ⟨_,rfl,by show 2≤sizeLine;decide,fun tp H7 n7=>r1 _ _ (bad eN (s6.trans n7.same) n7.at)⟩
    rw [decide_eq_false (show ¬V.int (us.length:Nat)=V.int 200 from fun z=>by injection z with z;rw [tu6.1] at z;omega)]
    refine iteF ?_
    refine h1 _ _ ?_
    dsimp only
    clear r1 h1 D1
    refine genS fun D2 h2 r2 => ?_
    refine ⟨_,rfl, .inr (.inl ⟨p,_,0,_,rfl,rfl,SqT.of ht,at_zero _ _, .inl ⟨rfl,_,rfl,iteT ?_⟩⟩)⟩
    have iv2:∀x,inV (.str x) [V.str (Str.ofString "jump"),V.str (Str.ofString "zero")]=decide (x∈([Str.ofString "jump",Str.ofString "zero"]:List Str)):=fun x=>(inV_str [Str.ofString "jump",Str.ofString "zero"] x).trans (List.contains_eq_mem _ _)
    have app:∀{Hx:Hp} {r':List V},Same H6 Hx→resO kvs r=some r'→∀H7,Chg Hx rl (.lst (us++[.ref pr])) H7→Ex6 fun (x5 x6:Option V) (us:List V) (rs:List (List V)) (labs:List Str) (rows:List (List V))=>[some (V.str t),some (V.ref lt),some (V.ref lk),some (V.ref rl),some (V.ref d),some (V.int (i:Nat)),some (V.ref p),none,none]=[some (.str t),some (.ref lt),some (.ref lk),some (.ref rl),some (.ref d),x5,x6,none,none]∧Same H2 H7∧H7 rl=some (.lst us)∧TupV H7 rs us∧H7 d=some (.dK st.1)∧rs.length=st.2+1∧rs.map (resO kvs)=rows.map some∧(∀r∈rs,∃ws,symO ws=some r)∧(∀y,y∈labs ↔ (valV st.1 (.inr y)).isSome=true)∧rs.length≤i+1∧readA t=rdR kvs (xs.drop (i+1)) (i+1) (labs,rows):=fun {Hx r'} sx er H7 c7=>by
     rw [er] at eS
     dsimp only at eS
     rw [if_neg (by omega)] at eS
     rw [eS] at eR
     have tp:=TP.chg (sx _ _ hr6) c7
     refine ⟨_,_,us++[.ref pr],rs++[r],labs,rows++[r'],rfl,fun b o e => ?_,c7.at,((tu6.tp (TP.same sx)).snoc (sx _ _ hpr)).tp tp,?_,?_,?_,?_,lb5,?_,eR⟩
     ·rw [c7.ne (ne_of_none e hl3)];exact sx _ _ (s6 b o e)
     ·rw [c7.ne nrd.symm];exact sx _ _ hd6
     ·rw [List.length_append];show rs.length+1=_;omega
     ·rw [List.map_append,List.map_append,rm5];show _++[resO kvs r]=_;rw [er];rfl
     ·intro z hz
      rcases List.mem_append.mp hz with hz|hz
      ·exact sy5 z hz
      ·rw [List.mem_singleton.mp hz];exact ⟨_,hsy⟩
     ·rw [List.length_append];show rs.length+1≤_;omega
    have usl:us.length<sizeLine:=small (by rw [tu6.1];omega)
    rcases sym_r hsy with ⟨a,jm⟩|nj
    ·obtain ⟨k,hk0,hkj⟩:=jm.k0
     refine ⟨_,rfl, .inr (.inl ⟨p,_,1,_,rfl,rfl,SqT.of ht,a1, .inr (.inl ⟨pr,_,0,_,rfl,rfl,SqT.of hpr,hk0,by show 2≤sizeLine;decide,fun tp H7 n7=>⟨tp,_,rfl, .inr (SqT.of n7.at),rfl,rfl,_,rfl,?_⟩⟩)⟩)⟩
     rw [if_neg (show ¬(false=true) from fun z=>nomatch z),iv2,decide_eq_true (by simpa using hkj)]
     refine iteT ⟨_,rfl, .inr (.inl ⟨p,_,1,_,rfl,rfl,SqT.of (n7.same _ _ ht),a1,_,rfl, .inr (.inl ⟨pr,_, -1,_,rfl,rfl,SqT.of (n7.same _ _ hpr),jm.la,_,rfl,lk,_,rfl, .inl (SqL.of (n7.same _ _ hk6)),rfl,flat_strs _,_,rfl,?_⟩)⟩)⟩
     rw [if_pos rfl,inV_str,List.contains_eq_mem, ←known a]
     have rsr:=jm.rs kvs
     cases hv:valV kvs (.inr a) with
     | none=>
      rw [hv] at rsr
      rw [rsr] at eS
      exact iteT ⟨_,rfl,by show 2≤sizeLine;decide,fun tp H8 n8=>r2 _ _ (bad eS (s6.trans (n7.same.trans n8.same)) n8.at)⟩
     | some v=>
      rw [hv] at rsr
      exact iteF ⟨_,rfl, .inl ⟨rfl,_,SqL.of (n7.same _ _ hr6)⟩,_,rfl, .inr (.inl ⟨p,_,1,_,rfl,rfl,SqT.of (n7.same _ _ ht),a1,rl,us,_,rfl,rfl,n7.same _ _ hr6,usl,fun H8 c8=>h2 _ _ (app n7.same rsr H8 c8)⟩)⟩
    ·obtain ⟨k,hk0,hk1,hk2⟩:=nj.k0
     refine ⟨_,rfl, .inr (.inl ⟨p,_,1,_,rfl,rfl,SqT.of ht,a1, .inr (.inl ⟨pr,_,0,_,rfl,rfl,SqT.of hpr,hk0,by show 2≤sizeLine;decide,fun tp H7 n7=>⟨tp,_,rfl, .inr (SqT.of n7.at),rfl,rfl,_,rfl,?_⟩⟩)⟩)⟩
     rw [if_neg (show ¬(false=true) from fun z=>nomatch z),iv2,decide_eq_false (fun z=>by simp at z;exact z.elim hk1 hk2)]
     exact iteF (iteF ⟨_,rfl, .inl ⟨rfl,_,SqL.of (n7.same _ _ hr6)⟩,_,rfl, .inr (.inl ⟨p,_,1,_,rfl,rfl,SqT.of (n7.same _ _ ht),a1,rl,us,_,rfl,rfl,n7.same _ _ hr6,usl,fun H8 c8=>h2 _ _ (app n7.same (nj.rs kvs) H8 c8)⟩)⟩)
   ·rw [hb,if_neg hx] at eS
    have ro:=row_sym namK x
    rw [hsy] at ro
    have ro:rowO kvs x=none:=ro
    rw [ro] at eS
    refine genS fun D1 h1 r1 => ?_
    exact ⟨_,rfl, .inl ⟨rfl,_,rfl,iteT (iteT ⟨_,rfl,by show 2≤sizeLine;decide,fun tp H7 n7=>r1 _ _ (bad eS (s6.trans n7.same) n7.at)⟩)⟩⟩
  ·intro σ H5
   refine Elim.go ?_
   rintro x5 x6 us rs labs rows rfl s5 hr5 tu hd5 rl5 rm5 sy5 lb5 rn5 eR
   rw [List.drop_length] at eR
   rw [List.take_length, ←hkvs] at hd5
   exact ⟨⟨_,SqL.of (s5 _ _ hlt2),by rw [tol.1];exact Nat.le_refl _⟩,nx _ _ ⟨x5,x6,us,rs,rows,rfl,s5,hr5,tu,hd5,rm5,sy5,by omega,eR⟩⟩
 intro σ H5
 refine Elim.go ?_
 rintro x5 x6 us rs rows rfl s5 hr5 tu hd5 rm5 sy5 rn5 eR
 have rwl:rows.length=rs.length:=by have:=congrArg List.length rm5;simpa using this.symm
 have rat:∀{i:Nat} (hi:i<rs.length),∃rp:Addr,us[i]? = some (V.ref rp)∧H5 rp=some (.tup rs[i]):=fun hi=>tu.2 _ _ (List.getElem?_eq_getElem hi)
 have rrs:∀{i:Nat} (hi:i<rs.length),resO kvs rs[i]=some (rows[i]'(by omega)):=fun {i} hi=>by
  have:=congrArg (·[i]?) rm5
  simp only [List.getElem?_map,List.getElem?_eq_getElem hi,List.getElem?_eq_getElem (show i<rows.length by omega),Option.map_some] at this
  injection this
 refine ⟨by show 0≤sizeLine;decide,fun fl H6 n6=>gn ?_⟩
 dsimp only
 refine seqCut (t:=tFor _ _ _) (fun σ H'=>Ex2 fun (x8:Option V) (us2:List V) => σ=[some (.str t),some (.ref lt),some (.ref lk),some (.ref rl),some (.ref d),x5,x6,some (.ref fl),x8]∧Same H5 H'∧H' fl=some (.lst us2)∧TupV H' rows us2) (fun Nx nx => ?_) ?_
 ·refine ⟨_,rfl,rl,rfl,⟨_,SqL.of (n6.same _ _ hr5)⟩,?_⟩
  refine for_go (N:=rs.length) (fun i σ H'=>Ex2 fun (x8:Option V) (us2:List V) => σ=[some (.str t),some (.ref lt),some (.ref lk),some (.ref rl),some (.ref d),x5,x6,some (.ref fl),x8]∧Same H5 H'∧H' fl=some (.lst us2)∧TupV H' (rows.take i) us2) ⟨_,[],rfl,n6.same,n6.at,rfl,fun i r e=>by cases e⟩ ?_ ?_
  ·intro i σ H7 hi
   refine Elim.go ?_
   rintro x8 us2 rfl s7 hf7 tu7
   obtain ⟨rp,h1,h2⟩:=rat hi
   have hres:=rrs hi
   refine ⟨⟨_,_,SqL.of (s7 _ _ hr5),h1⟩,?_⟩
   rintro y H8 ⟨rfl,hy⟩
   have e:=hy _ (SqL.of (s7 _ _ hr5))
   rw [h1] at e;cases e
   have h2:=s7 _ _ h2
   have u2l:us2.length<sizeLine:=small (by rw [tu7.1,List.length_take];omega)
   obtain ⟨ws,hsy⟩:=sy5 _ (List.getElem_mem hi)
   generalize rs[i]=r at h2 hres hsy
   have app:∀{Hx Hy:Hp} {rq:Addr},Same H8 Hx→Hx rq=some (.tup (rows[i]'(by omega)))→Chg Hx fl (.lst (us2++[.ref rq])) Hy→Same H5 Hy∧Hy fl=some (.lst (us2++[.ref rq]))∧TupV Hy (rows.take (i+1)) (us2++[.ref rq]):=fun {Hx Hy rq} sx hq c=>by
    refine ⟨fun b o e => ?_,c.at,?_⟩
    ·rw [c.ne (ne_of_none e n6.nn)];exact sx _ _ (s7 b o e)
    ·rw [take_next (by omega)]
     exact ((tu7.tp (TP.same sx)).snoc hq).tp (TP.chg (sx _ _ hf7) c)
   have iv2:∀x,inV (.str x) [V.str (Str.ofString "jump"),V.str (Str.ofString "zero")]=decide (x∈([Str.ofString "jump",Str.ofString "zero"]:List Str)):=fun x=>(inV_str [Str.ofString "jump",Str.ofString "zero"] x).trans (List.contains_eq_mem _ _)
   refine gn ⟨_,rfl, .inl ⟨rfl,_,SqL.of hf7⟩,?_⟩
   rcases sym_r hsy with ⟨a,jm⟩|nj
   ·obtain ⟨k,hk0,hkj⟩:=jm.k0
    rw [jm.rs kvs] at hres
    refine ⟨_,rfl, .inr (.inl ⟨rp,_,0,_,rfl,rfl,SqT.of h2,hk0,by show 2≤sizeLine;decide,fun tp H9 n9=>⟨tp,_,rfl, .inr (SqT.of n9.at),rfl,rfl,_,rfl,?_⟩⟩)⟩
    rw [if_neg (show ¬(false=true) from fun z=>nomatch z),iv2,decide_eq_true (by simpa using hkj)]
    cases hv:valV kvs (.inr a) with
    | none=>rw [hv] at hres;cases hres
    | some v=>
     rw [hv] at hres
     injection hres with hres
     refine iteT ⟨_,rfl,_,rfl,_,rfl,rp,_,rfl,SqT.of (n9.same _ _ h2),jm.c1,fun cp Ha na => ?_⟩
     have sa:=n9.same.trans na.same
     have gd:=DGet.k (k := .inr a) (sa _ _ (s7 _ _ hd5))
     rw [hv] at gd
     have c3:=jm.c3
     refine ⟨_,rfl,_,rfl,_,rfl, .inr (.inl ⟨rp,_, -1,_,rfl,rfl,SqT.of (sa _ _ h2),jm.la,d,_,rfl,gd,by show 1≤sizeLine;decide,fun tq Hb nb=>⟨cp,tq,_,_,rfl,rfl,SqT.of (nb.same _ _ na.at),SqT.of nb.at,?_,jm.c2,(fun z=>nomatch z),fun _ rq Hc nc => ?_⟩⟩)⟩
     ·show _+1≤100000
      omega
     ·have sc:=sa.trans (nb.same.trans nc.same)
      refine ⟨fl,us2,_,rfl,rfl,sc _ _ hf7,u2l,fun Hd cd=>⟨_,_,rfl,app sc (by rw [nc.at, ←hres]) cd⟩⟩
   ·obtain ⟨k,hk0,hk1,hk2⟩:=nj.k0
    rw [nj.rs kvs] at hres
    injection hres with hres
    refine ⟨_,rfl, .inr (.inl ⟨rp,_,0,_,rfl,rfl,SqT.of h2,hk0,by show 2≤sizeLine;decide,fun tp H9 n9=>⟨tp,_,rfl, .inr (SqT.of n9.at),rfl,rfl,_,rfl,?_⟩⟩)⟩
    rw [if_neg (show ¬(false=true) from fun z=>nomatch z),iv2,decide_eq_false (fun z=>by simp at z;exact z.elim hk1 hk2)]
    refine iteF ⟨_,rfl,fl,us2,_,rfl,rfl,n9.same _ _ hf7,u2l,fun Hd cd=>⟨_,_,rfl,app n9.same (by rw [←hres];exact n9.same _ _ h2) cd⟩⟩
  ·intro σ H7
   refine Elim.go ?_
   rintro x8 us2 rfl s7 hf7 tu7
   rw [←rwl,List.take_length] at tu7
   exact ⟨⟨_,SqL.of (s7 _ _ hr5),by rw [tu.1];exact Nat.le_refl _⟩,nx _ _ ⟨x8,us2,rfl,s7,hf7,tu7⟩⟩
 intro σ H7
 refine Elim.go ?_
 rintro x8 us2 rfl s7 hf7 tu7
 refine ⟨_,rfl,by show 2≤sizeLine;decide,fun tp H8 n8=>q _ _ (h02.trans (s5.trans (s7.trans n8.same))) ?_⟩
 rw [eR] at az ⊢
 exact dtupN n8.at (dscons (by unfold Den;rfl) (dscons (dlstN (n8.same _ _ hf7) ((tu7.tp (TP.same n8.same)).dens az.2)) dsnil))
end
end Z
namespace Z
open PySem L2 PyProof.Rows
noncomputable def rowsOf (ls:List Ln):List Rw:=ls.filterMap fun l=>match l with
 | .rw r=>some r
 | _=>none
noncomputable def lbsOf (ls:List Ln):List Str:=ls.filterMap fun l=>match l with
 | .lb x=>some x
 | _=>none
theorem rowsOf_app (A C:List Ln):rowsOf (A++C)=rowsOf A++rowsOf C:=List.filterMap_append
theorem lbsOf_app (A C:List Ln):lbsOf (A++C)=lbsOf A++lbsOf C:=List.filterMap_append
structure Sheet (L:Nat→Str) (ls:List Ln):Prop where
 ne:ls≠[]
 ok:∀l∈ls,LnOk L 200 l
 nd:(lbsOf ls).Nodup
 le:(rowsOf ls).length≤200
 few:ls.length≤1000
 lb:∀r∈rowsOf ls,∀t,plc r=some t→∃A C,ls=A ++ .lb (L t) :: C∧(rowsOf A).length=t
noncomputable def shT (L:Nat→Str) (ls:List Ln):Str:=Txt.join sNl (ls.map (lnT L))
theorem ln_len {L:Nat→Str} {n:Nat} {l:Ln} (h:LnOk L n l):(lnT L l).length≤27:=by
 cases l with
 | lb x=>
  have h:Nam x:=h
  show (x++sCo).length≤27
  rw [len_append]
  have:=h.hi
  show x.length+1≤27
  omega
 | em=>exact Nat.zero_le _
 | rw r=>exact (row_len h.1 h.2).1
theorem ln_chars {L:Nat→Str} {n:Nat} {l:Ln} (h:LnOk L n l):∀c∈(lnT L l).cps.toList,c≠10∧c<128:=fun c hc=>by
 cases l with
 | lb x=>
  have h:Nam x:=h
  have hc:c∈(x++sCo).cps.toList:=hc
  rw [str_append_list] at hc
  rcases List.mem_append.mp hc with hc|hc
  ·have:=h.ch c hc;omega
  ·have:c=58:=by simpa using hc
   omega
 | em=>simp [lnT] at hc
 | rw r=>have:=row_chars h.1 h.2 c hc;omega
theorem Sheet.split {L:Nat→Str} {ls:List Ln} (h:Sheet L ls):Txt.split (shT L ls) sNl=ls.map (lnT L):=
 split_join (by simpa using h.ne) fun x hx hc=>by
  obtain ⟨l,hl,rfl⟩:=List.mem_map.mp hx
  exact (ln_chars (h.ok l hl) 10 hc).1 rfl
theorem Sheet.len {L:Nat→Str} {ls:List Ln} (h:Sheet L ls):(shT L ls).length≤28000:=by
 rw [str_len]
 unfold shT
 rw [sg_joinT]
 have:=joinL_le (c:=10) (m:=27) (xs:=(ls.map (lnT L)).map fun x=>x.cps.toList) fun x hx=>by
  obtain ⟨y,hy,rfl⟩:=List.mem_map.mp hx
  obtain ⟨l,hl,rfl⟩:=List.mem_map.mp hy
  have:=ln_len (h.ok l hl)
  rw [str_len] at this
  exact this
 rw [List.length_map,List.length_map] at this
 have:=h.few
 omega
noncomputable def lbD (xs:List Str):List (Key×V):=xs.foldl (fun kv x=>putK kv (.inr x) (.bl true)) []
theorem lbD_snoc (xs:List Str) (x:Str):lbD (xs++[x])=putK (lbD xs) (.inr x) (.bl true):=by unfold lbD;rw [List.foldl_append];rfl
theorem lbD_none {x:Str} : ∀(xs:List Str) (s:List (Key×V)),x ∉ xs→valV s (.inr x)=none→valV (xs.foldl (fun kv x=>putK kv (.inr x) (.bl true)) s) (.inr x)=none
 | [],s,_,h=>h
 | y :: xs,s,hx,h=>by
  rw [List.foldl_cons]
  refine lbD_none xs _ (fun z=>hx (List.mem_cons_of_mem _ z)) ?_
  rw [valV_put,if_neg (fun z=>hx (by injection z with z;rw [z];exact List.mem_cons_self))]
  exact h
noncomputable def plcs (rows:List Rw):List Nat:=rows.filterMap plc
theorem plc_le {n:Nat} {r:Rw} {t:Nat} (h:r.ok n) (e:plc r=some t):t≤n:=by
 cases r with
 | jump u=>cases e;exact h
 | zero p u=>cases e;exact h.2
 | set p q=>cases e
 | add p q=>cases e
 | take p q=>cases e
 | tell p=>cases e
 | ask p=>cases e
 | stop=>cases e
theorem plcs_in {rows:List Rw} {r:Rw} {t:Nat} (h:r∈rows) (e:plc r=some t):t∈plcs rows:=List.mem_filterMap.mpr ⟨r,h,e⟩
theorem sum_len {m:Nat} : ∀{xs:List Str},(∀x∈xs,x.length≤m)→(xs.map (·.length)).sum≤m*xs.length
 | [],_=>Nat.zero_le _
 | x :: xs,h=>by
  have h1:=h x List.mem_cons_self
  have h2:=sum_len (xs:=xs) fun y hy=>h y (List.mem_cons_of_mem _ hy)
  rw [List.map_cons,List.sum_cons,List.length_cons,Nat.mul_succ]
  omega
theorem small_at {i:Nat} (h:i<26):atI sSmall.cps.toList (i:Nat)=some (97+i):=by
 have e:sSmall.cps.toList=(List.range 26).map (97 + ·):=by decide +kernel
 rw [e]
 refine at_nat (by simpa using h) ?_
 show ((List.range 26).map (97 + ·))[i]? = _
 rw [List.getElem?_map,List.getElem?_range h]
 rfl
theorem last_at {r:Rw} {t:Nat} (h:plc r=some t):atI (r.ds.map fV) (-1)=some (.int (t:Nat)):=by
 cases r with
 | jump u=>cases h;rfl
 | zero p u=>cases h;rfl
 | set p q=>cases h
 | add p q=>cases h
 | take p q=>cases h
 | tell p=>cases h
 | ask p=>cases h
 | stop=>cases h
theorem kind_wd (r:Rw):Wd (kindS r):=by
 have h:kinds8.all (fun x=>decide (1≤x.length)&&decide (x.length≤8)&&x.cps.toList.all fun c=>(decide (48≤c)&&decide (c≤57))||(decide (97≤c)&&decide (c≤122)))=true:=by decide +kernel
 exact wdB (List.all_eq_true.mp h _ (kind_in r))
noncomputable def ds2 (L:Nat→Str):Rw→List PyData
 | .jump t=>[.str "jump", .str (L t)]
 | .zero p t=>[.str "zero", .str (sp p), .str (L t)]
 | r=>r.ds
theorem wd_gd {x:Str} (h:Wd x):Gd 300 0 (.str x):=Gd.str (by
 unfold Asz
 rw [Array.all_eq_true_iff_forall_mem]
 intro c hc
 have:=h.2.2 c (by simpa using hc)
 simp
 omega) (by have:=h.2.1;omega)
theorem ds2_gs {L:Nat→Str} {n:Nat} {r:Rw} (h:r.ok n) (hL:∀t,plc r=some t→Nam (L t)):Gs 903 0 (ds2 L r):=by
 have k:Gd 300 0 (.str (kindS r)):=wd_gd (kind_wd r)
 have s:∀p,Gd 300 0 (.str (sp p)):=fun p=>wd_gd (sp_wd p)
 have o:∀{d:PyData},Gd 300 0 d→Gs 301 0 [d]:=fun h=>Gs.one h
 cases r with
 | set p m=>exact (Gs.cons k (Gs.cons (s p) (o (Gd.int (by have:=h.2;exact Nat.lt_of_lt_of_le (show m.natAbs<1000 by omega) (by decide)) (by decide))))).mono (by decide) (Nat.le_refl _)
 | add p q=>exact (Gs.cons k (Gs.cons (s p) (o (s q)))).mono (by decide) (Nat.le_refl _)
 | take p q=>exact (Gs.cons k (Gs.cons (s p) (o (s q)))).mono (by decide) (Nat.le_refl _)
 | tell p=>exact (Gs.cons k (o (s p))).mono (by decide) (Nat.le_refl _)
 | ask p=>exact (Gs.cons k (o (s p))).mono (by decide) (Nat.le_refl _)
 | jump t=>exact (Gs.cons k (o (wd_gd (hL t rfl).wd))).mono (by decide) (Nat.le_refl _)
 | zero p t=>exact (Gs.cons k (Gs.cons (s p) (o (wd_gd (hL t rfl).wd)))).mono (by decide) (Nat.le_refl _)
 | stop=>exact (o k).mono (by decide) (Nat.le_refl _)
theorem ds2_wds {L:Nat→Str} {n:Nat} {r:Rw} (h:r.ok n):(ds2 L r).map strD=wds L r:=by
 cases r with
 | set p m=>
  show [_,_,strD (.int m)]=[_,_,numT m.toNat]
  unfold numT
  rw [show ((m.toNat:Nat):Int)=m by have:=h.2;omega,int_shown]
  rfl
 | add p q=>rfl
 | take p q=>rfl
 | tell p=>rfl
 | ask p=>rfl
 | jump t=>rfl
 | zero p t=>rfl
 | stop=>rfl
theorem ds2_flat (L:Nat→Str) (r:Rw):(ds2 L r).all flatD=true:=by cases r <;> rfl
theorem ds2_none {L:Nat→Str} {r:Rw} (h:plc r=none):ds2 L r=r.ds:=by
 cases r with
 | jump t=>cases h
 | zero p t=>cases h
 | set p q=>rfl
 | add p q=>rfl
 | take p q=>rfl
 | tell p=>rfl
 | ask p=>rfl
 | stop=>rfl
theorem ds2_some {L:Nat→Str} {r:Rw} {t:Nat} (h:plc r=some t):cutV (r.ds.map fV) none (some (-1))++[.str (L t)]=(ds2 L r).map fV:=by
 cases r with
 | jump u=>cases h;rfl
 | zero p u=>cases h;rfl
 | set p q=>cases h
 | add p q=>cases h
 | take p q=>cases h
 | tell p=>cases h
 | ask p=>cases h
 | stop=>cases h
theorem ds2_cut {r:Rw} {t:Nat} (h:plc r=some t):¬(HT.sIx (r.ds.map fV).length 0 none=0∧HT.sIx (r.ds.map fV).length (r.ds.map fV).length (some (-1))=(r.ds.map fV).length)∧cutV (r.ds.map fV) none (some (-1))≠[]∧(cutV (r.ds.map fV) none (some (-1))).length≤3:=by
 cases r with
 | jump u=>exact ⟨(by decide:¬(HT.sIx 2 0 none=0∧HT.sIx 2 2 (some (-1))=2)),(fun z=>nomatch z),by show 1≤3;decide⟩
 | zero p u=>exact ⟨(by decide:¬(HT.sIx 3 0 none=0∧HT.sIx 3 3 (some (-1))=3)),(fun z=>nomatch z),by show 2≤3;decide⟩
 | set p q=>cases h
 | add p q=>cases h
 | take p q=>cases h
 | tell p=>cases h
 | ask p=>cases h
 | stop=>cases h
theorem jump_inV (r:Rw):inV (.str (kindS r)) [.str "jump", .str "zero"]=(plc r).isSome:=by cases r <;> rfl
end Z
namespace Z
open PySem L2
theorem spotAt {r:Int} (h0:0≤r) (h1:r<4):∃ch p,atI (Str.ofString "abcd").cps.toList r=some ch∧p<4∧(⟨#[ch]⟩:Str)=sp p:=by
 have:r=0∨r=1∨r=2∨r=3:=by omega
 rcases this with rfl|rfl|rfl|rfl
 ·exact ⟨97,0,by decide +kernel,by decide,by decide +kernel⟩
 ·exact ⟨98,1,by decide +kernel,by decide,by decide +kernel⟩
 ·exact ⟨99,2,by decide +kernel,by decide,by decide +kernel⟩
 ·exact ⟨100,3,by decide +kernel,by decide,by decide +kernel⟩
def spProg (K:PySem.W.Frag):Sp:=fun vs H Q _=>∃(b c:Addr) (t:Int) (n:Nat),vs=[.ref b, .int n]∧Bx H b c t∧0≤t∧t<9000000∧n≤40∧∀(rows:List Rw) (p:Addr) (vs:List V) H' t',rows.length=n→(∀r∈rows,r.ok n)→H' p=some (.lst vs)→p≠b→p≠c→H p=none→Tups H' rows vs→Step b c H H' t t' (20*n)→Q (.ref p) H'
def spMn:Sp:=fun vs H Q _=>∃(b c:Addr) (t:Int),vs=[.ref b]∧Bx H b c t∧0≤t∧t<9000000∧∀(n:Nat) H' t',n≤40→Step b c H H' t t' 2→Q (.int n) H'
section
variable {P:Program} {w:World} {K:PySem.W.Frag} {mg:Str→Option Value} {base:Heap} {f:Addr} {fd:FuncData} {C:Addr}
theorem sc_law_program:FnScope ["_law_state", "_law_many_here", "_law_found", "_law_k", "_law_way", "_law_spot", "_law_other", "_law_at"] ["_law_state", "_law_many_here"] (defScope (top i_law_program)):=⟨rfl,rfl,rfl,by decide +kernel,rfl,by decide +kernel,by decide +kernel⟩
theorem ok_prog (F:Fun K "_law_program" "_law_program" (top i_law_program) f fd) (T:Nm mg) (f_law_take:Fn P w K mg base 1 "_law_take" ["_law_state", "_law_many_here"] spTk):FnOk P w K mg base CX0 2 f fd ["_law_state", "_law_many_here"] (spProg K):=by
 refine F.ok sc_law_program (fun vs H Q E h => ?_) (fun cdv A outer s H vs Q E hr h => ?_)
 ·obtain ⟨b,c,t,n,rfl,_⟩:=h
  rfl
 obtain ⟨b,c,t,n,rfl,bx,t0,t1,hn,q⟩:=h
 have hu6:=hr.units
 refine ⟨_,(pss_cons (ps_set (i:=2) sc_law_program.nd rfl (Or.inl rfl) (lit_lstO (K:=K) lits_nil))
  (pss_cons (ps_for PassesOwn.never rfl (pi_range1 rfl T.n_range (pa_cons (pv 1) pa_nil)) (pg_name (i:=3) sc_law_program.nd rfl (Or.inl rfl)) (pss_cons (ps_set (i:=4) sc_law_program.nd rfl (Or.inl rfl) (pe_fn (f_law_take.mono (by decide)) hr rfl (pa_cons (pv 0) (pa_cons pe_int pa_nil))))
  (pss_cons (ps_set (i:=5) sc_law_program.nd rfl (Or.inl rfl) (pe_ix (ixK K) pe_str (pe_fn (f_law_take.mono (by decide)) hr rfl (pa_cons (pv 0) (pa_cons pe_int pa_nil))) (fun _ _=>rfl)))
  (pss_cons (ps_set (i:=6) sc_law_program.nd rfl (Or.inl rfl) (pe_ix (ixK K) pe_str (pe_fn (f_law_take.mono (by decide)) hr rfl (pa_cons (pv 0) (pa_cons pe_int pa_nil))) (fun _ _=>rfl)))
  (pss_cons (ps_set (i:=7) sc_law_program.nd rfl (Or.inl rfl) (pe_ix (ixK K) (lstN (pa_cons (pe_fn (f_law_take.mono (by decide)) hr rfl (pa_cons (pv 0) (pa_cons (pe_op addN (pv 1) pe_int) pa_nil))) (pa_cons (pe_callB (call_min2 rfl) rfl T.n_min (by rfl) (pa_cons (pv 1) (pa_cons (pe_callB (call_max2 rfl) rfl T.n_max (by rfl) (pa_cons pe_int (pa_cons (pe_op addN (pe_op op_sub (pv 3) pe_int) (pe_fn (f_law_take.mono (by decide)) hr rfl (pa_cons (pv 0) (pa_cons pe_int pa_nil)))) pa_nil))) pa_nil))) pa_nil))) (pe_fn (f_law_take.mono (by decide)) hr rfl (pa_cons (pv 0) (pa_cons pe_int pa_nil))) (fun _ _=>rfl)))
  (pss_one (ps_if (pt_cmpR op_lt (pv 4) pe_int (nomark _)) (pss_one (ps_expr (bmK K PySem.F.plainAttrs_list PySem.F.slot_list_append PySem.F.type_list_append appendN (pv 2) (pa_cons (tupN (pa_cons pe_str (pa_cons (pv 5) (pa_cons (pe_ix (ixK K) (lstN (pa_cons (pe_fn (f_law_take.mono (by decide)) hr rfl (pa_cons (pv 0) (pa_cons pe_int pa_nil))) (pa_cons (pe_fn (f_law_take.mono (by decide)) hr rfl (pa_cons (pv 0) (pa_cons pe_int pa_nil))) pa_nil))) (pe_fn (f_law_take.mono (by decide)) hr rfl (pa_cons (pv 0) (pa_cons pe_int pa_nil))) (fun _ _=>rfl)) pa_nil)))) pa_nil)))) (pss_one (ps_if (pt_cmpR op_lt (pv 4) pe_int (nomark _)) (pss_one (ps_expr (bmK K PySem.F.plainAttrs_list PySem.F.slot_list_append PySem.F.type_list_append appendN (pv 2) (pa_cons (tupN (pa_cons (pe_ix (ixK K) (lit_lstO (K:=K) (lits_cons lit_str (lits_cons lit_str lits_nil))) (pe_op op_sub (pv 4) pe_int) (fun _ _=>rfl)) (pa_cons (pv 5) (pa_cons (pv 6) pa_nil)))) pa_nil)))) (pss_one (ps_if (pt_cmpR op_lt (pv 4) pe_int (nomark _)) (pss_one (ps_expr (bmK K PySem.F.plainAttrs_list PySem.F.slot_list_append PySem.F.type_list_append appendN (pv 2) (pa_cons (tupN (pa_cons (pe_ix (ixK K) (lit_lstO (K:=K) (lits_cons lit_str (lits_cons lit_str (lits_cons lit_str lits_nil)))) (pe_op op_sub (pv 4) pe_int) (fun _ _=>rfl)) (pa_cons (pv 5) pa_nil))) pa_nil)))) (pss_one (ps_if (PW.pt (pw_and (pt_cmpR (eqK K hu6) (pv 4) pe_int (nomark _)) (pw_and1 (pt_cmpR (eqK K hu6) (pe_fn (f_law_take.mono (by decide)) hr rfl (pa_cons (pv 0) (pa_cons pe_int pa_nil))) pe_int (nomark _))))) (pss_one (ps_expr (bmK K PySem.F.plainAttrs_list PySem.F.slot_list_append PySem.F.type_list_append appendN (pv 2) (pa_cons (tupN (pa_cons pe_str pa_nil)) pa_nil)))) (pss_one (ps_expr (bmK K PySem.F.plainAttrs_list PySem.F.slot_list_append PySem.F.type_list_append appendN (pv 2) (pa_cons (pe_ifExp (pt_cmpR op_gt (pv 4) pe_int (nomark _)) (tupN (pa_cons pe_str (pa_cons (pv 5) (pa_cons (pv 7) pa_nil)))) (tupN (pa_cons pe_str (pa_cons (pv 7) pa_nil)))) pa_nil)))))))))))))))))
  (pss_one (ps_ret (pv 2))))),?_⟩
 intro fp us0 H1 sm1 nw1 d1
 unfold Dens at d1
 subst d1
 obtain ⟨nf,hf1⟩:=of_newOf nw1
 obtain ⟨fb,fc⟩:=bx.ne_new nf
 have st1:=Step.same bx sm1
 refine gn ?_
 dsimp only
 refine seqCut (t:=tFor _ _ _) (fun σ H'=>Ex9 fun (x3 x4 x5 x6 x7:Option V) (rows:List Rw) (vs:List V) (t':Int) (_:Unit) => σ=[some (.ref b),some (.int n),some (.ref fp),x3,x4,x5,x6,x7]∧rows.length=n∧(∀r∈rows,r.ok n)∧H' fp=some (.lst vs)∧Tups H' rows vs∧Step b c H H' t t' (20*n)) (fun Nx nx => ?_) ?_
 ·refine ⟨_,rfl,_,rfl,by omega,by omega,?_⟩
  refine for_go (N:=n) (fun i σ H'=>Ex9 fun (x3 x4 x5 x6 x7:Option V) (rows:List Rw) (vs:List V) (t':Int) (_:Unit) => σ=[some (.ref b),some (.int n),some (.ref fp),x3,x4,x5,x6,x7]∧rows.length=i∧(∀r∈rows,r.ok n)∧H' fp=some (.lst vs)∧Tups H' rows vs∧Step b c H H' t t' (20*i)) ⟨_,_,_,_,_,[],[],_,(),rfl,rfl,(fun _ h=>nomatch h),hf1,⟨rfl,fun _ _ h=>nomatch h⟩,st1.more (by omega)⟩ ?_ ?_
  ·intro i σ H2 hi
   refine Elim.go ?_
   rintro x3 x4 x5 x6 x7 rows vs t2 _ rfl hl hok hf2 hT st2
   have ub2:=st2.ub
   have lo2:=st2.le
   refine ⟨by show i<((n:Nat):Int).toNat;omega,?_⟩
   rintro x H3 ⟨rfl,rfl⟩
   refine gn ?_
   refine genS fun D' hD hrt => ?_
   clear hrt nx
   refine seqGen fun D1 h1 r1 => ?_
   refine ⟨_,rfl,b,c,t2,12,rfl,st2.bx,by omega,by omega,by decide,by decide,fun way H4 w0 w1 st4=>gn (h1 _ _ ?_)⟩
   clear r1 h1 D1
   refine seqGen fun D1 h1 r1 => ?_
   refine ⟨_,rfl,b,c,_,4,rfl,st4.bx,by omega,by omega,by decide,by decide,fun r5 H5 r50 r51 st5 => ?_⟩
   obtain ⟨c5,p,hc5,hp,ep⟩:=spotAt r50 r51
   refine .inr (.inr ⟨_,_,c5,rfl,rfl,by decide +kernel,hc5,gn (h1 _ _ ?_)⟩)
   clear r1 h1 D1
   refine seqGen fun D1 h1 r1 => ?_
   refine ⟨_,rfl,b,c,_,4,rfl,st5.bx,by omega,by omega,by decide,by decide,fun r6 H6 r60 r61 st6 => ?_⟩
   obtain ⟨c6,z,hc6,hz,ez⟩:=spotAt r60 r61
   refine .inr (.inr ⟨_,_,c6,rfl,rfl,by decide +kernel,hc6,gn (h1 _ _ ?_)⟩)
   clear r1 h1 D1
   rw [ep,ez]
   refine seqGen fun D1 h1 r1 => ?_
   refine ⟨_,rfl,_,rfl, .inl ⟨_,_,rfl,rfl,b,c,_,_,rfl,st6.bx,by omega,by omega,by omega,by omega,fun r7 H7 r70 r71 st7 => ?_⟩⟩
   refine ⟨_,rfl,_,rfl,_,_,rfl,rfl,_,rfl,b,c,_,8,rfl,st7.bx,by omega,by omega,by decide,by decide,fun r8 H8 r80 r81 st8 => .inl ⟨_,_,rfl,rfl,_,_,rfl,_,_,rfl,by show 2≤sizeLine;decide,fun p9 H9 n9 => ?_⟩⟩
   have sA:=st4.trans (st5.trans (st6.trans (st7.trans st8)))
   have st9:=(st2.trans sA).newN n9
   obtain ⟨w9,h9,w90,w91⟩:∃w9:Int,H9 p9=some (.lst [V.int r7,V.int w9])∧0≤w9∧w9≤n:=⟨_,n9.at,by (repeat' split) <;> omega,by (repeat' split) <;> omega⟩
   refine ⟨_,rfl,b,c,_,2,rfl,st9.bx,by omega,by omega,by decide,by decide,fun r10 H10 r100 r101 sB => ?_⟩
   obtain ⟨b9,c9⟩:=st8.bx.ne_new n9.nn
   obtain ⟨kv,hk4,hk5⟩:=at_mem (xs:=[V.int r7,V.int w9]) r100 r101
   refine .inl ⟨p9,_,_,_,rfl,rfl,SqL.of (sB.old h9 b9 c9),hk4,gn (h1 _ _ ?_)⟩
   clear r1 h1 D1
   obtain ⟨at_,rfl,hat⟩:∃a:Nat,kv = .int a∧a≤n:=by
    rcases List.mem_cons.mp hk5 with rfl|hk5
    ·exact ⟨r7.toNat,congrArg V.int (Int.toNat_of_nonneg r70).symm,by omega⟩
    ·rw [List.mem_singleton.mp hk5]
     exact ⟨w9.toNat,congrArg V.int (Int.toNat_of_nonneg w90).symm,by omega⟩
   have st10:=(st9.trans sB).more (show _≤20*(i:Int)+7 by omega)
   have f10:H10 fp=some (.lst vs):=sB.old (n9.same _ _ (sA.old hf2 fb fc)) fb fc
   have tp10:TP H3 H10:=((TP.step st2.bx sA).trans (TP.same n9.same)).trans (TP.step st9.bx sB)
   have fin:∀(r:Rw) (Hn:Hp) (tn:Int),r.ok n→Step b c H Hn t tn (20*i+15)→TP H3 Hn→Hn fp=some (.lst vs)→∀p' Hm,New Hn p' (.tup (r.ds.map fV)) Hm→Hm fp=some (.lst vs)∧vs.length<sizeLine∧∀Hx,Chg Hm fp (.lst (vs++[.ref p'])) Hx →
     ∃(rows:List Rw) (vs:List V) (t':Int),rows.length=i+1∧(∀r∈rows,r.ok n)∧Hx fp=some (.lst vs)∧Tups Hx rows vs∧Step b c H Hx t t' (20*((i+1:Nat):Int)):=fun r Hn tn hr' stn tpn fn p' Hm nm=>by
    refine ⟨nm.same _ _ fn,Nat.lt_of_le_of_lt (show vs.length≤1000 by have:=hT.1;omega) (by decide),fun Hx cx => ?_⟩
    have tx:=TP.chg (nm.same _ _ fn) cx
    refine ⟨rows++[r],_,tn,by rw [List.length_append,hl];rfl,fun r' h' => ?_,cx.at,(((hT.tp tpn).tp (TP.same nm.same)).tp tx).snoc (tx _ _ nm.at),((stn.newN nm).chgN cx nf fb fc).more (by omega)⟩
    rcases List.mem_append.mp h' with h'|h'
    ·exact hok r' h'
    ·rw [List.mem_singleton.mp h'];exact hr'
   have ub10:=st10.ub
   have lo10:=st10.le
   refine ⟨_,rfl,_,_,rfl,rfl,_,rfl,ite2 (fun e1 => ?_) (fun e1 => ?_)⟩
   ·refine ⟨_,rfl, .inl ⟨rfl,_,SqL.of f10⟩,?_⟩
    refine ⟨_,rfl,_,rfl,b,c,_,256,rfl,st10.bx,by omega,by omega,by decide,by decide,fun r11 H11 r110 r111 st11 => ?_⟩
    refine ⟨_,rfl,b,c,_,4,rfl,st11.bx,by omega,by omega,by decide,by decide,fun r12 H12 r120 r121 st12=>⟨by show 2≤sizeLine;decide,fun p13 H13 n13 => ?_⟩⟩
    obtain ⟨b13,c13⟩:=st12.bx.ne_new n13.nn
    have st13:=(st10.trans (st11.trans st12)).newN n13
    refine ⟨_,rfl,b,c,_,2,rfl,st13.bx,by omega,by omega,by decide,by decide,fun r14 H14 r140 r141 st14 => ?_⟩
    obtain ⟨kv,hk4,hk5⟩:=at_mem (xs:=[V.int r11,V.int r12]) r140 r141
    obtain ⟨v,rfl,v0,v1⟩:∃i:Int,kv = .int i∧0≤i∧i<256:=by
     rcases List.mem_cons.mp hk5 with rfl|hk5
     ·exact ⟨_,rfl,r110,r111⟩
     ·rw [List.mem_singleton.mp hk5];exact ⟨_,rfl,r120,by omega⟩
    refine .inl ⟨p13,_,_,_,rfl,rfl,SqL.of (st14.old n13.at b13 c13),hk4,by show 3≤sizeLine;decide,fun p' Hm nm => ?_⟩
    obtain ⟨g1,g2,g3⟩:=fin (.set p v) H14 _ ⟨hp,v0,v1⟩ ((st13.trans st14).more (by omega)) (((tp10.trans (TP.step st10.bx (st11.trans st12))).trans (TP.same n13.same)).trans (TP.step st13.bx st14)) (st14.old (n13.same _ _ ((st11.trans st12).old f10 fb fc)) fb fc) p' Hm nm
    refine ⟨fp,_,_,rfl,rfl,g1,g2,fun Hx cx => ?_⟩
    obtain ⟨rows',vs',t',k1,k2,k3,k4,k5⟩:=g3 Hx cx
    exact hD _ _ ⟨_,_,_,_,_,rows',vs',t',(),rfl,k1,k2,k3,k4,k5⟩
   refine ⟨_,rfl,_,_,rfl,rfl,_,rfl,ite2 (fun e2 => ?_) (fun e2 => ?_)⟩
   ·refine ⟨_,rfl, .inl ⟨rfl,_,SqL.of f10⟩,fun p11 us11 H11 sm11 nw11 d11 => ?_⟩
    rw [dens_flat (ds:=[.str "add", .str "take"]) d11 rfl] at nw11
    have h11:=(of_newOf nw11).2
    have e1:¬way<3:=fun h=>e1 (decide_eq_true h)
    have e2:way<5:=of_decide_eq_true e2
    have st11:=st10.trans (Step.same st10.bx sm11)
    have tp11:=tp10.trans (TP.same sm11)
    have hway:way=3∨way=4:=by omega
    have fin2:∀r:Rw,r.ok n→∀p' Hm,New H11 p' (.tup (r.ds.map fV)) Hm→_:=fun r hr' p' Hm nm=>fin r H11 _ hr' (st11.more (by omega)) tp11 (sm11 _ _ f10) p' Hm nm
    rcases hway with rfl|rfl
    ·refine ⟨_,rfl,_,_,rfl,rfl, .inl ⟨p11,_,_, .str "add",rfl,rfl,SqL.of h11,at_nat (by decide) rfl,?_⟩⟩
     refine ⟨_,rfl,_,rfl,by show 3≤sizeLine;decide,fun p' Hm nm => ?_⟩
     obtain ⟨g1,g2,g3⟩:=fin2 (.add p z) ⟨hp,hz⟩ p' Hm nm
     refine ⟨fp,_,_,rfl,rfl,g1,g2,fun Hx cx => ?_⟩
     obtain ⟨rows',vs',t',k1,k2,k3,k4,k5⟩:=g3 Hx cx
     exact hD _ _ ⟨_,_,_,_,_,rows',vs',t',(),rfl,k1,k2,k3,k4,k5⟩
    ·refine ⟨_,rfl,_,_,rfl,rfl, .inl ⟨p11,_,_, .str "take",rfl,rfl,SqL.of h11,at_nat (by decide) rfl,?_⟩⟩
     refine ⟨_,rfl,_,rfl,by show 3≤sizeLine;decide,fun p' Hm nm => ?_⟩
     obtain ⟨g1,g2,g3⟩:=fin2 (.take p z) ⟨hp,hz⟩ p' Hm nm
     refine ⟨fp,_,_,rfl,rfl,g1,g2,fun Hx cx => ?_⟩
     obtain ⟨rows',vs',t',k1,k2,k3,k4,k5⟩:=g3 Hx cx
     exact hD _ _ ⟨_,_,_,_,_,rows',vs',t',(),rfl,k1,k2,k3,k4,k5⟩
   refine ⟨_,rfl,_,_,rfl,rfl,_,rfl,ite2 (fun e3 => ?_) (fun e3 => ?_)⟩
   ·refine ⟨_,rfl, .inl ⟨rfl,_,SqL.of f10⟩,fun p11 us11 H11 sm11 nw11 d11 => ?_⟩
    rw [dens_flat (ds:=[.str "tell", .str "ask", .str "tell"]) d11 rfl] at nw11
    have h11:=(of_newOf nw11).2
    have e2:¬way<5:=fun h=>e2 (decide_eq_true h)
    have e3:way<8:=of_decide_eq_true e3
    have st11:=st10.trans (Step.same st10.bx sm11)
    have tp11:=tp10.trans (TP.same sm11)
    have hway:way=5∨way=6∨way=7:=by omega
    have fin2:∀r:Rw,r.ok n→∀p' Hm,New H11 p' (.tup (r.ds.map fV)) Hm→_:=fun r hr' p' Hm nm=>fin r H11 _ hr' (st11.more (by omega)) tp11 (sm11 _ _ f10) p' Hm nm
    rcases hway with rfl|rfl|rfl
    ·refine ⟨_,rfl,_,_,rfl,rfl, .inl ⟨p11,_,_, .str "tell",rfl,rfl,SqL.of h11,at_nat (by decide) rfl,?_⟩⟩
     refine ⟨_,rfl,by show 2≤sizeLine;decide,fun p' Hm nm => ?_⟩
     obtain ⟨g1,g2,g3⟩:=fin2 (.tell p) hp p' Hm nm
     refine ⟨fp,_,_,rfl,rfl,g1,g2,fun Hx cx => ?_⟩
     obtain ⟨rows',vs',t',k1,k2,k3,k4,k5⟩:=g3 Hx cx
     exact hD _ _ ⟨_,_,_,_,_,rows',vs',t',(),rfl,k1,k2,k3,k4,k5⟩
    ·refine ⟨_,rfl,_,_,rfl,rfl, .inl ⟨p11,_,_, .str "ask",rfl,rfl,SqL.of h11,at_nat (by decide) rfl,?_⟩⟩
     refine ⟨_,rfl,by show 2≤sizeLine;decide,fun p' Hm nm => ?_⟩
     obtain ⟨g1,g2,g3⟩:=fin2 (.ask p) hp p' Hm nm
     refine ⟨fp,_,_,rfl,rfl,g1,g2,fun Hx cx => ?_⟩
     obtain ⟨rows',vs',t',k1,k2,k3,k4,k5⟩:=g3 Hx cx
     exact hD _ _ ⟨_,_,_,_,_,rows',vs',t',(),rfl,k1,k2,k3,k4,k5⟩
    ·refine ⟨_,rfl,_,_,rfl,rfl, .inl ⟨p11,_,_, .str "tell",rfl,rfl,SqL.of h11,at_nat (by decide) rfl,?_⟩⟩
     refine ⟨_,rfl,by show 2≤sizeLine;decide,fun p' Hm nm => ?_⟩
     obtain ⟨g1,g2,g3⟩:=fin2 (.tell p) hp p' Hm nm
     refine ⟨fp,_,_,rfl,rfl,g1,g2,fun Hx cx => ?_⟩
     obtain ⟨rows',vs',t',k1,k2,k3,k4,k5⟩:=g3 Hx cx
     exact hD _ _ ⟨_,_,_,_,_,rows',vs',t',(),rfl,k1,k2,k3,k4,k5⟩
   refine ⟨_,rfl, .inl ⟨rfl,_,rfl,ite2 (fun e4 => ?_) (fun e4 => ?_)⟩⟩
   ·refine ⟨_,rfl,b,c,_,3,rfl,st10.bx,by omega,by omega,by decide,by decide,fun r11 H11 r110 r111 st11 => .inl ⟨rfl,_,rfl,ite2 (fun e5 => ?_) (fun e5 => ?_)⟩⟩
    ·refine ⟨_,rfl, .inl ⟨rfl,_,SqL.of (st11.old f10 fb fc)⟩,by show 1≤sizeLine;decide,fun p' Hm nm => ?_⟩
     obtain ⟨g1,g2,g3⟩:=fin .stop H11 _ trivial ((st10.trans st11).more (by omega)) (tp10.trans (TP.step st10.bx st11)) (st11.old f10 fb fc) p' Hm nm
     refine ⟨fp,_,_,rfl,rfl,g1,g2,fun Hx cx => ?_⟩
     obtain ⟨rows',vs',t',k1,k2,k3,k4,k5⟩:=g3 Hx cx
     exact hD _ _ ⟨_,_,_,_,_,rows',vs',t',(),rfl,k1,k2,k3,k4,k5⟩
    ·have f11:=st11.old f10 fb fc
     refine ⟨_,rfl, .inl ⟨rfl,_,SqL.of f11⟩,?_⟩
     refine ⟨_,rfl,_,_,rfl,rfl,_,rfl,ite2 (fun _ => ?_) (fun _ => ?_)⟩
     ·refine ⟨_,rfl,_,rfl,by show 3≤sizeLine;decide,fun p' Hm nm => ?_⟩
      obtain ⟨g1,g2,g3⟩:=fin (.zero p at_) H11 _ ⟨hp,hat⟩ ((st10.trans st11).more (by omega)) (tp10.trans (TP.step st10.bx st11)) f11 p' Hm nm
      refine ⟨fp,_,_,rfl,rfl,g1,g2,fun Hx cx => ?_⟩
      obtain ⟨rows',vs',t',k1,k2,k3,k4,k5⟩:=g3 Hx cx
      exact hD _ _ ⟨_,_,_,_,_,rows',vs',t',(),rfl,k1,k2,k3,k4,k5⟩
     ·refine ⟨_,rfl,by show 2≤sizeLine;decide,fun p' Hm nm => ?_⟩
      obtain ⟨g1,g2,g3⟩:=fin (.jump at_) H11 _ hat ((st10.trans st11).more (by omega)) (tp10.trans (TP.step st10.bx st11)) f11 p' Hm nm
      refine ⟨fp,_,_,rfl,rfl,g1,g2,fun Hx cx => ?_⟩
      obtain ⟨rows',vs',t',k1,k2,k3,k4,k5⟩:=g3 Hx cx
      exact hD _ _ ⟨_,_,_,_,_,rows',vs',t',(),rfl,k1,k2,k3,k4,k5⟩
   ·skip
    refine ⟨_,rfl, .inl ⟨rfl,_,SqL.of f10⟩,?_⟩
    refine ⟨_,rfl,_,_,rfl,rfl,_,rfl,ite2 (fun _ => ?_) (fun _ => ?_)⟩
    ·refine ⟨_,rfl,_,rfl,by show 3≤sizeLine;decide,fun p' Hm nm => ?_⟩
     obtain ⟨g1,g2,g3⟩:=fin (.zero p at_) H10 _ ⟨hp,hat⟩ (st10.more (by omega)) tp10 f10 p' Hm nm
     refine ⟨fp,_,_,rfl,rfl,g1,g2,fun Hx cx => ?_⟩
     obtain ⟨rows',vs',t',k1,k2,k3,k4,k5⟩:=g3 Hx cx
     exact hD _ _ ⟨_,_,_,_,_,rows',vs',t',(),rfl,k1,k2,k3,k4,k5⟩
    ·refine ⟨_,rfl,by show 2≤sizeLine;decide,fun p' Hm nm => ?_⟩
     obtain ⟨g1,g2,g3⟩:=fin (.jump at_) H10 _ hat (st10.more (by omega)) tp10 f10 p' Hm nm
     refine ⟨fp,_,_,rfl,rfl,g1,g2,fun Hx cx => ?_⟩
     obtain ⟨rows',vs',t',k1,k2,k3,k4,k5⟩:=g3 Hx cx
     exact hD _ _ ⟨_,_,_,_,_,rows',vs',t',(),rfl,k1,k2,k3,k4,k5⟩
  ·intro σ H2
   refine Elim.go ?_
   rintro x3 x4 x5 x6 x7 rows vs t2 _ rfl hl hok hf2 hT st2
   exact ⟨by show ((n:Nat):Int).toNat≤n;omega,nx _ _ ⟨_,_,_,_,_,rows,vs,t2,(),rfl,hl,hok,hf2,hT,st2⟩⟩
 intro σ H2
 refine Elim.go ?_
 rintro x3 x4 x5 x6 x7 rows vs t2 _ rfl hl hok hf2 hT st2
 exact ⟨_,rfl,q rows fp vs H2 t2 hl hok hf2 fb fc nf hT st2⟩
theorem sc_law_many:FnScope ["_law_state"] ["_law_state"] (defScope (top i_law_many)):=⟨rfl,rfl,rfl,by decide +kernel,rfl,by decide +kernel,by decide +kernel⟩
theorem ok_many (F:Fun K "_law_many" "_law_many" (top i_law_many) f fd) (T:Nm mg) (f_law_take:Fn P w K mg base 1 "_law_take" ["_law_state", "_law_many_here"] spTk):FnOk P w K mg base CX0 2 f fd ["_law_state"] spMn:=by
 refine F.ok sc_law_many (fun vs H Q E h => ?_) (fun cdv A outer s H vs Q E hr h => ?_)
 ·obtain ⟨b,c,t,rfl,_⟩:=h
  rfl
 obtain ⟨b,c,t,rfl,bx,t0,t1,q⟩:=h
 have hu6:=hr.units
 refine ⟨_,(pss_cons (ps_if (pt_cmpR (eqK K hu6) (pe_fn (f_law_take.mono (by decide)) hr rfl (pa_cons (pv 0) (pa_cons pe_int pa_nil))) pe_int (nomark _)) (pss_one (ps_ret (pe_op addN pe_int (pe_fn (f_law_take.mono (by decide)) hr rfl (pa_cons (pv 0) (pa_cons pe_int pa_nil)))))) pss_nil)
  (pss_one (ps_ret (pe_fn (f_law_take.mono (by decide)) hr rfl (pa_cons (pv 0) (pa_cons pe_int pa_nil)))))),?_⟩
 refine ⟨_,rfl,b,c,t,8,rfl,bx,by omega,by omega,by decide,by decide,fun r H2 r0 r1 st2 => .inl ⟨rfl,_,rfl,ite2 (fun _ => ?_) (fun _ => ?_)⟩⟩
 ·refine ⟨_,rfl,b,c,_,28,rfl,st2.bx,by omega,by omega,by decide,by decide,fun r3 H3 r30 r31 st3 => .inl ⟨_,_,rfl,rfl,?_⟩⟩
  have:=q (13+r3).toNat _ _ (by omega) (st2.trans st3)
  rw [show (((13+r3).toNat:Nat):Int)=13+r3 by omega] at this
  exact this
 ·refine ⟨_,rfl,b,c,_,13,rfl,st2.bx,by omega,by omega,by decide,by decide,fun r3 H3 r30 r31 st3 => ?_⟩
  have:=q r3.toNat _ _ (by omega) (st2.trans st3)
  rw [show ((r3.toNat:Nat):Int)=r3 by omega] at this
  exact this
end
end Z
namespace Z
open PySem L2 PyProof.Rows
noncomputable abbrev sRev:Str := "zyxwvutsrqponmlkjihgfedcba"
theorem rev_at {i:Nat} (h:i<26):atI sRev.cps.toList (i:Nat)=some (122-i):=by
 have e:sRev.cps.toList=(List.range 26).map (122 - ·):=by decide +kernel
 rw [e]
 refine at_nat (by simpa using h) ?_
 show ((List.range 26).map (122 - ·))[i]? = _
 rw [List.getElem?_map,List.getElem?_range h]
 rfl
theorem ones_len:∀{xs:List Str},(∀x∈xs,∃ch:Nat,x=⟨#[ch]⟩)→(xs.flatMap (fun p=>p.cps.toList)).length=xs.length∧(xs.map (·.length)).sum=xs.length
 | [],_=>⟨rfl,rfl⟩
 | x :: r,h=>by
  obtain ⟨ch,rfl⟩:=h x List.mem_cons_self
  obtain ⟨h1,h3⟩:=ones_len fun y hy=>h y (List.mem_cons_of_mem _ hy)
  refine ⟨by simp at h1 ⊢;omega,?_⟩
  rw [List.map_cons,List.sum_cons,h3]
  show 1+_=_
  simp;omega
def N80 (i:Nat) (x:Str):Prop:=∃y:List Nat,x.cps.toList=y++[122-i / 26,122-i % 26]∧1≤y.length∧y.length≤6∧∀ch∈y,97≤ch∧ch≤122
theorem N80.inj {i j:Nat} {x:Str} (h:N80 i x) (g:N80 j x) (hi:i<52) (hj:j<52):i=j:=by
 obtain ⟨y,e,_⟩:=h
 obtain ⟨z,f,_⟩:=g
 rw [e] at f
 obtain ⟨_,f⟩:=List.append_inj' f rfl
 injection f with f1 f
 injection f with f2 _
 omega
theorem N80.nam {i:Nat} {x:Str} (h:N80 i x) (hi:i<52):Nam x:=by
 obtain ⟨y,e,h1,h2,h3⟩:=h
 refine ⟨?_,?_,fun c hc => ?_⟩
 ·rw [str_len,e,List.length_append];omega
 ·rw [str_len,e,List.length_append];show y.length+2≤8;omega
 ·rw [e] at hc
  rcases List.mem_append.mp hc with hc|hc
  ·exact h3 c hc
  rcases List.mem_cons.mp hc with rfl|hc
  ·omega
  ·rw [List.mem_singleton.mp hc];omega
noncomputable abbrev ws10:List Str:=["set", "add", "take", "tell", "ask", "jump", "zero", "stop", "a", "d"]
noncomputable def sec (l:List Nat):Nat:=l.reverse.getD 1 0
theorem N80.word {i:Nat} {x:Str} (h:N80 i x) (hi:i<52):x ∉ ws10:=fun hx=>by
 obtain ⟨y,e,_⟩:=h
 have w:ws10.all (fun w=>decide (sec w.cps.toList<121))=true:=by decide +kernel
 have:=of_decide_eq_true (List.all_eq_true.mp w x hx)
 rw [e] at this
 unfold sec at this
 rw [List.reverse_append] at this
 have:122-i / 26<121:=this
 omega
theorem ws_nam:∀x∈ws10,Nam x:=fun x hx=>by
 have w:ws10.all (fun x=>decide (1≤x.length)&&decide (x.length≤8)&&x.cps.toList.all fun c=>decide (97≤c)&&decide (c≤122))=true:=by decide +kernel
 have:=List.all_eq_true.mp w x hx
 rw [Bool.and_eq_true,Bool.and_eq_true,decide_eq_true_iff,decide_eq_true_iff,List.all_eq_true] at this
 exact ⟨this.1.1,this.1.2,fun c hc=>by simpa using this.2 c hc⟩
def Ns80 (ks:List Str):Prop:=∀(i:Nat) x,ks[i]? = some x→N80 i x
theorem Ns80.new {ks:List Str} {x:Str} (h:Ns80 ks) (hl:ks.length<52) (g:N80 ks.length x):x ∉ ks:=fun hx=>by
 obtain ⟨i,hi,e⟩:=List.getElem_of_mem hx
 have:=(h i x (by rw [List.getElem?_eq_getElem hi,e])).inj g (by omega) hl
 omega
theorem Ns80.snoc {ks:List Str} {x:Str} (h:Ns80 ks) (g:N80 ks.length x):Ns80 (ks++[x]):=fun i y e=>by
 by_cases hi:i<ks.length
 ·rw [List.getElem?_append_left hi] at e;exact h i y e
 ·rw [List.getElem?_append_right (by omega)] at e
  have hz:i-ks.length=0:=by have:=(List.getElem?_eq_some_iff.mp e).1;simp at this;omega
  rw [hz] at e
  cases e
  rw [show i=ks.length by omega];exact g
theorem Ns80.nodup {ks:List Str} (h:Ns80 ks) (hl:ks.length≤52):ks.Nodup:=by
 rw [List.nodup_iff_pairwise_ne,List.pairwise_iff_getElem]
 intro i j hi hj hij e
 have h1:=h i _ (List.getElem?_eq_getElem hi)
 have h2:=h j _ (List.getElem?_eq_getElem hj)
 rw [e] at h1
 have:=h1.inj h2 (by omega) (by omega)
 omega
structure Lb80 (m:Nat) (labs ws:List Str):Prop where
 len:labs.length=m
 nd:labs.Nodup
 nm:∀x∈labs,Nam x
 wnd:ws.Nodup
 wn:∀x∈ws,Nam x
 dj:∀x∈labs,x ∉ ws
theorem Ns80.lb {ks:List Str} (h:Ns80 ks) (hl:ks.length≤52):Lb80 ks.length ks ws10:=by
 have at':∀x∈ks,∃i,i<52∧N80 i x:=fun x hx=>by
  obtain ⟨i,hi,e⟩:=List.getElem_of_mem hx
  exact ⟨i,by omega,h i x (by rw [List.getElem?_eq_getElem hi,e])⟩
 exact ⟨rfl,h.nodup hl,fun x hx=>by obtain ⟨i,hi,g⟩:=at' x hx;exact g.nam hi,by decide,ws_nam,fun x hx=>by obtain ⟨i,hi,g⟩:=at' x hx;exact g.word hi⟩
noncomputable def Lf (labs:List Str) (t:Nat):Str:=labs.getD t ⟨#[]⟩
theorem Lf_at {labs:List Str} {t:Nat} (h:t<labs.length):labs[t]? = some (Lf labs t):=by
 unfold Lf;rw [List.getD_eq_getElem?_getD,List.getElem?_eq_getElem h];rfl
theorem Lb80.nam {m t:Nat} {labs ws:List Str} (h:Lb80 m labs ws) (ht:t<m):Nam (Lf labs t):=h.nm _ (List.mem_of_getElem? (Lf_at (by rw [h.len];exact ht)))
theorem Lb80.inj {m t u:Nat} {labs ws:List Str} (h:Lb80 m labs ws) (ht:t<m) (hu:u<m) (e:Lf labs t=Lf labs u):t=u:=by
 have nd:=h.nd
 rw [List.nodup_iff_pairwise_ne,List.pairwise_iff_getElem] at nd
 have l:=h.len
 obtain ⟨h1,e1⟩:=List.getElem?_eq_some_iff.mp (Lf_at (labs:=labs) (t:=t) (by omega))
 obtain ⟨h2,e2⟩:=List.getElem?_eq_some_iff.mp (Lf_at (labs:=labs) (t:=u) (by omega))
 rcases Nat.lt_trichotomy t u with q|q|q
 ·exact absurd (by rw [e1,e2,e]) (nd t u h1 h2 q)
 ·exact q
 ·exact absurd (by rw [e1,e2,e]) (nd u t h2 h1 q)
noncomputable def lns80 (rows:List Rw) (labs:List Str) (i:Nat) (c1 c2 c3:Bool):List Ln:=
 (if c1 then [.lb (Lf labs i)] else [])++(if c2 then [.lb (Lf labs (rows.length+1+i))] else [])++(if c3 then [.em] else [])
noncomputable def lrw (rows:List Rw) (i:Nat):List Ln:=match rows[i]? with
 | some r=>[.rw r]
 | none=>[]
structure Sh80 (rows:List Rw) (labs:List Str) (i:Nat) (ls:List Ln):Prop where
 rw':rowsOf ls=rows.take i
 lb:∀x∈lbsOf ls,∃t,x=Lf labs t∧t<rows.length+4∧(t<i∨(rows.length+1≤t∧t<rows.length+1+i))
 nd:(lbsOf ls).Nodup
 len:ls.length≤4*i
 ok:∀l∈ls,LnOk (Lf labs) 200 l
 at':∀t∈plcs rows,t<i→∃A C,ls=A ++ .lb (Lf labs t) :: C∧(rowsOf A).length=t
theorem Sh80.zero (rows:List Rw) (labs:List Str):Sh80 rows labs 0 []:=⟨rfl,(fun x h=>nomatch h),List.nodup_nil,Nat.le_refl _,(fun l h=>nomatch h),fun t _ h=>absurd h (Nat.not_lt_zero _)⟩
theorem Sh80.step {rows:List Rw} {labs ws:List Str} {i:Nat} {ls:List Ln} {c1 c2 c3:Bool} (h:Sh80 rows labs i ls) (g:Lb80 (rows.length+4) labs ws) (hn:rows.length≤200) (ok:∀r∈rows,r.ok rows.length) (hi:i≤rows.length) (h1:i∈plcs rows→c1=true) (h2:c2=true→i<3) :
  Sh80 rows labs (i+1) (ls++(lns80 rows labs i c1 c2 c3++lrw rows i)):=by
 have r0:rowsOf (lns80 rows labs i c1 c2 c3)=[]:=by unfold lns80;cases c1 <;> cases c2 <;> cases c3 <;> rfl
 have r1:rowsOf (lrw rows i)=(rows[i]?).toList:=by unfold lrw;cases rows[i]? <;> rfl
 have l1:lbsOf (lrw rows i)=[]:=by unfold lrw;cases rows[i]? <;> rfl
 have ll:(lrw rows i).length≤1:=by unfold lrw;cases rows[i]? <;> exact Nat.le_of_ble_eq_true rfl
 have l0:lbsOf (lns80 rows labs i c1 c2 c3)=(if c1 then [Lf labs i] else [])++(if c2 then [Lf labs (rows.length+1+i)] else []):=by unfold lns80;cases c1 <;> cases c2 <;> cases c3 <;> rfl
 have m0:∀x∈lbsOf (lns80 rows labs i c1 c2 c3),∃t,x=Lf labs t∧t<rows.length+4∧(t=i∨t=rows.length+1+i):=fun x hx=>by
  rw [l0] at hx
  rcases List.mem_append.mp hx with hx|hx
  ·cases c1 with
   | true=>exact ⟨i,List.mem_singleton.mp hx,by omega, .inl rfl⟩
   | false=>cases hx
  ·cases c2 with
   | true=>exact ⟨_,List.mem_singleton.mp hx,by have:=h2 rfl;omega, .inr rfl⟩
   | false=>cases hx
 refine ⟨?_,fun x hx => ?_,?_,?_,fun l hl => ?_,fun t ht hti => ?_⟩
 ·rw [rowsOf_app,rowsOf_app,r0,r1,h.rw',List.nil_append,List.take_succ]
 ·rw [lbsOf_app,lbsOf_app,l1,List.append_nil] at hx
  rcases List.mem_append.mp hx with hx|hx
  ·obtain ⟨t,e,e1,e2⟩:=h.lb x hx
   exact ⟨t,e,e1,by omega⟩
  ·obtain ⟨t,e,e1,e2⟩:=m0 x hx
   exact ⟨t,e,e1,by omega⟩
 ·rw [lbsOf_app,lbsOf_app,l1,List.append_nil]
  refine List.nodup_append.mpr ⟨h.nd,?_,fun a ha b hb e => ?_⟩
  ·rw [l0]
   cases c1 with
   | false=>
    cases c2 with
    | false=>exact List.nodup_nil
    | true=>exact List.nodup_cons.mpr ⟨(fun h=>nomatch h),List.nodup_nil⟩
   | true=>
    cases c2 with
    | false=>exact List.nodup_cons.mpr ⟨(fun h=>nomatch h),List.nodup_nil⟩
    | true=>
     refine List.nodup_cons.mpr ⟨fun z => ?_,List.nodup_cons.mpr ⟨(fun h=>nomatch h),List.nodup_nil⟩⟩
     have:=g.inj (by omega) (by have:=h2 rfl;omega) (List.mem_singleton.mp z)
     omega
  ·obtain ⟨t,e1,e2,e3⟩:=h.lb a ha
   obtain ⟨u,f1,f2,f3⟩:=m0 b hb
   have:=g.inj e2 f2 (by rw [←e1, ←f1,e])
   omega
 ·have:(lns80 rows labs i c1 c2 c3).length≤3:=by unfold lns80;cases c1 <;> cases c2 <;> cases c3 <;> exact Nat.le_of_ble_eq_true rfl
  have:=h.len
  rw [List.length_append,List.length_append]
  omega
 ·rcases List.mem_append.mp hl with hl|hl
  ·exact h.ok l hl
  rcases List.mem_append.mp hl with hl|hl
  ·unfold lns80 at hl
   rcases List.mem_append.mp hl with hl|hl
   ·rcases List.mem_append.mp hl with hl|hl
    ·cases c1 with
     | true=>rw [List.mem_singleton.mp hl];exact g.nam (by omega)
     | false=>cases hl
    ·cases c2 with
     | true=>rw [List.mem_singleton.mp hl];exact g.nam (by have:=h2 rfl;omega)
     | false=>cases hl
   ·cases c3 with
    | true=>rw [List.mem_singleton.mp hl];trivial
    | false=>cases hl
  ·unfold lrw at hl
   cases e:rows[i]? with
   | none=>rw [e] at hl;cases hl
   | some r=>
    rw [e] at hl
    rw [List.mem_singleton.mp hl]
    have hr:r∈rows:=List.mem_of_getElem? e
    refine ⟨?_,fun t ht=>g.nam (by have:=plc_le (ok r hr) ht;omega)⟩
    have:=ok r hr
    cases r with
    | jump t=>exact Nat.le_trans this hn
    | zero p t=>exact ⟨this.1,Nat.le_trans this.2 hn⟩
    | set p q=>exact this
    | add p q=>exact this
    | take p q=>exact this
    | tell p=>exact this
    | ask p=>exact this
    | stop=>exact this
 ·by_cases e:t<i
  ·obtain ⟨A,C,e1,e2⟩:=h.at' t ht e
   exact ⟨A,C++(lns80 rows labs i c1 c2 c3++lrw rows i),by rw [e1,List.append_assoc,List.cons_append],e2⟩
  ·have e:t=i:=by omega
   subst e
   refine ⟨ls,(if c2 then [.lb (Lf labs (rows.length+1+t))] else [])++(if c3 then [.em] else [])++lrw rows t,?_,by rw [h.rw',List.length_take];omega⟩
   unfold lns80
   rw [h1 ht,if_pos rfl]
   simp only [List.append_assoc,List.cons_append,List.nil_append]
theorem Sh80.sheet {rows:List Rw} {labs ws:List Str} {ls:List Ln} (h:Sh80 rows labs (rows.length+1) ls) (hn:rows.length≤40) (ok:∀r∈rows,r.ok rows.length):Ex2 fun (L:Nat→Str) (ls':List Ln)=>shT (Lf labs) ls=shT L ls'∧Sheet L ls'∧rowsOf ls'=rows∧ls'.length≤170:=by
 have er:rowsOf ls=rows:=by rw [h.rw',List.take_of_length_le (by omega)]
 cases ls with
 | nil=>
  have er:[]=rows:=er
  subst er
  exact ⟨Lf labs,[.em],rfl,⟨(fun z=>nomatch z),fun l hl=>by rw [List.mem_singleton.mp hl];trivial,List.nodup_nil,Nat.zero_le _,by show 1≤1000;omega,fun r hr=>nomatch hr⟩,rfl,by show 1≤170;omega⟩
 | cons l0 l1=>
  refine ⟨Lf labs,l0 :: l1,rfl,⟨(fun z=>nomatch z),h.ok,h.nd,by rw [er];omega,by have:=h.len;omega,fun r hr t ht => ?_⟩,er,by have:=h.len;omega⟩
  rw [er] at hr
  exact h.at' t (plcs_in hr ht) (by have:=plc_le (ok r hr) ht;omega)
end Z
namespace Z
open PySem L2 PyProof.Rows
def spWrd:Sp:=fun vs H Q _=>Ex4 fun (b c:Addr) (t:Int) (m:Nat)=>vs=[.ref b, .int m]∧Bx H b c t∧0≤t∧t<9000000∧1≤m∧m≤100∧∀(x:Str) H' t',1≤x.length→x.length≤m→(∀ch∈x.cps.toList,97≤ch∧ch≤122)→Step b c H H' t t' (m+1)→Q (.str x) H'
def spSht (K:PySem.W.Frag):Sp:=fun vs H Q _=>Ex6 fun (b c:Addr) (t:Int) (p:Addr) (us:List V) (rows:List Rw)=>∃e:Bool,vs=[.ref b, .ref p, .bl e]∧Bx H b c t∧0≤t∧t<8000000∧H p=some (.lst us)∧p≠b∧p≠c∧Tups H rows us∧rows.length≤40∧(∀r∈rows,r.ok rows.length) ∧
 ∀(L:Nat→Str) (ls:List Ln) H' t',Sheet L ls→rowsOf ls=rows→ls.length≤170→Step b c H H' t t' 1000→Q (.str (shT L ls)) H'
theorem inV_nats {zs:List Nat} {k:Nat} : inV (.int (k:Nat)) ((zs.map fun t:Nat=>(t:Int)).map V.int)=true ↔ k∈zs:=by
 unfold inV
 rw [List.map_map,List.any_map,List.any_eq_true]
 constructor
 ·rintro ⟨c,hc,e⟩
  have e:((c:Nat):Int)=k:=by simpa [eqV] using e
  rw [show k=c by omega];exact hc
 ·intro h
  exact ⟨k,h,by simp [eqV]⟩
structure G80 (b c:Addr) (H Hx:Hp) (t tx:Int) (lp rl:Addr) (labs:List Str) (ls:List Ln) (N:Int):Prop where
 lb:Hx lp=some (.lst (labs.map V.str))
 rl:Hx rl=some (.lst ((ls.map (lnT (Lf labs))).map V.str))
 st:Step b c H Hx t tx N
theorem G80.step {b c:Addr} {H Hx Hy:Hp} {t tx ty:Int} {lp rl:Addr} {labs:List Str} {ls:List Ln} {N M:Int} (g:G80 b c H Hx t tx lp rl labs ls N) (s:Step b c Hx Hy tx ty M) (l0:H lp=none) (r0:H rl=none) (bx:Bx H b c t):G80 b c H Hy t ty lp rl labs ls (N+M):=
 ⟨s.old g.lb (bx.ne_new l0).1 (bx.ne_new l0).2,s.old g.rl (bx.ne_new r0).1 (bx.ne_new r0).2,g.st.trans s⟩
theorem G80.same {b c:Addr} {H Hx Hy:Hp} {t tx:Int} {lp rl:Addr} {labs:List Str} {ls:List Ln} {N:Int} (g:G80 b c H Hx t tx lp rl labs ls N) (s:Same Hx Hy):G80 b c H Hy t tx lp rl labs ls N:=
 ⟨s _ _ g.lb,s _ _ g.rl,(g.st.trans (Step.same g.st.bx s)).more (by omega)⟩
theorem G80.app {b c:Addr} {H Hx Hy:Hp} {t tx:Int} {lp rl:Addr} {labs:List Str} {ls:List Ln} {N:Int} {l:Ln} (g:G80 b c H Hx t tx lp rl labs ls N) (r0:H rl=none) (bx:Bx H b c t) (ne:lp≠rl) (cg:Chg Hx rl (.lst ((ls.map (lnT (Lf labs))).map V.str++[.str (lnT (Lf labs) l)])) Hy):G80 b c H Hy t tx lp rl labs (ls++[l]) N:=
 ⟨by rw [cg.ne ne];exact g.lb,by rw [cg.at];simp only [List.map_append,List.map_cons,List.map_nil],g.st.chgN cg r0 (bx.ne_new r0).1 (bx.ne_new r0).2⟩
section
variable {P:Program} {w:World} {K:PySem.W.Frag} {mg:Str→Option Value} {base:Heap} {f:Addr} {fd:FuncData} {C:Addr}
theorem sc_law_word:FnScope ["_law_state", "_law_most", "_law_letters"] ["_law_state", "_law_most"] (defScope (top i_law_word)):=⟨rfl,rfl,rfl,by decide +kernel,rfl,by decide +kernel,by decide +kernel⟩
theorem ok_wrd (F:Fun K "_law_word" "_law_word" (top i_law_word) f fd) (T:Nm mg) (f_law_take:Fn P w K mg base 1 "_law_take" ["_law_state", "_law_many_here"] spTk):FnOk P w K mg base CX0 2 f fd ["_law_state", "_law_most"] spWrd:=by
 refine F.ok sc_law_word (fun vs H Q E h => ?_) (fun cdv A outer s H vs Q E hr h => ?_)
 ·obtain ⟨b,c,t,n,rfl,_⟩:=h
  rfl
 obtain ⟨b,c,t,m,rfl,bx,t0,t1,m1,mh,q⟩:=h
 have hu6:=hr.units
 refine ⟨_,(pss_cons (ps_set (i:=2) sc_law_word.nd rfl (Or.inr rfl) pe_str)
  (pss_one (ps_ret (bmK K PySem.F.plainAttrs_str PySem.F.slot_str_join PySem.F.type_str_join (joinK K) pe_str (pa_cons (pe_lcomp rfl (comp_ok (Nc:=["_law_turn"]) (Fc:=["_law_letters", "_law_state"]) (js:=[2,0])) (pi_range1 rfl T.n_range (pa_cons (pe_op addN pe_int (pe_fn (f_law_take.mono (by decide)) hr rfl (pa_cons (pv 0) (pa_cons (pv 1) pa_nil)))) pa_nil)) (gk_name (i:=0) (n:=1) (by decide)) (fun _ _ _ _ _=>(pg_name (i:=0) (ndS ["_law_turn", "_law_letters", "_law_state"]) rfl (Or.inl rfl))) (fun _ _ _ _ _=>pts_nil) (fun _ _ _ _ _=>(pe_ix (ixK K) (pv 1) (pe_fn (f_law_take.mono (by decide)) hr rfl (pa_cons (pv 2) (pa_cons pe_int pa_nil))) (fun _ _=>rfl)))) pa_nil))))),?_⟩
 have sl:sSmall.length=26:=by decide +kernel
 refine gn ⟨rfl,_,rfl,_,rfl,b,c,t,m,rfl,bx,by omega,by omega,by omega,by omega,fun r H1 r0 r1 st1 => .inl ⟨_,_,rfl,rfl,_,rfl,by omega,by omega,?_⟩⟩
 refine comp_go (N:=(1+r).toNat) (fun k ys H'=>Ex2 fun (zs:List Str) (t':Int)=>ys=zs.map V.str∧zs.length=k∧(∀x∈zs,∃ch:Nat,x=⟨#[ch]⟩∧97≤ch∧ch≤122)∧Step b c H H' t t' (1+k)) ⟨[],_,rfl,rfl,(fun _ h=>nomatch h),st1.more (by omega)⟩ ?_ ?_
 ·intro k ys H2 Ny hk hz_ ny
  refine Elim.el hz_ _ ?_
  clear hz_
  rintro zs t2 rfl hzl hz st2
  have ub2:=st2.ub
  have lo2:=st2.le
  refine ⟨hk,by rw [List.length_map,hzl];exact Nat.lt_of_lt_of_le (show k<1000 by omega) (by decide),?_⟩
  rintro x H3 ⟨rfl,rfl⟩
  refine gn ?_
  dsimp only [tYes]
  rw [if_pos rfl]
  refine ⟨_,rfl,_,rfl,b,c,t2,26,rfl,st2.bx,by omega,by omega,by decide,by decide,fun d H4 d0 d1 st4 => ?_⟩
  obtain ⟨d,rfl⟩:∃k:Nat,d=k:=⟨d.toNat,by omega⟩
  refine .inr (.inr ⟨_,_,_,rfl,rfl,by rw [show (Str.ofString "abcdefghijklmnopqrstuvwxyz")=sSmall from rfl,sl];decide,small_at (by omega),ny _ _ ⟨zs++[⟨#[97+d]⟩],_,by rw [List.map_append];rfl,by rw [List.length_append,hzl];rfl,fun x hx => ?_,(st2.trans st4).more (by omega)⟩⟩)
  rcases List.mem_append.mp hx with h|h
  ·exact hz x h
  ·exact ⟨_,List.mem_singleton.mp h,by omega,by omega⟩
 ·intro ys H2
  refine Elim.go ?_
  rintro zs t2 rfl hzl hz st2
  refine ⟨Nat.le_refl _,fun p hp=>⟨_,p,zs,rfl,rfl,SqL.of upd_same,?_,?_⟩⟩
  ·rw [(ones_len fun x hx=>by obtain ⟨k,e,_⟩:=hz x hx;exact ⟨k,e⟩).2]
   show zs.length+zs.length*0≤16777216
   omega
  ·have hn:New H2 p (.lst (zs.map V.str)) (upd H2 p (.lst (zs.map V.str))):=⟨hp,rfl⟩
   have hjl:(Txt.join "" zs).length=zs.length:=by
    rw [str_len,join_list0]
    exact (ones_len fun x hx=>by obtain ⟨k,e,_⟩:=hz x hx;exact ⟨k,e⟩).1
   refine q _ _ t2 (by rw [hjl];omega) (by rw [hjl];omega) (fun ch hc => ?_) ((st2.newN hn).more (by omega))
   rw [join_list0] at hc
   obtain ⟨x,hx,hc⟩:=List.mem_flatMap.mp hc
   obtain ⟨k,rfl,h1,h2⟩:=hz x hx
   have hc:ch∈[k]:=hc
   rw [List.mem_singleton.mp hc]
   exact ⟨h1,h2⟩
theorem sc_law_sheet:FnScope ["_law_state", "_law_program_here", "_law_empty", "_law_names", "_law_letters", "_law_labels", "_law_rows", "_law_place", "_law_row"] ["_law_state", "_law_program_here", "_law_empty"] (defScope (top i_law_sheet)):=⟨rfl,rfl,rfl,by decide +kernel,rfl,by decide +kernel,by decide +kernel⟩
theorem ok_sht (F:Fun K "_law_sheet" "_law_sheet" (top i_law_sheet) f fd) (T:Nm mg) (f_law_take:Fn P w K mg base 1 "_law_take" ["_law_state", "_law_many_here"] spTk) (f_law_word:Fn P w K mg base 2 "_law_word" ["_law_state", "_law_most"] spWrd):FnOk P w K mg base CX0 3 f fd ["_law_state", "_law_program_here", "_law_empty"] (spSht K):=by
 refine F.ok sc_law_sheet (fun vs H Q E h => ?_) (fun cdv A outer s H vs Q E hr h => ?_)
 ·obtain ⟨b,c,t,p,us,rows,e,rfl,_⟩:=h
  rfl
 obtain ⟨b,c,t,p,us,rows,em,rfl,bx,t0,t1,hp,pb,pc,hT,hn,ok,q⟩:=h
 have hu:=hu_of hr
 have hu6:=hr.units
 have hu66:=hu66_of hr
 have small:∀{n:Nat},n≤10000→n<sizeLine:=fun h=>Nat.lt_of_le_of_lt h (by decide)
 have ud:us.length=rows.length:=hT.1
 have sl:sRev.length=26:=by decide +kernel
 refine ⟨_,(pss_cons (ps_set (i:=3) sc_law_sheet.nd rfl (Or.inl rfl) dnewN)
  (pss_cons (ps_set (i:=4) sc_law_sheet.nd rfl (Or.inl rfl) pe_str)
  (pss_cons (ps_while PassesOwn.never (pt_cmpR op_lt (pe_callB call_lenD rfl T.n_len (by rfl) (pa_cons (pv 3) pa_nil)) (pe_op addN (pe_callB (lenK K) rfl T.n_len (by rfl) (pa_cons (pv 1) pa_nil)) pe_int) (nomark _)) (pss_one (ps_dput hu (pv 3) (pe_op addN (pe_op addN (pe_fn (f_law_word.mono (by decide)) hr rfl (pa_cons (pv 0) (pa_cons pe_int pa_nil))) (pe_ix (ixK K) (pv 4) (pe_op op_fdiv (pe_callB call_lenD rfl T.n_len (by rfl) (pa_cons (pv 3) pa_nil)) pe_int) (fun _ _=>rfl))) (pe_ix (ixK K) (pv 4) (pe_op op_mod (pe_callB call_lenD rfl T.n_len (by rfl) (pa_cons (pv 3) pa_nil)) pe_int) (fun _ _=>rfl))) pe_bl rfl)))
  (pss_cons (ps_set (i:=5) sc_law_sheet.nd rfl (Or.inl rfl) (pe_callTy (listD rfl) rfl T.n_list (by rfl) (pa_cons (pv 3) pa_nil)))
  (pss_cons (ps_set (i:=6) sc_law_sheet.nd rfl (Or.inl rfl) (lstN pa_nil))
  (pss_cons (ps_for PassesOwn.never rfl (pi_range1 rfl T.n_range (pa_cons (pe_op addN (pe_callB (lenK K) rfl T.n_len (by rfl) (pa_cons (pv 1) pa_nil)) pe_int) pa_nil)) (pg_name (i:=7) sc_law_sheet.nd rfl (Or.inl rfl)) (pss_cons (ps_if (PW.pt (pw_or (pt_cmpR (inK K) (pv 7) (pe_lcomp rfl (comp_ok (Nc:=["_law_row"]) (Fc:=[]) (js:=[])) (piK K (pv 1)) (gk_name (i:=0) (n:=1) (by decide)) (fun _ _ _ _ _=>(pg_name (i:=0) (ndS ["_law_row"]) rfl (Or.inl rfl))) (fun _ _ _ _ _=>(pts_one (pt_cmpR (inK K) (pe_ix (ixK K) (pv 0) pe_int (fun _ _=>rfl)) (tupN (pa_cons pe_str (pa_cons pe_str pa_nil))) (by with_unfolding_all rfl)))) (fun _ _ _ _ _=>(pe_ix (ixK K) (pv 0) (pe_un un_neg pe_int) (fun _ _=>rfl)))) (by with_unfolding_all rfl)) (pw_or1 (pt_cmpR (eqK K hu6) (pe_fn (f_law_take.mono (by decide)) hr rfl (pa_cons (pv 0) (pa_cons pe_int pa_nil))) pe_int (nomark _))))) (pss_one (ps_expr (bmK K PySem.F.plainAttrs_list PySem.F.slot_list_append PySem.F.type_list_append appendN (pv 6) (pa_cons (pe_op addN (pe_ix (ixK K) (pv 5) (pv 7) (fun _ _=>rfl)) pe_str) pa_nil)))) pss_nil)
  (pss_cons (ps_if (PW.pt (pw_and (pt_cmpR op_lt (pv 7) pe_int (nomark _)) (pw_and1 (pt_cmpR (eqK K hu6) (pe_fn (f_law_take.mono (by decide)) hr rfl (pa_cons (pv 0) (pa_cons pe_int pa_nil))) pe_int (nomark _))))) (pss_one (ps_expr (bmK K PySem.F.plainAttrs_list PySem.F.slot_list_append PySem.F.type_list_append appendN (pv 6) (pa_cons (pe_op addN (pe_ix (ixK K) (pv 5) (pe_op addN (pe_op addN (pe_callB (lenK K) rfl T.n_len (by rfl) (pa_cons (pv 1) pa_nil)) pe_int) (pv 7)) (fun _ _=>rfl)) pe_str) pa_nil)))) pss_nil)
  (pss_cons (ps_if (PW.pt (pw_and (pt_val (pv 2)) (pw_and1 (pt_cmpR (eqK K hu6) (pe_fn (f_law_take.mono (by decide)) hr rfl (pa_cons (pv 0) (pa_cons pe_int pa_nil))) pe_int (nomark _))))) (pss_one (ps_expr (bmK K PySem.F.plainAttrs_list PySem.F.slot_list_append PySem.F.type_list_append appendN (pv 6) (pa_cons pe_str pa_nil)))) pss_nil)
  (pss_one (ps_if (pt_cmpR op_lt (pv 7) (pe_callB (lenK K) rfl T.n_len (by rfl) (pa_cons (pv 1) pa_nil)) (nomark _)) (pss_cons (ps_set (i:=8) sc_law_sheet.nd rfl (Or.inl rfl) (pe_ix (ixK K) (pv 1) (pv 7) (fun _ _=>rfl)))
  (pss_cons (ps_if (pt_cmpR (inK K) (pe_ix (ixK K) (pv 8) pe_int (fun _ _=>rfl)) (tupN (pa_cons pe_str (pa_cons pe_str pa_nil))) (by with_unfolding_all rfl)) (pss_one (ps_set (i:=8) sc_law_sheet.nd rfl (Or.inl rfl) (pe_op (addT K) (pe_slice (slTN K) (pv 8) po_none (po_some (pe_un un_neg pe_int))) (tupN (pa_cons (pe_ix (ixK K) (pv 5) (pe_ix (ixK K) (pv 8) (pe_un un_neg pe_int) (fun _ _=>rfl)) (fun _ _=>rfl)) pa_nil))))) pss_nil)
  (pss_one (ps_expr (bmK K PySem.F.plainAttrs_list PySem.F.slot_list_append PySem.F.type_list_append appendN (pv 6) (pa_cons (bmK K PySem.F.plainAttrs_str PySem.F.slot_str_join PySem.F.type_str_join (joinK K) pe_str (pa_cons (pe_lcomp rfl (comp_ok (Nc:=["_law_part"]) (Fc:=[]) (js:=[])) (pi_tupK K (pv 8)) (gk_name (i:=0) (n:=1) (by decide)) (fun _ _ _ _ _=>(pg_name (i:=0) (ndS ["_law_part"]) rfl (Or.inl rfl))) (fun _ _ _ _ _=>pts_nil) (fun _ _ _ _ _=>(pe_callTy (strK K hr.gd hu6) rfl T.n_str (by rfl) (pa_cons (pv 0) pa_nil)))) pa_nil)) pa_nil)))))) pss_nil))))))
  (pss_one (ps_ret (bmK K PySem.F.plainAttrs_str PySem.F.slot_str_join PySem.F.type_str_join (joinK K) pe_str (pa_cons (pv 6) pa_nil)))))))))),?_⟩
 refine fun d H1 n1=>gn ?_
 obtain ⟨db,dc⟩:=bx.ne_new n1.nn
 have st1:=(Step.refl bx).newN n1
 dsimp only
 refine asgCut (te:=tC _) (fun v H'=>v = .str sRev∧H1=H') (fun Qn qn=>qn _ _ ⟨rfl,rfl⟩) ?_
 rintro _ _ ⟨rfl,rfl⟩
 refine gn ?_
 refine seqCut (t:=tWhile _ _) (fun σ H'=>Ex2 fun (ks:List Str) (t':Int) => σ=[some (.ref b),some (.ref p),some (.bl em),some (.ref d),some (.str sRev),none,none,none,none]∧ks.length=rows.length+4∧Ns80 ks∧(lbD ks).map (fun q=>kV q.1)=ks.map V.str∧H' d=some (.dK (lbD ks))∧Step b c H H' t t' 400) (fun Nx nx => ?_) ?_
 ·refine whileGo (fun m σ H'=>Ex2 fun (ks:List Str) (t':Int) => σ=[some (.ref b),some (.ref p),some (.bl em),some (.ref d),some (.str sRev),none,none,none,none]∧ks.length+m=rows.length+4∧Ns80 ks∧(lbD ks).map (fun q=>kV q.1)=ks.map V.str∧H' d=some (.dK (lbD ks))∧Step b c H H' t t' (8*ks.length)) ⟨rows.length+4,[],t,rfl,by simp,(fun i x e=>nomatch e),rfl,n1.at,st1.more (by simp)⟩ ?_
  intro m σ H2
  refine Elim.go ?_
  rintro ks t2 rfl hm hN hk hd2 st2
  have ub2:=st2.ub
  have lo2:=st2.le
  have kl:(lbD ks).length=ks.length:=by have:=congrArg List.length hk;simpa using this
  refine ⟨_,rfl,d,_,rfl,hd2,_,rfl,_,_,rfl, .inl ⟨_,SqL.of (st2.old hp pb pc),rfl⟩, .inl ⟨_,_,rfl,rfl,_,_,rfl,rfl,_,rfl,ite2 (fun e => ?_) (fun e => ?_)⟩⟩
  ·have e:((lbD ks).length:Int)<(us.length:Int)+4:=of_decide_eq_true e
   refine ⟨fun σ' H'=>Ex2 fun (ks:List Str) (t':Int) => σ'=[some (.ref b),some (.ref p),some (.bl em),some (.ref d),some (.str sRev),none,none,none,none]∧ks.length+(m-1)=rows.length+4∧Ns80 ks∧(lbD ks).map (fun q=>kV q.1)=ks.map V.str∧H' d=some (.dK (lbD ks))∧Step b c H H' t t' (8*ks.length),fun σ' H' h=>⟨m-1,by omega,h⟩,?_⟩
   refine ⟨_,rfl,_,rfl,b,c,t2,6,rfl,st2.bx,by omega,by omega,by decide,by decide,fun y H3 t3 y1 y2 y3 st3 => ?_⟩
   have hd3:=st3.old hd2 db dc
   have e1:(((lbD ks).length:Nat):Int) / 26=((ks.length / 26:Nat):Int):=by rw [kl];omega
   have e2:(((lbD ks).length:Nat):Int) % 26=((ks.length % 26:Nat):Int):=by rw [kl];omega
   refine ⟨_,rfl,_,rfl,d,_,rfl,hd3,_,_,rfl,rfl,⟨by decide,by decide⟩,?_⟩
   dsimp only
   rw [e1]
   refine .inr (.inr ⟨_,_,_,rfl,rfl,by rw [sl];decide,rev_at (by omega), .inr (.inl ⟨_,_,rfl,rfl,?_,_,rfl,_,rfl,d,_,rfl,hd3,_,_,rfl,rfl,(by decide:(0:Int)<26),?_⟩)⟩)
   ·show y.length+1≤sizeLine
    exact Nat.le_of_lt (small (by omega))
   dsimp only
   rw [e2]
   refine .inr (.inr ⟨_,_,_,rfl,rfl,by rw [sl];decide,rev_at (by omega), .inr (.inl ⟨_,_,rfl,rfl,?_,?_⟩)⟩)
   ·rw [len_append]
    show y.length+1+1≤sizeLine
    exact Nat.le_of_lt (small (by omega))
   have nx80:N80 ks.length (y++(⟨#[122-ks.length / 26]⟩:Str)++(⟨#[122-ks.length % 26]⟩:Str)):=by
    refine ⟨y.cps.toList,?_,by rw [←str_len];exact y1,by rw [←str_len];exact y2,y3⟩
    rw [str_append_list,str_append_list,List.append_assoc]
    rfl
   generalize y++(⟨#[122-ks.length / 26]⟩:Str)++(⟨#[122-ks.length % 26]⟩:Str)=x at nx80
   have hx:=hN.new (by omega) nx80
   have hv:valV (lbD ks) (.inr x)=none:=lbD_none ks [] hx rfl
   refine ⟨d,_,rfl,DPut.k (k:=Sum.inr x) hd3 (small (by omega)),ks++[x],t3,rfl,by rw [List.length_append];show ks.length+1+(m-1)=_;omega,hN.snoc nx80,?_,?_,?_⟩
   ·rw [lbD_snoc,putK_new _ hv,List.map_append,hk,List.map_append];rfl
   ·rw [lbD_snoc];exact upd_same
   ·have c4:Chg H3 d (.dK (putK (lbD ks) (.inr x) (.bl true))) (upd H3 d (.dK (putK (lbD ks) (.inr x) (.bl true)))):=⟨rfl⟩
    exact ((st2.trans st3).chgN c4 n1.nn db dc).more (by rw [List.length_append];show _≤8*((ks.length+1:Nat):Int);omega)
  ·have e:¬((lbD ks).length:Int)<(us.length:Int)+4:=fun z=>e (decide_eq_true z)
   exact nx _ _ ⟨ks,t2,rfl,by omega,hN,hk,hd2,st2.more (by omega)⟩
 intro σ H2
 refine Elim.go ?_
 rintro ks t2 rfl hkl hN hk hd2 st2
 have ub2:=st2.ub
 have lo2:=st2.le
 refine ⟨_,rfl,d,_,rfl,hd2,fun lp H5 n5=>gn ?_⟩
 rw [hk] at n5
 obtain ⟨labs,ws,el,hl5,lb⟩:∃labs ws,labs=ks∧H5 lp=some (.lst (labs.map V.str))∧Lb80 (rows.length+4) labs ws:=⟨ks,ws10,rfl,n5.at,by have:=hN.lb (by omega);rw [hkl] at this;exact this⟩
 have st5:=st2.newN n5
 have l0:H lp=none:=st2.fresh bx n5.nn
 obtain ⟨lpb,lpc⟩:=bx.ne_new l0
 obtain ⟨t5,st5⟩:∃t5,Step b c H H5 t t5 420:=⟨t2,st5.more (by omega)⟩
 clear n5 el
 have ub5:=st5.ub
 have lo5:=st5.le
 refine ⟨by show 0≤sizeLine;decide,fun rl H6 n6=>gn ?_⟩
 have rl0:H rl=none:=st5.fresh bx n6.nn
 obtain ⟨rlb,rlc⟩:=bx.ne_new rl0
 have lr:lp≠rl:=fun z=>by have:=n6.nn;rw [←z,hl5] at this;cases this
 have pr:p≠rl:=fun z=>by rw [←z,hp] at rl0;cases rl0
 have g6:G80 b c H H6 t t5 lp rl labs [] 420:=⟨n6.same _ _ hl5,n6.at,st5.newN n6⟩
 have rat:∀{Hx:Hp} {tx N:Int},Step b c H Hx t tx N→∀{i:Nat} (hi:i<rows.length),∃rp:Addr,us[i]? = some (.ref rp)∧Hx rp=some (.tup (rows[i].ds.map fV)):=fun st i hi=>by
  obtain ⟨rp,h1,h2⟩:=hT.2 _ _ (List.getElem?_eq_getElem hi)
  exact ⟨rp,h1,TP.step bx st _ _ h2⟩
 have ll:labs.length=rows.length+4:=lb.len
 have lat:∀{t:Nat},t<rows.length+4→atI (labs.map V.str) (t:Int)=some (.str (Lf labs t)):=fun h=>by
  refine at_nat (by omega) ?_
  show (labs.map V.str)[_]? = _
  rw [Int.toNat_natCast,List.getElem?_map,Lf_at (by omega)];rfl
 have lnm:∀{t:Nat},t<rows.length+4→(Lf labs t).length≤8:=fun h=>(lb.nam h).hi
 have room:∀{ls:List Ln},ls.length≤1000→((ls.map (lnT (Lf labs))).map V.str).length<sizeLine:=fun h=>by
  rw [List.length_map,List.length_map];exact small (by omega)
 dsimp only
 refine seqCut (t:=tFor _ _ _) (fun σ H'=>Ex4 fun (x9 x10:Option V) (ls:List Ln) (t':Int) => σ=[some (.ref b),some (.ref p),some (.bl em),some (.ref d),some (.str sRev),some (.ref lp),some (.ref rl),x9,x10]∧Sh80 rows labs (rows.length+1) ls∧G80 b c H H' t t' lp rl labs ls 1000) (fun Nx nx => ?_) ?_
 ·refine ⟨_,rfl,_,_,rfl, .inl ⟨_,SqL.of (g6.st.old hp pb pc),rfl⟩, .inl ⟨_,_,rfl,rfl,_,rfl,by omega,by omega,?_⟩⟩
  refine for_go (N:=rows.length+1) (fun i σ H'=>Ex4 fun (x9 x10:Option V) (ls:List Ln) (t':Int) => σ=[some (.ref b),some (.ref p),some (.bl em),some (.ref d),some (.str sRev),some (.ref lp),some (.ref rl),x9,x10]∧Sh80 rows labs i ls∧G80 b c H H' t t' lp rl labs ls (420+3*i)) ⟨none,none,[],t5,rfl,Sh80.zero rows labs,by simpa using g6⟩ ?_ ?_
  ·intro i σ H7 hi
   refine Elim.go ?_
   rintro x9 x10 ls t7 rfl sh g7
   have ub7:=g7.st.ub
   have lo7:=g7.st.le
   have lsl:=sh.len
   refine ⟨by rw [ud];show i<((rows.length:Int)+1).toNat;omega,?_⟩
   rintro x H8 ⟨rfl,rfl⟩
   refine gn ?_
   rw [Int.zero_add]
   refine seqCut (t:=tIfS _ _ _) (fun σ H'=>Ex3 fun (c1:Bool) (t':Int) (ls1:List Ln) => σ=[some (.ref b),some (.ref p),some (.bl em),some (.ref d),some (.str sRev),some (.ref lp),some (.ref rl),some (.int (i:Nat)),x10]∧ls1=ls++(if c1 then [.lb (Lf labs i)] else [])∧(i∈plcs rows→c1=true)∧G80 b c H H' t t' lp rl labs ls1 (420+3*i+1)) (fun Nx nx => ?_) ?_
   ·have app1:∀{Hx:Hp} {tx:Int},G80 b c H Hx t tx lp rl labs ls (420+3*i+1)→∀Hy,Chg Hx rl (.lst ((ls.map (lnT (Lf labs))).map V.str++[.str (Lf labs i++sCo)])) Hy→Nx [some (.ref b),some (.ref p),some (.bl em),some (.ref d),some (.str sRev),some (.ref lp),some (.ref rl),some (.int (i:Nat)),x10] Hy:=fun g Hy cy=>nx _ _ ⟨true,_,_,rfl,rfl,fun _=>rfl,g.app (l := .lb (Lf labs i)) rl0 bx lr cy⟩
    have put1:∀{Hx:Hp} {tx:Int},G80 b c H Hx t tx lp rl labs ls (420+3*i+1)→_:=fun {Hx tx} g=>app1 g
    refine ⟨_,rfl,_,rfl,p,rfl,⟨_,SqL.of (g7.st.old hp pb pc)⟩,?_⟩
    refine comp_go (N:=rows.length) (fun j ys H'=>Same H8 H'∧ys=((plcs (rows.take j)).map fun t:Nat=>(t:Int)).map V.int) ⟨Same.refl _,rfl⟩ ?_ ?_
    ·rintro j ys H2 Ny hj ⟨sm,rfl⟩ ny
     obtain ⟨rp,h1,h2⟩:=rat g7.st hj
     have hp8:=g7.st.old hp pb pc
     have pll:(plcs (rows.take j)).length≤200:=by
      have:=List.length_filterMap_le plc (rows.take j)
      rw [List.length_take] at this
      unfold plcs
      omega
     refine ⟨⟨_,_,SqL.of (sm _ _ hp8),h1⟩,small (by rw [List.length_map,List.length_map];omega),?_⟩
     rintro x H3 ⟨rfl,hy⟩
     have e:=hy _ (SqL.of (sm _ _ hp8))
     rw [h1] at e;cases e
     have hr2:=sm _ _ h2
     have ept:plcs (rows.take (j+1))=plcs (rows.take j)++plcs [rows[j]]:=by rw [take_next hj];exact List.filterMap_append
     refine ⟨_,rfl, .inr (.inl ⟨rp,_,0,_,rfl,rfl,SqT.of hr2,kind_at _,by show 2≤sizeLine;decide,fun tp H4 n4=>⟨tp,_,rfl, .inr (SqT.of n4.at),rfl,rfl,_,rfl,?_⟩⟩)⟩
     rw [if_neg (show ¬(false=true) from fun z=>nomatch z),jump_inV]
     cases hpl:plc rows[j] with
     | none=>
      refine iteF (ny _ _ ⟨sm.trans n4.same,?_⟩)
      rw [ept,show plcs [rows[j]]=[] by unfold plcs;rw [List.filterMap_cons,hpl];rfl,List.append_nil]
     | some t=>
      refine iteT ⟨_,rfl,_,rfl, .inr (.inl ⟨rp,_,_,_,rfl,rfl,SqT.of (n4.same _ _ hr2),last_at hpl,ny _ _ ⟨sm.trans n4.same,?_⟩⟩)⟩
      rw [ept,show plcs [rows[j]]=[t] by unfold plcs;rw [List.filterMap_cons,hpl];rfl,List.map_append,List.map_append]
      rfl
    ·rintro ys H2 ⟨sm,rfl⟩
     rw [List.take_length]
     refine ⟨⟨_,SqL.of (sm _ _ (g7.st.old hp pb pc)),by rw [ud];exact Nat.le_refl _⟩,fun lq hlq => ?_⟩
     have nl:New H2 lq (.lst (((plcs rows).map fun t:Nat=>(t:Int)).map V.int)) (upd H2 lq (.lst (((plcs rows).map fun t:Nat=>(t:Int)).map V.int))):=⟨hlq,rfl⟩
     generalize upd H2 lq (.lst (((plcs rows).map fun t:Nat=>(t:Int)).map V.int))=H3 at nl
     have g3:=g7.same (sm.trans nl.same)
     refine ⟨lq,_,rfl, .inl (SqL.of nl.at),rfl,by rw [List.all_map];exact List.all_eq_true.mpr fun _ _=>rfl,_,rfl,?_⟩
     rw [if_neg (show ¬(false=true) from fun z=>nomatch z)]
     refine ite2 (fun _ => ?_) (fun e => ?_)
     ·refine iteT ?_
      have g4:G80 b c H H3 t t7 lp rl labs ls (420+3*i+1):=⟨g3.lb,g3.rl,g3.st.more (by omega)⟩
      exact ⟨_,rfl, .inl ⟨rfl,_,SqL.of g4.rl⟩,_,rfl,_,rfl, .inl ⟨lp,_,_,_,rfl,rfl,SqL.of g4.lb,lat (by omega), .inr (.inl ⟨_,_,rfl,rfl,by have:=lnm (t:=i) (by omega);show _+1≤sizeLine;exact sizeOk (by omega),rl,_,_,rfl,rfl,g4.rl,room (by omega),fun Hy cy=>app1 g4 Hy cy⟩)⟩⟩
     ·have hni:i ∉ plcs rows:=fun z=>e (inV_nats.mpr z)
      refine ⟨_,rfl,b,c,t7,6,rfl,g3.st.bx,by omega,by omega,by decide,by decide,fun r H4 r0 r1 s4 => .inl ⟨rfl,_,rfl,ite2 (fun _ => ?_) (fun _ => ?_)⟩⟩
      ·have g4:=g3.step s4 l0 rl0 bx
       exact ⟨_,rfl, .inl ⟨rfl,_,SqL.of g4.rl⟩,_,rfl,_,rfl, .inl ⟨lp,_,_,_,rfl,rfl,SqL.of g4.lb,lat (by omega), .inr (.inl ⟨_,_,rfl,rfl,by have:=lnm (t:=i) (by omega);show _+1≤sizeLine;exact sizeOk (by omega),rl,_,_,rfl,rfl,g4.rl,room (by omega),fun Hy cy=>app1 g4 Hy cy⟩)⟩⟩
      ·exact nx _ _ ⟨false,_,_,rfl,rfl,fun z=>absurd z hni,by rw [if_neg (fun z=>nomatch z),List.append_nil];exact g3.step s4 l0 rl0 bx⟩
   intro σ Ha
   refine Elim.go ?_
   rintro c1 ta ls1 rfl e1 hc1 ga
   have uba:=ga.st.ub
   have loa:=ga.st.le
   have l1l:ls1.length≤4*i+1:=by
    rw [e1,List.length_append]
    have:(if c1 then [Ln.lb (Lf labs i)] else []).length≤1:=by cases c1 <;> exact Nat.le_of_ble_eq_true rfl
    omega
   refine seqCut (t:=tIfS _ _ _) (fun σ H'=>Ex3 fun (c2:Bool) (t':Int) (ls2:List Ln) => σ=[some (.ref b),some (.ref p),some (.bl em),some (.ref d),some (.str sRev),some (.ref lp),some (.ref rl),some (.int (i:Nat)),x10]∧ls2=ls1++(if c2 then [.lb (Lf labs (rows.length+1+i))] else [])∧(c2=true→i<3)∧G80 b c H H' t t' lp rl labs ls2 (420+3*i+2)) (fun Nx nx => ?_) ?_
   ·refine ⟨_,rfl,_,_,rfl,rfl,_,rfl,?_⟩
    refine ite2 (fun e3 => ?_) (fun _ => ?_)
    ·have e3:(i:Int)<3:=of_decide_eq_true e3
     refine ⟨_,rfl,b,c,ta,8,rfl,ga.st.bx,by omega,by omega,by decide,by decide,fun r H4 r0 r1 s4 => .inl ⟨rfl,_,rfl,ite2 (fun _ => ?_) (fun _ => ?_)⟩⟩
     ·have g4:=ga.step s4 l0 rl0 bx
      refine ⟨_,rfl, .inl ⟨rfl,_,SqL.of g4.rl⟩,_,rfl,_,rfl,_,_,rfl, .inl ⟨_,SqL.of (g4.st.old hp pb pc),rfl⟩, .inl ⟨_,_,rfl,rfl,_,rfl, .inl ⟨_,_,rfl,rfl,?_⟩⟩⟩
      rw [show ((us.length:Nat):Int)+1+(i:Int)=((rows.length+1+i:Nat):Int) by omega]
      refine .inl ⟨lp,_,_,_,rfl,rfl,SqL.of g4.lb,lat (by omega), .inr (.inl ⟨_,_,rfl,rfl,by have:=lnm (t:=rows.length+1+i) (by omega);show _+1≤sizeLine;exact sizeOk (by omega),rl,_,_,rfl,rfl,g4.rl,room (by omega),fun Hy cy => ?_⟩)⟩
      have g5:=g4.app (l := .lb (Lf labs (rows.length+1+i))) rl0 bx lr cy
      exact nx _ _ ⟨true,_,_,rfl,rfl,fun _=>by omega,g5.lb,g5.rl,g5.st.more (by omega)⟩
     ·have g4:=ga.step s4 l0 rl0 bx
      refine nx _ _ ⟨false,ta+1,_,rfl,rfl,(fun z=>nomatch z),?_⟩
      rw [if_neg (fun z=>nomatch z),List.append_nil]
      exact ⟨g4.lb,g4.rl,g4.st.more (by omega)⟩
    ·refine nx _ _ ⟨false,ta,_,rfl,rfl,(fun z=>nomatch z),?_⟩
     rw [if_neg (fun z=>nomatch z),List.append_nil]
     exact ⟨ga.lb,ga.rl,ga.st.more (by omega)⟩
   intro σ Hb
   refine Elim.go ?_
   rintro c2 tb ls2 rfl e2 hc2 gb
   have ubb:=gb.st.ub
   have lob:=gb.st.le
   have l2l:ls2.length≤4*i+2:=by
    rw [e2,List.length_append]
    have:(if c2 then [Ln.lb (Lf labs (rows.length+1+i))] else []).length≤1:=by cases c2 <;> exact Nat.le_of_ble_eq_true rfl
    omega
   refine seqCut (t:=tIfS _ _ _) (fun σ H'=>Ex3 fun (c3:Bool) (t':Int) (ls3:List Ln) => σ=[some (.ref b),some (.ref p),some (.bl em),some (.ref d),some (.str sRev),some (.ref lp),some (.ref rl),some (.int (i:Nat)),x10]∧ls3=ls2++(if c3 then [.em] else [])∧G80 b c H H' t t' lp rl labs ls3 (420+3*i+3)) (fun Nx nx => ?_) ?_
   ·refine ⟨_,rfl,em,rfl,?_⟩
    refine ite2 (fun _ => ?_) (fun _ => ?_)
    ·refine ⟨_,rfl,b,c,tb,5,rfl,gb.st.bx,by omega,by omega,by decide,by decide,fun r H4 r0 r1 s4 => .inl ⟨rfl,_,rfl,ite2 (fun _ => ?_) (fun _ => ?_)⟩⟩
     ·have g4:=gb.step s4 l0 rl0 bx
      refine ⟨_,rfl, .inl ⟨rfl,_,SqL.of g4.rl⟩,rl,_,_,rfl,rfl,g4.rl,room (by omega),fun Hy cy => ?_⟩
      rw [show V.str (Str.ofString "")=V.str (lnT (Lf labs) .em) by rw [show (Str.ofString "")=(⟨#[]⟩:Str) by decide +kernel];rfl] at cy
      have g5:=g4.app (l := .em) rl0 bx lr cy
      exact nx _ _ ⟨true,_,_,rfl,rfl,g5.lb,g5.rl,g5.st.more (by omega)⟩
     ·have g4:=gb.step s4 l0 rl0 bx
      refine nx _ _ ⟨false,tb+1,_,rfl,rfl,?_⟩
      rw [if_neg (fun z=>nomatch z),List.append_nil]
      exact ⟨g4.lb,g4.rl,g4.st.more (by omega)⟩
    ·refine nx _ _ ⟨false,tb,_,rfl,rfl,?_⟩
     rw [if_neg (fun z=>nomatch z),List.append_nil]
     exact ⟨gb.lb,gb.rl,gb.st.more (by omega)⟩
   intro σ Hc
   refine Elim.go ?_
   rintro c3 tc ls3 rfl e3 gc
   have l3l:ls3.length≤4*i+3:=by
    rw [e3,List.length_append]
    have:(if c3 then [Ln.em] else []).length≤1:=by cases c3 <;> exact Nat.le_of_ble_eq_true rfl
    omega
   have sh2:=sh.step (c1:=c1) (c2:=c2) (c3:=c3) lb (by omega) ok (by omega) hc1 hc2
   have es:ls++(lns80 rows labs i c1 c2 c3++lrw rows i)=ls3++lrw rows i:=by
    rw [e3,e2,e1]
    unfold lns80
    simp only [List.append_assoc]
   rw [es] at sh2
   have hpc:=gc.st.old hp pb pc
   refine ⟨_,rfl,_,rfl,_,_,rfl, .inl ⟨_,SqL.of hpc,rfl⟩,_,_,rfl,rfl,_,rfl,ite2 (fun e4 => ?_) (fun e4 => ?_)⟩
   ·have e4:(i:Int)<us.length:=of_decide_eq_true e4
    have hi2:i<rows.length:=by omega
    have hin:=List.getElem_mem hi2
    obtain ⟨rp,h1,h2⟩:=rat gc.st hi2
    refine ⟨_,rfl,_,rfl, .inl ⟨p,_,_, .ref rp,rfl,rfl,SqL.of hpc,at_nat (by omega) (by rw [Int.toNat_natCast];exact h1),gn ?_⟩⟩
    dsimp only
    have hLn:∀t,plc rows[i]=some t→Nam (Lf labs t):=fun t ht=>lb.nam (by have:=plc_le (ok _ hin) ht;omega)
    refine seqCut (t:=tIfS _ _ _) (fun σ H'=>∃rq:Addr, σ=[some (.ref b),some (.ref p),some (.bl em),some (.ref d),some (.str sRev),some (.ref lp),some (.ref rl),some (.int (i:Nat)),some (.ref rq)]∧H' rq=some (.tup ((ds2 (Lf labs) rows[i]).map fV))∧Same Hc H') (fun Nx nx => ?_) ?_
    ·refine ⟨_,rfl, .inr (.inl ⟨rp,_,0,_,rfl,rfl,SqT.of h2,kind_at _,by show 2≤sizeLine;decide,fun tp Hd nc=>⟨tp,_,rfl, .inr (SqT.of nc.at),rfl,rfl,_,rfl,?_⟩⟩)⟩
     rw [if_neg (show ¬(false=true) from fun z=>nomatch z),jump_inV]
     have h2c:=nc.same _ _ h2
     cases hpl:plc rows[i] with
     | none=>exact iteF (nx _ _ ⟨rp,rfl,by rw [ds2_none hpl];exact h2c,nc.same⟩)
     | some t=>
      obtain ⟨c1',c2',c3'⟩:=ds2_cut hpl
      have htn:=plc_le (ok _ hin) hpl
      refine iteT ⟨_,rfl,_,rfl,_,rfl,rp,_,rfl,SqT.of h2c,c1',fun cp He nd' => ?_⟩
      have sd:=nc.same.trans nd'.same
      refine ⟨_,rfl,_,rfl,_,rfl, .inr (.inl ⟨rp,_,_,_,rfl,rfl,SqT.of (sd _ _ h2),last_at hpl, .inl ⟨lp,_,_,_,rfl,rfl,SqL.of (sd _ _ gc.lb),lat (by omega),by show 1≤sizeLine;decide,fun tq Hf ne=>⟨cp,tq,_,_,rfl,rfl,SqT.of (ne.same _ _ nd'.at),SqT.of ne.at,?_,c2',(fun z=>nomatch z),fun _ rq Hg nf=>gn (nx _ _ ⟨rq,rfl,?_,sd.trans (ne.same.trans nf.same)⟩)⟩⟩⟩)⟩
      ·show _+1≤100000
       omega
      ·rw [nf.at,ds2_some hpl]
    rintro σ Hd ⟨rq,rfl,hrq,sc⟩
    have hgs:=ds2_gs (ok _ hin) hLn
    have hflat:=ds2_flat (Lf labs) rows[i]
    have gd:=gc.same sc
    refine ⟨_,rfl, .inl ⟨rfl,_,SqL.of gd.rl⟩,rfl,_,rfl,rq,rfl,⟨_,SqT.of hrq⟩,?_⟩
    have dat:∀{j:Nat} (hj:j<(ds2 (Lf labs) rows[i]).length),((ds2 (Lf labs) rows[i]).map fV)[j]? = some (fV (ds2 (Lf labs) rows[i])[j]):=fun hj=>by rw [List.getElem?_map,List.getElem?_eq_getElem hj];rfl
    have dl:(ds2 (Lf labs) rows[i]).length≤3:=by
     have:=wds_len (Lf labs) rows[i]
     rw [←ds2_wds (ok _ hin),List.length_map] at this
     exact this
    refine comp_go (N:=(ds2 (Lf labs) rows[i]).length) (fun j ys H'=>H'=Hd∧ys=(((ds2 (Lf labs) rows[i]).take j).map strD).map V.str) ⟨rfl,rfl⟩ ?_ ?_
    ·rintro j ys He Ny hj ⟨rfl,rfl⟩ ny
     refine ⟨⟨_,_,SqT.of hrq,dat hj⟩,small (by rw [List.length_map,List.length_map,List.length_take];omega),?_⟩
     rintro x Hf ⟨rfl,hy⟩
     have e:=hy _ (SqT.of hrq)
     rw [dat hj] at e;cases e
     dsimp only [tYes]
     refine gn ?_
     rw [if_pos rfl]
     have hm:=List.getElem_mem hj
     have gd':=hgs.at hm
     obtain ⟨z1,z2,z3⟩:=pz_shown _ gd'.pz
     have zw:=gd'.wt
     refine ⟨_,rfl,_,(ds2 (Lf labs) rows[i])[j],rfl,?_,z2,Nat.le_trans gd'.dp (by decide),sizeOk (by omega),ny _ _ ⟨rfl,?_⟩⟩
     ·have hf:flatD (ds2 (Lf labs) rows[i])[j]=true:=List.all_eq_true.mp hflat _ hm
      obtain ⟨v,r',ev,h1,_⟩:=fV_dens (K:=K) (H:=Hf) (ds:=[(ds2 (Lf labs) rows[i])[j]]) (by rw [List.all_cons,hf];rfl)
      injection ev with ev _
      rw [ev];exact h1
     ·rw [take_next hj,List.map_append,List.map_append];rfl
    ·rintro ys He ⟨rfl,rfl⟩
     rw [List.take_length,ds2_wds (ok _ hin)]
     refine ⟨⟨_,SqT.of hrq,by rw [List.length_map];exact Nat.le_refl _⟩,fun wq hwq => ?_⟩
     have nw:New He wq (.lst ((wds (Lf labs) rows[i]).map V.str)) (upd He wq (.lst ((wds (Lf labs) rows[i]).map V.str))):=⟨hwq,rfl⟩
     have ge:=gd.same nw.same
     refine ⟨_,wq,_,rfl,rfl,SqL.of nw.at,?_,rl,_,_,rfl,rfl,ge.rl,room (by omega),fun Hg cg => ?_⟩
     ·have h1:=sum_len (m:=8) (xs:=wds (Lf labs) rows[i]) fun x hx=>(wds_wd (ok _ hin) hLn x hx).2.1
      have h2:=wds_len (Lf labs) rows[i]
      show _+_*1≤_
      omega
     ·rw [show (Str.ofString " ")=sBl by decide +kernel] at cg
      have g5:=ge.app (l := .rw rows[i]) rl0 bx lr cg
      have el:lrw rows i=[.rw rows[i]]:=by unfold lrw;rw [List.getElem?_eq_getElem hi2]
      rw [el] at sh2
      exact ⟨_,_,_,_,rfl,sh2,g5.lb,g5.rl,g5.st.more (by omega)⟩
   ·have e4:¬(i:Int)<us.length:=fun z=>e4 (decide_eq_true z)
    have el:lrw rows i=[]:=by unfold lrw;rw [List.getElem?_eq_none (by omega)]
    rw [el,List.append_nil] at sh2
    exact ⟨_,_,_,_,rfl,sh2,gc.lb,gc.rl,gc.st.more (by omega)⟩
  ·intro σ H7
   refine Elim.go ?_
   rintro x9 x10 ls t7 rfl sh g7
   exact ⟨by rw [ud];show ((rows.length:Int)+1).toNat≤_;omega,nx _ _ ⟨x9,x10,ls,t7,rfl,sh,g7.lb,g7.rl,g7.st.more (by omega)⟩⟩
 intro σ H7
 refine Elim.go ?_
 rintro x9 x10 ls t7 rfl sh g7
 have shl:=sh.len
 refine ⟨rfl,_,rfl,_,rl,_,rfl,rfl,SqL.of g7.rl,?_,?_⟩
 ·have h1:=sum_len (m:=27) (xs:=ls.map (lnT (Lf labs))) fun x hx=>by
   obtain ⟨l,hl',rfl⟩:=List.mem_map.mp hx
   exact ln_len (sh.ok l hl')
  rw [List.length_map] at h1 ⊢
  show _+_*1≤_
  omega
 ·rw [show (Str.ofString "\n")=sNl by decide +kernel]
  refine Elim.el (sh.sheet (ws:=ws) hn ok) _ ?_
  rintro L ls' e1 e2 e3 e4
  show Q (.str (shT (Lf labs) ls)) _
  rw [e1]
  exact q L ls' _ t7 e2 e3 e4 g7.st
end
end Z
namespace Z
open PySem L2 PyProof.Rows
theorem slice_ix (x:Str) (l u:Option Int):(Txt.slice x l u).length≤(PySem.Builtin.Str.strSliceIndices l u 1 x.length).length:=by
 unfold Txt.slice
 split
 case isTrue h=>
  have:(PySem.Builtin.Str.strSliceIndices l u 1 x.length).length=x.length:=by simpa using h
  rw [this];exact Nat.le_refl _
 case isFalse h=>
  rw [str_len]
  show ((List.filterMap _ (PySem.Builtin.Str.strSliceIndices l u 1 x.length)).toArray.toList).length≤_
  rw [List.toList_toArray]
  exact List.length_filterMap_le _ _
theorem slice_asc {x:Str} (h:Asc x) (l u:Option Int):Asc (Txt.slice x l u):=by
 unfold Txt.slice
 split
 ·exact h
 ·intro c hc
  have hc:c∈((List.filterMap (x.cps[·]?) (PySem.Builtin.Str.strSliceIndices l u 1 x.length)).toArray.toList):=hc
  rw [List.toList_toArray,List.mem_filterMap] at hc
  obtain ⟨i,_,e⟩:=hc
  have:=Array.mem_of_getElem? e
  exact h c (by simpa using this)
theorem ix_to (n k:Nat):(PySem.Builtin.Str.strSliceIndices none (some (k:Int)) 1 n).length≤k:=by
 unfold PySem.Builtin.Str.strSliceIndices sliceRange
 simp only [show (1:Int)>0 by decide,if_true,List.length_map,List.length_range,Int.ediv_one]
 split <;> (try split) <;> omega
theorem ix_at (n k:Nat):(PySem.Builtin.Str.strSliceIndices (some (k:Int)) (some ((k:Int)+1)) 1 n).length≤1:=by
 unfold PySem.Builtin.Str.strSliceIndices sliceRange
 simp only [show (1:Int)>0 by decide,if_true,List.length_map,List.length_range,Int.ediv_one]
 split <;> (try split) <;> omega
theorem ix_from (n k:Nat):(PySem.Builtin.Str.strSliceIndices (some ((k:Int)+1)) none 1 n).length≤n-k:=by
 unfold PySem.Builtin.Str.strSliceIndices sliceRange
 simp only [show (1:Int)>0 by decide,if_true,List.length_map,List.length_range,Int.ediv_one]
 split <;> (try split) <;> omega
def Tz (m:Nat) (x:Str):Prop:=Asc x∧x.length≤m
theorem Tz.app {m n:Nat} {x y:Str} (h:Tz m x) (g:Tz n y):Tz (m+n) (x++y):=⟨fun c hc=>by
 rw [str_append_list] at hc
 exact (List.mem_append.mp hc).elim (h.1 c) (g.1 c),by rw [len_append];exact Nat.add_le_add h.2 g.2⟩
theorem Tz.more {m n:Nat} {x:Str} (h:Tz m x) (le:m≤n):Tz n x:=⟨h.1,Nat.le_trans h.2 le⟩
theorem Tz.cut {m:Nat} {x:Str} (h:Tz m x) (l u:Option Int):Tz m (Txt.slice x l u):=⟨slice_asc h.1 l u,Nat.le_trans (Txt.slice_le x l u) h.2⟩
theorem Tz.room {m n:Nat} {x y:Str} (h:Tz m x) (g:Tz n y) (le:m+n≤16000000):x.length+y.length≤sizeLine:=Nat.le_trans (Nat.add_le_add h.2 g.2) (Nat.le_trans le (by decide))
noncomputable abbrev sAll:Str := " !\"#$&'()*+,-./0123456789:;<=>?@ABCDEFGHIJKLMNOPQRSTUVWXYZ[\\]^_`abcdefghijklmnopqrstuvwxyz{|}~\n"
noncomputable abbrev sNear:Str := "0123456789: \nabcdz"
theorem sAll_ok:(sAll.cps.toList.all (fun c=>decide (c<128))&&decide (1≤sAll.length)&&decide (sAll.length≤200))=true:=by decide +kernel
theorem sNear_ok:(sNear.cps.toList.all (fun c=>decide (c<128))&&decide (1≤sNear.length)&&decide (sNear.length≤200))=true:=by decide +kernel
def spSgn:Sp:=fun vs H Q _=>vs=[]∧Q (.str sAll) H
def spSpl:Sp:=fun vs H Q _=>Ex4 fun (b c:Addr) (t:Int) (x:Str)=>vs=[.ref b, .str x]∧Bx H b c t∧0≤t∧t<8000000∧Tz 5000000 x∧∀y H' t',Tz (2*x.length+20) y→Step b c H H' t t' 10→Q (.str y) H'
section
variable {P:Program} {w:World} {K:PySem.W.Frag} {mg:Str→Option Value} {base:Heap} {f:Addr} {fd:FuncData} {C:Addr}
theorem sc_law_signs:FnScope [] [] (defScope (top i_law_signs)):=⟨rfl,rfl,rfl,by decide +kernel,rfl,by decide +kernel,by decide +kernel⟩
theorem ok_sgn (F:Fun K "_law_signs" "_law_signs" (top i_law_signs) f fd) (T:Nm mg):FnOk P w K mg base CX0 1 f fd [] spSgn:=by
 refine F.ok sc_law_signs (fun vs H Q E h => ?_) (fun cdv A outer s H vs Q E hr h => ?_)
 ·obtain ⟨rfl,_⟩:=h
  rfl
 obtain ⟨rfl,q⟩:=h
 exact ⟨_,(pss_one (ps_ret pe_str)),q⟩
theorem sc_law_spelt:FnScope ["_law_state", "_law_text", "_law_way", "_law_near", "_law_signs_here", "_law_sign", "_law_at", "_law_ahead", "_law_here", "_law_behind", "_law_some"] ["_law_state", "_law_text"] (defScope (top i_law_spelt)):=⟨rfl,rfl,rfl,by decide +kernel,rfl,by decide +kernel,by decide +kernel⟩
theorem ok_spl (F:Fun K "_law_spelt" "_law_spelt" (top i_law_spelt) f fd) (T:Nm mg) (f_law_take:Fn P w K mg base 1 "_law_take" ["_law_state", "_law_many_here"] spTk) (f_law_signs:Fn P w K mg base 1 "_law_signs" [] spSgn):FnOk P w K mg base CX0 2 f fd ["_law_state", "_law_text"] spSpl:=by
 refine F.ok sc_law_spelt (fun vs H Q E h => ?_) (fun cdv A outer s H vs Q E hr h => ?_)
 ·obtain ⟨b,c,t,x,rfl,_⟩:=h
  rfl
 obtain ⟨b,c,t,x,rfl,bx,t0,t1,tz,q⟩:=h
 have xl:=tz.2
 refine ⟨_,(pss_cons (ps_par (i:=2) (j:=3) rfl sc_law_spelt.nd rfl rfl (by decide) rfl rfl (pa_cons (pe_fn (f_law_take.mono (by decide)) hr rfl (pa_cons (pv 0) (pa_cons pe_int pa_nil))) (pa_cons (pe_fn (f_law_take.mono (by decide)) hr rfl (pa_cons (pv 0) (pa_cons pe_int pa_nil))) pa_nil)) rfl)
  (pss_cons (ps_set (i:=4) sc_law_spelt.nd rfl (Or.inl rfl) (pe_ix (ixK K) (lstN (pa_cons (pe_fn0 (f_law_signs.mono (by first|decide|exact Nat.le_refl _|omega)) hr rfl) (pa_cons pe_str pa_nil))) (pv 3) (fun _ _=>rfl)))
  (pss_cons (ps_set (i:=5) sc_law_spelt.nd rfl (Or.inl rfl) (pe_ix (ixK K) (pv 4) (pe_fn (f_law_take.mono (by decide)) hr rfl (pa_cons (pv 0) (pa_cons (pe_callB (lenK K) rfl T.n_len (by rfl) (pa_cons (pv 4) pa_nil)) pa_nil))) (fun _ _=>rfl)))
  (pss_cons (ps_set (i:=6) sc_law_spelt.nd rfl (Or.inl rfl) (pe_fn (f_law_take.mono (by decide)) hr rfl (pa_cons (pv 0) (pa_cons (pe_op addN (pe_callB (lenK K) rfl T.n_len (by rfl) (pa_cons (pv 1) pa_nil)) pe_int) pa_nil))))
  (pss_cons (ps_par (i:=7) (j:=8) rfl sc_law_spelt.nd rfl rfl (by decide) rfl rfl (pa_cons (pe_slice (slN K) (pv 1) po_none (po_some (pv 6))) (pa_cons (pe_slice (slN K) (pv 1) (po_some (pv 6)) (po_some (pe_op addN (pv 6) pe_int))) pa_nil)) rfl)
  (pss_cons (ps_set (i:=9) sc_law_spelt.nd rfl (Or.inl rfl) (pe_slice (slN K) (pv 1) (po_some (pe_op addN (pv 6) pe_int)) po_none))
  (pss_cons (ps_set (i:=10) sc_law_spelt.nd rfl (Or.inl rfl) (lstN (pa_cons (pe_op addN (pe_op addN (pe_op addN (pv 7) (pv 5)) (pv 8)) (pv 9)) (pa_cons (pe_op addN (pe_op addN (pv 7) (pv 5)) (pv 9)) (pa_cons (pe_op addN (pv 7) (pv 9)) (pa_cons (pe_op addN (pe_op addN (pe_op addN (pv 7) (pv 8)) (pv 8)) (pv 9)) pa_nil))))))
  (pss_cons (ps_expr (bmK K PySem.F.plainAttrs_list PySem.F.slot_list_append PySem.F.type_list_append appendN (pv 10) (pa_cons (pe_op addN (pe_op addN (pe_op addN (pv 7) (pe_slice (slN K) (pv 9) po_none (po_some pe_int))) (pv 8)) (pe_slice (slN K) (pv 9) (po_some pe_int) po_none)) pa_nil)))
  (pss_cons (ps_set (i:=10) sc_law_spelt.nd rfl (Or.inl rfl) (pe_op addN (pv 10) (lstN (pa_cons (pv 7) (pa_cons (pe_op addN (pv 8) (pv 9)) (pa_cons (pe_op addN (pe_op addN (pe_op addN (pv 7) (pe_op mulS (pv 5) pe_int)) (pv 8)) (pv 9)) pa_nil))))))
  (pss_one (ps_ret (pe_ix (ixK K) (pv 10) (pv 2) (fun _ _=>rfl))))))))))))),?_⟩
 refine ⟨_,rfl,b,c,t,8,rfl,bx,by omega,by omega,by decide,by decide,fun way H1 w0 w1 st1 => ?_⟩
 refine ⟨_,rfl,b,c,_,2,rfl,st1.bx,by omega,by omega,by decide,by decide,fun nr H2 n0 n1 st2=>⟨_,_,rfl,?_⟩⟩
 refine ⟨rfl,by show 2≤sizeLine;decide,fun l1 H3 n3=>⟨_,rfl,?_⟩⟩
 obtain ⟨v,hv,hm⟩:=at_mem (xs:=[V.str sAll,V.str sNear]) n0 n1
 obtain ⟨z,rfl,hz⟩:∃z,v = .str z∧(z.cps.toList.all (fun c=>decide (c<128))&&decide (1≤z.length)&&decide (z.length≤200))=true:=by
  rcases List.mem_cons.mp hm with rfl|hm
  ·exact ⟨_,rfl,sAll_ok⟩
  ·exact ⟨_,List.mem_singleton.mp hm,sNear_ok⟩
 rw [Bool.and_eq_true,Bool.and_eq_true,decide_eq_true_iff,decide_eq_true_iff,List.all_eq_true] at hz
 obtain ⟨⟨za,z1⟩,z2⟩:=hz
 refine .inl ⟨l1,_,nr,_,rfl,rfl,SqL.of n3.at,hv,gn ?_⟩
 have st3:=(st1.trans st2).newN n3
 refine ⟨_,rfl,_,rfl,_,rfl,_,_,rfl,⟨sizeOk (by omega),rfl⟩,b,c,_,_,rfl,st3.bx,by omega,by omega,by omega,by omega,fun j H4 j0 j1 st4 => ?_⟩
 obtain ⟨ch,hch,hcm⟩:=at_mem (xs:=z.cps.toList) j0 (by rw [←str_len];exact j1)
 have hs1:ch<128:=of_decide_eq_true (za ch hcm)
 refine .inr (.inr ⟨_,_,ch,rfl,rfl,sizeOk (by omega),hch,gn ?_⟩)
 have st34:=st3.trans st4
 refine ⟨_,rfl,_,rfl,_,_,rfl,⟨sizeOk (by omega),rfl⟩, .inl ⟨_,_,rfl,rfl,b,c,_,_,rfl,st34.bx,by omega,by omega,by omega,by omega,fun k H5 k0 k1 st5=>gn ?_⟩⟩
 obtain ⟨k,rfl⟩:∃n:Nat,k=n:=⟨k.toNat,by omega⟩
 have st5:=(st34.trans st5).more (show _≤(4:Int) by omega)
 have sz:x.length≤sizeLine:=sizeOk (by omega)
 refine ⟨_,rfl,_,rfl,_,rfl, .inr ⟨_,rfl,sz,?_⟩⟩
 refine ⟨_,rfl,_,rfl,_,rfl,_,rfl, .inl ⟨_,_,rfl,rfl,_,rfl, .inr ⟨_,rfl,sz,⟨_,_,rfl,?_⟩⟩⟩⟩
 refine ⟨_,rfl,_,rfl, .inl ⟨_,_,rfl,rfl,_,rfl, .inr ⟨_,rfl,sz,gn ?_⟩⟩⟩
 have zA:Tz k (Txt.slice x none (some (k:Int))):=⟨slice_asc tz.1 _ _,Nat.le_trans (slice_ix _ _ _) (ix_to _ _)⟩
 have zH:Tz 1 (Txt.slice x (some (k:Int)) (some ((k:Int)+1))):=⟨slice_asc tz.1 _ _,Nat.le_trans (slice_ix _ _ _) (ix_at _ _)⟩
 have zB:Tz (x.length-k) (Txt.slice x (some ((k:Int)+1)) none):=⟨slice_asc tz.1 _ _,Nat.le_trans (slice_ix _ _ _) (ix_from _ _)⟩
 have zS:Tz 1 (⟨#[ch]⟩:Str):=⟨fun c hc=>by rw [List.mem_singleton.mp (show c∈[ch] from hc)];exact hs1,Nat.le_refl _⟩
 have zM:Tz 9 (Txt.mul (⟨#[ch]⟩:Str) 9):=⟨fun c hc=>by rw [mul_one_list] at hc;rw [List.eq_of_mem_replicate hc];exact hs1,len_mul_one rfl (by decide)⟩
 have mok:MulOk (⟨#[ch]⟩:Str) 9:=mulOk_small (show 1≤1000 by decide) (by decide) (by decide)
 generalize Txt.slice x none (some (k:Int))=tA at zA
 generalize Txt.slice x (some (k:Int)) (some ((k:Int)+1))=tH at zH
 generalize Txt.slice x (some ((k:Int)+1)) none=tB at zB
 have szB:tB.length≤sizeLine:=sizeOk (by have:=zB.2;omega)
 have zC:=zB.cut none (some 1)
 have zD:=zB.cut (some 1) none
 have bt:∀{m:Nat} {y:Str},Tz m y→m≤2*x.length+20→∃y',V.str y = .str y'∧Tz (2*x.length+20) y':=fun h le=>⟨_,rfl,h.more le⟩
 rw [show (List.set _ _ _:L2.St)=[some (.ref b),some (.str x),some (.int way),some (.int nr),some (.str z),some (.str ⟨#[ch]⟩),some (.int (k:Nat)),some (.str tA),some (.str tH),some (.str tB),none] from rfl]
 dsimp only
 refine asgCut (te:=tLstN _) (fun v H'=>Ex2 fun (l2:Addr) (L:List V)=>v = .ref l2∧H5 l2=none∧Same H5 H'∧H' l2=some (.lst L)∧L.length=4∧∀v∈L,∃y,v = .str y∧Tz (2*x.length+20) y) (fun Qn qn => ?_) ?_
 ·refine ⟨_,rfl,_,rfl, .inr (.inl ⟨_,_,rfl,rfl,(zA).room zS (by omega),_,rfl, .inr (.inl ⟨_,_,rfl,rfl,((zA).app zS).room zH (by omega),_,rfl, .inr (.inl ⟨_,_,rfl,rfl,(((zA).app zS).app zH).room zB (by omega),_,rfl,_,rfl, .inr (.inl ⟨_,_,rfl,rfl,(zA).room zS (by omega),_,rfl, .inr (.inl ⟨_,_,rfl,rfl,((zA).app zS).room zB (by omega),_,rfl,_,rfl, .inr (.inl ⟨_,_,rfl,rfl,(zA).room zB (by omega),_,rfl,_,rfl, .inr (.inl ⟨_,_,rfl,rfl,(zA).room zH (by omega),_,rfl, .inr (.inl ⟨_,_,rfl,rfl,((zA).app zH).room zH (by omega),_,rfl, .inr (.inl ⟨_,_,rfl,rfl,(((zA).app zH).app zH).room zB (by omega),by show 4≤sizeLine;decide,fun l2 H6 n6=>qn _ _ ⟨l2,_,rfl,n6.nn,n6.same,n6.at,rfl,?_⟩⟩)⟩)⟩)⟩)⟩)⟩)⟩)⟩)⟩)⟩
  intro v hm
  simp only [List.mem_cons,List.not_mem_nil,or_false] at hm
  rcases hm with rfl|rfl|rfl|rfl
  ·exact bt (((zA.app zS).app zH).app zB) (by omega)
  ·exact bt ((zA.app zS).app zB) (by omega)
  ·exact bt (zA.app zB) (by omega)
  ·exact bt (((zA.app zH).app zH).app zB) (by omega)
 intro v H6
 refine Elim.go ?_
 rintro l2 L2 rfl l2n s6 h6 ll2 ok2
 refine gn ?_
 have l20:H l2=none:=st5.fresh bx l2n
 obtain ⟨lb,lc⟩:=bx.ne_new l20
 have st6:=st5.trans (Step.same st5.bx s6)
 refine seqCut (t:=tDrop _) (fun σ H'=>∃L, σ=[some (.ref b),some (.str x),some (.int way),some (.int nr),some (.str z),some (.str ⟨#[ch]⟩),some (.int (k:Nat)),some (.str tA),some (.str tH),some (.str tB),some (.ref l2)]∧H' l2=some (.lst L)∧L.length=5∧(∀v∈L,∃y,v = .str y∧Tz (2*x.length+20) y)∧∃t',Step b c H H' t t' 4) (fun Nx nx => ?_) ?_
 ·refine ⟨_,rfl, .inl ⟨rfl,_,SqL.of h6⟩,_,rfl,_,rfl,_,rfl, .inr ⟨_,rfl,szB, .inr (.inl ⟨_,_,rfl,rfl,zA.room zC (by omega),_,rfl, .inr (.inl ⟨_,_,rfl,rfl,(zA.app zC).room zH (by omega),_,rfl,_,rfl, .inr ⟨_,rfl,szB, .inr (.inl ⟨_,_,rfl,rfl,((zA.app zC).app zH).room zD (by omega),l2,_,_,rfl,rfl,h6,Nat.lt_of_le_of_lt (show L2.length≤100 by omega) (by decide),fun H7 c7=>nx _ _ ⟨_,rfl,c7.at,by rw [List.length_append,ll2];rfl,?_,_,(st6.chgN c7 l20 lb lc).more (by omega)⟩⟩)⟩⟩)⟩)⟩⟩
  intro v hm
  rcases List.mem_append.mp hm with hm|hm
  ·exact ok2 v hm
  ·rw [List.mem_singleton.mp hm];exact bt (((zA.app zC).app zH).app zD) (by omega)
 rintro σ H7 ⟨L7,rfl,h7,ll7,ok7,t7,st7⟩
 refine asgCut (te:=tOp _ _ _) (fun v H'=>Ex3 fun (l4:Addr) (L:List V) (t':Int)=>v = .ref l4∧H' l4=some (.lst L)∧L.length=8∧(∀v∈L,∃y,v = .str y∧Tz (2*x.length+20) y)∧Step b c H H' t t' 4) (fun Qn qn => ?_) ?_
 ·refine ⟨_,rfl,_,rfl,_,rfl,_,rfl, .inr (.inl ⟨_,_,rfl,rfl,zH.room zB (by omega),_,rfl,_,rfl, .inr ⟨_,_,rfl,rfl,mok, .inr (.inl ⟨_,_,rfl,rfl,zA.room zM (by omega),_,rfl, .inr (.inl ⟨_,_,rfl,rfl,(zA.app zM).room zH (by omega),_,rfl, .inr (.inl ⟨_,_,rfl,rfl,((zA.app zM).app zH).room zB (by omega),by show 3≤sizeLine;decide,fun l3 H8 n8 => .inr (.inr ⟨l2,l3,_,_,rfl,rfl,n8.same _ _ h7,n8.at,Nat.le_of_lt (Nat.lt_of_le_of_lt (show L7.length+3≤100 by omega) (by decide)),fun l4 H9 n9=>qn _ _ ⟨l4,_,_,rfl,n9.at,by rw [List.length_append,ll7];rfl,?_,(st7.newN n8).newN n9⟩⟩)⟩)⟩)⟩)⟩⟩)⟩
  intro v hm
  rcases List.mem_append.mp hm with hm|hm
  ·exact ok7 v hm
  ·simp only [List.mem_cons,List.not_mem_nil,or_false] at hm
   rcases hm with rfl|rfl|rfl
   ·exact bt zA (by omega)
   ·exact bt (zH.app zB) (by omega)
   ·exact bt (((zA.app zM).app zH).app zB) (by omega)
 intro v H9
 refine Elim.go ?_
 rintro l4 L t9 rfl h9 ll ok9 st9
 refine gn ?_
 obtain ⟨v,hv,hm⟩:=at_mem (xs:=L) w0 (by omega)
 obtain ⟨y,rfl,hy⟩:=ok9 v hm
 exact ⟨_,rfl,_,rfl, .inl ⟨l4,_,way,_,rfl,rfl,SqL.of h9,hv,q _ _ _ hy (st9.more (by omega))⟩⟩
end
end Z
namespace Z
open PySem L2 PyProof.Rows
theorem joinL_w {c:Nat} : ∀{xs:List (List Nat)},xs≠[]→(joinL c xs).length+1=(xs.map (·.length)).sum+xs.length
 | [],h=>absurd rfl h
 | [x],_=>by simp [joinL]
 | x :: y :: r,_=>by
  have:=joinL_w (c:=c) (xs:=y :: r) (by simp)
  rw [joinL,List.length_append,List.length_cons]
  simp only [List.map_cons,List.sum_cons,List.length_cons] at this ⊢
  omega
def Ryz (m:Nat) (xs:List Str):Prop:=(∀x∈xs,Asc x)∧(xs.map (·.length)).sum+xs.length≤m
theorem Ryz.app {m n:Nat} {xs ys:List Str} (h:Ryz m xs) (g:Ryz n ys):Ryz (m+n) (xs++ys):=⟨fun x hx=>(List.mem_append.mp hx).elim (h.1 x) (g.1 x),by
 rw [List.map_append,List.sum_append,List.length_append]
 have:=h.2
 have:=g.2
 omega⟩
theorem Ryz.more {m n:Nat} {xs:List Str} (h:Ryz m xs) (le:m≤n):Ryz n xs:=⟨h.1,Nat.le_trans h.2 le⟩
theorem len_sg (xs:List Str):((xs.map fun x=>x.cps.toList).map (·.length)).sum=(xs.map (·.length)).sum:=by
 rw [List.map_map];rfl
theorem Ryz.join {m:Nat} {xs:List Str} (h:Ryz m xs):Tz m (Txt.join sNl xs):=by
 constructor
 ·intro c hc
  rw [show sNl=(⟨#[10]⟩:Str) from rfl,sg_joinT] at hc
  rcases joinL_in hc with rfl|⟨y,hy,hc⟩
  ·decide
  ·obtain ⟨x,hx,rfl⟩:=List.mem_map.mp hy
   exact h.1 x hx c hc
 ·rw [str_len,show sNl=(⟨#[10]⟩:Str) from rfl,sg_joinT]
  by_cases e:xs=[]
  ·subst e;exact Nat.zero_le _
  ·have:=joinL_w (c:=10) (xs:=xs.map fun x=>x.cps.toList) (by simpa using e)
   rw [len_sg,List.length_map] at this
   have:=h.2
   omega
theorem Ryz.split {m:Nat} {x:Str} (h:Tz m x):Ryz (m+1) (Txt.split x sNl):=⟨split_asc (c:=10) h.1,by
 have e:=split_join' x 10
 by_cases z:Txt.split x sNl=[]
 ·rw [z];exact Nat.zero_le _
 ·have:=joinL_w (c:=10) (xs:=(Txt.split x sNl).map fun x=>x.cps.toList) (by simpa using z)
  rw [len_sg,List.length_map,show joinL 10 ((Txt.split x sNl).map fun x=>x.cps.toList)=x.cps.toList from e, ←str_len] at this
  have:=h.2
  omega⟩
theorem Ryz.parts {m:Nat} {xs:List Str} (h:Ryz m xs) (k:Nat):Ex3 fun (i j l:Nat)=>i+j+l≤m∧Ryz i (xs.take k)∧Ryz j ((xs.drop k).take 1)∧Ryz l (xs.drop (k+1)):=by
 have e:xs.take k++((xs.drop k).take 1++xs.drop (k+1))=xs:=by
  have e1:(xs.drop k).drop 1=xs.drop (k+1):=by rw [List.drop_drop]
  rw [←e1,List.take_append_drop,List.take_append_drop]
 have s:=h.2
 have a:=h.1
 rw [←e] at s a
 rw [List.map_append,List.map_append,List.sum_append,List.sum_append,List.length_append,List.length_append] at s
 exact ⟨_,_,_,Nat.le_trans (Nat.le_of_eq (by omega)) s,⟨fun x hx=>a x (List.mem_append_left _ hx),Nat.le_refl _⟩,⟨fun x hx=>a x (List.mem_append_right _ (List.mem_append_left _ hx)),Nat.le_refl _⟩,⟨fun x hx=>a x (List.mem_append_right _ (List.mem_append_right _ hx)),Nat.le_refl _⟩⟩
theorem cut_mid (vs:List V) (j:Nat):cutV vs (some (j:Int)) (some ((j:Int)+1))=(vs.drop j).take 1:=by
 unfold cutV
 rw [show ((j:Int)+1)=((j+1:Nat):Int) from rfl,HT.sIx_nat,HT.sIx_nat]
 rcases Nat.lt_or_ge j vs.length with h|h
 ·rw [Nat.min_eq_left (Nat.le_of_lt h),Nat.min_eq_left h,show j.succ-j=1 by omega]
 ·rw [Nat.min_eq_right h,Nat.min_eq_right (Nat.le_succ_of_le h),List.drop_of_length_le (Nat.le_refl _),List.drop_of_length_le h];simp
def Lz (H:Hp) (m:Nat) (v:V):Prop:=Ex2 fun (p:Addr) (ys:List Str)=>v = .ref p∧H p=some (.lst (ys.map V.str))∧Ryz m ys
theorem Lz.same {H H':Hp} {m:Nat} {v:V} (h:Lz H m v) (s:Same H H'):Lz H' m v:=by
 obtain ⟨p,ys,e,a,r⟩:=h
 exact ⟨p,ys,e,s _ _ a,r⟩
theorem Lz.more {H:Hp} {m n:Nat} {v:V} (h:Lz H m v) (le:m≤n):Lz H n v:=by
 obtain ⟨p,ys,e,a,r⟩:=h
 exact ⟨p,ys,e,a,r.more le⟩
def Nnw (H H':Hp):Prop:=∃p o,New H p o H'
theorem Nnw.same {H H':Hp} (h:Nnw H H'):Same H H':=let ⟨_,_,n⟩:=h;n.same
theorem Step.ne {b c:Addr} {H H' H2:Hp} {t t' N:Int} (x:Step b c H H' t t' N) (n:Nnw H' H2):Step b c H H2 t t' N:=let ⟨_,_,n⟩:=n;x.newN n
theorem lz_add {H:Hp} {x y:V} {m n:Nat} {Q:VK} (h:Lz H m x) (g:Lz H n y) (le:m+n≤16000000) (k:∀v H',Nnw H H'→Lz H' (m+n) v→Q v H'):rAddN x y H Q:=by
 obtain ⟨p,xs,rfl,hp,rx⟩:=h
 obtain ⟨q,ys,rfl,hq,ry⟩:=g
 have:=rx.2
 have:=ry.2
 refine .inr (.inr ⟨p,q,_,_,rfl,rfl,hp,hq,by rw [List.length_map,List.length_map];exact Nat.le_trans (show xs.length+ys.length≤16000000 by omega) (by decide),fun r H' nw=>k _ _ ⟨_,_,nw⟩ ⟨r,xs++ys,rfl,?_,rx.app ry⟩⟩)
 rw [List.map_append];exact nw.at
theorem lz_new {H H':Hp} {p:Addr} {m:Nat} {ys:List Str} {L:List V} (n:New H p (.lst L) H') (e:L=ys.map V.str) (r:Ryz m ys):Lz H' m (.ref p):=⟨p,ys,rfl,by rw [n.at,e],r⟩
theorem Ryz.sub {m:Nat} {xs ys:List Str} (h:Ryz m xs) (e:ys.Sublist xs):Ryz m ys:=⟨fun x hx=>h.1 x (e.subset hx),by
 have h2:=h.2
 have l:=e.length_le
 have s:(ys.map (·.length)).sum≤(xs.map (·.length)).sum:=by
  clear h2 l
  induction e with
  | slnil=>exact Nat.le_refl _
  | cons a e ih=>
   rw [List.map_cons,List.sum_cons]
   exact Nat.le_trans (ih ⟨fun x hx=>h.1 x (List.mem_cons_of_mem _ hx),by have:=h.2;rw [List.map_cons,List.sum_cons,List.length_cons] at this;omega⟩) (Nat.le_add_left _ _)
  | cons_cons a e ih=>
   rw [List.map_cons,List.sum_cons,List.map_cons,List.sum_cons]
   exact Nat.add_le_add_left (ih ⟨fun x hx=>h.1 x (List.mem_cons_of_mem _ hx),by have:=h.2;rw [List.map_cons,List.sum_cons,List.length_cons] at this;omega⟩) _
 omega⟩
theorem lz_to {K:PySem.W.Frag} {H:Hp} {v:V} {m:Nat} {Q:VK} (h:Lz H m v) (k:Nat) (q:∀v' H',Nnw H H'→Lz H' m v'→Q v' H'):rSlN K v none (some (k:Int)) H Q:=by
 obtain ⟨p,xs,rfl,hp,rx⟩:=h
 refine .inl ⟨p,_,rfl,SqL.of hp,fun r H' nw=>q _ _ ⟨_,_,nw⟩ ⟨r,xs.take k,rfl,?_,rx.sub (List.take_sublist _ _)⟩⟩
 rw [nw.at,cut_to,List.map_take]
theorem lz_from {K:PySem.W.Frag} {H:Hp} {v:V} {m:Nat} {Q:VK} (h:Lz H m v) (k:Nat) (q:∀v' H',Nnw H H'→Lz H' m v'→Q v' H'):rSlN K v (some (k:Int)) none H Q:=by
 obtain ⟨p,xs,rfl,hp,rx⟩:=h
 refine .inl ⟨p,_,rfl,SqL.of hp,fun r H' nw=>q _ _ ⟨_,_,nw⟩ ⟨r,xs.drop k,rfl,?_,rx.sub (List.drop_sublist _ _)⟩⟩
 rw [nw.at,cut_from,List.map_drop]
theorem split_some (x:Str):1≤(Txt.split x sNl).length:=by
 cases h:Txt.split x sNl with
 | cons a r=>exact Nat.le_add_left _ _
 | nil=>
  exfalso
  have e:=split_join' x 10
  rw [show Txt.split x ⟨#[10]⟩=[] from h] at e
  have:x=(⟨#[]⟩:Str):=str_eq' e.symm
  rw [this] at h
  rw [show sNl=(⟨#[10]⟩:Str) from rfl,split_nil] at h
  cases h
noncomputable abbrev odd81:List Str:=["jump nowhere", "zero a b", "a:", "b:", "set a 256", "tell e", "stop 1", "set b 07", "jump a", ""]
theorem odd81_ok:odd81.all (fun x=>x.cps.toList.all (fun c=>decide (c<128))&&decide (x.length≤12))=true:=by decide +kernel
section
variable {P:Program} {w:World} {K:PySem.W.Frag} {mg:Str→Option Value} {base:Heap} {f:Addr} {fd:FuncData} {C:Addr}
theorem sc_law_line_spelt:FnScope ["_law_state", "_law_text", "_law_way", "_law_odd", "_law_row", "_law_rows", "_law_at", "_law_ahead", "_law_here", "_law_behind", "_law_some"] ["_law_state", "_law_text"] (defScope (top i_law_line_spelt)):=⟨rfl,rfl,rfl,by decide +kernel,rfl,by decide +kernel,by decide +kernel⟩
theorem ok_lsp (F:Fun K "_law_line_spelt" "_law_line_spelt" (top i_law_line_spelt) f fd) (T:Nm mg) (f_law_take:Fn P w K mg base 1 "_law_take" ["_law_state", "_law_many_here"] spTk):FnOk P w K mg base CX0 2 f fd ["_law_state", "_law_text"] spSpl:=by
 refine F.ok sc_law_line_spelt (fun vs H Q E h => ?_) (fun cdv A outer s H vs Q E hr h => ?_)
 ·obtain ⟨b,c,t,x,rfl,_⟩:=h
  rfl
 obtain ⟨b,c,t,x,rfl,bx,t0,t1,tz,q⟩:=h
 have xl:=tz.2
 have nlE:(Str.ofString "\n")=sNl:=by decide +kernel
 refine ⟨_,(pss_cons (ps_set (i:=2) sc_law_line_spelt.nd rfl (Or.inl rfl) (pe_fn (f_law_take.mono (by first|decide|exact Nat.le_refl _|omega)) hr rfl (pa_cons (pv 0) (pa_cons pe_int pa_nil))))
  (pss_cons (ps_set (i:=3) sc_law_line_spelt.nd rfl (Or.inl rfl) (lstN (pa_cons pe_str (pa_cons pe_str (pa_cons pe_str (pa_cons pe_str (pa_cons pe_str (pa_cons pe_str (pa_cons pe_str (pa_cons pe_str (pa_cons pe_str (pa_cons pe_str pa_nil))))))))))))
  (pss_cons (ps_set (i:=4) sc_law_line_spelt.nd rfl (Or.inl rfl) (pe_ix (ixK K) (pv 3) (pe_fn (f_law_take.mono (by first|decide|exact Nat.le_refl _|omega)) hr rfl (pa_cons (pv 0) (pa_cons pe_int pa_nil))) (fun _ _=>rfl)))
  (pss_cons (ps_set (i:=5) sc_law_line_spelt.nd rfl (Or.inl rfl) (bmK K PySem.F.plainAttrs_str PySem.F.slot_str_split PySem.F.type_str_split splitN (pv 1) (pa_cons pe_str pa_nil)))
  (pss_cons (ps_set (i:=6) sc_law_line_spelt.nd rfl (Or.inl rfl) (pe_fn (f_law_take.mono (by first|decide|exact Nat.le_refl _|omega)) hr rfl (pa_cons (pv 0) (pa_cons (pe_callB (lenK K) rfl T.n_len (by rfl) (pa_cons (pv 5) pa_nil)) pa_nil))))
  (pss_cons (ps_par3 (i:=7) (j:=8) (k:=9) rfl sc_law_line_spelt.nd rfl rfl rfl (by decide) (by decide) (by decide) rfl rfl rfl (pa_cons (pe_slice (slN K) (pv 5) po_none (po_some (pv 6))) (pa_cons (pe_slice (slN K) (pv 5) (po_some (pv 6)) (po_some (pe_op addN (pv 6) pe_int))) (pa_cons (pe_slice (slN K) (pv 5) (po_some (pe_op addN (pv 6) pe_int)) po_none) pa_nil))) rfl)
  (pss_cons (ps_set (i:=10) sc_law_line_spelt.nd rfl (Or.inl rfl) (lstN (pa_cons (pe_op addN (pv 7) (pv 9)) (pa_cons (pe_op addN (pe_op addN (pe_op addN (pv 7) (pv 8)) (pv 8)) (pv 9)) (pa_cons (pe_op addN (pe_op addN (pe_op addN (pv 7) (pe_slice (slN K) (pv 9) po_none (po_some pe_int))) (pv 8)) (pe_slice (slN K) (pv 9) (po_some pe_int) po_none)) pa_nil)))))
  (pss_cons (ps_set (i:=10) sc_law_line_spelt.nd rfl (Or.inl rfl) (pe_op addN (pv 10) (lstN (pa_cons (pe_op addN (pe_op addN (pv 7) (pv 9)) (pv 8)) (pa_cons (pe_op addN (pe_op addN (pe_op addN (pv 7) (lstN (pa_cons (pv 4) pa_nil))) (pv 8)) (pv 9)) (pa_cons (pe_op addN (pe_op addN (pv 7) (lstN (pa_cons (pv 4) pa_nil))) (pv 9)) pa_nil))))))
  (pss_one (ps_ret (bmK K PySem.F.plainAttrs_str PySem.F.slot_str_join PySem.F.type_str_join (joinK K) pe_str (pa_cons (pe_ix (ixK K) (pv 10) (pv 2) (fun _ _=>rfl)) pa_nil)))))))))))),?_⟩
 refine ⟨_,rfl,b,c,t,6,rfl,bx,by omega,by omega,by decide,by decide,fun way H1 w0 w1 st1 => ?_⟩
 refine ⟨by show 10≤sizeLine;decide,fun l1 H2 n2 => ?_⟩
 have st2:=st1.newN n2
 refine ⟨_,rfl,_,rfl,b,c,_,10,rfl,st2.bx,by omega,by omega,by decide,by decide,fun j H3 j0 j1 st3 => ?_⟩
 have st23:=st2.trans st3
 obtain ⟨v,hv,hm⟩:=at_mem (xs:=odd81.map V.str) j0 (by show j<10;omega)
 obtain ⟨rw_,hrw,rfl⟩:=List.mem_map.mp hm
 have orow:=List.all_eq_true.mp odd81_ok rw_ hrw
 rw [Bool.and_eq_true,decide_eq_true_iff,List.all_eq_true] at orow
 have zr:Ryz 13 [rw_]:=⟨fun y hy=>by rw [List.mem_singleton.mp hy];exact fun c hc=>of_decide_eq_true (orow.1 c hc),by have:=orow.2;simp only [List.map_cons,List.map_nil,List.sum_cons,List.sum_nil,List.length_cons,List.length_nil];omega⟩
 have l10:H l1=none:=st1.fresh bx n2.nn
 obtain ⟨l1b,l1c⟩:=bx.ne_new l10
 refine .inl ⟨l1,_,j,_,rfl,rfl,SqL.of (st3.old n2.at l1b l1c),hv,gn ?_⟩
 refine ⟨_,rfl,rfl,_,_,rfl,rfl,by decide +kernel,by omega,Nat.le_trans (split_cnt x 10) (by omega),fun lr H4 n4=>gn ?_⟩
 rw [nlE] at n4
 have zs:=Ryz.split (m:=x.length) ⟨tz.1,Nat.le_refl _⟩
 have st4:=st23.newN n4
 have h4:=n4.at
 have lr0:H lr=none:=st23.fresh bx n4.nn
 obtain ⟨lrb,lrc⟩:=bx.ne_new lr0
 have cnt:=split_cnt x 10
 have rl1:1≤(Txt.split x sNl).length:=split_some x
 have cnt2:(Txt.split x sNl).length≤x.length+1:=cnt
 generalize Txt.split x sNl=rs at h4 zs cnt2 n4 rl1
 have rl:(rs.map V.str).length=rs.length:=List.length_map _
 refine ⟨_,rfl,_,rfl,_,_,rfl, .inl ⟨_,SqL.of h4,rfl⟩,b,c,_,_,rfl,st4.bx,by omega,by omega,by rw [rl];omega,by rw [rl];omega,fun k H5 k0 k1 st5=>gn ?_⟩
 rw [rl] at k1
 obtain ⟨k,rfl⟩:∃n:Nat,k=n:=⟨k.toNat,by omega⟩
 have h5:=st5.old h4 lrb lrc
 have st45:=(st4.trans st5).more (show _≤(4:Int) by omega)
 obtain ⟨i,jj,l,le,zA,zH,zB⟩:=zs.parts k
 refine ⟨_,rfl,_,rfl,_,rfl, .inl ⟨lr,_,rfl,SqL.of h5,fun q1 H6 n6 => ?_⟩⟩
 refine ⟨_,rfl,_,rfl,_,rfl,_,rfl, .inl ⟨_,_,rfl,rfl,_,rfl, .inl ⟨lr,_,rfl,SqL.of (n6.same _ _ h5),fun q2 H7 n7 => ?_⟩⟩⟩
 refine ⟨_,rfl,_,rfl, .inl ⟨_,_,rfl,rfl,_,rfl, .inl ⟨lr,_,rfl,SqL.of (n7.same _ _ (n6.same _ _ h5)),fun q3 H8 n8=>⟨_,_,_,rfl,gn ?_⟩⟩⟩⟩
 rw [cut_to] at n6
 rw [cut_mid] at n7
 rw [show ((k:Int)+1)=((k+1:Nat):Int) from rfl,cut_from] at n8
 have lA:=((lz_new n6 (by rw [List.map_take]) zA).same n7.same).same n8.same
 have lH:=(lz_new n7 (by rw [List.map_take,List.map_drop]) zH).same n8.same
 have lB:=lz_new n8 (by rw [List.map_drop]) zB
 have st8:=((st45.newN n6).newN n7).newN n8
 generalize V.ref q1=vA at lA
 generalize V.ref q2=vH at lH
 generalize V.ref q3=vB at lB
 rw [show (List.set _ _ _:L2.St)=[some (.ref b),some (.str x),some (.int way),some (.ref l1),some (.str rw_),some (.ref lr),some (.int (k:Nat)),some vA,some vH,some vB,none] from rfl]
 dsimp only
 have ok:∀{H':Hp} {m:Nat} {v:V},Lz H' m v→m≤2*x.length+20→Lz H' (2*x.length+20) v:=fun h le=>h.more le
 refine asgCut (te:=tLstN _) (fun v H'=>Ex2 fun (l2:Addr) (L:List V)=>v = .ref l2∧Same H8 H'∧H' l2=some (.lst L)∧L.length=3∧(∀v∈L,Lz H' (2*x.length+20) v)∧∃t',Step b c H H' t t' 4) (fun Qn qn => ?_) ?_
 ·refine ⟨_,rfl,_,rfl,lz_add lA lB (by omega) fun v1 Ha na z1 => ?_⟩
  refine ⟨_,rfl,_,rfl,lz_add (lA.same na.same) (lH.same na.same) (by omega) fun v2 Hb nb z2=>⟨_,rfl,lz_add z2 (lH.same (na.same.trans nb.same)) (by omega) fun v3 Hc nc z3=>⟨_,rfl,lz_add z3 (lB.same (na.same.trans (nb.same.trans nc.same))) (by omega) fun v4 Hd nd z4 => ?_⟩⟩⟩
  have sd:=na.same.trans (nb.same.trans (nc.same.trans nd.same))
  refine ⟨_,rfl,_,rfl,_,rfl,lz_to (lB.same sd) 1 fun v5 He ne z5=>lz_add (lA.same (sd.trans ne.same)) z5 (by omega) fun v6 Hf nf z6 => ?_⟩
  have sf:=sd.trans (ne.same.trans nf.same)
  refine ⟨_,rfl,lz_add z6 (lH.same sf) (by omega) fun v7 Hg ng z7 => ?_⟩
  refine ⟨_,rfl,_,rfl,lz_from (lB.same (sf.trans ng.same)) 1 fun v8 Hh nh z8=>lz_add (z7.same nh.same) z8 (by omega) fun v9 Hi ni z9 => ?_⟩
  refine ⟨by show 3≤sizeLine;decide,fun l2 Hj nj=>qn _ _ ⟨l2,_,rfl,sf.trans (ng.same.trans (nh.same.trans (ni.same.trans nj.same))),nj.at,rfl,?_,_,(((((((((st8.ne na).ne nb).ne nc).ne nd).ne ne).ne nf).ne ng).ne nh).ne ni).newN nj⟩⟩
  have s4:=ne.same.trans (nf.same.trans (ng.same.trans (nh.same.trans (ni.same.trans nj.same))))
  intro v hm
  simp only [List.mem_cons,List.not_mem_nil,or_false] at hm
  rcases hm with rfl|rfl|rfl
  ·exact ok (z1.same (nb.same.trans (nc.same.trans (nd.same.trans s4)))) (by omega)
  ·exact ok (z4.same s4) (by omega)
  ·exact ok (z9.same nj.same) (by omega)
 intro v H9
 refine Elim.go ?_
 rintro l2 L2 rfl s9 h9 ll2 ok2 t9 st9
 refine gn ?_
 have lA:=lA.same s9
 have lH:=lH.same s9
 have lB:=lB.same s9
 have rowL:∀{H H':Hp} {r:Addr},New H r (.lst [V.str rw_]) H'→Lz H' 13 (.ref r):=fun n=>lz_new n rfl zr
 refine asgCut (te:=tOp _ _ _) (fun v H'=>Ex2 fun (l2:Addr) (L:List V)=>v = .ref l2∧H' l2=some (.lst L)∧L.length=6∧(∀v∈L,Lz H' (2*x.length+20) v)∧∃t',Step b c H H' t t' 4) (fun Qn qn => ?_) ?_
 ·refine ⟨_,rfl,_,rfl,_,rfl,lz_add lA lB (by omega) fun v1 Ha na z1=>⟨_,rfl,lz_add z1 (lH.same na.same) (by omega) fun v2 Hb nb z2 => ?_⟩⟩
  have sb:=na.same.trans nb.same
  refine ⟨_,rfl,_,rfl,by show 1≤sizeLine;decide,fun r1 Hc nc=>lz_add (lA.same (sb.trans nc.same)) (rowL nc) (by omega) fun v3 Hd nd z3 => ?_⟩
  have sd:=sb.trans (nc.same.trans nd.same)
  refine ⟨_,rfl,lz_add z3 (lH.same sd) (by omega) fun v4 He ne z4=>⟨_,rfl,lz_add z4 (lB.same (sd.trans ne.same)) (by omega) fun v5 Hf nf z5 => ?_⟩⟩
  have sf:=sd.trans (ne.same.trans nf.same)
  refine ⟨_,rfl,_,rfl,by show 1≤sizeLine;decide,fun r2 Hg ng=>lz_add (lA.same (sf.trans ng.same)) (rowL ng) (by omega) fun v6 Hh nh z6=>⟨_,rfl,lz_add z6 (lB.same (sf.trans (ng.same.trans nh.same))) (by omega) fun v7 Hi ni z7 => ?_⟩⟩
  have s5:=ng.same.trans (nh.same.trans ni.same)
  refine ⟨by show 3≤sizeLine;decide,fun l3 Hj nj => .inr (.inr ⟨l2,l3,_,_,rfl,rfl,(sf.trans (s5.trans nj.same)) _ _ h9,nj.at,Nat.le_of_lt (Nat.lt_of_le_of_lt (show L2.length+3≤100 by omega) (by decide)),fun l4 Hk nk=>qn _ _ ⟨l4,_,rfl,nk.at,by rw [List.length_append,ll2];rfl,?_,_,((((((((((st9.ne na).ne nb).newN nc).ne nd).ne ne).ne nf).newN ng).ne nh).ne ni).newN nj).newN nk⟩⟩)⟩
  have s6:=s5.trans (nj.same.trans nk.same)
  intro v hm
  rcases List.mem_append.mp hm with hm|hm
  ·exact (ok2 v hm).same (sf.trans s6)
  ·simp only [List.mem_cons,List.not_mem_nil,or_false] at hm
   rcases hm with rfl|rfl|rfl
   ·exact ok (z2.same (nc.same.trans (nd.same.trans (ne.same.trans (nf.same.trans s6))))) (by omega)
   ·exact ok (z5.same s6) (by omega)
   ·exact ok (z7.same (nj.same.trans nk.same)) (by omega)
 intro v Ha
 refine Elim.go ?_
 rintro l4 L rfl ha ll oka ta sta
 refine gn ?_
 obtain ⟨v,hv,hm⟩:=at_mem (xs:=L) w0 (by omega)
 obtain ⟨pz,ys,rfl,hp,zy⟩:=oka v hm
 have zj:=zy.join
 refine ⟨rfl,_,rfl,_,rfl, .inl ⟨l4,_,way,_,rfl,rfl,SqL.of ha,hv,?_⟩⟩
 refine ⟨_,pz,ys,rfl,rfl,SqL.of hp,?_,?_⟩
 ·have:=zy.2
  rw [show (Str.ofString "\n").length=1 by decide +kernel]
  omega
 rw [nlE]
 exact q _ _ _ zj (sta.more (by omega))
end
end Z
namespace Z
open PySem L2 PyProof.Rows
theorem lbO_lb {x:Str} (h:Nam x):lbO (x++sCo)=some x:=by
 have hl:=h.hi
 unfold lbO sl1
 rw [show Txt.slice (x++sCo) none (some (-1))=x from slice_last (by omega),namB_iff.mpr h,(ends_iff (x++sCo) 58).mpr ⟨x.cps.toList,by rw [str_append_list]⟩]
 rfl
theorem lbO_em:lbO ⟨#[]⟩=none:=by decide +kernel
theorem lbO_rw {L:Nat→Str} {n:Nat} {r:Rw} (h:r.ok n) (hL:∀t,plc r=some t→Nam (L t)):lbO (rowT L r)=none:=by
 unfold lbO
 cases e:Txt.endswith (rowT L r) sCo with
 | false=>rfl
 | true=>
  obtain ⟨y,hy⟩:=(ends_iff (rowT L r) 58).mp e
  have:=row_chars h hL 58 (by rw [hy];exact List.mem_append_right _ List.mem_cons_self)
  omega
theorem numO_num:∀n,n<256→numO (numT n)=some n:=by decide +kernel
theorem sp_in (p:Nat):sp p∈spots4:=by
 match p with
 | 0=>decide +kernel
 | 1=>decide +kernel
 | 2=>decide +kernel
 | n+3=>exact (by decide +kernel:(Str.ofString "d")∈spots4)
theorem spot_ne:("spot" : Str) ≠ "number" ∧ ("near" : Str) ≠ "spot" ∧ ("near" : Str) ≠ "number" ∧ ("number" : Str) ≠ "spot":=by decide +kernel
theorem vl_spot81 (kvs:List (Key×V)) (p:Nat):valO kvs "spot" (sp p)=some (.str (sp p)):=by
 unfold valO;rw [if_pos rfl,if_pos (sp_in p)]
theorem vl_num81 (kvs:List (Key×V)) {n:Int} (h0:0≤n) (h1:n<256):valO kvs "number" (numT n.toNat)=some (.int n):=by
 unfold valO;rw [if_neg spot_ne.2.2.2,if_pos rfl,numO_num _ (by omega)]
 show some (V.int (n.toNat:Int))=_
 rw [Int.toNat_of_nonneg h0]
theorem vl_near81 (kvs:List (Key×V)) (x:Str):valO kvs "near" x=valV kvs (.inr x):=by
 unfold valO;rw [if_neg spot_ne.2.1,if_neg spot_ne.2.2.1]
theorem rowO_rw {kvs:List (Key×V)} {L:Nat→Str} {n:Nat} {r:Rw} (h:r.ok n) (hL:∀t,plc r=some t→Nam (L t)) (hv:∀t,plc r=some t→valV kvs (.inr (L t))=some (.int (t:Nat))):rowO kvs (rowT L r)=some (r.ds.map fV):=by
 have k:=kind_in r
 have e:=prt_kind r
 have main:∀ws,wds L r=kindS r :: ws→ws.length=(prtK (kindS r)).length→vls kvs (kindS r) ws=((r.ds.map fV).drop 1).map some→(.str (kindS r)) :: ((r.ds.map fV).drop 1)=r.ds.map fV→rowO kvs (rowT L r)=some (r.ds.map fV):=fun ws e1 e2 e3 e4=>by
  unfold rowO
  rw [split_row h hL,e1]
  dsimp only
  rw [if_pos ⟨k,e2⟩,e3,if_pos (by rw [List.all_eq_true];intro o ho;obtain ⟨v,_,rfl⟩:=List.mem_map.mp ho;rfl),List.map_map]
  show some (V.str (kindS r) :: List.map (fun v=>v) _)=_
  rw [List.map_id',e4]
 cases r with
 | set p z=>refine main _ rfl (by rw [e];rfl) ?_ rfl;unfold vls;rw [e];show [valO kvs "spot" (sp p),valO kvs "number" (numT z.toNat)]=_;rw [vl_spot81,vl_num81 _ h.2.1 h.2.2];rfl
 | add p z=>refine main _ rfl (by rw [e];rfl) ?_ rfl;unfold vls;rw [e];show [valO kvs "spot" (sp p),valO kvs "spot" (sp z)]=_;rw [vl_spot81,vl_spot81];rfl
 | take p z=>refine main _ rfl (by rw [e];rfl) ?_ rfl;unfold vls;rw [e];show [valO kvs "spot" (sp p),valO kvs "spot" (sp z)]=_;rw [vl_spot81,vl_spot81];rfl
 | tell p=>refine main _ rfl (by rw [e];rfl) ?_ rfl;unfold vls;rw [e];show [valO kvs "spot" (sp p)]=_;rw [vl_spot81];rfl
 | ask p=>refine main _ rfl (by rw [e];rfl) ?_ rfl;unfold vls;rw [e];show [valO kvs "spot" (sp p)]=_;rw [vl_spot81];rfl
 | jump t=>refine main _ rfl (by rw [e];rfl) ?_ rfl;unfold vls;rw [e];show [valO kvs "near" (L t)]=_;rw [vl_near81,hv t rfl];rfl
 | zero p t=>refine main _ rfl (by rw [e];rfl) ?_ rfl;unfold vls;rw [e];show [valO kvs "spot" (sp p),valO kvs "near" (L t)]=_;rw [vl_spot81,vl_near81,hv t rfl];rfl
 | stop=>refine main _ rfl (by rw [e];rfl) ?_ rfl;unfold vls;rw [e];rfl
theorem lp_sheet {L:Nat→Str} : ∀(ls:List Ln) (s:List (Key×V)×Nat),(∀l∈ls,LnOk L 200 l)→((ls.map (lnT L)).foldl lpG s).2=s.2+(rowsOf ls).length∧∀x,x ∉ lbsOf ls→valV ((ls.map (lnT L)).foldl lpG s).1 (.inr x)=valV s.1 (.inr x)
 | [],s,_=>⟨rfl,fun _ _=>rfl⟩
 | l :: ls,s,h=>by
  have ih:=lp_sheet ls (lpG s (lnT L l)) fun l' hl=>h l' (List.mem_cons_of_mem _ hl)
  have hl:=h l List.mem_cons_self
  rw [List.map_cons,List.foldl_cons]
  cases l with
  | lb y=>
   have e:lpG s (lnT L (.lb y))=(putK s.1 (.inr y) (.int (s.2:Nat)),s.2):=by
    unfold lpG;rw [show lbO (lnT L (.lb y))=some y from lbO_lb hl]
   rw [e] at ih ⊢
   refine ⟨ih.1,fun x hx => ?_⟩
   have hx:x ∉ y :: lbsOf ls:=hx
   rw [ih.2 x fun z=>hx (List.mem_cons_of_mem _ z),valV_put,if_neg (fun z=>hx (by rw [Sum.inr.inj z];exact List.mem_cons_self))]
  | em=>
   have e:lpG s (lnT L .em)=s:=by
    unfold lpG;rw [show lbO (lnT L .em)=none from lbO_em];exact if_pos rfl
   rw [e] at ih ⊢
   exact ⟨ih.1,ih.2⟩
  | rw r=>
   have e:lpG s (lnT L (.rw r))=(s.1,s.2+1):=by
    unfold lpG;rw [show lbO (lnT L (.rw r))=none from lbO_rw hl.1 hl.2];exact if_neg (row_len hl.1 hl.2).2
   rw [e] at ih ⊢
   refine ⟨?_,ih.2⟩
   rw [ih.1]
   show s.2+1+(rowsOf ls).length=s.2+(rowsOf ls).length.succ
   omega
theorem lp_at {L:Nat→Str} {A C:List Ln} {x:Str} (h:∀l∈A ++ .lb x :: C,LnOk L 200 l) (nd:(lbsOf (A ++ .lb x :: C)).Nodup):valV (lpA ((A ++ .lb x :: C).map (lnT L))).1 (.inr x)=some (.int ((rowsOf A).length:Nat)):=by
 unfold lpA
 rw [List.map_append,List.foldl_append,List.map_cons,List.foldl_cons]
 have hA:=lp_sheet A ([],0) fun l hl=>h l (List.mem_append_left _ hl)
 have hx:LnOk L 200 (.lb x):=h _ (List.mem_append_right _ List.mem_cons_self)
 rw [(lp_sheet C _ fun l hl=>h l (List.mem_append_right _ (List.mem_cons_of_mem _ hl))).2 x]
 ·have e:∀s,lpG s (lnT L (.lb x))=(putK s.1 (.inr x) (.int (s.2:Nat)),s.2):=fun s=>by
   unfold lpG;rw [show lbO (lnT L (.lb x))=some x from lbO_lb hx]
  rw [e,valV_put,if_pos rfl,hA.1,Nat.zero_add]
 ·rw [lbsOf_app] at nd
  have nd2:(x :: lbsOf C).Nodup:=(List.nodup_append.mp nd).2.1
  exact (List.nodup_cons.mp nd2).1
theorem rd_sheet {L:Nat→Str} {kvs:List (Key×V)} : ∀(ls:List Ln) (i:Nat) (s:List Str×List (List V)),(∀l∈ls,LnOk L 200 l)→(s.1++lbsOf ls).Nodup→s.2.length+(rowsOf ls).length≤200 →
  (∀r∈rowsOf ls,∀t,plc r=some t→valV kvs (.inr (L t))=some (.int (t:Nat)))→rdR kvs (ls.map (lnT L)) i s = .inr (s.2++(rowsOf ls).map fun r=>r.ds.map fV)
 | [],i,s,_,_,_,_=>by show Sum.inr s.2=_;rw [show rowsOf []=[] from rfl,List.map_nil,List.append_nil]
 | l :: ls,i,s,h,nd,le,hv=>by
  have h':∀l'∈ls,LnOk L 200 l':=fun l' hl=>h l' (List.mem_cons_of_mem _ hl)
  have hl:=h l List.mem_cons_self
  rw [List.map_cons]
  unfold rdR
  cases l with
  | lb y=>
   have nd:(s.1++y :: lbsOf ls).Nodup:=nd
   have hy:y ∉ s.1:=fun z=>(List.nodup_append.mp nd).2.2 y z y List.mem_cons_self rfl
   have e:rdS kvs s (lnT L (.lb y))=some (s.1++[y],s.2):=by
    unfold rdS;rw [show lbO (lnT L (.lb y))=some y from lbO_lb hl];exact if_neg hy
   rw [e]
   exact rd_sheet ls (i+1) (s.1++[y],s.2) h' (by rw [List.append_assoc];exact nd) le hv
  | em=>
   have e:rdS kvs s (lnT L .em)=some s:=by
    unfold rdS;rw [show lbO (lnT L .em)=none from lbO_em];exact if_pos rfl
   rw [e]
   exact rd_sheet ls (i+1) s h' nd le hv
  | rw r=>
   have le:s.2.length+((rowsOf ls).length+1)≤200:=le
   have e:rdS kvs s (lnT L (.rw r))=some (s.1,s.2++[r.ds.map fV]):=by
    unfold rdS
    rw [show lbO (lnT L (.rw r))=none from lbO_rw hl.1 hl.2]
    dsimp only
    rw [if_neg (show ¬lnT L (.rw r)=⟨#[]⟩ from (row_len hl.1 hl.2).2),show rowO kvs (lnT L (.rw r))=_ from rowO_rw hl.1 hl.2 (hv r List.mem_cons_self)]
    exact if_neg (by omega)
   rw [e]
   have:=rd_sheet ls (i+1) (s.1,s.2++[r.ds.map fV]) h' nd (by rw [List.length_append];show s.2.length+1+_≤200;omega) fun r' hr=>hv r' (List.mem_cons_of_mem _ hr)
   rw [List.append_assoc] at this
   exact this
theorem Sheet.read {L:Nat→Str} {ls:List Ln} (h:Sheet L ls):readA (shT L ls) = .inr ((rowsOf ls).map fun r=>r.ds.map fV):=by
 unfold readA
 rw [h.split]
 have:=rd_sheet (kvs:=(lpA (ls.map (lnT L))).1) ls 0 ([],[]) h.ok (by simpa using h.nd) (by have:=h.le;simpa using this) fun r hr t ht => ?_
 ·simpa using this
 ·obtain ⟨A,C,e,l⟩:=h.lb r hr t ht
  have ok:=h.ok
  have nd:=h.nd
  rw [e] at ok nd ⊢
  rw [lp_at ok nd,l]
end Z
namespace Z
open PySem L2
def spSame (K:PySem.W.Frag) (n:Nat):Sp:=fun vs H Q _=>Ex3 fun (v1 v2:V) (d:PyData)=>vs=[v1,v2]∧Den K H d v1∧Den K H d v2∧d.depth<n∧d.weight≤1000000∧∀H',Same H H'→Q (.bl true) H'
section
variable {P:Program} {w:World} {K:PySem.W.Frag} {mg:Str→Option Value} {base:Heap} {f:Addr} {fd:FuncData}
theorem sc_law_same:FnScope ["_law_found", "_law_due"] ["_law_found", "_law_due"] (defScope (top i_law_same)):=⟨rfl,rfl,rfl,by decide +kernel,rfl,by decide +kernel,by decide +kernel⟩
theorem ok_same {n:Nat} (F:Fun K "_law_same" "_law_same" (top i_law_same) f fd) (T:Nm mg) (f_law_same:Fn P w K mg base n "_law_same" ["_law_found", "_law_due"] (spSame K n)):FnOk P w K mg base CX0 (n+1) f fd ["_law_found", "_law_due"] (spSame K (n+1)):=by
 refine F.ok sc_law_same (fun vs H Q E h => ?_) (fun cdv A outer s H vs Q E hr h => ?_)
 ·obtain ⟨v1,v2,d,rfl,_⟩:=h
  rfl
 obtain ⟨v1,v2,d,rfl,d1,d2,hn,hw,q⟩:=h
 have hu6:=hr.units
 refine ⟨_,(pss_cons (ps_if (pt_val (pe_callB (isiTK K) rfl T.n_isinstance (by rfl) (pa_cons (pv 1) (pa_cons (tupN (pa_cons (pe_bltn rfl T.n_list (by rfl) (v := .ty "list") rfl) (pa_cons (pe_bltn rfl T.n_tuple (by rfl) (v := .ty "tuple") rfl) pa_nil))) pa_nil)))) (pss_cons (ps_if (PW.pt (pw_or (pt_cmpR (neK K hu6) (pe_callB (isiK K) rfl T.n_isinstance (by rfl) (pa_cons (pv 0) (pa_cons (pe_bltn rfl T.n_list (by rfl) (v := .ty "list") rfl) pa_nil))) (pe_callB (isiK K) rfl T.n_isinstance (by rfl) (pa_cons (pv 1) (pa_cons (pe_bltn rfl T.n_list (by rfl) (v := .ty "list") rfl) pa_nil))) (nomark _)) (pw_or1 (pt_cmpR (neK K hu6) (pe_callB (isiK K) rfl T.n_isinstance (by rfl) (pa_cons (pv 0) (pa_cons (pe_bltn rfl T.n_tuple (by rfl) (v := .ty "tuple") rfl) pa_nil))) (pe_callB (isiK K) rfl T.n_isinstance (by rfl) (pa_cons (pv 1) (pa_cons (pe_bltn rfl T.n_tuple (by rfl) (v := .ty "tuple") rfl) pa_nil))) (nomark _))))) (pss_one (ps_ret pe_bl)) pss_nil)
  (pss_one (ps_ret (pe_and (pe_cmpR (eqK K hu6) (pe_callB (lenK K) rfl T.n_len (by rfl) (pa_cons (pv 0) pa_nil)) (pe_callB (lenK K) rfl T.n_len (by rfl) (pa_cons (pv 1) pa_nil)) (nomark _)) (pe_one (pe_callB (allK K rfl) rfl T.n_all (by rfl) (pa_cons (pe_lcomp rfl (comp_ok (Nc:=["_law_one", "_law_other"]) (Fc:=[]) (js:=[])) (pi_zipK K rfl T.n_zip (pa_cons (pv 0) (pa_cons (pv 1) pa_nil))) (gk_tup (gks_cons (gk_name (i:=0) (n:=2) (by decide)) (gks_cons (gk_name (i:=1) (n:=2) (by decide)) gks_nil gm_name gms_nil) gm_name (gms_cons gm_name gms_nil))) (fun _ _ _ _ _=>(tupK K 2 rfl (pgs_cons (pg_name (i:=0) (ndS ["_law_one", "_law_other"]) rfl (Or.inl rfl)) (pgs_cons (pg_name (i:=1) (ndS ["_law_one", "_law_other"]) rfl (Or.inl rfl)) pgs_nil)))) (fun _ _ _ _ _=>pts_nil) (fun _ _ _ _ _=>(pe_fn (f_law_same.mono (by first|decide|exact Nat.le_refl _|omega)) hr rfl (pa_cons (pv 0) (pa_cons (pv 1) pa_nil))))) pa_nil))))))) pss_nil)
  (pss_cons (ps_if (PW.pt (pw_and (pt_val (pe_callB (isiK K) rfl T.n_isinstance (by rfl) (pa_cons (pv 1) (pa_cons (pe_bltn rfl T.n_int (by rfl) (v := .ty "int") rfl) pa_nil)))) (pw_and1 (pt_not (pt_val (pe_callB (isiK K) rfl T.n_isinstance (by rfl) (pa_cons (pv 1) (pa_cons (pe_bltn rfl T.n_bool (by rfl) (v := .ty "bool") rfl) pa_nil)))))))) (pss_one (ps_ret (pe_and (pe_callB (isiK K) rfl T.n_isinstance (by rfl) (pa_cons (pv 0) (pa_cons (pe_bltn rfl T.n_int (by rfl) (v := .ty "int") rfl) pa_nil))) (pe_and (pe_not (pe_callB (isiK K) rfl T.n_isinstance (by rfl) (pa_cons (pv 0) (pa_cons (pe_bltn rfl T.n_bool (by rfl) (v := .ty "bool") rfl) pa_nil)))) (pe_one (pe_cmpR (eqK K hu6) (pv 0) (pv 1) (nomark _))))))) pss_nil)
  (pss_cons (ps_if (pt_val (pe_callB (isiK K) rfl T.n_isinstance (by rfl) (pa_cons (pv 1) (pa_cons (pe_bltn rfl T.n_str (by rfl) (v := .ty "str") rfl) pa_nil)))) (pss_one (ps_ret (pe_and (pe_callB (isiK K) rfl T.n_isinstance (by rfl) (pa_cons (pv 0) (pa_cons (pe_bltn rfl T.n_str (by rfl) (v := .ty "str") rfl) pa_nil))) (pe_one (pe_cmpR (eqK K hu6) (pv 0) (pv 1) (nomark _)))))) pss_nil)
  (pss_cons (ps_if (pt_cmpR g_is (pv 1) pe_non (nomark _)) (pss_one (ps_ret (pe_cmpR g_is (pv 0) pe_non (nomark _)))) pss_nil)
  (pss_one (ps_ret (pe_and (pe_callB (isiK K) rfl T.n_isinstance (by rfl) (pa_cons (pv 0) (pa_cons (pe_bltn rfl T.n_bool (by rfl) (v := .ty "bool") rfl) pa_nil))) (pe_one (pe_cmpR (eqK K hu6) (pv 0) (pv 1) (nomark _)))))))))),?_⟩
 cases d with
 | none=>
  have d1':=d1
  have d2':=d2
  unfold Den at d1' d2'
  subst d1' d2'
  refine ⟨_,rfl,by show 2≤sizeLine;decide,fun p H1 n1=>⟨_,p,["list", "tuple"], .none,false,rfl,n1.at,d2,rfl,_,rfl,iteF ?_⟩⟩
  refine ⟨_,rfl, .inl ⟨_, "int", .none,false,rfl,d2,rfl,_,rfl,iteF ?_⟩⟩
  refine ⟨_,rfl, .inl ⟨_, "str", .none,false,rfl,d2,rfl,_,rfl,iteF ?_⟩⟩
  exact ⟨_,rfl, .inl ⟨rfl,_,rfl,iteT ⟨_,rfl, .inl ⟨rfl,q H1 n1.same⟩⟩⟩⟩
 | bool b=>
  have d1':=d1
  have d2':=d2
  unfold Den at d1' d2'
  subst d1' d2'
  refine ⟨_,rfl,by show 2≤sizeLine;decide,fun p H1 n1=>⟨_,p,["list", "tuple"], .bool b,false,rfl,n1.at,d2,rfl,_,rfl,iteF ?_⟩⟩
  refine ⟨_,rfl, .inl ⟨_, "int", .bool b,true,rfl,d2,rfl,_,rfl,iteT ⟨_,rfl, .inl ⟨_, "bool", .bool b,true,rfl,d2,rfl,_,rfl,iteF ?_⟩⟩⟩⟩
  refine ⟨_,rfl, .inl ⟨_, "str", .bool b,false,rfl,d2,rfl,_,rfl,iteF ?_⟩⟩
  refine ⟨_,rfl, .inl ⟨rfl,_,rfl,iteF ?_⟩⟩
  refine ⟨_,rfl, .inl ⟨_, "bool", .bool b,true,rfl,d1,rfl,_,rfl,iteT ⟨_,rfl,_,rfl, .inl ⟨rfl,?_⟩⟩⟩⟩
  rw [decide_eq_true rfl]
  exact q H1 n1.same
 | int i=>
  have d1':=d1
  have d2':=d2
  unfold Den at d1' d2'
  subst d1' d2'
  refine ⟨_,rfl,by show 2≤sizeLine;decide,fun p H1 n1=>⟨_,p,["list", "tuple"], .int i,false,rfl,n1.at,d2,rfl,_,rfl,iteF ?_⟩⟩
  refine ⟨_,rfl, .inl ⟨_, "int", .int i,true,rfl,d2,rfl,_,rfl,iteT ⟨_,rfl, .inl ⟨_, "bool", .int i,false,rfl,d2,rfl,_,rfl,iteT ?_⟩⟩⟩⟩
  refine ⟨_,rfl, .inl ⟨_, "int", .int i,true,rfl,d1,rfl,_,rfl,iteT ⟨_,rfl, .inl ⟨_, "bool", .int i,false,rfl,d1,rfl,_,rfl,_,rfl,iteT ⟨_,rfl,_,rfl, .inl ⟨rfl,?_⟩⟩⟩⟩⟩⟩
  rw [decide_eq_true rfl]
  exact q H1 n1.same
 | str x=>
  have d1':=d1
  have d2':=d2
  unfold Den at d1' d2'
  subst d1' d2'
  refine ⟨_,rfl,by show 2≤sizeLine;decide,fun p H1 n1=>⟨_,p,["list", "tuple"], .str x,false,rfl,n1.at,d2,rfl,_,rfl,iteF ?_⟩⟩
  refine ⟨_,rfl, .inl ⟨_, "int", .str x,false,rfl,d2,rfl,_,rfl,iteF ?_⟩⟩
  refine ⟨_,rfl, .inl ⟨_, "str", .str x,true,rfl,d2,rfl,_,rfl,iteT ?_⟩⟩
  refine ⟨_,rfl, .inl ⟨_, "str", .str x,true,rfl,d1,rfl,_,rfl,iteT ⟨_,rfl,_,rfl, .inl ⟨rfl,?_⟩⟩⟩⟩
  rw [decide_eq_true rfl]
  exact q H1 n1.same
 | list ds=>
  have e1:=d1
  have e2:=d2
  unfold Den at e1 e2
  obtain ⟨a1,vs1,rfl,s1,ds1⟩:=e1
  obtain ⟨a2,vs2,rfl,s2,ds2⟩:=e2
  simp only [PyData.depth] at hn
  simp only [PyData.weight] at hw
  have hlw:=len_weight ds
  refine ⟨_,rfl,by show 2≤sizeLine;decide,fun p H1 n1=>⟨_,p,["list", "tuple"], .list ds,true,rfl,n1.at,d2.same n1.same,rfl,_,rfl,iteT ?_⟩⟩
  have b1:=d1.same n1.same
  have b2:=d2.same n1.same
  refine ⟨_,rfl, .inl ⟨_, "list", .list ds,true,rfl,b1,rfl,_,rfl, .inl ⟨_, "list", .list ds,true,rfl,b2,rfl, .inl ⟨rfl,_,rfl,iteF ?_⟩⟩⟩⟩
  refine ⟨_,rfl, .inl ⟨_, "tuple", .list ds,false,rfl,b1,rfl,_,rfl, .inl ⟨_, "tuple", .list ds,false,rfl,b2,rfl, .inl ⟨rfl,_,rfl,iteF ?_⟩⟩⟩⟩
  refine ⟨_,rfl,_,_,rfl, .inl ⟨vs1,n1.same.seq s1,rfl⟩,_,rfl,_,_,rfl, .inl ⟨vs2,n1.same.seq s2,rfl⟩, .inl ⟨rfl,_,rfl,?_⟩⟩
  rw [decide_eq_true (show V.int (vs1.length:Nat)=V.int (vs2.length:Nat) by rw [ds1.len,ds2.len])]
  refine iteT ⟨_,rfl,_,rfl,false,false,a1,a2,rfl,⟨_,n1.same.seq s1⟩,⟨_,n1.same.seq s2⟩,?_⟩
  refine comp_go (N:=ds.length) (fun i ys H'=>Same H1 H'∧ys=(List.replicate i true).map V.bl) ⟨Same.refl _,rfl⟩ ?_ ?_
  ·rintro i ys H2 Nx hi ⟨sm,rfl⟩ nx
   have sm2:=n1.same.trans sm
   obtain ⟨x,hx,dx⟩:=ds1.get (i:=i) (d:=ds[i]) (List.getElem?_eq_getElem hi)
   obtain ⟨y,hy,dy⟩:=ds2.get (i:=i) (d:=ds[i]) (List.getElem?_eq_getElem hi)
   have q1:SqK false K H2 a1 vs1:=sm2.seq s1
   have q2:SqK false K H2 a2 vs2:=sm2.seq s2
   refine ⟨⟨_,_,_,_,q1,q2,hx,hy⟩,by rw [List.length_map,List.length_replicate];exact Nat.lt_of_lt_of_le (show i<10000000 by omega) (by decide),?_⟩
   rintro x' H3 ⟨T',rfl,hN⟩
   have n3:=hN _ _ _ _ q1 q2 hx hy
   refine ⟨T',_,rfl,SqT.of n3.at,rfl,_,_,rfl,_,_,rfl,rfl,?_⟩
   have sm3:=sm2.trans n3.same
   refine ⟨_,rfl,_,rfl,x,y,ds[i],rfl,dx.same sm3,dy.same sm3,?_,?_,fun H4 sm4=>nx _ _ ⟨sm.trans (n3.same.trans sm4),?_⟩⟩
   ·have:=depth_at (n:=n-1) (by omega) (List.getElem_mem hi)
    omega
   ·exact weight_at hw (List.getElem_mem hi)
   ·rw [List.replicate_succ',List.map_append];rfl
  ·rintro ys H2 ⟨sm,rfl⟩
   have sm2:=n1.same.trans sm
   have q1:SqK false K H2 a1 vs1:=sm2.seq s1
   have q2:SqK false K H2 a2 vs2:=sm2.seq s2
   refine ⟨⟨_,_,q1,q2, .inl (by rw [ds1.len];exact Nat.le_refl _)⟩,fun p2 hp2 => ?_⟩
   refine ⟨p2,List.replicate ds.length true,rfl,SqL.of upd_same,?_⟩
   rw [all_true]
   exact q _ (sm2.trans (same_new hp2 _))
 | tuple ds=>
  have e1:=d1
  have e2:=d2
  unfold Den at e1 e2
  obtain ⟨a1,vs1,rfl,s1,ds1⟩:=e1
  obtain ⟨a2,vs2,rfl,s2,ds2⟩:=e2
  simp only [PyData.depth] at hn
  simp only [PyData.weight] at hw
  have hlw:=len_weight ds
  refine ⟨_,rfl,by show 2≤sizeLine;decide,fun p H1 n1=>⟨_,p,["list", "tuple"], .tuple ds,true,rfl,n1.at,d2.same n1.same,rfl,_,rfl,iteT ?_⟩⟩
  have b1:=d1.same n1.same
  have b2:=d2.same n1.same
  refine ⟨_,rfl, .inl ⟨_, "list", .tuple ds,false,rfl,b1,rfl,_,rfl, .inl ⟨_, "list", .tuple ds,false,rfl,b2,rfl, .inl ⟨rfl,_,rfl,iteF ?_⟩⟩⟩⟩
  refine ⟨_,rfl, .inl ⟨_, "tuple", .tuple ds,true,rfl,b1,rfl,_,rfl, .inl ⟨_, "tuple", .tuple ds,true,rfl,b2,rfl, .inl ⟨rfl,_,rfl,iteF ?_⟩⟩⟩⟩
  refine ⟨_,rfl,_,_,rfl, .inr ⟨vs1,n1.same.seqT s1,rfl⟩,_,rfl,_,_,rfl, .inr ⟨vs2,n1.same.seqT s2,rfl⟩, .inl ⟨rfl,_,rfl,?_⟩⟩
  rw [decide_eq_true (show V.int (vs1.length:Nat)=V.int (vs2.length:Nat) by rw [ds1.len,ds2.len])]
  refine iteT ⟨_,rfl,_,rfl,true,true,a1,a2,rfl,⟨_,n1.same.seqT s1⟩,⟨_,n1.same.seqT s2⟩,?_⟩
  refine comp_go (N:=ds.length) (fun i ys H'=>Same H1 H'∧ys=(List.replicate i true).map V.bl) ⟨Same.refl _,rfl⟩ ?_ ?_
  ·rintro i ys H2 Nx hi ⟨sm,rfl⟩ nx
   have sm2:=n1.same.trans sm
   obtain ⟨x,hx,dx⟩:=ds1.get (i:=i) (d:=ds[i]) (List.getElem?_eq_getElem hi)
   obtain ⟨y,hy,dy⟩:=ds2.get (i:=i) (d:=ds[i]) (List.getElem?_eq_getElem hi)
   have q1:SqK true K H2 a1 vs1:=sm2.seqT s1
   have q2:SqK true K H2 a2 vs2:=sm2.seqT s2
   refine ⟨⟨_,_,_,_,q1,q2,hx,hy⟩,by rw [List.length_map,List.length_replicate];exact Nat.lt_of_lt_of_le (show i<10000000 by omega) (by decide),?_⟩
   rintro x' H3 ⟨T',rfl,hN⟩
   have n3:=hN _ _ _ _ q1 q2 hx hy
   refine ⟨T',_,rfl,SqT.of n3.at,rfl,_,_,rfl,_,_,rfl,rfl,?_⟩
   have sm3:=sm2.trans n3.same
   refine ⟨_,rfl,_,rfl,x,y,ds[i],rfl,dx.same sm3,dy.same sm3,?_,?_,fun H4 sm4=>nx _ _ ⟨sm.trans (n3.same.trans sm4),?_⟩⟩
   ·have:=depth_at (n:=n-1) (by omega) (List.getElem_mem hi)
    omega
   ·exact weight_at hw (List.getElem_mem hi)
   ·rw [List.replicate_succ',List.map_append];rfl
  ·rintro ys H2 ⟨sm,rfl⟩
   have sm2:=n1.same.trans sm
   have q1:SqK true K H2 a1 vs1:=sm2.seqT s1
   have q2:SqK true K H2 a2 vs2:=sm2.seqT s2
   refine ⟨⟨_,_,q1,q2, .inl (by rw [ds1.len];exact Nat.le_refl _)⟩,fun p2 hp2 => ?_⟩
   refine ⟨p2,List.replicate ds.length true,rfl,SqL.of upd_same,?_⟩
   rw [all_true]
   exact q _ (sm2.trans (same_new hp2 _))
 | dict _=>unfold Den at d1;exact d1.elim
end
end Z
namespace Z
open PySem L2 PyProof.Rows
def spLaw (K:PySem.W.Frag):Sp:=fun vs H Q _=>Ex2 fun (a:Addr) (ns:List Int)=>vs=[.ref a]∧SqL K H a (ns.map V.int)∧ns.length≤63∧∀H',Q (.bl true) H'
def spRdC (K:PySem.W.Frag):Sp:=fun vs H Q _=>Ex2 fun (L:Nat→Str) (ls:List Ln)=>vs=[.str (shT L ls)]∧Sheet L ls ∧
 ∀p us H',Same H H'→H' p=some (.lst us)→TupV H' ((rowsOf ls).map fun r=>r.ds.map fV) us→Q (.ref p) H'
theorem Sheet.asc {L:Nat→Str} {ls:List Ln} (h:Sheet L ls):Asc (shT L ls):=fun c hc=>by
 unfold shT at hc
 rw [show sNl=(⟨#[10]⟩:Str) from rfl,sg_joinT] at hc
 rcases joinL_in hc with rfl|⟨y,hy,hc⟩
 ·decide
 ·obtain ⟨x,hx,rfl⟩:=List.mem_map.mp hy
  obtain ⟨l,hl,rfl⟩:=List.mem_map.mp hx
  exact (ln_chars (h.ok l hl) c hc).2
theorem sheet_few {L:Nat→Str} {ls:List Ln} (h:Sheet L ls) (h2:ls.length≤170):(shT L ls).length≤4760:=by
 unfold shT
 rw [str_len,show sNl=(⟨#[10]⟩:Str) from rfl,sg_joinT]
 have:=joinL_le (c:=10) (m:=27) (xs:=(ls.map (lnT L)).map fun x=>x.cps.toList) fun y hy=>by
  obtain ⟨x,hx,rfl⟩:=List.mem_map.mp hy
  obtain ⟨l,hl,rfl⟩:=List.mem_map.mp hx
  have:=ln_len (h.ok l hl)
  rw [str_len] at this
  exact this
 rw [List.length_map,List.length_map] at this
 omega
theorem at_last81 {xs:List V} {v:V} (h:xs[xs.length-1]? = some v):atI xs (-1)=some v:=by
 have hl:=(List.getElem?_eq_some_iff.mp h).1
 unfold atI ixN
 rw [if_neg (by decide),if_pos (by omega)]
 show xs[((-1:Int)+xs.length).toNat]? = some v
 rw [show ((-1:Int)+xs.length).toNat=xs.length-1 by omega]
 exact h
theorem den_two {K:PySem.W.Frag} {H:Hp} {d1 d2:PyData} {v:V} (h:Den K H (.tuple [d1,d2]) v):Ex3 fun (p:Addr) (x y:V)=>v = .ref p∧SqT K H p [x,y]∧Den K H d1 x∧Den K H d2 y:=by
 unfold Den at h
 obtain ⟨p,us,rfl,sq,h⟩:=h
 unfold Dens at h
 obtain ⟨x,r,rfl,hx,h⟩:=h
 unfold Dens at h
 obtain ⟨y,r,rfl,hy,h⟩:=h
 unfold Dens at h
 subst h
 exact ⟨p,x,y,rfl,sq,hx,hy⟩
theorem an_two (a:Nat ⊕ List (List V)):∃d1 d2,anD a = .tuple [d1,d2]:=by cases a <;> exact ⟨_,_,rfl⟩
theorem row_gd {n:Nat} {r:Rw} (hn:n≤200) (h:r.ok n):Gd 910 1 r.d:=by
 have k:Gd 300 0 (.str (kindS r)):=wd_gd (kind_wd r)
 have s:∀p,Gd 300 0 (.str (sp p)):=fun p=>wd_gd (sp_wd p)
 have o:∀{d:PyData},Gd 300 0 d→Gs 301 0 [d]:=fun h=>Gs.one h
 have i:∀t:Nat,t≤n→Gd 300 0 (.int (t:Nat)):=fun t ht=>Gd.int (Nat.lt_of_lt_of_le (show (t:Int).natAbs<1000 by omega) (by decide)) (by decide)
 cases r with
 | set p m=>exact (Gs.cons k (Gs.cons (s p) (o (Gd.int (by have:=h.2;exact Nat.lt_of_lt_of_le (show m.natAbs<1000 by omega) (by decide)) (by decide))))).tuple.mono (by decide) (Nat.le_refl _)
 | add p q=>exact (Gs.cons k (Gs.cons (s p) (o (s q)))).tuple.mono (by decide) (Nat.le_refl _)
 | take p q=>exact (Gs.cons k (Gs.cons (s p) (o (s q)))).tuple.mono (by decide) (Nat.le_refl _)
 | tell p=>exact (Gs.cons k (o (s p))).tuple.mono (by decide) (Nat.le_refl _)
 | ask p=>exact (Gs.cons k (o (s p))).tuple.mono (by decide) (Nat.le_refl _)
 | jump t=>exact (Gs.cons k (o (i t h))).tuple.mono (by decide) (Nat.le_refl _)
 | zero p t=>exact (Gs.cons k (Gs.cons (s p) (o (i t h.2)))).tuple.mono (by decide) (Nat.le_refl _)
 | stop=>exact (o k).tuple.mono (by decide) (Nat.le_refl _)
theorem rows_gs {n:Nat} (hn:n≤200):∀{rows:List Rw},(∀r∈rows,r.ok n)→Gs (911*rows.length) 1 (rows.map Rw.d)
 | [],_=>Gs.nil
 | r :: rows,h=>by
  have:=Gs.cons (row_gd hn (h r List.mem_cons_self)) (rows_gs hn (rows:=rows) fun q hq=>h q (List.mem_cons_of_mem _ hq))
  exact this.mono (by rw [List.length_cons];omega) (Nat.le_refl _)
theorem rdC_of {K:PySem.W.Frag} {C:Addr} {vs:List V} {H:Hp} {Q:VK} {E:XK} (h:spRdC K vs H Q E):spRdX K C vs H Q (fun _ _ _=>False):=by
 obtain ⟨L,ls,rfl,hs,q⟩:=h
 have e:=hs.read
 have hl:=hs.len
 refine ⟨_,rfl,hs.asc,by omega,fun rows p us H' er s h0 hp ht => ?_,fun i dx H' er s hd => ?_⟩
 ·rw [e] at er;cases er;exact q _ _ _ s hp ht
 ·rw [e] at er;cases er
section
variable {P:Program} {w:World} {K:PySem.W.Frag} {mg:Str→Option Value} {base:Heap} {f:Addr} {fd:FuncData} {t1:Tok}
theorem sc_law:FnScope ["_law_script", "_law_state", "_law_turn", "_law_empty", "_law_program_here", "_law_text", "_law_some", "_law_more", "_law_ahead", "_law_one", "_law_row", "_law_due"] ["_law_script"] (defScope (top i_law)):=⟨rfl,rfl,rfl,by decide +kernel,rfl,by decide +kernel,by decide +kernel⟩
theorem ok_law (F:Fun K "law" "law" (top i_law) f fd) (T:Nm mg) (f_law_begin:Fn P w K mg base 1 "_law_begin" ["_law_script"] (spBegin K)) (f_law_take:Fn P w K mg base 1 "_law_take" ["_law_state", "_law_many_here"] spTk) (f_law_program:Fn P w K mg base 2 "_law_program" ["_law_state", "_law_many_here"] (spProg K)) (f_law_many:Fn P w K mg base 2 "_law_many" ["_law_state"] spMn) (f_law_sheet:Fn P w K mg base 3 "_law_sheet" ["_law_state", "_law_program_here", "_law_empty"] (spSht K)) (f_law_spelt:Fn P w K mg base 2 "_law_spelt" ["_law_state", "_law_text"] spSpl) (f_law_line_spelt:Fn P w K mg base 2 "_law_line_spelt" ["_law_state", "_law_text"] spSpl) (f_law_refused:Fn P w K mg base 6 "_law_refused" ["_law_text"] (spRef K)) (f_law_read:Fn P w K mg base 3 "_law_read" ["_law_text"] (spRef K)) (f_read_program:Fn P w K mg base 5 "read_program" ["text"] (spRdC K)) (f_law_same:Fn P w K mg base 4 "_law_same" ["_law_found", "_law_due"] (spSame K 4)):FnOk P w K mg base CX0 7 f fd ["_law_script"] (spLaw K):=by
 refine F.ok sc_law (fun vs H Q E h => ?_) (fun cdv A outer s H vs Q E hr h => ?_)
 ·obtain ⟨a,ns,rfl,_⟩:=h
  rfl
 obtain ⟨a,ns,rfl,hS,hlen,q⟩:=h
 have hu6:=hr.units
 refine ⟨_,(pss_cons (ps_set (i:=1) sc_law.nd rfl (Or.inl rfl) (pe_fn (f_law_begin.mono (by first|decide|exact Nat.le_refl _|omega)) hr rfl (pa_cons (pv 0) pa_nil)))
  (pss_cons (ps_for PassesOwn.never rfl (pi_range1 rfl T.n_range (pa_cons pe_int pa_nil)) (pg_name (i:=2) sc_law.nd rfl (Or.inl rfl)) (pss_cons (ps_set (i:=3) sc_law.nd rfl (Or.inl rfl) (pe_cmpR (eqK K hu6) (pe_fn (f_law_take.mono (by first|decide|exact Nat.le_refl _|omega)) hr rfl (pa_cons (pv 1) (pa_cons pe_int pa_nil))) pe_int (nomark _)))
  (pss_cons (ps_set (i:=4) sc_law.nd rfl (Or.inl rfl) (pe_fn (f_law_program.mono (by first|decide|exact Nat.le_refl _|omega)) hr rfl (pa_cons (pv 1) (pa_cons (pe_fn (f_law_many.mono (by first|decide|exact Nat.le_refl _|omega)) hr rfl (pa_cons (pv 1) pa_nil)) pa_nil))))
  (pss_cons (ps_set (i:=5) sc_law.nd rfl (Or.inl rfl) (pe_fn (f_law_sheet.mono (by first|decide|exact Nat.le_refl _|omega)) hr rfl (pa_cons (pv 1) (pa_cons (pv 4) (pa_cons (pv 3) pa_nil)))))
  (pss_cons (ps_set (i:=6) sc_law.nd rfl (Or.inl rfl) (lstN (pa_cons (pv 5) pa_nil)))
  (pss_cons (ps_for PassesOwn.never rfl (pi_range1 rfl T.n_range (pa_cons pe_int pa_nil)) (pg_name (i:=7) sc_law.nd rfl (Or.inl rfl)) (pss_cons (ps_set (i:=8) sc_law.nd rfl (Or.inl rfl) (pe_ix (ixK K) (lstN (pa_cons (pv 5) (pa_cons (pe_ix (ixK K) (pv 6) (pe_un un_neg pe_int) (fun _ _=>rfl)) pa_nil))) (pe_fn (f_law_take.mono (by first|decide|exact Nat.le_refl _|omega)) hr rfl (pa_cons (pv 1) (pa_cons pe_int pa_nil))) (fun _ _=>rfl)))
  (pss_one (ps_expr (bmK K PySem.F.plainAttrs_list PySem.F.slot_list_append PySem.F.type_list_append appendN (pv 6) (pa_cons (pe_ifExp (pt_cmpR (eqK K hu6) (pe_fn (f_law_take.mono (by first|decide|exact Nat.le_refl _|omega)) hr rfl (pa_cons (pv 1) (pa_cons pe_int pa_nil))) pe_int (nomark _)) (pe_fn (f_law_spelt.mono (by first|decide|exact Nat.le_refl _|omega)) hr rfl (pa_cons (pv 1) (pa_cons (pv 8) pa_nil))) (pe_fn (f_law_line_spelt.mono (by first|decide|exact Nat.le_refl _|omega)) hr rfl (pa_cons (pv 1) (pa_cons (pv 8) pa_nil)))) pa_nil))))))
  (pss_cons (ps_for PassesOwn.never rfl (piK K (pv 6)) (pg_name (i:=9) sc_law.nd rfl (Or.inl rfl)) (pss_cons (ps_asg (pe_fn (f_law_read.mono (by first|decide|exact Nat.le_refl _|omega)) hr rfl (pa_cons (pv 9) pa_nil)) (tupK K 2 rfl (pgs_cons (pg_name (i:=10) sc_law.nd rfl (Or.inl rfl)) (pgs_cons (pg_name (i:=11) sc_law.nd rfl (Or.inl rfl)) pgs_nil))))
  (pss_one (ps_if (pt_not (pt_val (pe_fn (f_law_same.mono (by first|decide|exact Nat.le_refl _|omega)) hr rfl (pa_cons (pe_fn (f_law_refused.mono (by first|decide|exact Nat.le_refl _|omega)) hr rfl (pa_cons (pv 9) pa_nil)) (pa_cons (tupN (pa_cons (pv 10) (pa_cons (pv 11) pa_nil))) pa_nil))))) (pss_one (ps_ret pe_bl)) pss_nil))))
  (pss_one (ps_if (pt_not (pt_val (pe_fn (f_law_same.mono (by first|decide|exact Nat.le_refl _|omega)) hr rfl (pa_cons (pe_fn (f_read_program.mono (by first|decide|exact Nat.le_refl _|omega)) hr rfl (pa_cons (pv 5) pa_nil)) (pa_cons (pv 4) pa_nil))))) (pss_one (ps_ret pe_bl)) pss_nil)))))))))
  (pss_one (ps_ret pe_bl)))),?_⟩
 refine ⟨_,rfl,a,ns,rfl,hS,hlen,fun b c H1 bx1 hb hc sm1=>gn ?_⟩
 dsimp only
 refine seqCut (t:=tFor _ _ _) (fun σ H'=>True) (fun Nx nx => ?_) (fun σ H' _=>q _)
 refine ⟨2,rfl,by decide,by decide,?_⟩
 refine for_go (N:=2) (fun i σ H'=>Ex11 fun (x2 x3 x4 x5 x6 x7 x8 x9 xa xb:Option V) (t':Int) => σ=[some (.ref a),some (.ref b),x2,x3,x4,x5,x6,x7,x8,x9,xa,xb]∧Step b c H1 H' 0 t' (5000*i)) ⟨none,none,none,none,none,none,none,none,none,none,0,rfl,(Step.refl bx1).more (by omega)⟩ ?_ (fun σ H' _=>⟨Nat.le_refl _,nx _ _ trivial⟩)
 intro i σ H2 hi
 refine Elim.go ?_
 rintro x2 x3 x4 x5 x6 x7 x8 x9 xa xb t2 rfl st2
 have ub2:=st2.ub
 have lo2:=st2.le
 refine ⟨hi,?_⟩
 rintro x H3 ⟨rfl,rfl⟩
 refine gn ?_
 refine ⟨_,rfl,b,c,t2,3,rfl,st2.bx,by omega,by omega,by decide,by decide,fun r H4 r0 r1 st4 => .inl ⟨rfl,gn ?_⟩⟩
 generalize decide (V.int r=V.int 0)=em
 refine ⟨_,rfl,_,rfl,b,c,_,rfl,st4.bx,by omega,by omega,fun n H5 t5 hn st5 => ?_⟩
 have ub5:=st5.ub
 have lo5:=st5.le
 refine ⟨b,c,t5,n,rfl,st5.bx,by omega,by omega,hn,fun rows p vs H6 t6 hl hok hp pb pc _ hT st6=>gn ?_⟩
 have ub6:=st6.ub
 have lo6:=st6.le
 have okr:∀r∈rows,r.ok rows.length:=by rw [hl];exact hok
 refine ⟨_,rfl,_,rfl,_,rfl,b,c,t6,p,vs,rows,em,rfl,st6.bx,by omega,by omega,hp,pb,pc,hT,by omega,okr,fun L ls H7 t7 sheet er few st7=>gn ?_⟩
 have ub7:=st7.ub
 have lo7:=st7.le
 have hp7:=st7.old hp pb pc
 have hT7:=hT.tp (TP.step st6.bx st7)
 refine ⟨_,rfl,by show 1≤sizeLine;decide,fun ps H8 n8=>gn ?_⟩
 have st07:=(st2.trans (st4.trans (st5.trans (st6.trans st7))))
 have ps0:H1 ps=none:=st07.fresh bx1 n8.nn
 obtain ⟨psb,psc⟩:=bx1.ne_new ps0
 have tz0:Tz 4760 (shT L ls):=⟨sheet.asc,sheet_few sheet few⟩
 obtain ⟨tx,etx⟩:∃tx,tx=shT L ls:=⟨_,rfl⟩
 rw [←etx] at tz0
 rw [←etx] at n8
 rw [show (List.set _ _ _:L2.St)=[some (.ref a),some (.ref b),some (.int (0+i)),some (.bl em),some (.ref p),some (.str tx),some (.ref ps),x7,x8,x9,xa,xb] from by rw [etx];rfl]
 dsimp only
 refine seqCut (t:=tFor _ _ _) (fun σ H'=>Ex4 fun (y7 y8:Option V) (xs:List Str) (t':Int) => σ=[some (.ref a),some (.ref b),some (.int (0+i)),some (.bl em),some (.ref p),some (.str tx),some (.ref ps),y7,y8,x9,xa,xb]∧H' ps=some (.lst (xs.map V.str))∧xs.length=11∧(∀x∈xs,Tz 5000000 x)∧Step b c H7 H' t7 t' 400) (fun Nx nx => ?_) ?_
 ·refine ⟨10,rfl,by decide,by decide,?_⟩
  refine for_go (N:=10) (fun j σ H'=>Ex5 fun (y7 y8:Option V) (xs:List Str) (t':Int) (m:Nat) => σ=[some (.ref a),some (.ref b),some (.int (0+i)),some (.bl em),some (.ref p),some (.str tx),some (.ref ps),y7,y8,x9,xa,xb]∧H' ps=some (.lst (xs.map V.str))∧xs.length=j+1∧4760≤m∧m+20≤2 ^ j*4780∧(∀x∈xs,Tz m x)∧Step b c H7 H' t7 t' (40*j)) ⟨_,_,[tx],_,4760,rfl,n8.at,rfl,Nat.le_refl _,Nat.le_refl _,fun x hx=>by rw [List.mem_singleton.mp hx];exact tz0,((Step.refl st7.bx).newN n8).more (by omega)⟩ ?_ ?_
  ·intro j σ H9 hj
   refine Elim.go ?_
   rintro y7 y8 xs t9 m rfl h9 xl m0 mj oks st9
   have ub9:=st9.ub
   have lo9:=st9.le
   have p2:2 ^ j≤2 ^ 10:=Nat.pow_le_pow_right (by decide) (by omega)
   have p3:2 ^ (j+1)=2*2 ^ j:=by rw [Nat.pow_succ,Nat.mul_comm]
   have mb:m≤5000000:=by have:=Nat.mul_le_mul_right 4780 p2;omega
   refine ⟨hj,?_⟩
   rintro x H10 ⟨rfl,rfl⟩
   refine gn ?_
   have hx0:0<xs.length:=by omega
   obtain ⟨z,hz,hzm⟩:∃z,atI (xs.map V.str) (-1)=some (.str z)∧z∈xs:=by
    have h0:xs.length-1<xs.length:=by omega
    refine ⟨xs[xs.length-1],at_last81 ?_,List.getElem_mem h0⟩
    rw [List.length_map,List.getElem?_map,List.getElem?_eq_getElem h0];rfl
   refine ⟨_,rfl,_,rfl,_,rfl, .inl ⟨ps,_, -1,_,rfl,rfl,SqL.of h9,hz,by show 2≤sizeLine;decide,fun l1 Ha na => ?_⟩⟩
   have sta:=st9.newN na
   refine ⟨_,rfl,b,c,_,2,rfl,sta.bx,by omega,by omega,by decide,by decide,fun k Hb k0 k1 stb => ?_⟩
   obtain ⟨v,hv,hvm⟩:=at_mem (xs:=[V.str tx,V.str z]) k0 k1
   obtain ⟨y,rfl,zy⟩:∃y,v = .str y∧Tz m y:=by
    rcases List.mem_cons.mp hvm with rfl|hvm
    ·exact ⟨_,rfl,tz0.more m0⟩
    ·exact ⟨_,List.mem_singleton.mp hvm,oks z hzm⟩
   have l10:H1 l1=none:=st07.fresh bx1 (st9.fresh st7.bx na.nn)
   obtain ⟨l1b,l1c⟩:=bx1.ne_new l10
   refine .inl ⟨l1,_,k,_,rfl,rfl,SqL.of (stb.old na.at l1b l1c),hv,gn ?_⟩
   have stab:=sta.trans stb
   have hb:=stb.old (na.same _ _ h9) psb psc
   dsimp only
   refine ⟨_,rfl, .inl ⟨rfl,_,SqL.of hb⟩,?_⟩
   refine ⟨_,rfl,b,c,_,2,rfl,stab.bx,by omega,by omega,by decide,by decide,fun g Hc g0 g1 stc => .inl ⟨rfl,_,rfl,?_⟩⟩
   refine (fun h=>ite2 (fun _=>h) (fun _=>h)) ?_
   have stac:=stab.trans stc
   refine ⟨_,rfl,_,rfl,b,c,_,y,rfl,stac.bx,by omega,by omega,zy.more mb,fun y2 Hd td ty std => ?_⟩
   have hd:=std.old (stc.old hb psb psc) psb psc
   have stad:=stac.trans std
   refine ⟨ps,_,_,rfl,rfl,hd,Nat.lt_of_le_of_lt (show (xs.map V.str).length≤100 by rw [List.length_map];omega) (by decide),fun He ce => ?_⟩
   have e1:xs.map V.str++[V.str y2]=(xs++[y2]).map V.str:=by rw [List.map_append];rfl
   rw [e1] at ce
   exact ⟨_,_,xs++[y2],td,2*m+20,rfl,ce.at,by rw [List.length_append,xl];rfl,by omega,by omega,fun x hx=>by
    rcases List.mem_append.mp hx with hx|hx
    ·exact (oks x hx).more (by omega)
    ·rw [List.mem_singleton.mp hx]
     exact ty.more (by have:=zy.2;omega),(stad.chgN ce n8.nn psb psc).more (by omega)⟩
  ·intro σ H9
   refine Elim.go ?_
   rintro y7 y8 xs t9 m rfl h9 xl m0 mj oks st9
   exact ⟨Nat.le_refl _,nx _ _ ⟨y7,y8,xs,t9,rfl,h9,xl,fun x hx=>(oks x hx).more (Nat.le_trans (Nat.le_of_add_right_le mj) (by decide)),st9.more (by omega)⟩⟩
 intro σ H9
 refine Elim.go ?_
 rintro y7 y8 xs t9 rfl h9 xl oks st9
 have hp9:=st9.old hp7 pb pc
 have hT9:=hT7.tp (TP.step st7.bx st9)
 have st79:=st07.trans st9
 refine seqCut (t:=tFor _ _ _) (fun σ H'=>Ex3 fun (y9 ya yb:Option V) => σ=[some (.ref a),some (.ref b),some (.int (0+i)),some (.bl em),some (.ref p),some (.str tx),some (.ref ps),y7,y8,y9,ya,yb]∧Same H9 H') (fun Nx nx => ?_) ?_
 ·refine ⟨_,rfl,_,rfl,⟨_,SqL.of h9⟩,?_⟩
  refine for_go (N:=xs.length) (fun j σ H'=>Ex3 fun (y9 ya yb:Option V) => σ=[some (.ref a),some (.ref b),some (.int (0+i)),some (.bl em),some (.ref p),some (.str tx),some (.ref ps),y7,y8,y9,ya,yb]∧Same H9 H') ⟨_,_,_,rfl,Same.refl _⟩ ?_ ?_
  ·intro j σ Ha hj
   refine Elim.go ?_
   rintro y9 ya yb rfl sa
   have at1:(xs.map V.str)[j]? = some (.str xs[j]):=by rw [List.getElem?_map,List.getElem?_eq_getElem hj];rfl
   refine ⟨⟨_,_,SqL.of (sa _ _ h9),at1⟩,?_⟩
   rintro x' H3 ⟨rfl,hy⟩
   have e:=hy _ (SqL.of (sa _ _ h9))
   rw [at1] at e;cases e
   have oz:=oks xs[j] (List.getElem_mem hj)
   obtain ⟨z,ez⟩:∃z,z=xs[j]:=⟨_,rfl⟩
   rw [←ez] at oz ⊢
   have zl:=oz.2
   have az:=(readA_az oz.1 (by omega))
   refine gn ?_
   refine ⟨_,rfl,z,rfl,oz.1,by omega,fun v1 Hb sb d1 => ?_⟩
   have gd:=az.gd
   have gw:=gd.wt
   have gp:=gd.dp
   obtain ⟨e1,e2,ea⟩:=an_two (readA z)
   have d1':=d1
   rw [ea] at d1'
   obtain ⟨tp,u1,u2,rfl,sq,hu1,hu2⟩:=den_two d1'
   refine ⟨tp,_,rfl,sq,rfl,_,_,rfl,gn ⟨_,_,rfl,gn ⟨rfl,?_⟩⟩⟩
   refine ⟨_,rfl,z,rfl,oz.1,by omega,fun v2 Hc sc d2=>⟨_,rfl,_,rfl,by show 2≤sizeLine;decide,fun tq Hd nd=>⟨v2,_,anD (readA z),rfl,d2.same nd.same,by rw [ea];exact dtupN nd.at (dscons (hu1.same (sc.trans nd.same)) (dscons (hu2.same (sc.trans nd.same)) dsnil)),by omega,by omega,fun He se=>⟨_,rfl,iteF ?_⟩⟩⟩⟩
   exact ⟨_,_,_,rfl,sa.trans (sb.trans (sc.trans (nd.same.trans se)))⟩
  ·intro σ Ha
   refine Elim.go ?_
   rintro y9 ya yb rfl sa
   exact ⟨⟨_,SqL.of (sa _ _ h9),by rw [List.length_map];exact Nat.le_refl _⟩,nx _ _ ⟨y9,ya,yb,rfl,sa⟩⟩
 intro σ Ha
 refine Elim.go ?_
 rintro y9 ya yb rfl sa
 refine ⟨_,rfl,L,ls,by rw [etx];rfl,sheet,fun rq us Hb sb hrq htq => ?_⟩
 rw [er] at htq
 have tq:Tups Hb rows us:=⟨by have:=htq.1;rw [List.length_map] at this;exact this,fun i r e=>htq.2 i (r.ds.map fV) (by rw [List.getElem?_map,e];rfl)⟩
 have sab:=sa.trans sb
 have pd:Den K Hb (.list (rows.map Rw.d)) (.ref p):=dlstN (sab _ _ hp9) (hT9.tp (TP.same sab)).dens
 have gd:Gd 182200 2 (.list (rows.map Rw.d)):=((rows_gs (show n≤200 by omega) hok).list).mono (by omega) (by decide)
 have gw:=gd.wt
 have gp:=gd.dp
 refine ⟨_,rfl,_,_, .list (rows.map Rw.d),rfl,dlstN hrq tq.dens,pd,by omega,by omega,fun Hc sc=>⟨_,rfl,iteF ?_⟩⟩
 exact ⟨_,_,_,_,_,_,_,_,_,_,t9,rfl,(st79.trans (Step.same st9.bx (sab.trans sc))).more (by omega)⟩
end
end Z
namespace Z
open PySem L2
theorem lenZ {α:Type} {P:List α→Prop} (h:P []):∀us:List α,us.length=0→P us:=fun us e=>List.eq_nil_of_length_eq_zero e ▸ h
theorem lenS {α:Type} {P:List α→Prop} {n:Nat} (h:∀a (us:List α),us.length=n→P (a :: us)) (us:List α) (e:us.length=n+1):P us:=by
 cases us with|nil=>cases e|cons a us=>exact h a us (Nat.succ.inj e)
theorem all_mk {l:PySem.W.OpenLaw} {w:World} {K:PySem.W.Frag} {h:Heap} {mg:Str→Option Value} {fa f1 f2 f3 f4 f5 f6 f7 f8 f9 f10 f11 f12 f13 f14 f15 f16 f17 f18 f19 f20 f21 f22 f23 f24:Addr} (X:K.In h) (G:h.Ns mainGlobals mg) (hfa:mg "law" = some (.ref fa))
  {fd1:FuncData}
  {fd2:FuncData}
  {fd3:FuncData}
  {fd4:FuncData}
  {fd5:FuncData}
  {fd6:FuncData}
  {fd7:FuncData}
  {fd8:FuncData}
  {fd9:FuncData}
  {fd10:FuncData}
  {fd11:FuncData}
  {fd12:FuncData}
  {fd13:FuncData}
  {fd14:FuncData}
  {fd15:FuncData}
  {fd16:FuncData}
  {fd17:FuncData}
  {fd18:FuncData}
  {fd19:FuncData}
  {fd20:FuncData}
  {fd21:FuncData}
  {fd22:FuncData}
  {fd23:FuncData}
  {od24 an24:Option Addr} {sl24:Array (Option Value)} {oc24 kV24 dc24 pm24 cd24 ct24:Value}
  {G_OddError:Addr}
  {G_BadRow:Addr}
  {G_BadText:Addr}
  {G_NoForm:Addr}
  {G_NoName:Addr}
  {G_NoPlace:Addr}
  {G_NoTarget:Addr}
  {G_TooFar:Addr}
  {G_TooFull:Addr}
  {tkc0:Tok}
  {tkc1:Tok}
  {tkc2:Tok}
  {tkc3:Tok}
  {tkc4:Tok}
  {aS:Addr} {aSd:Option Addr} {aSi:List Value} {aSn:Nat} {aSs:Array (Option Value)}
  {aR:Addr} {aRd:Option Addr} {aRi:List Value} {aRn:Nat} {aRs:Array (Option Value)}
  {aP:Addr} {aPe:Array DictEntry} {aPn:Nat}
  {q_set:Addr} {q_setd:Option Addr} {q_seti:List Value} {q_setn:Nat} {q_sets:Array (Option Value)}
  {q_add:Addr} {q_addd:Option Addr} {q_addi:List Value} {q_addn:Nat} {q_adds:Array (Option Value)}
  {q_take:Addr} {q_taked:Option Addr} {q_takei:List Value} {q_taken:Nat} {q_takes:Array (Option Value)}
  {q_tell:Addr} {q_telld:Option Addr} {q_telli:List Value} {q_telln:Nat} {q_tells:Array (Option Value)}
  {q_ask:Addr} {q_askd:Option Addr} {q_aski:List Value} {q_askn:Nat} {q_asks:Array (Option Value)}
  {q_jump:Addr} {q_jumpd:Option Addr} {q_jumpi:List Value} {q_jumpn:Nat} {q_jumps:Array (Option Value)}
  {q_zero:Addr} {q_zerod:Option Addr} {q_zeroi:List Value} {q_zeron:Nat} {q_zeros:Array (Option Value)}
  {q_stop:Addr} {q_stopd:Option Addr} {q_stopi:List Value} {q_stopn:Nat} {q_stops:Array (Option Value)}
  {N_OddError:Addr} {nm_OddError q_OddError:Str} {bs_OddError:List Value} {hd_OddError:Bool} {sn_OddError:List Str} {su_OddError:List Value} {ab_OddError:Bool} {co_OddError:Option Bool} {dd_OddError:Option Addr} {k0_OddError k1_OddError k2_OddError k3_OddError k5_OddError:Option Value}
  {N_BadRow:Addr} {nm_BadRow q_BadRow:Str} {bs_BadRow:List Value} {sn_BadRow:List Str} {su_BadRow:List Value} {ab_BadRow:Bool} {co_BadRow:Option Bool} {dd_BadRow:Option Addr} {k0_BadRow k1_BadRow k2_BadRow k3_BadRow k5_BadRow:Option Value}
  {f_BadRow:Addr} {od_BadRow an_BadRow:Option Addr} {sl_BadRow:Array (Option Value)} {kV_BadRow dc_BadRow pm_BadRow cd_BadRow ct_BadRow:Value}
  (a1:PySem.W.nsIn K mainGlobals "made_of" = some (some (.ref f1))) (F1:Fun K "made_of" "made_of" (top i_made_of) f1 fd1)
  (a2:PySem.W.nsIn K mainGlobals "is_name" = some (some (.ref f2))) (F2:Fun K "is_name" "is_name" (top i_is_name) f2 fd2)
  (a3:PySem.W.nsIn K mainGlobals "label_in" = some (some (.ref f3))) (F3:Fun K "label_in" "label_in" (top i_label_in) f3 fd3)
  (a4:PySem.W.nsIn K mainGlobals "number_in" = some (some (.ref f4))) (F4:Fun K "number_in" "number_in" (top i_number_in) f4 fd4)
  (a5:PySem.W.nsIn K mainGlobals "value_in" = some (some (.ref f5))) (F5:Fun K "value_in" "value_in" (top i_value_in) f5 fd5)
  (a6:PySem.W.nsIn K mainGlobals "row_in" = some (some (.ref f6))) (F6:Fun K "row_in" "row_in" (top i_row_in) f6 fd6)
  (a7:PySem.W.nsIn K mainGlobals "label_places" = some (some (.ref f7))) (F7:Fun K "label_places" "label_places" (top i_label_places) f7 fd7)
  (a8:PySem.W.nsIn K mainGlobals "read_program" = some (some (.ref f8))) (F8:Fun K "read_program" "read_program" (top i_read_program) f8 fd8)
  (a9:PySem.W.nsIn K mainGlobals "_law_begin" = some (some (.ref f9))) (F9:Fun K "_law_begin" "_law_begin" (top i_law_begin) f9 fd9)
  (a10:PySem.W.nsIn K mainGlobals "_law_take" = some (some (.ref f10))) (F10:Fun K "_law_take" "_law_take" (top i_law_take) f10 fd10)
  (a11:PySem.W.nsIn K mainGlobals "_law_program" = some (some (.ref f11))) (F11:Fun K "_law_program" "_law_program" (top i_law_program) f11 fd11)
  (a12:PySem.W.nsIn K mainGlobals "_law_word" = some (some (.ref f12))) (F12:Fun K "_law_word" "_law_word" (top i_law_word) f12 fd12)
  (a13:PySem.W.nsIn K mainGlobals "_law_is_name" = some (some (.ref f13))) (F13:Fun K "_law_is_name" "_law_is_name" (top i_law_is_name) f13 fd13)
  (a14:PySem.W.nsIn K mainGlobals "_law_is_figures" = some (some (.ref f14))) (F14:Fun K "_law_is_figures" "_law_is_figures" (top i_law_is_figures) f14 fd14)
  (a15:PySem.W.nsIn K mainGlobals "_law_row_told" = some (some (.ref f15))) (F15:Fun K "_law_row_told" "_law_row_told" (top i_law_row_told) f15 fd15)
  (a16:PySem.W.nsIn K mainGlobals "_law_read" = some (some (.ref f16))) (F16:Fun K "_law_read" "_law_read" (top i_law_read) f16 fd16)
  (a17:PySem.W.nsIn K mainGlobals "_law_sheet" = some (some (.ref f17))) (F17:Fun K "_law_sheet" "_law_sheet" (top i_law_sheet) f17 fd17)
  (a18:PySem.W.nsIn K mainGlobals "_law_refused" = some (some (.ref f18))) (F18:Fun K "_law_refused" "_law_refused" (top i_law_refused) f18 fd18)
  (a19:PySem.W.nsIn K mainGlobals "_law_many" = some (some (.ref f19))) (F19:Fun K "_law_many" "_law_many" (top i_law_many) f19 fd19)
  (a20:PySem.W.nsIn K mainGlobals "_law_same" = some (some (.ref f20))) (F20:Fun K "_law_same" "_law_same" (top i_law_same) f20 fd20)
  (a21:PySem.W.nsIn K mainGlobals "_law_signs" = some (some (.ref f21))) (F21:Fun K "_law_signs" "_law_signs" (top i_law_signs) f21 fd21)
  (a22:PySem.W.nsIn K mainGlobals "_law_spelt" = some (some (.ref f22))) (F22:Fun K "_law_spelt" "_law_spelt" (top i_law_spelt) f22 fd22)
  (a23:PySem.W.nsIn K mainGlobals "_law_line_spelt" = some (some (.ref f23))) (F23:Fun K "_law_line_spelt" "_law_line_spelt" (top i_law_line_spelt) f23 fd23)
  (a24:PySem.W.nsIn K mainGlobals "law" = some (some (.ref f24))) (l24:K.lookup f24=some ⟨oc24,od24, .func (PySem.W.fnOf "law" "law" (defArgs (top i_law)) (defBody (top i_law)) (defScope (top i_law)) .none kV24 dc24 pm24 an24 cd24 ct24),sl24⟩) (c24:PySem.W.codeIn K cd24 "law" = true) (k24:PySem.W.keepIn K (.ref f24)=true)
  (gn_OddError:PySem.W.nsIn K mainGlobals "OddError" = some (some (.ref G_OddError)))
  (gn_BadRow:PySem.W.nsIn K mainGlobals "BadRow" = some (some (.ref G_BadRow)))
  (gn_BadText:PySem.W.nsIn K mainGlobals "BadText" = some (some (.ref G_BadText)))
  (gn_NoForm:PySem.W.nsIn K mainGlobals "NoForm" = some (some (.ref G_NoForm)))
  (gn_NoName:PySem.W.nsIn K mainGlobals "NoName" = some (some (.ref G_NoName)))
  (gn_NoPlace:PySem.W.nsIn K mainGlobals "NoPlace" = some (some (.ref G_NoPlace)))
  (gn_NoTarget:PySem.W.nsIn K mainGlobals "NoTarget" = some (some (.ref G_NoTarget)))
  (gn_TooFar:PySem.W.nsIn K mainGlobals "TooFar" = some (some (.ref G_TooFar)))
  (gn_TooFull:PySem.W.nsIn K mainGlobals "TooFull" = some (some (.ref G_TooFull)))
  (kt0:PySem.W.kitOne K (.ref G_BadRow) (.ref G_BadText)=some false)
  (kt1:PySem.W.kitOne K (.ref G_BadRow) (.ref G_NoForm)=some false)
  (kt2:PySem.W.kitOne K (.ref G_BadRow) (.ref G_NoName)=some false)
  (kt3:PySem.W.kitOne K (.ref G_BadRow) (.ref G_NoPlace)=some false)
  (kt4:PySem.W.kitOne K (.ref G_BadRow) (.ref G_NoTarget)=some false)
  (kt5:PySem.W.kitOne K (.ref G_BadRow) (.ref G_TooFar)=some false)
  (kt6:PySem.W.kitOne K (.ref G_BadRow) (.ref G_TooFull)=some false)
  (kt7:PySem.W.kitOne K (.ref G_BadRow) (.type "ValueError")=some true)
  (xo0:ExcOk K G_BadRow)
  (sb0:PySem.W.exmOne K (.ref G_BadRow) (.ref G_OddError)=some true)
  (vc0:PySem.W.nsIn K mainGlobals "GREATEST_NUMBER" = some (some (.int 255 tkc0)))
  (vc1:PySem.W.nsIn K mainGlobals "LONGEST_NAME" = some (some (.int 8 tkc1)))
  (vc2:PySem.W.nsIn K mainGlobals "MOST_ROWS" = some (some (.int 200 tkc2)))
  (vc3:PySem.W.nsIn K mainGlobals "SMALL_LETTERS" = some (some (.str sSmall tkc3)))
  (vc4:PySem.W.nsIn K mainGlobals "FIGURES" = some (some (.str sFig tkc4)))
  (gaS:PySem.W.nsIn K mainGlobals "SPOT_NAMES" = some (some (.ref aS)))
  (laS:K.lookup aS=some ⟨.type "tuple",aSd, .seq aSi.toArray aSn,aSs⟩)
  (waS:Vals [V.str "a",V.str "b",V.str "c",V.str "d"] aSi)
  (gaR:PySem.W.nsIn K mainGlobals "ROW_KINDS" = some (some (.ref aR)))
  (laR:K.lookup aR=some ⟨.type "tuple",aRd, .seq aRi.toArray aRn,aRs⟩)
  (waR:Vals [V.str "set",V.str "add",V.str "take",V.str "tell",V.str "ask",V.str "jump",V.str "zero",V.str "stop"] aRi)
  (gaP:PySem.W.nsIn K mainGlobals "PARTS" = some (some (.ref aP)))
  (laP:K.lookup aP=some ⟨.type "dict",none, .dict aPe aPn, #[]⟩)
  (kaP:PySem.W.KeysLit w.params aPe.toList)
  (g_q_set:PySem.W.nsIn K aP "set" = some (some (.ref q_set)))
  (lq_set:K.lookup q_set=some ⟨.type "tuple",q_setd, .seq q_seti.toArray q_setn,q_sets⟩)
  (wq_set:Vals [V.str "spot",V.str "number"] q_seti)
  (g_q_add:PySem.W.nsIn K aP "add" = some (some (.ref q_add)))
  (lq_add:K.lookup q_add=some ⟨.type "tuple",q_addd, .seq q_addi.toArray q_addn,q_adds⟩)
  (wq_add:Vals [V.str "spot",V.str "spot"] q_addi)
  (g_q_take:PySem.W.nsIn K aP "take" = some (some (.ref q_take)))
  (lq_take:K.lookup q_take=some ⟨.type "tuple",q_taked, .seq q_takei.toArray q_taken,q_takes⟩)
  (wq_take:Vals [V.str "spot",V.str "spot"] q_takei)
  (g_q_tell:PySem.W.nsIn K aP "tell" = some (some (.ref q_tell)))
  (lq_tell:K.lookup q_tell=some ⟨.type "tuple",q_telld, .seq q_telli.toArray q_telln,q_tells⟩)
  (wq_tell:Vals [V.str "spot"] q_telli)
  (g_q_ask:PySem.W.nsIn K aP "ask" = some (some (.ref q_ask)))
  (lq_ask:K.lookup q_ask=some ⟨.type "tuple",q_askd, .seq q_aski.toArray q_askn,q_asks⟩)
  (wq_ask:Vals [V.str "spot"] q_aski)
  (g_q_jump:PySem.W.nsIn K aP "jump" = some (some (.ref q_jump)))
  (lq_jump:K.lookup q_jump=some ⟨.type "tuple",q_jumpd, .seq q_jumpi.toArray q_jumpn,q_jumps⟩)
  (wq_jump:Vals [V.str "near"] q_jumpi)
  (g_q_zero:PySem.W.nsIn K aP "zero" = some (some (.ref q_zero)))
  (lq_zero:K.lookup q_zero=some ⟨.type "tuple",q_zerod, .seq q_zeroi.toArray q_zeron,q_zeros⟩)
  (wq_zero:Vals [V.str "spot",V.str "near"] q_zeroi)
  (g_q_stop:PySem.W.nsIn K aP "stop" = some (some (.ref q_stop)))
  (lq_stop:K.lookup q_stop=some ⟨.type "tuple",q_stopd, .seq q_stopi.toArray q_stopn,q_stops⟩)
  (wq_stop:Vals [] q_stopi)
  (lOddError:K.lookup G_OddError=some (excClassObj nm_OddError q_OddError G_OddError N_OddError bs_OddError ([.type "ValueError", .type "Exception", .type "BaseException", .type "object"]) hd_OddError sn_OddError su_OddError ab_OddError co_OddError dd_OddError k0_OddError k1_OddError k2_OddError k3_OddError k5_OddError "ValueError.__new__"))
  (xOddError:PySem.W.excIn K G_OddError [.type "ValueError", .type "Exception", .type "BaseException", .type "object"] "ValueError.__new__" = true)
  (lBadRow:K.lookup G_BadRow=some (excClassObj nm_BadRow q_BadRow G_BadRow N_BadRow bs_BadRow (.ref G_OddError :: [.type "ValueError", .type "Exception", .type "BaseException", .type "object"]) true sn_BadRow su_BadRow ab_BadRow co_BadRow dd_BadRow k0_BadRow k1_BadRow k2_BadRow k3_BadRow k5_BadRow "ValueError.__new__"))
  (kpBadRow:PySem.W.keepIn K (.ref G_BadRow)=true)
  (iniBadRow:PySem.W.findIn K (.ref G_BadRow) "__init__" = some (some (.ref f_BadRow)))
  (lfBadRow:K.lookup f_BadRow=some ⟨.type "function",od_BadRow, .func (PySem.W.fnOf "__init__" "BadRow.__init__" (defArgs (inClass (top i_BadRow) 0)) (defBody (inClass (top i_BadRow) 0)) (defScope (inClass (top i_BadRow) 0)) .none kV_BadRow dc_BadRow pm_BadRow an_BadRow cd_BadRow ct_BadRow),sl_BadRow⟩)
  (cfBadRow:PySem.W.codeIn K cd_BadRow "BadRow.__init__" = true)
  (kfBadRow:PySem.W.keepIn K (.ref f_BadRow)=true)
  (saBadRow:PySem.W.findIn K (.ref G_BadRow) "__setattr__" = some (some (.builtin "object.__setattr__")))
  (naBadRow:PySem.W.findIn K (.ref G_BadRow) "row" = some none)
  (moBadRow:PySem.W.mroIn K G_BadRow (.type "object")=some true)
  (y0:PySem.W.nsIn K mainGlobals "sorted" = some none)
  (y1:PySem.W.nsIn K mainGlobals "set" = some none)
  (y2:PySem.W.nsIn K mainGlobals "dict" = some none)
  (y3:PySem.W.nsIn K mainGlobals "ValueError" = some none)
  (z0:PySem.W.nsIn K mainGlobals "len" = some none) (z1:PySem.W.nsIn K mainGlobals "range" = some none) (z2:PySem.W.nsIn K mainGlobals "max" = some none) (z3:PySem.W.nsIn K mainGlobals "min" = some none) (z4:PySem.W.nsIn K mainGlobals "sum" = some none) (z5:PySem.W.nsIn K mainGlobals "all" = some none) (z6:PySem.W.nsIn K mainGlobals "any" = some none) (z7:PySem.W.nsIn K mainGlobals "list" = some none) (z8:PySem.W.nsIn K mainGlobals "tuple" = some none) (z9:PySem.W.nsIn K mainGlobals "int" = some none) (z10:PySem.W.nsIn K mainGlobals "str" = some none) (z11:PySem.W.nsIn K mainGlobals "bool" = some none) (z12:PySem.W.nsIn K mainGlobals "zip" = some none) (z13:PySem.W.nsIn K mainGlobals "enumerate" = some none) (z14:PySem.W.nsIn K mainGlobals "isinstance" = some none) (z15:PySem.W.nsIn K mainGlobals "divmod" = some none) :
  ∃fd:FuncData,(∀(s:Shared) (v:Value),BindsTo s fd ⟨[v],[]⟩ [("_law_script",v)])∧∀base:Heap,K.In base→base.Ns mainGlobals mg→FnOk l.prog w K mg base CX0 7 fa fd ["_law_script"] (spLaw K):=by
 have e:=hfa.symm.trans (PySem.W.mg_of X G a24)
 cases e
 have T:Nm mg:=⟨PySem.W.mg_none_of X G z0,PySem.W.mg_none_of X G z1,PySem.W.mg_none_of X G z2,PySem.W.mg_none_of X G z3,PySem.W.mg_none_of X G z4,PySem.W.mg_none_of X G z5,PySem.W.mg_none_of X G z6,PySem.W.mg_none_of X G z7,PySem.W.mg_none_of X G z8,PySem.W.mg_none_of X G z9,PySem.W.mg_none_of X G z10,PySem.W.mg_none_of X G z11,PySem.W.mg_none_of X G z12,PySem.W.mg_none_of X G z13,PySem.W.mg_none_of X G z14,PySem.W.mg_none_of X G z15⟩
 have n_sorted:=PySem.W.mg_none_of X G y0
 have n_set:=PySem.W.mg_none_of X G y1
 have n_dict:=PySem.W.mg_none_of X G y2
 have n_ValueError:=PySem.W.mg_none_of X G y3
 have v_GREATEST_NUMBER:=PySem.W.mg_of X G vc0
 have v_LONGEST_NAME:=PySem.W.mg_of X G vc1
 have v_MOST_ROWS:=PySem.W.mg_of X G vc2
 have v_SMALL_LETTERS:=PySem.W.mg_of X G vc3
 have v_FIGURES:=PySem.W.mg_of X G vc4
 have C83:Cs83 K w mg aS aR aP:=⟨PySem.W.mg_of X G gaS,PySem.W.mg_of X G gaR,PySem.W.mg_of X G gaP,sqt_mk laS waS (by decide),sqt_mk laR waR (by decide),⟨_,_,laP,kaP⟩,fun r=>by
  cases r
  ·exact ⟨_,g_q_set,sqt_mk (xs:=[V.str "spot",V.str "number"]) lq_set wq_set (by decide)⟩
  ·exact ⟨_,g_q_add,sqt_mk (xs:=[V.str "spot",V.str "spot"]) lq_add wq_add (by decide)⟩
  ·exact ⟨_,g_q_take,sqt_mk (xs:=[V.str "spot",V.str "spot"]) lq_take wq_take (by decide)⟩
  ·exact ⟨_,g_q_tell,sqt_mk (xs:=[V.str "spot"]) lq_tell wq_tell (by decide)⟩
  ·exact ⟨_,g_q_ask,sqt_mk (xs:=[V.str "spot"]) lq_ask wq_ask (by decide)⟩
  ·exact ⟨_,g_q_jump,sqt_mk (xs:=[V.str "near"]) lq_jump wq_jump (by decide)⟩
  ·exact ⟨_,g_q_zero,sqt_mk (xs:=[V.str "spot",V.str "near"]) lq_zero wq_zero (by decide)⟩
  ·exact ⟨_,g_q_stop,sqt_mk (xs:=[]) lq_stop wq_stop (by decide)⟩⟩
 have S_BadRow:ExcSt K G_BadRow "row":=excSt_mk lBadRow saBadRow naBadRow moBadRow
 have M_BadRow:XMk K G_BadRow f_BadRow:=⟨⟨_,_,_,_,_,_,_,_,_,_,_,_,_,_,_,_,lBadRow,own_tail lOddError xOddError⟩,iniBadRow,⟨_,lfBadRow,rfl⟩,kpBadRow⟩
 have FF_BadRow:=fun_mk (st:=inClass (top i_BadRow) 0) lfBadRow cfBadRow kfBadRow
 have b_BadRow:=FF_BadRow.binds (ps:=["self", "row"]) fun _ _ _ _ _ _=>lenS fun _=>lenS fun _=>lenZ rfl
 have g_OddError:=PySem.W.mg_of X G gn_OddError
 have g_BadRow:=PySem.W.mg_of X G gn_BadRow
 have g_BadText:=PySem.W.mg_of X G gn_BadText
 have g_NoForm:=PySem.W.mg_of X G gn_NoForm
 have g_NoName:=PySem.W.mg_of X G gn_NoName
 have g_NoPlace:=PySem.W.mg_of X G gn_NoPlace
 have g_NoTarget:=PySem.W.mg_of X G gn_NoTarget
 have g_TooFar:=PySem.W.mg_of X G gn_TooFar
 have g_TooFull:=PySem.W.mg_of X G gn_TooFull
 have k1:=F1.kp
 have b1:=F1.binds (ps:=["text", "signs"]) fun _ _ _ _ _ _=>lenS fun _=>lenS fun _=>lenZ rfl
 have k2:=F2.kp
 have b2:=F2.binds (ps:=["thing"]) fun _ _ _ _ _ _=>lenS fun _=>lenZ rfl
 have k3:=F3.kp
 have b3:=F3.binds (ps:=["row"]) fun _ _ _ _ _ _=>lenS fun _=>lenZ rfl
 have k4:=F4.kp
 have b4:=F4.binds (ps:=["word"]) fun _ _ _ _ _ _=>lenS fun _=>lenZ rfl
 have k5:=F5.kp
 have b5:=F5.binds (ps:=["part", "word", "places"]) fun _ _ _ _ _ _=>lenS fun _=>lenS fun _=>lenS fun _=>lenZ rfl
 have k6:=F6.kp
 have b6:=F6.binds (ps:=["row", "places"]) fun _ _ _ _ _ _=>lenS fun _=>lenS fun _=>lenZ rfl
 have k7:=F7.kp
 have b7:=F7.binds (ps:=["rows"]) fun _ _ _ _ _ _=>lenS fun _=>lenZ rfl
 have k8:=F8.kp
 have b8:=F8.binds (ps:=["text"]) fun _ _ _ _ _ _=>lenS fun _=>lenZ rfl
 have k9:=F9.kp
 have b9:=F9.binds (ps:=["_law_script"]) fun _ _ _ _ _ _=>lenS fun _=>lenZ rfl
 have k10:=F10.kp
 have b10:=F10.binds (ps:=["_law_state", "_law_many_here"]) fun _ _ _ _ _ _=>lenS fun _=>lenS fun _=>lenZ rfl
 have k11:=F11.kp
 have b11:=F11.binds (ps:=["_law_state", "_law_many_here"]) fun _ _ _ _ _ _=>lenS fun _=>lenS fun _=>lenZ rfl
 have k12:=F12.kp
 have b12:=F12.binds (ps:=["_law_state", "_law_most"]) fun _ _ _ _ _ _=>lenS fun _=>lenS fun _=>lenZ rfl
 have k13:=F13.kp
 have b13:=F13.binds (ps:=["_law_word_here"]) fun _ _ _ _ _ _=>lenS fun _=>lenZ rfl
 have k14:=F14.kp
 have b14:=F14.binds (ps:=["_law_word_here"]) fun _ _ _ _ _ _=>lenS fun _=>lenZ rfl
 have k15:=F15.kp
 have b15:=F15.binds (ps:=["_law_words"]) fun _ _ _ _ _ _=>lenS fun _=>lenZ rfl
 have k16:=F16.kp
 have b16:=F16.binds (ps:=["_law_text"]) fun _ _ _ _ _ _=>lenS fun _=>lenZ rfl
 have k17:=F17.kp
 have b17:=F17.binds (ps:=["_law_state", "_law_program_here", "_law_empty"]) fun _ _ _ _ _ _=>lenS fun _=>lenS fun _=>lenS fun _=>lenZ rfl
 have k18:=F18.kp
 have b18:=F18.binds (ps:=["_law_text"]) fun _ _ _ _ _ _=>lenS fun _=>lenZ rfl
 have k19:=F19.kp
 have b19:=F19.binds (ps:=["_law_state"]) fun _ _ _ _ _ _=>lenS fun _=>lenZ rfl
 have k20:=F20.kp
 have b20:=F20.binds (ps:=["_law_found", "_law_due"]) fun _ _ _ _ _ _=>lenS fun _=>lenS fun _=>lenZ rfl
 have k21:=F21.kp
 have b21:=F21.binds (ps:=[]) fun _ _ _ _ _ _=>lenZ rfl
 have k22:=F22.kp
 have b22:=F22.binds (ps:=["_law_state", "_law_text"]) fun _ _ _ _ _ _=>lenS fun _=>lenS fun _=>lenZ rfl
 have k23:=F23.kp
 have b23:=F23.binds (ps:=["_law_state", "_law_text"]) fun _ _ _ _ _ _=>lenS fun _=>lenS fun _=>lenZ rfl
 have F24:=fun_mk (st:=top i_law) l24 c24 k24
 refine ⟨PySem.W.fnOf "law" "law" (defArgs (top i_law)) (defBody (top i_law)) (defScope (top i_law)) .none kV24 dc24 pm24 an24 cd24 ct24,fun s v => .of_eq rfl,fun base hB hG => ?_⟩
 have F_BadRow:=ok_ini_BadRow (P:=l.prog) (w:=w) (mg:=mg) (base:=base) FF_BadRow S_BadRow
 have fMade:Fn l.prog w K mg base 1 "made_of" ["text", "signs"] (spMade):=⟨f1,_,ok_made F1 T,b1,k1,PySem.W.mg_of X G a1⟩
 have fNam:Fn l.prog w K mg base 2 "is_name" ["thing"] (spNamG K):=⟨f2,_,ok_namG F2 T v_LONGEST_NAME v_SMALL_LETTERS fMade,b2,k2,PySem.W.mg_of X G a2⟩
 have fLin:Fn l.prog w K mg base 3 "label_in" ["row"] (spLinG K):=⟨f3,_,ok_linG F3 T fNam,b3,k3,PySem.W.mg_of X G a3⟩
 have fNum:Fn l.prog w K mg base 2 "number_in" ["word"] (spNumG K):=⟨f4,_,ok_numG F4 T v_GREATEST_NUMBER v_FIGURES fMade,b4,k4,PySem.W.mg_of X G a4⟩
 have fVal:Fn l.prog w K mg base 3 "value_in" ["part", "word", "places"] (spValG K):=⟨f5,_,ok_valG F5 T C83 fNum,b5,k5,PySem.W.mg_of X G a5⟩
 have fRin:Fn l.prog w K mg base 4 "row_in" ["row", "places"] (spRinG K):=⟨f6,_,ok_rinG F6 T C83 fVal,b6,k6,PySem.W.mg_of X G a6⟩
 have fLpl:Fn l.prog w K mg base 4 "label_places" ["rows"] (spLplG K):=⟨f7,_,ok_lplG F7 T fLin,b7,k7,PySem.W.mg_of X G a7⟩
 have fRdp:FnX l.prog w K mg base 5 "read_program" ["text"] (spRdX K G_BadRow):=⟨f8,_,ok_rdx F8 T v_MOST_ROWS g_BadRow M_BadRow F_BadRow b_BadRow fLpl fLin fRin,b8,k8,PySem.W.mg_of X G a8⟩
 have fRdC:Fn l.prog w K mg base 5 "read_program" ["text"] (spRdC K):=FnX.calm fRdp (fun _ _ _ _ h=>rdC_of h)
 have fBegin:Fn l.prog w K mg base 1 "_law_begin" ["_law_script"] (spBegin K):=⟨f9,_,ok_begin F9 T,b9,k9,PySem.W.mg_of X G a9⟩
 have fTake:Fn l.prog w K mg base 1 "_law_take" ["_law_state", "_law_many_here"] (spTake):=⟨f10,_,ok_take F10 T,b10,k10,PySem.W.mg_of X G a10⟩
 have fTk:Fn l.prog w K mg base 1 "_law_take" ["_law_state", "_law_many_here"] (spTk):=Fn.imp fTake (fun _ _ _ _ h=>spTk_of h)
 have fProg:Fn l.prog w K mg base 2 "_law_program" ["_law_state", "_law_many_here"] (spProg K):=⟨f11,_,ok_prog F11 T fTk,b11,k11,PySem.W.mg_of X G a11⟩
 have fWrd:Fn l.prog w K mg base 2 "_law_word" ["_law_state", "_law_most"] (spWrd):=⟨f12,_,ok_wrd F12 T fTk,b12,k12,PySem.W.mg_of X G a12⟩
 have fIsn:Fn l.prog w K mg base 1 "_law_is_name" ["_law_word_here"] (spNamA):=⟨f13,_,ok_lin82 F13 T,b13,k13,PySem.W.mg_of X G a13⟩
 have fIsf:Fn l.prog w K mg base 1 "_law_is_figures" ["_law_word_here"] (spFigA):=⟨f14,_,ok_lif82 F14 T,b14,k14,PySem.W.mg_of X G a14⟩
 have fRt:Fn l.prog w K mg base 2 "_law_row_told" ["_law_words"] (spRt):=⟨f15,_,ok_rt F15 T fIsn fIsf,b15,k15,PySem.W.mg_of X G a15⟩
 have fRead:Fn l.prog w K mg base 3 "_law_read" ["_law_text"] (spRef K):=⟨f16,_,ok_read F16 T fRt,b16,k16,PySem.W.mg_of X G a16⟩
 have fSht:Fn l.prog w K mg base 3 "_law_sheet" ["_law_state", "_law_program_here", "_law_empty"] (spSht K):=⟨f17,_,ok_sht F17 T fTk fWrd,b17,k17,PySem.W.mg_of X G a17⟩
 have fRef:Fn l.prog w K mg base 6 "_law_refused" ["_law_text"] (spRef K):=⟨f18,_,ok_ref F18 T n_ValueError g_OddError g_BadRow g_BadText g_NoForm g_NoName g_NoPlace g_NoTarget g_TooFar g_TooFull sb0 xo0 S_BadRow (fun D hD=>by simp at hD;rcases hD with rfl|rfl|rfl|rfl|rfl|rfl|rfl <;> assumption) (by assumption) fRdp,b18,k18,PySem.W.mg_of X G a18⟩
 have fMany:Fn l.prog w K mg base 2 "_law_many" ["_law_state"] (spMn):=⟨f19,_,ok_many F19 T fTk,b19,k19,PySem.W.mg_of X G a19⟩
 have fSame:∀n:Nat,Fn l.prog w K mg base (n+0) "_law_same" ["_law_found", "_law_due"] (spSame K n):=fun n=>by
  induction n with
  | zero=>exact ⟨f20,_,⟨fun vs H Q E h=>absurd h (by rintro ⟨_,_,_,_,_,_,z,_⟩;exact absurd z (Nat.not_lt_zero _)),fun A outer s H args us vs Q E _ _ _ _ h=>absurd h (by rintro ⟨_,_,_,_,_,_,z,_⟩;exact absurd z (Nat.not_lt_zero _))⟩,b20,k20,PySem.W.mg_of X G a20⟩
  | succ n ih=>exact ⟨f20,_,ok_same F20 T ih,b20,k20,PySem.W.mg_of X G a20⟩
 have fSgn:Fn l.prog w K mg base 1 "_law_signs" [] (spSgn):=⟨f21,_,ok_sgn F21 T,b21,k21,PySem.W.mg_of X G a21⟩
 have fSpl:Fn l.prog w K mg base 2 "_law_spelt" ["_law_state", "_law_text"] (spSpl):=⟨f22,_,ok_spl F22 T fTk fSgn,b22,k22,PySem.W.mg_of X G a22⟩
 have fLsp:Fn l.prog w K mg base 2 "_law_line_spelt" ["_law_state", "_law_text"] (spSpl):=⟨f23,_,ok_lsp F23 T fTk,b23,k23,PySem.W.mg_of X G a23⟩
 exact ok_law F24 T fBegin fTk fProg fMany fSht fSpl fLsp fRef fRead fRdC (fSame 4)
theorem walk {l:PySem.W.OpenLaw} {q:Program} {loose:List Str} {XP:(Str→Option Value)→Heap→Prop} {YP:World→Heap→Prop} {d:DefRec} {K:Params→PySem.W.Frag} (hn:l.most=some 63) (hdf:d.params.defaults=[])
  (hY:∀(w:World) (h:Heap),YP w h→(K w.params).In h)
  (F:∀(w:World) (mg:Str→Option Value) (fa:Addr) (h:Heap),(K w.params).In h→h.Ns mainGlobals mg→mg d.name=some (.ref fa) →
   ∃fd:FuncData,(∀(s:Shared) (u:Value),BindsTo s fd ⟨[u],[]⟩ [("_law_script",u)])∧∀base:Heap,(K w.params).In base→base.Ns mainGlobals mg→FnOk l.prog w (K w.params) mg base CX0 7 fa fd ["_law_script"] (spLaw (K w.params))) :
  PySem.W.WalkO q loose XP YP l.row.toRowW d [] (fun f vs=>PySem.call f vs):=
 L2.walk_of (n:=63) (k:=7) (x := "_law_script") (CX:=fun _=>CX0) (sp:=fun w=>spLaw (K w.params)) hn (by decide) hdf ⟨rfl,by decide,by decide,rfl⟩ hY F (fun _ _ a ns hl _ hS=>⟨a,ns,rfl,hS,hl,fun _=>rfl⟩) fun _ _ _ _ _ z=>z
end Z
open PySem PySem.W PyProof.Rows L2
set_option maxRecDepth 100000 in
set_option maxHeartbeats 0 in
theorem PySem.Challenge.cw_oddlong_k81_sheets_spoilt_anywhere_holds : PySem.Challenge.rw_oddlong_k81_sheets_spoilt_anywhere.Holds := by
  refine Z.kh_head ?hw ?hc
  (case hw => w_witness2)
  k_fill
  refine Z.walk (l := PySem.Challenge.rw_oddlong_k81_sheets_spoilt_anywhere) rfl rfl (fun w h Y => Y) ?F
  case F =>
    intro w mg fa h KX G hmg
    refine' Z.all_mk KX G hmg ?a1 ?F1 ?a2 ?F2 ?a3 ?F3 ?a4 ?F4 ?a5 ?F5 ?a6 ?F6 ?a7 ?F7 ?a8 ?F8 ?a9 ?F9 ?a10 ?F10 ?a11 ?F11 ?a12 ?F12 ?a13 ?F13 ?a14 ?F14 ?a15 ?F15 ?a16 ?F16 ?a17 ?F17 ?a18 ?F18 ?a19 ?F19 ?a20 ?F20 ?a21 ?F21 ?a22 ?F22 ?a23 ?F23 ?a24 ?l24 ?c24 ?k24 ?gn_OddError ?gn_BadRow ?gn_BadText ?gn_NoForm ?gn_NoName ?gn_NoPlace ?gn_NoTarget ?gn_TooFar ?gn_TooFull ?kt0 ?kt1 ?kt2 ?kt3 ?kt4 ?kt5 ?kt6 ?kt7 ?xo0 ?sb0 ?vc0 ?vc1 ?vc2 ?vc3 ?vc4 ?gaS ?laS ?waS ?gaR ?laR ?waR ?gaP ?laP ?kaP ?g_q_set ?lq_set ?wq_set ?g_q_add ?lq_add ?wq_add ?g_q_take ?lq_take ?wq_take ?g_q_tell ?lq_tell ?wq_tell ?g_q_ask ?lq_ask ?wq_ask ?g_q_jump ?lq_jump ?wq_jump ?g_q_zero ?lq_zero ?wq_zero ?g_q_stop ?lq_stop ?wq_stop ?lOddError ?xOddError ?lBadRow ?kpBadRow ?iniBadRow ?lfBadRow ?cfBadRow ?kfBadRow ?saBadRow ?naBadRow ?moBadRow ?y0 ?y1 ?y2 ?y3 ?z0 ?z1 ?z2 ?z3 ?z4 ?z5 ?z6 ?z7 ?z8 ?z9 ?z10 ?z11 ?z12 ?z13 ?z14 ?z15
    (case a1 => k_is); (case F1 => (refine' fun_mk ?l ?c ?k; (case l => k_is); (case c => k_is); (case k => k_is))); (case a2 => k_is); (case F2 => (refine' fun_mk ?l ?c ?k; (case l => k_is); (case c => k_is); (case k => k_is))); (case a3 => k_is); (case F3 => (refine' fun_mk ?l ?c ?k; (case l => k_is); (case c => k_is); (case k => k_is))); (case a4 => k_is); (case F4 => (refine' fun_mk ?l ?c ?k; (case l => k_is); (case c => k_is); (case k => k_is)))
    (case a5 => k_is); (case F5 => (refine' fun_mk ?l ?c ?k; (case l => k_is); (case c => k_is); (case k => k_is))); (case a6 => k_is); (case F6 => (refine' fun_mk ?l ?c ?k; (case l => k_is); (case c => k_is); (case k => k_is))); (case a7 => k_is); (case F7 => (refine' fun_mk ?l ?c ?k; (case l => k_is); (case c => k_is); (case k => k_is))); (case a8 => k_is); (case F8 => (refine' fun_mk ?l ?c ?k; (case l => k_is); (case c => k_is); (case k => k_is)))
    (case a9 => k_is); (case F9 => (refine' fun_mk ?l ?c ?k; (case l => k_is); (case c => k_is); (case k => k_is))); (case a10 => k_is); (case F10 => (refine' fun_mk ?l ?c ?k; (case l => k_is); (case c => k_is); (case k => k_is))); (case a11 => k_is); (case F11 => (refine' fun_mk ?l ?c ?k; (case l => k_is); (case c => k_is); (case k => k_is))); (case a12 => k_is); (case F12 => (refine' fun_mk ?l ?c ?k; (case l => k_is); (case c => k_is); (case k => k_is)))
    (case a13 => k_is); (case F13 => (refine' fun_mk ?l ?c ?k; (case l => k_is); (case c => k_is); (case k => k_is))); (case a14 => k_is); (case F14 => (refine' fun_mk ?l ?c ?k; (case l => k_is); (case c => k_is); (case k => k_is))); (case a15 => k_is); (case F15 => (refine' fun_mk ?l ?c ?k; (case l => k_is); (case c => k_is); (case k => k_is))); (case a16 => k_is); (case F16 => (refine' fun_mk ?l ?c ?k; (case l => k_is); (case c => k_is); (case k => k_is)))
    (case a17 => k_is); (case F17 => (refine' fun_mk ?l ?c ?k; (case l => k_is); (case c => k_is); (case k => k_is))); (case a18 => k_is); (case F18 => (refine' fun_mk ?l ?c ?k; (case l => k_is); (case c => k_is); (case k => k_is))); (case a19 => k_is); (case F19 => (refine' fun_mk ?l ?c ?k; (case l => k_is); (case c => k_is); (case k => k_is))); (case a20 => k_is); (case F20 => (refine' fun_mk ?l ?c ?k; (case l => k_is); (case c => k_is); (case k => k_is)))
    (case a21 => k_is); (case F21 => (refine' fun_mk ?l ?c ?k; (case l => k_is); (case c => k_is); (case k => k_is))); (case a22 => k_is); (case F22 => (refine' fun_mk ?l ?c ?k; (case l => k_is); (case c => k_is); (case k => k_is))); (case a23 => k_is); (case F23 => (refine' fun_mk ?l ?c ?k; (case l => k_is); (case c => k_is); (case k => k_is))); (case a24 => k_is); (case l24 => k_is)
    (case c24 => k_is); (case k24 => k_is); (case gn_OddError => k_is); (case gn_BadRow => k_is); (case gn_BadText => k_is); (case gn_NoForm => k_is); (case gn_NoName => k_is); (case gn_NoPlace => k_is)
    (case gn_NoTarget => k_is); (case gn_TooFar => k_is); (case gn_TooFull => k_is); (case kt0 => exact kit_ref (by k_is) (by k_is) (by k_is) rfl); (case kt1 => exact kit_ref (by k_is) (by k_is) (by k_is) rfl); (case kt2 => exact kit_ref (by k_is) (by k_is) (by k_is) rfl); (case kt3 => exact kit_ref (by k_is) (by k_is) (by k_is) rfl); (case kt4 => exact kit_ref (by k_is) (by k_is) (by k_is) rfl)
    (case kt5 => exact kit_ref (by k_is) (by k_is) (by k_is) rfl); (case kt6 => exact kit_ref (by k_is) (by k_is) (by k_is) rfl); (case kt7 => exact kit_ty (by decide +kernel) (by k_is)); (case xo0 => exact ⟨cls_some (by k_is), by k_is, by k_is, by k_is, by k_is, by k_is, by k_is, by k_is⟩); (case sb0 => exact exm_sub (by k_is) (by k_is) (by k_is) (by k_is)); (case vc0 => k_is); (case vc1 => k_is); (case vc2 => k_is)
    (case vc3 => k_is); (case vc4 => k_is); (case gaS => k_is); (case laS => k_is); (case waS => repeat (first | exact Paired.nil | refine Paired.cons ⟨_, rfl⟩ ?_)); (case gaR => k_is); (case laR => k_is); (case waR => repeat (first | exact Paired.nil | refine Paired.cons ⟨_, rfl⟩ ?_))
    (case gaP => k_is); (case laP => k_is); (case kaP => repeat (first | exact trivial | refine ⟨⟨_, _, rfl, rfl⟩, ?_⟩)); (case g_q_set => k_is); (case lq_set => k_is); (case wq_set => repeat (first | exact Paired.nil | refine Paired.cons ⟨_, rfl⟩ ?_)); (case g_q_add => k_is); (case lq_add => k_is)
    (case wq_add => repeat (first | exact Paired.nil | refine Paired.cons ⟨_, rfl⟩ ?_)); (case g_q_take => k_is); (case lq_take => k_is); (case wq_take => repeat (first | exact Paired.nil | refine Paired.cons ⟨_, rfl⟩ ?_)); (case g_q_tell => k_is); (case lq_tell => k_is); (case wq_tell => repeat (first | exact Paired.nil | refine Paired.cons ⟨_, rfl⟩ ?_)); (case g_q_ask => k_is)
    (case lq_ask => k_is); (case wq_ask => repeat (first | exact Paired.nil | refine Paired.cons ⟨_, rfl⟩ ?_)); (case g_q_jump => k_is); (case lq_jump => k_is); (case wq_jump => repeat (first | exact Paired.nil | refine Paired.cons ⟨_, rfl⟩ ?_)); (case g_q_zero => k_is); (case lq_zero => k_is); (case wq_zero => repeat (first | exact Paired.nil | refine Paired.cons ⟨_, rfl⟩ ?_))
    (case g_q_stop => k_is); (case lq_stop => k_is); (case wq_stop => repeat (first | exact Paired.nil | refine Paired.cons ⟨_, rfl⟩ ?_)); (case lOddError => k_is); (case xOddError => k_exc); (case lBadRow => k_is); (case kpBadRow => k_is); (case iniBadRow => k_is)
    (case lfBadRow => k_is); (case cfBadRow => k_is); (case kfBadRow => k_is); (case saBadRow => k_is); (case naBadRow => k_is); (case moBadRow => k_is); (case y0 => k_is); (case y1 => k_is)
    (case y2 => k_is); (case y3 => k_is); (case z0 => k_is); (case z1 => k_is); (case z2 => k_is); (case z3 => k_is); (case z4 => k_is); (case z5 => k_is)
    (case z6 => k_is); (case z7 => k_is); (case z8 => k_is); (case z9 => k_is); (case z10 => k_is); (case z11 => k_is); (case z12 => k_is); (case z13 => k_is)
    (case z14 => k_is); (case z15 => k_is)
