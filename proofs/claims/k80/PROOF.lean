import PyProof.Rows.All
import Wide.All
import OpenK.AllK
import Wide.FinOn
import PyProof.EqAt
import PyProof.EqKinds
import PyProof.TupleCall
import PyProof.DictCompW
import PyProof.Rows.SortWalk
import OpenK.KRaise
import PyProof.ExcClass2
import KE.KTryMore
import KE.KSortTup
import KE.KIsAll
import PyProof.ListRange
import PyProof.StrBlock2
import PyProof.Rows.SetFrom
import PyProof.SetRoads
import PyProof.ReprRoads
import PyProof.CallStr
import PyProof.Rows.SortStr
import PyProof.Rows.Range3
import PyProof.Rows.IntBool
import KE.KRevIter
import PyProof.MeetsSeq
import PyProof.MinMaxWalk
import PyProof.SliceStr2
import PyProof.P3Eq
import PyProof.Rows.StrLen
import PyProof.Rows.StrCase
import PyProof.InstStoreFacts
import PyProof.ExcInit
import PyProof.StrCalls
import PyProof.DictIter
import PyProof.DictWalks
import PyProof.AutoIntG2
import PyProof.DictItems
import PyProof.RulesTry
import PyProof.EnumMake
import PyProof.Draws
import PyProof.FactsAll.set_1
import PyProof.IsiH_list
import KE.KDictOf
import PyProof.RulesRaise
import KE.KIntText
import PyProof.StrCalls2
import PyProof.StrLawsChain
import PyProof.Rows.SeqMore
import PyProof.TupleOps
import KE.KSortKey
import KE.KMinKey
import KE.KDictList
import PyProof.StrLawsRepr
import PyProof.Rows.StrJoinMade
import PyProof.StrLawsTight
import Lean
import PySem.Challenge.RW_oddlong_k80_sheets_read
local macro_rules | `(tactic| omega) => `(tactic| lia)
set_option Elab.async false
set_option linter.all false
set_option maxRecDepth 100000
namespace L2
set_option genSizeOf false
set_option genInjectivity false
inductive Ex2 {α0 α1:Type} (P : α0 → α1→Prop):Prop|mk (x0 : α0) (x1 : α1) (h:P x0 x1):Ex2 P
inductive Ex3 {α0 α1 α2:Type} (P : α0 → α1 → α2→Prop):Prop|mk (x0 : α0) (x1 : α1) (x2 : α2) (h:P x0 x1 x2):Ex3 P
inductive Ex4 {α0 α1 α2 α3:Type} (P : α0 → α1 → α2 → α3→Prop):Prop|mk (x0 : α0) (x1 : α1) (x2 : α2) (x3 : α3) (h:P x0 x1 x2 x3):Ex4 P
inductive Ex5 {α0 α1 α2 α3 α4:Type} (P : α0 → α1 → α2 → α3 → α4→Prop):Prop|mk (x0 : α0) (x1 : α1) (x2 : α2) (x3 : α3) (x4 : α4) (h:P x0 x1 x2 x3 x4):Ex5 P
inductive Ex6 {α0 α1 α2 α3 α4 α5:Type} (P : α0 → α1 → α2 → α3 → α4 → α5→Prop):Prop|mk (x0 : α0) (x1 : α1) (x2 : α2) (x3 : α3) (x4 : α4) (x5 : α5) (h:P x0 x1 x2 x3 x4 x5):Ex6 P
inductive Ex9 {α0 α1 α2 α3 α4 α5 α6 α7 α8:Type} (P : α0 → α1 → α2 → α3 → α4 → α5 → α6 → α7 → α8→Prop):Prop|mk (x0 : α0) (x1 : α1) (x2 : α2) (x3 : α3) (x4 : α4) (x5 : α5) (x6 : α6) (x7 : α7) (x8 : α8) (h:P x0 x1 x2 x3 x4 x5 x6 x7 x8):Ex9 P
set_option genSizeOf true
set_option genInjectivity true
class Elim (P:Prop) (F:outParam (Prop→Prop)):Prop where
 el:P→∀G:Prop,F G→G
theorem Elim.go {P:Prop}{F:Prop→Prop}[i:Elim P F]{G:Prop}(k:F G):P→G:=fun h=>i.el h G k
noncomputable instance (priority:=low) elimBase {P:Prop} : Elim P (fun G=>P→G):=⟨fun h _ k=>k h⟩
noncomputable instance elimEx {α:Sort u} {P : α→Prop} {F : α→Prop→Prop} [h:∀x,Elim (P x) (F x)]:Elim (∃x,P x) (fun G=>∀x,F x G):=⟨fun ⟨x,hx⟩ G k=>(h x).el hx G (k x)⟩
noncomputable instance elimAnd {A B:Prop} {F:Prop→Prop} [h:Elim B F]:Elim (A∧B) (fun G=>A→F G):=⟨fun ⟨a,b⟩ G k=>h.el b G (k a)⟩
noncomputable instance elimEx2 {α0 α1:Type} {P : α0 → α1→Prop} {F : α0 → α1→Prop→Prop} [i:∀x0 x1,Elim (P x0 x1) (F x0 x1)]:Elim (Ex2 P) (fun G=>∀x0 x1,F x0 x1 G):=⟨fun ⟨x0,x1,h⟩ G k=>(i x0 x1).el h G (k x0 x1)⟩
noncomputable instance elimEx3 {α0 α1 α2:Type} {P : α0 → α1 → α2→Prop} {F : α0 → α1 → α2→Prop→Prop} [i:∀x0 x1 x2,Elim (P x0 x1 x2) (F x0 x1 x2)]:Elim (Ex3 P) (fun G=>∀x0 x1 x2,F x0 x1 x2 G):=⟨fun ⟨x0,x1,x2,h⟩ G k=>(i x0 x1 x2).el h G (k x0 x1 x2)⟩
noncomputable instance elimEx4 {α0 α1 α2 α3:Type} {P : α0 → α1 → α2 → α3→Prop} {F : α0 → α1 → α2 → α3→Prop→Prop} [i:∀x0 x1 x2 x3,Elim (P x0 x1 x2 x3) (F x0 x1 x2 x3)]:Elim (Ex4 P) (fun G=>∀x0 x1 x2 x3,F x0 x1 x2 x3 G):=⟨fun ⟨x0,x1,x2,x3,h⟩ G k=>(i x0 x1 x2 x3).el h G (k x0 x1 x2 x3)⟩
noncomputable instance elimEx5 {α0 α1 α2 α3 α4:Type} {P : α0 → α1 → α2 → α3 → α4→Prop} {F : α0 → α1 → α2 → α3 → α4→Prop→Prop} [i:∀x0 x1 x2 x3 x4,Elim (P x0 x1 x2 x3 x4) (F x0 x1 x2 x3 x4)]:Elim (Ex5 P) (fun G=>∀x0 x1 x2 x3 x4,F x0 x1 x2 x3 x4 G):=⟨fun ⟨x0,x1,x2,x3,x4,h⟩ G k=>(i x0 x1 x2 x3 x4).el h G (k x0 x1 x2 x3 x4)⟩
noncomputable instance elimEx6 {α0 α1 α2 α3 α4 α5:Type} {P : α0 → α1 → α2 → α3 → α4 → α5→Prop} {F : α0 → α1 → α2 → α3 → α4 → α5→Prop→Prop} [i:∀x0 x1 x2 x3 x4 x5,Elim (P x0 x1 x2 x3 x4 x5) (F x0 x1 x2 x3 x4 x5)]:Elim (Ex6 P) (fun G=>∀x0 x1 x2 x3 x4 x5,F x0 x1 x2 x3 x4 x5 G):=⟨fun ⟨x0,x1,x2,x3,x4,x5,h⟩ G k=>(i x0 x1 x2 x3 x4 x5).el h G (k x0 x1 x2 x3 x4 x5)⟩
noncomputable instance elimEx9 {α0 α1 α2 α3 α4 α5 α6 α7 α8:Type} {P : α0 → α1 → α2 → α3 → α4 → α5 → α6 → α7 → α8→Prop} {F : α0 → α1 → α2 → α3 → α4 → α5 → α6 → α7 → α8→Prop→Prop} [i:∀x0 x1 x2 x3 x4 x5 x6 x7 x8,Elim (P x0 x1 x2 x3 x4 x5 x6 x7 x8) (F x0 x1 x2 x3 x4 x5 x6 x7 x8)]:Elim (Ex9 P) (fun G=>∀x0 x1 x2 x3 x4 x5 x6 x7 x8,F x0 x1 x2 x3 x4 x5 x6 x7 x8 G):=⟨fun ⟨x0,x1,x2,x3,x4,x5,x6,x7,x8,h⟩ G k=>(i x0 x1 x2 x3 x4 x5 x6 x7 x8).el h G (k x0 x1 x2 x3 x4 x5 x6 x7 x8)⟩
end L2
namespace L2
open PySem PySem.Spec PyProof.Rows
noncomputable abbrev Key:=Sum Int Str
noncomputable def keyIs:Key→Value→Bool
 | .inl k,v=>Value.isInt k v
 | .inr x,v=>Value.isStrOf x v
noncomputable def keyH (w:World):Key→Int
 | .inl k=>hashInt k
 | .inr x=>hashStr w x
theorem keyIs_shape:∀{k:Key} {v:Value},keyIs k v=true→(∃i t,k=Sum.inl i∧v=Value.int i t)∨(∃x t,k=Sum.inr x∧v=Value.str x t)
 | .inl i,v,h=>by
  obtain ⟨t,e⟩:=Value.isInt_shape (k:=i) (v:=v) h
  exact .inl ⟨i,t,rfl,e⟩
 | .inr x,v,h=>by
  obtain ⟨t,e⟩:=Value.isStrOf_shape (x:=x) (v:=v) h
  exact .inr ⟨x,t,rfl,e⟩
theorem keyIs_int (i:Int) (t:Tok):keyIs (.inl i) (.int i t)=true:=by simp [keyIs,Value.isInt]
theorem keyIs_str (x:Str) (t:Tok):keyIs (.inr x) (.str x t)=true:=by simp [keyIs,Value.isStrOf]
theorem key_ll (a b:Int):decide ((Sum.inl a:Key)=Sum.inl b)=(a == b):=by
 by_cases e:a=b
 ·subst e;simp
 ·have h:¬(Sum.inl a:Key)=Sum.inl b:=fun q=>e (Sum.inl.inj q)
  rw [decide_eq_false h]
  exact (beq_eq_false_iff_ne.mpr e).symm
theorem key_rr (a b:Str):decide ((Sum.inr a:Key)=Sum.inr b)=decide (a=b):=by
 by_cases e:a=b
 ·subst e;simp
 ·have h:¬(Sum.inr a:Key)=Sum.inr b:=fun q=>e (Sum.inr.inj q)
  rw [decide_eq_false h,decide_eq_false e]
theorem key_lr (a:Int) (b:Str):decide ((Sum.inl a:Key)=Sum.inr b)=false:=decide_eq_false (fun q=>nomatch q)
theorem key_rl (a:Str) (b:Int):decide ((Sum.inr a:Key)=Sum.inl b)=false:=decide_eq_false (fun q=>nomatch q)
noncomputable def mixKind (prog:Program) (w:World):PySem.KeyKind prog w Key where
 is:=keyIs
 hash:=keyH w
 inj:=fun v a b ha hb=>by
  rcases keyIs_shape ha with ⟨i,t,rfl,rfl⟩|⟨x,t,rfl,rfl⟩
  ·rcases keyIs_shape hb with ⟨j,u,rfl,e⟩|⟨y,u,rfl,e⟩
   ·injection e with e1 _;rw [e1]
   ·exact nomatch e
  ·rcases keyIs_shape hb with ⟨j,u,rfl,e⟩|⟨y,u,rfl,e⟩
   ·exact nomatch e
   ·injection e with e1 _;rw [e1]
 byValue:=fun k v h=>by
  rcases keyIs_shape h with ⟨i,t,rfl,rfl⟩|⟨x,t,rfl,rfl⟩ <;> rfl
 pyHash:=fun hv h=>by
  rcases keyIs_shape hv with ⟨i,t,rfl,rfl⟩|⟨x,t,rfl,rfl⟩
  ·exact wpAny_pyHash_int h
  ·exact wpAny_pyHash_str h
 eqBool:=fun hu hv h=>by
  rcases keyIs_shape hu with ⟨i,t,rfl,rfl⟩|⟨x,t,rfl,rfl⟩
  ·rcases keyIs_shape hv with ⟨j,u,rfl,rfl⟩|⟨y,u,rfl,rfl⟩
   ·rw [key_ll] at h;exact wpAny_eqBool_int h
   ·rw [key_lr] at h;exact SeqAt.EqAt.int_str i t y u _ _ _ _ h
  ·rcases keyIs_shape hv with ⟨j,u,rfl,rfl⟩|⟨y,u,rfl,rfl⟩
   ·rw [key_rl] at h;exact SeqAt.EqAt.str_int x t j u _ _ _ _ h
   ·rw [key_rr] at h;exact wpAny_eqBool_str h
 «strs»:=fun k x t v h=>by
  rcases keyIs_shape h with ⟨i,u,rfl,e⟩|⟨y,u,rfl,e⟩
  ·exact nomatch e
  ·injection e with e1 _
   subst e1
   cases v <;> rfl
theorem mixKind_int (prog:Program) (w:World) (i:Int) (t:Tok):(mixKind prog w).is (.inl i) (.int i t)=true:=keyIs_int i t
theorem mixKind_str (prog:Program) (w:World) (x:Str) (t:Tok):(mixKind prog w).is (.inr x) (.str x t)=true:=keyIs_str x t
end L2
namespace L2
open PySem PySem.Spec PyProof.Rows
inductive V where
 | non|bl (b:Bool)|int (i:Int)|str (x:Str)|byt (b:Array UInt8)|flt (b:UInt64)|ref (a:Addr)|ty (n:String)
 deriving DecidableEq
noncomputable def RelV:V→Value→Prop
 | .non,u=>u=Value.none
 | .bl b,u=>u=Value.bool b
 | .int i,u=>∃t,u=Value.int i t
 | .str x,u=>∃t,u=Value.str x t
 | .byt b,u=>∃t,u=Value.bytes b t
 | .flt b,u=>∃t,u=Value.float b t
 | .ref a,u=>u=Value.ref a
 | .ty n,u=>u=Value.type n
noncomputable abbrev Vals:List V→List Value→Prop:=Paired RelV
theorem Vals.length {xs:List V} {us:List Value} (r:Vals xs us):xs.length=us.length:=Paired.length r
theorem Vals.get:∀{xs:List V} {us:List Value} {i:Nat} {x:V},Vals xs us→xs[i]? = some x→∃u,us[i]? = some u∧RelV x u
 | _,_,_,_, .nil,e=>by simp at e
 | _,_,0,_, .cons r _,e=>by simp at e;subst e;exact ⟨_,rfl,r⟩
 | _,_,i+1,x, .cons _ t,e=>by
  obtain ⟨u,h1,h2⟩:=Vals.get (i:=i) (x:=x) t (by simpa using e)
  exact ⟨u,by simpa using h1,h2⟩
theorem Vals.set {x:V} {u:Value} (r:RelV x u):∀{xs:List V} {us:List Value} (i:Nat),Vals xs us→Vals (xs.set i x) (us.set i u)
 | _,_,_, .nil => .nil
 | _,_,0, .cons _ t => .cons r t
 | _,_,i+1, .cons q t => .cons q (Vals.set r i t)
theorem Vals.append {xs ys:List V} {us ws:List Value} (h:Vals xs us) (s:Vals ys ws):Vals (xs++ys) (us++ws):=by
 induction h with
 | nil=>exact s
 | cons r t ih=>exact .cons r ih
theorem Vals.take:∀{xs:List V} {us:List Value} (n:Nat),Vals xs us→Vals (xs.take n) (us.take n)
 | _,_,0,_ => .nil
 | _,_,_+1, .nil => .nil
 | _,_,n+1, .cons r t => .cons r (Vals.take n t)
theorem Vals.drop:∀{xs:List V} {us:List Value} (n:Nat),Vals xs us→Vals (xs.drop n) (us.drop n)
 | _,_,0,r=>r
 | _,_,_+1, .nil => .nil
 | _,_,n+1, .cons _ t=>Vals.drop n t
noncomputable def RelO:Option V→Option Value→Prop
 | some v,some u=>RelV v u
 | none,none=>True
 | _,_=>False
noncomputable def KV {κ:Type} : List (κ×V)→List (κ×Value)→Prop:=Paired fun (p : κ×V) (q : κ×Value)=>p.1=q.1∧RelV p.2 q.2
noncomputable def kV:Key→V
 | .inl i => .int i
 | .inr x => .str x
inductive HO where
 | lst (xs:List V)
 | tup (xs:List V)
 | dK (kvs:List (Key×V))|dT (kvs:List (List Key×V))
 | set (S:Int→Bool) (n:Nat)
 | ins (C dx:Addr) (fs:List (Str×V))
 | own (x:Addr)
 | xd (fs:List (Str×V))
 | met (f x:Addr)
 | rng (lo hi:Int)
 | frz (o:Obj) (u:HO)
 | tbl (ps:Array Value)
 | ext (φ:Heap→Prop)
noncomputable abbrev Hp:=Addr→Option HO
noncomputable def upd (H:Hp) (a:Addr) (o:HO):Hp:=fun b=>if b=a then some o else H b
theorem upd_same {H:Hp} {a:Addr} {o:HO} : upd H a o a=some o:=by unfold upd;rw [if_pos rfl]
theorem upd_ne {H:Hp} {a b:Addr} {o:HO} (h:b≠a):upd H a o b=H b:=by unfold upd;rw [if_neg h]
theorem upd_upd {H:Hp} {a:Addr} {o u:HO} : upd (upd H a o) a u=upd H a u:=by
 funext b;unfold upd;split <;> rfl
theorem ne_of {H:Hp} {a b:Addr} {o u:HO} (h:H a=some o) (h':H b=some u) (d:o≠u):a≠b:=by
 intro e;subst e;rw [h] at h';exact d (Option.some.inj h')
theorem ne_of_none {H:Hp} {a b:Addr} {o:HO} (h:H a=some o) (h':H b=none):a≠b:=by
 intro e;subst e;rw [h] at h';cases h'
section
variable (P:Program) (w:World)
noncomputable def ObjOk (H:Hp) (h:Heap) (a:Addr):HO→Prop
 | .lst xs=>xs.length≤sizeLine∧Ex2 fun (its:List Value) (n:Nat)=>Vals xs its∧h.get? a=some { cls := .type "list",data := .seq its.toArray n }
 | .tup xs=>xs.length≤sizeLine∧∃its:List Value,Vals xs its∧IsTup h a its.toArray
 | .dK kvs=>kvs.length≤sizeLine∧(a == sysModules)=false∧∃vs,KV kvs vs∧h.DictOf (mixKind P w) a vs
 | .dT kvs=>kvs.length≤sizeLine∧(a == sysModules)=false∧∃xs:List (List Key×Addr×Value),
   Paired (fun (p:List Key×V) (q:List Key×Addr×Value)=>p.1=q.1∧H q.2.1=some (.tup (p.1.map kV))∧RelV p.2 q.2.2) kvs xs ∧
   Ex3 fun o es ep=>h.get? a=some o∧o.ExactDict∧o.data = .dict es ep∧es.toList=xs.map (entryOfKey (tupleKind (mixKind P w)))∧(xs.map (·.1)).Nodup
 | .set S n=>h.SetOf (intKind P w) a S n
 | .ins C dx fs=>H dx=some (.own a)∧fs.length≤1000∧dx≠a∧h.get? a=some (PySem.W.instObj C dx) ∧
   ∃mA,h.Ns1 dx mA∧(∀f,RelO (fs.lookup f) (mA f))∧PySem.Within mA (fs.map (·.1))
 | .own _=>∃o,h.get? a=some o
 | .xd fs=>∃mA,h.Ns1 a mA∧∀f,RelO (fs.lookup f) (mA f)
 | .rng lo hi=>Ex3 fun t u v=>h.get? a=some { cls := .type "range",data := .fields #[.int lo t, .int hi u, .int 1 v] }
 | .frz o u=>h.get? a=some o∧ObjOk H h a u
 | .tbl ps=>h.get? a=some { cls := .none,data := .fields ps }
 | .met f x=>h.get? a=some (PySem.W.methodObj (.ref f) (.ref x))
 | .ext φ => φ h∧(∃o,h.get? a=some o)∧∀h1 h2:Heap, φ h1→(∀o,h1.get? a=some o→h2.get? a=some o) → φ h2
noncomputable def HOk (H:Hp) (h:Heap):Prop:=∀a o,H a=some o→ObjOk P w H h a o
end
section
variable {P:Program} {w:World} {H H':Hp} {h h':Heap} {a:Addr} {o:HO}
theorem ObjOk.lt (x:ObjOk P w H h a o):a<h.objs.size:=by
 cases o with
 | lst xs=>obtain ⟨_,_,_,_,e⟩:=x;exact Heap.lt_size e
 | tup xs=>obtain ⟨_,_,_,p⟩:=x;exact p.lt
 | dK kvs=>obtain ⟨_,_,_,_,o,_,_,e,_⟩:=x;exact Heap.lt_size e
 | dT kvs=>obtain ⟨_,_,_,_,o,_,_,e,_⟩:=x;exact Heap.lt_size e
 | set S n=>obtain ⟨o,_,_,_,e,_⟩:=x;exact Heap.lt_size e
 | ins C dx fs=>obtain ⟨_,_,_,e,_⟩:=x;exact Heap.lt_size e
 | own y=>obtain ⟨_,e⟩:=x;exact Heap.lt_size e
 | xd fs=>obtain ⟨_,⟨_,_,_,e,_⟩,_⟩:=x;exact Heap.lt_size e
 | rng lo hi=>obtain ⟨_,_,_,e⟩:=x;exact Heap.lt_size e
 | frz ob u=>obtain ⟨e,_⟩:=x;exact Heap.lt_size e
 | tbl ps=>exact Heap.lt_size (show h.get? a=some _ from x)
 | met f y=>exact Heap.lt_size (show h.get? a=some _ from x)
 | ext φ=>obtain ⟨_,⟨_,e⟩,_⟩:=x;exact Heap.lt_size e
theorem Paired.mapP {α β:Type} {F G : α → β→Prop} {l₁:List α} {l₂:List β} (h:Paired F l₁ l₂) (f:∀a b,F a b→G a b):Paired G l₁ l₂:=by
 induction h with
 | nil=>exact .nil
 | cons r t ih=>exact .cons (f _ _ r) ih
theorem ObjOk.stay (x:ObjOk P w H h a o) (k:∀b u,(b=a∨H b=some (.own a))→h.get? b=some u→h'.get? b=some u)
  (ho:∀b,H b=some (.own a)→H' b=some (.own a)) (ht:∀b xs,H b=some (.tup xs)→H' b=some (.tup xs)):ObjOk P w H' h' a o:=by
 induction o with
 | lst xs=>obtain ⟨z,its,n,r,e⟩:=x;exact ⟨z,its,n,r,k _ _ (.inl rfl) e⟩
 | tup xs=>obtain ⟨z,its,r,ob,e,c⟩:=x;exact ⟨z,its,r,ob,k _ _ (.inl rfl) e,c⟩
 | dK kvs=>obtain ⟨z,y,vs,r,ob,es,ep,e,c⟩:=x;exact ⟨z,y,vs,r,ob,es,ep,k _ _ (.inl rfl) e,c⟩
 | dT kvs=>
  obtain ⟨z,y,xs,r,ob,es,ep,e,c⟩:=x
  exact ⟨z,y,xs,Paired.mapP r fun p q z=>⟨z.1,ht _ _ z.2.1,z.2.2⟩,ob,es,ep,k _ _ (.inl rfl) e,c⟩
 | set S n=>obtain ⟨ob,es,ep,t,e,c⟩:=x;exact ⟨ob,es,ep,t,k _ _ (.inl rfl) e,c⟩
 | ins C dx fs=>
  obtain ⟨d,z,ne,e,mA,⟨od,es,ep,e2,c⟩,r⟩:=x
  exact ⟨ho _ d,z,ne,k _ _ (.inl rfl) e,mA,⟨od,es,ep,k _ _ (.inr d) e2,c⟩,r⟩
 | own y=>obtain ⟨ob,e⟩:=x;exact ⟨ob,k _ _ (.inl rfl) e⟩
 | xd fs=>obtain ⟨mA,⟨od,es,ep,e,c⟩,r⟩:=x;exact ⟨mA,⟨od,es,ep,k _ _ (.inl rfl) e,c⟩,r⟩
 | rng lo hi=>obtain ⟨t,u,v,e⟩:=x;exact ⟨t,u,v,k _ _ (.inl rfl) e⟩
 | frz ob u ih=>obtain ⟨e,q⟩:=x;exact ⟨k _ _ (.inl rfl) e,ih q⟩
 | tbl ps=>
  have e:h.get? a=some { cls := .none,data := .fields ps }:=x
  show h'.get? a=some { cls := .none,data := .fields ps }
  exact k a _ (.inl rfl) e
 | met f y=>
  have e:h.get? a=some (PySem.W.methodObj (.ref f) (.ref y)):=x
  show h'.get? a=some (PySem.W.methodObj (.ref f) (.ref y))
  exact k a _ (.inl rfl) e
 | ext φ=>obtain ⟨p,⟨o,e⟩,st⟩:=x;exact ⟨st _ _ p fun o q=>k _ _ (.inl rfl) q,⟨o,k _ _ (.inl rfl) e⟩,st⟩
theorem HOk.lt (x:HOk P w H h) (e:H a=some o):a<h.objs.size:=(x a o e).lt
theorem HOk.fresh (x:HOk P w H h) (e:h.objs.size≤a):H a=none:=by
 cases q:H a with
 | none=>rfl
 | some u=>exact absurd (Nat.lt_of_lt_of_le (x.lt q) e) (Nat.lt_irrefl _)
theorem HOk.kept (x:HOk P w H h) (k:∀b u,h.get? b=some u→h'.get? b=some u):HOk P w H h':=fun a o e=>
 (x a o e).stay (fun b u _ q=>k b u q) (fun _ q=>q) fun _ _ q=>q
theorem HOk.laid (x:HOk P w H h) (k:∀b u,h.get? b=some u→h'.get? b=some u) (hp:h.objs.size≤a) (new:ObjOk P w (upd H a o) h' a o):HOk P w (upd H a o) h':=fun b u e=>by
 have hn:=x.fresh hp
 by_cases hb:b=a
 ·subst hb;rw [upd_same] at e;cases e;exact new
 ·rw [upd_ne hb] at e
  exact (x b u e).stay (fun c v _ q=>k c v q) (fun c q=>by rw [upd_ne (ne_of_none q hn)];exact q) fun c xs q=>by rw [upd_ne (ne_of_none q hn)];exact q
end
noncomputable def Rd (H:Hp) (a:Addr) (u:HO):Prop:=H a=some u∨∃o,H a=some (.frz o u)
theorem Rd.ok {P:Program} {w:World} {H:Hp} {h:Heap} {a:Addr} {u:HO} (r:Rd H a u) (x:HOk P w H h):ObjOk P w H h a u:=by
 rcases r with r|⟨o,r⟩
 ·exact x a u r
 ·obtain ⟨_,q⟩:=x a _ r
  exact q
noncomputable def Mut:Option HO→Prop
 | some (.lst _)=>True
 | some (.dK _)=>True
 | some (.dT _)=>True
 | some (.set _ _)=>True
 | some (.ins _ _ _)=>True
 | some (.ext _)=>True
 | _=>False
section
variable {P:Program} {w:World} {H:Hp} {h h':Heap} {x e:Addr} {o':HO}
theorem HOk.write (ok:HOk P w H h) (mu:Mut (H x)) (he:e=x∨H e=some (.own x)) (k:∀b u,b≠e→h.get? b=some u→h'.get? b=some u) (heo:∃u,h'.get? e=some u)
  (new:ObjOk P w (upd H x o') h' x o'):HOk P w (upd H x o') h':=fun b u q=>by
 have nown:∀c y,H c=some (.own y)→c≠x:=fun c y r z=>by subst z;rw [r] at mu;exact mu
 have ntup:∀c xs,H c=some (.tup xs)→c≠x:=fun c xs r z=>by subst z;rw [r] at mu;exact mu
 by_cases hb:b=x
 ·subst hb;rw [upd_same] at q;cases q;exact new
 ·rw [upd_ne hb] at q
  by_cases hbe:b=e
  ·have q':H b=some (.own x):=by
    rcases he with z|z
    ·exact absurd (hbe.trans z) hb
    ·rw [hbe];exact z
   rw [q] at q';cases q'
   obtain ⟨v,hv⟩:=heo
   exact ⟨v,by rw [hbe];exact hv⟩
  ·refine (ok b u q).stay (fun c v hc r=>k c v ?_ r) (fun c r=>by rw [upd_ne (nown c b r)];exact r) fun c xs r=>by rw [upd_ne (ntup c xs r)];exact r
   rcases hc with rfl|hc
   ·exact hbe
   ·rintro rfl
    rcases he with z|z
    ·exact nown c b hc z
    ·rw [hc] at z;cases z;exact hb rfl
end
structure Un (fs ex:List Addr) (H H':Hp) (h h':Heap):Prop where
 keep:∀b o,h.get? b=some o→H b=none→b ∉ fs→b ∉ ex→h'.get? b=some o
 slot:∀b o,h.get? b=some o→H b=none→b∈fs→b ∉ ex→∃sl,h'.get? b=some { o with slots:=sl }
 free:∀b o,h.get? b=some o→H b=none→b ∉ ex→H' b=none
 there:∀b o,h.get? b=some o→b ∉ ex→∃o',h'.get? b=some o'
 tups:∀b xs,H b=some (.tup xs)→H' b=some (.tup xs)
 frzs:∀b o u,H b=some (.frz o u)→H' b=some (.frz o u)
 tbls:∀b ps,H b=some (.tbl ps)→∃more,H' b=some (.tbl (ps++more))
section
variable {fs fs' ex ex':List Addr} {H H1 H2:Hp} {h h1 h2 h':Heap} {a x e:Addr} {o:HO}
theorem Un.any (u:Un fs ex H H1 h h1) {b:Addr} {ob:Obj} (q:h.get? b=some ob) (n:H b=none) (hx:b ∉ ex):∃sl,h1.get? b=some { ob with slots:=sl }:=by
 by_cases hb:b∈fs
 ·exact u.slot b ob q n hb hx
 ·exact ⟨ob.slots,u.keep b ob q n hb hx⟩
theorem Un.kept (k:∀b u,h.get? b=some u→h'.get? b=some u):Un fs ex H H h h':=
 ⟨fun b ob q _ _ _=>k b ob q,fun b ob q _ _ _=>⟨ob.slots,k b ob q⟩,fun _ _ _ n _=>n,fun b ob q _=>⟨ob,k b ob q⟩,fun _ _ q=>q,fun _ _ _ q=>q,fun _ ps q=>⟨#[],by rw [q];simp⟩⟩
theorem Un.refl:Un fs ex H H h h:=Un.kept fun _ _ q=>q
theorem Un.laid (k:∀b u,h.get? b=some u→h'.get? b=some u) (hp:h.objs.size≤a) (hn:H a=none):Un fs ex H (upd H a o) h h' where
 keep:=fun b u q _ _ _=>k b u q
 slot:=fun b u q _ _ _=>⟨u.slots,k b u q⟩
 free:=fun b u q n _=>by rw [upd_ne (Nat.ne_of_lt (Nat.lt_of_lt_of_le (Heap.lt_size q) hp))];exact n
 there:=fun b u q _=>⟨u,k b u q⟩
 tups:=fun b xs q=>by rw [upd_ne (ne_of_none q hn)];exact q
 frzs:=fun b u xs q=>by rw [upd_ne (ne_of_none q hn)];exact q
 tbls:=fun b ps q=>⟨#[],by rw [upd_ne (ne_of_none q hn),q];simp⟩
theorem Un.write (mu:Mut (H x)) (he:e=x∨H e=some (.own x)) (k:∀b u,b≠e→h.get? b=some u→h'.get? b=some u) (heo:∃u,h'.get? e=some u):Un fs ex H (upd H x o) h h':=by
 have hx:∀b,H b=none→b≠x:=fun b n z=>by subst z;rw [n] at mu;exact mu
 have hb:∀b,H b=none→b≠e:=fun b n z=>by
  subst z
  rcases he with r|r
  ·exact hx b n r
  ·rw [n] at r;cases r
 have hm:∀b u,H b=some u→¬Mut (some u)→b≠x:=fun b u q nm z=>by subst z;rw [q] at mu;exact nm mu
 refine ⟨fun b u q n _ _=>k b u (hb b n) q,fun b u q n _ _=>⟨u.slots,k b u (hb b n) q⟩,fun b u q n _=>by rw [upd_ne (hx b n)];exact n,fun b u q _ => ?_,
  fun b xs q=>by rw [upd_ne (hm b _ q fun z=>z)];exact q,fun b u xs q=>by rw [upd_ne (hm b _ q fun z=>z)];exact q,fun b ps q=>⟨#[],by rw [upd_ne (hm b _ q fun z=>z),q];simp⟩⟩
 by_cases hbe:b=e
 ·subst hbe;exact heo
 ·exact ⟨u,k b u hbe q⟩
end
noncomputable def trk (h:Heap) (H:Hp):List Addr:=(List.range h.objs.size).filter fun a=>(H a).isSome
noncomputable def hidT (h:Heap) (H:Hp):Heap:=PySem.W.hideAll h (trk h H)
theorem hidT_size (h:Heap) (H:Hp):(hidT h H).objs.size=h.objs.size:=PySem.W.hideAll_size _ _
theorem hidT_get {h:Heap} {H:Hp} {b:Addr} {o:Obj} (e:h.get? b=some o) (n:H b=none):(hidT h H).get? b=some o:=
 PySem.W.hideAll_get _ e fun hm=>by
  have q:(H b).isSome=true:=(List.mem_filter.mp hm).2
  rw [n] at q;simp at q
theorem of_hidT {h:Heap} {H:Hp} {b:Addr} {o:Obj} (e:(hidT h H).get? b=some o):h.get? b=some o∧H b=none:=by
 have e':h.get? b=some o:=PySem.W.of_hideAll (trk h H) e
 refine ⟨e',?_⟩
 cases q:H b with
 | none=>rfl
 | some x=>
  have hm:b∈trk h H:=List.mem_filter.mpr ⟨List.mem_range.mpr (Heap.lt_size e'),by simp [q]⟩
  have z:(hidT h H).get? b=none:=PySem.W.hideAll_none (trk h H) hm
  rw [z] at e;cases e
end L2
namespace L2
open PySem PySem.Spec PyProof.Rows
structure Mod (K:PySem.W.Frag) (mg:Str→Option Value) (base:Heap):Prop where
 kin:K.In base
 glob:base.Ns mainGlobals mg
 blt:∃mb,base.Ns builtinsNs mb∧∀x:Str,x ≠ "__name__" → mb x=bootBuiltins x
 nolimit:base.NoLimit
structure Cx where
 prog:Program
 w:World
 K:PySem.W.Frag
 mg:Str→Option Value
 base:Heap
 A:Around
 N:List Str
 s₀:Shared
 H₀:Hp
 env:Env
 outer:List Env
 stack:List Env
 ex:List Addr
 fn:Str→Bool
 calm:Bool
 pn:List (Addr×Obj)
 xe:Value→Shared→Prop
noncomputable def frs (l:List Env):List Addr:=l.filterMap (·.frame)
noncomputable abbrev Cx.fs (X:Cx):List Addr:=frs X.outer
noncomputable def Vis (sc:Scope) (x:Str):Prop:=sc.names.lookup x=some .local∨sc.names.lookup x=some .cell∨sc.names.lookup x=some .free
noncomputable def Loc (sc:Scope) (x:Str):Prop:=sc.names.lookup x=some .local∨sc.names.lookup x=some .cell
noncomputable def Look (env:Env) (h:Heap) (m:Str→Option Value) (x:Str) (u:Value):Prop:=
 (env.kindOf x=some .local∧m x=some u)∨((env.kindOf x=some .cell∨env.kindOf x=some .free)∧∃c,env.cells.lookup x=some c∧h.IsCell c (some u))
structure Cx.Ok (X:Cx):Prop where
 mod:Mod X.K X.mg X.base
 kind:X.env.scope.kind = .function
 glob:X.env.globals=mainGlobals
 blt:X.env.builtins=builtinsNs
 above:X.s₀.heap.objs.size≤X.env.locals
 inj:∀x y c,X.env.cells.lookup x=some c→X.env.cells.lookup y=some c→x=y
 has:∀x,(X.env.kindOf x=some .cell∨X.env.kindOf x=some .free)→∃c,X.env.cells.lookup x=some c
 cab:∀x c,X.fn x=true→X.env.cells.lookup x=some c→X.s₀.heap.objs.size≤c
 hd:X.calm=true→X.A.handled=none
 frames:X.A.frames=some X.stack
 stk:X.stack=X.outer∨(X.stack=X.env :: X.outer∧X.env.frame=some X.env.locals)
 exf:∀b∈X.ex,b≠X.env.locals∧∀x c,X.env.cells.lookup x=some c→c≠b
 bs:∀b o,X.base.get? b=some o→X.s₀.heap.get? b=some o∧X.H₀ b=none
 bsz:X.base.objs.size≤X.s₀.heap.objs.size
 noex:∀b o,X.base.get? b=some o→b ∉ X.ex
 exfs:∀b∈X.ex,b ∉ X.fs
 funs:X.s₀.heap.FunFrames X.base X.outer
 frf:∀b∈X.fs,X.H₀ b=none
structure Inv (X:Cx) (pins:List (Addr×Obj)) (σ:List (Option V)) (H:Hp) (s:Shared):Prop where
 ok:X.Ok
 os:s.os=X.s₀.os
 bare:AllBare s.gens
 base:Un X.fs X.ex X.H₀ H X.s₀.heap s.heap
 loc:∃m,s.heap.Ns X.env.locals m∧∀(i:Nat) (x:Str) (v:V),X.N[i]? = some x → σ[i]? = some (some v)→Vis X.env.scope x→∃u,RelV v u∧Look X.env s.heap m x u
 cell:∀x c,X.env.cells.lookup x=some c→∃v,s.heap.IsCell c v
 free:H X.env.locals=none
 freeC:∀x c,X.env.cells.lookup x=some c→H c=none
 pin:∀p∈X.pn++pins,s.heap.get? p.1=some p.2∧H p.1=none∧p.1≠X.env.locals∧p.1 ∉ X.fs∧∀v,p.2.data ≠ .cell v
 hok:HOk X.prog X.w H s.heap
 len : σ.length=X.N.length
section
variable {X:Cx} {pins:List (Addr×Obj)} {σ:List (Option V)} {H H':Hp} {s:Shared} {h':Heap}
theorem Cx.Ok.nofr (ok:X.Ok) {b:Addr} {o:Obj} (e:X.base.get? b=some o):b ∉ X.fs:=fun hb=>by
 have:=(ok.funs.mem hb).1
 rw [e] at this;cases this
theorem Inv.bs (I:Inv X pins σ H s):∀b o,X.base.get? b=some o→s.heap.get? b=some o∧H b=none:=fun b o e=>
 ⟨I.base.keep b o (I.ok.bs b o e).1 (I.ok.bs b o e).2 (I.ok.nofr e) (I.ok.noex b o e),I.base.free b o (I.ok.bs b o e).1 (I.ok.bs b o e).2 (I.ok.noex b o e)⟩
theorem Inv.bk (I:Inv X pins σ H s):∀b o,X.base.get? b=some o→s.heap.get? b=some o:=fun b o e=>(I.bs b o e).1
theorem Inv.mod (I:Inv X pins σ H s):Mod X.K X.mg X.base:=I.ok.mod
theorem Inv.kIn (I:Inv X pins σ H s):X.K.In s.heap:=I.ok.mod.kin.keeps I.bk
theorem Inv.lt (I:Inv X pins σ H s):X.env.locals<s.heap.objs.size:=let ⟨_,hn,_⟩:=I.loc;hn.lt
theorem Inv.sz (I:Inv X pins σ H s):X.s₀.heap.objs.size≤s.heap.objs.size:=Nat.le_trans I.ok.above (Nat.le_of_lt I.lt)
theorem Inv.nofs (I:Inv X pins σ H s) {a:Addr} (h:s.heap.objs.size≤a):a ∉ X.fs:=fun hb=>by
 obtain ⟨_,o,ho,_⟩:=I.ok.funs.mem hb
 exact absurd (Nat.lt_of_lt_of_le (Heap.lt_size ho) (Nat.le_trans I.sz h)) (Nat.lt_irrefl _)
theorem Inv.cne (I:Inv X pins σ H s):∀x c,X.env.cells.lookup x=some c→c≠X.env.locals:=fun x c e z=>by
 obtain ⟨v,o,ho,hd⟩:=I.cell x c e
 obtain ⟨m,⟨o',es,ep,ho',hd',_⟩,_⟩:=I.loc
 rw [z,ho'] at ho;cases ho;rw [hd'] at hd;cases hd
theorem Inv.funs (I:Inv X pins σ H s):s.heap.FunFrames X.base X.outer:=by
 have all:∀(l:List Env),(∀b∈frs l,b∈X.fs)→X.s₀.heap.FunFrames X.base l→s.heap.FunFrames X.base l:=by
  intro l
  induction l with
  | nil=>intro _ _;trivial
  | cons env r ih=>
   intro hs hl
   obtain ⟨hk,⟨L,o,hf,hn,ho,hd⟩,hr⟩:=hl
   have hL:L∈X.fs:=hs L (by unfold frs;rw [List.filterMap_cons,hf];exact List.mem_cons_self)
   obtain ⟨sl,e⟩:=I.base.slot L o ho (I.ok.frf L hL) hL fun z=>I.ok.exfs L z hL
   exact ⟨hk,⟨L,_,hf,hn,e,hd⟩,ih (fun b hb=>hs b (by unfold frs;rw [List.filterMap_cons,hf];exact List.mem_cons_of_mem _ hb)) hr⟩
 exact all X.outer (fun _ hb=>hb) I.ok.funs
theorem Inv.stack (I:Inv X pins σ H s):s.heap.FunFrames X.base X.stack:=by
 rcases I.ok.stk with e|⟨e,hf⟩
 ·rw [e];exact I.funs
 ·rw [e]
  obtain ⟨m,hn,_⟩:=I.loc
  refine .cons (by rw [I.ok.kind];decide) hf hn ?_ I.funs
  exact Heap.get?_none_of_le (Nat.le_trans I.ok.bsz I.ok.above)
theorem Inv.stkSub (I:Inv X pins σ H s):∀b∈frs X.stack,b∈X.env.locals :: X.fs:=fun b hb=>by
 rcases I.ok.stk with e|⟨e,hf⟩
 ·rw [e] at hb;exact List.mem_cons_of_mem _ hb
 ·rw [e] at hb
  unfold frs at hb
  rw [List.filterMap_cons,hf] at hb
  exact hb
theorem Inv.stkFree (I:Inv X pins σ H s):∀b∈frs X.stack,H b=none:=fun b hb=>by
 rcases List.mem_cons.mp (I.stkSub b hb) with e|hb
 ·rw [e];exact I.free
 ·obtain ⟨_,o,ho,_⟩:=I.ok.funs.mem hb
  exact I.base.free b o ho (I.ok.frf b hb) fun z=>I.ok.exfs b z hb
theorem Inv.step {g':Array GenState} {t':Nat} {d':Drawn} {ch:List Addr} (I:Inv X pins σ H s)
  (hch:∀b∈ch,(b∈X.ex∨X.s₀.heap.objs.size≤b)∧b≠X.env.locals∧(∀x c,X.env.cells.lookup x=some c→c≠b)∧∀p∈X.pn++pins,p.1≠b)
  (keep:∀b o,b≠X.env.locals→b ∉ X.fs→b ∉ ch→s.heap.get? b=some o→H b=none→h'.get? b=some o)
  (slot:∀b o,b≠X.env.locals→b∈X.fs→b ∉ ch→s.heap.get? b=some o→H b=none→∃sl,h'.get? b=some { o with slots:=sl }) (free:∀b o,b ∉ ch→s.heap.get? b=some o→H b=none→H' b=none)
  (there:∀b o,b ∉ ch→s.heap.get? b=some o→∃o',h'.get? b=some o')
  (tups:∀b xs,H b=some (.tup xs)→H' b=some (.tup xs)) (frzs:∀b o u,H b=some (.frz o u)→H' b=some (.frz o u)) (tbls:∀b ps,H b=some (.tbl ps)→∃more,H' b=some (.tbl (ps++more)))
  (ns:∀m,s.heap.Ns X.env.locals m→h'.Ns X.env.locals m) (hok:HOk X.prog X.w H' h') (hg:AllBare g') :
  Inv X pins σ H' { s with heap:=h',gens:=g',drawn:=d',toks:=t' }:=by
 have neL:∀b o,X.s₀.heap.get? b=some o→b≠X.env.locals:=fun b o e=>Nat.ne_of_lt (Nat.lt_of_lt_of_le (Heap.lt_size e) I.ok.above)
 have neC:∀b o,X.s₀.heap.get? b=some o→b ∉ X.ex→b ∉ ch:=fun b o e hx hb=>by
  rcases (hch b hb).1 with z|z
  ·exact hx z
  ·exact absurd (Nat.lt_of_lt_of_le (Heap.lt_size e) z) (Nat.lt_irrefl _)
 have cellK:∀x c,X.env.cells.lookup x=some c→∀v,s.heap.IsCell c v→h'.IsCell c v:=fun x c e v ⟨o,ho,hd⟩=>by
  have nch:c ∉ ch:=fun z=>(hch c z).2.2.1 x c e rfl
  by_cases hc:c∈X.fs
  ·obtain ⟨sl,q⟩:=slot c o (I.cne x c e) hc nch ho (I.freeC x c e)
   exact ⟨_,q,hd⟩
  ·exact ⟨o,keep c o (I.cne x c e) hc nch ho (I.freeC x c e),hd⟩
 refine ⟨I.ok,I.os,hg,⟨fun b o e n hb hx => ?_,fun b o e n hb hx => ?_,fun b o e n hx => ?_,fun b o e hx => ?_,fun b xs e=>tups b xs (I.base.tups b xs e),fun b o xs e=>frzs b o xs (I.base.frzs b o xs e),fun b ps e => ?_⟩,?_,fun x c e => ?_,?_,fun x c e => ?_,fun p hp => ?_,hok,I.len⟩
 ·exact keep b o (neL b o e) hb (neC b o e hx) (I.base.keep b o e n hb hx) (I.base.free b o e n hx)
 ·obtain ⟨sl,e1⟩:=I.base.slot b o e n hb hx
  obtain ⟨sl',e2⟩:=slot b _ (neL b o e) hb (neC b o e hx) e1 (I.base.free b o e n hx)
  exact ⟨sl',e2⟩
 ·obtain ⟨o',e1⟩:=I.base.there b o e hx
  exact free b o' (neC b o e hx) e1 (I.base.free b o e n hx)
 ·obtain ⟨o',e1⟩:=I.base.there b o e hx
  exact there b o' (neC b o e hx) e1
 ·obtain ⟨m1,e1⟩:=I.base.tbls b ps e
  obtain ⟨m2,e2⟩:=tbls b _ e1
  exact ⟨m1++m2,by rw [e2,Array.append_assoc]⟩
 ·obtain ⟨m,hn,hl⟩:=I.loc
  refine ⟨m,ns m hn,fun i x v e1 e2 e3 => ?_⟩
  obtain ⟨u,r,l⟩:=hl i x v e1 e2 e3
  refine ⟨u,r,?_⟩
  rcases l with l|⟨k,c,e,z⟩
  ·exact .inl l
  ·exact .inr ⟨k,c,e,cellK x c e _ z⟩
 ·obtain ⟨v,z⟩:=I.cell x c e
  exact ⟨v,cellK x c e v z⟩
 ·obtain ⟨m,⟨o,_,_,ho,_⟩,_⟩:=I.loc
  exact free _ o (fun z=>(hch _ z).2.1 rfl) ho I.free
 ·obtain ⟨v,o,ho,hd⟩:=I.cell x c e
  exact free c o (fun z=>(hch c z).2.2.1 x c e rfl) ho (I.freeC x c e)
 ·obtain ⟨e,n,ne,nf,d⟩:=I.pin p hp
  have nch:p.1 ∉ ch:=fun z=>(hch p.1 z).2.2.2 p hp rfl
  exact ⟨keep p.1 p.2 ne nf nch e n,free p.1 p.2 nch e n,ne,nf,d⟩
theorem Inv.un {t':Nat} (I:Inv X pins σ H s) (u:Un X.fs [] H H' s.heap h') (hok:HOk X.prog X.w H' h'):Inv X pins σ H' { s with heap:=h',toks:=t' }:=by
 obtain ⟨m,⟨o,es,ep,ho,r⟩,_⟩:=id I.loc
 obtain ⟨sl,hL⟩:=u.any ho I.free (by simp)
 exact I.step (g':=s.gens) (d':=s.drawn) (ch:=[]) (fun _ z=>nomatch z) (fun b o _ hb _ e n=>u.keep b o e n hb (by simp)) (fun b o _ hb _ e n=>u.slot b o e n hb (by simp)) (fun b o _ e n=>u.free b o e n (by simp)) (fun b o _ e=>u.there b o e (by simp)) u.tups u.frzs u.tbls (fun m' hm=>by
  obtain ⟨o',es',ep',ho',r'⟩:=hm
  rw [ho] at ho';cases ho'
  exact ⟨_,es',ep',hL,r'⟩) hok I.bare
theorem Inv.call {g':Array GenState} {t':Nat} {d':Drawn} {ch:List Addr} (I:Inv X pins σ H s) (u:Un (frs X.stack) ch H H' s.heap h') (hok:HOk X.prog X.w H' h') (hg:AllBare g')
  (hch:∀b∈ch,(b∈X.ex∨X.s₀.heap.objs.size≤b)∧b≠X.env.locals∧(∀x c,X.env.cells.lookup x=some c→c≠b)∧∀p∈X.pn++pins,p.1≠b) :
  Inv X pins σ H' { s with heap:=h',gens:=g',drawn:=d',toks:=t' }:=by
 obtain ⟨m,⟨o,es,ep,ho,r⟩,_⟩:=id I.loc
 obtain ⟨sl,hL⟩:=u.any ho I.free fun z=>(hch _ z).2.1 rfl
 exact I.step (ch:=ch) hch (fun b o hL hb hc e n=>u.keep b o e n (fun z=>(List.mem_cons.mp (I.stkSub b z)).elim hL hb) hc) (fun b o _ _ hc e n=>u.any e n hc) (fun b o hc e n=>u.free b o e n hc) (fun b o hc e=>u.there b o e hc) u.tups u.frzs u.tbls (fun m' hm=>by
  obtain ⟨o',es',ep',ho',r'⟩:=hm
  rw [ho] at ho';cases ho'
  exact ⟨_,es',ep',hL,r'⟩) hok hg
theorem Inv.turned {t':Nat} {it:Addr} (I:Inv X pins σ H s) (k:∀b o,b≠it→s.heap.get? b=some o→h'.get? b=some o) (hn:H it=none) (hL:it≠X.env.locals)
  (h1:it∈X.ex∨X.s₀.heap.objs.size≤it) (h2:∀x c,X.env.cells.lookup x=some c→c≠it) (h3:∀p∈X.pn++pins,p.1≠it):Inv X pins σ H { s with heap:=h',toks:=t' }:=by
 have nit:∀b u,H b=some u→b≠it:=fun b u e z=>by rw [z,hn] at e;cases e
 refine I.step (g':=s.gens) (d':=s.drawn) (ch:=[it]) (fun b hb => ?_) (fun b o _ _ hc e _=>k b o (fun z=>hc (by simp [z])) e) (fun b o _ _ hc e _=>⟨o.slots,k b o (fun z=>hc (by simp [z])) e⟩) (fun _ _ _ _ n=>n)
  (fun b o hc e=>⟨o,k b o (fun z=>hc (by simp [z])) e⟩) (fun _ _ e=>e) (fun _ _ _ e=>e) (fun b ps e=>⟨#[],by rw [e];simp⟩) (fun m hm => ?_) (fun b u e => ?_) I.bare
 ·have e:b=it:=by simpa using hb
  subst e
  exact ⟨h1,hL,h2,h3⟩
 ·obtain ⟨o,es,ep,ho,r⟩:=hm
  exact ⟨o,es,ep,k _ o (Ne.symm hL) ho,r⟩
 ·refine (I.hok b u e).stay (fun c v hc q=>k c v ?_ q) (fun _ q=>q) fun _ _ q=>q
  rcases hc with z|z
  ·rw [z];exact nit b u e
  ·exact nit c _ z
theorem Inv.tok (I:Inv X pins σ H s) (t:Nat):Inv X pins σ H { s with toks:=t }:=I.un (h':=s.heap) (t':=t) Un.refl I.hok
theorem Inv.kept {t':Nat} (I:Inv X pins σ H s) (k:∀b u,s.heap.get? b=some u→h'.get? b=some u):Inv X pins σ H { s with heap:=h',toks:=t' }:=I.un (Un.kept k) (I.hok.kept k)
theorem Inv.laid {a:Addr} {o:HO} {t':Nat} (I:Inv X pins σ H s) (k:∀b u,s.heap.get? b=some u→h'.get? b=some u) (hp:s.heap.objs.size≤a) (new:ObjOk X.prog X.w (upd H a o) h' a o) :
  Inv X pins σ (upd H a o) { s with heap:=h',toks:=t' }:=I.un (Un.laid k hp (I.hok.fresh hp)) (I.hok.laid k hp new)
theorem Inv.write {x e:Addr} {o:HO} {t':Nat} (I:Inv X pins σ H s) (mu:Mut (H x)) (he:e=x∨H e=some (.own x)) (k:∀b u,b≠e→s.heap.get? b=some u→h'.get? b=some u) (heo:∃u,h'.get? e=some u)
  (new:ObjOk X.prog X.w (upd H x o) h' x o):Inv X pins σ (upd H x o) { s with heap:=h',toks:=t' }:=I.un (Un.write mu he k heo) (I.hok.write mu he k heo new)
theorem Inv.weak {σ':List (Option V)} (I:Inv X pins σ H s) (hl : σ'.length = σ.length) (w:∀(i:Nat) v, σ'[i]? = some (some v) → σ[i]? = some (some v)):Inv X pins σ' H s:=
 ⟨I.ok,I.os,I.bare,I.base,let ⟨m,hn,hl'⟩:=I.loc; ⟨m,hn,fun i x v e1 e2 e3=>hl' i x v e1 (w i v e2) e3⟩,I.cell,I.free,I.freeC,I.pin,I.hok,hl.trans I.len⟩
theorem Inv.pins_of {pins':List (Addr×Obj)} (I:Inv X pins σ H s) (h:∀p∈pins',s.heap.get? p.1=some p.2∧H p.1=none∧p.1≠X.env.locals∧p.1 ∉ X.fs∧∀v,p.2.data ≠ .cell v):Inv X pins' σ H s:=
 ⟨I.ok,I.os,I.bare,I.base,I.loc,I.cell,I.free,I.freeC,fun p hp=>(List.mem_append.mp hp).elim (fun z=>I.pin p (List.mem_append_left _ z)) (h p),I.hok,I.len⟩
theorem nodup_ix {N:List Str} (hN:N.Nodup) {i j:Nat} {x:Str} (a:N[i]? = some x) (b:N[j]? = some x):i=j:=by
 obtain ⟨h1,e1⟩:=List.getElem?_eq_some_iff.mp a
 obtain ⟨h2,e2⟩:=List.getElem?_eq_some_iff.mp b
 exact (List.getElem_inj hN).mp (e1.trans e2.symm)
theorem store_ok2 {M:Model} {A:Around} {E:Value→Shared→Prop} {i:Nat} {x:Str} {v:V} {u:Value} {Q:Unit→Shared→Prop} (I:Inv X pins σ H s) (hN:X.N.Nodup) (hi:X.N[i]? = some x) (hx:Loc X.env.scope x) (r:RelV v u)
  (h:∀s',Inv X pins (σ.set i (some v)) H s'→(∃a,Heap.SameBut a s.heap s'.heap∧(a=X.env.locals∨X.env.cells.lookup x=some a))→Q () s') (hf:X.fn x=true∨X.env.scope.names.lookup x=some .local:=by first|exact .inl rfl|exact .inr rfl|assumption):wpAny M A (storeName X.env x u) Q E s:=by
 obtain ⟨m,hn,hl⟩:=id I.loc
 have hcls:(X.env.scope.kind == .class||(X.env.scope.kind == .module&&X.env.locals != X.env.globals))=false:=by rw [I.ok.kind];rfl
 have hiσ:i < σ.length:=by rw [I.len];exact (List.getElem?_eq_some_iff.mp hi).1
 have cne:=I.cne
 have tracked:∀{a:Addr} {h':Heap},(∃o,s.heap.get? a=some o∧H a=none)→Heap.SameBut a s.heap h'→HOk X.prog X.w H h':=fun {a h'} ha hs b ob e=>by
  obtain ⟨_,_,hfree⟩:=ha
  refine (I.hok b ob e).stay (fun c w' hc q=>(hs.2 c ?_).trans q) (fun _ q=>q) fun _ _ q=>q
  rintro rfl
  rcases hc with rfl|hc
  ·rw [hfree] at e;cases e
  ·rw [hfree] at hc;cases hc
 rcases hx with hk|hk
 ·refine wpAny_storeName_local hk hn (fun h' hn' hs => ?_) hcls
  obtain ⟨oL,_,_,hoL,_⟩:=id hn
  refine h _ ⟨I.ok,I.os,I.bare,⟨fun b o e n hb hx => ?_,fun b o e n hb hx => ?_,I.base.free,fun b o e hx => ?_,I.base.tups,I.base.frzs,I.base.tbls⟩,⟨_,hn',fun j y v' e1 e2 e3 => ?_⟩,fun y c e => ?_,I.free,I.freeC,fun p hp => ?_,tracked ⟨oL,hoL,I.free⟩ hs,by simpa using I.len⟩ ⟨_,hs, .inl rfl⟩
  ·exact (hs.2 b (Nat.ne_of_lt (Nat.lt_of_lt_of_le (Heap.lt_size e) I.ok.above))).trans (I.base.keep b o e n hb hx)
  ·obtain ⟨sl,e1⟩:=I.base.slot b o e n hb hx
   exact ⟨sl,(hs.2 b (Nat.ne_of_lt (Nat.lt_of_lt_of_le (Heap.lt_size e) I.ok.above))).trans e1⟩
  ·obtain ⟨o',e1⟩:=I.base.there b o e hx
   exact ⟨o',(hs.2 b (Nat.ne_of_lt (Nat.lt_of_lt_of_le (Heap.lt_size e) I.ok.above))).trans e1⟩
  ·by_cases hj:j=i
   ·subst hj
    rw [hi] at e1;cases e1
    rw [List.getElem?_set_self hiσ] at e2
    cases e2
    exact ⟨u,r, .inl ⟨hk,by simp⟩⟩
   ·rw [List.getElem?_set_ne (Ne.symm hj)] at e2
    obtain ⟨u',r',q⟩:=hl j y v' e1 e2 e3
    refine ⟨u',r',?_⟩
    rcases q with ⟨k,e⟩|⟨k,c,e,z⟩
    ·refine .inl ⟨k,?_⟩
     have:y≠x:=fun e=>hj (nodup_ix hN e1 (e ▸ hi))
     simp [this,e]
    ·exact .inr ⟨k,c,e,z.sameBut hs (cne y c e)⟩
  ·obtain ⟨w',z⟩:=I.cell y c e
   exact ⟨w',z.sameBut hs (cne y c e)⟩
  ·obtain ⟨e,n,ne,nf,d⟩:=I.pin p hp
   exact ⟨(hs.2 p.1 ne).trans e,n,ne,nf,d⟩
 ·have hfn:X.fn x=true:=by
   rcases hf with z|z
   ·exact z
   ·rw [z] at hk;cases hk
  obtain ⟨c,hc⟩:=I.ok.has x (.inl hk)
  obtain ⟨w',z⟩:=I.cell x c hc
  refine wpAny_storeName_cell I.ok.kind hk hc z (fun h' hc' hs => ?_)
  obtain ⟨oc,hoc,hocd⟩:=id z
  refine h { s with heap:=h' } ⟨I.ok,I.os,I.bare,⟨fun b o e n hb hx => ?_,fun b o e n hb hx => ?_,I.base.free,fun b o e hx => ?_,I.base.tups,I.base.frzs,I.base.tbls⟩,⟨m,hn.sameBut hs (Ne.symm (cne x c hc)),fun j y v' e1 e2 e3 => ?_⟩,fun y c' e => ?_,I.free,I.freeC,fun p hp => ?_,tracked ⟨oc,hoc,I.freeC x c hc⟩ hs,by simpa using I.len⟩ ⟨c,hs, .inr hc⟩
  ·exact (hs.2 b (Nat.ne_of_lt (Nat.lt_of_lt_of_le (Heap.lt_size e) (I.ok.cab x c hfn hc)))).trans (I.base.keep b o e n hb hx)
  ·obtain ⟨sl,e1⟩:=I.base.slot b o e n hb hx
   exact ⟨sl,(hs.2 b (Nat.ne_of_lt (Nat.lt_of_lt_of_le (Heap.lt_size e) (I.ok.cab x c hfn hc)))).trans e1⟩
  ·obtain ⟨o',e1⟩:=I.base.there b o e hx
   exact ⟨o',(hs.2 b (Nat.ne_of_lt (Nat.lt_of_lt_of_le (Heap.lt_size e) (I.ok.cab x c hfn hc)))).trans e1⟩
  ·by_cases hj:j=i
   ·subst hj
    rw [hi] at e1;cases e1
    rw [List.getElem?_set_self hiσ] at e2
    cases e2
    exact ⟨u,r, .inr ⟨.inl hk,c,hc,hc'⟩⟩
   ·rw [List.getElem?_set_ne (Ne.symm hj)] at e2
    obtain ⟨u',r',q⟩:=hl j y v' e1 e2 e3
    refine ⟨u',r',?_⟩
    rcases q with q|⟨k,c',e,z'⟩
    ·exact .inl q
    ·refine .inr ⟨k,c',e,z'.sameBut hs ?_⟩
     rintro rfl
     exact hj (nodup_ix hN e1 (I.ok.inj _ _ _ e hc ▸ hi))
  ·by_cases hcc:c'=c
   ·subst hcc;exact ⟨_,hc'⟩
   ·obtain ⟨w2,z2⟩:=I.cell y c' e
    exact ⟨w2,z2.sameBut hs hcc⟩
  ·obtain ⟨e,n,ne,nf,d⟩:=I.pin p hp
   refine ⟨(hs.2 p.1 ?_).trans e,n,ne,nf,d⟩
   intro q
   rw [q,hoc] at e
   have q':oc=p.2:=Option.some.inj e
   exact d w' (by rw [←q'];exact hocd)
theorem store_ok {M:Model} {A:Around} {E:Value→Shared→Prop} {i:Nat} {x:Str} {v:V} {u:Value} {Q:Unit→Shared→Prop} (I:Inv X pins σ H s) (hN:X.N.Nodup) (hi:X.N[i]? = some x) (hx:Loc X.env.scope x) (r:RelV v u)
  (h:∀s',Inv X pins (σ.set i (some v)) H s'→Q () s') (hf:X.fn x=true∨X.env.scope.names.lookup x=some .local:=by first|exact .inl rfl|exact .inr rfl|assumption):wpAny M A (storeName X.env x u) Q E s:=
 store_ok2 I hN hi hx r (fun s' I' _=>h s' I') hf
theorem Inv.call' {s':Shared} {ch:List Addr} (I:Inv X pins σ H s) (ho:s'.os=s.os) (u:Un (frs X.stack) ch H H' s.heap s'.heap) (hok:HOk X.prog X.w H' s'.heap) (hg:AllBare s'.gens)
  (hch:∀b∈ch,(b∈X.ex∨X.s₀.heap.objs.size≤b)∧b≠X.env.locals∧(∀x c,X.env.cells.lookup x=some c→c≠b)∧∀p∈X.pn++pins,p.1≠b):Inv X pins σ H' s':=by
 obtain ⟨h',g',d',t',o'⟩:=s'
 have e:o'=s.os:=ho
 subst e
 exact I.call (g':=g') (t':=t') (d':=d') u hok hg hch
end
noncomputable abbrev XK:=Value→Option Addr→Hp→Prop
noncomputable abbrev St:=List (Option V)
noncomputable abbrev VK:=V→Hp→Prop
noncomputable abbrev TE:=St→Hp→VK→Prop
noncomputable abbrev TT:=St→Hp→(Bool→Hp→Prop)→Prop
noncomputable abbrev TA:=St→Hp→(List V→Hp→Prop)→Prop
structure Ends where
 nx:St→Hp→Prop
 rt:VK
 bk:St→Hp→Prop:=fun _ _=>False
 ct:St→Hp→Prop:=fun _ _=>False
noncomputable abbrev TS:=Ends→St→Hp→Prop
noncomputable def EP (X:Cx) (pins:List (Addr×Obj)) (σ:St) (Q:VK) (u:Value) (s':Shared):Prop:=Ex2 fun v H'=>Inv X pins σ H' s'∧RelV v u∧Q v H'
noncomputable def TP (X:Cx) (pins:List (Addr×Obj)) (σ:St) (Q:Bool→Hp→Prop) (b:Bool) (s':Shared):Prop:=∃H',Inv X pins σ H' s'∧Q b H'
noncomputable def AP (X:Cx) (pins:List (Addr×Obj)) (σ:St) (Q:List V→Hp→Prop) (us:List Value) (s':Shared):Prop:=Ex2 fun vs H'=>Inv X pins σ H' s'∧Vals vs us∧Q vs H'
noncomputable instance elimEP {X:Cx} {pins:List (Addr×Obj)} {σ:St} {Q:VK} {u:Value} {s':Shared} : Elim (EP X pins σ Q u s') (fun G=>∀v H',Inv X pins σ H' s'→RelV v u→Q v H'→G):=⟨fun ⟨v,H',a,b,c⟩ _ k=>k v H' a b c⟩
noncomputable instance elimTP {X:Cx} {pins:List (Addr×Obj)} {σ:St} {Q:Bool→Hp→Prop} {b:Bool} {s':Shared} : Elim (TP X pins σ Q b s') (fun G=>∀H',Inv X pins σ H' s'→Q b H'→G):=⟨fun ⟨H',a,c⟩ _ k=>k H' a c⟩
noncomputable instance elimAP {X:Cx} {pins:List (Addr×Obj)} {σ:St} {Q:List V→Hp→Prop} {us:List Value} {s':Shared} : Elim (AP X pins σ Q us s') (fun G=>∀vs H',Inv X pins σ H' s'→Vals vs us→Q vs H'→G):=⟨fun ⟨v,H',a,b,c⟩ _ k=>k v H' a b c⟩
noncomputable def SP (X:Cx) (pins:List (Addr×Obj)) (D:Ends) (f:Flow) (s':Shared):Prop:=
 match f with
 | .next=>Ex2 fun σ' H'=>Inv X pins σ' H' s'∧D.nx σ' H'
 | .brk=>Ex2 fun σ' H'=>Inv X pins σ' H' s'∧D.bk σ' H'
 | .cont=>Ex2 fun σ' H'=>Inv X pins σ' H' s'∧D.ct σ' H'
 | .ret u=>Ex3 fun v σ' H'=>Inv X pins σ' H' s'∧RelV v u∧D.rt v H'
noncomputable def PE (X:Cx) (e:Expr) (t:TE):Prop:=
 ∀ ⦃pins:List (Addr×Obj)⦄ (s:Shared) (σ:St) (H:Hp) (Q:VK),Inv X pins σ H s→t σ H Q→wpAny (model X.prog X.w) X.A (eval e X.env) (EP X pins σ Q) X.xe s
noncomputable def PT (X:Cx) (e:Expr) (t:TT):Prop:=
 ∀ ⦃pins:List (Addr×Obj)⦄ (s:Shared) (σ:St) (H:Hp) (Q:Bool→Hp→Prop),Inv X pins σ H s→t σ H Q→wpAny (model X.prog X.w) X.A (isTrue e X.env (eval e X.env)) (TP X pins σ Q) X.xe s
noncomputable def PW (X:Cx) (e:Expr) (t:TT):Prop:=
 ∀ ⦃whole:Sem Value⦄ ⦃pins:List (Addr×Obj)⦄ (s:Shared) (σ:St) (H:Hp) (Q:Bool→Hp→Prop),Inv X pins σ H s→t σ H Q→wpAny (model X.prog X.w) X.A (isTrue e X.env whole) (TP X pins σ Q) X.xe s
theorem PW.pt {X:Cx} {e:Expr} {t:TT} (h:PW X e t):PT X e t:=fun pins s σ H Q I q=>h s σ H Q I q
noncomputable def PA (X:Cx) (es:List Expr) (t:TA):Prop:=
 ∀ ⦃pos:Pos⦄ ⦃pins:List (Addr×Obj)⦄ (s:Shared) (σ:St) (H:Hp) (Q:List V→Hp→Prop),Inv X pins σ H s→t σ H Q→wpAny (model X.prog X.w) X.A (spliced (backTo pos (starEach es X.env))) (AP X pins σ Q) X.xe s
noncomputable def PS (X:Cx) (st:Stmt) (t:TS):Prop:=
 ∀ ⦃pins:List (Addr×Obj)⦄ (s:Shared) (σ:St) (H:Hp) (D:Ends),Inv X pins σ H s→t D σ H→wpAny (model X.prog X.w) X.A (exec st X.env) (SP X pins D) X.xe s
noncomputable def PSs (X:Cx) (st:List Stmt) (t:TS):Prop:=
 ∀ ⦃pins:List (Addr×Obj)⦄ (s:Shared) (σ:St) (H:Hp) (D:Ends),Inv X pins σ H s→t D σ H→wpAny (model X.prog X.w) X.A (execs st X.env) (SP X pins D) X.xe s
theorem thn {α:Type} {t:Sem α} {Q Q' : α→Shared→Prop} {M:Model} {A:Around} {E:Value→Shared→Prop} {s:Shared} (h:wpAny M A t Q E s) (hQ:∀a s,Q a s→Q' a s):wpAny M A t Q' E s:=wpAny_mono h hQ fun _ _ x=>x
end L2
namespace L2
open PySem PySem.Spec PyProof.Rows
section
variable {X:Cx}
noncomputable def tVar (i:Nat):TE:=fun σ H Q=>∃v, σ[i]? = some (some v)∧Q v H
noncomputable def tC (v:V):TE:=fun _ H Q=>Q v H
theorem pe_var {i:Nat} {x:Str} {pos:Pos} (hN:X.N[i]? = some x) (hv:Vis X.env.scope x) (hd:(x == ("__debug__" : Str))=false:=by decide) (hcd:(x == ("__classdict__" : Str))=false:=by decide):PE X (.Name x pos) (tVar i):=by
 intro pins s σ H Q I h
 obtain ⟨v,e,h⟩:=h
 obtain ⟨m,hn,hl⟩:=I.loc
 obtain ⟨u,r,l⟩:=hl i x v hN e hv
 have fin:EP X pins σ Q u s:=⟨v,H,I,r,h⟩
 rcases l with ⟨hk,hm⟩|⟨hk,c,hc,hcell⟩
 ·exact wpAny_Name (wpAny_loadName_local I.ok.kind hk hn hm fin) hd
 ·rcases hk with hk|hk
  ·exact wpAny_Name (wpAny_loadName_cell I.ok.kind hk hc hcell fin) hd
  ·exact wpAny_Name (wpAny_loadName_free I.ok.kind hk hc hcell fin hcd) hd
theorem pe_int {i j pos} : PE X (.Constant (.int i) j pos) (tC (.int i)):=fun _ _ _ H _ I h=>wpAny_Constant_int ⟨.int i,H,I.tok _,⟨_,rfl⟩,h⟩
theorem pe_bl {b j pos} : PE X (.Constant (.bool b) j pos) (tC (.bl b)):=fun _ _ _ H _ I h=>Constant_bool ⟨.bl b,H,I,rfl,h⟩
theorem pe_non {j pos} : PE X (.Constant .none j pos) (tC .non):=fun _ _ _ H _ I h=>Constant_none ⟨.non,H,I,rfl,h⟩
theorem pe_str {x j pos} : PE X (.Constant (.str x) j pos) (tC (.str x)):=fun _ _ _ H _ I h=>Calls.Constant_str ⟨.str x,H,I.tok _,⟨_,rfl⟩,h⟩
noncomputable def Gl (X:Cx) (x:Str):Prop:=X.env.kindOf x=some .globalImplicit
theorem ld_glob {E:Value→Shared→Prop} {pins:List (Addr×Obj)} {s:Shared} {σ:St} {H:Hp} {x:Str} {u:Value} {pos:Pos} {Q:Value→Shared→Prop} (I:Inv X pins σ H s) (hg:Gl X x) (hm:X.mg x=some u) (h:Q u s)
  (hd:(x == ("__debug__" : Str))=false:=by decide):wpAny (model X.prog X.w) X.A (eval (.Name x pos) X.env) Q E s:=
 Calls.Name_function_global I.ok.kind hg (Calls.loadGlobal_global (by rw [I.ok.glob];exact I.mod.glob.keeps I.bk) hm h) hd
theorem ld_blt {E:Value→Shared→Prop} {pins:List (Addr×Obj)} {s:Shared} {σ:St} {H:Hp} {x:Str} {u:Value} {pos:Pos} {Q:Value→Shared→Prop} (I:Inv X pins σ H s) (hg:Gl X x) (hm:X.mg x=none) (hv:bootBuiltins x=some u) (h:Q u s)
  (hn:x ≠ "__name__":=by decide) (hd:(x == ("__debug__" : Str))=false:=by decide):wpAny (model X.prog X.w) X.A (eval (.Name x pos) X.env) Q E s:=by
 obtain ⟨mb,h1,h2⟩:=I.mod.blt
 exact Calls.Name_function_global I.ok.kind hg (Calls.loadGlobal_builtin (by rw [I.ok.glob];exact I.mod.glob.keeps I.bk) hm (by rw [I.ok.blt];exact h1.keeps I.bk) ((h2 x hn).trans hv) h) hd
theorem pe_glob {x:Str} {v:V} {u:Value} {pos:Pos} (hg:Gl X x) (hm:X.mg x=some u) (r:RelV v u) (hd:(x == ("__debug__" : Str))=false:=by decide):PE X (.Name x pos) (tC v):=
 fun _ _ _ H _ I h=>ld_glob I hg hm ⟨v,H,I,r,h⟩ hd
theorem pe_bltn {x:Str} {v:V} {u:Value} {pos:Pos} (hg:Gl X x) (hm:X.mg x=none) (hv:bootBuiltins x=some u) (r:RelV v u) (hn:x ≠ "__name__":=by decide) (hd:(x == ("__debug__" : Str))=false:=by decide):PE X (.Name x pos) (tC v):=
 fun _ _ _ H _ I h=>ld_blt I hg hm hv ⟨v,H,I,r,h⟩ hn hd
variable {a b:Expr} {ta tb:TE} {pos:Pos}
noncomputable def PC (X:Cx) (op:CmpOp) (a b:Expr) (t:TE):Prop:=
 ∀ ⦃pins:List (Addr×Obj)⦄ (s:Shared) (σ:St) (H:Hp) (Q:VK),Inv X pins σ H s→t σ H Q →
  wpAny (model X.prog X.w) X.A (eval a X.env) (fun v s₁=>wpAny (model X.prog X.w) X.A (eval b X.env) (fun u s₂=>wpAny (model X.prog X.w) X.A (compareOp op v u) (EP X pins σ Q) X.xe s₂) X.xe s₁) X.xe s
noncomputable def tB (t:TE):TT:=fun σ H Q=>t σ H fun x H1=>∃c,x = .bl c∧Q c H1
theorem pt_cmp {op:CmpOp} {t:TE} (h:PC X op a b t) (h1:behindInMarks op b=false:=by first|exact nobehind _ (by decide) (by decide)|rfl):PT X (.Compare a [op] [b] pos) (tB t):=by
 intro pins s σ H Q I hw
 refine wpAny_isTrue_Compare1 (thn (h s σ H _ I hw) fun v s1 h1=>thn h1 fun u s2 h2=>thn h2 fun c s3 hz_=>Elim.el hz_ _ fun x H1 I1 r1 q1 => ?_) h1
 obtain ⟨d,rfl,q⟩:=q1
 cases r1
 exact wpAny_truthy_bool ⟨H1,I1,q⟩
theorem pt_val {e:Expr} {t:TE} (h:PE X e t) (he:∀whole,isTrue e X.env whole=(do let v ←whole;standAt e.pos;holding [v] (truthy v)):=by intro _;rfl):PT X e (tB t):=by
 intro pins s σ H Q I hw
 refine isTrue_plain (thn (h s σ H _ I hw) fun v s1 hz_=>Elim.el hz_ _ fun x H1 I1 r1 q1 => ?_) (he _)
 obtain ⟨d,rfl,q⟩:=q1
 cases r1
 exact wpAny_truthy_bool ⟨H1,I1,q⟩
variable {tA tB':TT} {rest:List Expr}
noncomputable def tAnd (t u:TT):TT:=fun σ H Q=>t σ H fun c H1=>if c=true then u σ H1 Q else Q false H1
noncomputable def tOr (t u:TT):TT:=fun σ H Q=>t σ H fun c H1=>if c=true then Q true H1 else u σ H1 Q
noncomputable def tNot (t:TT):TT:=fun σ H Q=>t σ H fun c H1=>Q (!c) H1
theorem pw_and1 (ha:PT X a tA):PW X (.BoolOp .And [a] pos) tA:=by
 intro wh pins s σ H Q I h
 refine isTrue_and (thn (ha s σ H Q I h) fun c s1 e => ?_)
 cases c with
 | true=>exact isTrue_and_nil e
 | false=>exact e
theorem pw_or1 (ha:PT X a tA):PW X (.BoolOp .Or [a] pos) tA:=by
 intro wh pins s σ H Q I h
 refine isTrue_or (thn (ha s σ H Q I h) fun c s1 e => ?_)
 cases c with
 | false=>exact isTrue_or_nil e
 | true=>exact e
theorem pw_and (ha:PT X a tA) (hb:PW X (.BoolOp .And (b :: rest) pos) tB'):PW X (.BoolOp .And (a :: b :: rest) pos) (tAnd tA tB'):=by
 intro wh pins s σ H Q I h
 refine isTrue_and (thn (ha s σ H _ I h) fun c s1 hz_ => ?_)
 refine Elim.el hz_ _ ?_
 clear hz_
 rintro H1 I1 q1
 cases c with
 | true=>exact hb s1 σ H1 Q I1 q1
 | false=>exact ⟨H1,I1,q1⟩
theorem pw_or (ha:PT X a tA) (hb:PW X (.BoolOp .Or (b :: rest) pos) tB'):PW X (.BoolOp .Or (a :: b :: rest) pos) (tOr tA tB'):=by
 intro wh pins s σ H Q I h
 refine isTrue_or (thn (ha s σ H _ I h) fun c s1 hz_ => ?_)
 refine Elim.el hz_ _ ?_
 clear hz_
 rintro H1 I1 q1
 cases c with
 | true=>exact ⟨H1,I1,q1⟩
 | false=>exact hb s1 σ H1 Q I1 q1
theorem pt_not (ha:PT X a tA):PT X (.UnaryOp .Not a pos) (tNot tA):=by
 intro pins s σ H Q I h
 exact isTrue_not (ha s σ H (fun c H1=>Q (!c) H1) I h)
noncomputable def tAndV (ta tb:TE):TE:=fun σ H Q=>ta σ H fun x H1=>∃c,x = .bl c∧if c=true then tb σ H1 Q else Q (.bl false) H1
noncomputable def tNotV (ta:TE):TE:=fun σ H Q=>ta σ H fun x H1=>∃c,x = .bl c∧Q (.bl (!c)) H1
theorem pe_one {op} {t:TE} (h:PE X a t):PE X (.BoolOp op [a] pos) t:=fun pins s σ H Q I hw=>BoolOp_one (h s σ H Q I hw)
theorem pe_and (ha:PE X a ta) (hb:PE X (.BoolOp .And (b :: rest) pos) tb):PE X (.BoolOp .And (a :: b :: rest) pos) (tAndV ta tb):=by
 intro pins s σ H Q I h
 refine BoolOp_and (thn (ha s σ H _ I h) fun v s1 hz_ => ?_)
 refine Elim.el hz_ _ ?_
 clear hz_
 rintro x H1 I1 r1 q1
 obtain ⟨c,rfl,q1⟩:=q1
 cases r1
 refine wpAny_truthy_bool ?_
 cases c with
 | true=>exact hb s1 σ H1 Q I1 q1
 | false=>exact ⟨.bl false,H1,I1,rfl,q1⟩
theorem pe_not (ha:PE X a ta):PE X (.UnaryOp .Not a pos) (tNotV ta):=by
 intro pins s σ H Q I h
 refine UnaryOp_ (thn (ha s σ H _ I h) fun v s1 hz_ => ?_)
 refine Elim.el hz_ _ ?_
 clear hz_
 rintro x H1 I1 r1 q1
 obtain ⟨c,rfl,q1⟩:=q1
 cases r1
 exact not_of (wpAny_truthy_bool ⟨.bl (!c),H1,I1,rfl,q1⟩)
noncomputable def tIf (t:TT) (ta tb:TE):TE:=fun σ H Q=>t σ H fun c H1=>if c=true then ta σ H1 Q else tb σ H1 Q
theorem pe_ifExp {c:Expr} (hc:PT X c tA) (ha:PE X a ta) (hb:PE X b tb):PE X (.IfExp c a b pos) (tIf tA ta tb):=by
 intro pins s σ H Q I h
 refine wpAny_IfExp (thn (hc s σ H _ I h) fun d s1 hz_ => ?_)
 refine Elim.el hz_ _ ?_
 clear hz_
 rintro H1 I1 q1
 cases d with
 | true=>exact ha s1 σ H1 Q I1 q1
 | false=>exact hb s1 σ H1 Q I1 q1
end
end L2
namespace L2
open PySem PySem.Spec PyProof.Rows
noncomputable def SqL (K:PySem.W.Frag) (H:Hp) (a:Addr) (xs:List V):Prop:=
 Rd H a (.lst xs) ∨
  Ex3 fun (o:Obj) (its:Array Value) (n:Nat)=>K.lookup a=some o∧o.cls = .type "list" ∧ o.dict=none∧o.data = .seq its n∧its.size≤sizeLine∧Vals xs its.toList
noncomputable def SqT (K:PySem.W.Frag) (H:Hp) (a:Addr) (xs:List V):Prop:=
 Rd H a (.tup xs) ∨
  Ex3 fun (o:Obj) (its:Array Value) (n:Nat)=>K.lookup a=some o∧o.cls = .type "tuple" ∧ o.data = .seq its n∧its.size≤sizeLine∧Vals xs its.toList
noncomputable def absV:Value→Option V
 | .none=>some .non
 | .bool b=>some (.bl b)
 | .int i _=>some (.int i)
 | .str x _=>some (.str x)
 | .bytes b _=>some (.byt b)
 | .float b _=>some (.flt b)
 | .ref a=>some (.ref a)
 | .type n=>some (.ty n)
 | _=>none
theorem RelV.abs {x:V} {u:Value} (r:RelV x u):absV u=some x:=by
 cases x with
 | non=>cases r;rfl
 | bl _=>cases r;rfl
 | int _=>obtain ⟨t,rfl⟩:=r;rfl
 | str _=>obtain ⟨t,rfl⟩:=r;rfl
 | byt _=>obtain ⟨t,rfl⟩:=r;rfl
 | flt _=>obtain ⟨t,rfl⟩:=r;rfl
 | ref _=>cases r;rfl
 | ty _=>cases r;rfl
theorem RelV.inj {x y:V} {u:Value} (r:RelV x u) (q:RelV y u):x=y:=Option.some.inj (r.abs.symm.trans q.abs)
theorem Vals.inj {xs ys:List V} {us:List Value} (h:Vals xs us) (h':Vals ys us):xs=ys:=by
 induction h generalizing ys with
 | nil=>cases h';rfl
 | cons r t ih=>cases h' with|cons r' t'=>rw [RelV.inj r r',ih t']
section
variable {X:Cx} {pins:List (Addr×Obj)} {σ:St} {H:Hp} {s:Shared} {a:Addr} {xs ys:List V}
theorem SqL.of {K:PySem.W.Frag} (h:H a=some (.lst xs)):SqL K H a xs := .inl (.inl h)
theorem SqT.of {K:PySem.W.Frag} (h:H a=some (.tup xs)):SqT K H a xs := .inl (.inl h)
theorem Inv.list (I:Inv X pins σ H s) (h:SqL X.K H a xs):∃its:List Value,Vals xs its∧PlainL s.heap a its.toArray∧xs.length≤sizeLine:=by
 rcases h with h|⟨o,its,n,hk,hc,hd,hs,hz,r⟩
 ·obtain ⟨z,its,n,r,e⟩:=h.ok I.hok
  exact ⟨its,r,⟨_,n,e,rfl,rfl,rfl⟩,z⟩
 ·refine ⟨its.toList,r,⟨o,n,I.kIn a o hk,hc,hd,by simpa using hs⟩,?_⟩
  have e:=r.length
  simp only [Array.length_toList] at e
  omega
theorem Inv.tuple (I:Inv X pins σ H s) (h:SqT X.K H a xs):∃its:List Value,Vals xs its∧IsTup s.heap a its.toArray∧xs.length≤sizeLine:=by
 rcases h with h|⟨o,its,n,hk,hc,hs,hz,r⟩
 ·obtain ⟨z,its,r,p⟩:=h.ok I.hok
  exact ⟨its,r,p,z⟩
 ·refine ⟨its.toList,r,⟨o,I.kIn a o hk,hc,n,by simpa using hs⟩,?_⟩
  have e:=r.length
  simp only [Array.length_toList] at e
  omega
theorem Inv.list_inj (I:Inv X pins σ H s) (h:SqL X.K H a xs) (h':SqL X.K H a ys):xs=ys:=by
 obtain ⟨its,r,⟨o,n,e,_,_,d⟩,_⟩:=I.list h
 obtain ⟨its',r',⟨o',n',e',_,_,d'⟩,_⟩:=I.list h'
 rw [e] at e';cases e'
 rw [d] at d'
 injection d' with d1 _
 have:its=its':=by simpa using congrArg Array.toList d1
 subst this
 exact r.inj r'
theorem Inv.tuple_inj (I:Inv X pins σ H s) (h:SqT X.K H a xs) (h':SqT X.K H a ys):xs=ys:=by
 obtain ⟨its,r,⟨o,e,_,n,d⟩,_⟩:=I.tuple h
 obtain ⟨its',r',⟨o',e',_,n',d'⟩,_⟩:=I.tuple h'
 rw [e] at e';cases e'
 rw [d] at d'
 injection d' with d1 _
 have:its=its':=by simpa using congrArg Array.toList d1
 subst this
 exact r.inj r'
end
noncomputable abbrev Cx.wish (X:Cx) (E:Value→Shared→Prop):Cx:={ X with xe:=E }
noncomputable abbrev Cx.nox (X:Cx):Cx:=X.wish fun _ _=>False
theorem Cx.Ok.wish {X:Cx} (ok:X.Ok) (E:Value→Shared→Prop):(X.wish E).Ok:=
 ⟨ok.mod,ok.kind,ok.glob,ok.blt,ok.above,ok.inj,ok.has,ok.cab,ok.hd,ok.frames,ok.stk,ok.exf,ok.bs,ok.bsz,ok.noex,ok.exfs,ok.funs,ok.frf⟩
theorem Cx.Ok.unwish {X:Cx} {E:Value→Shared→Prop} (ok:(X.wish E).Ok):X.Ok:=
 ⟨ok.mod,ok.kind,ok.glob,ok.blt,ok.above,ok.inj,ok.has,ok.cab,ok.hd,ok.frames,ok.stk,ok.exf,ok.bs,ok.bsz,ok.noex,ok.exfs,ok.funs,ok.frf⟩
section
variable {X:Cx} {pins:List (Addr×Obj)} {σ:St} {H:Hp} {s:Shared} {E:Value→Shared→Prop}
theorem Inv.wish (I:Inv X pins σ H s) (E:Value→Shared→Prop):Inv (X.wish E) pins σ H s:=⟨I.ok.wish E,I.os,I.bare,I.base,I.loc,I.cell,I.free,I.freeC,I.pin,I.hok,I.len⟩
theorem Inv.unwish (I:Inv (X.wish E) pins σ H s):Inv X pins σ H s:=⟨I.ok.unwish,I.os,I.bare,I.base,I.loc,I.cell,I.free,I.freeC,I.pin,I.hok,I.len⟩
theorem SP.unwish {D:Ends} {f:Flow} {s':Shared} (h:SP (X.wish E) pins D f s'):SP X pins D f s':=by
 cases f with
 | next=>obtain ⟨σ',H',I,q⟩:=h;exact ⟨σ',H',I.unwish,q⟩
 | brk=>obtain ⟨σ',H',I,q⟩:=h;exact ⟨σ',H',I.unwish,q⟩
 | cont=>obtain ⟨σ',H',I,q⟩:=h;exact ⟨σ',H',I.unwish,q⟩
 | ret u=>obtain ⟨v, σ',H',I,r,q⟩:=h;exact ⟨v, σ',H',I.unwish,r,q⟩
theorem PSs.nox {st:List Stmt} {t:TS} (h:PSs X.nox st t):PSs X st t:=fun pins s σ H D I hw=>
 wpAny_mono (h s σ H D (I.wish _) hw) (fun _ _ q=>q.unwish) fun _ _ z=>False.elim z
end
section
variable {X:Cx} {st:Stmt} {rest:List Stmt} {t u:TS} {e:Expr} {te:TE} {pos:Pos}
noncomputable def tNext:TS:=fun D σ H=>D.nx σ H
noncomputable def tSeq (t u:TS):TS:=fun D σ H=>t { D with nx:=u D } σ H
theorem pss_nil:PSs X [] tNext:=fun _ _ σ H _ I h=>wpAny_execs_nil ⟨σ,H,I,h⟩
theorem pss_cons (h1:PS X st t) (h2:PSs X rest u):PSs X (st :: rest) (tSeq t u):=by
 intro pins s σ H D I h
 refine wpAny_execs_cons (thn (h1 s σ H { D with nx:=u D } I h) fun f s1 q => ?_)
 cases f with
 | next=>
  obtain ⟨σ',H',I',q⟩:=q
  exact h2 s1 σ' H' D I' q
 | ret v=>exact q
 | brk=>exact q
 | cont=>exact q
theorem pss_one (h1:PS X st t):PSs X [st] t:=by
 intro pins s σ H D I h
 refine wpAny_execs_cons (thn (h1 s σ H D I h) fun f s1 q => ?_)
 cases f with
 | next=>exact wpAny_execs_nil q
 | ret v=>exact q
 | brk=>exact q
 | cont=>exact q
theorem Inv.quiet {pins:List (Addr×Obj)} {σ:St} {H:Hp} {s:Shared} (I:Inv X pins σ H s):interactive X.env=false:=by simp [interactive,I.ok.kind]
noncomputable def tDrop (te:TE):TS:=fun D σ H=>te σ H fun _ H1=>D.nx σ H1
theorem ps_expr (he:PE X e te) (hs:swapsWith e none pos.line X.env=pure false:=by rfl):PS X (.Expr e pos) (tDrop te):=by
 intro pins s σ H D I h
 exact wpAny_Expr_any (thn (he s σ H _ I h) fun v s1 hz_=>Elim.el hz_ _ fun x H1 I1 r1 q1=>⟨σ,H1,I1,q1⟩) I.quiet hs
noncomputable def tRet (te:TE):TS:=fun D σ H=>te σ H D.rt
theorem ps_ret (he:PE X e te):PS X (.Return (some e) pos) (tRet te):=by
 intro pins s σ H D I h
 exact wpAny_Return_some (thn (he s σ H _ I h) fun v s1 hz_=>Elim.el hz_ _ fun x H1 I1 r1 q1=>⟨x, σ,H1,I1,r1,q1⟩)
noncomputable def tIfS (c:TT) (t u:TS):TS:=fun D σ H=>c σ H fun b H1=>if b=true then t D σ H1 else u D σ H1
theorem ps_if {c:Expr} {a b:List Stmt} {tc:TT} (hc:PT X c tc) (ha:PSs X a t) (hb:PSs X b u):PS X (.If c a b pos) (tIfS tc t u):=by
 intro pins s σ H D I h
 refine wpAny_If (thn (hc s σ H _ I h) fun d s1 hz_ => ?_)
 refine Elim.el hz_ _ ?_
 clear hz_
 rintro H1 I1 q1
 cases d with
 | true=>exact ha s1 σ H1 D I1 q1
 | false=>exact hb s1 σ H1 D I1 q1
end
noncomputable abbrev TG:=V→St→Hp→(St→Hp→Prop)→Prop
noncomputable abbrev TGs:=List V→St→Hp→(St→Hp→Prop)→Prop
noncomputable def PG (X:Cx) (target:Expr) (t:TG):Prop:=
 ∀ ⦃pins:List (Addr×Obj)⦄ (s:Shared) (σ:St) (H:Hp) (v:V) (u:Value) (Q:St→Hp→Prop),Inv X pins σ H s→RelV v u→t v σ H Q →
  wpAny (model X.prog X.w) X.A (assign target X.env u) (fun _ s'=>Ex2 fun σ' H'=>Inv X pins σ' H' s'∧Q σ' H') X.xe s
noncomputable def PGs (X:Cx) (ts:List Expr) (t:TGs):Prop:=
 ∀ ⦃pins:List (Addr×Obj)⦄ (s:Shared) (σ:St) (H:Hp) (vs:List V) (us:List Value) (Q:St→Hp→Prop),Inv X pins σ H s→Vals vs us→t vs σ H Q →
  wpAny (model X.prog X.w) X.A (assignInOrder ((assignEach ts X.env).map (·.2)) us) (fun _ s'=>Ex2 fun σ' H'=>Inv X pins σ' H' s'∧Q σ' H') X.xe s
noncomputable abbrev TSet:=V→V→V→Hp→(Hp→Prop)→Prop
noncomputable def PSet (X:Cx) (t:TSet):Prop:=
 ∀ ⦃pins:List (Addr×Obj)⦄ (s:Shared) (σ:St) (H:Hp) (o i v:V) (ov iv u:Value) (Q:Hp→Prop),Inv X pins σ H s→RelV o ov→RelV i iv→RelV v u→t o i v H Q →
  wpAny (model X.prog X.w) X.A (setItem ov iv u) (fun _ s'=>∃H',Inv X pins σ H' s'∧Q H') X.xe s
noncomputable abbrev TIp:=V→V→Hp→VK→Prop
noncomputable def PIp (X:Cx) (op:Operator) (t:TIp):Prop:=
 ∀ ⦃pins:List (Addr×Obj)⦄ (s:Shared) (σ:St) (H:Hp) (x y:V) (v u:Value) (Q:VK),Inv X pins σ H s→RelV x v→RelV y u→t x y H Q →
  wpAny (model X.prog X.w) X.A (inplaceOp op v u) (EP X pins σ Q) X.xe s
section
variable {X:Cx} {pos:Pos}
noncomputable def gName (i:Nat):TG:=fun v σ H Q=>Q (σ.set i (some v)) H
theorem pg_name {i:Nat} {x:Str} (hN:X.N.Nodup) (hi:X.N[i]? = some x) (hx:Loc X.env.scope x) (hf:X.fn x=true∨X.env.scope.names.lookup x=some .local:=by first|exact .inl rfl|exact .inr rfl|assumption):PG X (.Name x pos) (gName i):=by
 intro pins s σ H v u Q I r h
 exact wpAny_assign_Name (store_ok I hN hi hx r (fun s' I'=>⟨_,H,I',h⟩) hf)
noncomputable def gNil:TGs:=fun vs σ H Q=>vs=[]∧Q σ H
noncomputable def gCons (t:TG) (u:TGs):TGs:=fun vs σ H Q=>Ex2 fun v r=>vs=v :: r∧t v σ H fun σ' H'=>u r σ' H' Q
theorem pgs_nil:PGs X [] gNil:=by
 intro pins s σ H vs us Q I r h
 obtain ⟨e,h⟩:=h
 subst e
 cases r
 exact assignInOrder_nil ⟨σ,H,I,h⟩
theorem pgs_cons {e:Expr} {es:List Expr} {t:TG} {u:TGs} (h1:PG X e t) (h2:PGs X es u)
  (hs:(assignEach (e :: es) X.env).map (·.2)=assign e X.env :: (assignEach es X.env).map (·.2):=by rfl):PGs X (e :: es) (gCons t u):=by
 intro pins s σ H vs us Q I r h
 obtain ⟨v,vr,e1,h⟩:=h
 subst e1
 cases r with
 | cons r rr=>
  rw [hs]
  refine assignInOrder_cons (thn (h1 s σ H _ _ _ I r h) fun _ s1 hz_ => ?_)
  refine Elim.el hz_ _ ?_
  clear hz_
  rintro σ1 H1 I1 q1
  exact h2 s1 σ1 H1 _ _ Q I1 rr q1
noncomputable def gTup (K:PySem.W.Frag) (n:Nat) (t:TGs):TG:=fun v σ H Q=>Ex2 fun a xs=>v = .ref a∧SqT K H a xs∧xs.length=n∧t xs σ H Q
theorem pg_tup {es:List Expr} {k:Nat} {t:TGs} {n:Nat} (hc:X.calm=true) (h:PGs X es t)
  (hn:(assignEach es X.env).length=n:=by rfl) (hst:(assignEach es X.env).findIdx? (·.1)=none:=by rfl):PG X (.Tuple es k pos) (gTup X.K n t):=by
 intro pins s σ H v u Q I r hw
 obtain ⟨a,xs,e1,hq,hl,hw⟩:=hw
 subst e1
 cases r
 obtain ⟨its,rv,ht,hz⟩:=I.tuple hq
 refine assign_Tuple_tuple (I.ok.hd hc) ht (by simp [hn, ←hl,rv.length]) hst fun h' hx => ?_
 have I1:Inv X pins σ H { s with heap:=h' }:=I.kept (t':=s.toks) fun b o e=>hx b o (Nat.ne_of_lt (Heap.lt_size e)) e
 exact h _ σ H xs _ Q I1 (by simpa using rv) hw
noncomputable def gSub (to ti:TE) (t:TSet):TG:=fun v σ H Q=>to σ H fun o H1=>ti σ H1 fun i H2=>t o i v H2 fun H3=>Q σ H3
theorem pg_sub {o i:Expr} {to ti:TE} {t:TSet} (ho:PE X o to) (hi:PE X i ti) (hs:PSet X t)
  (ha:∀v,assign (.Subscript o i pos) X.env v=(do
   let ov ←holding [v] (eval o X.env)
   let iv ←holding [v,ov] (eval i X.env)
   standAt pos
   holding [v,ov,iv] (setItem ov iv v)
   release [v,ov,iv] []):=by intro _;rfl):PG X (.Subscript o i pos) (gSub to ti t):=by
 intro pins s σ H v u Q I r h
 rw [ha]
 refine wpAny_bind (wpAny_holding (thn (ho s σ H _ I h) fun ov s1 hz_ => ?_))
 refine Elim.el hz_ _ ?_
 clear hz_
 rintro x H1 I1 r1 q1
 refine wpAny_bind (wpAny_holding (thn (hi s1 σ H1 _ I1 q1) fun iv s2 hz_ => ?_))
 refine Elim.el hz_ _ ?_
 clear hz_
 rintro y H2 I2 r2 q2
 refine wpAny_bind (wpAny_standAt (wpAny_bind (wpAny_holding (thn (hs s2 σ H2 x y v ov iv u _ I2 r1 r2 r q2) fun _ s3 hz_ => ?_))))
 refine Elim.el hz_ _ ?_
 clear hz_
 rintro H3 I3 q3
 exact wpAny_release ⟨σ,H3,I3,q3⟩
noncomputable def tAsg (te:TE) (g:TG):TS:=fun D σ H=>te σ H fun x H1=>g x σ H1 D.nx
theorem ps_asg {tg e:Expr} {te:TE} {g:TG} (he:PE X e te) (hg:PG X tg g) (hs:swapsWithSole [tg] e pos.line X.env=pure false:=by rfl) (hw:swappedStores [tg] e X.env=pure none:=by rfl)
  (h1:(assignEach [tg] X.env).map (·.2)=[assign tg X.env]:=by rfl):PS X (.Assign [tg] e pos) (tAsg te g):=by
 intro pins s σ H D I h
 refine wpAny_Assign_stores (thn (he s σ H _ I h) fun v s1 hz_=>Elim.el hz_ _ fun x H1 I1 r1 q1 => ?_) hs hw
 rw [h1]
 exact thn (hg s1 σ H1 x v _ I1 r1 q1) fun _ s2 q=>q
theorem ps_set {i:Nat} {x:Str} {e:Expr} {te:TE} {pos':Pos} (hN:X.N.Nodup) (hi:X.N[i]? = some x) (hx:Loc X.env.scope x) (he:PE X e te) (hs:swapsWith e (some (.Name x pos')) pos.line X.env=pure false:=by rfl) (hf:X.fn x=true∨X.env.scope.names.lookup x=some .local:=by first|exact .inl rfl|exact .inr rfl|assumption) :
  PS X (.Assign [.Name x pos'] e pos) (tAsg te (gName i)):=by
 intro pins s σ H D I h
 refine wpAny_Assign_Name (thn (he s σ H _ I h) fun v s1 hz_=>Elim.el hz_ _ fun y H1 I1 r1 q1 => ?_) hs
 exact store_ok I1 hN hi hx r1 (fun s2 I2=>⟨_,H1,I2,q1⟩) hf
noncomputable def tPar (i j:Nat) (ta:TA):TS:=fun D σ H=>ta σ H fun vs H1=>Ex2 fun v w=>vs=[v,w]∧D.nx ((σ.set i (some v)).set j (some w)) H1
theorem ps_par {i j:Nat} {x y:Str} {a b:Expr} {ta:TA} {px py pt:Pos} {kt k2 pt2} (hc:X.calm=true) (hN:X.N.Nodup) (hi:X.N[i]? = some x) (hj:X.N[j]? = some y) (hij:i≠j)
  (hx:X.env.scope.names.lookup x=some .local) (hy:X.env.scope.names.lookup y=some .local) (ha:PA X [a,b] ta)
  (hw:swappedStores [.Tuple [.Name x px, .Name y py] kt pt] (.Tuple [a,b] k2 pt2) X.env=pure (some [x,y]))
  (hs:swapsWithSole [.Tuple [.Name x px, .Name y py] kt pt] (.Tuple [a,b] k2 pt2) pos.line X.env=pure false:=by rfl) :
  PS X (.Assign [.Tuple [.Name x px, .Name y py] kt pt] (.Tuple [a,b] k2 pt2) pos) (tPar i j ta):=by
 intro pins s σ H D I h
 rw [exec_Assign_arm]
 refine wpAny_bind (wpAny_standAt ?_)
 rw [hs]
 refine wpAny_bind (wpAny_pure ?_)
 rw [if_neg (by decide)]
 refine wpAny_bind (Tuple_ (thn (ha s σ H _ I h) fun us s1 hz_ => ?_))
 refine Elim.el hz_ _ ?_
 clear hz_
 rintro vs H1 I1 r1 q1
 obtain ⟨v,w,e1,q1⟩:=q1
 subst e1
 obtain ⟨u1,u2,rfl,rv,rw'⟩:∃u1 u2,us=[u1,u2]∧RelV v u1∧RelV w u2:=by
  cases r1 with
  | cons p q=>
   cases q with
   | cons p' q'=>
    cases q'
    exact ⟨_,_,rfl,p,p'⟩
 refine wpAny_newObj_type ?_ (by show 2≤sizeLine;decide)
 have I2:Inv X pins σ H1 { s1 with heap:=s1.heap.push { cls := .type "tuple",data := .seq [u1,u2].toArray } }:=I1.kept (t':=s1.toks) fun b o e=>Heap.get?_push_of_some _ e
 rw [hw]
 refine wpAny_bind (wpAny_pure ?_)
 show wpAny (model X.prog X.w) X.A (do rule "assign.swapped-stores";let items ←unpackItems (.ref s1.heap.objs.size) 2 none;assignInOrder [fun v=>bindName X.env y v,fun v=>bindName X.env x v] items.reverse;pure Flow.next) _ _ _
 refine wpAny_bind (wpAny_rule (wpAny_bind (unpackItems_tuple (items := #[u1,u2]) (I.ok.hd hc) (IsTup.new s1.heap _) fun h' hx' => ?_)))
 have I3:=I2.kept (h':=h') (t':=s1.toks) fun b o e=>hx' b o (Nat.ne_of_lt (Heap.lt_size e)) e
 show wpAny _ _ (assignInOrder [fun v=>bindName X.env y v,fun v=>bindName X.env x v] [u2,u1] >>= fun _=>pure Flow.next) _ _ _
 refine wpAny_bind (assignInOrder_cons (wpAny_bindName (store_ok I3 hN hj (.inl hy) rw' (fun s2 I4 => ?_) (.inr hy))))
 refine assignInOrder_cons (wpAny_bindName (store_ok I4 hN hi (.inl hx) rv (fun s3 I5=>assignInOrder_nil (wpAny_pure ?_)) (.inr hx)))
 rw [List.set_comm _ _ (Ne.symm hij)] at I5
 exact ⟨_,H1,I5,q1⟩
noncomputable def tAug (i:Nat) (te:TE) (ti:TIp):TS:=fun D σ H=>∃x, σ[i]? = some (some x)∧te σ H fun y H1=>ti x y H1 fun z H2=>D.nx (σ.set i (some z)) H2
theorem ps_aug {i:Nat} {x:Str} {e:Expr} {te:TE} {op:Operator} {ti:TIp} {pos':Pos} (hN:X.N.Nodup) (hi:X.N[i]? = some x) (hx:Loc X.env.scope x) (he:PE X e te) (ho:PIp X op ti) (hf:X.fn x=true∨X.env.scope.names.lookup x=some .local:=by first|exact .inl rfl|exact .inr rfl|assumption) :
  PS X (.AugAssign (.Name x pos') op e pos) (tAug i te ti):=by
 intro pins s σ H D I h
 obtain ⟨v,e1,h⟩:=h
 obtain ⟨m,hn,hl⟩:=I.loc
 have vis:Vis X.env.scope x:=by rcases hx with k|k;exact .inl k;exact .inr (.inl k)
 obtain ⟨u,r,l⟩:=hl i x v hi e1 vis
 refine wpAny_AugAssign_Name ?_
 have go:wpAny (model X.prog X.w) X.A (eval e X.env) (fun w s₂=>wpAny (model X.prog X.w) X.A (inplaceOp op u w) (fun r s₃=>wpAny (model X.prog X.w) X.A (storeName X.env x r) (fun _=>SP X pins D .next) X.xe s₃) X.xe s₂) X.xe s:=by
  refine thn (he s σ H _ I h) fun w s1 hz_ => ?_
  refine Elim.el hz_ _ ?_
  clear hz_
  rintro y H1 I1 r1 q1
  refine thn (ho s1 σ H1 v y u w _ I1 r r1 q1) fun z s2 hz_ => ?_
  refine Elim.el hz_ _ ?_
  clear hz_
  rintro zv H2 I2 r2 q2
  exact store_ok I2 hN hi hx r2 (fun s3 I3=>⟨_,H2,I3,q2⟩) hf
 rcases l with ⟨hk,hm⟩|⟨hk,c,hc,hcell⟩
 ·exact wpAny_loadName_local I.ok.kind hk hn hm go
 ·rcases hk with hk|hk
  ·exact wpAny_loadName_cell I.ok.kind hk hc hcell go
  ·rcases hx with k|k
   ·have:X.env.scope.names.lookup x=some .free:=hk
    rw [k] at this;cases this
   ·have:X.env.scope.names.lookup x=some .free:=hk
    rw [k] at this;cases this
noncomputable def ipI (f:Int→Int→Int):TIp:=fun x y H Q=>Ex2 fun i j=>x = .int i∧y = .int j∧Q (.int (f i j)) H
theorem ip_add:PIp X .Add (ipI fun i j=>i+j):=by
 intro pins s σ H x y v u Q I r1 r2 h
 obtain ⟨i,j,e1,e2,q⟩:=h
 subst e1;subst e2
 obtain ⟨t,rfl⟩:=r1
 obtain ⟨t',rfl⟩:=r2
 exact iadd_int ⟨.int _,H,I.tok _,⟨_,rfl⟩,q⟩
end
section
variable {X:Cx} {pos:Pos}
noncomputable def tWhile (c:TT) (tb:TS):TS:=fun D σ H=>∃W:Nat→St→Hp→Prop,(∃m,W m σ H)∧∀m σ H,W m σ H →
 c σ H fun b H1=>if b=true then ∃N:St→Hp→Prop,(∀ σ' H',N σ' H'→∃m',m'<m∧W m' σ' H')∧tb { D with nx:=N,ct:=N,bk:=D.nx } σ H1 else D.nx σ H1
theorem ps_while {c:Expr} {body:List Stmt} {tc:TT} {tb:TS} (hp:PassesOwn (model X.prog X.w) X.A X.env X.xe) (hc:PT X c tc) (hb:PSs X body tb):PS X (.While c body [] pos) (tWhile tc tb):=by
 intro pins s σ H D I h
 obtain ⟨W,⟨m0,w0⟩,turn⟩:=h
 refine wpAny_While (codeAny_whileLoop (fun n s'=>∃ σ' H',Inv X pins σ' H' s'∧W n σ' H') ?_ m0 ⟨σ,H,I,w0⟩)
 rintro n s1 ⟨σ1,H1,I1,w1⟩
 refine wpAny_passesOwn hp (thn (hc s1 σ1 H1 _ I1 (turn n σ1 H1 w1)) fun b s2 hz_ => ?_)
 refine Elim.el hz_ _ ?_
 clear hz_
 rintro H2 I2 q2
 cases b with
 | true=>
  obtain ⟨N,hN,q2⟩:=q2
  rw [if_pos rfl]
  refine wpAny_passesOwn hp (thn (hb s2 σ1 H2 _ I2 q2) fun f s3 q3 => ?_)
  cases f with
  | next=>
   obtain ⟨σ3,H3,I3,n3⟩:=q3
   obtain ⟨m',hm,w3⟩:=hN σ3 H3 n3
   exact ⟨m',hm, σ3,H3,I3,w3⟩
  | cont=>
   obtain ⟨σ3,H3,I3,n3⟩:=q3
   obtain ⟨m',hm,w3⟩:=hN σ3 H3 n3
   exact ⟨m',hm, σ3,H3,I3,w3⟩
  | brk=>exact q3
  | ret v=>exact q3
 | false=>
  rw [if_neg Bool.false_ne_true]
  exact wpAny_execs_nil ⟨σ1,H2,I2,q2⟩
end
structure It where
 go:Nat→Hp→Prop
 yld:Nat→Hp→V→Hp→Prop
 stop:Nat→Hp→Prop
noncomputable def FpOk (X:Cx) (pins:List (Addr×Obj)) (H:Hp) (b:Addr):Prop:=
 H b=none∧b≠X.env.locals∧b ∉ X.fs∧(b∈X.ex∨X.s₀.heap.objs.size≤b)∧(∀x c,X.env.cells.lookup x=some c→c≠b)∧∀p∈X.pn++pins,p.1≠b
theorem Inv.fpOk {X:Cx} {pins:List (Addr×Obj)} {σ:St} {H H':Hp} {s:Shared} {b:Addr} (I:Inv X pins σ H s) (hb:s.heap.objs.size≤b) (hn:H' b=none):FpOk X pins H' b:=by
 refine ⟨hn,Nat.ne_of_gt (Nat.lt_of_lt_of_le I.lt hb),I.nofs hb, .inr (Nat.le_trans I.sz hb),fun x c e z => ?_,fun p hp z => ?_⟩
 ·obtain ⟨v,q⟩:=I.cell x c e
  exact absurd (Nat.lt_of_lt_of_le q.lt (by rw [z];exact hb)) (Nat.lt_irrefl _)
 ·exact absurd (Nat.lt_of_lt_of_le (Heap.lt_size (I.pin p hp).1) (by rw [z];exact hb)) (Nat.lt_irrefl _)
structure Turn (P:Program) (w:World) (K:PySem.W.Frag) (tg:Expr) (J:It) (fp:List Addr) (it:Addr) (tn:Nat→Heap→Prop):Prop where
 mem:it∈fp
 obj:∀i h,tn i h→∀b∈fp,∃o,h.get? b=some o∧∀v,o.data ≠ .cell v
 keep:∀i h h',tn i h→(∀b∈fp,∀o,h.get? b=some o→h'.get? b=some o)→tn i h'
 item:∀(X:Cx),X.prog=P→X.w=w→X.K=K→X.calm=true→∀(i:Nat) (pins:List (Addr×Obj)) (s:Shared) (σ:St) (H:Hp) (E:Value→Shared→Prop),Inv X pins σ H s→(∀b∈fp,FpOk X pins H b)→tn i s.heap→J.go i H →
  wpAny (model P w) X.A (pyNext (.ref it)) (fun r s1=>∃u,r=some u ∧
   wpAny (model P w) X.A (letOwnedTupleGo tg (.ref it) u) (fun _ s2=>∃x H',Inv X pins σ H' s2∧RelV x u∧J.yld i H x H'∧tn (i+1) s2.heap∧∀b∈fp,H' b=none) E s1) E s
 done:∀(X:Cx),X.prog=P→X.w=w→X.K=K→X.calm=true→∀(i:Nat) (pins:List (Addr×Obj)) (s:Shared) (σ:St) (H:Hp) (E:Value→Shared→Prop),Inv X pins σ H s→(∀b∈fp,FpOk X pins H b)→tn i s.heap→J.stop i H →
  wpAny (model P w) X.A (pyNext (.ref it)) (fun r s1=>r=none∧Inv X pins σ H s1) E s
 self:∀(A:Around) (i:Nat) (s:Shared) (Q:Value→Shared→Prop) (E:Value→Shared→Prop),tn i s.heap→Q (.ref it) s→wpAny (model P w) A (pyIter (.ref it)) Q E s
noncomputable abbrev TI:=St→Hp→(It→Hp→Prop)→Prop
noncomputable def PIE (X:Cx) (pins:List (Addr×Obj)) (σ:St) (tg:Expr) (R:It→Hp→Prop) (itv:Value) (s2:Shared):Prop:=
 Ex5 fun (it:Addr) (fp:List Addr) (tn:Nat→Heap→Prop) (J:It) (H':Hp)=>itv = .ref it∧Inv X pins σ H' s2∧Turn X.prog X.w X.K tg J fp it tn∧tn 0 s2.heap∧(∀b∈fp,FpOk X pins H' b)∧R J H'
noncomputable def PI (X:Cx) (tg iter:Expr) (wi:TI):Prop:=
 ∀ ⦃pins:List (Addr×Obj)⦄ (s:Shared) (σ:St) (H:Hp) (R:It→Hp→Prop),Inv X pins σ H s→wi σ H R →
  wpAny (model X.prog X.w) X.A (eval iter X.env) (fun v s1=>wpAny (model X.prog X.w) X.A (pyIter v) (PIE X pins σ tg R) X.xe s1) X.xe s
theorem go_of {M:Model} {A:Around} {E:Value→Shared→Prop} {s:Shared} {tg:Expr} {it:Addr} {u:Value} {o:Obj} {n:String} {vs:Array Value} {Q:Unit→Shared→Prop} (ho:s.heap.get? it=some o) (hc:o.cls = .type n) (hd:o.data = .fields vs)
  (hn:["enumerate", "zip", "dict_itemiterator", "dict_reverseitemiterator", "odict_iterator", "itertools.zip_longest", "itertools.pairwise"].contains n=false) (hQ:Q () s):wpAny M A (letOwnedTupleGo tg (.ref it) u) Q E s:=by
 unfold letOwnedTupleGo
 cases tg <;> first
  | exact wpAny_pure hQ
  | (cases u <;> first
    | exact wpAny_pure hQ
    | (refine wpAny_bind (wpAny_load ho ?_)
       rw [hc,hd]
       show wpAny M A (if (["enumerate", "zip", "dict_itemiterator", "dict_reverseitemiterator", "odict_iterator", "itertools.zip_longest", "itertools.pairwise"].contains n&&vs[0]? == some (rawInt _))=true then _ else _) Q E s
       rw [if_neg (by intro h;rw [hn,Bool.false_and] at h;cases h)]
       exact wpAny_pure hQ))
noncomputable def Itl (K:PySem.W.Frag) (a:Addr):It:=
 ⟨fun i H=>Ex2 fun xs x=>SqL K H a xs∧xs[i]? = some x,fun i H x H'=>H'=H∧∀xs,SqL K H a xs→xs[i]? = some x,fun i H=>∃xs,SqL K H a xs∧xs.length≤i⟩
noncomputable def Itt (K:PySem.W.Frag) (a:Addr):It:=
 ⟨fun i H=>Ex2 fun xs x=>SqT K H a xs∧xs[i]? = some x,fun i H x H'=>H'=H∧∀xs,SqT K H a xs→xs[i]? = some x,fun i H=>∃xs,SqT K H a xs∧xs.length≤i⟩
noncomputable def Itr (lo:Int) (n:Nat):It:=⟨fun i _=>i<n,fun i H x H'=>H'=H∧x = .int (lo+i),fun i _=>n≤i⟩
theorem turn_list {P:Program} {w:World} {K:PySem.W.Frag} {tg:Expr} (a it:Addr):Turn P w K tg (Itl K a) [it] it (fun i h=>h.IsListIter it a i) where
 mem:=by simp
 obj:=fun i h st b hb=>by
  have e:b=it:=by simpa using hb
  subst e
  obtain ⟨o,e,c,d⟩:=st
  exact ⟨o,e,fun v z=>by rw [d] at z;cases z⟩
 keep:=fun i h h' st k=>st.at fun o e=>k it (by simp) o e
 item:=by
  intro X hP hw hK hc i pins s σ H E I hf st hg
  subst hP hw hK
  obtain ⟨xs,x,hq,hx⟩:=hg
  obtain ⟨its,rv,p,hz⟩:=I.list hq
  obtain ⟨u,hu,ru⟩:=rv.get hx
  obtain ⟨f0,f1,f2,f3,f4,f5⟩:=hf it (by simp)
  refine wpAny_pyNext_list_item st p.isList (x:=u) (by simpa using hu) fun h' st' sb => ?_
  have I1:Inv X pins σ H { s with heap:=h' }:=I.turned (t':=s.toks) (fun b o hb e=>(sb.2 b hb).trans e) f0 f1 f3 f4 f5
  obtain ⟨o,e,c,d⟩:=id st'
  exact ⟨u,rfl,go_of (s:={ s with heap:=h' }) e c d (by decide) ⟨x,H,I1,ru,⟨rfl,fun ys hy=>by rw [I.list_inj hy hq];exact hx⟩,st',fun b hb=>(hf b hb).1⟩⟩
 done:=by
  intro X hP hw hK hc i pins s σ H E I hf st hg
  subst hP hw hK
  obtain ⟨xs,hq,hx⟩:=hg
  obtain ⟨its,rv,p,hz⟩:=I.list hq
  obtain ⟨f0,f1,f2,f3,f4,f5⟩:=hf it (by simp)
  have hl:=rv.length
  exact wpAny_pyNext_list_end (I.ok.hd hc) st p.isList (by simp;omega) fun h' eb=>⟨rfl,I.turned (t':=s.toks) (fun b o hb e=>eb b o hb e) f0 f1 f3 f4 f5⟩
 self:=fun _ _ _ _ _ st h=>wpAny_pyIter_listiter st h
theorem turn_tuple {P:Program} {w:World} {K:PySem.W.Frag} {tg:Expr} (a it:Addr):Turn P w K tg (Itt K a) [it] it (fun i h=>h.IsTupleIter it a i) where
 mem:=by simp
 obj:=fun i h st b hb=>by
  have e:b=it:=by simpa using hb
  subst e
  obtain ⟨o,e,c,d⟩:=st
  exact ⟨o,e,fun v z=>by rw [d] at z;cases z⟩
 keep:=fun i h h' st k=>st.at fun o e=>k it (by simp) o e
 item:=by
  intro X hP hw hK hc i pins s σ H E I hf st hg
  subst hP hw hK
  obtain ⟨xs,x,hq,hx⟩:=hg
  obtain ⟨its,rv,p,hz⟩:=I.tuple hq
  obtain ⟨u,hu,ru⟩:=rv.get hx
  obtain ⟨f0,f1,f2,f3,f4,f5⟩:=hf it (by simp)
  refine wpAny_pyNext_tuple_item st (show s.heap.IsTuple a its.toArray from p) (x:=u) (by simpa using hu) fun h' st' sb => ?_
  have I1:Inv X pins σ H { s with heap:=h' }:=I.turned (t':=s.toks) (fun b o hb e=>(sb.2 b hb).trans e) f0 f1 f3 f4 f5
  obtain ⟨o,e,c,d⟩:=id st'
  exact ⟨u,rfl,go_of (s:={ s with heap:=h' }) e c d (by decide) ⟨x,H,I1,ru,⟨rfl,fun ys hy=>by rw [I.tuple_inj hy hq];exact hx⟩,st',fun b hb=>(hf b hb).1⟩⟩
 done:=by
  intro X hP hw hK hc i pins s σ H E I hf st hg
  subst hP hw hK
  obtain ⟨xs,hq,hx⟩:=hg
  obtain ⟨its,rv,p,hz⟩:=I.tuple hq
  obtain ⟨f0,f1,f2,f3,f4,f5⟩:=hf it (by simp)
  have hl:=rv.length
  exact wpAny_pyNext_tuple_end (I.ok.hd hc) st (show s.heap.IsTuple a its.toArray from p) (by simp;omega) fun h' eb=>⟨rfl,I.turned (t':=s.toks) (fun b o hb e=>eb b o hb e) f0 f1 f3 f4 f5⟩
 self:=fun _ _ _ _ _ st h=>wpAny_pyIter_tupleiter st h
theorem turn_range {P:Program} {w:World} {K:PySem.W.Frag} {tg:Expr} (it:Addr) (lo:Int) (n:Nat):Turn P w K tg (Itr lo n) [it] it (fun i h=>IsRangeIter h it (lo+(i:Nat)*1) ((n:Int)-(i:Nat)) 1) where
 mem:=by simp
 obj:=fun i h st b hb=>by
  have e:b=it:=by simpa using hb
  subst e
  exact ⟨_,st,fun v z=>by
   have z':Data.fields _=Data.cell v:=z
   cases z'⟩
 keep:=fun i h h' st k=>k it (by simp) _ st
 item:=by
  intro X hP hw hK hc i pins s σ H E I hf st hg
  subst hP hw hK
  obtain ⟨f0,f1,f2,f3,f4,f5⟩:=hf it (by simp)
  have W:=Walks.range (prog:=X.prog) (w:=X.w) (I.ok.hd hc) it lo 1 n
  refine W.item i s _ _ hg st fun v h' tk hv st' kk => ?_
  obtain ⟨t,rfl⟩:=hv
  have I1:Inv X pins σ H { s with heap:=h',toks:=tk }:=I.turned (fun b o hb e=>kk b o (by simpa using hb) e) f0 f1 f3 f4 f5
  refine ⟨_,rfl,go_of (s:={ s with heap:=h',toks:=tk }) (n := "range_iterator") st' rfl rfl (by decide) ⟨.int (lo+i),H,I1,⟨t,?_⟩,⟨rfl,rfl⟩,st',fun b hb=>(hf b hb).1⟩⟩
  rw [Int.mul_one]
 done:=by
  intro X hP hw hK hc i pins s σ H E I hf st hg
  subst hP hw hK
  obtain ⟨f0,f1,f2,f3,f4,f5⟩:=hf it (by simp)
  exact wpAny_pyNext_range_end (I.ok.hd hc) st (by have:n≤i:=hg;omega) fun h' eb=>⟨rfl,I.turned (t':=s.toks) (fun b o hb e=>eb b o hb e) f0 f1 f3 f4 f5⟩
 self:=fun _ _ _ _ _ st h=>wpAny_pyIter_rangeiter st h
end L2
namespace L2
open PySem PySem.Spec PyProof.Rows
section
variable {X:Cx} {tg:Expr}
noncomputable def iList (K:PySem.W.Frag) (tl:TE):TI:=fun σ H R=>tl σ H fun x H1=>∃a,x = .ref a∧(∃xs,SqL K H1 a xs)∧R (Itl K a) H1
noncomputable def iTup (K:PySem.W.Frag) (tl:TE):TI:=fun σ H R=>tl σ H fun x H1=>∃a,x = .ref a∧(∃xs,SqT K H1 a xs)∧R (Itt K a) H1
theorem pi_list {l:Expr} {tl:TE} (hl:PE X l tl):PI X tg l (iList X.K tl):=by
 intro pins s σ H R I h
 refine thn (hl s σ H _ I h) fun v s1 hz_ => ?_
 refine Elim.el hz_ _ ?_
 clear hz_
 rintro x H1 I1 r1 q1
 obtain ⟨a,e,⟨xs,hq⟩,q⟩:=q1
 subst e
 cases r1
 obtain ⟨its,rv,p,hz⟩:=I1.list hq
 refine wpAny_pyIter_list p.isList ?_
 refine ⟨s1.heap.objs.size,[s1.heap.objs.size],_,_,H1,rfl,I1.kept (t':=s1.toks) fun b o e=>Heap.get?_push_of_some _ e,turn_list a _,⟨_,Heap.get?_push_size _ rfl,rfl,rfl⟩,fun b hb => ?_,q⟩
 have e:b=s1.heap.objs.size:=by simpa using hb
 subst e
 exact I1.fpOk (Nat.le_refl _) (I1.hok.fresh (Nat.le_refl _))
theorem pi_tup {l:Expr} {tl:TE} (hl:PE X l tl):PI X tg l (iTup X.K tl):=by
 intro pins s σ H R I h
 refine thn (hl s σ H _ I h) fun v s1 hz_ => ?_
 refine Elim.el hz_ _ ?_
 clear hz_
 rintro x H1 I1 r1 q1
 obtain ⟨a,e,⟨xs,hq⟩,q⟩:=q1
 subst e
 cases r1
 obtain ⟨its,rv,p,hz⟩:=I1.tuple hq
 refine wpAny_pyIter_tuple (show s1.heap.IsTuple a its.toArray from p) ?_
 refine ⟨s1.heap.objs.size,[s1.heap.objs.size],_,_,H1,rfl,I1.kept (t':=s1.toks) fun b o e=>Heap.get?_push_of_some _ e,turn_tuple a _,⟨_,Heap.get?_push_size _ rfl,rfl,rfl⟩,fun b hb => ?_,q⟩
 have e:b=s1.heap.objs.size:=by simpa using hb
 subst e
 exact I1.fpOk (Nat.le_refl _) (I1.hok.fresh (Nat.le_refl _))
theorem range_it {pins:List (Addr×Obj)} {σ:St} {H:Hp} {s:Shared} {R:It→Hp→Prop} {E:Value→Shared→Prop} {lo hi:Int} {t u v:Tok} {tk:Nat} (I:Inv X pins σ H s) (h1 : -(2 ^ 62)≤lo) (h2:lo<2 ^ 62) (h3 : -(2 ^ 62)≤hi) (h4:hi<2 ^ 62)
  (q:R (Itr lo (hi-lo).toNat) H):wpAny (model X.prog X.w) X.A (pyIter (.ref s.heap.objs.size)) (PIE X pins σ tg R) E { s with heap:=s.heap.push { cls := .type "range",data := .fields #[.int lo t, .int hi u, .int 1 v] },toks:=tk }:=by
 refine wpAny_pyIter_range (IsRange.new ..) (small_one h1 h2 h3 h4) ?_
 have I1:Inv X pins σ H { s with heap:=s.heap.push { cls := .type "range",data := .fields #[.int lo t, .int hi u, .int 1 v] },toks:=tk }:=I.kept fun b o e=>Heap.get?_push_of_some _ e
 refine ⟨(s.heap.push { cls := .type "range",data := .fields #[.int lo t, .int hi u, .int 1 v] }).objs.size,[(s.heap.push { cls := .type "range",data := .fields #[.int lo t, .int hi u, .int 1 v] }).objs.size],_,_,H,rfl,
  I1.kept (t':=tk) fun b o e=>Heap.get?_push_of_some _ e,turn_range _ lo (hi-lo).toNat,?_,fun b hb => ?_,q⟩
 ·have e1:lo+((0:Nat):Int)*1=lo:=by simp
  have e2:(((hi-lo).toNat:Nat):Int)-((0:Nat):Int)=Builtin.Range.rangeSize lo hi 1:=by rw [rangeSize_one];split <;> omega
  show IsRangeIter _ _ (lo+((0:Nat):Int)*1) ((((hi-lo).toNat:Nat):Int)-((0:Nat):Int)) 1
  rw [e1,e2]
  exact Heap.get?_push_size _ rfl
 ·have e:b=(s.heap.push { cls := .type "range",data := .fields #[.int lo t, .int hi u, .int 1 v] }).objs.size:=by simpa using hb
  subst e
  exact I1.fpOk (Nat.le_refl _) (I1.hok.fresh (Nat.le_refl _))
noncomputable def iRng1 (ta:TA):TI:=fun σ H R=>ta σ H fun vs H1=>∃j:Int,vs=[.int j] ∧ -(2 ^ 62)≤j∧j<2 ^ 62∧R (Itr 0 j.toNat) H1
theorem pi_range1 {a:Expr} {ta:TA} {p pos:Pos} (hg:Gl X "range") (hm:X.mg "range" = none) (ha:PA X [a] ta) (hs:starEach [a] X.env=[(false,eval a X.env)]:=by rfl):PI X tg (.Call (.Name "range" p) [a] [] pos) (iRng1 ta):=by
 intro pins s σ H R I h
 refine Call_ (ld_blt I hg hm boot_range (PyProof.Rows.callWith_type1 (thn (ha s σ H _ I h) fun us s1 hz_=>Elim.el hz_ _ fun vs H1 I1 r1 q1 => ?_) hs rfl))
 obtain ⟨j,e,q1,q2,q⟩:=q1
 subst e
 cases r1 with
 | cons r rr=>
  cases rr
  obtain ⟨t,rfl⟩:=r
  exact call_range_1 (range_it I1 (by omega) (by omega) q1 q2 (by simpa using q))
noncomputable def tFor (wi:TI) (g:TG) (tb:TS):TS:=fun D σ H=>wi σ H fun J H1=>∃W:Nat→Nat→St→Hp→Prop,(∃m,W 0 m σ H1)∧∀i m σ H,W i m σ H →
 (J.stop i H∧D.nx σ H)∨(J.go i H∧∃N:St→Hp→Prop,(∀ σ' H',N σ' H'→∃m',m'<m∧W (i+1) m' σ' H')∧∀x H',J.yld i H x H'→g x σ H' fun σ2 H2=>tb { D with nx:=N,ct:=N,bk:=D.nx } σ2 H2)
noncomputable def pinsAt (fp:List Addr) (h:Heap):List (Addr×Obj):=fp.filterMap fun b=>(h.get? b).map fun o=>(b,o)
theorem mem_pinsAt {fp:List Addr} {h:Heap} {b:Addr} {o:Obj} (hb:b∈fp) (e:h.get? b=some o):(b,o)∈pinsAt fp h:=List.mem_filterMap.mpr ⟨b,hb,by rw [e];rfl⟩
theorem of_pinsAt {fp:List Addr} {h:Heap} {p:Addr×Obj} (hp:p∈pinsAt fp h):p.1∈fp∧h.get? p.1=some p.2:=by
 obtain ⟨b,hb,e⟩:=List.mem_filterMap.mp hp
 cases q:h.get? b with
 | none=>rw [q] at e;cases e
 | some o=>
  rw [q] at e
  have e':(b,o)=p:=Option.some.inj e
  subst e'
  exact ⟨hb,q⟩
theorem Inv.pinned {pins:List (Addr×Obj)} {σ:St} {H:Hp} {s:Shared} {fp:List Addr} (I:Inv X pins σ H s) (hf:∀b∈fp,FpOk X pins H b) (ho:∀b∈fp,∃o,s.heap.get? b=some o∧∀v,o.data ≠ .cell v):Inv X (pins++pinsAt fp s.heap) σ H s:=
 I.pins_of fun p hp=>(List.mem_append.mp hp).elim (fun z=>I.pin p (List.mem_append_right _ z)) fun z=>by
  obtain ⟨hb,e⟩:=of_pinsAt z
  obtain ⟨f0,f1,f2,_⟩:=hf p.1 hb
  obtain ⟨o,e',d⟩:=ho p.1 hb
  rw [e] at e';cases e'
  exact ⟨e,f0,f1,f2,d⟩
theorem Inv.unpinned {pins pl:List (Addr×Obj)} {σ:St} {H:Hp} {s:Shared} (I:Inv X (pins++pl) σ H s):Inv X pins σ H s:=I.pins_of fun p hp=>I.pin p (List.mem_append_right _ (List.mem_append_left _ hp))
theorem ps_for {iter:Expr} {body:List Stmt} {wi:TI} {g:TG} {tb:TS} {pos:Pos} (hp:PassesOwn (model X.prog X.w) X.A X.env X.xe) (hc:X.calm=true) (hi:PI X tg iter wi) (hg:PG X tg g) (hb:PSs X body tb)
  (hs:∀x,foldedSetIterable iter X.env x=pure x:=by intro _;rfl):PS X (.For tg iter body [] pos) (tFor wi g tb):=by
 intro pins s σ H D I h
 refine wpAny_For (thn (hi s σ H _ I h) fun v s1 h1=>thn h1 fun itv s2 h2 => ?_) hs
 obtain ⟨it,fp,tn,J,H2,e,I2,T,st2,f2,W,⟨m0,w0⟩,turn⟩:=h2
 subst e
 have stat:∀{H':Hp},(∀b∈fp,H' b=none)→∀b∈fp,FpOk X pins H' b:=fun hn b hb=>⟨hn b hb,(f2 b hb).2⟩
 refine codeAny_forLoop_any (fun n s'=>∃i σ' H',Inv X pins σ' H' s'∧tn i s'.heap∧(∀b∈fp,H' b=none)∧W i n σ' H') ?_ m0 ⟨0, σ,H2,I2,st2,fun b hb=>(f2 b hb).1,w0⟩
 rintro n s3 ⟨i, σ3,H3,I3,st3,fr3,w3⟩
 rcases turn i n σ3 H3 w3 with ⟨stop,qn⟩|⟨go,N,hN,step⟩
 ·refine wpAny_passesOwn hp (thn (T.done X rfl rfl rfl hc i pins s3 σ3 H3 X.xe I3 (stat fr3) st3 stop) fun r s4 hz_ => ?_)
  refine Elim.el hz_ _ ?_
  clear hz_
  rintro hr I4
  subst hr
  exact wpAny_execs_nil ⟨σ3,H3,I4,qn⟩
 ·refine wpAny_passesOwn hp (thn (T.item X rfl rfl rfl hc i pins s3 σ3 H3 X.xe I3 (stat fr3) st3 go) fun r s4 hz_ => ?_)
  refine Elim.el hz_ _ ?_
  clear hz_
  rintro u hr h4
  subst hr
  refine wpAny_passesOwn hp (thn h4 fun _ s5 hz_=>Elim.el hz_ _ fun x H5 I5 r5 y5 st5 fr5 => ?_)
  have I5':=I5.pinned (stat fr5) (T.obj _ _ st5)
  refine wpAny_passesOwn hp (thn (hg s5 σ3 H5 x u _ I5' r5 (step x H5 y5)) fun _ s6 hz_ => ?_)
  refine Elim.el hz_ _ ?_
  clear hz_
  rintro σ6 H6 I6 q6
  refine wpAny_passesOwn hp (thn (hb s6 σ6 H6 _ I6 q6) fun f s7 q7 => ?_)
  have again:∀{σ7:St} {H7:Hp},Inv X (pins++pinsAt fp s5.heap) σ7 H7 s7→N σ7 H7→∃m,m<n∧∃i σ' H',Inv X pins σ' H' s7∧tn i s7.heap∧(∀b∈fp,H' b=none)∧W i m σ' H':=fun {σ7 H7} I7 n7=>by
   obtain ⟨m',hm,w7⟩:=hN σ7 H7 n7
   refine ⟨m',hm,i+1, σ7,H7,I7.unpinned,T.keep _ _ _ st5 fun b hb o e=>(I7.pin (b,o) (List.mem_append_right _ (List.mem_append_right _ (mem_pinsAt hb e)))).1,fun b hb => ?_,w7⟩
   obtain ⟨o,e,d⟩:=T.obj _ _ st5 b hb
   exact (I7.pin (b,o) (List.mem_append_right _ (List.mem_append_right _ (mem_pinsAt hb e)))).2.1
  cases f with
  | next=>obtain ⟨σ7,H7,I7,n7⟩:=q7;exact again I7 n7
  | cont=>obtain ⟨σ7,H7,I7,n7⟩:=q7;exact again I7 n7
  | brk=>obtain ⟨σ7,H7,I7,q7⟩:=q7;exact ⟨σ7,H7,I7.unpinned,q7⟩
  | ret v=>obtain ⟨x7, σ7,H7,I7,r7,q7⟩:=q7;exact ⟨x7, σ7,H7,I7.unpinned,r7,q7⟩
end
end L2
namespace L2
open PySem PySem.Spec PyProof.Rows
noncomputable abbrev R2:=V→V→Hp→VK→Prop
noncomputable def OpR (X:Cx) (f:Value→Value→Sem Value) (r:R2):Prop:=
 ∀ ⦃pins:List (Addr×Obj)⦄ (s:Shared) (σ:St) (H:Hp) (x y:V) (v u:Value) (Q:VK),Inv X pins σ H s→RelV x v→RelV y u→r x y H Q →
  wpAny (model X.prog X.w) X.A (f v u) (EP X pins σ Q) X.xe s
noncomputable def UnR (X:Cx) (f:Value→Sem Value) (r:V→Hp→VK→Prop):Prop:=
 ∀ ⦃pins:List (Addr×Obj)⦄ (s:Shared) (σ:St) (H:Hp) (x:V) (v:Value) (Q:VK),Inv X pins σ H s→RelV x v→r x H Q →
  wpAny (model X.prog X.w) X.A (f v) (EP X pins σ Q) X.xe s
noncomputable def CallR (X:Cx) (f:Value) (r:List V→Hp→VK→Prop):Prop:=
 ∀ ⦃pins:List (Addr×Obj)⦄ (s:Shared) (σ:St) (H:Hp) (xs:List V) (us:List Value) (Q:VK),Inv X pins σ H s→Vals xs us→r xs H Q →
  wpAny (model X.prog X.w) X.A (call f us) (EP X pins σ Q) X.xe s
noncomputable def tOp (r:R2) (ta tb:TE):TE:=fun σ H Q=>ta σ H fun x H1=>tb σ H1 fun y H2=>r x y H2 Q
noncomputable def tUn (r:V→Hp→VK→Prop) (ta:TE):TE:=fun σ H Q=>ta σ H fun x H1=>r x H1 Q
noncomputable def rI (C:Int→Int→Prop) (g:Int→Int→V):R2:=fun x y H Q=>Ex2 fun i j=>x = .int i∧y = .int j∧C i j∧Q (g i j) H
noncomputable def rI0 (g:Int→Int→V):R2:=fun x y H Q=>Ex2 fun i j=>x = .int i∧y = .int j∧Q (g i j) H
noncomputable def rU (g:Int→V):V→Hp→VK→Prop:=fun x H Q=>∃i,x = .int i∧Q (g i) H
section
variable {X:Cx} {a b c:Expr} {ta tb tc:TE} {pos:Pos}
theorem binT (ha:PE X a ta) (hb:PE X b tb) {pins:List (Addr×Obj)} {s:Shared} {σ:St} {H:Hp} {R:V→V→Hp→Prop} (I:Inv X pins σ H s)
  (h:ta σ H fun x H1=>tb σ H1 fun y H2=>R x y H2) {Q:Value→Shared→Prop} {f:Value→Value→Sem Value}
  (hf:∀v u s2 x y H2,Inv X pins σ H2 s2→RelV x v→RelV y u→R x y H2→wpAny (model X.prog X.w) X.A (f v u) Q X.xe s2) :
  wpAny (model X.prog X.w) X.A (eval a X.env) (fun v s₁=>wpAny (model X.prog X.w) X.A (eval b X.env) (fun u s₂=>wpAny (model X.prog X.w) X.A (f v u) Q X.xe s₂) X.xe s₁) X.xe s:=by
 refine thn (ha s σ H _ I h) fun v s1 hz_ => ?_
 refine Elim.el hz_ _ ?_
 clear hz_
 rintro x H1 I1 r1 q1
 refine thn (hb s1 σ H1 _ I1 q1) fun u s2 hz_ => ?_
 refine Elim.el hz_ _ ?_
 clear hz_
 rintro y H2 I2 r2 q2
 exact hf v u s2 x y H2 I2 r1 r2 q2
theorem pe_op {op:Operator} {r:R2} (ho:OpR X (binaryOp op) r) (ha:PE X a ta) (hb:PE X b tb):PE X (.BinOp a op b pos) (tOp r ta tb):=by
 intro pins s σ H Q I h
 exact wpAny_BinOp (binT ha hb I h fun v u s2 x y H2 I2 rx ry q=>ho s2 σ H2 x y v u Q I2 rx ry q)
theorem pe_un {op:UnaryOp} {r:V→Hp→VK→Prop} (ho:UnR X (unaryOp op) r) (ha:PE X a ta):PE X (.UnaryOp op a pos) (tUn r ta):=by
 intro pins s σ H Q I h
 exact UnaryOp_ (thn (ha s σ H _ I h) fun v s1 hz_=>Elim.el hz_ _ fun x H1 I1 r1 q1=>ho s1 σ H1 x v Q I1 r1 q1)
theorem opI {f:Value→Value→Sem Value} {C:Int→Int→Prop} {g:Int→Int→Int}
  (rule:∀(i j:Int) (t u:Tok) (s:Shared) (Q:Value→Shared→Prop) (E:Value→Shared→Prop),C i j→Q (.int (g i j) s.toks) { s with toks:=s.toks+1 } → wpAny (model X.prog X.w) X.A (f (.int i t) (.int j u)) Q E s) :
  OpR X f (rI C fun i j => .int (g i j)):=by
 intro pins s σ H x y v u Q I rx ry h
 obtain ⟨i,j,rfl,rfl,hc,q⟩:=h
 obtain ⟨t,rfl⟩:=rx
 obtain ⟨t',rfl⟩:=ry
 exact rule i j t t' s _ _ hc ⟨.int (g i j),H,I.tok _,⟨_,rfl⟩,q⟩
theorem opI0 {f:Value→Value→Sem Value} {g:Int→Int→Int}
  (rule:∀(i j:Int) (t u:Tok) (s:Shared) (Q:Value→Shared→Prop) (E:Value→Shared→Prop),Q (.int (g i j) s.toks) { s with toks:=s.toks+1 } → wpAny (model X.prog X.w) X.A (f (.int i t) (.int j u)) Q E s) :
  OpR X f (rI0 fun i j => .int (g i j)):=by
 intro pins s σ H x y v u Q I rx ry h
 obtain ⟨i,j,rfl,rfl,q⟩:=h
 obtain ⟨t,rfl⟩:=rx
 obtain ⟨t',rfl⟩:=ry
 exact rule i j t t' s _ _ ⟨.int (g i j),H,I.tok _,⟨_,rfl⟩,q⟩
theorem opB0 {f:Value→Value→Sem Value} {g:Int→Int→Bool}
  (rule:∀(i j:Int) (t u:Tok) (s:Shared) (Q:Value→Shared→Prop) (E:Value→Shared→Prop),Q (.bool (g i j)) s→wpAny (model X.prog X.w) X.A (f (.int i t) (.int j u)) Q E s) :
  OpR X f (rI0 fun i j => .bl (g i j)):=by
 intro pins s σ H x y v u Q I rx ry h
 obtain ⟨i,j,rfl,rfl,q⟩:=h
 obtain ⟨t,rfl⟩:=rx
 obtain ⟨t',rfl⟩:=ry
 exact rule i j t t' s _ _ ⟨.bl (g i j),H,I,rfl,q⟩
noncomputable def CDiv (i j:Int):Prop:=0<j∧j<1073741824
noncomputable def CPow (i j:Int):Prop:=0≤j∧j≤1000000∧i.natAbs<2 ^ 64
noncomputable def CMul (i j:Int):Prop:=(-(2 ^ 64)<i∧i<2 ^ 64)∨(-(2 ^ 64)<j∧j<2 ^ 64)
theorem CMul.ok {i j:Int} (h:CMul i j):IntMulOk i j:=by
 rcases h with ⟨h1,h2⟩|⟨h1,h2⟩
 ·exact .of_left (intBits_le_64 h1 h2)
 ·exact .of_right (intBits_le_64 h1 h2)
theorem op_add:OpR X (binaryOp .Add) (rI0 fun i j => .int (i+j)):=opI0 fun _ _ _ _ _ _ _ q=>add_int q
theorem op_sub:OpR X (binaryOp .Sub) (rI0 fun i j => .int (i-j)):=opI0 fun _ _ _ _ _ _ _ q=>sub_int q
theorem op_mul:OpR X (binaryOp .Mult) (rI CMul fun i j => .int (i*j)):=opI fun _ _ _ _ _ _ _ hc q=>mul_int q hc.ok
theorem op_fdiv:OpR X (binaryOp .FloorDiv) (rI CDiv fun i j => .int (i / j)):=opI fun i j _ _ _ _ _ hc q=>by
 have h1:(0:Int)<j:=hc.1
 have h2:j<1073741824:=hc.2
 exact floordiv_int (by omega) (by rw [Int.fdiv_eq_ediv_of_nonneg i (by omega)];exact q) (.inl (PyProof.noPylong_small (by omega)))
theorem op_mod:OpR X (binaryOp .Mod) (rI (fun _ j=>0<j) fun i j => .int (i % j)):=opI fun i j _ _ _ _ _ hc q=>by
 have h1:(0:Int)<j:=hc
 exact mod_int' (by omega) (by rw [Int.fmod_eq_emod_of_nonneg i (by omega)];exact q)
theorem op_pow:OpR X (binaryOp .Pow) (rI CPow fun i j => .int (i ^ j.toNat)):=opI fun _ _ _ _ _ _ _ hc q=>pow_int_small hc.1 hc.2.1 hc.2.2 q
theorem unI {f:Value→Sem Value} {g:Int→Int}
  (rule:∀(i:Int) (t:Tok) (s:Shared) (Q:Value→Shared→Prop) (E:Value→Shared→Prop),Q (.int (g i) s.toks) { s with toks:=s.toks+1 } → wpAny (model X.prog X.w) X.A (f (.int i t)) Q E s) :
  UnR X f (rU fun i => .int (g i)):=by
 intro pins s σ H x v Q I rx h
 obtain ⟨i,rfl,q⟩:=h
 obtain ⟨t,rfl⟩:=rx
 exact rule i t s _ _ ⟨.int (g i),H,I.tok _,⟨_,rfl⟩,q⟩
theorem un_neg:UnR X (unaryOp .USub) (rU fun i => .int (-i)):=unI fun _ _ _ _ _ q=>neg_int q
end
noncomputable def scal:V→V→Bool
 | .non, .non=>true | .non, .int _=>true | .int _, .non=>true | .non, .bl _=>true | .bl _, .non=>true | .non, .str _=>true | .str _, .non=>true
 | .int _, .int _=>true | .bl _, .bl _=>true | .str _, .str _=>true | .byt _, .byt _=>true
 | .int _, .str _=>true | .str _, .int _=>true | .bl _, .str _=>true | .str _, .bl _=>true
 | _,_=>false
noncomputable def rEq:R2:=fun x y H Q=>scal x y=true∧Q (.bl (decide (x=y))) H
noncomputable def rNe:R2:=fun x y H Q=>scal x y=true∧Q (.bl (!decide (x=y))) H
theorem dec_int {i j:Int} : decide (V.int i=V.int j)=(i == j):=by
 rw [Bool.eq_iff_iff]
 simp
theorem dec_bl {i j:Bool} : decide (V.bl i=V.bl j)=(i == j):=by
 rw [Bool.eq_iff_iff]
 simp
theorem dec_str {i j:Str} : decide (V.str i=V.str j)=(i == j):=by
 rw [Bool.eq_iff_iff]
 simp
theorem dec_byt {i j:Array UInt8} : decide (V.byt i=V.byt j)=(i.toList == j.toList):=by
 rw [Bool.eq_iff_iff]
 cases i
 cases j
 simp
section
variable {X:Cx} {a b c:Expr} {ta tb tc:TE} {pos:Pos}
theorem fin_bl {pins:List (Addr×Obj)} {σ:St} {H:Hp} {s:Shared} {Q:VK} {k k':Bool} (I:Inv X pins σ H s) (q:Q (.bl k) H) (e:k=k'):EP X pins σ Q (.bool k') s:=by
 subst e
 exact ⟨.bl k,H,I,rfl,q⟩
theorem op_eq:OpR X (compareOp .Eq) rEq:=by
 intro pins s σ H x y v u Q I rx ry h
 obtain ⟨hs,q⟩:=h
 cases x with
 | non=>
  cases rx
  cases y with
  | non=>cases ry;exact PySem.EqNone.eq_none_none (fin_bl I q (by simp))
  | bl j=>cases ry;exact PySem.EqNone.eq_none_bool (fin_bl I q (by simp))
  | int j=>obtain ⟨t',rfl⟩:=ry;exact PySem.EqNone.eq_none_int (fin_bl I q (by simp))
  | str j=>obtain ⟨t',rfl⟩:=ry;exact PySem.EqNone.eq_none_str (fin_bl I q (by simp))
  | _=>exact absurd (show false=true from hs) Bool.false_ne_true
 | bl i=>
  cases rx
  cases y with
  | non=>cases ry;exact PySem.EqNone.eq_bool_none (fin_bl I q (by simp))
  | bl j=>cases ry;exact eq_bool (fin_bl I q dec_bl)
  | str j=>obtain ⟨t',rfl⟩:=ry;exact PySem.EqMixed.eq_bool_str (fin_bl I q (by simp))
  | _=>exact absurd (show false=true from hs) Bool.false_ne_true
 | int i=>
  obtain ⟨t,rfl⟩:=rx
  cases y with
  | non=>cases ry;exact PySem.EqNone.eq_int_none (fin_bl I q (by simp))
  | int j=>obtain ⟨t',rfl⟩:=ry;exact eq_int (fin_bl I q dec_int)
  | str j=>obtain ⟨t',rfl⟩:=ry;exact PySem.EqMixed.eq_int_str (fin_bl I q (by simp))
  | _=>exact absurd (show false=true from hs) Bool.false_ne_true
 | str i=>
  obtain ⟨t,rfl⟩:=rx
  cases y with
  | non=>cases ry;exact PySem.EqNone.eq_str_none (fin_bl I q (by simp))
  | bl j=>cases ry;exact PySem.EqMixed.eq_str_bool (fin_bl I q (by simp))
  | int j=>obtain ⟨t',rfl⟩:=ry;exact PySem.EqMixed.eq_str_int (fin_bl I q (by simp))
  | str j=>obtain ⟨t',rfl⟩:=ry;exact eq_str (fin_bl I q dec_str)
  | _=>exact absurd (show false=true from hs) Bool.false_ne_true
 | byt i=>
  obtain ⟨t,rfl⟩:=rx
  cases y with
  | byt j=>obtain ⟨t',rfl⟩:=ry;exact PySem.W.eq_bytes (fin_bl I q dec_byt)
  | _=>exact absurd (show false=true from hs) Bool.false_ne_true
 | _=>cases y <;> exact absurd (show false=true from hs) Bool.false_ne_true
theorem op_ne:OpR X (compareOp .NotEq) rNe:=by
 intro pins s σ H x y v u Q I rx ry h
 obtain ⟨hs,q⟩:=h
 cases x with
 | non=>
  cases rx
  cases y with
  | non=>cases ry;exact PySem.EqNone.ne_none_none (fin_bl I q (by simp))
  | bl j=>cases ry;exact PySem.EqNone.ne_none_bool (fin_bl I q (by simp))
  | int j=>obtain ⟨t',rfl⟩:=ry;exact PySem.EqNone.ne_none_int (fin_bl I q (by simp))
  | str j=>obtain ⟨t',rfl⟩:=ry;exact PySem.EqNone.ne_none_str (fin_bl I q (by simp))
  | _=>exact absurd (show false=true from hs) Bool.false_ne_true
 | bl i=>
  cases rx
  cases y with
  | non=>cases ry;exact PySem.EqNone.ne_bool_none (fin_bl I q (by simp))
  | bl j=>cases ry;exact ne_bool (fin_bl I q (congrArg not dec_bl))
  | str j=>obtain ⟨t',rfl⟩:=ry;exact PySem.EqMixed.ne_bool_str (fin_bl I q (by simp))
  | _=>exact absurd (show false=true from hs) Bool.false_ne_true
 | int i=>
  obtain ⟨t,rfl⟩:=rx
  cases y with
  | non=>cases ry;exact PySem.EqNone.ne_int_none (fin_bl I q (by simp))
  | int j=>obtain ⟨t',rfl⟩:=ry;exact ne_int (fin_bl I q (congrArg not dec_int))
  | str j=>obtain ⟨t',rfl⟩:=ry;exact PySem.EqMixed.ne_int_str (fin_bl I q (by simp))
  | _=>exact absurd (show false=true from hs) Bool.false_ne_true
 | str i=>
  obtain ⟨t,rfl⟩:=rx
  cases y with
  | non=>cases ry;exact PySem.EqNone.ne_str_none (fin_bl I q (by simp))
  | bl j=>cases ry;exact PySem.EqMixed.ne_str_bool (fin_bl I q (by simp))
  | int j=>obtain ⟨t',rfl⟩:=ry;exact PySem.EqMixed.ne_str_int (fin_bl I q (by simp))
  | str j=>obtain ⟨t',rfl⟩:=ry;exact ne_str (fin_bl I q (congrArg not dec_str))
  | _=>exact absurd (show false=true from hs) Bool.false_ne_true
 | byt i=>
  obtain ⟨t,rfl⟩:=rx
  cases y with
  | byt j=>obtain ⟨t',rfl⟩:=ry;exact PySem.W.ne_bytes (fin_bl I q (congrArg not dec_byt))
  | _=>exact absurd (show false=true from hs) Bool.false_ne_true
 | _=>cases y <;> exact absurd (show false=true from hs) Bool.false_ne_true
theorem op_lt:OpR X (compareOp .Lt) (rI0 fun i j => .bl (decide (i<j))):=opB0 fun _ _ _ _ _ _ _ q=>lt_int q
theorem op_le:OpR X (compareOp .LtE) (rI0 fun i j => .bl (decide (i≤j))):=opB0 fun _ _ _ _ _ _ _ q=>le_int q
theorem op_gt:OpR X (compareOp .Gt) (rI0 fun i j => .bl (decide (j<i))):=opB0 fun _ _ _ _ _ _ _ q=>gt_int q
theorem op_ge:OpR X (compareOp .GtE) (rI0 fun i j => .bl (decide (j≤i))):=opB0 fun _ _ _ _ _ _ _ q=>ge_int q
theorem op_isN:OpR X (compareOp .Is) (fun x y H Q=>y = .non∧Q (.bl (decide (x = .non))) H):=by
 intro pins s σ H x y v u Q I rx ry h
 obtain ⟨rfl,q⟩:=h
 cases ry
 refine is_none_gen (fin_bl I q ?_)
 cases x <;> first
  | (cases rx;rfl)
  | (obtain ⟨t,rfl⟩:=rx;rfl)
theorem op_notN:OpR X (compareOp .IsNot) (fun x y H Q=>y = .non∧Q (.bl (!decide (x = .non))) H):=by
 intro pins s σ H x y v u Q I rx ry h
 obtain ⟨rfl,q⟩:=h
 cases ry
 refine isnot_none_gen (fin_bl I q ?_)
 cases x <;> first
  | (cases rx;rfl)
  | (obtain ⟨t,rfl⟩:=rx;rfl)
theorem OpR.or {f:Value→Value→Sem Value} {r r':R2} (h:OpR X f r) (h':OpR X f r'):OpR X f (fun x y H Q=>r x y H Q∨r' x y H Q):=by
 intro pins s σ H x y v u Q I rx ry q
 rcases q with q|q
 ·exact h s σ H x y v u Q I rx ry q
 ·exact h' s σ H x y v u Q I rx ry q
theorem nomark (b:Expr) {op:CmpOp} (h:op ≠ .In:=by decide) (h2:op ≠ .NotIn:=by decide):behindInMarks op b=false:=by
 have e1:(op == CmpOp.In)=false:=by cases op <;> first|rfl|exact absurd rfl h
 have e2:(op == CmpOp.NotIn)=false:=by cases op <;> first|rfl|exact absurd rfl h2
 cases b <;> simp [behindInMarks,e1,e2]
theorem pe_cmpR {op:CmpOp} {r:R2} (ho:OpR X (compareOp op) r) (ha:PE X a ta) (hb:PE X b tb) (hm:behindInMarks op b=false):PE X (.Compare a [op] [b] pos) (tOp r ta tb):=by
 intro pins s σ H Q I h
 exact wpAny_Compare1 (binT ha hb I h fun v u s2 x y H2 I2 rx ry q=>ho s2 σ H2 x y v u Q I2 rx ry q) hm
noncomputable def tTest (t:TE):TT:=fun σ H Q=>t σ H fun x H'=>∃k,x = .bl k∧Q k H'
theorem pt_cmpR {op:CmpOp} {r:R2} (ho:OpR X (compareOp op) r) (ha:PE X a ta) (hb:PE X b tb) (hm:behindInMarks op b=false):PT X (.Compare a [op] [b] pos) (tTest (tOp r ta tb)):=by
 intro pins s σ H Q I h
 refine wpAny_isTrue_Compare1 (thn (ha s σ H _ I h) fun v s1 hz_=>Elim.el hz_ _ fun x H1 I1 r1 q1=>thn (hb s1 σ H1 _ I1 q1) fun u s2 ⟨y,H2,I2,r2,q2⟩=>
  thn (ho s2 σ H2 x y v u _ I2 r1 r2 q2) fun c s3 ⟨z,H3,I3,r3,k,e,q3⟩ => ?_) hm
 subst e
 cases r3
 exact wpAny_truthy_bool ⟨H3,I3,q3⟩
noncomputable def tChain (r r':R2) (ta tb tc:TE):TE:=fun σ H Q=>ta σ H fun x H1=>tb σ H1 fun y H2=>r x y H2 fun z H3=>∃k,z = .bl k ∧
 (if k=true then tc σ H3 fun w' H4=>r' y w' H4 Q else Q (.bl false) H3)
theorem pe_chain {op op':CmpOp} {r r':R2} (ho:OpR X (compareOp op) r) (ho':OpR X (compareOp op') r') (ha:PE X a ta) (hb:PE X b tb) (hc:PE X c tc)
  (hm:lastMarks [op,op'] [b,c]=false:=by with_unfolding_all rfl):PE X (.Compare a [op,op'] [b,c] pos) (tChain r r' ta tb tc):=by
 intro pins s σ H Q I h
 refine Compare_chain (thn (ha s σ H _ I h) fun v s1 hz_=>Elim.el hz_ _ fun x H1 I1 r1 q1=>chain_link (thn (hb s1 σ H1 _ I1 q1) fun u s2 ⟨y,H2,I2,r2,q2⟩=>
  thn (ho s2 σ H2 x y v u _ I2 r1 r2 q2) fun d s3 ⟨z,H3,I3,r3,k,e,q3⟩ => ?_)) hm
 subst e
 cases r3
 refine wpAny_truthy_bool ?_
 cases k with
 | false=>exact ite_ff ⟨.bl false,H3,I3,rfl,q3⟩
 | true=>exact ite_tt (chain_last (thn (hc s3 σ H3 _ I3 q3) fun w' s4 hz_=>Elim.el hz_ _ fun z' H4 I4 r4 q4=>ho' s4 σ H4 y z' u w' Q I4 r2 r4 q4))
theorem line63:(sizeLine:Nat)<2 ^ 63:=by rw [sizeLine_eq];decide
theorem op_add_str:OpR X (binaryOp .Add) (fun x y H Q=>∃i j,x = .str i∧y = .str j∧i.length+j.length≤sizeLine∧Q (.str (i++j)) H):=by
 intro pins s σ H x y v u Q I rx ry h
 obtain ⟨i,j,rfl,rfl,hz,q⟩:=h
 obtain ⟨t,rfl⟩:=rx
 obtain ⟨t',rfl⟩:=ry
 exact add_str (fun t' tk=>⟨.str (i++j),H,I.tok _,⟨_,rfl⟩,q⟩) hz
theorem vals1 {x:V} {us:List Value} (r:Vals [x] us):∃u,us=[u]∧RelV x u:=by
 cases r with
 | cons r1 r2=>cases r2;exact ⟨_,rfl,r1⟩
theorem vals2 {x y:V} {us:List Value} (r:Vals [x,y] us):∃u w',us=[u,w']∧RelV x u∧RelV y w':=by
 cases r with
 | cons r1 r2=>
  cases r2 with
  | cons r3 r4=>cases r4;exact ⟨_,_,rfl,r1,r3⟩
theorem call_max2 (hc:X.calm=true):CallR X (.builtin "max") (fun xs H Q=>∃i j,xs=[.int i, .int j]∧Q (.int (if j>i then j else i)) H):=by
 intro pins s σ H xs us Q I r h
 obtain ⟨i,j,rfl,q⟩:=h
 obtain ⟨u,w',rfl,⟨t,rfl⟩,⟨t',rfl⟩⟩:=vals2 r
 refine max_two_ints (I.ok.hd hc) fun h' tk k=>⟨_,H,I.kept k,?_,q⟩
 by_cases hj:j>i
 ·rw [if_pos hj,if_pos hj];exact ⟨_,rfl⟩
 ·rw [if_neg hj,if_neg hj];exact ⟨_,rfl⟩
theorem call_min2 (hc:X.calm=true):CallR X (.builtin "min") (fun xs H Q=>∃i j,xs=[.int i, .int j]∧Q (.int (if j<i then j else i)) H):=by
 intro pins s σ H xs us Q I r h
 obtain ⟨i,j,rfl,q⟩:=h
 obtain ⟨u,w',rfl,⟨t,rfl⟩,⟨t',rfl⟩⟩:=vals2 r
 refine min_two_ints (I.ok.hd hc) fun h' tk k=>⟨_,H,I.kept k,?_,q⟩
 by_cases hj:j<i
 ·rw [if_pos hj,if_pos hj];exact ⟨_,rfl⟩
 ·rw [if_neg hj,if_neg hj];exact ⟨_,rfl⟩
noncomputable def LenV (K:PySem.W.Frag) (x:V) (H:Hp) (n:Nat):Prop:=
 match x with
 | .str y=>y.length≤sizeLine∧n=y.length
 | .byt y=>y.size≤sizeLine∧n=y.size
 | .ref p=>(∃xs,SqL K H p xs∧n=xs.length)∨∃xs,SqT K H p xs∧n=xs.length
 | _=>False
theorem call_len:CallR X (.builtin "len") (fun xs H Q=>∃x n,xs=[x]∧LenV X.K x H n∧Q (.int n) H):=by
 intro pins s σ H xs us Q I r h
 obtain ⟨x,n,rfl,e,q⟩:=h
 obtain ⟨u,rfl,rx⟩:=vals1 r
 have hl:=line63
 have hs:sizeLine=16777216:=sizeLine_eq
 cases x with
 | str y=>
  obtain ⟨t,rfl⟩:=rx
  obtain ⟨hy,e'⟩:y.length≤sizeLine∧n=y.length:=e
  subst e'
  exact len_str (by omega) ⟨.int _,H,I.tok _,⟨_,rfl⟩,q⟩
 | byt y=>
  obtain ⟨t,rfl⟩:=rx
  obtain ⟨hy,e'⟩:y.size≤sizeLine∧n=y.size:=e
  subst e'
  exact PySem.W.len_bytes (by omega) ⟨.int _,H,I.tok _,⟨_,rfl⟩,q⟩
 | ref p=>
  cases rx
  have e':(∃xs,SqL X.K H p xs∧n=xs.length)∨∃xs,SqT X.K H p xs∧n=xs.length:=e
  rcases e' with ⟨xs,hx,e'⟩|⟨xs,hx,e'⟩
  ·subst e'
   obtain ⟨its,r',pl,hz⟩:=I.list hx
   have hlen:=r'.length
   exact Calls.call_len_list pl.isList (by simp only [List.size_toArray];omega) ⟨.int xs.length,H,I.tok _,⟨_,by simp only [List.size_toArray];rw [hlen]⟩,q⟩
  ·subst e'
   obtain ⟨its,r',pl,hz⟩:=I.tuple hx
   have hlen:=r'.length
   exact len_tuple pl (by simp only [List.size_toArray];omega) ⟨.int xs.length,H,I.tok _,⟨_,by simp only [List.size_toArray];rw [hlen]⟩,q⟩
 | _=>exact (show False from e).elim
theorem call_divmod:CallR X (.builtin "divmod") (fun xs H Q=>∃i j,xs=[.int i, .int j]∧CDiv i j∧∀p,H p=none→Q (.ref p) (upd H p (.tup [.int (i / j), .int (i % j)]))):=by
 intro pins s σ H xs us Q I r h
 obtain ⟨i,j,rfl,⟨h1,h2⟩,q⟩:=h
 obtain ⟨u,w',rfl,⟨t,rfl⟩,⟨t',rfl⟩⟩:=vals2 r
 refine divmod_int (by omega) ?_ (.inl (PyProof.noPylong_small (by omega)))
 rw [Int.fdiv_eq_ediv_of_nonneg i (by omega),Int.fmod_eq_emod_of_nonneg i (by omega)]
 have hn:H s.heap.objs.size=none:=I.hok.fresh (Nat.le_refl _)
 refine ⟨.ref s.heap.objs.size,_,?_,rfl,q _ hn⟩
 refine I.laid (fun b o e=>Heap.get?_push_of_some _ e) (Nat.le_refl _) ⟨by simp only [List.length_cons,List.length_nil];rw [sizeLine_eq];decide,[.int (i / j) s.toks, .int (i % j) (s.toks+1)], .cons ⟨_,rfl⟩ (.cons ⟨_,rfl⟩ .nil),?_⟩
 exact ⟨_,Heap.get?_push_size s.heap rfl,rfl,0,rfl⟩
end
end L2
namespace L2
open PySem PySem.Spec PyProof.Rows
structure ObjM (h:Heap) (x dx C:Addr) (mA:Str→Option Value):Prop where
 obj:h.get? x=some (PySem.W.instObj C dx)
 ns:h.Ns1 dx mA
 ne:dx≠x
theorem lookIn_ns {h:Heap} {dx:Addr} {mA:Str→Option Value} (n:h.Ns1 dx mA):∃od,h.get? dx=some od∧∀name,PySem.W.lookIn name od=some (mA name):=by
 obtain ⟨o,es,ep,ho,hd,hk,_,hm⟩:=n
 refine ⟨o,ho,fun name => ?_⟩
 have e:=hm name
 unfold nsFind findBy at e
 rw [←Array.find?_toList] at e
 unfold PySem.W.lookIn
 rw [hd]
 dsimp only
 split
 ·rename_i y q
  rw [q] at e
  exact congrArg some e
 ·rename_i q
  rw [q] at e
  have a:es.toList.any (·.refKey)=false:=by
   rw [List.any_eq_false]
   intro y hy
   obtain ⟨z,t,hkey⟩:=hk y (Array.mem_toList_iff.mp hy)
   simp [DictEntry.refKey,hkey]
  have a':¬es.toList.any (·.refKey)=true:=by rw [a];exact Bool.false_ne_true
  rw [if_neg a']
  exact congrArg some e
theorem ObjM.look {h:Heap} {x dx C:Addr} {mA:Str→Option Value} (I:ObjM h x dx C mA):∃od,PySem.W.InstAt h x (PySem.W.instObj C dx) C (some od)∧∀name,PySem.W.lookIn name od=some (mA name):=
 let ⟨od,ho,hl⟩:=lookIn_ns I.ns
 ⟨od,⟨I.obj,rfl,rfl,ho⟩,hl⟩
section
variable {prog:Program} {w:World} {A:Around} {E:Value→Shared→Prop} {s:Shared} {K:PySem.W.Frag} {x dx C f:Addr} {mA:Str→Option Value} {name:Str} {v:Value}
end
theorem RelO.some_of {v:V} {o:Option Value} (r:RelO (some v) o):∃u,o=some u∧RelV v u:=by
 cases o with
 | none=>exact (show False from r).elim
 | some u=>exact ⟨u,rfl,r⟩
section
variable {P:Program} {w:World} {H H':Hp} {h h':Heap} {a C dx:Addr} {fs fs':List (Str×V)}
theorem ins_get (hok:HOk P w H h) (e:H a=some (.ins C dx fs)):∃mA,ObjM h a dx C mA∧(∀f,RelO (fs.lookup f) (mA f))∧PySem.Within mA (fs.map (·.1))∧fs.length≤1000∧H dx=some (.own a):=by
 obtain ⟨d,z,ne,ob,mA,n,r,q⟩:=(show ObjOk P w H h a (.ins C dx fs) from hok a _ e)
 exact ⟨mA,⟨ob,n,ne⟩,r,q,z,d⟩
end
structure Cls (K:PySem.W.Frag) (C:Addr):Prop where
 pg:PySem.W.plainGet K C Str.empty=true
 hd:PySem.W.hasDictIn K C=true
 po:PySem.W.plainOver K C=true
 sa:PySem.W.findIn K (.ref C) "__setattr__" = some (some (.builtin "object.__setattr__"))
theorem Cls.get {K:PySem.W.Frag} {C:Addr} (c:Cls K C) (f:Str):PySem.W.plainGet K C f=true:=c.pg
section
variable {X:Cx} {pins:List (Addr×Obj)} {σ:St} {H:Hp} {s:Shared} {a C dx:Addr} {fs:List (Str×V)} {f:Str} {v:V} {A:Around} {E:Value→Shared→Prop}
end
section
variable {X:Cx} {o e value:Expr} {f:Str} {pos pos' tpos:Pos} {ta tv:TE}
end
section
variable {X:Cx} {pins:List (Addr×Obj)} {σ:St} {H:Hp} {s:Shared} {A:Around} {E:Value→Shared→Prop} {Q:Value→Shared→Prop} {c:Value} {b:Bool}
inductive TyOf (K:PySem.W.Frag) (H:Hp):V→Value→Prop where
 | non:TyOf K H .non (.type "NoneType")
 | bl (x:Bool):TyOf K H (.bl x) (.type "bool")
 | int (i:Int):TyOf K H (.int i) (.type "int")
 | str (x:Str):TyOf K H (.str x) (.type "str")
 | flt (x:UInt64):TyOf K H (.flt x) (.type "float")
 | lst {a:Addr} {xs:List V} (e:H a=some (.lst xs)):TyOf K H (.ref a) (.type "list")
 | frz {a:Addr} {o:Obj} {xs:List V} (e:H a=some (.frz o (.lst xs))):TyOf K H (.ref a) (.type "list")
 | tup {a:Addr} {xs:List V} (e:H a=some (.tup xs)):TyOf K H (.ref a) (.type "tuple")
 | dK {a:Addr} {kvs:List (Key×V)} (e:H a=some (.dK kvs)):TyOf K H (.ref a) (.type "dict")
 | dT {a:Addr} {kvs:List (List Key×V)} (e:H a=some (.dT kvs)):TyOf K H (.ref a) (.type "dict")
 | ins {a C dx:Addr} {fs:List (Str×V)} (e:H a=some (.ins C dx fs)) (cl:Cls K C) (ha:PySem.W.findIn K (.ref C) "__class__" = some (some (.builtin "object.__class__")))
   (hn:PySem.W.specialIn K (.builtin "object.__class__") "__get__" = some (some (.builtin "getset_descriptor.__get__"))) (htk:PySem.W.takesIn K (.builtin "object.__class__")=some true)
   (hm:PySem.W.mroIn K C (.type "object")=some true):TyOf K H (.ref a) (.ref C)
theorem isinst_ok {x:V} {u t:Value} (I:Inv X pins σ H s) (rx:RelV x u) (ty:TyOf X.K H x t) (e:PySem.W.kitOne X.K t c=some b) (h:∀tk,Q (.bool b) { s with toks:=tk }) :
  wpAny (model X.prog X.w) A (call (.builtin "isinstance") [u,c]) Q E s:=by
 cases ty with
 | non=>cases (show u=Value.none from rx);exact PySem.W.kia_one PySem.W.kitx_none I.kIn True.intro e (fun z=>nomatch z) h
 | bl y=>cases (show u=Value.bool y from rx);exact PySem.W.kia_one PySem.W.kitx_bool I.kIn True.intro e (fun z=>nomatch z) h
 | int i=>obtain ⟨t,q⟩:=(show ∃t,u=Value.int i t from rx);cases q;exact PySem.W.kia_one PySem.W.kitx_int I.kIn True.intro e (fun z=>nomatch z) h
 | str y=>obtain ⟨t,q⟩:=(show ∃t,u=Value.str y t from rx);cases q;exact PySem.W.kia_one PySem.W.kitx_str I.kIn True.intro e (fun z=>nomatch z) h
 | flt y=>obtain ⟨t,q⟩:=(show ∃t,u=Value.float y t from rx);cases q;exact PySem.W.kia_one PySem.W.kitx_float I.kIn True.intro e (fun z=>nomatch z) h
 | @lst a xs ea=>
  cases (show u=Value.ref a from rx)
  obtain ⟨_,_,n,_,h1⟩:=(show ObjOk X.prog X.w H s.heap a (.lst xs) from I.hok a _ ea)
  exact PySem.W.kia_one PySem.W.kitx_list I.kIn ⟨_,h1,rfl⟩ e (fun z=>nomatch z) h
 | @frz a ob xs ea=>
  cases (show u=Value.ref a from rx)
  obtain ⟨_,_,_,n,_,h1⟩:=(show ObjOk X.prog X.w H s.heap a (.frz ob (.lst xs)) from I.hok a _ ea)
  exact PySem.W.kia_one PySem.W.kitx_list I.kIn ⟨_,h1,rfl⟩ e (fun z=>nomatch z) h
 | @tup a xs ea=>
  cases (show u=Value.ref a from rx)
  obtain ⟨_,_,_,p⟩:=(show ObjOk X.prog X.w H s.heap a (.tup xs) from I.hok a _ ea)
  obtain ⟨o,h1,h2,_⟩:=p
  exact PySem.W.kia_one PySem.W.kitx_tuple I.kIn ⟨o,h1,h2⟩ e (fun z=>nomatch z) h
 | @dK a kvs ea=>
  cases (show u=Value.ref a from rx)
  obtain ⟨_,_,vs,_,p⟩:=(show ObjOk X.prog X.w H s.heap a (.dK kvs) from I.hok a _ ea)
  obtain ⟨o,es,ep,h1,h2,_⟩:=p
  exact PySem.W.kia_one PySem.W.kitx_dict I.kIn ⟨o,h1,h2.1⟩ e (fun z=>nomatch z) h
 | @dT a kvs ea=>
  cases (show u=Value.ref a from rx)
  obtain ⟨_,_,xs,_,o,es,ep,h1,h2,_⟩:=(show ObjOk X.prog X.w H s.heap a (.dT kvs) from I.hok a _ ea)
  exact PySem.W.kia_one PySem.W.kitx_dict I.kIn ⟨o,h1,h2.1⟩ e (fun z=>nomatch z) h
 | @ins a C dx fs ea cl ha hn htk hm=>
  cases (show u=Value.ref a from rx)
  obtain ⟨mA,O,_⟩:=ins_get I.hok ea
  obtain ⟨od,J,_⟩:=O.look
  exact PySem.W.kia_one (PySem.W.kitx_own (cl.get _) cl.hd ha hn htk hm) I.kIn J e (fun z=>nomatch z) h
end
end L2
namespace L2
open PySem PySem.Spec PyProof.Rows
structure Room (k:Nat) (A:Around):Prop where
 hd:A.handled=none
 dp:A.depth+3*k+5<recursionLimit
 un:A.units+16*k+200<cLine
 gd:A.guards=some []
theorem Room.mono {j k:Nat} {A:Around} (r:Room k A) (h:j≤k):Room j A:=⟨r.hd,by have:=r.dp;omega,by have:=r.un;omega,r.gd⟩
theorem Room.deeper {k:Nat} {A:Around} (r:Room (k+1) A) (env:Env):Room k (A.deeper env):=
 ⟨r.hd,by have:=r.dp;show A.depth+1+3*k+5<_;omega,by have:=r.un;show A.units+3+16*k+200<_;omega,r.gd⟩
theorem Room.depth {k:Nat} {A:Around} (r:Room k A):A.depth<recursionLimit:=by have:=r.dp;omega
theorem Room.units {k:Nat} {A:Around} (r:Room k A):A.units+64<cLine:=by have:=r.un;omega
noncomputable def tNil:TA:=fun _ H Q=>Q [] H
noncomputable def tCons (ta:TE) (tr:TA):TA:=fun σ H Q=>ta σ H fun x H1=>tr σ H1 fun xs H2=>Q (x :: xs) H2
section
variable {X:Cx} {e:Expr} {es:List Expr} {te:TE} {t:TA} {pos:Pos}
theorem pa_nil:PA X [] tNil:=fun _ _ _ _ H Q I h=>Calls.spliced_nil ⟨[],H,I, .nil,h⟩
theorem pa_cons (ha:PE X e te) (hr:PA X es t) (hs:starEach (e :: es) X.env=(false,eval e X.env) :: starEach es X.env:=by rfl):PA X (e :: es) (tCons te t):=by
 intro pos pins s σ H Q I h
 rw [hs]
 show wpAny _ _ (spliced ((false,eval e X.env) :: backTo pos (starEach es X.env))) _ _ s
 refine Calls.spliced_cons (thn (ha s σ H _ I h) fun u s1 hz_ => ?_)
 refine Elim.el hz_ _ ?_
 clear hz_
 rintro x H1 I1 r1 q1
 exact thn (hr s1 σ H1 _ I1 q1) fun us s2 hz_=>Elim.el hz_ _ fun xs H2 I2 r2 q2=>⟨x :: xs,H2,I2, .cons r1 r2,q2⟩
noncomputable def tTup (t:TA):TE:=fun σ H Q=>t σ H fun xs H1=>xs.length≤sizeLine∧∀p,H1 p=none→Q (.ref p) (upd H1 p (.tup xs))
noncomputable def tLst (t:TA):TE:=fun σ H Q=>t σ H fun xs H1=>xs.length≤sizeLine∧∀p,H1 p=none→Q (.ref p) (upd H1 p (.lst xs))
theorem pe_tup {x1} (h:PA X es t):PE X (.Tuple es x1 pos) (tTup t):=by
 intro pins s σ H Q I hq
 refine wpAny_Tuple_spliced (thn (h s σ H _ I hq) fun us s1 ⟨xs,H1,I1,r,z,q⟩=>⟨by rw [←r.length];exact z,?_⟩)
 have hf:H1 s1.heap.objs.size=none:=I1.hok.fresh (Nat.le_refl _)
 refine ⟨.ref s1.heap.objs.size,upd H1 s1.heap.objs.size (.tup xs),I1.laid (t':=s1.toks) (fun b u e=>Heap.get?_push_of_some _ e) (Nat.le_refl _) ?_,rfl,q _ hf⟩
 exact ⟨z,us,r,⟨_,Heap.get?_push_size _ rfl,rfl,_,rfl⟩⟩
theorem pe_lst (h:PA X es t):PE X (.List es pos) (tLst t):=by
 intro pins s σ H Q I hq
 refine wpAny_List_spliced (thn (h s σ H _ I hq) fun us s1 ⟨xs,H1,I1,r,z,q⟩=>⟨by rw [←r.length];exact z,?_⟩)
 have hf:H1 s1.heap.objs.size=none:=I1.hok.fresh (Nat.le_refl _)
 refine ⟨.ref s1.heap.objs.size,upd H1 s1.heap.objs.size (.lst xs),I1.laid (t':=s1.toks) (fun b u e=>Heap.get?_push_of_some _ e) (Nat.le_refl _) ?_,rfl,q _ hf⟩
 exact ⟨z,us,0,r,Heap.get?_push_size _ rfl⟩
end
noncomputable abbrev Sp:=List V→Hp→VK→XK→Prop
noncomputable abbrev CXT:=List Env→Hp→Shared→XK→Value→Shared→Prop
structure Env0 (P:Program) (w:World) (K:PySem.W.Frag) (mg:Str→Option Value) (base:Heap) (A:Around) (outer:List Env) (s:Shared) (H:Hp):Prop where
 frames:A.frames=some outer
 mod:Mod K mg base
 bs:∀b o,base.get? b=some o→s.heap.get? b=some o∧H b=none
 bsz:base.objs.size≤s.heap.objs.size
 funs:s.heap.FunFrames base outer
 frf:∀b∈frs outer,H b=none
 hok:HOk P w H s.heap
 bare:AllBare s.gens
noncomputable def CE (outer:List Env) (P:Program) (w:World) (H:Hp) (s:Shared) (Q:VK) (u:Value) (s':Shared):Prop:=
 Ex2 fun v H'=>s'.os=s.os∧AllBare s'.gens∧Un (frs outer) [] H H' s.heap s'.heap∧HOk P w H' s'.heap∧RelV v u∧Q v H'
noncomputable def CR (CX:CXT) (outer:List Env) (P:Program) (w:World) (H:Hp) (s:Shared) (Q:VK) (E:XK) (r:Result) (s':Shared):Prop:=
 match r with
 | .ok (.ret u)=>CE outer P w H s Q u s'
 | .ok _=>False
 | .error e=>CX outer H s E e s'
structure FnOk (P:Program) (w:World) (K:PySem.W.Frag) (mg:Str→Option Value) (base:Heap) (CX:CXT) (k:Nat) (f:Addr) (fd:FuncData) (ps:List Str) (sp:Sp):Prop where
 len:∀vs H Q E,sp vs H Q E→vs.length=ps.length
 run:∀(A:Around) (outer:List Env) (s:Shared) (H:Hp) (args:Args) (us:List Value) (vs:List V) (Q:VK) (E:XK),Room k A→Env0 P w K mg base A outer s H→BindsTo s fd args (ps.zip us)→Vals vs us→sp vs H Q E →
  codeAny (model P w) A (.call (.ref f) args) (CR CX outer P w H s Q E) s
theorem FnOk.mono {P:Program} {w:World} {K:PySem.W.Frag} {mg:Str→Option Value} {base:Heap} {CX:CXT} {j k:Nat} {f:Addr} {fd:FuncData} {ps:List Str} {sp:Sp} (F:FnOk P w K mg base CX j f fd ps sp) (h:j≤k) :
  FnOk P w K mg base CX k f fd ps sp:=⟨F.len,fun A outer s H args us vs Q E hr=>F.run A outer s H args us vs Q E (hr.mono h)⟩
theorem FnOk.imp {P:Program} {w:World} {K:PySem.W.Frag} {mg:Str→Option Value} {base:Heap} {CX:CXT} {k:Nat} {f:Addr} {fd:FuncData} {ps:List Str} {sp sp':Sp} (F:FnOk P w K mg base CX k f fd ps sp)
  (h:∀vs H Q E,sp' vs H Q E→sp vs H Q E):FnOk P w K mg base CX k f fd ps sp':=
 ⟨fun vs H Q E q=>F.len vs H Q E (h _ _ _ _ q),fun A outer s H args us vs Q E hr he hb hv hs=>F.run A outer s H args us vs Q E hr he hb hv (h _ _ _ _ hs)⟩
section
variable {X:Cx} {pins:List (Addr×Obj)} {σ:St} {H:Hp} {s s':Shared}
theorem Inv.env0 (I:Inv X pins σ H s):Env0 X.prog X.w X.K X.mg X.base X.A X.stack s H:=
 ⟨I.ok.frames,I.ok.mod,I.bs,Nat.le_trans I.ok.bsz I.sz,I.stack,I.stkFree,I.hok,I.bare⟩
theorem Inv.after {Q:VK} {u:Value} (I:Inv X pins σ H s) (h:CE X.stack X.prog X.w H s Q u s'):EP X pins σ Q u s':=by
 obtain ⟨v,H',os,bare,un,hok,r,q⟩:=h
 obtain ⟨hh,g,d,t,os'⟩:=s'
 obtain rfl:os'=s.os:=os
 exact ⟨v,H',I.call (h':=hh) (g':=g) (d':=d) (t':=t) (ch:=[]) un hok bare (fun b z=>absurd z (by simp)),r,q⟩
end
noncomputable def tCall (sp:Sp) (dvs:List V) (E:XK) (t:TA):TE:=fun σ H Q=>t σ H fun vs H1=>sp (vs++dvs) H1 Q E
noncomputable def Binds (K:PySem.W.Frag) (fd:FuncData) (ps:List Str) (ds:List Value):Prop:=
 ∀(s:Shared) (us:List Value),K.In s.heap→(us++ds).length=ps.length→BindsTo s fd ⟨us,[]⟩ (ps.zip (us++ds))
theorem Binds.all {K:PySem.W.Frag} {fd:FuncData} {ps:List Str} (h:∀us:List Value,us.length=ps.length→bindArgs fd ⟨us,[]⟩=pure (ps.zip us)):Binds K fd ps []:=fun s us _ hl=>by
 rw [List.append_nil] at hl ⊢
 exact .of_eq (h us hl)
noncomputable def Passes (CX:CXT) (X:Cx) (E:XK):Prop:=∀(pins:List (Addr×Obj)) (σ:St) (H:Hp) (s:Shared) (e:Value) (s':Shared),Inv X pins σ H s→CX X.stack H s E e s'→X.xe e s'
section
variable {X:Cx} {CX:CXT} {k:Nat} {f C:Addr} {fd:FuncData} {ps:List Str} {sp:Sp} {dvs:List V} {ds:List Value} {E:XK} {x m:Str} {p pos apos:Pos} {e o:Expr} {es:List Expr} {ta:TE} {t:TA}
theorem run_fn {pins:List (Addr×Obj)} {σ:St} {H:Hp} {s:Shared} {Q:VK} {us:List Value} {vs:List V} (F:FnOk X.prog X.w X.K X.mg X.base CX k f fd ps sp) (hr:Room k X.A) (hb:Binds X.K fd ps ds) (hd:Vals dvs ds) (hx:Passes CX X E)
  (I:Inv X pins σ H s) (r:Vals vs us) (h:sp (vs++dvs) H Q E):wpAny (model X.prog X.w) X.A (call (.ref f) us) (EP X pins σ Q) X.xe s:=by
 have r2:Vals (vs++dvs) (us++ds):=r.append hd
 have hl:(us++ds).length=ps.length:=by rw [←r2.length];exact F.len _ _ _ _ h
 refine wpAny_call (codeAny_mono (F.run X.A X.stack s H ⟨us,[]⟩ (us++ds) (vs++dvs) Q E hr I.env0 (hb s us I.kIn hl) r2 h) fun r s' hq => ?_)
 cases r with
 | error e=>exact hx pins σ H s e s' I hq
 | ok fl=>
  cases fl with
  | ret u=>exact I.after hq
  | next=>exact False.elim hq
  | brk=>exact False.elim hq
  | cont=>exact False.elim hq
theorem pe_call (F:FnOk X.prog X.w X.K X.mg X.base CX k f fd ps sp) (hr:Room k X.A) (hg:Gl X x) (hm:X.mg x=some (.ref f)) (hk:PySem.W.keepIn X.K (.ref f)=true) (hb:Binds X.K fd ps ds) (hd:Vals dvs ds) (hx:Passes CX X E)
  (ha:PA X (e :: es) t) (hdb:(x == ("__debug__" : Str))=false:=by decide) (he:starEach (e :: es) X.env=(false,eval e X.env) :: starEach es X.env:=by rfl) (hpl:(backTo pos (starEach es X.env)).any (·.1)=false:=by rfl) :
  PE X (.Call (.Name x p) (e :: es) [] pos) (tCall sp dvs E t):=by
 intro pins s σ H Q I h
 refine wpAny_Call_Name_kw (ld_glob I hg hm ?_ hdb)
 refine PySem.W.callWith_K (h₀:=X.base) I.ok.mod.kin hk (thn (ha s σ H _ I h) fun us s1 hz_=>Elim.el hz_ _ fun vs H1 I1 r q=>⟨I1.kIn,?_⟩) he hpl
 exact run_fn F hr hb hd hx I1 r q
end
section
variable {X:Cx} {CX:CXT} {k:Nat} {f C:Addr} {fd:FuncData} {ps ks:List Str} {sp:Sp} {E:XK} {x m:Str} {p pos apos kpos:Pos} {e o:Expr} {es:List Expr} {kws:List Keyword} {te ta:TE} {t tk:TA} {nm:Option Str}
variable {g:List Value→List Value→List Value} {gV:List V→List V→List V}
end
structure FnScope (N P:List Str) (sc:Scope):Prop where
 kind:sc.kind = .function
 co:sc.isCoroutine=false
 gen:sc.isGenerator=false
 nd:N.Nodup
 pre:N.take P.length=P
 par:∀x∈P,sc.names.lookup x=some .local∨sc.names.lookup x=some .cell
 nofree:∀y∈sc.names,y.2 ≠ .free
theorem bindL_out {kindOf:Str→Option NameKind} {x:Str} : ∀{binds:List (Str×Value)} {m:Str→Option Value},(∀v,(x,v) ∉ binds)→bindL kindOf binds m x=m x
 | [],_,_=>rfl
 | (n,v) :: r,m,h=>by
  unfold bindL
  rw [bindL_out fun w hw=>h w (List.mem_cons_of_mem _ hw)]
  split
  ·have:x≠n:=by rintro rfl;exact h v List.mem_cons_self
   simp [this]
  ·rfl
theorem bindC_out {kindOf:Str→Option NameKind} {x:Str} : ∀{binds:List (Str×Value)} {m:Str→Option Value},(∀v,(x,v) ∉ binds)→bindC kindOf binds m x=m x
 | [],_,_=>rfl
 | (n,v) :: r,m,h=>by
  unfold bindC
  rw [bindC_out fun w hw=>h w (List.mem_cons_of_mem _ hw)]
  split
  ·rfl
  ·have:x≠n:=by rintro rfl;exact h v List.mem_cons_self
   simp [this]
theorem bindL_get {kindOf:Str→Option NameKind} {x:Str} {v:Value} : ∀{P:List Str} {vs:List Value} {i:Nat} {m:Str→Option Value},P.Nodup→P[i]? = some x→vs[i]? = some v→kindOf x=some .local →
  bindL kindOf (P.zip vs) m x=some v
 | [],_,_,_,_,h,_,_=>by simp at h
 | _ :: _,[],_,_,_,_,h,_=>by simp at h
 | p :: P,w :: vs,0,m,nd,h1,h2,hk=>by
  simp at h1 h2;subst h1;subst h2
  show bindL kindOf ((p,w) :: P.zip vs) m p=_
  unfold bindL
  rw [bindL_out fun v hv=>(List.nodup_cons.mp nd).1 (List.of_mem_zip hv).1,if_pos hk]
  simp
 | p :: P,w :: vs,i+1,m,nd,h1,h2,hk=>by
  show bindL kindOf ((p,w) :: P.zip vs) m x=_
  unfold bindL
  exact bindL_get (i:=i) (List.nodup_cons.mp nd).2 (by simpa using h1) (by simpa using h2) hk
theorem bindC_get {kindOf:Str→Option NameKind} {x:Str} {v:Value} : ∀{P:List Str} {vs:List Value} {i:Nat} {m:Str→Option Value},P.Nodup→P[i]? = some x→vs[i]? = some v→kindOf x≠some .local →
  bindC kindOf (P.zip vs) m x=some v
 | [],_,_,_,_,h,_,_=>by simp at h
 | _ :: _,[],_,_,_,_,h,_=>by simp at h
 | p :: P,w :: vs,0,m,nd,h1,h2,hk=>by
  simp at h1 h2;subst h1;subst h2
  show bindC kindOf ((p,w) :: P.zip vs) m p=_
  unfold bindC
  rw [bindC_out fun v hv=>(List.nodup_cons.mp nd).1 (List.of_mem_zip hv).1,if_neg hk]
  simp
 | p :: P,w :: vs,i+1,m,nd,h1,h2,hk=>by
  show bindC kindOf ((p,w) :: P.zip vs) m x=_
  unfold bindC
  exact bindC_get (i:=i) (List.nodup_cons.mp nd).2 (by simpa using h1) (by simpa using h2) hk
noncomputable def start (N:List Str) (vs:List V):St:=vs.map some++List.replicate (N.length-vs.length) none
noncomputable def cxOf (CX:CXT) (P:Program) (w:World) (K:PySem.W.Frag) (mg:Str→Option Value) (base:Heap) (N:List Str) (qual:Str) (scope:Scope) (f:Addr) (cd:Value) (A:Around) (outer:List Env) (s:Shared) (H:Hp) (E:XK):Cx where
 prog:=P
 w:=w
 K:=K
 mg:=mg
 base:=base
 A:=A.deeper (envOfC qual scope s.heap.objs.size f cd)
 N:=N
 s₀:=s
 H₀:=H
 env:=envOfC qual scope s.heap.objs.size f cd
 outer:=outer
 stack:=envOfC qual scope s.heap.objs.size f cd :: outer
 ex:=[]
 calm:=true
 fn:=fun _=>true
 pn:=[]
 xe:=fun e s'=>wpAny (model P w) (A.deeper (envOfC qual scope s.heap.objs.size f cd)) (leaving (envOfC qual scope s.heap.objs.size f cd) e) (fun _ s''=>CX outer H s E e s'') (fun e' s''=>CX outer H s E e' s'') s'
theorem cell_has {sc:Scope} {n:Nat} {x:Str} (h:sc.names.lookup x=some .cell):∃c,(cellsFrom n sc.names []).lookup x=some c:=by
 have q:=PySem.W.cellsFrom_some sc.names n [] (.inl h)
 exact Option.isSome_iff_exists.mp q
theorem inv_start {CX:CXT} {P:Program} {w:World} {K:PySem.W.Frag} {mg:Str→Option Value} {base:Heap} {N ps:List Str} {qual:Str} {scope:Scope} {f:Addr} {cd:Value} {A:Around} {outer:List Env} {s s1:Shared} {H:Hp} {E:XK} {us:List Value} {vs:List V}
  (S:FnScope N ps scope) (hd:A.handled=none) (e0:Env0 P w K mg base A outer s H) (hl:vs.length=ps.length) (r:Vals vs us)
  (x:InCallC s s.heap.objs.size (bindL (envOfC qual scope s.heap.objs.size f cd).kindOf (ps.zip us) fun _=>none) (cellsFrom (s.heap.objs.size+1) scope.names []) (bindC (envOfC qual scope s.heap.objs.size f cd).kindOf (ps.zip us) fun _=>none) s1) :
  Inv (cxOf CX P w K mg base N qual scope f cd A outer s H E) [] (start N vs) H s1:=by
 have hpl:ps.length≤N.length:=by have:=congrArg List.length S.pre;rw [List.length_take] at this;omega
 obtain ⟨h1,tk,rfl,hk⟩:=x.done
 have noA:∀b:Addr,b ∉ (cxOf CX P w K mg base N qual scope f cd A outer s H E).ex:=fun b z=>absurd (show b∈([]:List Addr) from z) (by simp)
 refine ⟨⟨e0.mod,S.kind,rfl,rfl,Nat.le_refl _,fun y z c h1 h2 => ?_,fun y hy => ?_,fun y c _ h => ?_,fun _=>hd,Around.frames_deeper e0.frames, .inr ⟨rfl,rfl⟩,fun b z=>absurd z (noA b),e0.bs,e0.bsz,fun b _ _=>noA b,fun b z=>absurd z (noA b),e0.funs,e0.frf⟩,
  rfl,e0.bare,Un.kept hk,⟨_,x.toInCall.ns,fun i y v h1 h2 h3 => ?_⟩,fun y c h=>⟨_,x.cell y c h⟩,e0.hok.fresh (Nat.le_refl _),fun y c h => ?_,fun p hp=>absurd (show p∈([]:List (Addr×Obj)) from hp) (by simp),e0.hok.kept hk,?_⟩
 ·exact name_of_addr x.apart (PySem.mem_of_lookup h1) (PySem.mem_of_lookup h2)
 ·have hy:scope.names.lookup y=some .cell∨scope.names.lookup y=some .free:=hy
  rcases hy with hy|hy
  ·exact cell_has hy
  ·exact absurd rfl (S.nofree _ (PySem.mem_of_lookup hy))
 ·exact Nat.le_of_lt (x.above y c (PySem.mem_of_lookup h))
 ·have hi:i<vs.length:=by
   unfold start at h2
   by_cases hi:i<vs.length
   ·exact hi
   ·rw [List.getElem?_append_right (by simpa using hi)] at h2
    rw [List.getElem?_replicate] at h2
    split at h2 <;> cases h2
  have ha:vs[i]? = some v:=by
   unfold start at h2
   rw [List.getElem?_append_left (by simpa using hi),List.getElem?_map] at h2
   cases e:vs[i]? with
   | none=>rw [e] at h2;cases h2
   | some a=>rw [e] at h2;cases h2;rfl
  obtain ⟨u,hu,rv⟩:=r.get ha
  have hp:ps[i]? = some y:=by
   rw [←S.pre,List.getElem?_take_of_lt (by omega)];exact h1
  have ndP:ps.Nodup:=by rw [←S.pre];exact S.nd.sublist (List.take_sublist _ _)
  refine ⟨u,rv,?_⟩
  rcases S.par y (List.mem_of_getElem? hp) with k|k
  ·exact .inl ⟨k,bindL_get ndP hp hu k⟩
  ·obtain ⟨c,e⟩:=cell_has (n:=s.heap.objs.size+1) k
   refine .inr ⟨.inl k,c,e,?_⟩
   have q:=x.cell y c e
   rw [bindC_get ndP hp hu (by show scope.names.lookup y≠_;rw [k];decide)] at q
   exact q
 ·exact e0.hok.fresh (Nat.le_of_lt (x.above y c (PySem.mem_of_lookup h)))
 ·unfold start
  show _=N.length
  rw [List.length_append,List.length_map,List.length_replicate]
  omega
theorem fn_of {CX:CXT} {P:Program} {w:World} {K:PySem.W.Frag} {mg:Str→Option Value} {base:Heap} {k:Nat} {f:Addr} {name qual:Str} {params:Arguments} {body:List Stmt} {scope:Scope} {dV kV doc pm cdv ct oc:Value} {an od:Option Addr}
  {osl:Array (Option Value)} {N ps:List Str} {sp:Sp} (lk:K.lookup f=some ⟨oc,od, .func (PySem.W.fnOf name qual params body scope dV kV doc pm an cdv ct),osl⟩) (hcd:PySem.W.codeIn K cdv qual=true) (S:FnScope N ps scope)
  (len:∀vs H Q E,sp vs H Q E→vs.length=ps.length)
  (hbody:∀(A:Around) (outer:List Env) (s:Shared) (H:Hp) (vs:List V) (Q:VK) (E:XK),Room k (A.deeper (envOfC qual scope s.heap.objs.size f cdv))→sp vs H Q E →
   ∃t,PSs (cxOf CX P w K mg base N qual scope f cdv A outer s H E) body t∧t { nx:=fun _ H'=>Q .non H',rt:=Q } (start N vs) H) :
  FnOk P w K mg base CX (k+1) f (PySem.W.fnOf name qual params body scope dV kV doc pm an cdv ct) ps sp:=by
 refine ⟨len,fun A outer s H args us vs Q E hr e0 hb r hsp => ?_⟩
 have hl:=len _ _ _ _ hsp
 have KX:K.In s.heap:=e0.mod.kin.keeps fun b o e=>(e0.bs b o e).1
 have lim:s.heap.NoLimit:=e0.mod.nolimit.keeps fun b o e=>(e0.bs b o e).1
 have hkind:∀y∈ps.zip us,scope.names.lookup y.1=some .local∨(scope.names.lookup y.1=some .cell∧((cellsFrom (s.heap.objs.size+1) scope.names []).lookup y.1).isSome=true):=fun ⟨n,v⟩ hy=>by
  rcases S.par n (List.of_mem_zip hy).1 with q|q
  ·exact .inl q
  ·exact .inr ⟨q,PySem.W.cellsFrom_some _ _ _ (.inl q)⟩
 refine codeAny_call_function hr.depth (KX _ _ lk) rfl S.co S.gen rfl (PySem.W.codeRec_of KX hcd) (hb _ _ _ _ ?_)
 refine wpAny_newFunctionEnv_cells S.kind hkind fun env he s1 x => ?_
 subst he
 refine ⟨lim.keeps x.toInCall.keep,codeAny_func ?_⟩
 obtain ⟨t,ht,hq⟩:=hbody A outer s H vs Q E (hr.deeper _) hsp
 have I:Inv (cxOf CX P w K mg base N qual scope f cdv A outer s H E) [] (start N vs) H s1:=inv_start S hr.hd e0 hl r x
 refine wpAny_mono (ht s1 (start N vs) H _ I hq) (fun fl s' hs => ?_) fun e s' hs=>hs
 have fin:∀{σ':St} {H':Hp} {v:V} {u:Value},Inv (cxOf CX P w K mg base N qual scope f cdv A outer s H E) [] σ' H' s'→RelV v u→Q v H'→CE outer P w H s Q u s':=
  fun {σ' H' v u} J rv q=>⟨v,H',J.os,J.bare,J.base,J.hok,rv,q⟩
 cases fl with
 | ret u=>
  obtain ⟨v, σ',H',J,rv,q⟩:=hs
  exact fin J rv q
 | next=>
  obtain ⟨σ',H',J,q⟩:=hs
  exact fin (v:=V.non) (u:=Value.none) J rfl q
 | brk=>
  obtain ⟨_,_,_,q⟩:=hs
  exact False.elim q
 | cont=>
  obtain ⟨_,_,_,q⟩:=hs
  exact False.elim q
end L2
namespace L2
open PySem PySem.Spec PyProof.Rows
section
variable {X:Cx} {x:Str} {p pos:Pos} {e:Expr} {es:List Expr} {t:TA} {id T:String} {r:List V→Hp→VK→Prop}
noncomputable def tCB (r:List V→Hp→VK→Prop) (t:TA):TE:=fun σ H Q=>t σ H fun vs H1=>r vs H1 Q
theorem pe_callB (hc:CallR X (.builtin id) r) (hg:Gl X x) (hm:X.mg x=none) (hv:bootBuiltins x=some (.builtin id)) (ha:PA X (e :: es) t) (hn:x ≠ "__name__":=by decide) (hdb:(x == ("__debug__" : Str))=false:=by decide)
  (he:starEach (e :: es) X.env=(false,eval e X.env) :: starEach es X.env:=by rfl) (hpl:(backTo pos (starEach es X.env)).any (·.1)=false:=by rfl):PE X (.Call (.Name x p) (e :: es) [] pos) (tCB r t):=by
 intro pins s σ H Q I h
 refine wpAny_Call_Name_kw (ld_blt I hg hm hv ?_ hn hdb)
 exact PyProof.Rows.callWith_builtin1 (thn (ha s σ H _ I h) fun us s1 hz_=>Elim.el hz_ _ fun vs H1 I1 r1 q1=>hc s1 σ H1 vs us Q I1 r1 q1) he hpl
theorem pe_callTy (hc:CallR X (.type T) r) (hg:Gl X x) (hm:X.mg x=none) (hv:bootBuiltins x=some (.type T)) (ha:PA X (e :: es) t) (hn:x ≠ "__name__":=by decide) (hdb:(x == ("__debug__" : Str))=false:=by decide)
  (he:starEach (e :: es) X.env=(false,eval e X.env) :: starEach es X.env:=by rfl) (hpl:(backTo pos (starEach es X.env)).any (·.1)=false:=by rfl):PE X (.Call (.Name x p) (e :: es) [] pos) (tCB r t):=by
 intro pins s σ H Q I h
 refine wpAny_Call_Name_kw (ld_blt I hg hm hv ?_ hn hdb)
 exact PyProof.Rows.callWith_type1 (thn (ha s σ H _ I h) fun us s1 hz_=>Elim.el hz_ _ fun vs H1 I1 r1 q1=>hc s1 σ H1 vs us Q I1 r1 q1) he hpl
end
end L2
namespace L2
open PySem PySem.Spec PyProof.Rows
section
variable {κ:Type} [DecidableEq κ]
noncomputable def valV (kvs:List (κ×V)) (k : κ):Option V:=(kvs.find? fun kv=>decide (kv.1=k)).map (·.2)
noncomputable def putK (kvs:List (κ×V)) (k : κ) (v:V):List (κ×V):=
 if (kvs.any fun kv=>decide (kv.1=k))=true then kvs.map (fun kv=>if kv.1=k then (kv.1,v) else kv) else kvs++[(k,v)]
theorem valV_pos {p : κ×V} {r:List (κ×V)} {k : κ} (e:p.1=k):valV (p :: r) k=some p.2:=by simp [valV,List.find?_cons,e]
theorem valV_neg {p : κ×V} {r:List (κ×V)} {k : κ} (e:¬p.1=k):valV (p :: r) k=valV r k:=by simp [valV,List.find?_cons,e]
theorem valV_any (k : κ):∀kvs:List (κ×V),(kvs.any fun kv=>decide (kv.1=k))=(valV kvs k).isSome
 | []=>rfl
 | p :: r=>by
  rw [List.any_cons]
  by_cases e:p.1=k
  ·simp only [valV_pos e,decide_eq_true e,Bool.true_or,Option.isSome_some]
  ·rw [valV_neg e,decide_eq_false e,Bool.false_or];exact valV_any k r
theorem valV_map (k j : κ) (y:V):∀kvs:List (κ×V),valV (kvs.map fun kv=>if kv.1=k then (kv.1,y) else kv) j=(valV kvs j).map fun x=>if j=k then y else x
 | []=>rfl
 | p :: r=>by
  have ih:=valV_map k j y r
  rw [List.map_cons]
  by_cases h:p.1=k
  ·rw [if_pos h]
   by_cases e:p.1=j
   ·rw [valV_pos (p:=(p.1,y)) e,valV_pos e,Option.map_some,if_pos (e.symm.trans h)]
   ·rw [valV_neg (p:=(p.1,y)) e,valV_neg e,ih]
  ·rw [if_neg h]
   by_cases e:p.1=j
   ·rw [valV_pos (p:=p) e,valV_pos e,Option.map_some,if_neg (fun z=>h (e.trans z))]
   ·rw [valV_neg (p:=p) e,valV_neg e,ih]
theorem valV_snoc (k j : κ) (y:V):∀kvs:List (κ×V),valV kvs k=none→valV (kvs++[(k,y)]) j=if j=k then some y else valV kvs j
 | [],_=>by
  by_cases e:k=j
  ·rw [if_pos e.symm];exact valV_pos (p:=(k,y)) e
  ·rw [if_neg (fun z=>e z.symm)];exact valV_neg (p:=(k,y)) e
 | p :: r,hn=>by
  rw [List.cons_append]
  have hk:¬p.1=k:=fun z=>by rw [valV_pos z] at hn;cases hn
  rw [valV_neg hk] at hn
  have ih:=valV_snoc k j y r hn
  by_cases e:p.1=j
  ·rw [valV_pos e,valV_pos e,if_neg (fun z=>hk (e.trans z))]
  ·rw [valV_neg e,valV_neg e,ih]
theorem valV_put (kvs:List (κ×V)) (k j : κ) (y:V):valV (putK kvs k y) j=if j=k then some y else valV kvs j:=by
 unfold putK
 by_cases a:(kvs.any fun kv=>decide (kv.1=k))=true
 ·rw [if_pos a,valV_map]
  rw [valV_any] at a
  by_cases e:j=k
  ·obtain ⟨x,hx⟩:=Option.isSome_iff_exists.mp a
   rw [if_pos e,e,hx,Option.map_some,if_pos rfl]
  ·rw [if_neg e]
   cases valV kvs j with
   | none=>rfl
   | some x=>rw [Option.map_some,if_neg e]
 ·rw [if_neg a]
  refine valV_snoc k j y kvs ?_
  rw [valV_any] at a
  cases q:valV kvs k with
  | none=>rfl
  | some x=>rw [q] at a;exact (a rfl).elim
theorem length_putK (kvs:List (κ×V)) (k : κ) (v:V):(putK kvs k v).length≤kvs.length+1:=by
 unfold putK
 split
 ·rw [List.length_map];omega
 ·rw [List.length_append,List.length_cons,List.length_nil];omega
theorem putK_new {kvs:List (κ×V)} {k : κ} (v:V) (h:valV kvs k=none):putK kvs k v=kvs++[(k,v)]:=by
 unfold putK
 rw [valV_any,h]
 exact if_neg (by decide)
theorem RelO.isSome_eq {o:Option V} {u:Option Value} (r:RelO o u):o.isSome=u.isSome:=by
 cases o with
 | none=>cases u with
  | none=>rfl
  | some _=>exact (show False from r).elim
 | some _=>cases u with
  | none=>exact (show False from r).elim
  | some _=>rfl
theorem RelO.getD {o:Option V} {u:Option Value} {d:V} {d':Value} (r:RelO o u) (rd:RelV d d'):RelV (o.getD d) (u.getD d'):=by
 cases o with
 | none=>cases u with
  | none=>exact rd
  | some _=>exact (show False from r).elim
 | some _=>cases u with
  | none=>exact (show False from r).elim
  | some _=>exact r
theorem KV.val {kvs:List (κ×V)} {vs:List (κ×Value)} (r:KV kvs vs) (k : κ):RelO (valV kvs k) (valueAt vs k):=by
 unfold KV at r
 induction r with
 | nil=>exact True.intro
 | @cons p q ps qs h t ih=>
  obtain ⟨h1,h2⟩:=h
  by_cases e:p.1=k
  ·have e':q.1=k:=h1.symm.trans e
   have b:valueAt (q :: qs) k=some q.2:=by simp [valueAt,List.find?_cons,e']
   rw [valV_pos e,b];exact h2
  ·have e':¬q.1=k:=fun z=>e (h1.trans z)
   have b:valueAt (q :: qs) k=valueAt qs k:=by simp [valueAt,List.find?_cons,e']
   rw [valV_neg e,b];exact ih
theorem KV.any {kvs:List (κ×V)} {vs:List (κ×Value)} (r:KV kvs vs) (k : κ):(kvs.any fun kv=>decide (kv.1=k))=vs.any fun kv=>decide (kv.1=k):=by
 unfold KV at r
 induction r with
 | nil=>rfl
 | cons h t ih=>rw [List.any_cons,List.any_cons,ih,h.1]
theorem KV.repl {kvs:List (κ×V)} {vs:List (κ×Value)} (r:KV kvs vs) (k : κ) {y:V} {u:Value} (ry:RelV y u) :
  KV (kvs.map fun kv=>if kv.1=k then (kv.1,y) else kv) (vs.map fun kv=>if kv.1=k then (kv.1,u) else kv):=by
 unfold KV at r ⊢
 induction r with
 | nil=>exact .nil
 | @cons p q ps qs h t ih=>
  rw [List.map_cons,List.map_cons]
  refine .cons ?_ ih
  obtain ⟨h1,h2⟩:=h
  by_cases e:p.1=k
  ·rw [if_pos e,if_pos (h1.symm.trans e)];exact ⟨h1,ry⟩
  ·rw [if_neg e,if_neg (fun z=>e (h1.trans z))];exact ⟨h1,h2⟩
theorem KV.put {kvs:List (κ×V)} {vs:List (κ×Value)} (r:KV kvs vs) (k : κ) {y:V} {u:Value} (ry:RelV y u):KV (putK kvs k y) (stored vs k u):=by
 unfold putK stored
 rw [r.any k]
 by_cases e:(vs.any fun kv=>decide (kv.1=k))=true
 ·rw [if_pos e,if_pos e];exact r.repl k ry
 ·rw [if_neg e,if_neg e];exact Paired.snoc r ⟨rfl,ry⟩
theorem KV.length {kvs:List (κ×V)} {vs:List (κ×Value)} (r:KV kvs vs):kvs.length=vs.length:=Paired.length r
end
theorem kV_is {P:Program} {w:World} {k:Key} {u:Value} (r:RelV (kV k) u):(mixKind P w).is k u=true:=by
 cases k with
 | inl i=>obtain ⟨t,e⟩:=(show ∃t,u=Value.int i t from r);subst e;exact mixKind_int P w i t
 | inr x=>obtain ⟨t,e⟩:=(show ∃t,u=Value.str x t from r);subst e;exact mixKind_str P w x t
theorem items_are {P:Program} {w:World} : ∀{ks:List Key} {us:List Value},Vals (ks.map kV) us→ItemsAre (mixKind P w) ks us
 | [],_,r=>by rw [List.map_nil] at r;cases r;exact .nil
 | k :: ks,_,r=>by
  rw [List.map_cons] at r
  cases r with
  | cons h t=>exact .cons (kV_is h) (items_are t)
noncomputable abbrev KT (H:Hp):List (List Key×V)→List (List Key×Addr×Value)→Prop:=Paired fun p q=>p.1=q.1∧H q.2.1=some (.tup (p.1.map kV))∧RelV p.2 q.2.2
theorem KT.val {H:Hp} {kvs:List (List Key×V)} {xs:List (List Key×Addr×Value)} (r:KT H kvs xs) (k:List Key):RelO (valV kvs k) ((atKey xs k).map (·.2)):=by
 induction r with
 | nil=>exact True.intro
 | @cons p q ps qs h t ih=>
  obtain ⟨h1,_,h2⟩:=h
  by_cases e:p.1=k
  ·have e':q.1=k:=h1.symm.trans e
   have b:atKey (q :: qs) k=some q.2:=by simp [atKey,List.find?_cons,e']
   rw [valV_pos e,b];exact h2
  ·have e':¬q.1=k:=fun z=>e (h1.trans z)
   have b:atKey (q :: qs) k=atKey qs k:=by simp [atKey,List.find?_cons,e']
   rw [valV_neg e,b];exact ih
theorem KT.repl {H:Hp} {kvs:List (List Key×V)} {xs:List (List Key×Addr×Value)} (r:KT H kvs xs) (k:List Key) {y:V} {u:Value} (ry:RelV y u) :
  KT H (kvs.map fun kv=>if kv.1=k then (kv.1,y) else kv) (xs.map (putAt k u)):=by
 induction r with
 | nil=>exact .nil
 | @cons p q ps qs h t ih=>
  rw [List.map_cons,List.map_cons]
  refine .cons ?_ ih
  obtain ⟨h1,h2,h3⟩:=h
  unfold putAt
  by_cases e:p.1=k
  ·rw [if_pos e,if_pos (h1.symm.trans e)];exact ⟨h1,h2,ry⟩
  ·rw [if_neg e,if_neg (fun z=>e (h1.trans z))];exact ⟨h1,h2,h3⟩
theorem KT.put {H:Hp} {kvs:List (List Key×V)} {xs:List (List Key×Addr×Value)} (r:KT H kvs xs) (k:List Key) {b:Addr} {y:V} {u:Value} (hb:H b=some (.tup (k.map kV))) (ry:RelV y u) :
  KT H (putK kvs k y) (storedH xs k b u):=by
 have e:(kvs.any fun kv=>decide (kv.1=k))=(atKey xs k).isSome:=by
  rw [valV_any,(r.val k).isSome_eq,Option.isSome_map]
 unfold putK storedH
 rw [e]
 by_cases q:(atKey xs k).isSome=true
 ·rw [if_pos q,if_pos q];exact r.repl k ry
 ·rw [if_neg q,if_neg q];exact Paired.snoc r ⟨rfl,hb,ry⟩
theorem KT.keeps {H H':Hp} {kvs:List (List Key×V)} {xs:List (List Key×Addr×Value)} (r:KT H kvs xs) (ht:∀b ys,H b=some (.tup ys)→H' b=some (.tup ys)):KT H' kvs xs:=
 Paired.mapP r fun _ _ z=>⟨z.1,ht _ _ z.2.1,z.2.2⟩
section
variable {P:Program} {w:World} {H:Hp} {h:Heap} {a:Addr}
theorem rd_of {u:HO} (ok:HOk P w H h) (e:Rd H a u):ObjOk P w H h a u:=e.ok ok
theorem dk_rd {kvs:List (Key×V)} (ok:HOk P w H h) (e:Rd H a (.dK kvs)):kvs.length≤sizeLine∧(a == sysModules)=false∧∃vs,KV kvs vs∧h.DictOf (mixKind P w) a vs:=
 show ObjOk P w H h a (.dK kvs) from rd_of ok e
theorem dk_of {kvs:List (Key×V)} (ok:HOk P w H h) (e:H a=some (.dK kvs)):kvs.length≤sizeLine∧(a == sysModules)=false∧∃vs,KV kvs vs∧h.DictOf (mixKind P w) a vs:=dk_rd ok (.inl e)
theorem key_of {ks:List Key} (ok:HOk P w H h) (e:H a=some (.tup (ks.map kV))):(tupleKind (mixKind P w)).is h ks a:=by
 obtain ⟨_,its,r,o,h1,h2,n,h3⟩:=(show ObjOk P w H h a (.tup (ks.map kV)) from ok a _ e)
 exact ⟨o,its.toArray,n,h1,h2,h3,by simpa using items_are r⟩
theorem dt_rd {kvs:List (List Key×V)} (ok:HOk P w H h) (e:Rd H a (.dT kvs)):kvs.length≤sizeLine∧(a == sysModules)=false ∧
  ∃xs,KT H kvs xs∧h.DictOfH (tupleKind (mixKind P w)) a xs:=by
 obtain ⟨z,y,xs,r,o,es,ep,h1,h2,h3,h4,h5⟩:=(show ObjOk P w H h a (.dT kvs) from rd_of ok e)
 refine ⟨z,y,xs,r,o,es,ep,h1,h2,h3,h4,fun x hx => ?_,h5⟩
 have all:∀{l:List (List Key×V)} {m:List (List Key×Addr×Value)},KT H l m→∀x∈m,(tupleKind (mixKind P w)).is h x.1 x.2.1:=by
  intro l m q
  induction q with
  | nil=>intro x hx;exact nomatch hx
  | @cons p q ps qs hq t ih=>
   intro x hx
   rcases List.mem_cons.mp hx with e|hx
   ·subst e
    exact key_of ok (by rw [←hq.1];exact hq.2.1)
   ·exact ih x hx
 exact all r x hx
theorem dt_of {kvs:List (List Key×V)} (ok:HOk P w H h) (e:H a=some (.dT kvs)):kvs.length≤sizeLine∧(a == sysModules)=false ∧
  ∃xs,KT H kvs xs∧h.DictOfH (tupleKind (mixKind P w)) a xs:=dt_rd ok (.inl e)
end
noncomputable def DGet (H:Hp) (a:Addr) (y:V) (r:Option V):Prop:=
 (Ex2 fun kvs k=>Rd H a (.dK kvs)∧y=kV k∧r=valV kvs k)∨Ex3 fun kvs k b=>Rd H a (.dT kvs)∧y = .ref b∧H b=some (.tup (k.map kV))∧r=valV kvs k
noncomputable def DPut (H:Hp) (a:Addr) (y v:V) (H':Hp):Prop:=
 (Ex2 fun kvs k=>H a=some (.dK kvs)∧y=kV k∧kvs.length<sizeLine∧H'=upd H a (.dK (putK kvs k v))) ∨
 Ex3 fun kvs k b=>H a=some (.dT kvs)∧y = .ref b∧H b=some (.tup (k.map kV))∧kvs.length<sizeLine∧H'=upd H a (.dT (putK kvs k v))
theorem DGet.k {H:Hp} {a:Addr} {kvs:List (Key×V)} {k:Key} (e:H a=some (.dK kvs)):DGet H a (kV k) (valV kvs k) := .inl ⟨kvs,k, .inl e,rfl,rfl⟩
theorem DPut.k {H:Hp} {a:Addr} {kvs:List (Key×V)} {k:Key} {v:V} (e:H a=some (.dK kvs)) (hl:kvs.length<sizeLine):DPut H a (kV k) v (upd H a (.dK (putK kvs k v))) := .inl ⟨kvs,k,e,rfl,hl,rfl⟩
section
variable {X:Cx} {pins:List (Addr×Obj)} {σ:St} {H:Hp} {s:Shared} {a:Addr} {y v:V} {u r:Value} {o:Option V} {A:Around} {E:Value→Shared→Prop}
theorem Inv.big (I:Inv X pins σ H s):sysModules<s.heap.objs.size:=by
 have h:mainGlobals<s.heap.objs.size:=(I.mod.glob.keeps I.bk).lt
 exact Nat.lt_trans (by decide) h
theorem d_getItem {Q:Value→Shared→Prop} (hu:A.units+1<cLine) (I:Inv X pins σ H s) (g:DGet H a y (some v)) (ry:RelV y u) (h:∀w' s',Inv X pins σ H s'→RelV v w'→Q w' s') :
  wpAny (model X.prog X.w) A (getItem (.ref a) u) Q E s:=by
 rcases g with ⟨kvs,k,e,ey,l⟩|⟨kvs,k,b,e,ey,eb,l⟩
 ·subst ey
  obtain ⟨z,hd,vs,rel,dd⟩:=dk_rd I.hok e
  obtain ⟨w',hw,rw'⟩:=RelO.some_of (v:=v) (o:=valueAt vs k) (by rw [l];exact rel.val k)
  exact wpAny_getItem_of (kV_is ry) dd.mapOf hw (h w' _ (I.tok _) rw')
 ·subst ey
  cases (show u=Value.ref b from ry)
  obtain ⟨z,hd,xs,rel,dd⟩:=dt_rd I.hok e
  obtain ⟨w',hw,rw'⟩:=RelO.some_of (v:=v) (o:=(atKey xs k).map (·.2)) (by rw [l];exact rel.val k)
  obtain ⟨p,hp,hp2⟩:=Option.map_eq_some_iff.mp hw
  refine wpAny_getItem_heap (tupleKind_room_in1 hu) (key_of I.hok eb) dd hp ?_
  rw [hp2]
  exact h w' _ (I.tok _) rw'
theorem d_in {Q:Value→Shared→Prop} (hu:A.units+1<cLine) (I:Inv X pins σ H s) (g:DGet H a y o) (ry:RelV y u) (h:∀s',Inv X pins σ H s'→Q (.bool o.isSome) s') :
  wpAny (model X.prog X.w) A (compareOp .In u (.ref a)) Q E s:=by
 rcases g with ⟨kvs,k,e,ey,l⟩|⟨kvs,k,b,e,ey,eb,l⟩
 ·subst ey
  obtain ⟨z,hd,vs,rel,dd⟩:=dk_rd I.hok e
  refine wpAny_in_of (kV_is ry) hd dd.mapOf ?_
  rw [←(rel.val k).isSome_eq, ←l]
  exact h _ (I.tok _)
 ·subst ey
  cases (show u=Value.ref b from ry)
  obtain ⟨z,hd,xs,rel,dd⟩:=dt_rd I.hok e
  refine wpAny_in_heap (tupleKind_room_in1 hu) (key_of I.hok eb) hd dd ?_
  have q:=(rel.val k).isSome_eq
  rw [Option.isSome_map] at q
  rw [←q, ←l]
  exact h _ (I.tok _)
theorem d_write {h':Heap} {t':Nat} {ob:HO} (I:Inv X pins σ H s) (mu:Mut (H a)) (hs:Heap.SameBut a s.heap h') (he:∃q,h'.get? a=some q) (new:ObjOk X.prog X.w (upd H a ob) h' a ob) :
  Inv X pins σ (upd H a ob) { s with heap:=h',toks:=t' }:=
 I.write (x:=a) (e:=a) mu (.inl rfl) (fun b q hb z=>(hs.2 b hb).trans z) he new
theorem dk_new {P:Program} {w:World} {H':Hp} {h':Heap} {kvs:List (Key×V)} {vs:List (Key×Value)} (z:kvs.length≤sizeLine) (hd:(a == sysModules)=false) (rel:KV kvs vs) (dd:h'.DictOf (mixKind P w) a vs) :
  ObjOk P w H' h' a (.dK kvs):=⟨z,hd,vs,rel,dd⟩
theorem d_setItem {H':Hp} {Q:Unit→Shared→Prop} (hu:A.units+1<cLine) (I:Inv X pins σ H s) (g:DPut H a y v H') (ry:RelV y u) (rv:RelV v r) (h:∀s',Inv X pins σ H' s'→Q () s') :
  wpAny (model X.prog X.w) A (setItem (.ref a) u r) Q E s:=by
 rcases g with ⟨kvs,k,e,ey,l,eH⟩|⟨kvs,k,b,e,ey,eb,l,eH⟩
 ·subst ey eH
  obtain ⟨z,hd,vs,rel,dd⟩:=dk_of I.hok e
  have hz:vs.length≤sizeLine:=by rw [←rel.length];exact z
  have hl:(putK kvs k v).length≤sizeLine:=by have:=length_putK kvs k v;omega
  refine wpAny_setItem_pairs (hsz:=hz) (kV_is ry) dd fun h' dd' hs=>h _ ?_
  have he:∃q,h'.get? a=some q:=let ⟨q,_,_,hq,_⟩:=dd'; ⟨q,hq⟩
  exact d_write I (by rw [e];exact True.intro) hs he (dk_new hl hd (rel.put k rv) dd')
 ·subst ey eH
  cases (show u=Value.ref b from ry)
  obtain ⟨z,hd,xs,rel,dd⟩:=dt_of I.hok e
  have hz:xs.length≤sizeLine:=by rw [←Paired.length rel];exact z
  have hl:(putK kvs k v).length≤sizeLine:=by have:=length_putK kvs k v;omega
  refine wpAny_setItem_heap (hsz:=hz) (tupleKind_room_in1 hu) (key_of I.hok eb) dd fun h' dd' hs=>h _ ?_
  obtain ⟨q,es,ep,hq,h2,h3,h4,_,h5⟩:=dd'
  refine d_write I (by rw [e];exact True.intro) hs ⟨q,hq⟩ ⟨hl,hd,_,(rel.put k eb rv).keeps fun c ys ec => ?_,q,es,ep,hq,h2,h3,h4,h5⟩
  rw [upd_ne (ne_of ec e (fun z=>nomatch z))]
  exact ec
end
section
variable {X:Cx} {pins:List (Addr×Obj)} {σ:St} {H:Hp} {s:Shared} {a:Addr} {kvs:List (Key×V)} {k:Key} {u:Value} {A:Around} {E:Value→Shared→Prop}
theorem d_len {Q:Value→Shared→Prop} (I:Inv X pins σ H s) (e:Rd H a (.dK kvs)) (h:∀t s',Inv X pins σ H s'→Q (.int kvs.length t) s'):wpAny (model X.prog X.w) A (call (.builtin "len") [.ref a]) Q E s:=by
 obtain ⟨z,hd,vs,rel,dd⟩:=dk_rd I.hok e
 refine call_len_dict hd dd (by rw [←rel.length];rw [sizeLine_eq] at z;omega) ?_
 rw [←rel.length]
 exact h _ _ (I.tok _)
end
noncomputable def NoSl (i:Expr):Prop:=∀ov iv,subscripted i false ov iv=operate [ov,iv] (getItem ov iv)
theorem subD_of {prog:Program} {w:World} {A:Around} {E:Value→Shared→Prop} {s:Shared} {env:Env} {value slice:Expr} {pos:Pos} {T id:String} {Q:Value→Shared→Prop}
  (hl:typeLookup (.type T) "__getitem__" = pure (some (.builtin id))) (hs:NoSl slice)
  (h:wpAny (model prog w) A (eval value env) (fun o s₁=>wpAny (model prog w) A (eval slice env) (fun i s₂=>s₂.TypeIs o T∧wpAny (model prog w) A (getItem o i) Q E s₂) E s₁) E s) :
  wpAny (model prog w) A (eval (.Subscript value slice pos) env) Q E s:=by
 refine Subscript_ (wpAny_mono h (fun o s₁ h₁=>wpAny_mono h₁ (fun i s₂ h₂ => ?_) fun _ _ x=>x) fun _ _ x=>x)
 obtain ⟨hT,h₂⟩:=h₂
 unfold subscriptTail
 refine wpAny_bind ?_
 rw [getitemInPython_of_ne hT.not_modules]
 refine wpAny_bind (wpAny_specialOf hT hl ?_)
 have fin:wpAny (model prog w) A (subscripted slice false o i) (fun r s₃=>wpAny (model prog w) A (letTemporaryGo value o r >>= fun _=>pure r) Q E s₃) E s₂:=by
  rw [hs o i]
  exact wpAny_operating (wpAny_mono h₂ (fun r s₃ h₃=>wpAny_bind (wpAny_letTemporaryGo (wpAny_pure h₃))) fun _ _ x=>x)
 first
  | exact wpAny_pure (wpAny_bind fin)
  | exact wpAny_bind (wpAny_pure (wpAny_bind fin))
  | exact wpAny_bind fin
theorem dict_typeIs {X:Cx} {pins:List (Addr×Obj)} {σ:St} {H:Hp} {s:Shared} {a:Addr} {y:V} {o:Option V} (I:Inv X pins σ H s) (g:DGet H a y o):s.TypeIs (.ref a) "dict":=by
 rcases g with ⟨kvs,k,e,_,_⟩|⟨kvs,k,b,e,_,_,_⟩
 ·obtain ⟨_,_,vs,_,dd⟩:=dk_rd I.hok e
  exact dd.typeIs
 ·obtain ⟨_,_,xs,_,dd⟩:=dt_rd I.hok e
  exact dd.typeIs
noncomputable def tDGet (td ty:TE):TE:=fun σ H Q=>td σ H fun x H1=>ty σ H1 fun y H2=>Ex2 fun a v=>x = .ref a∧DGet H2 a y (some v)∧Q v H2
noncomputable def tDIn (ty td:TE):TE:=fun σ H Q=>ty σ H fun y H1=>td σ H1 fun x H2=>Ex2 fun a o=>x = .ref a∧DGet H2 a y o∧Q (.bl o.isSome) H2
noncomputable def sDPut (td ty tv:TE):TS:=fun D σ H=>tv σ H fun v H1=>td σ H1 fun x H2=>ty σ H2 fun y H3=>Ex2 fun a H4=>x = .ref a∧DPut H3 a y v H4∧D.nx σ H4
section
variable {X:Cx} {o i e value:Expr} {pos pos' tpos:Pos} {td ty tv:TE}
theorem pe_dget (hu:X.A.units+1<cLine) (ho:PE X o td) (hi:PE X i ty) (hs:NoSl i):PE X (.Subscript o i pos) (tDGet td ty):=by
 intro pins s σ H Q I h
 refine subD_of PySem.F.slot_dict_getitem.lookup hs (thn (ho s σ H _ I h) fun u s1 hz_=>Elim.el hz_ _ fun x H1 I1 rx q1=>thn (hi s1 σ H1 _ I1 q1) fun iv s2 hz_ => ?_)
 refine Elim.el hz_ _ ?_
 clear hz_
 rintro y H2 I2 ry ⟨a,v,ex,g,q2⟩
 subst ex
 obtain rfl:u=Value.ref a:=rx
 exact ⟨dict_typeIs I2 g,d_getItem hu I2 g ry fun w' s3 I3 rw'=>⟨v,H2,I3,rw',q2⟩⟩
theorem pc_din (hu:X.A.units+1<cLine) (hi:PE X i ty) (ho:PE X o td):PC X .In i o (tDIn ty td):=by
 intro pins s σ H Q I h
 refine thn (hi s σ H _ I h) fun iv s1 hz_=>Elim.el hz_ _ fun y H1 I1 ry q1=>thn (ho s1 σ H1 _ I1 q1) fun u s2 hz_ => ?_
 refine Elim.el hz_ _ ?_
 clear hz_
 rintro x H2 I2 rx ⟨a,ov,ex,g,q2⟩
 subst ex
 obtain rfl:u=Value.ref a:=rx
 exact d_in hu I2 g ry fun s3 I3=>⟨.bl ov.isSome,H2,I3,rfl,q2⟩
theorem ps_dput (hu:X.A.units+1<cLine) (ho:PE X o td) (hi:PE X i ty) (hv:PE X value tv) (hs:swapsWith value (some (.Subscript o i pos')) pos.line X.env=pure false) :
  PS X (.Assign [.Subscript o i pos'] value pos) (sDPut td ty tv):=by
 intro pins s σ H D I h
 refine wpAny_Assign_Subscript (thn (hv s σ H _ I h) fun r s1 ⟨v,H1,I1,rv,q1⟩=>thn (ho s1 σ H1 _ I1 q1) fun u s2 ⟨x,H2,I2,rx,q2⟩=>thn (hi s2 σ H2 _ I2 q2) fun iv s3 ⟨y,H3,I3,ry,a,H4,ex,g,q3⟩ => ?_) hs
 subst ex
 obtain rfl:u=Value.ref a:=rx
 exact d_setItem hu I3 g ry rv fun s4 I4=>⟨σ,H4,I4,q3⟩
end
theorem dk_empty {P:Program} {w:World} {H:Hp} (h:Heap) (hb:sysModules<h.objs.size):ObjOk P w H (h.push { cls := .type "dict",data := .dict #[] }) h.objs.size (.dK []):=
 ⟨Nat.zero_le _,beq_eq_false_iff_ne.mpr (Ne.symm (Nat.ne_of_lt hb)),[], .nil,Heap.DictOf.new h⟩
noncomputable def tDNewK:TE:=fun _ H Q=>∀p,H p=none→Q (.ref p) (upd H p (.dK []))
section
variable {X:Cx} {pos:Pos}
theorem pe_dnewK:PE X (.Dict [] [] pos) tDNewK:=fun pins s σ H Q I h=>
 wpAny_Dict_empty ⟨.ref s.heap.objs.size,_,I.laid (a:=s.heap.objs.size) (o := .dK []) (t':=s.toks) (fun _ _ q=>Heap.get?_push_of_some _ q) (Nat.le_refl _) (dk_empty s.heap I.big),rfl,h _ (I.hok.fresh (Nat.le_refl _))⟩
end
noncomputable def tPairs:List (TE×TE)→St→Hp→(List (V×V)→Hp→Prop)→Prop
 | [],_,H,Q=>Q [] H
 | (tk,tv) :: r, σ,H,Q=>tk σ H fun x H1=>tv σ H1 fun y H2=>tPairs r σ H2 fun ps H3=>Q ((x,y) :: ps) H3
noncomputable abbrev VV:List (V×V)→List (Value×Value)→Prop:=Paired fun p q=>RelV p.1 q.1∧RelV p.2 q.2
noncomputable def PPs (X:Cx) (pos:Pos) (keys:List (Option Expr)) (values:List Expr) (trs:List (TE×TE)):Prop:=
 ∀ ⦃pins:List (Addr×Obj)⦄ (s:Shared) (σ:St) (H:Hp) (Q:List (V×V)→Hp→Prop),Inv X pins σ H s→tPairs trs σ H Q →
  wpAny (model X.prog X.w) X.A (evalPairs (pairTrees keys values X.env pos)) (fun vs s'=>Ex2 fun ps H'=>Inv X pins σ H' s'∧VV ps vs∧Q ps H') X.xe s
theorem pps_nil {X:Cx} {pos:Pos} : PPs X pos [] [] []:=fun pins s σ H Q I h=>pairTrees_nil_walk ⟨[],H,I, .nil,h⟩
theorem pps_cons {X:Cx} {pos:Pos} {k v:Expr} {ks:List (Option Expr)} {vs:List Expr} {tk tv:TE} {trs:List (TE×TE)} (hk:PE X k tk) (hv:PE X v tv) (hr:PPs X pos ks vs trs) :
  PPs X pos (some k :: ks) (v :: vs) ((tk,tv) :: trs):=fun pins s σ H Q I h=>
 pairTrees_cons_walk (thn (hk s σ H _ I h) fun u s1 hz_=>Elim.el hz_ _ fun x H1 I1 rx q1=>thn (hv s1 σ H1 _ I1 q1) fun w2 s2 ⟨y,H2,I2,ry,q2⟩=>
  thn (hr s2 σ H2 _ I2 q2) fun ws s3 hz_=>Elim.el hz_ _ fun ps H3 I3 rel q3=>⟨(x,y) :: ps,H3,I3, .cons ⟨rx,ry⟩ rel,q3⟩)
noncomputable def mergeK (kvs more:List (Key×V)):List (Key×V):=more.foldl (fun acc kv=>putK acc kv.1 kv.2) kvs
theorem KV.merge:∀{more:List (Key×V)} {rs:List (Key×Value)} {kvs:List (Key×V)} {vs:List (Key×Value)},KV more rs→KV kvs vs→KV (mergeK kvs more) (merged vs rs):=by
 intro more rs kvs vs r
 unfold KV at r
 induction r generalizing kvs vs with
 | nil=>intro q;exact q
 | @cons p q ps qs h t ih=>
  intro r0
  have e:KV (putK kvs p.1 p.2) (stored vs q.1 q.2):=by
   have:=r0.put p.1 h.2
   rw [←h.1];exact this
  exact ih e
theorem length_mergeK:∀(more kvs:List (Key×V)),(mergeK kvs more).length≤kvs.length+more.length
 | [],kvs=>by show kvs.length≤kvs.length+0;omega
 | p :: r,kvs=>by
  have h1:=length_mergeK r (putK kvs p.1 p.2)
  have h2:=length_putK kvs p.1 p.2
  show (mergeK (putK kvs p.1 p.2) r).length≤_
  rw [List.length_cons];omega
theorem carries_of {P:Program} {w:World} : ∀{kvs:List (Key×V)} {ws:List (Value×Value)},VV (kvs.map fun kv=>(kV kv.1,kv.2)) ws→∃rs,Carries (mixKind P w) ws rs∧KV kvs rs
 | [],_,r=>by rw [List.map_nil] at r;cases r;exact ⟨[],True.intro, .nil⟩
 | p :: kvs,_,r=>by
  rw [List.map_cons] at r
  cases r with
  | @cons a b as bs h t=>
   obtain ⟨rs,c,q⟩:=carries_of (P:=P) (w:=w) t
   obtain ⟨b1,b2⟩:=b
   exact ⟨(p.1,b2) :: rs,⟨kV_is h.1,rfl,c⟩, .cons ⟨rfl,h.2⟩ q⟩
noncomputable def tDisp (trs:List (TE×TE)):TE:=fun σ H Q=>∀p,H p=none→tPairs trs σ (upd H p (.dK [])) fun ps H2=>H2 p=some (.dK [])∧∃kvs:List (Key×V),ps=kvs.map (fun kv=>(kV kv.1,kv.2))∧kvs.length≤15∧Q (.ref p) (upd H2 p (.dK (mergeK [] kvs)))
theorem pe_disp {X:Cx} {pos:Pos} {keys:List (Option Expr)} {values:List Expr} {trs:List (TE×TE)} (h:PPs X pos keys values trs) (hall:keys.all (·.isSome)=true) (hl:keys.length=values.length) (h0:keys≠[])
  (h15:keys.length≤15):PE X (.Dict keys values pos) (tDisp trs):=by
 intro pins s σ H Q I q
 have hn:=I.hok.fresh (Nat.le_refl s.heap.objs.size)
 have I1:=I.laid (a:=s.heap.objs.size) (o := .dK []) (h':=s.heap.push { cls := .type "dict",data := .dict #[] }) (t':=s.toks) (fun _ _ q=>Heap.get?_push_of_some _ q) (Nat.le_refl _) (dk_empty s.heap I.big)
 refine wpAny_Dict_walk (knd:=mixKind X.prog X.w) hall hl h0 h15 (thn (h _ σ _ _ I1 (q _ hn)) fun ws s2 hz_=>Elim.el hz_ _ fun ps H2 I2 rel e kvs ep lk q2 => ?_)
 subst ep
 obtain ⟨rs,c,rk⟩:=carries_of (P:=X.prog) (w:=X.w) rel
 obtain ⟨z,hd,vs0,r0,dd⟩:=dk_of I2.hok e
 cases r0
 refine ⟨rs,c,dd,fun h' dd' hs=>⟨.ref s.heap.objs.size,_,?_,rfl,q2⟩⟩
 have hz:(mergeK [] kvs).length≤sizeLine:=by
  have h1:=length_mergeK kvs []
  rw [List.length_nil] at h1
  rw [sizeLine_eq];omega
 have he:∃q,h'.get? s.heap.objs.size=some q:=let ⟨q,_,_,hq,_⟩:=dd'; ⟨q,hq⟩
 exact d_write I2 (by rw [e];exact True.intro) hs he (dk_new hz hd (rk.merge .nil) dd')
structure M1 (X:Cx) (o:Expr) (m:Str) (apos:Pos) (e:Expr) (cpos:Pos):Prop where
 base:attributeBase o m X.env (eval o X.env)=eval o X.env
 few:((backTo cpos (starEach [e] X.env)).all (fun x => !x.1)&&(backToKw cpos (keywordEach [] X.env)).all (fun x=>x.1.isSome)
  && decide (([e]:List Expr).length+([]:List Keyword).length+(if ([]:List Keyword).isEmpty then 0 else 1)<30))=true
 line:(apos.endLine == cpos.line)=true
 trees:backTo cpos (starEach [e] X.env)=[(false,eval e X.env)]
noncomputable def IsD (H:Hp) (a:Addr):Prop:=(∃kvs,Rd H a (.dK kvs))∨∃kvs,Rd H a (.dT kvs)
theorem isD_at {X:Cx} {pins:List (Addr×Obj)} {σ:St} {H:Hp} {s:Shared} {a:Addr} (I:Inv X pins σ H s) (d:IsD H a) :
  s.TypeIs (.ref a) "dict" ∧ (∀b,Value.ref a = .ref b→∃ob,s.heap.get? b=some ob∧ob.dict=none)∧(a == sysModules)=false:=by
 rcases d with ⟨kvs,e⟩|⟨kvs,e⟩
 ·obtain ⟨_,hd,vs,_,dd⟩:=dk_rd I.hok e
  refine ⟨dd.typeIs,fun b q => ?_,hd⟩
  cases q
  obtain ⟨ob,_,_,h1,h2,_⟩:=dd
  exact ⟨ob,h1,h2.2.1⟩
 ·obtain ⟨_,hd,xs,_,dd⟩:=dt_rd I.hok e
  refine ⟨dd.typeIs,fun b q => ?_,hd⟩
  cases q
  obtain ⟨ob,_,_,h1,h2,_⟩:=dd
  exact ⟨ob,h1,h2.2.1⟩
section
variable {X:Cx} {pins:List (Addr×Obj)} {σ:St} {H:Hp} {s:Shared} {a:Addr} {y d:V} {u r:Value} {o:Option V} {A:Around} {E:Value→Shared→Prop}
theorem d_get1 {Q:Value→Shared→Prop} (hu:A.units+1<cLine) (I:Inv X pins σ H s) (g:DGet H a y o) (ry:RelV y u) (h:∀w' s',Inv X pins σ H s'→RelV (o.getD .non) w'→Q w' s') :
  wpAny (model X.prog X.w) A (call (.builtin "dict.get") [.ref a,u]) Q E s:=by
 rcases g with ⟨kvs,k,e,ey,l⟩|⟨kvs,k,b,e,ey,eb,l⟩
 ·subst ey
  obtain ⟨z,hd,vs,rel,dd⟩:=dk_rd I.hok e
  refine call_meetsIn PySem.F.slot_dict_get dd.typeIs PySem.F.entry_dict_get (PySem.F.args_dict_get_2 _ _) (meets_dict_get (mixKind X.prog X.w) a (kV_is ry) hd) ⟨_,dd.mapOf,h _ _ (I.tok _) ?_⟩
  rw [l]
  exact (rel.val k).getD rfl
 ·subst ey
  cases (show u=Value.ref b from ry)
  obtain ⟨z,hd,xs,rel,dd⟩:=dt_rd I.hok e
  refine call_meetsIn PySem.F.slot_dict_get dd.typeIs PySem.F.entry_dict_get (PySem.F.args_dict_get_2 _ _) (meetsH_dict_get (tupleKind (mixKind X.prog X.w)) a b hd) ⟨tupleKind_room_in1 hu,k,xs,key_of I.hok eb,dd,h _ _ (I.tok _) ?_⟩
  rw [l]
  exact (rel.val k).getD rfl
end
noncomputable def tDGet1 (td ty:TE):TE:=fun σ H Q=>td σ H fun x H1=>∃a,x = .ref a∧IsD H1 a∧ty σ H1 fun y H2=>∃o,DGet H2 a y o∧Q (o.getD .non) H2
section
variable {X:Cx} {o e f:Expr} {apos cpos:Pos} {td ty tx:TE}
theorem pe_dget1 (hu:X.A.units+1<cLine) (ho:PE X o td) (he:PE X e ty) (m:M1 X o "get" apos e cpos):PE X (.Call (.Attribute o "get" apos) [e] [] cpos) (tDGet1 td ty):=by
 intro pins s σ H Q I h
 refine wpAny_Call_method m.base m.few m.line PySem.F.plainAttrs_dict PySem.F.slot_dict_get PySem.F.type_dict_get (thn (ho s σ H _ I h) fun u s1 hz_ => ?_)
 refine Elim.el hz_ _ ?_
 clear hz_
 rintro x H1 I1 rx ⟨a,ex,d,q1⟩
 subst ex
 obtain rfl:u=Value.ref a:=rx
 obtain ⟨t1,t2,_⟩:=isD_at I1 d
 refine ⟨t1,t2,?_⟩
 rw [m.trees]
 refine Calls.callWith_builtin rfl (Calls.evalArgs_plain (Calls.spliced_cons (thn (he s1 σ H1 _ I1 q1) fun iv s2 ⟨y,H2,I2,ry,ov,g,q2⟩=>Calls.spliced_nil ?_)))
 exact d_get1 hu I2 g ry fun w' s3 I3 rw'=>⟨_,H2,I3,rw',q2⟩
end
section
variable {X:Cx} {pins:List (Addr×Obj)} {σ:St} {H:Hp} {s:Shared} {a:Addr} {kvs:List (Key×V)} {A:Around} {E:Value→Shared→Prop}
end
section
variable {X:Cx} {pins:List (Addr×Obj)} {σ:St} {H:Hp} {s:Shared} {a:Addr} {y:V} {u:Value} {A:Around} {E:Value→Shared→Prop}
end
end L2
namespace HT
open PySem PyProof.Rows
section
open PySem.SeqAt
open PySem.AutoSeq1 (wpAny_loadPart')
open PySem.MeetsSeq PySem.MeetsSeq2 PySem.MeetsSeq3
end
section
variable {prog:Program} {w:World} {A:Around} {E:Value→Shared→Prop} {s:Shared}
noncomputable def sIx (n d:Nat):Option Int→Nat
 | none=>d
 | some v=>if v<0 then (v+(n:Int)).toNat else min v.toNat n
theorem sIx_none (n d:Nat):sIx n d none=d:=rfl
theorem sIx_nat (n d k:Nat):sIx n d (some (k:Int))=min k n:=by
 show (if (k:Int)<0 then ((k:Int)+(n:Int)).toNat else min (k:Int).toNat n)=min k n
 rw [if_neg (by omega),Int.toNat_natCast]
theorem sIx_le (n d:Nat) (hd:d≤n) (o:Option Int):sIx n d o≤n:=by
 cases o with
 | none=>exact hd
 | some v=>
  show (if v<0 then (v+(n:Int)).toNat else min v.toNat n)≤n
  by_cases hv:v<0
  ·rw [if_pos hv];omega
  ·rw [if_neg hv];exact Nat.min_le_right _ _
theorem clip_eq (v:Int) (n d:Nat):(if v<0 then max (v+(n:Int)) 0 else min v (n:Int))=((sIx n d (some v):Nat):Int):=by
 show (if v<0 then max (v+(n:Int)) 0 else min v (n:Int))=(((if v<0 then (v+(n:Int)).toNat else min v.toNat n):Nat):Int)
 by_cases hv:v<0
 ·simp only [if_pos hv];omega
 ·simp only [if_neg hv];omega
theorem adjust_gen (lo hi:Option Int) (n:Nat):Builtin.Slice.sliceAdjust lo hi 1 (n:Int)=(((sIx n 0 lo:Nat):Int),((sIx n n hi:Nat):Int)):=by
 have h1:¬((1:Int)<0):=by omega
 unfold Builtin.Slice.sliceAdjust
 simp only [h1,if_false]
 refine Prod.ext ?_ ?_
 ·cases lo with
  | none=>rfl
  | some v=>exact clip_eq v n 0
 ·cases hi with
  | none=>rfl
  | some v=>exact clip_eq v n n
theorem places_gen (i j:Nat):Builtin.Slice.slicePlaces (i:Int) (j:Int) 1=j-i:=by
 unfold Builtin.Slice.slicePlaces
 have h1:(1:Int)>0:=by omega
 simp only [h1,if_true,Int.ediv_one]
 split <;> omega
theorem slicePart_ {v:Value} {o:Option Int} {Q:Option Int→Shared→Prop} (p:IsPart v o) (h:Q o s):wpAny (model prog w) A (Builtin.Slice.slicePartIndex v) Q E s:=by
 cases p with
 | none=>exact slicePart_none h
 | int i t=>exact slicePart_int h
theorem sliceApplied_gen {sl:Addr} {vl vu:Value} {lo hi:Option Int} {n:Nat} {Q:Int×Int×Nat→Shared→Prop} (hs:s.heap.IsSliceOf sl vl vu .none) (pl:IsPart vl lo) (pu:IsPart vu hi)
  (h:Q (((sIx n 0 lo:Nat):Int),1,sIx n n hi-sIx n 0 lo) s):wpAny (model prog w) A (Builtin.Slice.sliceApplied (.ref sl) (pure (n:Int))) Q E s:=by
 obtain ⟨os,hos,hcs,hds⟩:=id hs
 unfold Builtin.Slice.sliceApplied Builtin.Slice.sliceFields
 refine wpAny_bind (wpAny_bind (wpAny_field hos hds (x:=vl) rfl (wpAny_bind (wpAny_field hos hds (x:=vu) rfl (wpAny_bind (wpAny_field hos hds (x := .none) rfl (wpAny_pure ?_)))))))
 refine wpAny_bind (slicePart_none ?_)
 show wpAny _ _ (if ((1:Int) == 0)=true then _ else _) _ _ s
 rw [if_neg (by decide)]
 refine wpAny_bind (slicePart_ pl (wpAny_bind (slicePart_ pu (wpAny_bind (wpAny_pure ?_)))))
 show wpAny _ _ (match Builtin.Slice.sliceAdjust lo hi 1 (n:Int) with|(lo,hi)=>pure (lo,(1:Int),Builtin.Slice.slicePlaces lo hi 1)) _ _ s
 rw [adjust_gen lo hi n]
 show wpAny _ _ (pure (((sIx n 0 lo:Nat):Int),(1:Int),Builtin.Slice.slicePlaces ((sIx n 0 lo:Nat):Int) ((sIx n n hi:Nat):Int) 1)) _ _ s
 rw [places_gen]
 exact wpAny_pure h
theorem pick_gen (xs:Array Value) (i k:Nat):((List.range k).filterMap fun (m:Nat)=>xs[((i:Int)+(m:Int)*1).toNat]?).toArray=((xs.toList.drop i).take k).toArray:=by
 have e:(fun (m:Nat)=>xs[((i:Int)+(m:Int)*1).toNat]?)=fun m=>xs[i+m]?:=by
  funext m
  have:((i:Int)+(m:Int)*1).toNat=i+m:=by omega
  rw [this]
 rw [e]
 have:=pick_run xs i k
 rw [List.filterMap_map] at this
 have e2:((fun x=>xs[x]?) ∘ fun x=>i+x)=fun m=>xs[i+m]?:=rfl
 rw [e2] at this
 rw [this]
theorem getItem_tuple_cut {t sl:Addr} {items:Array Value} {vl vu:Value} {lo hi:Option Int} {Q:Value→Shared→Prop} (ht:IsTup s.heap t items) (hs:s.heap.IsSliceOf sl vl vu .none) (pl:IsPart vl lo) (pu:IsPart vu hi)
  (hw:¬(sIx items.size 0 lo=0∧sIx items.size items.size hi=items.size))
  (h:Q (.ref s.heap.objs.size) { s with heap:=s.heap.push { cls := .type "tuple",data := .seq ((items.toList.drop (sIx items.size 0 lo)).take (sIx items.size items.size hi-sIx items.size 0 lo)).toArray } })
  (hsz:items.size≤sizeLine):wpAny (model prog w) A (getItem (.ref t) (.ref sl)) Q E s:=by
 have htake:sizeOk (.seq ((items.toList.drop (sIx items.size 0 lo)).take (sIx items.size items.size hi-sIx items.size 0 lo)).toArray):=by
  show ((items.toList.drop (sIx items.size 0 lo)).take (sIx items.size items.size hi-sIx items.size 0 lo)).toArray.size≤sizeLine
  rw [List.size_toArray,List.length_take,List.length_drop,Array.length_toList]
  omega
 have hj:sIx items.size items.size hi≤items.size:=sIx_le _ _ (Nat.le_refl _) hi
 obtain ⟨os,hos,hcs,hds⟩:=id hs
 have hTs:s.TypeIs (.ref sl) "slice":=⟨os,hos,hcs⟩
 unfold getItem
 try with_reducible refine wpAny_holding ?_
 first|refine wpAny_bind (wpAny_pure ?_)|skip
 refine wpAny_bind (wpAny_sequenceKey ht.typeIs (by decide) ?_)
 refine wpAny_bind (wpAny_callSpecial?_slot (name:=Str.ofString "__getitem__") ht.typeIs PyProof.Rows.slot_tuple_getitem
  (wpAny_call_entry PyProof.Rows.slot_tuple_getitem ht.typeIs entry_tuple_getitem ?_ (args_tuple_getitem _ _)))
 show wpAny _ _ (Builtin.Tuple.tupleItemsOf (.ref t) >>= _) _ _ s
 refine wpAny_bind (tupleItemsOf_ ht ?_)
 refine wpAny_bind (wpAny_typeOf hTs ?_)
 rw [if_pos (by decide)]
 refine wpAny_bind (sliceApplied_gen hs pl pu ?_)
 have hno:¬((((sIx items.size 0 lo:Nat):Int) == 0&&(1:Int) == 1&&(sIx items.size items.size hi-sIx items.size 0 lo) == items.size)=true):=by
  intro q
  rw [Bool.and_eq_true,Bool.and_eq_true] at q
  have q1:((sIx items.size 0 lo:Nat):Int)=0:=eq_of_beq q.1.1
  have q2:sIx items.size items.size hi-sIx items.size 0 lo=items.size:=eq_of_beq q.2
  exact hw ⟨by omega,by omega⟩
 show wpAny _ _ (if (((sIx items.size 0 lo:Nat):Int) == 0&&(1:Int) == 1&&(sIx items.size items.size hi-sIx items.size 0 lo) == items.size)=true then _ else _) _ _ s
 rw [if_neg hno,pick_gen]
 first
  | exact wpAny_bind (m:=Builtin.Tuple.tupleExact _) (wpAny_newObj_type (wpAny_pure ⟨_,rfl,wpAny_pure h⟩) htake)
  | exact wpAny_bind (m:=Builtin.Tuple.tupleExact _) (wpAny_newObj_type (wpAny_bind (wpAny_pure (wpAny_pure ⟨_,rfl,wpAny_pure h⟩))) htake)
  | exact wpAny_bind (wpAny_bind (m:=Builtin.Tuple.tupleExact _) (wpAny_newObj_type (wpAny_pure (wpAny_pure ⟨_,rfl,wpAny_pure h⟩)) htake))
  | exact wpAny_bind (wpAny_bind (m:=Builtin.Tuple.tupleExact _) (wpAny_newObj_type (wpAny_pure ⟨_,rfl,wpAny_pure h⟩) htake))
end
end HT
namespace L2
open PySem PySem.Spec PyProof.Rows
noncomputable abbrev TO:=St→Hp→(Option Int→Hp→Prop)→Prop
noncomputable def PO (X:Cx) (e:Option Expr) (t:TO):Prop:=
 ∀ ⦃pins:List (Addr×Obj)⦄ (s:Shared) (σ:St) (H:Hp) (Q:Option Int→Hp→Prop),Inv X pins σ H s→t σ H Q →
  wpAny (model X.prog X.w) X.A (evalPart e X.env) (fun u s'=>Ex2 fun o H'=>Inv X pins σ H' s'∧IsPart u o∧Q o H') X.xe s
noncomputable def tNoPart:TO:=fun _ H Q=>Q none H
noncomputable def tPart (t:TE):TO:=fun σ H Q=>t σ H fun x H1=>∃i,x = .int i∧Q (some i) H1
section
variable {X:Cx} {e:Expr} {te:TE} {lo hi:Option Expr} {tl th:TO} {pos p2:Pos}
theorem po_none:PO X none tNoPart:=by
 intro pins s σ H Q I h
 rw [evalPart_none]
 exact wpAny_pure ⟨none,H,I, .none,h⟩
theorem po_some (h:PE X e te):PO X (some e) (tPart te):=by
 intro pins s σ H Q I hw
 rw [evalPart_some]
 refine thn (h s σ H _ I hw) fun u s1 hz_ => ?_
 refine Elim.el hz_ _ ?_
 clear hz_
 rintro x H1 I1 r1 q1
 obtain ⟨i,rfl,q⟩:=q1
 obtain ⟨t,rfl⟩:=r1
 exact ⟨some i,H1,I1, .int i t,q⟩
noncomputable def SlR (X:Cx) (r:V→Option Int→Option Int→Hp→VK→Prop):Prop:=
 ∀ ⦃pins:List (Addr×Obj)⦄ (s:Shared) (σ:St) (H:Hp) (x:V) (v vl vu:Value) (lo hi:Option Int) (sl:Addr) (Q:VK),Inv X pins σ H s→RelV x v→s.heap.IsSliceOf sl vl vu .none→IsPart vl lo→IsPart vu hi→r x lo hi H Q →
  Ex2 fun T id=>typeLookup (.type T) "__getitem__" = pure (some (.builtin id))∧s.TypeIs v T∧wpAny (model X.prog X.w) X.A (getItem v (.ref sl)) (EP X pins σ Q) X.xe s
theorem SlR.or {r r':V→Option Int→Option Int→Hp→VK→Prop} (h:SlR X r) (h':SlR X r'):SlR X (fun x lo hi H Q=>r x lo hi H Q∨r' x lo hi H Q):=by
 intro pins s σ H x v vl vu lo hi sl Q I rx hs pl pu q
 rcases q with q|q
 ·exact h s σ H x v vl vu lo hi sl Q I rx hs pl pu q
 ·exact h' s σ H x v vl vu lo hi sl Q I rx hs pl pu q
noncomputable def tSl (r:V→Option Int→Option Int→Hp→VK→Prop) (te:TE) (tl th:TO):TE:=fun σ H Q=>te σ H fun x H1=>tl σ H1 fun l H2=>th σ H2 fun u H3=>r x l u H3 Q
theorem pe_slice {r:V→Option Int→Option Int→Hp→VK→Prop} (hr:SlR X r) (he:PE X e te) (hl:PO X lo tl) (hu:PO X hi th):PE X (.Subscript e (.Slice lo hi none p2) pos) (tSl r te tl th):=by
 intro pins s σ H Q I h
 refine Subscript_ (thn (he s σ H _ I h) fun v s1 hz_ => ?_)
 refine Elim.el hz_ _ ?_
 clear hz_
 rintro x H1 I1 r1 q1
 refine wpAny_Slice (thn (hl s1 σ H1 _ I1 q1) fun vl s2 hz_=>Elim.el hz_ _ fun l H2 I2 pl q2=>thn (hu s2 σ H2 _ I2 q2) fun vu s3 hz_ => ?_)
 refine Elim.el hz_ _ ?_
 clear hz_
 rintro u H3 I3 pu q3
 rw [evalPart_none]
 refine wpAny_pure ?_
 have I4:Inv X pins σ H3 { s3 with heap:=s3.heap.push { cls := .type "slice",data := .fields #[vl,vu, .none] } }:=I3.kept (t':=s3.toks) fun b ob q=>Heap.get?_push_of_some _ q
 obtain ⟨T,id,hT,ht,hg⟩:=hr { s3 with heap:=s3.heap.push { cls := .type "slice",data := .fields #[vl,vu, .none] } } σ H3 x v vl vu l u s3.heap.objs.size Q I4 r1 (Heap.IsSliceOf.new ..) pl pu q3
 show wpAny (model X.prog X.w) X.A (subscriptTail e (.Slice lo hi none p2) v (.ref s3.heap.objs.size)) (EP X pins σ Q) X.xe { s3 with heap:=s3.heap.push { cls := .type "slice",data := .fields #[vl,vu, .none] } }
 exact tail_any (ops:=[.ref s3.heap.objs.size,v]) ht hT hg (by with_unfolding_all rfl)
noncomputable def cutV (xs:List V) (lo hi:Option Int):List V:=(xs.drop (HT.sIx xs.length 0 lo)).take (HT.sIx xs.length xs.length hi-HT.sIx xs.length 0 lo)
theorem cutV_length (xs:List V) (lo hi:Option Int):(cutV xs lo hi).length≤xs.length:=by
 unfold cutV
 rw [List.length_take,List.length_drop]
 omega
noncomputable def rSlT (K:PySem.W.Frag):V→Option Int→Option Int→Hp→VK→Prop:=fun x lo hi H Q=>Ex2 fun a xs=>x = .ref a∧SqT K H a xs ∧
 ¬(HT.sIx xs.length 0 lo=0∧HT.sIx xs.length xs.length hi=xs.length)∧∀p,H p=none→Q (.ref p) (upd H p (.tup (cutV xs lo hi)))
theorem sl_tup:SlR X (rSlT X.K):=by
 intro pins s σ H x v vl vu lo hi sl Q I rx hs pl pu h
 obtain ⟨a,xs,rfl,hx,hw,q⟩:=h
 cases rx
 obtain ⟨its,r,ht,hz⟩:=I.tuple hx
 have hlen:its.toArray.size=xs.length:=by rw [List.size_toArray];exact r.length.symm
 refine ⟨"tuple",_,PyProof.Rows.slot_tuple_getitem.lookup,ht.typeIs,?_⟩
 refine HT.getItem_tuple_cut ht hs pl pu (by rw [hlen];exact hw) ?_ (by rw [hlen];exact hz)
 rw [hlen]
 refine ⟨.ref s.heap.objs.size,_,I.laid (t':=s.toks) (o := .tup (cutV xs lo hi)) (fun b ob q=>Heap.get?_push_of_some _ q) (Nat.le_refl _) ?_,rfl,q _ (I.hok.fresh (Nat.le_refl _))⟩
 exact ⟨Nat.le_trans (cutV_length xs lo hi) hz,_,(r.drop (HT.sIx xs.length 0 lo)).take (HT.sIx xs.length xs.length hi-HT.sIx xs.length 0 lo),IsTup.new _ _⟩
end
end L2
namespace L2
open PySem PySem.Spec PyProof.Rows
noncomputable def ixN (n:Nat) (i:Int):Option Nat:=if 0≤i then (if i<n then some i.toNat else none) else if -(n:Int)≤i then some (i+n).toNat else none
noncomputable def atI {α:Type} (xs:List α) (i:Int):Option α:=(ixN xs.length i).bind fun j=>xs[j]?
theorem ixN_seq {n:Nat} {i:Int} {j:Nat} (h:ixN n i=some j):seqIndex? i n=some j∧j<n ∧ -(n:Int)≤i∧i<n:=by
 unfold ixN at h
 by_cases h0:0≤i
 ·rw [if_pos h0] at h
  by_cases h1:i<n
  ·rw [if_pos h1] at h
   have e:i.toNat=j:=Option.some.inj h
   exact ⟨by rw [seqIndex_of h0 h1,e],by omega,by omega,h1⟩
  ·rw [if_neg h1] at h;cases h
 ·rw [if_neg h0] at h
  by_cases h1 : -(n:Int)≤i
  ·rw [if_pos h1] at h
   have e:(i+n).toNat=j:=Option.some.inj h
   exact ⟨by rw [seqIndex_neg (by omega) h1,e],by omega,h1,by omega⟩
  ·rw [if_neg h1] at h;cases h
theorem atI_get {α:Type} {xs:List α} {i:Int} {v : α} (h:atI xs i=some v):∃j,seqIndex? i xs.length=some j∧xs[j]? = some v∧j<xs.length ∧ -(xs.length:Int)≤i∧i<xs.length:=by
 unfold atI at h
 cases e:ixN xs.length i with
 | none=>rw [e] at h;cases h
 | some j=>
  rw [e] at h
  obtain ⟨h1,h2,h3,h4⟩:=ixN_seq e
  exact ⟨j,h1,h,h2,h3,h4⟩
theorem atI_nat {α:Type} {xs:List α} {j:Nat} {v : α} (h:xs[j]? = some v):atI xs (j:Int)=some v:=by
 have hj:j<xs.length:=(List.getElem?_eq_some_iff.mp h).1
 have e:ixN xs.length (j:Int)=some j:=by
  unfold ixN
  rw [if_pos (by omega),if_pos (by omega)];simp
 unfold atI;rw [e];exact h
noncomputable def PlainIx (b:Expr):Prop:=∀o i,subscripted b false o i=operate [o,i] (getItem o i)
noncomputable def IxR (X:Cx) (r:R2):Prop:=
 ∀ ⦃value slice:Expr⦄ ⦃pins:List (Addr×Obj)⦄ (s:Shared) (σ:St) (H:Hp) (x y:V) (v u:Value) (Q:VK),Inv X pins σ H s→RelV x v→RelV y u→r x y H Q →
  subscripted slice false v u=operate [v,u] (getItem v u)→wpAny (model X.prog X.w) X.A (subscriptTail value slice v u) (EP X pins σ Q) X.xe s
noncomputable def MtR (X:Cx) (id:String) (r:V→List V→Hp→VK→Prop):Prop:=
 ∀ ⦃pins:List (Addr×Obj)⦄ (s:Shared) (σ:St) (H:Hp) (x:V) (xs:List V) (v:Value) (us:List Value) (Q:VK),Inv X pins σ H s→RelV x v→Vals xs us→r x xs H Q →
  wpAny (model X.prog X.w) X.A (call (.builtin id) (v :: us)) (EP X pins σ Q) X.xe s
section
variable {X:Cx} {a b:Expr} {ta tb:TE} {pos:Pos}
theorem IxR.or {r r':R2} (h:IxR X r) (h':IxR X r'):IxR X (fun x y H Q=>r x y H Q∨r' x y H Q):=by
 intro value slice pins s σ H x y v u Q I rx ry q hs
 rcases q with q|q
 ·exact h s σ H x y v u Q I rx ry q hs
 ·exact h' s σ H x y v u Q I rx ry q hs
theorem pe_ix {r:R2} (hr:IxR X r) (ha:PE X a ta) (hb:PE X b tb) (hs:PlainIx b):PE X (.Subscript a b pos) (tOp r ta tb):=by
 intro pins s σ H Q I h
 exact Subscript_ (binT ha hb I h fun v u s2 x y H2 I2 rx ry q=>hr s2 σ H2 x y v u Q I2 rx ry q (hs _ _))
noncomputable def rIxL (K:PySem.W.Frag):R2:=fun x y H Q=>Ex4 fun p xs i v=>x = .ref p∧y = .int i∧SqL K H p xs∧atI xs i=some v∧Q v H
noncomputable def rIxT (K:PySem.W.Frag):R2:=fun x y H Q=>Ex4 fun p xs i v=>x = .ref p∧y = .int i∧SqT K H p xs∧atI xs i=some v∧Q v H
noncomputable def rIxS:R2:=fun x y H Q=>Ex3 fun z i c=>x = .str z∧y = .int i∧z.length≤sizeLine∧atI z.cps.toList i=some c∧Q (.str ⟨#[c]⟩) H
theorem ix_list:IxR X (rIxL X.K):=by
 intro value slice pins s σ H x y v u Q I rx ry h hs
 obtain ⟨p,xs,i,z,rfl,rfl,hq,he,q⟩:=h
 cases rx
 obtain ⟨t,rfl⟩:=ry
 obtain ⟨its,r,pl,hz⟩:=I.list hq
 obtain ⟨j,h1,h2,h3,h4,h5⟩:=atI_get he
 obtain ⟨w,ew,rw'⟩:=r.get h2
 have hl:=r.length
 have hn:=line63
 have fin:EP X pins σ Q w s:=⟨z,H,I,rw',q⟩
 by_cases h0:0≤i
 ·have hj:i.toNat=j:=by
   rw [seqIndex_of h0 h5] at h1
   exact Option.some.inj h1
  exact item_listR pl.isList h0 (by omega) (by rw [hj];simpa using ew) fin hs
 ·have hj:(i+(its.toArray.size:Int)).toNat=j:=by
   rw [seqIndex_neg (by omega) h4] at h1
   rw [List.size_toArray, ←hl]
   exact Option.some.inj h1
  exact subscriptTail_builtinR (x:=w) pl.isList.typeIs slot_list_getitem.lookup
   (wpAny_getItem_list_neg (Q:=fun r s'=>r=w∧EP X pins σ Q r s') pl.isList (by omega) (by rw [List.size_toArray] <;> omega) (by omega) (by rw [hj];simpa using ew) ⟨rfl,fin⟩) hs
theorem ix_tup:IxR X (rIxT X.K):=by
 intro value slice pins s σ H x y v u Q I rx ry h hs
 obtain ⟨p,xs,i,z,rfl,rfl,hq,he,q⟩:=h
 cases rx
 obtain ⟨t,rfl⟩:=ry
 obtain ⟨its,r,pl,hz⟩:=I.tuple hq
 obtain ⟨j,h1,h2,h3,h4,h5⟩:=atI_get he
 obtain ⟨w,ew,rw'⟩:=r.get h2
 have hl:=r.length
 have hn:=line63
 have fin:EP X pins σ Q w s:=⟨z,H,I,rw',q⟩
 exact subscriptTail_builtinR (x:=w) pl.typeIs slot_tuple_getitem.lookup
  (getItem_tuple (j:=j) (Q:=fun r s'=>r=w∧EP X pins σ Q r s') pl (by omega) (by omega) (by rw [List.size_toArray, ←hl];exact h1) (by simpa using ew) ⟨rfl,fin⟩) hs
theorem ix_str:IxR X rIxS:=by
 intro value slice pins s σ H x y v u Q I rx ry h hs
 obtain ⟨z,i,c,rfl,rfl,hz,he,q⟩:=h
 obtain ⟨t,rfl⟩:=rx
 obtain ⟨t',rfl⟩:=ry
 obtain ⟨j,h1,h2,h3,h4,h5⟩:=atI_get he
 have hl:z.cps.toList.length=z.length:=by simp [Str.length]
 rw [hl] at h1 h4 h5
 have hn:=line63
 exact tail_any (typeIs_str s z t) slot_str_getitem.lookup (getItem_str (c:=c) (by
  have e1:decide (i < -(2 ^ 63:Int))=false:=decide_eq_false (by omega)
  have e2:decide (i≥2 ^ 63)=false:=decide_eq_false (by omega)
  rw [e1,e2,Bool.or_false]) (by rw [h1];simpa using h2) ⟨.str ⟨#[c]⟩,H,I.tok _,⟨_,rfl⟩,q⟩) hs
noncomputable def rIx (K:PySem.W.Frag):R2:=fun x y H Q=>rIxL K x y H Q∨rIxT K x y H Q∨rIxS x y H Q
theorem ix_seq:IxR X (rIx X.K):=ix_list.or (ix_tup.or ix_str)
theorem mapSeq_set (its:List Value) (n j:Nat) (u:Value):Obj.mapSeq (·.setIfInBounds j u) { cls := .type "list",data := .seq its.toArray n } = { cls := .type "list",data := .seq (its.set j u).toArray n }:=by
 simp [Obj.mapSeq]
theorem Inv.lst {pins:List (Addr×Obj)} {σ:St} {H:Hp} {s:Shared} {p:Addr} {xs:List V} (I:Inv X pins σ H s) (h:H p=some (.lst xs)) :
  ∃(its:List Value) (n:Nat),Vals xs its∧s.heap.get? p=some { cls := .type "list",data := .seq its.toArray n } ∧ xs.length≤sizeLine:=by
 obtain ⟨z,its,n,r,e⟩:=I.hok p _ h
 exact ⟨its,n,r,e,z⟩
theorem Inv.lstUpd {pins:List (Addr×Obj)} {σ:St} {H:Hp} {s:Shared} {p:Addr} {xs ys:List V} {its its':List Value} {n n':Nat} {f:Obj→Obj} (I:Inv X pins σ H s) (h:H p=some (.lst xs))
  (ho:s.heap.get? p=some { cls := .type "list",data := .seq its.toArray n }) (hf:f { cls := .type "list",data := .seq its.toArray n } = { cls := .type "list",data := .seq its'.toArray n' }) (r:Vals ys its') (hz:ys.length≤sizeLine) (t:Nat) :
  Inv X pins σ (upd H p (.lst ys)) { s with heap:=s.heap.update p f,toks:=t }:=by
 have e:(s.heap.update p f).get? p=some { cls := .type "list",data := .seq its'.toArray n' }:=by
  rw [Heap.get?_update_self f ho (by rw [hf] <;> rfl),hf]
 refine I.write (x:=p) (e:=p) (by rw [h];trivial) (.inl rfl) (fun b u hb q=>(Heap.get?_update_other _ _ (Ne.symm hb)).trans q) ⟨_,e⟩ ?_
 exact ⟨hz,its',n',r,e⟩
noncomputable def rSetL:V→V→V→Hp→(Hp→Prop)→Prop:=fun o i v H Q=>Ex4 fun p xs k j=>o = .ref p∧i = .int k∧H p=some (.lst xs)∧ixN xs.length k=some j∧Q (upd H p (.lst (xs.set j v)))
theorem set_list:PSet X rSetL:=by
 intro pins s σ H o i v ov iv u Q I ro ri rv h
 obtain ⟨p,xs,k,j,rfl,rfl,hp,hj,q⟩:=h
 cases ro
 obtain ⟨t,rfl⟩:=ri
 obtain ⟨its,n,r,ho,hz⟩:=I.lst hp
 obtain ⟨h1,h2,h3,h4⟩:=ixN_seq hj
 have hl:=r.length
 have hn:=line63
 have I':Inv X pins σ (upd H p (.lst (xs.set j v))) { s with heap:=s.heap.update p (Obj.mapSeq (·.setIfInBounds j u)) }:=
  I.lstUpd hp ho (mapSeq_set its n j u) (r.set rv j) (by rw [List.length_set];exact hz) s.toks
 by_cases h0:0≤k
 ·have hk:k.toNat=j:=by
   rw [seqIndex_of h0 h4] at h1
   exact Option.some.inj h1
  exact PySem.W.ki_setAt ho h0 (by omega) (by rw [List.size_toArray, ←hl];exact h4) (by rw [hk];exact ⟨_,I',q⟩)
 ·have hk:(k+(its.toArray.size:Int)).toNat=j:=by
   rw [seqIndex_neg (by omega) h3] at h1
   rw [List.size_toArray, ←hl]
   exact Option.some.inj h1
  exact PySem.W.ki_setBack ho (by omega) (by rw [List.size_toArray, ←hl];exact h3) (by omega) (by rw [hk];exact ⟨_,I',q⟩)
theorem slice_bounds (lo hi:Option Int) (n:Nat):(sliceBounds lo hi none n).1=((HT.sIx n 0 lo:Nat):Int)∧(sliceBounds lo hi none n).2.1=((HT.sIx n n hi:Nat):Int)∧(sliceBounds lo hi none n).2.2=1:=by
 refine ⟨?_,?_,rfl⟩
 ·cases lo with
  | none=>simp [sliceBounds,HT.sIx]
  | some i=>
   simp only [sliceBounds,HT.sIx,Option.getD_none,show (1:Int)>0 by decide,if_true]
   by_cases h:i<0
   ·simp only [h,if_true] <;> omega
   ·simp only [h,if_false] <;> omega
 ·cases hi with
  | none=>simp [sliceBounds,HT.sIx]
  | some i=>
   simp only [sliceBounds,HT.sIx,Option.getD_none,show (1:Int)>0 by decide,if_true]
   by_cases h:i<0
   ·simp only [h,if_true] <;> omega
   ·simp only [h,if_false] <;> omega
theorem slicePick_cut (its:List Value) (lo hi:Option Int):slicePick its.toArray lo hi none=((its.drop (HT.sIx its.length 0 lo)).take (HT.sIx its.length its.length hi-HT.sIx its.length 0 lo)).toArray:=by
 obtain ⟨h1,h2,h3⟩:=slice_bounds lo hi its.toArray.size
 unfold slicePick
 rw [h1,h2,h3]
 simp only [sliceRange_one,pick_run,List.size_toArray] <;> rfl
noncomputable def rSlL (K:PySem.W.Frag):V→Option Int→Option Int→Hp→VK→Prop:=fun x lo hi H Q=>Ex2 fun a xs=>x = .ref a∧SqL K H a xs∧∀p,H p=none→Q (.ref p) (upd H p (.lst (cutV xs lo hi)))
theorem sl_list:SlR X (rSlL X.K):=by
 intro pins s σ H x v vl vu lo hi sl Q I rx hs pl pu h
 obtain ⟨a,xs,rfl,hx,q⟩:=h
 cases rx
 obtain ⟨its,r,ht,hz⟩:=I.list hx
 have hlen:=r.length
 refine ⟨"list",_,slot_list_getitem.lookup,ht.isList.typeIs,?_⟩
 refine wpAny_getItem_list_slice ht.isList hs pl pu .none (by simp) ?_ (by rw [List.size_toArray] <;> omega)
 rw [slicePick_cut, ←hlen]
 refine ⟨.ref s.heap.objs.size,_,I.laid (t':=s.toks) (o := .lst (cutV xs lo hi)) (fun b ob q=>Heap.get?_push_of_some _ q) (Nat.le_refl _) ?_,rfl,q _ (I.hok.fresh (Nat.le_refl _))⟩
 exact ⟨Nat.le_trans (cutV_length xs lo hi) hz,_,0,(r.drop (HT.sIx xs.length 0 lo)).take (HT.sIx xs.length xs.length hi-HT.sIx xs.length 0 lo),Heap.get?_push_size _ rfl⟩
noncomputable def flatV:V→Bool
 | .non=>true
 | .bl _=>true
 | .int _=>true
 | .str _=>true
 | _=>false
noncomputable def eqV:V→V→Bool
 | .non, .non=>true
 | .bl a, .bl b=>a == b
 | .bl a, .int b=>(if a then 1 else 0) == b
 | .int a, .bl b=>a == (if b then 1 else 0)
 | .int a, .int b=>a == b
 | .str a, .str b=>a == b
 | _,_=>false
theorem eqAt_V {A:Around} {s:Shared} {y x:V} {u v:Value} (ry:RelV y u) (rx:RelV x v) (fy:flatV y=true) (fx:flatV x=true):SeqAt.EqAt A s u v (eqV y x):=by
 cases y with
 | non=>
  cases ry
  cases x with
  | non=>cases rx;exact SeqAt.EqAt.same _
  | bl b=>cases rx;exact SeqAt.EqAt.none_bool b
  | int b=>obtain ⟨t,rfl⟩:=rx;exact SeqAt.EqAt.none_int b t
  | str b=>obtain ⟨t,rfl⟩:=rx;exact SeqAt.EqAt.none_str b t
  | _=>exact absurd (show false=true from fx) Bool.false_ne_true
 | bl a=>
  cases ry
  cases x with
  | non=>cases rx;exact SeqAt.EqAt.bool_none a
  | bl b=>cases rx;exact SeqAt.EqAt.bool_bool a b
  | int b=>obtain ⟨t,rfl⟩:=rx;exact SeqAt.EqAt.bool_int a b t
  | str b=>obtain ⟨t,rfl⟩:=rx;exact SeqAt.EqAt.bool_str a b t
  | _=>exact absurd (show false=true from fx) Bool.false_ne_true
 | int a=>
  obtain ⟨t',rfl⟩:=ry
  cases x with
  | non=>cases rx;exact SeqAt.EqAt.int_none a t'
  | bl b=>cases rx;exact SeqAt.EqAt.int_bool a t' b
  | int b=>obtain ⟨t,rfl⟩:=rx;exact SeqAt.EqAt.int_int a t' b t
  | str b=>obtain ⟨t,rfl⟩:=rx;exact SeqAt.EqAt.int_str a t' b t
  | _=>exact absurd (show false=true from fx) Bool.false_ne_true
 | str a=>
  obtain ⟨t',rfl⟩:=ry
  cases x with
  | non=>cases rx;exact SeqAt.EqAt.str_none a t'
  | bl b=>cases rx;exact SeqAt.EqAt.str_bool a t' b
  | int b=>obtain ⟨t,rfl⟩:=rx;exact SeqAt.EqAt.str_int a t' b t
  | str b=>obtain ⟨t,rfl⟩:=rx;exact SeqAt.EqAt.str_str a t' b t
  | _=>exact absurd (show false=true from fx) Bool.false_ne_true
 | _=>exact absurd (show false=true from fy) Bool.false_ne_true
noncomputable def eqU (x:V) (u:Value):Bool:=match u with
 | .none=>eqV .non x
 | .bool b=>eqV (.bl b) x
 | .int i _=>eqV (.int i) x
 | .str z _=>eqV (.str z) x
 | _=>false
theorem eqU_of {x y:V} {u:Value} (r:RelV y u) (f:flatV y=true):eqU x u=eqV y x:=by
 cases y with
 | non=>cases r;rfl
 | bl b=>cases r;rfl
 | int i=>obtain ⟨t,rfl⟩:=r;rfl
 | str z=>obtain ⟨t,rfl⟩:=r;rfl
 | _=>exact absurd (show false=true from f) Bool.false_ne_true
theorem any_eqU {x:V} : ∀{xs:List V} {us:List Value},Vals xs us→xs.all flatV=true→us.any (eqU x)=xs.any fun y=>eqV y x
 | _,_, .nil,_=>rfl
 | y :: xs,u :: us, .cons r t,f=>by
  rw [List.all_cons,Bool.and_eq_true] at f
  rw [List.any_cons,List.any_cons,eqU_of r f.1,any_eqU t f.2]
theorem mem_eqAt {A:Around} {s:Shared} {x:V} {v:Value} (rx:RelV x v) (fx:flatV x=true):∀{xs:List V} {us:List Value},Vals xs us→xs.all flatV=true→∀u∈us,SeqAt.EqAt A s u v (eqU x u)
 | _,_, .nil,_=>fun u hu=>by cases hu
 | y :: xs,u :: us, .cons r t,f=>fun u' hu=>by
  rw [List.all_cons,Bool.and_eq_true] at f
  rcases List.mem_cons.mp hu with rfl|hu
  ·rw [eqU_of r f.1];exact eqAt_V r rx f.1 fx
  ·exact mem_eqAt rx fx t f.2 u' hu
noncomputable def inV (x:V) (xs:List V):Bool:=xs.any fun y=>eqV y x
noncomputable def rIn (K:PySem.W.Frag) (neg:Bool):R2:=fun x y H Q=>Ex2 fun p xs=>y = .ref p∧(SqL K H p xs∨SqT K H p xs)∧flatV x=true∧xs.all flatV=true∧Q (.bl (if neg then !inV x xs else inV x xs)) H
theorem op_in_seq:OpR X (compareOp .In) (rIn X.K false):=by
 intro pins s σ H x y v u Q I rx ry h
 obtain ⟨p,xs,rfl,hq,fx,fs,q⟩:=h
 cases ry
 rcases hq with hq|hq
 ·obtain ⟨its,r,pl,hz⟩:=I.list hq
  refine SeqAt.in_listAt (eqU x) pl.isList (fun w hw=>mem_eqAt rx fx r fs w (by simpa using hw)) ⟨.bl _,H,I,rfl,?_⟩
  rw [show its.toArray.any (eqU x)=its.any (eqU x) by simp,any_eqU r fs]
  exact q
 ·obtain ⟨its,r,pl,hz⟩:=I.tuple hq
  refine SeqAt.in_tupleAt (eqU x) pl (fun w hw=>mem_eqAt rx fx r fs w (by simpa using hw)) ⟨.bl _,H,I,rfl,?_⟩
  rw [show its.toArray.any (eqU x)=its.any (eqU x) by simp,any_eqU r fs]
  exact q
theorem CallR.or {f:Value} {r r':List V→Hp→VK→Prop} (h:CallR X f r) (h':CallR X f r'):CallR X f (fun xs H Q=>r xs H Q∨r' xs H Q):=by
 intro pins s σ H xs us Q I rs q
 rcases q with q|q
 ·exact h s σ H xs us Q I rs q
 ·exact h' s σ H xs us Q I rs q
theorem call_list_of:CallR X (.type "list") (fun xs H Q=>∃p ys,xs=[.ref p]∧(SqL X.K H p ys∨SqT X.K H p ys)∧∀l,H l=none→Q (.ref l) (upd H l (.lst ys))):=by
 intro pins s σ H xs us Q I r h
 obtain ⟨p,ys,rfl,hq,q⟩:=h
 obtain ⟨u,rfl,rx⟩:=vals1 r
 cases rx
 have fin:∀(its:List Value),Vals ys its→ys.length≤sizeLine→∀(h':Heap) (c':Nat),(∀b o',s.heap.get? b=some o'→h'.get? b=some o') →
   h'.get? s.heap.objs.size=some { cls := .type "list",dict:=none,data := .seq its.toArray c',slots := #[] } → EP X pins σ Q (.ref s.heap.objs.size) { s with heap:=h' }:=fun its r' hz h' c' kp e=>
  ⟨.ref s.heap.objs.size,_,I.laid (t':=s.toks) kp (Nat.le_refl _) (show ObjOk X.prog X.w _ h' _ (.lst ys) from ⟨hz,its,c',r',e⟩),rfl,q _ (I.hok.fresh (Nat.le_refl _))⟩
 rcases hq with hq|hq
 ·obtain ⟨its,r',pl,hz⟩:=I.list hq
  have hlen:=r'.length
  obtain ⟨o,ho,hc,n,hd⟩:=pl.isList
  exact call_list_seq p (.inl rfl) ho hc hd (fun h' c' kp e=>fin its r' hz h' c' kp e) (by simp only [List.size_toArray] <;> omega)
 ·obtain ⟨its,r',pl,hz⟩:=I.tuple hq
  have hlen:=r'.length
  obtain ⟨o,ho,hc,n,hd⟩:=pl
  exact call_list_seq p (.inr rfl) ho hc hd (fun h' c' kp e=>fin its r' hz h' c' kp e) (by simp only [List.size_toArray] <;> omega)
theorem call_tuple_of:CallR X (.type "tuple") (fun xs H Q=>∃p ys,xs=[.ref p]∧((SqL X.K H p ys∧∀l,H l=none→Q (.ref l) (upd H l (.tup ys)))∨(SqT X.K H p ys∧Q (.ref p) H))):=by
 intro pins s σ H xs us Q I r h
 obtain ⟨p,ys,rfl,h⟩:=h
 obtain ⟨u,rfl,rx⟩:=vals1 r
 cases rx
 rcases h with ⟨hq,q⟩|⟨hq,q⟩
 ·obtain ⟨its,r',pl,hz⟩:=I.list hq
  have hlen:=r'.length
  refine call_tuple_list pl.isList (fun h' kp => ?_) (by simp only [List.size_toArray] <;> omega)
  have I1:Inv X pins σ H { s with heap:=h' }:=I.kept (t':=s.toks) kp
  have I2:Inv X pins σ (upd H h'.objs.size (.tup ys)) { s with heap:=h'.push { cls := .type "tuple",data := .seq its.toArray } }:=
   I1.laid (t':=s.toks) (fun b o e=>Heap.get?_push_of_some _ e) (Nat.le_refl _) (show ObjOk X.prog X.w _ _ _ (.tup ys) from ⟨hz,its,r',IsTup.new _ _⟩)
  exact ⟨.ref h'.objs.size,_,I2,rfl,q _ (I1.hok.fresh (Nat.le_refl _))⟩
 ·obtain ⟨its,r',pl,hz⟩:=I.tuple hq
  exact call_tuple_same pl ⟨.ref p,H,I,rfl,q⟩
noncomputable def tyV (K:PySem.W.Frag) (T:String) (x:V) (H:Hp):Prop:=match x with
 | .str _=>T = "str"
 | .int _=>T = "int"
 | .ref p=>(T = "list" ∧ ∃xs,SqL K H p xs)∨(T = "tuple" ∧ ∃o,K.lookup p=some o∧o.cls = .type "tuple" ∧ o.dict=none) ∨
   (T = "dict" ∧ ((∃kvs,H p=some (.dK kvs))∨∃kvs,H p=some (.dT kvs)))∨(T = "set" ∧ Ex2 fun S n=>H p=some (.set S n))
 | _=>False
theorem tyV_is {pins:List (Addr×Obj)} {σ:St} {H:Hp} {s:Shared} {T:String} {x:V} {v:Value} (I:Inv X pins σ H s) (r:RelV x v) (ty:tyV X.K T x H) :
  s.TypeIs v T∧∀a,v = .ref a→∃ob,s.heap.get? a=some ob∧ob.dict=none:=by
 cases x with
 | str z=>
  obtain ⟨t,rfl⟩:=r
  cases (show T = "str" from ty)
  exact ⟨typeIs_str s z t,fun _ e=>nomatch e⟩
 | int i=>
  obtain ⟨t,rfl⟩:=r
  cases (show T = "int" from ty)
  exact ⟨typeIs_int s i t,fun _ e=>nomatch e⟩
 | ref p=>
  cases r
  rcases ty with ⟨rfl,xs,hq⟩|⟨rfl,o,hk,hc,hd⟩|⟨rfl,hk⟩|⟨rfl,S,n,hk⟩
  ·obtain ⟨its,_,pl,_⟩:=I.list hq
   refine ⟨pl.isList.typeIs,fun a e => ?_⟩
   cases e
   obtain ⟨o,n,e,c,hd,_⟩:=pl
   exact ⟨o,e,hd⟩
  ·refine ⟨⟨o,I.kIn p o hk,hc⟩,fun a e => ?_⟩
   cases e
   exact ⟨o,I.kIn _ o hk,hd⟩
  ·have z:∃o,s.heap.get? p=some o∧o.ExactDict:=by
    rcases hk with ⟨kvs,hk⟩|⟨kvs,hk⟩
    ·obtain ⟨_,_,_,_,o,_,_,e,ex,_⟩:=I.hok p _ hk
     exact ⟨o,e,ex⟩
    ·obtain ⟨_,_,_,_,o,_,_,e,ex,_⟩:=I.hok p _ hk
     exact ⟨o,e,ex⟩
   obtain ⟨o,e,ex⟩:=z
   refine ⟨⟨o,e,ex.1⟩,fun a e2 => ?_⟩
   cases e2
   exact ⟨o,e,ex.2.1⟩
  ·obtain ⟨o,_,_,_,e,ex,_⟩:=I.hok p _ hk
   refine ⟨⟨o,e,ex.1⟩,fun a e2 => ?_⟩
   cases e2
   exact ⟨o,e,ex.2.1⟩
 | _=>exact False.elim ty
noncomputable def tBM (K:PySem.W.Frag) (T:String) (r:V→List V→Hp→VK→Prop) (to:TE) (t:TA):TE:=fun σ H Q=>to σ H fun x H1=>tyV K T x H1∧t σ H1 fun xs H2=>r x xs H2 Q
variable {o e:Expr} {es:List Expr} {to:TE} {t:TA} {name:Str} {apos cpos:Pos} {T id:String} {r:V→List V→Hp→VK→Prop}
theorem pe_bm (pa:PlainAttrs T) (slot:Slot T name id) (hty:typeOf (.builtin id)=pure (.type "method_descriptor")) (hm:MtR X id r) (ho:PE X o to) (ha:PA X (e :: es) t)
  (hbase:attributeBase o name X.env (eval o X.env)=eval o X.env:=by rfl)
  (hfew:((backTo cpos (starEach (e :: es) X.env)).all (fun x => !x.1)&&(backToKw cpos (keywordEach [] X.env)).all (fun x=>x.1.isSome)
   && decide ((e :: es).length+([]:List Keyword).length+(if ([]:List Keyword).isEmpty then 0 else 1)<30))=true:=by rfl)
  (hline:(apos.endLine == cpos.line)=true:=by rfl) (hs:starEach (e :: es) X.env=(false,eval e X.env) :: starEach es X.env:=by rfl) (hplain:(backTo cpos (starEach es X.env)).any (·.1)=false:=by rfl) :
  PE X (.Call (.Attribute o name apos) (e :: es) [] cpos) (tBM X.K T r to t):=by
 intro pins s σ H Q I h
 refine wpAny_Call_method_late hbase hfew hline rfl (thn (ho s σ H _ I h) fun v s1 hz_ => ?_)
 refine Elim.el hz_ _ ?_
 clear hz_
 rintro x H1 I1 r1 ⟨ty,q1⟩
 obtain ⟨h1,h2⟩:=tyV_is I1 r1 ty
 refine ⟨T,id,pa,slot,hty,h1,h2,?_⟩
 have hA:=ha (pos:=cpos) s1 σ H1 _ I1 q1
 rw [hs] at hA ⊢
 refine Calls.callWith_builtin (by show (false||(backTo cpos (starEach es X.env)).any (·.1))=false;rw [hplain] <;> rfl) (Calls.evalArgs_plain ?_)
 exact thn hA fun us s2 hz_=>Elim.el hz_ _ fun vs H2 I2 r2 q2=>hm s2 σ H2 x vs v us Q I2 r1 r2 q2
end
end L2
namespace L2
open PySem PySem.Spec PyProof.Rows
noncomputable def MtM (X:Cx) (id:String) (r:V→List V→Hp→VK→Prop):Prop:=
 ∀ ⦃pins:List (Addr×Obj)⦄ (s:Shared) (σ:St) (H:Hp) (x:V) (xs:List V) (v:Value) (us:List Value) (Q:VK),Inv X pins σ H s→RelV x v→Vals xs us→r x xs H Q →
  wpAny (model X.prog X.w) X.A (call (.builtin id) (v :: us)) (EP X pins σ Q) X.xe s
theorem Vals.hd {x:V} {xs:List V} {us:List Value} (h:Vals (x :: xs) us):∃u r,us=u :: r∧RelV x u∧Vals xs r:=by
 cases h with|cons a b=>exact ⟨_,_,rfl,a,b⟩
theorem Vals.one {x:V} {us:List Value} (h:Vals [x] us):∃u,us=[u]∧RelV x u:=by
 obtain ⟨u,r,rfl,a,h⟩:=h.hd
 cases h
 exact ⟨_,rfl,a⟩
theorem Vals.two {x y:V} {us:List Value} (h:Vals [x,y] us):∃u v,us=[u,v]∧RelV x u∧RelV y v:=by
 obtain ⟨u,r,rfl,a,h⟩:=h.hd
 obtain ⟨v,rfl,b⟩:=h.one
 exact ⟨_,_,rfl,a,b⟩
theorem Vals.eraseIdx:∀{xs:List V} {us:List Value} (i:Nat),Vals xs us→Vals (xs.eraseIdx i) (us.eraseIdx i)
 | _,_,_, .nil => .nil
 | _,_,0, .cons _ t=>t
 | _,_,i+1, .cons r t => .cons r (Vals.eraseIdx i t)
theorem Vals.rep {xs:List V} {us:List Value} (h:Vals xs us):∀k:Nat,Vals (List.replicate k xs).flatten (List.replicate k us).flatten
 | 0 => .nil
 | k+1=>by
  rw [List.replicate_succ,List.replicate_succ,List.flatten_cons,List.flatten_cons]
  exact Vals.append h (Vals.rep h k)
theorem len_erase {α:Type} : ∀(l:List α) (i:Nat),(l.eraseIdx i).length≤l.length
 | [],_=>Nat.le_refl _
 | _ :: _,0=>Nat.le_succ _
 | _ :: r,i+1=>Nat.succ_le_succ (len_erase r i)
theorem foldl_rep (its:List Value):∀(k:Nat) (acc:List Value),
  List.foldl (fun x1 x2=>x1++x2) acc.toArray (List.replicate k its.toArray)=(acc++(List.replicate k its).flatten).toArray
 | 0,acc=>by simp
 | k+1,acc=>by
  have e:acc.toArray++its.toArray=(acc++its).toArray:=by simp
  have e2:(acc++its)++(List.replicate k its).flatten=acc++(List.replicate (k+1) its).flatten:=by
   rw [List.replicate_succ,List.flatten_cons,List.append_assoc]
  rw [←e2, ←foldl_rep its k (acc++its), ←e,List.replicate_succ,List.foldl_cons]
section
variable {X:Cx} {pins:List (Addr×Obj)} {σ:St} {H:Hp} {s:Shared} {l b:Addr} {xs ys zs:List V}
theorem Inv.lset {its its':List Value} {n:Nat} {f:Array Value→Array Value} {t':Nat} (I:Inv X pins σ H s) (hH:H l=some (.lst xs))
  (e:s.heap.get? l=some { cls := .type "list",data := .seq its.toArray n }) (hf:f its.toArray=its'.toArray) (hv:Vals ys its') (hz:ys.length≤sizeLine) :
  Inv X pins σ (upd H l (.lst ys)) { s with heap:=s.heap.update l (Obj.mapSeq f),toks:=t' }:=by
 have q:=PySem.IsL.update e f
 rw [hf] at q
 refine I.write (x:=l) (e:=l) (by rw [hH];exact trivial) (.inl rfl) (fun b' u hb hu=>(Heap.get?_update_other s.heap (Obj.mapSeq f) (Ne.symm hb)).trans hu) ⟨_,q⟩ ?_
 exact ⟨hz,its',_,hv,q⟩
theorem Inv.lnew {its:List Value} {t':Nat} (I:Inv X pins σ H s) (hv:Vals ys its) (hz:ys.length≤sizeLine) :
  Inv X pins σ (upd H s.heap.objs.size (.lst ys)) { s with heap:=s.heap.push { cls := .type "list",data := .seq its.toArray },toks:=t' }:=
 I.laid (fun _ _ q=>Heap.get?_push_of_some _ q) (Nat.le_refl _) ⟨hz,its,0,hv,Heap.get?_push_size _ rfl⟩
theorem Inv.fresh (I:Inv X pins σ H s):H s.heap.objs.size=none:=I.hok.fresh (Nat.le_refl _)
theorem Inv.lstM (I:Inv X pins σ H s) (hH:H l=some (.lst xs)):xs.length≤sizeLine∧∃(its:List Value) (n:Nat),Vals xs its∧xs.length=its.length∧s.heap.get? l=some { cls := .type "list",data := .seq its.toArray n }:=by
 obtain ⟨z,its,n,r,e⟩:=I.hok l _ hH
 exact ⟨z,its,n,r,r.length,e⟩
theorem notLongL {n:Nat} (h:n≤sizeLine):Builtin.List.listTooLong n=false:=by
 unfold Builtin.List.listTooLong
 exact decide_eq_false (by omega)
end
section
variable {X:Cx}
noncomputable def rAppend:V→List V→Hp→VK→Prop:=fun x vs H Q=>Ex3 fun l xs y=>x = .ref l∧vs=[y]∧H l=some (.lst xs)∧xs.length<sizeLine∧Q .non (upd H l (.lst (xs++[y])))
theorem mt_append:MtM X "list.append" rAppend:=by
 intro pins s σ H x vs v us Q I rx rv h
 obtain ⟨l,xs,y,rfl,rfl,hH,hz,q⟩:=h
 cases rx
 obtain ⟨u,rfl,ru⟩:=rv.one
 obtain ⟨z,its,n,r,hl,e⟩:=I.lstM hH
 refine call_meets F.slot_list_append ⟨_,e,rfl⟩ F.entry_list_append (F.args_list_append_2 _ _) (PySem.list_append l its.toArray n u (by rw [List.size_toArray];omega)) ⟨e,?_⟩
 refine ⟨.non,_,I.lset (its':=its++[u]) hH e (by simp) (r.append (.cons ru .nil)) ?_,rfl,q⟩
 rw [List.length_append,List.length_singleton]
 omega
noncomputable def rExtend:V→List V→Hp→VK→Prop:=fun x vs H Q=>Ex4 fun l b xs zs=>x = .ref l∧vs=[.ref b]∧H l=some (.lst xs)∧H b=some (.lst zs)∧xs.length+zs.length≤sizeLine∧Q .non (upd H l (.lst (xs++zs)))
theorem mt_extend:MtM X "list.extend" rExtend:=by
 intro pins s σ H x vs v us Q I rx rv h
 obtain ⟨l,b,xs,zs,rfl,rfl,hH,hB,hz,q⟩:=h
 cases rx
 obtain ⟨u,rfl,ru⟩:=rv.one
 cases ru
 obtain ⟨z,its,n,r,hl,e⟩:=I.lstM hH
 obtain ⟨z2,its2,n2,r2,hl2,e2⟩:=I.lstM hB
 have hsz:its.toArray.size+its2.toArray.size≤sizeLine:=by rw [List.size_toArray,List.size_toArray];omega
 have hlong:¬(!its.toArray.isEmpty&&Builtin.List.listTooLong (its.toArray.size+its2.toArray.size))=true:=by
  rw [notLongL hsz,Bool.and_false]
  exact Bool.false_ne_true
 refine call_meets F.slot_list_extend ⟨_,e,rfl⟩ F.entry_list_extend (F.args_list_extend_2 _ _)
  (AutoSeq1.list_extend_list_list_0 l its.toArray n b its2.toArray n2 hlong (by rw [List.size_toArray];omega) (by omega)) ⟨e,e2,?_⟩
 refine ⟨.non,_,I.lset (its':=its++its2) hH e (by simp) (r.append r2) ?_,rfl,q⟩
 rw [List.length_append]
 omega
noncomputable def rPopAt:V→List V→Hp→VK→Prop:=fun x vs H Q=>Ex5 fun l xs i k y=>x = .ref l∧vs=[.int i]∧H l=some (.lst xs) ∧ -(2 ^ 63)≤i∧i<2 ^ 63∧seqIndex? i xs.length=some k∧xs[k]? = some y∧Q y (upd H l (.lst (xs.eraseIdx k)))
theorem mt_popAt:MtM X "list.pop" rPopAt:=by
 intro pins s σ H x vs v us Q I rx rv h
 obtain ⟨l,xs,i,k,y,rfl,rfl,hH,h1,h2,hk,hy,q⟩:=h
 cases rx
 obtain ⟨u,rfl,ru⟩:=rv.one
 obtain ⟨t,rfl⟩:=ru
 obtain ⟨z,its,n,r,hl,e⟩:=I.lstM hH
 obtain ⟨w,hw,rw'⟩:=r.get hy
 refine call_meets F.slot_list_pop ⟨_,e,rfl⟩ F.entry_list_pop (F.args_list_pop_2 _ _)
  (MeetsSeq.list_pop_at l its.toArray n i t k w (fitsIndex_both h1 h2) (by rw [List.size_toArray, ←hl];exact hk) (by rw [←Array.getElem?_toList];exact hw) (by rw [List.size_toArray];omega)) ⟨e,?_⟩
 refine ⟨y,_,I.lset (its':=its.eraseIdx k) hH e ?_ (r.eraseIdx k) ?_,rw',q⟩
 ·show its.toArray.eraseIdxIfInBounds k=(its.eraseIdx k).toArray
  rw [List.eraseIdxIfInBounds_toArray]
 ·have:=len_erase xs k
  omega
noncomputable def rCat:R2:=fun x y H Q=>Ex4 fun l b xs zs=>x = .ref l∧y = .ref b∧H l=some (.lst xs)∧H b=some (.lst zs)∧xs.length+zs.length≤sizeLine∧∀p,H p=none→Q (.ref p) (upd H p (.lst (xs++zs)))
theorem op_cat:OpR X (binaryOp .Add) rCat:=by
 intro pins s σ H x y v u Q I rx ry h
 obtain ⟨l,b,xs,zs,rfl,rfl,hH,hB,hz,q⟩:=h
 cases rx
 cases ry
 obtain ⟨z,its,n,r,hl,e⟩:=I.lstM hH
 obtain ⟨z2,its2,n2,r2,hl2,e2⟩:=I.lstM hB
 refine PySem.P.add_list e e2 ?_ (by rw [List.size_toArray,List.size_toArray];omega)
 have ea:its.toArray++its2.toArray=(its++its2).toArray:=by simp
 rw [ea]
 exact ⟨.ref _,_,I.lnew (t':=s.toks) (r.append r2) (by rw [List.length_append];omega),rfl,q _ I.fresh⟩
noncomputable def rRep:R2:=fun x y H Q=>Ex3 fun l k xs=>x = .ref l∧y = .int k∧H l=some (.lst xs) ∧ -(2 ^ 63)≤k∧k<2 ^ 63∧xs.length*k.toNat≤sizeLine ∧
 ∀p,H p=none→Q (.ref p) (upd H p (.lst (List.replicate k.toNat xs).flatten))
theorem len_rep {α:Type} (xs:List α) (k:Nat):(List.replicate k xs).flatten.length=k*xs.length:=by
 induction k with
 | zero=>simp
 | succ k ih=>rw [List.replicate_succ,List.flatten_cons,List.length_append,ih,Nat.succ_mul,Nat.add_comm]
theorem op_rep:OpR X (binaryOp .Mult) rRep:=by
 intro pins s σ H x y v u Q I rx ry h
 obtain ⟨l,k,xs,rfl,rfl,hH,h1,h2,hz,q⟩:=h
 cases rx
 obtain ⟨t,rfl⟩:=ry
 obtain ⟨z,its,n,r,hl,e⟩:=I.lstM hH
 have hlen:its.toArray.size*k.toNat≤sizeLine:=by rw [List.size_toArray, ←hl];exact hz
 have hcap:¬its.toArray.size*k.toNat>(2 ^ 63-1) / 8:=by
  have:(sizeLine:Nat)≤(2 ^ 63-1) / 8:=by decide
  omega
 have hfit:¬(!Builtin.List.listFitsIndex k)=true:=by
  rw [fitsIndex_both h1 h2]
  exact Bool.false_ne_true
 have hlong:¬Builtin.List.listTooLong (its.toArray.size*k.toNat)=true:=by
  rw [notLongL hlen]
  exact Bool.false_ne_true
 have hnew:List.foldl (fun x1 x2=>x1++x2) #[] (List.replicate (if its.toArray.isEmpty=true then 0 else k.toNat) its.toArray)=(List.replicate k.toNat its).flatten.toArray:=by
  have f0:∀m:Nat,List.foldl (fun x1 x2=>x1++x2) #[] (List.replicate m its.toArray)=(List.replicate m its).flatten.toArray:=fun m=>by
   have:=foldl_rep its m []
   rw [List.nil_append] at this
   exact this
  rw [f0]
  cases its with
  | nil=>simp
  | cons a r'=>rw [if_neg (by simp)]
 refine wpAny_binaryOp_repeat_ref (T := "list") (U := "int") (by decide) ⟨_,e,rfl⟩ (fun s'=>typeIs_int s' k t) noFill_list_mul F.fills_int_mul F.slot_int_rmul repeat_list F.slot_int_index.lookup
  (call_meets F.slot_int_rmul (typeIs_int s k t) F.entry_int_rmul (F.args_int_rmul_2 _ _) (int___rmul___int_list k t l its.toArray n)
   ⟨e,rfl,⟨_,e,rfl⟩,call_meets F.slot_list_mul ⟨_,e,rfl⟩ F.entry_list_mul (F.args_list_mul_2 _ _) (AutoListH.list___mul___list_int_3 l its.toArray n k t hfit hcap hlong) ⟨e,?_⟩⟩)
 rw [hnew]
 exact ⟨.ref _,_,I.lnew (t':=s.toks) (r.rep k.toNat) (by rw [len_rep,Nat.mul_comm];exact hz),rfl,q _ I.fresh⟩
end
section
variable {prog:Program} {w:World} {A:Around} {E:Value→Shared→Prop} {s:Shared}
set_option maxRecDepth 100000 in
end
section
variable {X:Cx}
end
end L2
namespace Att
open PySem PySem.W PySem.Calls PyProof.Rows
theorem ints_of_wellAll {P:Params} {h:Heap} : ∀(ns:List Int) (vs:List Value),WellAll P h vs (ns.map WData.int)→IntsAre vs ns:=by
 intro ns
 induction ns with
 | nil=>
  intro vs w
  rw [List.map_nil] at w
  cases w
  exact .nil
 | cons n ns ih=>
  intro vs w
  rw [List.map_cons] at w
  cases w with
  | cons a b=>
   cases a
   exact .cons _ _ (ih _ b)
theorem script_of {l:OpenLaw} {n:Nat} (hn:l.most=some n) {P:Params} {h:Heap} {args:List WData} {vals:List Value}
  (hpre:l.row.toRowW.claim.pre args=true) (hwl:WellAll P h vals args) :
  ∃a vs ns,vals=[Value.ref a]∧args=[WData.list (ns.map WData.int)]∧h.get? a=some { cls := .type "list",data := .seq vs.toArray } ∧ IntsAre vs ns∧ns.length≤n:=by
 have hsh:WShape.hasAll [] args [.list .int]=true:=(pre_splitW hpre).1
 have hc:l.pre.holds [] { args:=args } = true:=(pre_splitW hpre).2
 obtain ⟨d,r,rfl,h1,h2⟩:=hasAllW_cons hsh
 obtain rfl:=hasAllW_nil h2
 obtain ⟨xs,rfl,h3⟩:=hasW_list h1
 obtain ⟨ns,rfl⟩:=items_int h3
 have hlen:ns.length≤n:=by
  unfold OpenLaw.pre at hc
  have h4:(WTm.not (.lt (.lit (.int (n:Int))) (.len (.arg 0)))).holds [] { args:=[.list (ns.map .int)] } = true:=by
   have h4:=(holds_andW hc).1
   rw [hn] at h4
   exact h4
  have h5:=condW_of h4 (w_not (w_lt w_lit (w_len_list (w_arg rfl))))
  rw [List.length_map] at h5
  refine Nat.le_of_not_lt fun q => ?_
  have q':(n:Int)<((ns.length:Nat):Int):=by omega
  first
   | (rw [decide_eq_true q'] at h5;exact absurd h5 (by decide))
   | (simp at h5;omega)
 cases hwl with
 | cons w1 w2=>
  cases w2
  cases w1 with
  | list ho hall=>exact ⟨_,_,ns,rfl,rfl,ho,ints_of_wellAll ns _ hall,hlen⟩
theorem post_true (l:OpenLaw) (args:List WData):l.row.toRowW.claim.post args (.bool true) args=true:=
 postW_of (r:=l.row.toRowW) (X:=(true == true))
  (show WShape.has [] (.bool true) .bool=true by first|rfl|decide|simp [WShape.has,WShape.arms,WShape.armsAll])
  (show (WTm.eq .res (.lit (.bool true))).value [] { args:=args,res:=some (.bool true),after:=args } = some (.bool (true == true)) from w_eq_bool (w_res rfl) w_lit) rfl
theorem attach_call {l:OpenLaw} {n:Nat} {q:Program} {loose:List Str} {XP:(Str→Option Value)→Heap→Prop} {YP:World→Heap→Prop} {d:DefRec}
  (hn:l.most=some n) (hdf:d.params.defaults=[])
  (call:∀(w:World) (s₀ s₁:Shared) (mg mb:Str→Option Value) (fa:Addr) (o:Obj) (pm cd doc:Value) (a:Addr) (vs:List Value) (ns:List Int),
   Ground q loose [] XP w s₀ mg mb s₁.heap→YP w s₁.heap →
   s₁.heap.get? fa=some o→o.data = .func (docDef d.name d.params d.body d.scope pm cd doc)→s₁.heap.CodeRec cd d.name→mg d.name=some (.ref fa) →
   s₁.heap.get? a=some { cls := .type "list",data := .seq vs.toArray } → IntsAre vs ns→ns.length≤n→s₁.gens = #[] →
   codeAny (model l.prog w) callerA (.call (.ref fa) ⟨[.ref a],[]⟩) (fun r s'=>r = .ok (.ret (.bool true))∧OldK s₁.heap s'.heap∧s'.os=s₁.os∧AllBare s'.gens) s₁) :
  WalkO q loose XP YP l.row.toRowW d [] (fun f vs=>PySem.call f vs):=by
 intro w s₀ s₁ mg mb G Y fa o pm cd doc dV kV ho hd hcd hD hmg hg args vals as hpre hlay hrd hwl hlo
 obtain rfl:dV = .none:=Dflts.none hD hdf
 obtain rfl:kV = .none:=Dflts.noKw hD
 obtain ⟨a,vs,ns,rfl,rfl,hobj,hints,hlen⟩:=script_of hn hpre hwl
 refine enter_call (codeAny_mono (call w s₀ s₁ mg mb fa o pm cd doc a vs ns G Y ho (fd_plain hd) hcd hmg hobj hints hlen hg) fun r s' hq => ?_)
 obtain ⟨rfl,h2,h3,h4⟩:=hq
 exact ⟨.inl ⟨.bool true, .bool true,[],rfl,fun _=>rfl, .bool true,post_true l _,fun _=>⟨List.Pairwise.nil,fun _ hm=>(nomatch hm)⟩⟩,h2,h3,h4⟩
section
variable {prog:Program} {w:World} {A:Around} {E:Value→Shared→Prop} {s:Shared} {K:Frag}
end
end Att
namespace L2
open PySem PySem.Spec PyProof.Rows
theorem vals_ints {vs:List Value} {ns:List Int} (h:IntsAre vs ns):Vals (ns.map V.int) vs:=by
 induction h with
 | nil=>exact .nil
 | cons n t h ih=>exact .cons ⟨t,rfl⟩ ih
noncomputable def Only (H:Hp):Prop:=∀b,H b=none∨Ex2 fun o xs=>H b=some (.frz o (.lst xs))
theorem law_call {P:Program} {w:World} {K:PySem.W.Frag} {mg mb:Str→Option Value} {CX:CXT} {k:Nat} {fa a:Addr} {fd:FuncData} {x:Str} {sp:Sp} {s₁:Shared} {vs:List Value} {ns:List Int}
  (KX:K.In s₁.heap) (hns:s₁.heap.Ns mainGlobals mg) (hb:s₁.heap.Ns builtinsNs mb) (hbb:∀x:Str,x ≠ "__name__" → mb x=bootBuiltins x) (hlim:s₁.heap.NoLimit) (hg:s₁.gens = #[])
  (ha:s₁.heap.get? a=some { cls := .type "list",data := .seq vs.toArray }) (hi:IntsAre vs ns) (hl:ns.length≤sizeLine) (hr:Room k callerA)
  (F:∀base:Heap,K.In base→base.Ns mainGlobals mg→FnOk P w K mg base CX k fa fd [x] sp) (hbind:∀(s:Shared) (u:Value),BindsTo s fd ⟨[u],[]⟩ [(x,u)])
  (hsp:∀H:Hp,Only H→SqL K H a (ns.map V.int)→sp [.ref a] H (fun v _=>v = .bl true) fun _ _ _=>False)
  (hCX:∀H e s',CX [] H s₁ (fun _ _ _=>False) e s'→False) :
  codeAny (model P w) callerA (.call (.ref fa) ⟨[.ref a],[]⟩) (fun r s'=>r = .ok (.ret (.bool true))∧OldK s₁.heap s'.heap∧s'.os=s₁.os∧AllBare s'.gens) s₁:=by
 have rv:=vals_ints hi
 have lenV:=hi.length
 have core:∀H:Hp,Only H→SqL K H a (ns.map V.int)→HOk P w H s₁.heap→(∀b,H b≠none→b=a)→(H a≠none→K.lookup a=none) →
   codeAny (model P w) callerA (.call (.ref fa) ⟨[.ref a],[]⟩) (fun r s'=>r = .ok (.ret (.bool true))∧OldK s₁.heap s'.heap∧s'.os=s₁.os∧AllBare s'.gens) s₁:=by
  intro H hO hS hok hA hK
  have base_of:∀{b:Addr} {o:Obj},s₁.heap.get? b=some o→H b=none→(hidT s₁.heap H).get? b=some o:=fun e n=>hidT_get e n
  have noA:∀{b:Addr} {o:Obj} {es:Array DictEntry} {ep:Nat},s₁.heap.get? b=some o→o.data = .dict es ep→H b=none:=fun {b o es ep} e d=>by
   cases q:H b with
   | none=>rfl
   | some u=>
    have e':b=a:=hA b (by rw [q];simp)
    subst e'
    rw [ha] at e;cases e
    have d':Data.seq vs.toArray _=Data.dict es ep:=d
    cases d'
  have nsK:∀{b:Addr} {m:Str→Option Value},s₁.heap.Ns b m→(hidT s₁.heap H).Ns b m:=fun {b m} ⟨o,es,ep,e,d,r⟩=>⟨o,es,ep,base_of e (noA e d),d,r⟩
  have hKb:K.In (hidT s₁.heap H):=fun b o e=>base_of (KX b o e) (by
   cases q:H b with
   | none=>rfl
   | some u=>
    have e':b=a:=hA b (by rw [q];simp)
    subst e'
    rw [hK (by rw [q];simp)] at e;cases e)
  have hM:Mod K mg (hidT s₁.heap H):=⟨hKb,nsK hns,⟨mb,nsK hb,hbb⟩,let ⟨mc,h1,h2⟩:=hlim; ⟨mc,nsK h1,h2⟩⟩
  have e0:Env0 P w K mg (hidT s₁.heap H) callerA [] s₁ H:=⟨rfl,hM,fun b o e=>of_hidT e,Nat.le_of_eq (hidT_size _ _),trivial,fun b hb=>absurd (show b∈([]:List Addr) from hb) (by simp),hok, .of_eq hg⟩
  refine codeAny_mono ((F _ hKb (nsK hns)).run callerA [] s₁ H ⟨[.ref a],[]⟩ [.ref a] [.ref a] _ _ hr e0 (hbind s₁ (.ref a)) (.cons rfl .nil) (hsp H hO hS)) fun r s' h => ?_
  cases r with
  | error e=>exact (hCX H e s' h).elim
  | ok fl=>
   cases fl with
   | next=>exact False.elim h
   | brk=>exact False.elim h
   | cont=>exact False.elim h
   | ret u=>
    obtain ⟨v,H',os,bare,un,hok',r',q⟩:=h
    have q':v = .bl true:=q
    subst q'
    obtain rfl:u=Value.bool true:=r'
    refine ⟨rfl,OldK.of_keep fun b o e => ?_,os,bare⟩
    cases q:H b with
    | none=>exact un.keep b o e q (by intro z;exact absurd (show b∈([]:List Addr) from z) (by simp)) (by simp)
    | some u=>
     rcases hO b with z|⟨ob,xs,z⟩
     ·rw [q] at z;cases z
     ·have z2:=un.frzs b ob _ z
      obtain ⟨e1,_⟩:=hok b _ z
      obtain ⟨e2,_⟩:=hok' b _ z2
      rw [e] at e1;cases e1
      exact e2
 cases hk:K.lookup a with
 | some o=>
  have e:=KX a o hk
  rw [ha] at e
  cases e
  refine core (fun _=>none) (fun _ => .inl rfl) (.inr ⟨_,vs.toArray,_,hk,rfl,rfl,rfl,by rw [List.size_toArray,lenV];exact hl,by simpa using rv⟩) (fun b u z=>by have z':(none:Option HO)=some u:=z;cases z') (fun b z=>absurd rfl z) fun z=>absurd rfl z
 | none=>
  refine core (fun b=>if b=a then some (.frz { cls := .type "list",data := .seq vs.toArray } (.lst (ns.map V.int))) else none) (fun b => ?_) (.inl (.inr ⟨{ cls := .type "list",data := .seq vs.toArray },if_pos rfl⟩)) (fun b u z => ?_) (fun b z => ?_) fun _=>hk
  ·by_cases hb:b=a
   ·exact .inr ⟨_,_,if_pos hb⟩
   ·exact .inl (if_neg hb)
  ·by_cases hb:b=a
   ·have z':=(if_pos hb).symm.trans z
    cases z'
    subst hb
    exact ⟨ha,by rw [List.length_map];exact hl,vs,_,rv,ha⟩
   ·have z':=(if_neg hb).symm.trans z
    cases z'
  ·by_cases hb:b=a
   ·exact hb
   ·exact absurd (if_neg hb) z
end L2
namespace L2
open PySem PySem.Spec PyProof.Rows
theorem walk_of {l:PySem.W.OpenLaw} {n k:Nat} {q:Program} {loose:List Str} {XP:(Str→Option Value)→Heap→Prop} {YP:World→Heap→Prop} {d:DefRec} {K:Params→PySem.W.Frag} {CX:World→CXT} {sp:World→Sp} {x:Str}
  (hn:l.most=some n) (hn2:n≤sizeLine) (hdf:d.params.defaults=[]) (hr:Room k callerA)
  (hY:∀(w:World) (h:Heap),YP w h→(K w.params).In h)
  (F:∀(w:World) (mg:Str→Option Value) (fa:Addr) (h:Heap),(K w.params).In h→h.Ns mainGlobals mg→mg d.name=some (.ref fa) →
   ∃fd:FuncData,(∀(s:Shared) (u:Value),BindsTo s fd ⟨[u],[]⟩ [(x,u)]) ∧
    ∀base:Heap,(K w.params).In base→base.Ns mainGlobals mg→FnOk l.prog w (K w.params) mg base (CX w) k fa fd [x] (sp w))
  (hsp:∀(w:World) (H:Hp) (a:Addr) (ns:List Int),ns.length≤n→Only H→SqL (K w.params) H a (ns.map V.int)→sp w [.ref a] H (fun v _=>v = .bl true) fun _ _ _=>False)
  (hCX:∀(w:World) (H:Hp) (s:Shared) (e:Value) (s':Shared),CX w [] H s (fun _ _ _=>False) e s'→False) :
  PySem.W.WalkO q loose XP YP l.row.toRowW d [] (fun f vs=>PySem.call f vs):=by
 refine Att.attach_call hn hdf fun w s₀ s₁ mg mb fa o pm cd doc a vs ns G Y ho hd hcd hmg hobj hints hlen hg => ?_
 have KX:=hY w _ Y
 obtain ⟨fd,hb,hF⟩:=F w mg fa _ KX G.T.g hmg
 exact law_call KX G.T.g G.T.b G.T.builtins G.T.nolimit hg hobj hints (Nat.le_trans hlen hn2) hr hF hb (fun H hO hS=>hsp w H a ns hlen hO hS) fun H e s'=>hCX w H s₁ e s'
end L2
namespace L2
open PySem PySem.Spec PyProof.Rows
noncomputable def defArgs (s:Stmt):Arguments:=match s with
 | .FunctionDef _ a _ _ _ _ _ _ _ _=>a
 | _=>{ posonlyargs:=[],args:=[],vararg:=none,kwonlyargs:=[],kw_defaults:=[],kwarg:=none,defaults:=[] }
noncomputable def defBody (s:Stmt):List Stmt:=match s with
 | .FunctionDef _ _ b _ _ _ _ _ _ _=>b
 | _=>[]
noncomputable def defScope (s:Stmt):Scope:=match s with
 | .FunctionDef _ _ _ _ _ _ sc _ _ _=>sc
 | _=>{ kind := .function,names:=[],isGenerator:=false,isCoroutine:=false }
noncomputable abbrev CX0:CXT:=fun _ _ _ _ _ _=>False
noncomputable abbrev E0:XK:=fun _ _ _=>False
theorem pass0 {X:Cx} : Passes CX0 X E0:=fun _ _ _ _ _ _ _ h=>h.elim
structure Fun (K:PySem.W.Frag) (x qual:Str) (st:Stmt) (f:Addr) (fd:FuncData):Prop where
 ex:∃(oc:Value) (od:Option Addr) (kV doc pm:Value) (an:Option Addr) (cdv ct:Value) (osl:Array (Option Value)),
  fd=PySem.W.fnOf x qual (defArgs st) (defBody st) (defScope st) .none kV doc pm an cdv ct∧K.lookup f=some ⟨oc,od, .func fd,osl⟩∧PySem.W.codeIn K cdv qual=true
 kp:PySem.W.keepIn K (.ref f)=true
section
variable {P:Program} {w:World} {K:PySem.W.Frag} {mg:Str→Option Value} {base:Heap}
theorem Fun.ok {x qual:Str} {st:Stmt} {f:Addr} {fd:FuncData} {N ps:List Str} {k:Nat} {sp:Sp} (F:Fun K x qual st f fd) (S:FnScope N ps (defScope st)) (len:∀vs H Q E,sp vs H Q E→vs.length=ps.length)
  (hbody:∀(cdv:Value) (A:Around) (outer:List Env) (s:Shared) (H:Hp) (vs:List V) (Q:VK) (E:XK),Room k (A.deeper (envOfC qual (defScope st) s.heap.objs.size f cdv))→sp vs H Q E →
   ∃t,PSs (cxOf CX0 P w K mg base N qual (defScope st) f cdv A outer s H E).nox (defBody st) t∧t { nx:=fun _ H'=>Q .non H',rt:=Q } (start N vs) H):FnOk P w K mg base CX0 (k+1) f fd ps sp:=by
 obtain ⟨oc,od,kV,doc,pm,an,cdv,ct,osl,rfl,lk,hcd⟩:=F.ex
 refine fn_of lk hcd S len fun A outer s H vs Q E hr hsp => ?_
 obtain ⟨t,h,q⟩:=hbody cdv A outer s H vs Q E hr hsp
 exact ⟨t,h.nox,q⟩
theorem Fun.binds {x qual:Str} {st:Stmt} {f:Addr} {fd:FuncData} {ps:List Str} (F:Fun K x qual st f fd)
  (h:∀(kV doc pm:Value) (an:Option Addr) (cdv ct:Value) (us:List Value),us.length=ps.length→bindArgs (PySem.W.fnOf x qual (defArgs st) (defBody st) (defScope st) .none kV doc pm an cdv ct) ⟨us,[]⟩=pure (ps.zip us)):Binds K fd ps []:=by
 obtain ⟨oc,od,kV,doc,pm,an,cdv,ct,osl,rfl,lk,hcd⟩:=F.ex
 exact .all (h kV doc pm an cdv ct)
theorem fun_mk {x qual:Str} {st:Stmt} {f:Addr} {oc:Value} {od an:Option Addr} {osl:Array (Option Value)} {kV doc pm cdv ct:Value} (l:K.lookup f=some ⟨oc,od, .func (PySem.W.fnOf x qual (defArgs st) (defBody st) (defScope st) .none kV doc pm an cdv ct),osl⟩)
  (c:PySem.W.codeIn K cdv qual=true) (k:PySem.W.keepIn K (.ref f)=true):Fun K x qual st f (PySem.W.fnOf x qual (defArgs st) (defBody st) (defScope st) .none kV doc pm an cdv ct):=⟨⟨oc,od,kV,doc,pm,an,cdv,ct,osl,rfl,l,c⟩,k⟩
end
theorem hu_of {A:Around} {k:Nat} (hr:Room k A):A.units+1<cLine:=Nat.lt_of_le_of_lt (Nat.add_le_add_left (by decide:1≤64) _) hr.units
section
variable {X:Cx}
theorem pv (i:Nat) {x:Str} {pos:Pos} (hN:X.N[i]? = some x:=by rfl) (hv:Vis X.env.scope x:=by first|exact Or.inl rfl|exact Or.inr (Or.inl rfl)|exact Or.inr (Or.inr rfl)) (hd:(x == ("__debug__" : Str))=false:=by decide)
  (hcd:(x == ("__classdict__" : Str))=false:=by decide):PE X (.Name x pos) (tVar i):=pe_var hN hv hd hcd
end
theorem iteF {A B:Prop} (h:B):if false=true then A else B:=by
 rw [if_neg Bool.false_ne_true]
 exact h
theorem iteT {A B:Prop} (h:A):if true=true then A else B:=by
 rw [if_pos rfl]
 exact h
theorem ite2 {c A B:Prop} [Decidable c] (h1:c→A) (h2:¬c→B):if c then A else B:=by
 by_cases h:c
 ·rw [if_pos h]
  exact h1 h
 ·rw [if_neg h]
  exact h2 h
noncomputable def Same (H H':Hp):Prop:=∀b o,H b=some o→H' b=some o
theorem Same.refl (H:Hp):Same H H:=fun _ _ h=>h
theorem Same.trans {H H1 H2:Hp} (a:Same H H1) (b:Same H1 H2):Same H H2:=fun c o h=>b c o (a c o h)
theorem Same.free {H H':Hp} (e:Same H H') {l:Addr} (h:H' l=Option.none):H l=Option.none:=by
 cases q:H l with
 | none=>rfl
 | some o=>
  rw [e l o q] at h
  cases h
theorem Same.seq {K:PySem.W.Frag} {H H':Hp} {a:Addr} {xs:List V} (e:Same H H') (h:SqL K H a xs):SqL K H' a xs:=by
 rcases h with (h|⟨o,h⟩)|h
 ·exact .inl (.inl (e _ _ h))
 ·exact .inl (.inr ⟨o,e _ _ h⟩)
 ·exact .inr h
end L2
namespace L2
open PySem PySem.Spec PyProof.Rows
section
variable {X:Cx}
theorem call_lenD:CallR X (.builtin "len") (fun xs H Q=>∃a kvs,xs=[V.ref a]∧H a=some (.dK kvs)∧Q (.int kvs.length) H):=by
 intro pins s σ H xs us Q I r h
 obtain ⟨a,kvs,rfl,ha,q⟩:=h
 obtain ⟨u,rfl,ru⟩:=vals1 r
 cases ru
 exact d_len I (.inl ha) fun t s' I'=>⟨.int kvs.length,H,I',⟨t,rfl⟩,q⟩
end
end L2
namespace L2
open PySem PySem.Spec PyProof.Rows
section
variable {κ:Type} [DecidableEq κ]
end
end L2
set_option maxHeartbeats 4000000
namespace L2
open PySem PySem.Spec PyProof.Rows
noncomputable abbrev noE:Value→Shared→Prop:=fun _ _=>False
theorem noE_to {α:Type} {M:Model} {A:Around} {t:Sem α} {Q : α→Shared→Prop} {E:Value→Shared→Prop} {s:Shared} (h:wpAny M A t Q noE s):wpAny M A t Q E s:=
 wpAny_mono h (fun _ _ q=>q) fun _ _ z=>z.elim
theorem addr_ne {a b:Addr} {n:Nat} (h:a<n) (h':n≤b):a≠b:=fun e=>absurd (Nat.lt_of_lt_of_le h h') (by rw [e];exact Nat.lt_irrefl _)
theorem addr_ne' {a b:Addr} {n:Nat} (h:a<n) (h':n≤b):b≠a:=fun e=>addr_ne h h' e.symm
theorem closure_go (env:Env):∀(names:List (Str×NameKind)) (acc:List (Str×Addr)),
  (∀y∈names,y.2 = .free→∃c,env.cells.lookup y.1=some c)→(∀n c,acc.lookup n=some c→env.cells.lookup n=some c) →
  ∃cl,(forIn names acc fun (x:Str×NameKind) (cs:List (Str×Addr))=>(if (x.2 == NameKind.free)=true then do
    let a ←cellOf env x.1
    pure (ForInStep.yield ((x.1,a) :: cs)) else pure (ForInStep.yield cs):Sem (ForInStep (List (Str×Addr)))))=pure cl ∧
   (∀n c,cl.lookup n=some c→env.cells.lookup n=some c)∧(∀n c,acc.lookup n=some c→∃c',cl.lookup n=some c')∧∀y∈names,y.2 = .free→∃c,cl.lookup y.1=some c
 | [],acc,_,h2=>⟨acc,rfl,h2,fun _ c h=>⟨c,h⟩,fun _ h=>nomatch h⟩
 | (n,k) :: r,acc,h1,h2=>by
  have hr:∀y∈r,y.2 = .free→∃c,env.cells.lookup y.1=some c:=fun y hy=>h1 y (List.mem_cons_of_mem _ hy)
  by_cases hk:k = .free
  ·subst hk
   obtain ⟨c,hc⟩:=h1 (n, .free) List.mem_cons_self rfl
   obtain ⟨cl,e,p1,p2,p3⟩:=closure_go env r ((n,c) :: acc) hr (fun m d hm=>by
    rw [List.lookup_cons] at hm
    by_cases q:m == n
    ·rw [q] at hm
     have:m=n:=by simpa using q
     subst this
     cases hm
     exact hc
    ·have q':(m == n)=false:=by simpa using q
     rw [q'] at hm
     exact h2 m d hm)
   refine ⟨cl,?_,p1,fun m d hm => ?_,fun y hy hf => ?_⟩
   ·rw [List.forIn_cons]
    rw [←e]
    show (cellOf env n >>= fun a=>_) >>= _=_
    unfold cellOf
    rw [hc]
    rfl
   ·by_cases q:m=n
    ·subst q
     exact p2 m c (by rw [List.lookup_cons];simp)
    ·exact p2 m d (by rw [List.lookup_cons];simp -iota only [beq_eq_false_iff_ne.mpr q];exact hm)
   ·rcases List.mem_cons.mp hy with rfl|hy
    ·exact p2 n c (by rw [List.lookup_cons];simp)
    ·exact p3 y hy hf
  ·refine Elim.el (closure_go env r acc hr h2) _ ?_
   rintro cl e p1 p2 p3
   refine ⟨cl,?_,p1,p2,fun y hy hf => ?_⟩
   ·rw [List.forIn_cons, ←e]
    have hb:(k == NameKind.free)=false:=by simpa using hk
    simp -iota only [hb,Bool.false_eq_true,if_false]
    rfl
   ·rcases List.mem_cons.mp hy with rfl|hy
    ·exact absurd hf hk
    ·exact p3 y hy hf
theorem closure_of {scope:Scope} {env:Env} (h:∀y∈scope.names,y.2 = .free→∃c,env.cells.lookup y.1=some c) :
  ∃cl,closureFor scope env=pure cl∧(∀n c,cl.lookup n=some c→env.cells.lookup n=some c)∧∀y∈scope.names,y.2 = .free→∃c,cl.lookup y.1=some c:=by
 obtain ⟨cl,e,p1,_,p3⟩:=closure_go env scope.names [] h (fun n c h=>by simp at h)
 refine ⟨cl,?_,p1,p3⟩
 unfold closureFor
 refine Eq.trans ?_ (congrArg (fun m=>m >>= fun (cs:List (Str×Addr))=>(pure cs:Sem _)) e)
 rfl
noncomputable def testsOf (ifs:List Expr) (env:Env):Sem Bool:=forIn ifs true fun c r=>if r=true then do let ok ←isTrue c env (eval c env);pure (ForInStep.yield ok) else pure (ForInStep.yield r)
section
variable {prog:Program} {w:World} {A:Around} {R:Result→Shared→Prop} {s:Shared}
theorem comp_turns {elt target iter:Expr} {ifs:List Expr} {scope:Scope} {pos:Pos} {it acc:Value} {env:Env} (I:Nat→Shared→Prop)
  (turn:∀n s,I n s→wpAny (model prog w) A (pyNext it) (fun r s1=>match r with
   | none=>R (.ok .next) s1
   | some v=>wpAny (model prog w) A (letOwnedTupleGo target it v) (fun _ s1'=>wpAny (model prog w) A (assign target env v) (fun _ s2=>
     wpAny (model prog w) A (testsOf ifs env) (fun ok s3=>
      if ok=true then wpAny (model prog w) A (eval elt env) (fun x s4=>
       wpAny (model prog w) A (call (.builtin "list.append") [acc,x]) (fun _ s5=>∃m,m<n∧I m s5) noE s4) noE s3
      else ∃m,m<n∧I m s3) noE s2) noE s1') noE s1) noE s)
  (n:Nat) (h:I n s):codeAny (model prog w) A (.compLoop (.ListComp elt [⟨target,iter,ifs,0⟩] scope pos) 0 it acc env) R s:=by
 refine codeAny_loop rfl I (fun n s hI=>(show wpAny _ A (Sem.onRaise (compTurn (.ListComp elt [⟨target,iter,ifs,0⟩] scope pos) 0 it acc env) (fun x=>do noteFrame x env;theTreesLotGoes x)) _ _ s from wpAny_noted ?_)) n h
 rw [compTurn_list]
 refine wpAny_bind (wpAny_standAt (wpAny_bind (noE_to (thn (turn n s hI) fun r s1 h1 => ?_))))
 cases r with
 | none=>exact wpAny_pure h1
 | some v=>
  refine wpAny_bind (noE_to (thn h1 fun _ s1' h1' => ?_))
  refine wpAny_bind (noE_to (thn h1' fun _ s2 h2=>wpAny_bind (noE_to (thn h2 fun ok s3 h3 => ?_))))
  cases ok with
  | false=>exact wpAny_pure ⟨rfl,h3⟩
  | true=>exact wpAny_bind (wpAny_bind (noE_to (thn h3 fun x s4 h4=>wpAny_bind (noE_to (thn h4 fun _ s5 h5=>wpAny_pure (wpAny_pure ⟨rfl,h5⟩))))))
end
theorem HOk.adopt {P:Program} {w:World} {H:Hp} {h:Heap} {a:Addr} {o:HO} (x:HOk P w H h) (hn:H a=none) (new:ObjOk P w (upd H a o) h a o):HOk P w (upd H a o) h:=fun b u e=>by
 by_cases hb:b=a
 ·subst hb;rw [upd_same] at e;cases e;exact new
 ·rw [upd_ne hb] at e
  exact (x b u e).stay (fun c v _ q=>q) (fun c q=>by rw [upd_ne (ne_of_none q hn)];exact q) fun c xs q=>by rw [upd_ne (ne_of_none q hn)];exact q
structure CompOk (X:Cx) (scope:Scope) (Nc Fc:List Str) (js:List Nat):Prop where
 kind:scope.kind = .function
 nocell:∀y∈scope.names,y.2 ≠ .cell
 names:∀y∈scope.names,y.2 = .local→scope.names.lookup y.1=some .local
 free:∀y∈scope.names,y.2 = .free→X.env.kindOf y.1=some .cell∨X.env.kindOf y.1=some .free
 frees:∀(k:Nat) (x:Str),Fc[k]? = some x→scope.names.lookup x=some .free∧∃j,js[k]? = some j∧X.N[j]? = some x
 lens:js.length=Fc.length
noncomputable def cvals (σ:St) (js:List Nat):St:=js.map fun j=>(σ[j]?).join
noncomputable def cxC (X:Cx) (Nc Fc:List Str) (scope:Scope) (cl:List (Str×Addr)) (C:Addr) (s:Shared) (H:Hp) (fp:List Addr):Cx:=
 { X with N:=Nc++Fc,s₀:=s,H₀:=H,env:=compEnvC scope cl C X.env,outer:=X.stack,stack:=X.stack,ex:=fp,fn:=fun _=>false,pn:=[],xe:=noE }
theorem relabel_free {env:Env} : ∀{names:List (Str×NameKind)} {x:Str} {k:NameKind},(names.map fun (n,k)=>if (k == NameKind.free&&env.scope.kind == .function&&env.kindOf n == some .cell) then (n,NameKind.cell) else (n,k)).lookup x=some k →
  names.lookup x=some k∨(k = .cell∧names.lookup x=some .free)
 | [],_,_,h=>by simp at h
 | (n,k0) :: r,x,k,h=>by
  have ih := @relabel_free env r x k
  rw [List.map_cons] at h
  dsimp only at h
  by_cases hx:x=n
  ·subst hx
   by_cases hc:(k0 == NameKind.free&&env.scope.kind == .function&&env.kindOf x == some .cell)=true
   ·rw [if_pos hc] at h
    simp -iota only [List.lookup_cons,beq_self_eq_true] at h
    have hk:k0 = .free:=by
     have:=(Bool.and_eq_true _ _).mp ((Bool.and_eq_true _ _).mp hc).1
     simpa using this.1
    subst hk
    cases h
    exact .inr ⟨rfl,by simp only [List.lookup_cons,beq_self_eq_true]⟩
   ·rw [if_neg hc] at h
    simp -iota only [List.lookup_cons,beq_self_eq_true] at h ⊢
    exact .inl h
  ·have hb:(x == n)=false:=beq_eq_false_iff_ne.mpr hx
   have e:List.lookup x ((if (k0 == NameKind.free&&env.scope.kind == .function&&env.kindOf n == some .cell)=true then (n,NameKind.cell) else (n,k0)) :: (r.map fun (n,k)=>if (k == NameKind.free&&env.scope.kind == .function&&env.kindOf n == some .cell) then (n,NameKind.cell) else (n,k)))=some k:=h
   have e2:List.lookup x (r.map fun (n,k)=>if (k == NameKind.free&&env.scope.kind == .function&&env.kindOf n == some .cell) then (n,NameKind.cell) else (n,k))=some k:=by
    by_cases hc:(k0 == NameKind.free&&env.scope.kind == .function&&env.kindOf n == some .cell)=true
    ·rw [if_pos hc] at e;simp -iota only [List.lookup_cons,hb] at e;exact e
    ·rw [if_neg hc] at e;simp -iota only [List.lookup_cons,hb] at e;exact e
   simp -iota only [List.lookup_cons,hb]
   exact ih e2
theorem relabel_of_free {env:Env} : ∀{names:List (Str×NameKind)} {x:Str},names.lookup x=some .free →
  (names.map fun (n,k)=>if (k == NameKind.free&&env.scope.kind == .function&&env.kindOf n == some .cell) then (n,NameKind.cell) else (n,k)).lookup x=some .cell ∨
  (names.map fun (n,k)=>if (k == NameKind.free&&env.scope.kind == .function&&env.kindOf n == some .cell) then (n,NameKind.cell) else (n,k)).lookup x=some .free
 | [],_,h=>by simp at h
 | (n,k0) :: r,x,h=>by
  have ih := @relabel_of_free env r x
  rw [List.map_cons]
  dsimp only
  by_cases hx:x=n
  ·subst hx
   simp -iota only [List.lookup_cons,beq_self_eq_true] at h
   cases h
   by_cases hc:(NameKind.free == NameKind.free&&env.scope.kind == .function&&env.kindOf x == some .cell)=true
   ·rw [if_pos hc];left;simp only [List.lookup_cons,beq_self_eq_true]
   ·rw [if_neg hc];right;simp only [List.lookup_cons,beq_self_eq_true]
  ·have hb:(x == n)=false:=beq_eq_false_iff_ne.mpr hx
   simp -iota only [List.lookup_cons,hb] at h
   by_cases hc:(k0 == NameKind.free&&env.scope.kind == .function&&env.kindOf n == some .cell)=true
   ·rw [if_pos hc];simp -iota only [List.lookup_cons,hb];exact ih h
   ·rw [if_neg hc];simp -iota only [List.lookup_cons,hb];exact ih h
theorem mem_of_lookup':∀{l:List (Str×NameKind)} {x:Str} {k:NameKind},l.lookup x=some k→(x,k)∈l:=fun h=>PySem.mem_of_lookup h
section
variable {X:Cx} {pins:List (Addr×Obj)} {σ:St} {H:Hp} {s:Shared} {scope:Scope} {Nc Fc:List Str} {js:List Nat} {cl:List (Str×Addr)} {C D:Addr} {fp:List Addr}
theorem cxC_kind {x:Str} : (cxC X Nc Fc scope cl C s H fp).env.kindOf x=(scope.names.map fun (n,k)=>if (k == NameKind.free&&X.env.scope.kind == .function&&X.env.kindOf n == some .cell) then (n,NameKind.cell) else (n,k)).lookup x:=rfl
theorem cxC_ok (I:Inv X pins σ H s) (c:CompOk X scope Nc Fc js) (hsub:∀n c,cl.lookup n=some c→X.env.cells.lookup n=some c) (hhas:∀y∈scope.names,y.2 = .free→∃c,cl.lookup y.1=some c)
  (hC:s.heap.objs.size≤C) (hf:∀b∈fp,FpOk X pins H b) (ho:∀b∈fp,∃o,s.heap.get? b=some o):(cxC X Nc Fc scope cl C s H fp).Ok where
 mod:=I.ok.mod
 kind:=c.kind
 glob:=I.ok.glob
 blt:=I.ok.blt
 above:=hC
 inj:=fun x y a h1 h2=>I.ok.inj x y a (hsub _ _ h1) (hsub _ _ h2)
 has:=fun x hx=>by
  have key:scope.names.lookup x=some .free:=by
   rw [cxC_kind] at hx
   rcases hx with h|h
   ·rcases relabel_free h with q|⟨_,q⟩
    ·exact absurd rfl (c.nocell _ (mem_of_lookup' q))
    ·exact q
   ·rcases relabel_free h with q|⟨q,_⟩
    ·exact q
    ·cases q
  exact hhas _ (mem_of_lookup' key) rfl
 cab:=fun _ _ h=>nomatch h
 hd:=I.ok.hd
 frames:=I.ok.frames
 stk := .inl rfl
 exf:=fun b hb=>⟨fun z=>by
   obtain ⟨o,e⟩:=ho b hb
   exact addr_ne (Heap.lt_size e) hC z,fun x a e z=>(hf b hb).2.2.2.2.1 x a (hsub _ _ e) z⟩
 bs:=fun b o e=>I.bs b o e
 bsz:=Nat.le_trans I.ok.bsz I.sz
 noex:=fun b o e hb=>by
  rcases (hf b hb).2.2.2.1 with z|z
  ·exact I.ok.noex b o e z
  ·exact absurd (Nat.lt_of_lt_of_le (Heap.lt_size (I.ok.bs b o e).1) z) (Nat.lt_irrefl _)
 exfs:=fun b hb z=>by
  rcases List.mem_cons.mp (I.stkSub b z) with q|q
  ·exact (hf b hb).2.1 q
  ·exact (hf b hb).2.2.1 q
 funs:=I.stack
 frf:=I.stkFree
theorem cxC_inv (I:Inv X pins σ H s) (c:CompOk X scope Nc Fc js) (hsub:∀n c,cl.lookup n=some c→X.env.cells.lookup n=some c) (hhas:∀y∈scope.names,y.2 = .free→∃c,cl.lookup y.1=some c)
  (hC:s.heap.objs.size≤C) (hD:s.heap.objs.size≤D) (hDC:D≠C) (hf:∀b∈fp,FpOk X pins H b) (ho:∀b∈fp,∃o,s.heap.get? b=some o) {h1:Heap} {t1:Nat} {m:Str→Option Value} {ob:Obj}
  (hk:∀b o,s.heap.get? b=some o→h1.get? b=some o) (hm:h1.Ns C m) (hob:h1.get? D=some ob) (hnc:∀v,ob.data ≠ .cell v) :
  Inv (cxC X Nc Fc scope cl C s H fp) [(D,ob)] (List.replicate Nc.length none++cvals σ js) H { s with heap:=h1,toks:=t1 }:=by
 refine ⟨cxC_ok I c hsub hhas hC hf ho,rfl,I.bare,Un.kept hk,⟨m,hm,fun i x v e1 e2 e3 => ?_⟩,fun x a e => ?_,I.hok.fresh hC,fun x a e=>I.freeC x a (hsub x a e),fun p hp => ?_,I.hok.kept hk,?_⟩
 ·have e1:(Nc++Fc)[i]? = some x:=e1
  have e2:(List.replicate Nc.length none++cvals σ js)[i]? = some (some v):=e2
  by_cases hi:i<Nc.length
  ·rw [List.getElem?_append_left (by simpa using hi),List.getElem?_replicate] at e2
   split at e2 <;> cases e2
  ·rw [List.getElem?_append_right (by omega)] at e1
   rw [List.getElem?_append_right (by rw [List.length_replicate];omega),List.length_replicate] at e2
   refine Elim.el (c.frees _ _ e1) _ ?_
   rintro hfr j hj hN
   have hv : σ[j]? = some (some v):=by
    unfold cvals at e2
    rw [List.getElem?_map,hj] at e2
    have e2:some ((σ[j]?).join)=some (some v):=e2
    cases q : σ[j]? with
    | none=>rw [q] at e2;cases e2
    | some z=>rw [q] at e2;cases e2;rfl
   have kx:=c.free _ (mem_of_lookup' hfr) rfl
   refine Elim.el (I.loc) _ ?_
   rintro m0 hn0 hl0
   have vis:Vis X.env.scope x:=by
    rcases kx with k|k
    ·exact .inr (.inl k)
    ·exact .inr (.inr k)
   refine Elim.el (hl0 j x v hN hv vis) _ ?_
   rintro u ru lk
   refine ⟨u,ru, .inr ⟨?_,?_⟩⟩
   ·rw [cxC_kind];exact relabel_of_free hfr
   ·obtain ⟨a,ha⟩:=hhas _ (mem_of_lookup' hfr) rfl
    refine ⟨a,ha,?_⟩
    rcases lk with ⟨k,_⟩|⟨_,a',ha',hcell⟩
    ·rcases kx with q|q <;> (rw [k] at q;cases q)
    ·have e:=hsub _ _ ha
     dsimp only at e
     rw [ha'] at e;cases e
     exact hcell.keeps hk
 ·obtain ⟨v,z⟩:=I.cell x a (hsub x a e)
  exact ⟨v,z.keeps hk⟩
 ·have hp:p=(D,ob):=by
   have:p∈[(D,ob)]:=hp
   simpa using this
  subst hp
  refine ⟨hob,I.hok.fresh hD,hDC,fun z => ?_,hnc⟩
  have z:D∈frs X.stack:=z
  rcases List.mem_cons.mp (I.stkSub D z) with q|q
  ·exact addr_ne' I.lt hD q
  ·exact I.nofs hD q
 ·show (List.replicate Nc.length none++cvals σ js).length=(Nc++Fc).length
  unfold cvals
  rw [List.length_append,List.length_append,List.length_replicate,List.length_map,c.lens]
end
noncomputable def PTs (X:Cx) (ifs:List Expr) (t:TT):Prop:=
 ∀ ⦃pins:List (Addr×Obj)⦄ (s:Shared) (σ:St) (H:Hp) (Q:Bool→Hp→Prop),Inv X pins σ H s→t σ H Q→wpAny (model X.prog X.w) X.A (testsOf ifs X.env) (TP X pins σ Q) X.xe s
noncomputable def tYes:TT:=fun _ H Q=>Q true H
theorem pts_nil {X:Cx} : PTs X [] tYes:=fun _ _ _ H _ I h=>wpAny_tests_nil ⟨H,I,h⟩
theorem pts_one {X:Cx} {c:Expr} {t:TT} (h:PT X c t):PTs X [c] t:=fun pins s σ H Q I hw=>wpAny_tests_one (h s σ H Q I hw)
noncomputable def CompW (J:It) (n:Nat) (js:List Nat) (g:TG) (tc:TT) (te:TE) (σ:St) (H1:Hp) (fin:List V→Hp→Prop):Prop:=
 ∃W:Nat→Nat→List V→Hp→Prop,(∃m,W 0 m [] H1)∧∀i m ys H,W i m ys H →
  (J.stop i H∧fin ys H) ∨
  (J.go i H∧ys.length<sizeLine∧∀x H',J.yld i H x H'→g x (List.replicate n none++cvals σ js) H' fun σ2 H2=>tc σ2 H2 fun b H3=>
   if b=true then te σ2 H3 fun y H4=>∃m',m'<m∧W (i+1) m' (ys++[y]) H4 else ∃m',m'<m∧W (i+1) m' ys H3)
noncomputable def tComp (wi:TI) (n:Nat) (js:List Nat) (g:TG) (tc:TT) (te:TE):TE:=fun σ H Q=>wi σ H fun J H1=>
 CompW J n js g tc te σ H1 fun ys H2=>∀p,H2 p=none→Q (.ref p) (upd H2 p (.lst ys))
noncomputable def Gk (n:Nat) (g:TG):Prop:=∀x σ H Q,g x σ H Q→g x σ H fun σ' H'=>Q σ' H'∧(∀j,n≤j → σ'[j]? = σ[j]?) ∧ σ'.length = σ.length
noncomputable def Gks (n:Nat) (g:TGs):Prop:=∀x σ H Q,g x σ H Q→g x σ H fun σ' H'=>Q σ' H'∧(∀j,n≤j → σ'[j]? = σ[j]?) ∧ σ'.length = σ.length
theorem gk_name {n i:Nat} (h:i<n:=by decide):Gk n (gName i):=fun x σ H Q q=>⟨q,fun j hj=>List.getElem?_set_ne (by omega),List.length_set⟩
theorem gks_nil {n:Nat} : Gks n gNil:=fun x σ H Q q=>⟨q.1,q.2,fun _ _=>rfl,rfl⟩
theorem gks_cons {n:Nat} {t:TG} {u:TGs} (h1:Gk n t) (h2:Gks n u) (mt:∀x σ H Q Q',(∀a b,Q a b→Q' a b)→t x σ H Q→t x σ H Q') (mu:∀x σ H Q Q',(∀a b,Q a b→Q' a b)→u x σ H Q→u x σ H Q'):Gks n (gCons t u):=fun x σ H Q q=>by
 obtain ⟨v,r,e,q⟩:=q
 refine ⟨v,r,e,mt _ _ _ _ _ (fun σ1 H1 z => ?_) (h1 _ _ _ _ q)⟩
 refine Elim.el (z) _ ?_
 rintro z k1 l1
 exact mu _ _ _ _ _ (fun σ2 H2 ⟨z2,k2,l2⟩=>⟨z2,fun j hj=>(k2 j hj).trans (k1 j hj),l2.trans l1⟩) (h2 _ _ _ _ z)
theorem gk_tup {K:PySem.W.Frag} {n m:Nat} {t:TGs} (h:Gks n t):Gk n (gTup K m t):=fun x σ H Q q=>by
 obtain ⟨a,xs,e,h1,h2,q⟩:=q
 exact ⟨a,xs,e,h1,h2,h _ _ _ _ q⟩
theorem comp_core {X:Cx} {elt tg iter:Expr} {ifs:List Expr} {scope:Scope} {pos:Pos} {Nc Fc:List Str} {js:List Nat} {wi:TI} {g:TG} {tc:TT} {te:TE} {use:Option (Value→Sem Unit)} {QV:Value→Shared→Prop}
  (hcalm:X.calm=true) (c:CompOk X scope Nc Fc js) (hi:PI X tg iter wi)
  (hg:∀cl C s H fp,PG (cxC X Nc Fc scope cl C s H fp) tg g) (htc:∀cl C s H fp,PTs (cxC X Nc Fc scope cl C s H fp) ifs tc) (hte:∀cl C s H fp,PE (cxC X Nc Fc scope cl C s H fp) elt te) (gk:Gk Nc.length g)
  {pins:List (Addr×Obj)} {s:Shared} {σ:St} {H:Hp} {fin:List V→Hp→Prop} (I:Inv X pins σ H s)
  (h:wi σ H fun J H1=>CompW J Nc.length js g tc te σ H1 fin)
  (behind:∀(C D:Addr) (m:Str→Option Value) (ys:List V) (H2:Hp) (s2:Shared),Inv X pins σ (upd H2 D (.lst ys)) s2→s2.heap.Ns C m→FpOk X pins (upd H2 D (.lst ys)) C→H2 D=none→fin ys H2→compPost (model X.prog X.w) X.A X.xe use QV (.ref D) C (.ok .next) s2)
  (hs:∀x,foldedSetIterable iter X.env x=pure x) :
  wpAny (model X.prog X.w) X.A (comprehension (.ListComp elt [⟨tg,iter,ifs,0⟩] scope pos) scope X.env (firstIterPos [⟨tg,iter,ifs,0⟩] pos) (newList []) false (eval iter X.env) use) QV X.xe s:=by
 obtain ⟨cl,hclos,hsub,hhas⟩:=closure_of (scope:=scope) (env:=X.env) fun y hy hf=>I.ok.has y.1 (c.free y hy hf)
 refine wpAny_comprehension_free (use:=use) rfl hs hclos c.kind c.names ?_
 refine thn (hi s σ H _ I h) fun v s1 h1=>thn h1 fun itv s2 h2 => ?_
 obtain ⟨it,fp,tn,J,H2,e,I2,T,st2,f2,W,⟨m0,w0⟩,turn⟩:=h2
 subst e
 refine wpAny_newObj_type (wpAny_newFunctionEnv c.nocell (by intro y hy;simp at hy) (fun h1 hns1 hsb1 => ?_) c.kind)
 dsimp only at hns1 hsb1 ⊢
 generalize hG:s2.heap.push { cls := .type "list",dict:=none,data := .seq ([]:List Value).toArray } = G at hns1 hsb1 ⊢
 have hC:G.objs.size=s2.heap.objs.size+1:=by rw [←hG,Heap.size_push]
 have hDC:s2.heap.objs.size≠G.objs.size:=by rw [hC];exact Nat.ne_of_lt (Nat.lt_succ_self _)
 have hle:s2.heap.objs.size≤G.objs.size:=by rw [hC];exact Nat.le_succ _
 have old:∀b o,s2.heap.get? b=some o→h1.get? b=some o:=fun b o e=>
  hsb1.extBut b o (addr_ne (Heap.lt_size e) hle) (Heap.get?_push_of_some _ (hG ▸ Heap.get?_push_of_some _ e))
 have hacc:h1.PlainList s2.heap.objs.size #[]:=⟨_,hsb1.extBut _ _ hDC (Heap.get?_push_of_some _ (hG ▸ Heap.get?_push_size _ rfl))⟩
 obtain ⟨n0,hacc⟩:=hacc
 have fo:∀b∈fp,∃o,s2.heap.get? b=some o:=fun b hb=>let ⟨o,e,_⟩:=T.obj 0 _ st2 b hb; ⟨o,e⟩
 have hDfp:∀b∈fp,b<s2.heap.objs.size:=fun b hb=>let ⟨o,e⟩:=fo b hb;Heap.lt_size e
 let Xc:Cx:=cxC X Nc Fc scope cl G.objs.size s2 H2 fp
 let D:Addr:=s2.heap.objs.size
 have stat:∀{pl:List (Addr×Obj)} {H':Hp},(∀p∈pl,p.1=D)→(∀b∈fp,H' b=none)→∀b∈fp,FpOk Xc pl H' b:=fun {pl H'} hp hn b hb=>by
  refine ⟨hn b hb,?_,?_, .inl hb,fun x a e => ?_,fun p hq => ?_⟩
  ·exact addr_ne (hDfp b hb) hle
  ·exact (cxC_ok I2 c hsub hhas hle f2 fo).exfs b hb
  ·exact (f2 b hb).2.2.2.2.1 x a (hsub _ _ e)
  ·have q:p∈([]:List (Addr×Obj))++pl:=hq
   rw [hp p (by simpa using q)]
   exact addr_ne' (hDfp b hb) (Nat.le_refl _)
 have loop:∀t1,codeAny (model X.prog X.w) X.A (.compLoop (.ListComp elt [⟨tg,iter,ifs,0⟩] scope pos) 0 (.ref it) (.ref s2.heap.objs.size) (compEnvC scope cl G.objs.size X.env))
   (compPost (model X.prog X.w) X.A X.xe use QV (.ref s2.heap.objs.size) G.objs.size) { s2 with heap:=h1,toks:=t1 }:=by
  intro t1
  refine comp_turns (fun n s'=>∃i ys H' its k,Inv Xc [(D,{ cls := .type "list",data := .seq its k })] (List.replicate Nc.length none++cvals σ js) H' s'∧Vals ys its.toList∧ys.length≤sizeLine∧tn i s'.heap∧(∀b∈fp,H' b=none)∧W i n ys H') ?_ m0
   ⟨0,[],H2, #[],n0,cxC_inv I2 c hsub hhas hle (Nat.le_refl _) hDC f2 fo old hns1 hacc (fun _ z=>nomatch z), .nil,Nat.zero_le _,T.keep _ _ _ st2 (fun b hb o e=>old b o e),fun b hb=>(f2 b hb).1,w0⟩
  intro n s3
  refine Elim.go ?_
  rintro i ys H3 its k I3 rv hz st3 fr3 w3
  have onlyD:∀p∈[(D,({ cls := .type "list",data := .seq its k } : Obj))],p.1=D:=fun p hp=>congrArg Prod.fst (List.mem_singleton.mp hp)
  rcases turn i n ys H3 w3 with ⟨stop,qn⟩|⟨go,hlt,step⟩
  ·refine thn (T.done Xc rfl rfl rfl hcalm i _ s3 _ H3 noE I3 (stat onlyD fr3) st3 stop) fun r s4 hz_ => ?_
   refine Elim.el hz_ _ ?_
   clear hz_
   rintro hr I4
   subst hr
   show compPost _ _ _ _ _ _ _ _ _
   obtain ⟨hDo,hDn,hDne,hDfs,_⟩:=I4.pin (D,_) (List.mem_append_right _ List.mem_cons_self)
   have hDC':D≠G.objs.size:=hDC
   refine Elim.el (I4.loc) _ ?_
   rintro mC hmC _
   have hCn:H3 G.objs.size=none:=I4.free
   have neD:∀b o,s2.heap.get? b=some o→b≠D:=fun b o e=>Nat.ne_of_lt (Heap.lt_size e)
   have u:Un (frs X.stack) fp H2 H3 s2.heap s4.heap:=I4.base
   have hdn2:H2 D=none:=I2.hok.fresh (Nat.le_refl _)
   have u':Un (frs X.stack) fp H2 (upd H3 D (.lst ys)) s2.heap s4.heap:=
    ⟨u.keep,u.slot,fun b o e n hx=>by rw [upd_ne (neD b o e)];exact u.free b o e n hx,u.there,
      fun b xs e=>by rw [upd_ne (ne_of_none e hdn2)];exact u.tups b xs e,fun b o xs e=>by rw [upd_ne (ne_of_none e hdn2)];exact u.frzs b o xs e,
      fun b ps e=>by rw [upd_ne (ne_of_none e hdn2)];exact u.tbls b ps e⟩
   have hok':HOk X.prog X.w (upd H3 D (.lst ys)) s4.heap:=I4.hok.adopt hDn ⟨hz,its.toList,k,rv,by simpa using hDo⟩
   have hch:∀b∈fp,(b∈X.ex∨X.s₀.heap.objs.size≤b)∧b≠X.env.locals∧(∀x c,X.env.cells.lookup x=some c→c≠b)∧∀p∈X.pn++pins,p.1≠b:=fun b hb=>
    ⟨(f2 b hb).2.2.2.1,(f2 b hb).2.1,(f2 b hb).2.2.2.2.1,(f2 b hb).2.2.2.2.2⟩
   have os4:s4.os=s2.os:=I4.os
   have J4:Inv X pins σ (upd H3 D (.lst ys)) s4:=I2.call' (H':=upd H3 D (.lst ys)) os4 u' hok' I4.bare hch
   refine behind G.objs.size D mC ys H3 s4 J4 hmC (I2.fpOk hle ?_) hDn qn
   rw [upd_ne (Ne.symm hDC')]
   exact hCn
  ·refine thn (T.item Xc rfl rfl rfl hcalm i _ s3 _ H3 noE I3 (stat onlyD fr3) st3 go) fun r s4 hz_ => ?_
   refine Elim.el hz_ _ ?_
   clear hz_
   rintro u hr h4
   subst hr
   show wpAny _ _ (letOwnedTupleGo tg (.ref it) u) _ _ _
   refine thn h4 fun _ s5 hz_ => ?_
   refine Elim.el hz_ _ ?_
   clear hz_
   rintro x H5 I5 r5 y5 st5 fr5
   have I5':=I5.pinned (stat onlyD fr5) (T.obj _ _ st5)
   refine thn (hg cl G.objs.size s2 H2 fp s5 _ H5 x u _ I5' r5 (gk _ _ _ _ (step x H5 y5))) fun _ s6 hz_ => ?_
   refine Elim.el hz_ _ ?_
   clear hz_
   rintro σ6 H6 I6 q6 kσ kl
   refine thn (htc cl G.objs.size s2 H2 fp s6 σ6 H6 _ I6 q6) fun b s7 hz_ => ?_
   refine Elim.el hz_ _ ?_
   clear hz_
   rintro H7 I7 q7
   have later:∀{σ':St} {H':Hp} {s':Shared},Inv Xc ([(D,({ cls := .type "list",data := .seq its k } : Obj))]++pinsAt fp s5.heap) σ' H' s'→tn (i+1) s'.heap∧∀b∈fp,H' b=none:=fun {σ' H' s'} Iz=>by
    refine ⟨T.keep _ _ _ st5 fun b hb o e=>(Iz.pin (b,o) (List.mem_append_right _ (List.mem_append_right _ (mem_pinsAt hb e)))).1,fun b hb => ?_⟩
    refine Elim.el (T.obj _ _ st5 b hb) _ ?_
    rintro o e d
    exact (Iz.pin (b,o) (List.mem_append_right _ (List.mem_append_right _ (mem_pinsAt hb e)))).2.1
   have back:∀{pl:List (Addr×Obj)} {H':Hp} {s':Shared},Inv Xc pl σ6 H' s'→Inv Xc pl (List.replicate Nc.length none++cvals σ js) H' s':=fun {pl H' s'} Iz=>by
    refine Iz.weak (by rw [←kl]) fun j v hj => ?_
    by_cases hn:j<Nc.length
    ·rw [List.getElem?_append_left (by simpa using hn),List.getElem?_replicate] at hj
     split at hj <;> cases hj
    ·rw [kσ j (by omega)];exact hj
   cases b with
   | false=>
    rw [if_neg Bool.false_ne_true] at q7 ⊢
    refine Elim.el (q7) _ ?_
    rintro m' hm' w7
    obtain ⟨l1,l2⟩:=later I7
    exact ⟨m',hm',i+1,ys,H7,its,k,back I7.unpinned,rv,hz,l1,l2,w7⟩
   | true=>
    rw [if_pos rfl] at q7 ⊢
    refine thn (hte cl G.objs.size s2 H2 fp s7 σ6 H7 _ I7 q7) fun yv s8 hz_ => ?_
    refine Elim.el hz_ _ ?_
    clear hz_
    rintro y H8 I8 r8 q8
    refine Elim.el (q8) _ ?_
    rintro m' hm' w8
    obtain ⟨hDo,hDn,hDne,hDfs,_⟩:=I8.pin (D,_) (List.mem_append_right _ (List.mem_append_left _ List.mem_cons_self))
    obtain ⟨l1,l2⟩:=later I8
    have hits:its.size=ys.length:=by
     have e1:=rv.length
     simp -iota only [Array.length_toList] at e1
     omega
    refine wpAny_list_append_plain (hsz:=by omega) ⟨k,hDo⟩ fun h9 hl9 hs9 => ?_
    obtain ⟨k9,hD9⟩:=hl9
    have pinF:∀p∈pinsAt fp s5.heap,p.1≠D:=fun p hp=>by
     obtain ⟨hb,_⟩:=of_pinsAt hp
     exact addr_ne (hDfp _ hb) (Nat.le_refl _)
    have I8':Inv Xc (pinsAt fp s5.heap) σ6 H8 s8:=I8.pins_of fun p hp=>I8.pin p (List.mem_append_right _ (List.mem_append_right _ hp))
    have I9:Inv Xc (pinsAt fp s5.heap) σ6 H8 { s8 with heap:=h9,toks:=s8.toks }:=I8'.turned (it:=D) (fun b o hb e=>hs9.extBut b o hb e) hDn hDC (.inr (Nat.le_refl _))
     (fun x a e z=>by
      obtain ⟨v,q⟩:=I2.cell x a (hsub _ _ e)
      exact addr_ne q.lt (Nat.le_refl _) z) (fun p hp=>pinF p (by
       have hp:p∈([]:List (Addr×Obj))++pinsAt fp s5.heap:=hp
       simpa using hp))
    obtain ⟨st9,fr9⟩:tn (i+1) h9∧∀b∈fp,H8 b=none:=by
     refine ⟨T.keep _ _ _ l1 fun b hb o e=>hs9.extBut b o ?_ e,l2⟩
     exact addr_ne (hDfp _ hb) (Nat.le_refl _)
    refine ⟨m',hm',i+1,ys++[y],H8,its.push yv,k9,back (I9.pins_of fun p hp => ?_),?_,?_,st9,fr9,w8⟩
    ·cases List.mem_singleton.mp hp
     exact ⟨hD9,hDn,hDne,hDfs,fun _ z=>nomatch z⟩
    ·rw [Array.toList_push]
     exact rv.append (.cons r8 .nil)
    ·rw [List.length_append,List.length_singleton];omega
 exact codeAny_compStart_list (loop _) (T.self _ 0 _ _ _ (T.keep _ _ _ st2 fun b hb o e=>old b o e) (loop _))
theorem pe_lcomp {X:Cx} {elt tg iter:Expr} {ifs:List Expr} {scope:Scope} {pos:Pos} {Nc Fc:List Str} {js:List Nat} {wi:TI} {g:TG} {tc:TT} {te:TE}
  (hcalm:X.calm=true) (c:CompOk X scope Nc Fc js) (hi:PI X tg iter wi) (gk:Gk Nc.length g)
  (hg:∀cl C s H fp,PG (cxC X Nc Fc scope cl C s H fp) tg g) (htc:∀cl C s H fp,PTs (cxC X Nc Fc scope cl C s H fp) ifs tc) (hte:∀cl C s H fp,PE (cxC X Nc Fc scope cl C s H fp) elt te)
  (hs:∀x,foldedSetIterable iter X.env x=pure x:=by intro _;rfl) :
  PE X (.ListComp elt [⟨tg,iter,ifs,0⟩] scope pos) (tComp wi Nc.length js g tc te):=by
 intro pins s σ H Q I h
 rw [eval_ListComp]
 refine comp_core (use:=none) hcalm c hi hg htc hte gk I h (fun C D m ys H2 s2 I2 hm hC hD q => ?_) hs
 refine ⟨m,hm,fun h' hs' => ?_⟩
 refine ⟨.ref D,_,I2.turned (it:=C) (t':=s2.toks) (fun b o hb e=>hs'.extBut b o hb e) hC.1 (hC.2.1) hC.2.2.2.1 hC.2.2.2.2.1 hC.2.2.2.2.2,rfl,q D hD⟩
theorem ps_setcomp {X:Cx} {i:Nat} {y:Str} {elt tg iter:Expr} {ifs:List Expr} {scope:Scope} {pos pos' py:Pos} {Nc Fc:List Str} {js:List Nat} {wi:TI} {g:TG} {tc:TT} {te:TE} (hN:X.N.Nodup) (hy:X.N[i]? = some y) (hl:Loc X.env.scope y)
  (hcalm:X.calm=true) (c:CompOk X scope Nc Fc js) (hi:PI X tg iter wi) (gk:Gk Nc.length g)
  (hg:∀cl C s H fp,PG (cxC X Nc Fc scope cl C s H fp) tg g) (htc:∀cl C s H fp,PTs (cxC X Nc Fc scope cl C s H fp) ifs tc) (hte:∀cl C s H fp,PE (cxC X Nc Fc scope cl C s H fp) elt te)
  (hsw:swapsWith (.ListComp elt [⟨tg,iter,ifs,0⟩] scope pos) (some (.Name y py)) pos'.line X.env=pure true:=by rfl)
  (hs:∀x,foldedSetIterable iter X.env x=pure x:=by intro _;rfl)
  (hf:X.fn y=true∨X.env.scope.names.lookup y=some .local:=by first|exact .inl rfl|exact .inr rfl|assumption) :
  PS X (.Assign [.Name y py] (.ListComp elt [⟨tg,iter,ifs,0⟩] scope pos) pos') (tAsg (tComp wi Nc.length js g tc te) (gName i)):=by
 intro pins s σ H E I h
 rw [exec_Assign_Name_used _ _ _ _ hsw]
 refine wpAny_bind (wpAny_standAt (wpAny_bind ?_))
 show wpAny _ X.A (do let _ ←comprehension (.ListComp elt [⟨tg,iter,ifs,0⟩] scope pos) scope X.env _ (newList []) false (eval iter X.env) (some (assign (.Name y py) X.env))) _ _ s
 refine wpAny_bind (thn (comp_core (use:=some (assign (.Name y py) X.env)) (QV:=fun _ s'=>SP X pins E .next s') hcalm c hi hg htc hte gk I h (fun C D m ys H2 s2 I2 hm hC hD q => ?_) hs) fun _ s' hq=>wpAny_pure (wpAny_pure hq))
 show wpAny _ _ (assign (.Name y py) X.env (.ref D)) _ _ s2
 refine wpAny_assign_Name (store_ok2 I2 hN hy hl (v := .ref D) rfl (fun s3 I3 ⟨a,hsa,ha⟩ => ?_) hf)
 have hne:C≠a:=by
  rcases ha with e|e
  ·rw [e];exact hC.2.1
  ·exact fun z=>hC.2.2.2.2.1 _ _ e z.symm
 refine ⟨m,hm.at' fun o e=>hsa.extBut _ o hne e,fun h' hs' => ?_⟩
 exact ⟨_,_,I3.turned (it:=C) (t':=s3.toks) (fun b o hb e=>hs'.extBut b o hb e) hC.1 hC.2.1 hC.2.2.2.1 hC.2.2.2.2.1 hC.2.2.2.2.2,q D hD⟩
end L2
namespace L2
open PySem PySem.Spec PyProof.Rows
section
variable {X:Cx} {pins:List (Addr×Obj)} {σ:St} {H:Hp} {s:Shared} {p:Addr} {ys:List V}
theorem walk_list {A:Around} (hh:A.handled=none) (I:Inv X pins σ H s) (hq:SqL X.K H p ys) {R:Value→Shared→Prop} {E:Value→Shared→Prop}
  (h:∀(its:List Value) (it:Addr) (s2:Shared),Vals ys its→its.length≤sizeLine →
   Walks X.prog X.w A it [it,p] [it] its.toArray.size (fun i v=>its.toArray[i]? = some v) (fun i h=>h.IsListIter it p i∧h.IsList p its.toArray)→(s2.heap.IsListIter it p 0∧s2.heap.IsList p its.toArray)→(∀b∈[it,p],b<s2.heap.objs.size) →
   (∀h' tk,(∀b o,b ∉ [it]→s2.heap.get? b=some o→h'.get? b=some o)→Inv X pins σ H { s2 with heap:=h',toks:=tk })→R (.ref it) s2) :
  wpAny (model X.prog X.w) A (pyIter (.ref p)) R E s:=by
 obtain ⟨its,rv,pl,hz⟩:=I.list hq
 have hl:=pl.isList
 have hp:p<s.heap.objs.size:=by obtain ⟨o,e,_⟩:=hl;exact Heap.lt_size e
 refine wpAny_pyIter_list hl ?_
 refine h its s.heap.objs.size _ rv (by have:=rv.length;omega) (Walks.list hh _ p (Nat.ne_of_lt hp) its.toArray) ⟨⟨_,Heap.get?_push_size _ rfl,rfl,rfl⟩,hl.push _⟩ (fun b hb => ?_) fun h' tk hk => ?_
 ·show b<(s.heap.push _).objs.size
  rw [Heap.size_push]
  rcases List.mem_cons.mp hb with rfl|hb
  ·exact Nat.lt_succ_self _
  ·rw [List.mem_singleton.mp hb];exact Nat.lt_succ_of_lt hp
 ·exact I.kept (t':=tk) fun b o e=>hk b o (fun z=>addr_ne (Heap.lt_size e) (Nat.le_refl _) (List.mem_singleton.mp z)) (Heap.get?_push_of_some _ e)
theorem vals_at {ys:List V} {its:List Value} (r:Vals ys its) {i:Nat} {v:Value} (e:its.toArray[i]? = some v):∃y,ys[i]? = some y∧RelV y v:=by
 have e':its[i]? = some v:=by simpa using e
 have hi:i<its.length:=(List.getElem?_eq_some_iff.mp e').1
 have hl:=r.length
 obtain ⟨u,h1,h2⟩:=r.get (i:=i) (x:=ys[i]'(by omega)) (by simp)
 rw [e'] at h1;cases h1
 exact ⟨_,by simp,h2⟩
theorem range_all (bs:List Bool):(List.range bs.length).all (fun i=>bs.getD i false)=bs.all id:=by
 induction bs with
 | nil=>rfl
 | cons b r ih=>
  rw [List.length_cons,List.range_succ_eq_map,List.all_cons,List.all_map,List.all_cons, ←ih]
  rfl
theorem truth_bl {A:Around} {bs:List Bool} {its:List Value} (r:Vals (bs.map V.bl) its):TruthOf X.prog X.w A (fun i v=>its.toArray[i]? = some v) (fun i=>bs.getD i false):=by
 intro i v s Q E e hQ
 obtain ⟨y,h1,h2⟩:=vals_at r e
 rw [List.getElem?_map] at h1
 cases q:bs[i]? with
 | none=>rw [q] at h1;cases h1
 | some b=>
  rw [q] at h1;cases h1
  cases h2
  have:bs.getD i false=b:=by simp [List.getD,q]
  have hQ:Q (bs.getD i false) s:=hQ
  rw [this] at hQ
  exact wpAny_pure hQ
theorem call_all_bl (hc:X.calm=true):CallR X (.builtin "all") (fun xs H Q=>∃(p:Addr) (bs:List Bool),xs=[.ref p]∧SqL X.K H p (bs.map V.bl)∧Q (.bl (bs.all id)) H):=by
 intro pins s σ H xs us Q I r h
 obtain ⟨p,bs,rfl,hq,q⟩:=h
 obtain ⟨u,rfl,ru⟩:=vals1 r
 cases ru
 refine call_all_walk (walk_list (A:=X.A.in1) (I.ok.hd hc) I hq fun its it s2 rv hz W st hlt hI => ?_)
 refine ⟨it,_,_,_,_,_,fun i=>bs.getD i false,rfl,W,st,truth_bl rv,fun h' tk hk => ?_⟩
 have hl:its.toArray.size=bs.length:=by have:=rv.length;simp at this ⊢;omega
 rw [hl,range_all]
 exact ⟨.bl _,H,hI h' tk hk,rfl,q⟩
theorem allK (K:PySem.W.Frag) (hc:X.calm=true) (hK:X.K=K:=by rfl):CallR X (.builtin "all") (fun xs H Q=>∃(p:Addr) (bs:List Bool),xs=[.ref p]∧SqL K H p (bs.map V.bl)∧Q (.bl (bs.all id)) H):=by subst hK;exact call_all_bl hc
theorem mt_strip1:MtR X "str.strip" (fun x vs H Q=>∃a b,x = .str a∧vs=[.str b]∧a.length≤sizeLine∧Q (.str (Txt.stripChars a b)) H):=by
 intro pins s σ H x vs v us Q I rx rv h
 obtain ⟨a,b,rfl,rfl,hz,q⟩:=h
 obtain ⟨t,rfl⟩:=rx
 obtain ⟨u,rfl,t',rfl⟩:=rv.one
 exact SC.stripChars (fun t' k=>⟨.str _,H,I.tok _,⟨_,rfl⟩,q⟩) hz
theorem strs_are:∀{xs:List Str} {its:List Value},Vals (xs.map V.str) its→StrsAre its xs:=by
 intro xs its r
 induction xs generalizing its with
 | nil=>cases r;exact StrsAre.nil
 | cons x xs ih=>
  cases r with
  | cons r1 r2=>
   obtain ⟨t,rfl⟩:=r1
   exact StrsAre.cons x t (ih r2)
theorem mt_join:MtR X "str.join" (fun x vs H Q=>∃(sep:Str) (p:Addr) (xs:List Str),x = .str sep∧vs=[.ref p]∧SqL X.K H p (xs.map V.str)∧(xs.map (·.length)).sum+xs.length*sep.length≤16777216∧Q (.str (Txt.join sep xs)) H):=by
 intro pins s σ H x vs v us Q I rx rv h
 obtain ⟨sep,p,xs,rfl,rfl,hq,hz,q⟩:=h
 obtain ⟨t,rfl⟩:=rx
 obtain ⟨u,rfl,ru⟩:=rv.one
 cases ru
 obtain ⟨its,r',pl,_⟩:=I.list hq
 exact join_list pl.isList (strs_are r') hz fun t' k=>⟨.str _,H,I.tok _,⟨_,rfl⟩,q⟩
end
end L2
namespace L2
open PySem PySem.Spec PyProof.Rows
mutual
noncomputable def Den (K:PySem.W.Frag) (H:Hp):PyData→V→Prop
 | .none,v=>v = .non
 | .bool b,v=>v = .bl b
 | .int i,v=>v = .int i
 | .str x,v=>v = .str x
 | .list ds,v=>Ex2 fun a vs=>v = .ref a∧SqL K H a vs∧Dens K H ds vs
 | .tuple ds,v=>Ex2 fun a vs=>v = .ref a∧SqT K H a vs∧Dens K H ds vs
 | .dict _,_=>False
noncomputable def Dens (K:PySem.W.Frag) (H:Hp):List PyData→List V→Prop
 | [],vs=>vs=[]
 | d :: ds,vs=>Ex2 fun v r=>vs=v :: r∧Den K H d v∧Dens K H ds r
end
theorem Same.seqT {K:PySem.W.Frag} {H H':Hp} {a:Addr} {xs:List V} (e:Same H H') (h:SqT K H a xs):SqT K H' a xs:=by
 rcases h with (h|⟨o,h⟩)|h
 ·exact .inl (.inl (e _ _ h))
 ·exact .inl (.inr ⟨o,e _ _ h⟩)
 ·exact .inr h
mutual
theorem Den.same {K:PySem.W.Frag} {H H':Hp} (e:Same H H'):∀{d:PyData} {v:V},Den K H d v→Den K H' d v
 | .none,_,h=>by unfold Den at h ⊢;exact h
 | .bool _,_,h=>by unfold Den at h ⊢;exact h
 | .int _,_,h=>by unfold Den at h ⊢;exact h
 | .str _,_,h=>by unfold Den at h ⊢;exact h
 | .list ds,_,h=>by
  unfold Den at h ⊢
  obtain ⟨a,vs,h1,h2,h3⟩:=h
  exact ⟨a,vs,h1,e.seq h2,Dens.same e h3⟩
 | .tuple ds,_,h=>by
  unfold Den at h ⊢
  obtain ⟨a,vs,h1,h2,h3⟩:=h
  exact ⟨a,vs,h1,e.seqT h2,Dens.same e h3⟩
 | .dict _,_,h=>by unfold Den at h;exact h.elim
theorem Dens.same {K:PySem.W.Frag} {H H':Hp} (e:Same H H'):∀{ds:List PyData} {vs:List V},Dens K H ds vs→Dens K H' ds vs
 | [],_,h=>by unfold Dens at h ⊢;exact h
 | d :: ds,_,h=>by
  unfold Dens at h ⊢
  obtain ⟨v,r,h1,h2,h3⟩:=h
  exact ⟨v,r,h1,Den.same e h2,Dens.same e h3⟩
end
mutual
theorem Den.reads {X:Cx} {pins:List (Addr×Obj)} {σ:St} {H:Hp} {s:Shared} (I:Inv X pins σ H s):∀{d:PyData} {v:V} {u:Value},Den X.K H d v→RelV v u→∃as,Reads s.heap u d as
 | .none,_,_,h,r=>by unfold Den at h;subst h;cases r;exact ⟨_, .none⟩
 | .bool _,_,_,h,r=>by unfold Den at h;subst h;cases r;exact ⟨_, .bool _⟩
 | .int _,_,_,h,r=>by unfold Den at h;subst h;obtain ⟨t,rfl⟩:=r;exact ⟨_, .int _ _⟩
 | .str _,_,_,h,r=>by unfold Den at h;subst h;obtain ⟨t,rfl⟩:=r;exact ⟨_, .str _ _⟩
 | .list ds,_,_,h,r=>by
  unfold Den at h
  obtain ⟨a,vs,rfl,h2,h3⟩:=h
  cases r
  obtain ⟨its,rv,⟨o,n,e1,e2,_,e4⟩,_⟩:=I.list h2
  obtain ⟨as,q⟩:=Dens.reads I h3 rv
  exact ⟨_, .list e1 e2 e4 (by simpa using q)⟩
 | .tuple ds,_,_,h,r=>by
  unfold Den at h
  obtain ⟨a,vs,rfl,h2,h3⟩:=h
  cases r
  obtain ⟨its,rv,⟨o,e1,e2,n,e4⟩,_⟩:=I.tuple h2
  obtain ⟨as,q⟩:=Dens.reads I h3 rv
  exact ⟨_, .tuple e1 e2 e4 (by simpa using q)⟩
 | .dict _,_,_,h,_=>by unfold Den at h;exact h.elim
theorem Dens.reads {X:Cx} {pins:List (Addr×Obj)} {σ:St} {H:Hp} {s:Shared} (I:Inv X pins σ H s):∀{ds:List PyData} {vs:List V} {us:List Value},Dens X.K H ds vs→Vals vs us→∃as,ReadsAll s.heap us ds as
 | [],_,_,h,r=>by unfold Dens at h;subst h;cases r;exact ⟨_, .nil⟩
 | d :: ds,_,_,h,r=>by
  unfold Dens at h
  obtain ⟨v,q,rfl,h2,h3⟩:=h
  cases r with
  | cons r1 r2=>
   obtain ⟨as,q1⟩:=Den.reads I h2 r1
   obtain ⟨bs,q2⟩:=Dens.reads I h3 r2
   exact ⟨_, .cons q1 q2⟩
end
section
variable {X:Cx}
open PySem.SeqAt in
theorem op_eqD (hu:X.A.units+64<cLine):OpR X (compareOp .Eq) (fun x y H Q=>∃d e,Den X.K H d x∧Den X.K H e y∧shaped d=true∧shaped e=true∧Q (.bl (PyData.eqv d e)) H):=by
 intro pins s σ H x y v u Q I rx ry h
 obtain ⟨d,e,hd,he,sd,se,q⟩:=h
 obtain ⟨as,r1⟩:=hd.reads I rx
 obtain ⟨bs,r2⟩:=he.reads I ry
 exact eq_dataH r1 r2 sd se hu ⟨.bl _,H,I,rfl,q⟩
open PySem.SeqAt in
theorem op_neD (hu:X.A.units+64<cLine):OpR X (compareOp .NotEq) (fun x y H Q=>∃d e,Den X.K H d x∧Den X.K H e y∧shaped d=true∧shaped e=true∧Q (.bl (!PyData.eqv d e)) H):=by
 intro pins s σ H x y v u Q I rx ry h
 obtain ⟨d,e,hd,he,sd,se,q⟩:=h
 obtain ⟨as,r1⟩:=hd.reads I rx
 obtain ⟨bs,r2⟩:=he.reads I ry
 exact ne_dataH r1 r2 sd se hu ⟨.bl _,H,I,rfl,q⟩
theorem op_isB:OpR X (compareOp .Is) (fun x y H Q=>∃a b,x = .bl a∧y = .bl b∧Q (.bl (decide (a=b))) H):=by
 intro pins s σ H x y v u Q I rx ry h
 obtain ⟨a,b,rfl,rfl,q⟩:=h
 cases rx;cases ry
 refine wpAny_is_plain rfl (fin_bl I q ?_)
 cases a <;> cases b <;> rfl
theorem op_isnotB:OpR X (compareOp .IsNot) (fun x y H Q=>∃a b,x = .bl a∧y = .bl b∧Q (.bl (!decide (a=b))) H):=by
 intro pins s σ H x y v u Q I rx ry h
 obtain ⟨a,b,rfl,rfl,q⟩:=h
 cases rx;cases ry
 refine wpAny_isNot_plain rfl (fin_bl I q ?_)
 cases a <;> cases b <;> rfl
theorem call_isi:CallR X (.builtin "isinstance") (fun xs H Q=>∃x T t b,xs=[x, .ty T]∧TyOf X.K H x t∧PySem.W.kitOne X.K t (.type T)=some b∧Q (.bl b) H):=by
 intro pins s σ H xs us Q I r h
 obtain ⟨x,T,t,b,rfl,ty,e,q⟩:=h
 obtain ⟨u,w',rfl,r1,r2⟩:=vals2 r
 cases r2
 exact isinst_ok I r1 ty e fun tk=>⟨.bl b,H,I.tok _,rfl,q⟩
theorem sl_str:SlR X (fun x lo hi H Q=>∃z,x = .str z∧z.length≤sizeLine∧Q (.str (Txt.slice z lo hi)) H):=by
 intro pins s σ H x v vl vu lo hi sl Q I rx hs pl pu q
 obtain ⟨z,rfl,hz,q⟩:=q
 obtain ⟨t,rfl⟩:=rx
 refine ⟨"str",_,F.slot_str_getitem.lookup,typeIs_str _ _ _,?_⟩
 have fin:∀t' k,EP X pins σ Q (.str (Txt.slice z lo hi) t') { s with toks:=k }:=fun t' k=>⟨.str _,H,I.tok _,⟨_,rfl⟩,q⟩
 cases pl with
 | none=>
  cases pu with
  | none=>exact wpAny_getItem_str_slice (l:=none) (u:=none) (st:=none) hs rfl (post_val_or_str ⟨Nat.le_trans (Txt.slice_le z _ _) hz,fin⟩)
  | int j uj=>exact wpAny_getItem_str_slice (l:=none) (u:=some (j,uj)) (st:=none) hs rfl (post_val_or_str ⟨Nat.le_trans (Txt.slice_le z _ _) hz,fin⟩)
 | int i ui=>
  cases pu with
  | none=>exact wpAny_getItem_str_slice (l:=some (i,ui)) (u:=none) (st:=none) hs rfl (post_val_or_str ⟨Nat.le_trans (Txt.slice_le z _ _) hz,fin⟩)
  | int j uj=>exact wpAny_getItem_str_slice (l:=some (i,ui)) (u:=some (j,uj)) (st:=none) hs rfl (post_val_or_str ⟨Nat.le_trans (Txt.slice_le z _ _) hz,fin⟩)
end
end L2
namespace L2
open PySem PySem.Spec PyProof.Rows
section
variable {X:Cx} {pins:List (Addr×Obj)} {σ:St} {H:Hp} {s:Shared} {h':Heap}
theorem Inv.iter {t':Nat} {ch:List Addr} (I:Inv X pins σ H s) (hf:∀b∈ch,FpOk X pins H b) (keep:∀b o,b ∉ ch→s.heap.get? b=some o→h'.get? b=some o):Inv X pins σ H { s with heap:=h',toks:=t' }:=by
 have nch:∀b u,H b=some u→b ∉ ch:=fun b u e z=>by rw [(hf b z).1] at e;cases e
 refine I.step (g':=s.gens) (d':=s.drawn) (ch:=ch) (fun b hb=>⟨(hf b hb).2.2.2.1,(hf b hb).2.1,(hf b hb).2.2.2.2.1,(hf b hb).2.2.2.2.2⟩) (fun b o _ _ hc e _=>keep b o hc e) (fun b o _ _ hc e _=>⟨o.slots,keep b o hc e⟩)
  (fun _ _ _ _ n=>n) (fun b o hc e=>⟨o,keep b o hc e⟩) (fun _ _ e=>e) (fun _ _ _ e=>e) (fun b ps e=>⟨#[],by rw [e];simp⟩) (fun m hm=>hm.at' fun o e=>keep _ o (fun z=>(hf _ z).2.1 rfl) e) (fun b u e => ?_) I.bare
 refine (I.hok b u e).stay (fun c v hc q=>keep c v ?_ q) (fun _ q=>q) fun _ _ q=>q
 rcases hc with z|z
 ·rw [z];exact nch b u e
 ·exact nch c _ z
theorem Inv.adopt {T:Addr} {o:HO} (I:Inv X pins σ H s) (hT:FpOk X pins H T) (hex:X.s₀.heap.objs.size≤T) (new:ObjOk X.prog X.w (upd H T o) s.heap T o):Inv X pins σ (upd H T o) s:=
 ⟨I.ok,I.os,I.bare,⟨I.base.keep,I.base.slot,fun b ob e n hx=>by rw [upd_ne (addr_ne (Heap.lt_size e) hex)];exact I.base.free b ob e n hx,I.base.there,
   fun b xs e=>by rw [upd_ne (ne_of_none (I.base.tups b xs e) hT.1)];exact I.base.tups b xs e,fun b ob xs e=>by rw [upd_ne (ne_of_none (I.base.frzs b ob xs e) hT.1)];exact I.base.frzs b ob xs e,
   fun b ps e=>by
    obtain ⟨m,q⟩:=I.base.tbls b ps e
    exact ⟨m,by rw [upd_ne (ne_of_none q hT.1)];exact q⟩⟩,
  I.loc,I.cell,by rw [upd_ne (Ne.symm hT.2.1)];exact I.free,fun x c e=>by rw [upd_ne (hT.2.2.2.2.1 x c e)];exact I.freeC x c e,
  fun p hp=>by
   refine Elim.el (I.pin p hp) _ ?_
   rintro a b c d f
   exact ⟨a,by rw [upd_ne (hT.2.2.2.2.2 p hp)];exact b,c,d,f⟩,I.hok.adopt hT.1 new,I.len⟩
end
theorem vals_get {xs:List V} {its:List Value} {i:Nat} {x:V} (r:Vals xs its) (e:xs[i]? = some x):∃u,its.toArray[i]? = some u∧RelV x u:=by
 refine Elim.el (r.get e) _ ?_
 rintro u h1 h2
 exact ⟨u,by simpa using h1,h2⟩
section
variable {X:Cx}
end
end L2
namespace L2
open PySem PySem.Spec PyProof.Rows
noncomputable def Ite (K:PySem.W.Frag) (a:Addr):It:=
 ⟨fun i H=>Ex2 fun xs x=>SqL K H a xs∧xs[i]? = some x,
   fun i H v H'=>∃T,v = .ref T∧H T=none∧∀xs x,SqL K H a xs→xs[i]? = some x→H'=upd H T (.tup [.int i,x]),
   fun i H=>∃xs,SqL K H a xs∧xs.length≤i⟩
theorem turn_enum {P:Program} {w:World} {K:PySem.W.Frag} {elts:List Expr} {k:Nat} {tp:Pos} (e it l:Addr) (hei:e≠it) (hle:l≠e) (hli:l≠it) :
  Turn P w K (.Tuple elts k tp) (Ite K l) [e,it] e (fun i h=>(∃old,IsEnum h e it i old)∧h.IsListIter it l i) where
 mem:=by simp
 obj:=fun i h st b hb=>by
  obtain ⟨⟨_,h1⟩,⟨o4,h4,_,d4⟩⟩:=st
  simp at hb
  rcases hb with rfl|rfl
  ·exact ⟨_,h1,fun _ z=>nomatch z⟩
  ·exact ⟨_,h4,fun v q=>by rw [d4] at q;cases q⟩
 keep:=fun i h h' st hk=>by
  obtain ⟨⟨a,h1⟩,h4⟩:=st
  exact ⟨⟨a,hk e (by simp) _ h1⟩,h4.at fun o e=>hk it (by simp) o e⟩
 item:=fun X hP hw hK hc i pins s σ H E I hf st go=>by
  subst hP hw hK
  obtain ⟨⟨old,he⟩,h1⟩:=st
  obtain ⟨xs,x,q1,e1⟩:=go
  obtain ⟨its1,r1,p1,_⟩:=I.list q1
  obtain ⟨u1,g1,ru1⟩:=vals_get r1 e1
  refine wpAny_pyNext_enum_item he h1 p1.isList g1 hei fun h' a1 a3 a5 a6 a7=>⟨_,rfl,?_⟩
  refine wpAny_letOwnedTupleGo_enum a1 fun h'' b1 b2 => ?_
  have hTz:s.heap.objs.size≠e:=addr_ne' (Heap.lt_size he) (Nat.le_refl _)
  have kp:∀c o,c ∉ [e,it]→s.heap.get? c=some o→h''.get? c=some o:=fun c o hc z=>by
   simp only [List.mem_cons,List.not_mem_nil,or_false,not_or] at hc
   exact b2.extBut c o hc.1 (a7 c o hc.1 hc.2 z)
  have I1:Inv X pins σ H { s with heap:=h'',toks:=s.toks+1 }:=I.iter hf kp
  have fT:FpOk X pins H s.heap.objs.size:=I.fpOk (Nat.le_refl _) (I.hok.fresh (Nat.le_refl _))
  have oT:h''.get? s.heap.objs.size=some { cls := .type "tuple",data := .seq #[.int i s.toks,u1] }:=b2.extBut _ _ hTz a5
  have I2:=I1.adopt (T:=s.heap.objs.size) (o := .tup [.int i,x]) fT I.sz ⟨by show 2≤sizeLine;decide,[.int i s.toks,u1], .cons ⟨_,rfl⟩ (.cons ru1 .nil),⟨_,oT,rfl,_,rfl⟩⟩
  refine ⟨.ref s.heap.objs.size,_,I2,rfl,⟨_,rfl,fT.1,fun xs' x' q1' e1' => ?_⟩,⟨⟨_,by
   have b1:IsEnum h'' e it ((i:Int)+1) u1:=b1
   have z:(((i+1:Nat):Int))=(i:Int)+1:=by omega
   show IsEnum h'' e it ((i+1:Nat):Int) _
   rw [z];exact b1⟩,a3.extBut b2.extBut (Ne.symm hei)⟩,fun c hc => ?_⟩
  ·rw [I.list_inj q1' q1] at e1'
   rw [e1] at e1';cases e1';rfl
  ·have hcs:c<s.heap.objs.size:=by
    simp at hc
    obtain ⟨_,h1,_⟩:=h1
    rcases hc with rfl|rfl
    ·exact Heap.lt_size he
    ·exact Heap.lt_size h1
   rw [upd_ne (addr_ne hcs (Nat.le_refl _))]
   exact (hf c hc).1
 done:=fun X hP hw hK hc i pins s σ H E I hf st stop=>by
  subst hP hw hK
  obtain ⟨⟨old,he⟩,h1⟩:=st
  obtain ⟨xs,q1,e⟩:=stop
  obtain ⟨its1,r1,p1,_⟩:=I.list q1
  have l1':=r1.length
  refine wpAny_pyNext_enum_end (I.ok.hd hc) he h1 p1.isList (by simp;omega) fun h' kp=>⟨rfl,?_⟩
  refine I.iter (ch:=[it]) (t':=s.toks) (fun c hc=>hf c (by simp at hc ⊢;simp [hc])) fun c o hc z=>kp c o (fun q=>hc (by simp [q])) z
 self:=fun A i s Q E st hQ=>by
  obtain ⟨⟨old,he⟩,_⟩:=st
  exact wpAny_pyIter_enum he hQ
section
variable {X:Cx}
noncomputable def iEnum (K:PySem.W.Frag) (ta:TA):TI:=fun σ H R=>ta σ H fun vs H1=>∃a,vs=[.ref a]∧(∃xs,SqL K H1 a xs)∧R (Ite K a) H1
theorem pi_enum {elts:List Expr} {k:Nat} {tp:Pos} {a:Expr} {ta:TA} {p pos:Pos} (hg:Gl X "enumerate") (hm:X.mg "enumerate" = none) (ha:PA X [a] ta) (hb:bootBuiltins "enumerate" = some (.type "enumerate"):=by first|rfl|decide) (hs:starEach [a] X.env=[(false,eval a X.env)]:=by rfl) :
  PI X (.Tuple elts k tp) (.Call (.Name "enumerate" p) [a] [] pos) (iEnum X.K ta):=by
 intro pins s σ H R I h
 refine Call_ (ld_blt I hg hm hb (PyProof.Rows.callWith_type1 (thn (ha s σ H _ I h) fun us s1 hz_=>Elim.el hz_ _ fun vs H1 I1 r1 q1 => ?_) hs rfl))
 obtain ⟨l1,e,⟨xs,q1⟩,q⟩:=q1
 subst e
 obtain ⟨u,rfl,ru⟩:=vals1 r1
 cases ru
 obtain ⟨its1,rv1,p1,_⟩:=I1.list q1
 have a1:l1<s1.heap.objs.size:=by obtain ⟨_,e,_⟩:=p1.isList;exact Heap.lt_size e
 refine call_enumerate_list p1.isList (fun h' he hi1 hsz hk => ?_)
 refine wpAny_pyIter_enum he ?_
 have I2:Inv X pins σ H1 { s1 with heap:=h' }:=I1.kept (t':=s1.toks) hk
 refine ⟨_,_,_,_,H1,rfl,I2,turn_enum _ _ _ (Nat.succ_ne_self _) (Nat.ne_of_lt (Nat.lt_succ_of_lt a1)) (Nat.ne_of_lt a1),⟨⟨_,he⟩,hi1⟩,fun c hc => ?_,q⟩
 have hcs:s1.heap.objs.size≤c:=by
  simp at hc
  rcases hc with rfl|rfl
  ·exact Nat.le_add_right _ _
  ·exact Nat.le_refl _
 exact I1.fpOk hcs (I1.hok.fresh hcs)
end
end L2
namespace L2
open PySem PySem.Spec PyProof.Rows
section
variable {X:Cx}
noncomputable def rAddA:R2:=fun x y H Q=>(Ex2 fun i j=>x = .int i∧y = .int j∧Q (.int (i+j)) H)∨(∃i j,x = .str i∧y = .str j∧i.length+j.length≤sizeLine∧Q (.str (i++j)) H)∨rCat x y H Q
theorem g_add:OpR X (binaryOp .Add) rAddA:=op_add.or (op_add_str.or op_cat)
noncomputable def rMulA:R2:=fun x y H Q=>(Ex2 fun i j=>x = .int i∧y = .int j∧CMul i j∧Q (.int (i*j)) H)∨rRep x y H Q
theorem g_mul:OpR X (binaryOp .Mult) rMulA:=op_mul.or op_rep
structure Fn (P:Program) (w:World) (K:PySem.W.Frag) (mg:Str→Option Value) (base:Heap) (k:Nat) (x:Str) (ps:List Str) (sp:Sp):Prop where
 ex:∃f fd,FnOk P w K mg base CX0 k f fd ps sp∧Binds K fd ps []∧PySem.W.keepIn K (.ref f)=true∧mg x=some (.ref f)
theorem Fn.mono {P:Program} {w:World} {K:PySem.W.Frag} {mg:Str→Option Value} {base:Heap} {j k:Nat} {x:Str} {ps:List Str} {sp:Sp} (F:Fn P w K mg base j x ps sp) (h:j≤k):Fn P w K mg base k x ps sp:=by
 refine Elim.el (F.ex) _ ?_
 rintro f fd a b c d
 exact ⟨f,fd,a.mono h,b,c,d⟩
theorem pe_fn {k:Nat} {x:Str} {ps:List Str} {sp:Sp} {p pos:Pos} {e:Expr} {es:List Expr} {t:TA} (F:Fn X.prog X.w X.K X.mg X.base k x ps sp) (hr:Room k X.A) (hg:Gl X x)
  (ha:PA X (e :: es) t) (hdb:(x == ("__debug__" : Str))=false:=by decide) (he:starEach (e :: es) X.env=(false,eval e X.env) :: starEach es X.env:=by rfl) (hpl:(backTo pos (starEach es X.env)).any (·.1)=false:=by rfl) :
  PE X (.Call (.Name x p) (e :: es) [] pos) (tCall sp [] E0 t):=by
 refine Elim.el (F.ex) _ ?_
 rintro f fd a b c d
 exact pe_call a hr hg d c b .nil pass0 ha hdb he hpl
end
noncomputable def compChk (pn sn:List (Str×NameKind)) (N Fc:List Str) (js:List Nat):Bool:=
 sn.all (fun y=>y.2 != .cell)&&sn.all (fun y=>y.2 != .local||sn.lookup y.1 == some .local)&&sn.all (fun y=>y.2 != .free||pn.lookup y.1 == some .cell||pn.lookup y.1 == some .free)&&js.length == Fc.length &&
 (List.range Fc.length).all fun k=>match Fc[k]?,js[k]? with
  | some x,some j=>sn.lookup x == some .free&&N[j]? == some x
  | _,_=>false
theorem comp_ok {X:Cx} {scope:Scope} {Nc Fc:List Str} {js:List Nat} (hk:scope.kind = .function:=by rfl) (h:compChk X.env.scope.names scope.names X.N Fc js=true:=by rfl):CompOk X scope Nc Fc js:=by
 unfold compChk at h
 simp -iota only [Bool.and_eq_true,List.all_eq_true,Bool.or_eq_true,bne_iff_ne,beq_iff_eq,ne_eq] at h
 obtain ⟨⟨⟨⟨h1,h2⟩,h3⟩,h4⟩,h5⟩:=h
 refine ⟨hk,h1,fun y hy hl=>(h2 y hy).resolve_left (fun z=>z hl),fun y hy hf => ?_,fun k x hx => ?_,h4⟩
 ·rcases h3 y hy with (z|z)|z
  ·exact absurd hf z
  ·exact .inl z
  ·exact .inr z
 ·have hk':k<Fc.length:=(List.getElem?_eq_some_iff.mp hx).1
  have q:=h5 k (List.mem_range.mpr hk')
  have hj:k<js.length:=by omega
  rw [hx,List.getElem?_eq_getElem hj] at q
  simp only [Bool.and_eq_true,beq_iff_eq] at q
  exact ⟨q.1,_,List.getElem?_eq_getElem hj,q.2⟩
end L2
namespace L2
open PySem PySem.Spec PyProof.Rows
section
variable {X:Cx}
theorem g_eq (hu:X.A.units+64<cLine):OpR X (compareOp .Eq) (fun x y H Q=>rEq x y H Q∨(∃d e,Den X.K H d x∧Den X.K H e y∧SeqAt.shaped d=true∧SeqAt.shaped e=true∧Q (.bl (PyData.eqv d e)) H)):=op_eq.or (op_eqD hu)
theorem g_ne (hu:X.A.units+64<cLine):OpR X (compareOp .NotEq) (fun x y H Q=>rNe x y H Q∨(∃d e,Den X.K H d x∧Den X.K H e y∧SeqAt.shaped d=true∧SeqAt.shaped e=true∧Q (.bl (!PyData.eqv d e)) H)):=op_ne.or (op_neD hu)
theorem g_is:OpR X (compareOp .Is) (fun x y H Q=>(y = .non∧Q (.bl (decide (x = .non))) H)∨(∃a b,x = .bl a∧y = .bl b∧Q (.bl (decide (a=b))) H)):=op_isN.or op_isB
theorem g_isnot:OpR X (compareOp .IsNot) (fun x y H Q=>(y = .non∧Q (.bl (!decide (x = .non))) H)∨(∃a b,x = .bl a∧y = .bl b∧Q (.bl (!decide (a=b))) H)):=op_notN.or op_isnotB
theorem g_sl:SlR X (fun x lo hi H Q=>rSlL X.K x lo hi H Q∨(∃z,x = .str z∧z.length≤sizeLine∧Q (.str (Txt.slice z lo hi)) H)):=sl_list.or sl_str
structure Nm (mg:Str→Option Value):Prop where
 n_len:mg "len" = none
 n_range:mg "range" = none
 n_max:mg "max" = none
 n_min:mg "min" = none
 n_sum:mg "sum" = none
 n_all:mg "all" = none
 n_any:mg "any" = none
 n_list:mg "list" = none
 n_tuple:mg "tuple" = none
 n_int:mg "int" = none
 n_str:mg "str" = none
 n_bool:mg "bool" = none
 n_zip:mg "zip" = none
 n_enumerate:mg "enumerate" = none
 n_isinstance:mg "isinstance" = none
 n_divmod:mg "divmod" = none
end
end L2
namespace L2
open PySem PySem.Spec PyProof.Rows
theorem comp_go {J:It} {n:Nat} {js:List Nat} {g:TG} {tc:TT} {te:TE} {σ:St} {H1:Hp} {fin:List V→Hp→Prop} (N:Nat) (Pv:Nat→List V→Hp→Prop) (h0:Pv 0 [] H1)
  (go:∀i ys H (Nx:List V→Hp→Prop),i<N→Pv i ys H→(∀ys' H',Pv (i+1) ys' H'→Nx ys' H')→J.go i H∧ys.length<sizeLine ∧
   ∀x H',J.yld i H x H'→g x (List.replicate n none++cvals σ js) H' fun σ2 H2=>tc σ2 H2 fun b H3=>if b=true then te σ2 H3 fun y H4=>Nx (ys++[y]) H4 else Nx ys H3)
  (stop:∀ys H,Pv N ys H→J.stop N H∧fin ys H):CompW J n js g tc te σ H1 fin:=by
 refine ⟨fun i m ys H=>m=N-i∧i≤N∧Pv i ys H,⟨N,by simp,Nat.zero_le _,h0⟩,?_⟩
 intro i m ys H
 refine Elim.go ?_
 rintro rfl hi p
 by_cases hlt:i<N
 ·exact .inr (go i ys H (fun ys' H'=>∃m',m'<N-i∧(m'=N-(i+1)∧i+1≤N∧Pv (i+1) ys' H')) hlt p fun ys' H' q=>⟨_,by omega,rfl,hlt,q⟩)
 ·have e:i=N:=by omega
  subst e
  exact .inl (stop ys H p)
section
variable {X:Cx} (K:PySem.W.Frag)
theorem ixK (hK:X.K=K:=by rfl):IxR X (rIx K):=by subst hK;exact ix_seq
theorem lenK (hK:X.K=K:=by rfl):CallR X (.builtin "len") (fun xs H Q=>∃x n,xs=[x]∧LenV K x H n∧Q (.int n) H):=by subst hK;exact call_len
theorem joinK (hK:X.K=K:=by rfl):MtR X "str.join" (fun x vs H Q=>∃(sep:Str) (p:Addr) (xs:List Str),x = .str sep∧vs=[.ref p]∧SqL K H p (xs.map V.str)∧(xs.map (·.length)).sum+xs.length*sep.length≤16777216∧Q (.str (Txt.join sep xs)) H):=by subst hK;exact mt_join
theorem piK {tg l:Expr} {tl:TE} (hl:PE X l tl) (hK:X.K=K:=by rfl):PI X tg l (iList K tl):=by subst hK;exact pi_list hl
theorem tupK {pos:Pos} {es:List Expr} {k:Nat} {t:TGs} (n:Nat) (hc:X.calm=true) (h:PGs X es t) (hn:(assignEach es X.env).length=n:=by rfl) (hst:(assignEach es X.env).findIdx? (·.1)=none:=by rfl) (hK:X.K=K:=by rfl):PG X (.Tuple es k pos) (gTup K n t):=by subst hK;exact pg_tup hc h hn hst
theorem bmK {o e:Expr} {es:List Expr} {to:TE} {t:TA} {name:Str} {apos cpos:Pos} {T id:String} {r:V→List V→Hp→VK→Prop} (pa:PlainAttrs T) (slot:Slot T name id) (hty:typeOf (.builtin id)=pure (.type "method_descriptor")) (hm:MtR X id r) (ho:PE X o to) (ha:PA X (e :: es) t)
  (hbase:attributeBase o name X.env (eval o X.env)=eval o X.env:=by rfl)
  (hfew:((backTo cpos (starEach (e :: es) X.env)).all (fun x => !x.1)&&(backToKw cpos (keywordEach [] X.env)).all (fun x=>x.1.isSome)
   && decide ((e :: es).length+([]:List Keyword).length+(if ([]:List Keyword).isEmpty then 0 else 1)<30))=true:=by rfl)
  (hline:(apos.endLine == cpos.line)=true:=by rfl) (hs:starEach (e :: es) X.env=(false,eval e X.env) :: starEach es X.env:=by rfl) (hplain:(backTo cpos (starEach es X.env)).any (·.1)=false:=by rfl) (hK:X.K=K:=by rfl) :
  PE X (.Call (.Attribute o name apos) (e :: es) [] cpos) (tBM K T r to t):=by subst hK;exact pe_bm pa slot hty hm ho ha hbase hfew hline hs hplain
theorem eqK (hu:X.A.units+64<cLine) (hK:X.K=K:=by rfl):OpR X (compareOp .Eq) (fun x y H Q=>rEq x y H Q∨(∃d e,Den K H d x∧Den K H e y∧SeqAt.shaped d=true∧SeqAt.shaped e=true∧Q (.bl (PyData.eqv d e)) H)):=by subst hK;exact g_eq hu
theorem neK (hu:X.A.units+64<cLine) (hK:X.K=K:=by rfl):OpR X (compareOp .NotEq) (fun x y H Q=>rNe x y H Q∨(∃d e,Den K H d x∧Den K H e y∧SeqAt.shaped d=true∧SeqAt.shaped e=true∧Q (.bl (!PyData.eqv d e)) H)):=by subst hK;exact g_ne hu
end
end L2
namespace L2
open PySem PySem.Spec PyProof.Rows
noncomputable abbrev Keeps (g h:Heap) (c:Addr→Prop):Prop:=∀b o, ¬c b→g.get? b=some o→h.get? b=some o
structure Grown (h:Heap) (S:Addr) (i:Nat) (P:Nat→Value→Heap→Prop) (R:Value→Value→Prop) (acc:Array Value) (c:Nat):Prop where
 ob:h.get? S=some { cls := .type "list",data := .seq acc c }
 sz:acc.size=i
 pw:acc.toList.Pairwise R
 all:∀(j:Nat) v,acc[j]? = some v→P j v h
noncomputable abbrev RunsTo (prog:Program) (w:World) (A:Around) (R:Result→Shared→Prop):Fin→Shared→Prop:=fun fin s'=>match fin with
 | .done f=>R (.ok f) s'
 | .again c'=>c'.quiet=true∧codeAny (model prog w) A c' R s'
section
variable {prog:Program} {w:World} {A:Around} {it S:Addr} {T:String} {fp:Addr→Prop} {n:Nat} {P:Nat→Value→Heap→Prop} {R:Value→Value→Prop} {St:Nat→Heap→Prop}
noncomputable abbrev FeedEnd (g:Heap) (S:Addr) (fp:Addr→Prop) (n:Nat) (P:Nat→Value→Heap→Prop) (R:Value→Value→Prop) (s:Shared) (Z:Shared→Prop):Prop:=
 ∀h' tk acc c,Keeps g h' (fun b=>fp b∨b=S)→Grown h' S n P R acc c→Z { s with heap:=h',toks:=tk }
end
end L2
namespace L2
open PySem PySem.Spec PyProof.Rows
section
variable {prog:Program} {w:World} {A:Around} {E:Value→Shared→Prop} {s:Shared} {z TI TO i1 i2 l1 l2 a:Addr} {f:Bool} {oa:Obj}
end
end L2
namespace L2
open PySem PySem.Spec PyProof.Rows
section
variable {X:Cx}
end
end L2
namespace L2
open PySem PySem.Spec PyProof.Rows
structure New (H:Hp) (p:Addr) (o:HO) (H':Hp):Prop where
 nn:H p=none
 eq:H'=upd H p o
theorem New.at {H H':Hp} {p:Addr} {o:HO} (n:New H p o H'):H' p=some o:=by rw [n.eq];exact upd_same
theorem New.ne {H H':Hp} {p a:Addr} {o:HO} (n:New H p o H') (h:a≠p):H' a=H a:=by rw [n.eq];exact upd_ne h
theorem New.same {H H':Hp} {p:Addr} {o:HO} (n:New H p o H'):Same H H':=fun a u e=>by rw [n.ne (ne_of_none e n.nn)];exact e
theorem New.back {H H':Hp} {p a:Addr} {o:HO} (n:New H p o H') (h:H' a=none):H a=none:=by
 cases e:H a with
 | none=>rfl
 | some u=>rw [n.same a u e] at h;cases h
structure Chg (H:Hp) (p:Addr) (o:HO) (H':Hp):Prop where
 eq:H'=upd H p o
theorem Chg.at {H H':Hp} {p:Addr} {o:HO} (n:Chg H p o H'):H' p=some o:=by rw [n.eq];exact upd_same
theorem Chg.ne {H H':Hp} {p a:Addr} {o:HO} (n:Chg H p o H') (h:a≠p):H' a=H a:=by rw [n.eq];exact upd_ne h
theorem new_all {H:Hp} {o:HO} {F:Addr→Hp→Prop} : (∀p,H p=none→F p (upd H p o)) = ∀p H',New H p o H'→F p H':=
 propext ⟨fun h p H' n=>by rw [n.eq];exact h p n.nn,fun h p hp=>h p _ ⟨hp,rfl⟩⟩
theorem chg_all {H:Hp} {p:Addr} {o:HO} {F:Hp→Prop} : F (upd H p o) = ∀H',Chg H p o H'→F H':=
 propext ⟨fun h H' n=>by rw [n.eq];exact h,fun h=>h _ ⟨rfl⟩⟩
section
variable {X:Cx} {pos:Pos} {es:List Expr} {t:TA}
noncomputable def tTupN (t:TA):TE:=fun σ H Q=>t σ H fun xs H1=>xs.length≤sizeLine∧∀p H',New H1 p (.tup xs) H'→Q (.ref p) H'
noncomputable def tLstN (t:TA):TE:=fun σ H Q=>t σ H fun xs H1=>xs.length≤sizeLine∧∀p H',New H1 p (.lst xs) H'→Q (.ref p) H'
theorem tupN {x1} (h:PA X es t):PE X (.Tuple es x1 pos) (tTupN t):=by
 have e:tTupN t=tTup t:=by
  funext σ H Q
  show t σ H _=t σ H _
  congr 1;funext xs H1
  exact congrArg (_ ∧ ·) (new_all (F:=fun p H'=>Q (.ref p) H')).symm
 rw [e];exact pe_tup h
theorem lstN (h:PA X es t):PE X (.List es pos) (tLstN t):=by
 have e:tLstN t=tLst t:=by
  funext σ H Q
  show t σ H _=t σ H _
  congr 1;funext xs H1
  exact congrArg (_ ∧ ·) (new_all (F:=fun p H'=>Q (.ref p) H')).symm
 rw [e];exact pe_lst h
noncomputable def tDispN (trs:List (TE×TE)):TE:=fun σ H Q=>∀p H0,New H p (.dK []) H0→tPairs trs σ H0 fun ps H2=>H2 p=some (.dK [])∧∃kvs:List (Key×V),ps=kvs.map (fun kv=>(kV kv.1,kv.2))∧kvs.length≤15∧∀H3,Chg H2 p (.dK (mergeK [] kvs)) H3→Q (.ref p) H3
theorem dispN {keys:List (Option Expr)} {values:List Expr} {trs:List (TE×TE)} (h:PPs X pos keys values trs) (hall:keys.all (·.isSome)=true) (hl:keys.length=values.length) (h0:keys≠[])
  (h15:keys.length≤15):PE X (.Dict keys values pos) (tDispN trs):=by
 have e:tDispN trs=tDisp trs:=by
  funext σ H Q
  unfold tDispN tDisp
  rw [new_all (F:=fun p H0=>tPairs trs σ H0 fun ps H2=>H2 p=some (.dK [])∧∃kvs:List (Key×V),ps=kvs.map (fun kv=>(kV kv.1,kv.2))∧kvs.length≤15∧Q (.ref p) (upd H2 p (.dK (mergeK [] kvs))))]
  simp only [←chg_all (F:=fun H3=>Q (.ref _) H3)]
 rw [e];exact pe_disp h hall hl h0 h15
end
section
variable {X:Cx} (K:PySem.W.Frag)
noncomputable def rSlN (K:PySem.W.Frag):V→Option Int→Option Int→Hp→VK→Prop:=fun x lo hi H Q=>(Ex2 fun a xs=>x = .ref a∧SqL K H a xs∧∀p H',New H p (.lst (cutV xs lo hi)) H'→Q (.ref p) H')∨(∃z,x = .str z∧z.length≤sizeLine∧Q (.str (Txt.slice z lo hi)) H)
theorem slN (hK:X.K=K:=by rfl):SlR X (rSlN K):=by
 subst hK
 intro pins s σ H x v vl vu lo hi sl Q I rx hs pl pu q
 refine g_sl s σ H x v vl vu lo hi sl Q I rx hs pl pu ?_
 rcases q with ⟨a,xs,e,h,q⟩|q
 ·exact .inl ⟨a,xs,e,h,fun p hp=>q p _ ⟨hp,rfl⟩⟩
 ·exact .inr q
theorem listN (hK:X.K=K:=by rfl):CallR X (.type "list") (fun xs H Q=>∃p ys,xs=[.ref p]∧(SqL K H p ys∨SqT K H p ys)∧∀l H',New H l (.lst ys) H'→Q (.ref l) H'):=by
 subst hK
 intro pins s σ H xs us Q I r h
 refine Elim.el (h) _ ?_
 rintro p ys e h q
 exact call_list_of s σ H xs us Q I r ⟨p,ys,e,h,fun l hl=>q l _ ⟨hl,rfl⟩⟩
theorem tupleN (hK:X.K=K:=by rfl):CallR X (.type "tuple") (fun xs H Q=>∃p ys,xs=[.ref p]∧((SqL K H p ys∧∀l H',New H l (.tup ys) H'→Q (.ref l) H')∨(SqT K H p ys∧Q (.ref p) H))):=by
 subst hK
 intro pins s σ H xs us Q I r h
 refine Elim.el (h) _ ?_
 rintro p ys e h
 refine call_tuple_of s σ H xs us Q I r ⟨p,ys,e,?_⟩
 rcases h with ⟨h,q⟩|h
 ·exact .inl ⟨h,fun l hl=>q l _ ⟨hl,rfl⟩⟩
 ·exact .inr h
end
section
variable {X:Cx}
noncomputable def rAddN:R2:=fun x y H Q=>(Ex2 fun i j=>x = .int i∧y = .int j∧Q (.int (i+j)) H)∨(∃i j,x = .str i∧y = .str j∧i.length+j.length≤sizeLine∧Q (.str (i++j)) H) ∨
 Ex4 fun l b xs zs=>x = .ref l∧y = .ref b∧H l=some (.lst xs)∧H b=some (.lst zs)∧xs.length+zs.length≤sizeLine∧∀p H',New H p (.lst (xs++zs)) H'→Q (.ref p) H'
theorem addN:OpR X (binaryOp .Add) rAddN:=by
 intro pins s σ H x y v u Q I rx ry h
 refine g_add s σ H x y v u Q I rx ry ?_
 rcases h with h|h|⟨l,b,xs,zs,e1,e2,h1,h2,h3,q⟩
 ·exact .inl h
 ·exact .inr (.inl h)
 ·exact .inr (.inr ⟨l,b,xs,zs,e1,e2,h1,h2,h3,fun p hp=>q p _ ⟨hp,rfl⟩⟩)
noncomputable def rMulN:R2:=fun x y H Q=>(Ex2 fun i j=>x = .int i∧y = .int j∧CMul i j∧Q (.int (i*j)) H) ∨
 Ex3 fun l k xs=>x = .ref l∧y = .int k∧H l=some (.lst xs) ∧ -(2 ^ 63)≤k∧k<2 ^ 63∧xs.length*k.toNat≤sizeLine∧∀p H',New H p (.lst (List.replicate k.toNat xs).flatten) H'→Q (.ref p) H'
theorem mulN:OpR X (binaryOp .Mult) rMulN:=by
 intro pins s σ H x y v u Q I rx ry h
 refine g_mul s σ H x y v u Q I rx ry ?_
 rcases h with h|⟨l,k,xs,e1,e2,h1,h2,h3,h4,q⟩
 ·exact .inl h
 ·exact .inr ⟨l,k,xs,e1,e2,h1,h2,h3,h4,fun p hp=>q p _ ⟨hp,rfl⟩⟩
theorem divmodN:CallR X (.builtin "divmod") (fun xs H Q=>∃i j,xs=[.int i, .int j]∧CDiv i j∧∀p H',New H p (.tup [.int (i / j), .int (i % j)]) H'→Q (.ref p) H'):=by
 intro pins s σ H xs us Q I r h
 refine Elim.el (h) _ ?_
 rintro i j e c q
 exact call_divmod s σ H xs us Q I r ⟨i,j,e,c,fun p hp=>q p _ ⟨hp,rfl⟩⟩
theorem appendN:MtM X "list.append" (fun x vs H Q=>∃l xs y,x = .ref l∧vs=[y]∧H l=some (.lst xs)∧xs.length<sizeLine∧∀H',Chg H l (.lst (xs++[y])) H'→Q .non H'):=by
 intro pins s σ H x xs v us Q I rx rv h
 refine Elim.el (h) _ ?_
 rintro l ys y e1 e2 h1 h2 q
 exact mt_append s σ H x xs v us Q I rx rv ⟨l,ys,y,e1,e2,h1,h2,q _ ⟨rfl⟩⟩
theorem extendN:MtM X "list.extend" (fun x vs H Q=>∃l b xs zs,x = .ref l∧vs=[.ref b]∧H l=some (.lst xs)∧H b=some (.lst zs)∧xs.length+zs.length≤sizeLine∧∀H',Chg H l (.lst (xs++zs)) H'→Q .non H'):=by
 intro pins s σ H x xs v us Q I rx rv h
 refine Elim.el (h) _ ?_
 rintro l b ys zs e1 e2 h1 h2 h3 q
 exact mt_extend s σ H x xs v us Q I rx rv ⟨l,b,ys,zs,e1,e2,h1,h2,h3,q _ ⟨rfl⟩⟩
theorem popAtN:MtM X "list.pop" (fun x vs H Q=>∃l xs i y,x = .ref l∧vs=[.int i]∧H l=some (.lst xs)∧0≤i∧i<2 ^ 63∧xs[i.toNat]? = some y∧∀H',Chg H l (.lst (xs.eraseIdx i.toNat)) H'→Q y H'):=by
 intro pins s σ H x xs v us Q I rx rv h
 refine Elim.el (h) _ ?_
 rintro l ys i y e1 e2 h1 h2 h3 h4 q
 refine mt_popAt s σ H x xs v us Q I rx rv ⟨l,ys,i,i.toNat,y,e1,e2,h1,by omega,h3,?_,h4,q _ ⟨rfl⟩⟩
 have hl:=(List.getElem?_eq_some_iff.mp h4).1
 have q:atI ys ((i.toNat:Nat):Int)=some y:=atI_nat h4
 have ei:((i.toNat:Nat):Int)=i:=by omega +splitMinMax
 rw [ei] at q
 obtain ⟨j,hj,hj2,_⟩:=atI_get q
 have:ixN ys.length i=some i.toNat:=by unfold ixN;rw [if_pos h2,if_pos (by omega)]
 exact (ixN_seq this).1
end
theorem at_nat {α:Type} {xs:List α} {i:Int} {v : α} (h0:0≤i) (h:xs[i.toNat]? = some v):atI xs i=some v:=by
 have q:=atI_nat h
 have e:((i.toNat:Nat):Int)=i:=by omega
 rw [e] at q
 exact q
end L2
namespace L2
open PySem PySem.Spec PyProof.Rows
noncomputable def tyD:PyData→String
 | .none => "NoneType"
 | .bool _ => "bool"
 | .int _ => "int"
 | .str _ => "str"
 | .list _ => "list"
 | .tuple _ => "tuple"
 | .dict _ => "dict"
noncomputable def isD (d:PyData) (T:String):Bool:=tyD d == T||(tyD d == "bool" && T == "int")
theorem kitT (K:PySem.W.Frag) (d:PyData):PySem.W.kitOne K (.type (tyD d)) (.type "bool")=some (isD d "bool")∧PySem.W.kitOne K (.type (tyD d)) (.type "int")=some (isD d "int")∧PySem.W.kitOne K (.type (tyD d)) (.type "str")=some (isD d "str") ∧
  PySem.W.kitOne K (.type (tyD d)) (.type "list")=some (isD d "list")∧PySem.W.kitOne K (.type (tyD d)) (.type "tuple")=some (isD d "tuple"):=by
 cases d <;> exact ⟨rfl,rfl,rfl,rfl,rfl⟩
section
variable {X:Cx}
theorem den_kit {pins:List (Addr×Obj)} {σ:St} {H:Hp} {s:Shared} {x:V} {u:Value} {d:PyData} (I:Inv X pins σ H s) (rx:RelV x u) (h:Den X.K H d x):∃HH:Heap→Prop,PySem.W.KitX X.K u (.type (tyD d)) HH∧HH s.heap∧u ≠ .builtin "__main__.__loader__#opaque":=by
 cases d with
 | none=>unfold Den at h;subst h;cases rx;exact ⟨_,PySem.W.kitx_none,True.intro,fun z=>nomatch z⟩
 | bool b=>unfold Den at h;subst h;cases rx;exact ⟨_,PySem.W.kitx_bool,True.intro,fun z=>nomatch z⟩
 | int i=>unfold Den at h;subst h;obtain ⟨t,rfl⟩:=rx;exact ⟨_,PySem.W.kitx_int,True.intro,fun z=>nomatch z⟩
 | str y=>unfold Den at h;subst h;obtain ⟨t,rfl⟩:=rx;exact ⟨_,PySem.W.kitx_str,True.intro,fun z=>nomatch z⟩
 | list ds=>
  unfold Den at h
  refine Elim.el (h) _ ?_
  rintro a vs rfl h2 _
  cases rx
  obtain ⟨its,_,⟨o,n,e1,e2,_⟩,_⟩:=I.list h2
  exact ⟨_,PySem.W.kitx_list,⟨o,e1,e2⟩,fun z=>nomatch z⟩
 | tuple ds=>
  unfold Den at h
  refine Elim.el (h) _ ?_
  rintro a vs rfl h2 _
  cases rx
  obtain ⟨its,_,⟨o,e1,e2,_⟩,_⟩:=I.tuple h2
  exact ⟨_,PySem.W.kitx_tuple,⟨o,e1,e2⟩,fun z=>nomatch z⟩
 | dict _=>unfold Den at h;exact h.elim
theorem call_isiD:CallR X (.builtin "isinstance") (fun xs H Q=>∃(x:V) (T:String) (d:PyData) (b:Bool),xs=[x, .ty T]∧Den X.K H d x∧PySem.W.kitOne X.K (.type (tyD d)) (.type T)=some b∧Q (.bl b) H):=by
 intro pins s σ H xs us Q I r h
 refine Elim.el (h) _ ?_
 rintro x T d b rfl hd e q
 refine Elim.el (vals2 r) _ ?_
 rintro u w' rfl r1 r2
 cases r2
 refine Elim.el (den_kit I r1 hd) _ ?_
 rintro HH Z hh hx
 exact PySem.W.kia_one Z I.kIn hh e hx fun tk=>⟨.bl b,H,I.tok _,rfl,q⟩
theorem call_isiTD:CallR X (.builtin "isinstance") (fun xs H Q=>∃(x:V) (p:Addr) (Ts:List String) (d:PyData) (b:Bool),xs=[x, .ref p]∧H p=some (.tup (Ts.map V.ty))∧Den X.K H d x∧PySem.W.kitAny X.K (.type (tyD d)) (Ts.map Value.type)=some b∧Q (.bl b) H):=by
 intro pins s σ H xs us Q I r h
 refine Elim.el (h) _ ?_
 rintro x p Ts d b rfl hp hd e q
 refine Elim.el (vals2 r) _ ?_
 rintro u w' rfl r1 r2
 cases r2
 refine Elim.el (den_kit I r1 hd) _ ?_
 rintro HH Z hh hx
 obtain ⟨_,its,rv,o,h1,h2,n,h3⟩:=(show ObjOk X.prog X.w H s.heap p (.tup (Ts.map V.ty)) from I.hok p _ hp)
 have ei:its=Ts.map Value.type:=by
  clear e hp h3 h2 h1
  rename_i hz
  clear hz
  induction Ts generalizing its with
  | nil=>cases rv;rfl
  | cons T Ts ih=>
   cases rv with
   | cons q1 q2=>cases q1;rw [ih _ q2];rfl
 subst ei
 obtain ⟨cls,dd,data,sl⟩:=o
 simp only at h2 h3
 subst h2 h3
 exact PySem.W.kia_tup Z I.kIn hh h1 e hx fun tk=>⟨.bl b,H,I.tok _,rfl,q⟩
noncomputable def rIsi (K:PySem.W.Frag):List V→Hp→VK→Prop:=fun xs H Q=>(∃(x:V) (T:String) (d:PyData) (b:Bool),xs=[x, .ty T]∧Den K H d x∧PySem.W.kitOne K (.type (tyD d)) (.type T)=some b∧Q (.bl b) H) ∨
 ∃x T t b,xs=[x, .ty T]∧TyOf K H x t∧PySem.W.kitOne K t (.type T)=some b∧Q (.bl b) H
theorem isiK (K:PySem.W.Frag) (hK:X.K=K:=by rfl):CallR X (.builtin "isinstance") (rIsi K):=by subst hK;exact call_isiD.or call_isi
noncomputable def rIsiT (K:PySem.W.Frag):List V→Hp→VK→Prop:=fun xs H Q=>∃(x:V) (p:Addr) (Ts:List String) (d:PyData) (b:Bool),xs=[x, .ref p]∧H p=some (.tup (Ts.map V.ty))∧Den K H d x∧PySem.W.kitAny K (.type (tyD d)) (Ts.map Value.type)=some b∧Q (.bl b) H
theorem isiTK (K:PySem.W.Frag) (hK:X.K=K:=by rfl):CallR X (.builtin "isinstance") (rIsiT K):=by subst hK;exact call_isiTD
end
end L2
namespace L2
open PySem PySem.Spec PyProof.Rows
noncomputable def kSeq (k:Bool):String:=if k then "tuple" else "list"
noncomputable def kIter (k:Bool):String:=if k then "tuple_iterator" else "list_iterator"
noncomputable def SeqOf (k:Bool) (h:Heap) (a:Addr) (its:Array Value):Prop:=∃o,h.get? a=some o∧o.cls = .type (kSeq k)∧∃n,o.data = .seq its n
noncomputable def SeqIt (k:Bool) (h:Heap) (it a:Addr) (i:Nat):Prop:=∃o,h.get? it=some o∧o.cls = .type (kIter k)∧o.data = .fields #[.ref a, .int i 0]
theorem SeqOf.at {k:Bool} {h h':Heap} {a:Addr} {its:Array Value} (x:SeqOf k h a its) (e:∀o,h.get? a=some o→h'.get? a=some o):SeqOf k h' a its:=let ⟨o,ho,r⟩:=x; ⟨o,e _ ho,r⟩
theorem SeqIt.at {k:Bool} {h h':Heap} {it a:Addr} {i:Nat} (x:SeqIt k h it a i) (e:∀o,h.get? it=some o→h'.get? it=some o):SeqIt k h' it a i:=let ⟨o,ho,r⟩:=x; ⟨o,e _ ho,r⟩
theorem SeqOf.lt {k:Bool} {h:Heap} {a:Addr} {its:Array Value} (x:SeqOf k h a its):a<h.objs.size:=let ⟨_,e,_⟩:=x;Heap.lt_size e
theorem SeqIt.lt {k:Bool} {h:Heap} {it a:Addr} {i:Nat} (x:SeqIt k h it a i):it<h.objs.size:=let ⟨_,e,_⟩:=x;Heap.lt_size e
section
variable {prog:Program} {w:World} {A:Around} {E:Value→Shared→Prop} {s:Shared} {k:Bool} {it a:Addr} {i:Nat} {its:Array Value}
theorem seq_next {x:Value} {Q:Value→Shared→Prop} (h1:SeqIt k s.heap it a i) (h2:SeqOf k s.heap a its) (hx:its[i]? = some x)
  (q:∀h',SeqIt k h' it a (i+1)→Heap.SameBut it s.heap h'→Q x { s with heap:=h' }):wpAny (model prog w) A (Builtin.SmallTypes.nextOf (.ref it)) Q E s:=by
 cases k with
 | false=>exact wpAny_nextOf_list_item h1 h2 hx q
 | true=>
  obtain ⟨o,ho,hc,hd⟩:=h1
  obtain ⟨ol,hol,_,nl,hdl⟩:=h2
  have hT:s.TypeIs (.ref it) "tuple_iterator":=⟨o,ho,hc⟩
  unfold Builtin.SmallTypes.nextOf
  refine wpAny_bind (wpAny_callSpecial?_slot (name:=Str.ofString "__next__") hT F.slot_tuple_iterator_next (wpAny_call_entry F.slot_tuple_iterator_next hT F.entry_tuple_iterator_next ?_ (F.args_tuple_iterator_next_1 _)))
  change wpAny _ _ (Bind.bind (field (.ref it) 0) _) _ _ s
  refine wpAny_bind (wpAny_field ho hd (x := .ref a) rfl ?_)
  rw [if_neg (by intro z;cases z)]
  refine wpAny_bind (wpAny_field ho hd (x := .int i 0) rfl (wpAny_bind (wpAny_seqItems hol hdl ?_)))
  simp only [Int.toNat_natCast,hx]
  refine wpAny_bind (wpAny_setField ho hd (by simp) (wpAny_pure ⟨x,rfl,wpAny_pure (q _ ⟨_,Heap.get?_update_self _ ho (Obj.isFreed_of_fields (Obj.data_mapFields hd _)),(Obj.cls_mapFields ..).trans hc,?_⟩ (Heap.SameBut.update ..))⟩))
  rw [Obj.data_mapFields hd]
  simp [rawInt]
theorem seq_stop {Q:Value→Shared→Prop} (hh:A.handled=none) (h1:SeqIt k s.heap it a i) (h2:SeqOf k s.heap a its) (hx:its[i]? = none)
  (q:∀h' e,Heap.ExtBut it s.heap h'→(∃o,h'.get? e=some o∧o.cls = .type "StopIteration")→E (.ref e) { s with heap:=h' }):wpAny (model prog w) A (Builtin.SmallTypes.nextOf (.ref it)) Q E s:=by
 cases k with
 | false=>exact wpAny_nextOf_list_end hh h1 h2 hx q
 | true=>
  obtain ⟨o,ho,hc,hd⟩:=h1
  obtain ⟨ol,hol,_,nl,hdl⟩:=h2
  have hT:s.TypeIs (.ref it) "tuple_iterator":=⟨o,ho,hc⟩
  unfold Builtin.SmallTypes.nextOf
  refine wpAny_bind (wpAny_callSpecial?_slot (name:=Str.ofString "__next__") hT F.slot_tuple_iterator_next (wpAny_call_entry F.slot_tuple_iterator_next hT F.entry_tuple_iterator_next ?_ (F.args_tuple_iterator_next_1 _)))
  change wpAny _ _ (Bind.bind (field (.ref it) 0) _) _ _ s
  refine wpAny_bind (wpAny_field ho hd (x := .ref a) rfl ?_)
  rw [if_neg (by intro z;cases z)]
  refine wpAny_bind (wpAny_field ho hd (x := .int i 0) rfl (wpAny_bind (wpAny_seqItems hol hdl ?_)))
  simp only [Int.toNat_natCast,hx]
  refine wpAny_bind (wpAny_rule (wpAny_bind (wpAny_setField ho hd (by simp) (wpAny_bind ?_))))
  simp only [newExc,newTuple]
  refine wpAny_bind (wpAny_newObj_type ?_ (by size_fits))
  refine wpAny_bind (m:=firstArgMember _ _) (wpAny_of_eq (a:=Value.none) (by first|rfl|(simp only [firstArgMember];rfl)) (wpAny_newObj_type ?_ (by size_fits)))
  simp only [raiseNew]
  refine wpAny_bind (wpAny_handled ?_)
  rw [show A.in1.handled=none from hh]
  exact wpAny_bind (wpAny_pure (wpAny_throw (q _ _ (((Heap.SameBut.update ..).extBut.push _).push _) ⟨_,Heap.get?_push_size _ rfl,rfl⟩)))
end
structure ZipSt (k1 k2:Bool) (z TI TO i1 i2 l1 l2:Addr) (i:Nat) (h:Heap):Prop where
 zp:IsZip h z TI TO .none
 ti:IsPair h TI (.ref i1) (.ref i2)
 to:∃a b,IsPair h TO a b
 it1:SeqIt k1 h i1 l1 i
 it2:SeqIt k2 h i2 l2 i
section
variable {prog:Program} {w:World} {A:Around} {E:Value→Shared→Prop} {s:Shared} {k1 k2:Bool} {z TI TO i1 i2 l1 l2:Addr} {i:Nat} {xs ys:Array Value}
noncomputable abbrev zipW (z TO i1 i2:Addr) (b:Addr):Prop:=b=z∨b=TO∨b=i1∨b=i2
theorem zipk_item {x y:Value} {Q:Option Value→Shared→Prop} (D:ZipApart z TI TO i1 i2 l1 l2) (st:ZipSt k1 k2 z TI TO i1 i2 l1 l2 i s.heap) (hl1:SeqOf k1 s.heap l1 xs) (hl2:SeqOf k2 s.heap l2 ys) (hx:xs[i]? = some x) (hy:ys[i]? = some y)
  (q:∀h',IsZip h' z TI TO (rawInt s.heap.objs.size)→IsPair h' TO x y→SeqIt k1 h' i1 l1 (i+1)→SeqIt k2 h' i2 l2 (i+1)→IsPair h' s.heap.objs.size x y→Keeps s.heap h' (zipW z TO i1 i2)→Q (some (.ref s.heap.objs.size)) { s with heap:=h' }) :
  wpAny (model prog w) A (pyNext (.ref z)) Q E s:=by
 obtain ⟨hz,hTI,⟨a,b,hTO⟩,h1,h2⟩:=st
 have hT:s.TypeIs (.ref z) "zip":=⟨_,hz,rfl⟩
 unfold pyNext
 refine wpAny_bind (wpAny_attempt (wpAny_callSpecial?_slot (name:=Str.ofString "__next__") hT F.slot_zip_next (wpAny_call_entry F.slot_zip_next hT F.entry_zip_next ?_ (F.args_zip_next_1 _))))
 change wpAny _ _ (Bind.bind (field (.ref z) 2) _) _ _ _
 refine wpAny_bind (wpAny_field hz rfl (x := .bool false) rfl ?_)
 change wpAny _ _ (Bind.bind (field (.ref z) 3) _) _ _ _
 refine wpAny_bind (wpAny_field hz rfl (x := .ref TI) rfl (wpAny_bind (wpAny_seqItems hTI rfl ?_)))
 change wpAny _ _ (Bind.bind (Builtin.SmallTypes.ownedTupleIsFree (.ref z)) _) _ _ _
 refine wpAny_bind ?_
 unfold Builtin.SmallTypes.ownedTupleIsFree
 refine wpAny_bind (wpAny_field hz rfl (x := .none) rfl (wpAny_pure ?_))
 simp only [if_true]
 refine wpAny_bind (wpAny_rule (wpAny_bind (wpAny_field hz rfl (x := .ref TO) rfl (wpAny_bind (wpAny_setField_rec hz (by simp) fun g1 z1 e1=>wpAny_bind ?_)))))
 simp only [List.zipIdx_cons,List.zipIdx_nil,List.forIn_cons,List.forIn_nil]
 refine wpAny_bind (wpAny_bind (wpAny_onRaise ?_))
 change wpAny _ _ (Bind.bind (Builtin.SmallTypes.nextOf (.ref i1)) _) _ _ _
 refine wpAny_bind (seq_next (h1.at fun o e=>e1.extBut _ _ D.i1z e) (hl1.at fun o e=>e1.extBut _ _ D.l1z e) hx fun g2 it1 e2=>wpAny_pure ?_)
 have to2:IsPair g2 TO a b:=e2.extBut _ _ D.TOi1 (e1.extBut _ _ D.TOz hTO)
 refine wpAny_bind (wpAny_seqItems to2 rfl (wpAny_bind (wpAny_updateSeq_pair to2 fun g3 to3 e3=>wpAny_bind (wpAny_letGo (wpAny_pure ?_)))))
 have to3:IsPair g3 TO x b:=to3
 have k13:Keeps s.heap g3 (fun c=>c=z∨c=i1∨c=TO):=fun c o nc e=>e3.extBut _ _ (fun q=>nc (.inr (.inr q))) (e2.extBut _ _ (fun q=>nc (.inr (.inl q))) (e1.extBut _ _ (fun q=>nc (.inl q)) e))
 refine wpAny_bind (wpAny_bind (wpAny_onRaise ?_))
 change wpAny _ _ (Bind.bind (Builtin.SmallTypes.nextOf (.ref i2)) _) _ _ _
 refine wpAny_bind (seq_next (h2.at fun o e=>k13 _ _ (fun q=>q.elim D.i2z fun q=>q.elim D.i12.symm D.TOi2.symm) e) (hl2.at fun o e=>k13 _ _ (fun q=>q.elim D.l2z fun q=>q.elim D.l2i1 D.l2TO) e) hy fun g4 it2 e4=>wpAny_pure ?_)
 have to4:IsPair g4 TO x b:=e4.extBut _ _ D.TOi2 to3
 refine wpAny_bind (wpAny_seqItems to4 rfl (wpAny_bind (wpAny_updateSeq_pair to4 fun g5 to5 e5=>wpAny_bind (wpAny_letGo (wpAny_pure (wpAny_pure ?_))))))
 have to5:IsPair g5 TO x y:=to5
 refine wpAny_bind (wpAny_seqItems to5 rfl (wpAny_bind (wpAny_newTuple ?_)))
 have hsz:g5.objs.size=s.heap.objs.size:=by rw [e5.1,e4.1,e3.1,e2.1,e1.1]
 have z5:IsZip g5 z TI TO .ellipsis:=e5.extBut _ _ D.TOz.symm (e4.extBut _ _ D.i2z.symm (e3.extBut _ _ D.TOz.symm (e2.extBut _ _ D.i1z.symm z1)))
 have k5:Keeps s.heap g5 (zipW z TO i1 i2):=fun c o nc e=>e5.extBut _ _ (fun q=>nc (.inr (.inl q))) (e4.extBut _ _ (fun q=>nc (.inr (.inr (.inr q)))) (k13 c o (fun q=>q.elim (fun q=>nc (.inl q)) fun q=>q.elim (fun q=>nc (.inr (.inr (.inl q)))) fun q=>nc (.inr (.inl q))) e))
 have it1':SeqIt k1 g5 i1 l1 (i+1):=it1.at fun o e=>e5.extBut _ _ D.TOi1.symm (e4.extBut _ _ D.i12 (e3.extBut _ _ D.TOi1.symm e))
 have it2':SeqIt k2 g5 i2 l2 (i+1):=it2.at fun o e=>e5.extBut _ _ D.TOi2.symm e
 have zlt:z<g5.objs.size:=Heap.lt_size z5
 change wpAny _ _ (Bind.bind (Builtin.SmallTypes.ownedTupleHandOut (.ref z) (.ref g5.objs.size)) _) _ _ _
 refine wpAny_bind ?_
 unfold Builtin.SmallTypes.ownedTupleHandOut
 have z6:IsZip (g5.push { cls := .type "tuple",data := .seq #[x,y] }) z TI TO .ellipsis:=Heap.get?_push_of_some _ z5
 refine wpAny_bind (wpAny_setField_rec z6 (by simp) fun g7 z7 e7 => ?_)
 have z7:IsZip g7 z TI TO (rawInt g5.objs.size):=z7
 refine wpAny_setField_rec z7 (by simp) fun g8 z8 e8=>wpAny_pure ⟨_,rfl,wpAny_pure ?_⟩
 have up:∀c o,c≠z→g5.get? c=some o→g8.get? c=some o:=fun c o c1 e=>e8.extBut _ _ c1 (e7.extBut _ _ c1 (Heap.get?_push_of_some _ e))
 have tp:IsPair g8 g5.objs.size x y:=e8.extBut _ _ (Nat.ne_of_gt zlt) (e7.extBut _ _ (Nat.ne_of_gt zlt) (Heap.get?_push_size _ rfl))
 have z8:IsZip g8 z TI TO (rawInt g5.objs.size):=z8
 show Q (some (.ref g5.objs.size)) _
 rw [hsz] at z8 tp ⊢
 exact q g8 z8 (up _ _ D.TOz to5) (it1'.at fun o e=>up _ o D.i1z e) (it2'.at fun o e=>up _ o D.i2z e) tp fun c o nc e=>up c o (fun q=>nc (.inl q)) (k5 c o nc e)
theorem zipk_stop {Q:Option Value→Shared→Prop} (hh:A.handled=none) (D:ZipApart z TI TO i1 i2 l1 l2) (st:ZipSt k1 k2 z TI TO i1 i2 l1 l2 i s.heap) (hl1:SeqOf k1 s.heap l1 xs) (hl2:SeqOf k2 s.heap l2 ys) (hend:xs[i]? = none∨ys[i]? = none)
  (q:∀h',Keeps s.heap h' (zipW z TO i1 i2)→Q none { s with heap:=h' }):wpAny (model prog w) A (pyNext (.ref z)) Q E s:=by
 obtain ⟨hz,hTI,⟨a,b,hTO⟩,h1,h2⟩:=st
 have hT:s.TypeIs (.ref z) "zip":=⟨_,hz,rfl⟩
 unfold pyNext
 refine wpAny_bind (wpAny_attempt (wpAny_callSpecial?_slot (name:=Str.ofString "__next__") hT F.slot_zip_next (wpAny_call_entry F.slot_zip_next hT F.entry_zip_next ?_ (F.args_zip_next_1 _))))
 change wpAny _ _ (Bind.bind (field (.ref z) 2) _) _ _ _
 refine wpAny_bind (wpAny_field hz rfl (x := .bool false) rfl ?_)
 change wpAny _ _ (Bind.bind (field (.ref z) 3) _) _ _ _
 refine wpAny_bind (wpAny_field hz rfl (x := .ref TI) rfl (wpAny_bind (wpAny_seqItems hTI rfl ?_)))
 change wpAny _ _ (Bind.bind (Builtin.SmallTypes.ownedTupleIsFree (.ref z)) _) _ _ _
 refine wpAny_bind ?_
 unfold Builtin.SmallTypes.ownedTupleIsFree
 refine wpAny_bind (wpAny_field hz rfl (x := .none) rfl (wpAny_pure ?_))
 simp only [if_true]
 refine wpAny_bind (wpAny_rule (wpAny_bind (wpAny_field hz rfl (x := .ref TO) rfl (wpAny_bind (wpAny_setField_rec hz (by simp) fun g1 z1 e1=>wpAny_bind ?_)))))
 have z1:IsZip g1 z TI TO .ellipsis:=z1
 simp only [List.zipIdx_cons,List.zipIdx_nil,List.forIn_cons,List.forIn_nil]
 refine wpAny_bind (wpAny_bind (wpAny_onRaise ?_))
 change wpAny _ _ (Bind.bind (Builtin.SmallTypes.nextOf (.ref i1)) _) _ _ _
 cases hx:xs[i]? with
 | none=>
  refine wpAny_bind (seq_stop hh (h1.at fun o e=>e1.extBut _ _ D.i1z e) (hl1.at fun o e=>e1.extBut _ _ D.l1z e) hx fun g2 e e2 oe => ?_)
  refine Elim.el (oe) _ ?_
  rintro o ho hc
  have z2:IsZip g2 z TI TO .ellipsis:=e2 _ _ D.i1z.symm z1
  have ez:e≠z:=fun q=>by subst q;rw [z2] at ho;cases ho;simp at hc
  refine wpAny_setField_rec z2 (by simp) fun g3 _ e3 => ?_
  refine wpAny_bind (wpAny_isInstance (T := "StopIteration") (b:=true) ⟨o,e3.extBut _ _ ez ho,hc⟩ isSubtype_stop (wpAny_pure (q g3 fun c o nc h => ?_)))
  exact e3.extBut _ _ (fun q=>nc (.inl q)) (e2 _ _ (fun q=>nc (.inr (.inr (.inl q)))) (e1.extBut _ _ (fun q=>nc (.inl q)) h))
 | some x=>
  have hy:ys[i]? = none:=hend.resolve_left (by rw [hx];exact fun z=>nomatch z)
  refine wpAny_bind (seq_next (h1.at fun o e=>e1.extBut _ _ D.i1z e) (hl1.at fun o e=>e1.extBut _ _ D.l1z e) hx fun g2 it1 e2=>wpAny_pure ?_)
  have to2:IsPair g2 TO a b:=e2.extBut _ _ D.TOi1 (e1.extBut _ _ D.TOz hTO)
  refine wpAny_bind (wpAny_seqItems to2 rfl (wpAny_bind (wpAny_updateSeq_pair to2 fun g3 to3 e3=>wpAny_bind (wpAny_letGo (wpAny_pure ?_)))))
  have k13:Keeps s.heap g3 (fun c=>c=z∨c=i1∨c=TO):=fun c o nc e=>e3.extBut _ _ (fun q=>nc (.inr (.inr q))) (e2.extBut _ _ (fun q=>nc (.inr (.inl q))) (e1.extBut _ _ (fun q=>nc (.inl q)) e))
  refine wpAny_bind (wpAny_bind (wpAny_onRaise ?_))
  change wpAny _ _ (Bind.bind (Builtin.SmallTypes.nextOf (.ref i2)) _) _ _ _
  refine wpAny_bind (seq_stop hh (h2.at fun o e=>k13 _ _ (fun q=>q.elim D.i2z fun q=>q.elim D.i12.symm D.TOi2.symm) e) (hl2.at fun o e=>k13 _ _ (fun q=>q.elim D.l2z fun q=>q.elim D.l2i1 D.l2TO) e) hy fun g4 e e4 oe => ?_)
  refine Elim.el (oe) _ ?_
  rintro o ho hc
  have z4:IsZip g4 z TI TO .ellipsis:=e4 _ _ D.i2z.symm (e3.extBut _ _ D.TOz.symm (e2.extBut _ _ D.i1z.symm z1))
  have ez:e≠z:=fun q=>by subst q;rw [z4] at ho;cases ho;simp at hc
  refine wpAny_setField_rec z4 (by simp) fun g5 _ e5 => ?_
  refine wpAny_bind (wpAny_isInstance (T := "StopIteration") (b:=true) ⟨o,e5.extBut _ _ ez ho,hc⟩ isSubtype_stop (wpAny_pure (q g5 fun c o nc h => ?_)))
  exact e5.extBut _ _ (fun q=>nc (.inl q)) (e4 _ _ (fun q=>nc (.inr (.inr (.inr q)))) (k13 c o (fun q=>q.elim (fun q=>nc (.inl q)) fun q=>q.elim (fun q=>nc (.inr (.inr (.inl q)))) fun q=>nc (.inr (.inl q))) h))
theorem seq_iter {k:Bool} {a:Addr} {its:Array Value} {Q:Value→Shared→Prop} (h:SeqOf k s.heap a its) (q:Q (.ref s.heap.objs.size) { s with heap:=s.heap.push { cls := .type (kIter k),data := .fields #[.ref a, .int 0 0] } }):wpAny (model prog w) A (pyIter (.ref a)) Q E s:=by
 cases k with
 | false=>exact wpAny_pyIter_list h q
 | true=>exact wpAny_pyIter_tuple h q
end
noncomputable abbrev zpO (k:Bool) (a:Addr):Obj:={ cls := .type (kIter k),data := .fields #[.ref a, .int 0 0] }
noncomputable abbrev zpH (k1 k2:Bool) (h:Heap) (a b:Addr):Heap:=((((h.push (zpO k1 a)).push (zpO k2 b)).push { cls := .type "tuple",data := .seq #[.ref h.objs.size, .ref (h.objs.size+1)] }).push { cls := .type "tuple",data := .seq #[.none, .none] }).push
 { cls := .type "zip",data := .fields #[.none, .bool false, .bool false, .ref (h.objs.size+2), .ref (h.objs.size+3)] }
theorem zipk_new (k1 k2:Bool) (a b:Addr) (xs ys:Array Value) :
  Meets (Builtin.«zip.__new__» ⟨[.type "zip", .ref a, .ref b],[]⟩) (fun _ R s=>SeqOf k1 s.heap a xs∧SeqOf k2 s.heap b ys∧R (.ok (.ret (.ref (s.heap.objs.size+4)))) { s with heap:=zpH k1 k2 s.heap a b }):=
 .of_wp fun prog w A R s h=>by
  obtain ⟨hp,g,d,tk,os⟩:=s;obtain ⟨hl1,hl2,h⟩:=h
  have hsub:=sub_zip
  have hL1:SeqOf k1 (Shared.heap ⟨hp,g,d,tk,os⟩) a xs:=hl1
  have hL2:SeqOf k2 (Shared.heap ⟨hp.push (zpO k1 a),g,d,tk,os⟩) b ys:=hl2.at fun o e=>Heap.get?_push_of_some _ e
  have s1:(hp.push (zpO k1 a)).objs.size=hp.objs.size+1:=Heap.size_push ..
  wp_walk using seq_iter hL1,seq_iter hL2
  refine ⟨_,rfl,?_⟩
  simp only [Heap.size_push] at h ⊢
  exact h
end L2
namespace L2
open PySem PySem.Spec PyProof.Rows
section
variable {prog:Program} {w:World} {A:Around} {E:Value→Shared→Prop} {s:Shared}
theorem call_zipk {k1 k2:Bool} {a b:Addr} {xs ys:Array Value} {Q:Value→Shared→Prop} (h1:SeqOf k1 s.heap a xs) (h2:SeqOf k2 s.heap b ys)
  (q:∀h',ZipSt k1 k2 (s.heap.objs.size+4) (s.heap.objs.size+2) (s.heap.objs.size+3) s.heap.objs.size (s.heap.objs.size+1) a b 0 h'→(∀c o,s.heap.get? c=some o→h'.get? c=some o)→Q (.ref (s.heap.objs.size+4)) { s with heap:=h' }) :
  wpAny (model prog w) A (call (.type "zip") [.ref a, .ref b]) Q E s:=by
 refine callType_new F.called_zip (by decide) (F.typeCall_zip_2 _ _) (F.newCall_zip_2 _ _) (fun obj=>F.args_object_init_3 obj _ _) F.entry_zip_new (zipk_new k1 k2 a b xs ys) ⟨h1,h2,?_⟩
 have up:∀{h:Heap} {c:Addr} {o:Obj} (p:Obj),h.get? c=some o→(h.push p).get? c=some o:=fun p e=>Heap.get?_push_of_some p e
 have last:∀{h:Heap} {n:Nat} {p:Obj},h.objs.size=n→p.isFreed=false→(h.push p).get? n=some p:=fun e hf=>by rw [←e];exact Heap.get?_push_size _ hf
 have z1:(s.heap.push (zpO k1 a)).objs.size=s.heap.objs.size+1:=Heap.size_push ..
 have z2:((s.heap.push (zpO k1 a)).push (zpO k2 b)).objs.size=s.heap.objs.size+2:=by rw [Heap.size_push,z1]
 have z3:(((s.heap.push (zpO k1 a)).push (zpO k2 b)).push { cls := .type "tuple",data := .seq #[.ref s.heap.objs.size, .ref (s.heap.objs.size+1)] }).objs.size=s.heap.objs.size+3:=by rw [Heap.size_push,z2]
 have z4:((((s.heap.push (zpO k1 a)).push (zpO k2 b)).push { cls := .type "tuple",data := .seq #[.ref s.heap.objs.size, .ref (s.heap.objs.size+1)] }).push { cls := .type "tuple",data := .seq #[.none, .none] }).objs.size=s.heap.objs.size+4:=by rw [Heap.size_push,z3]
 have st:ZipSt k1 k2 (s.heap.objs.size+4) (s.heap.objs.size+2) (s.heap.objs.size+3) s.heap.objs.size (s.heap.objs.size+1) a b 0 (zpH k1 k2 s.heap a b):=
  ⟨last z4 rfl,up _ (up _ (last z2 rfl)),⟨.none, .none,up _ (last z3 rfl)⟩,⟨_,up _ (up _ (up _ (up _ (last rfl rfl)))),rfl,rfl⟩,⟨_,up _ (up _ (up _ (last z1 rfl))),rfl,rfl⟩⟩
 have kp:∀c o,s.heap.get? c=some o→(zpH k1 k2 s.heap a b).get? c=some o:=fun c o e=>up _ (up _ (up _ (up _ (up _ e))))
 have ob:(zpH k1 k2 s.heap a b).get? (s.heap.objs.size+4)=some _:=st.zp
 exact ⟨⟨_,ob,rfl⟩,q _ st kp⟩
end
noncomputable def SqK (k:Bool) (K:PySem.W.Frag) (H:Hp) (a:Addr) (xs:List V):Prop:=if k=true then SqT K H a xs else SqL K H a xs
theorem Inv.seqk {X:Cx} {pins:List (Addr×Obj)} {σ:St} {H:Hp} {s:Shared} {k:Bool} {a:Addr} {xs:List V} (I:Inv X pins σ H s) (h:SqK k X.K H a xs):∃its:List Value,Vals xs its∧SeqOf k s.heap a its.toArray∧xs.length≤sizeLine:=by
 cases k with
 | false=>
  obtain ⟨its,r,⟨o,n,e1,e2,_,e4⟩,z⟩:=I.list h
  exact ⟨its,r,⟨o,e1,e2,n,e4⟩,z⟩
 | true=>
  obtain ⟨its,r,⟨o,e1,e2,n,e4⟩,z⟩:=I.tuple h
  exact ⟨its,r,⟨o,e1,e2,n,e4⟩,z⟩
theorem Inv.seqk_inj {X:Cx} {pins:List (Addr×Obj)} {σ:St} {H:Hp} {s:Shared} {k:Bool} {a:Addr} {xs ys:List V} (I:Inv X pins σ H s) (h:SqK k X.K H a xs) (h':SqK k X.K H a ys):xs=ys:=by
 cases k with
 | false=>exact I.list_inj h h'
 | true=>exact I.tuple_inj h h'
noncomputable def ItzK (K:PySem.W.Frag) (k1 k2:Bool) (a b:Addr):It:=
 ⟨fun i H=>Ex4 fun xs ys x y=>SqK k1 K H a xs∧SqK k2 K H b ys∧xs[i]? = some x∧ys[i]? = some y,
   fun i H v H'=>∃T,v = .ref T∧∀xs ys x y,SqK k1 K H a xs→SqK k2 K H b ys→xs[i]? = some x→ys[i]? = some y→New H T (.tup [x,y]) H',
   fun i H=>Ex2 fun xs ys=>SqK k1 K H a xs∧SqK k2 K H b ys∧(xs.length≤i∨ys.length≤i)⟩
theorem turn_zipk {P:Program} {w:World} {K:PySem.W.Frag} {elts:List Expr} {k:Nat} {tp:Pos} (k1 k2:Bool) (z TI TO i1 i2 l1 l2:Addr) (D:ZipApart z TI TO i1 i2 l1 l2) :
  Turn P w K (.Tuple elts k tp) (ItzK K k1 k2 l1 l2) [z,TI,TO,i1,i2] z (ZipSt k1 k2 z TI TO i1 i2 l1 l2) where
 mem:=by simp
 obj:=fun i h st b hb=>by
  obtain ⟨h1,h2,⟨_,_,h3⟩,⟨o4,h4,_,d4⟩,⟨o5,h5,_,d5⟩⟩:=st
  simp at hb
  rcases hb with rfl|rfl|rfl|rfl|rfl
  ·exact ⟨_,h1,fun _ z=>nomatch z⟩
  ·exact ⟨_,h2,fun _ z=>nomatch z⟩
  ·exact ⟨_,h3,fun _ z=>nomatch z⟩
  ·exact ⟨_,h4,fun v q=>by rw [d4] at q;cases q⟩
  ·exact ⟨_,h5,fun v q=>by rw [d5] at q;cases q⟩
 keep:=fun i h h' st hk=>by
  obtain ⟨h1,h2,⟨a,b,h3⟩,h4,h5⟩:=st
  exact ⟨hk z (by simp) _ h1,hk TI (by simp) _ h2,⟨a,b,hk TO (by simp) _ h3⟩,h4.at fun o e=>hk i1 (by simp) o e,h5.at fun o e=>hk i2 (by simp) o e⟩
 item:=fun X hP hw hK hc i pins s σ H E I hf st go=>by
  subst hP hw hK
  obtain ⟨xs,ys,x,y,q1,q2,e1,e2⟩:=go
  refine Elim.el (I.seqk q1) _ ?_
  rintro its1 r1 p1 _
  refine Elim.el (I.seqk q2) _ ?_
  rintro its2 r2 p2 _
  refine Elim.el (vals_get r1 e1) _ ?_
  rintro u1 g1 ru1
  refine Elim.el (vals_get r2 e2) _ ?_
  rintro u2 g2 ru2
  have hz:=st.zp
  have hTI:=st.ti
  refine zipk_item D st p1 p2 g1 g2 fun h' a1 a2 a3 a4 a5 a7=>⟨_,rfl,?_⟩
  refine wpAny_letOwnedTupleGo_zip a1 fun h'' b1 b2 => ?_
  have hTz:s.heap.objs.size≠z:=addr_ne' (Heap.lt_size hz) (Nat.le_refl _)
  have hf':∀c∈[z,TO,i1,i2],FpOk X pins H c:=fun c hc=>hf c (by simp at hc ⊢;rcases hc with q|q|q|q <;> simp [q])
  have kp:∀c o,c ∉ [z,TO,i1,i2]→s.heap.get? c=some o→h''.get? c=some o:=fun c o hc e=>by
   simp only [List.mem_cons,List.not_mem_nil,or_false] at hc
   exact b2.extBut c o (fun q=>hc (.inl q)) (a7 c o hc e)
  have I1:Inv X pins σ H { s with heap:=h'',toks:=s.toks }:=I.iter hf' kp
  have fT:FpOk X pins H s.heap.objs.size:=I.fpOk (Nat.le_refl _) (I.hok.fresh (Nat.le_refl _))
  have oT:h''.get? s.heap.objs.size=some { cls := .type "tuple",data := .seq #[u1,u2] }:=b2.extBut _ _ hTz a5
  have I2:=I1.adopt (T:=s.heap.objs.size) (o := .tup [x,y]) fT I.sz ⟨by show 2≤sizeLine;decide,[u1,u2], .cons ru1 (.cons ru2 .nil),⟨_,oT,rfl,_,rfl⟩⟩
  refine ⟨.ref s.heap.objs.size,_,I2,rfl,⟨_,rfl,fun xs' ys' x' y' q1' q2' e1' e2' => ?_⟩,⟨b1,b2.extBut _ _ D.TIz (a7 _ _ (fun q=>q.elim D.TIz fun q=>q.elim D.TITO fun q=>q.elim D.TIi1 D.TIi2) hTI),⟨_,_,b2.extBut _ _ D.TOz a2⟩,a3.at fun o e=>b2.extBut _ _ D.i1z e,a4.at fun o e=>b2.extBut _ _ D.i2z e⟩,fun c hc => ?_⟩
  ·rw [I.seqk_inj q1' q1] at e1'
   rw [I.seqk_inj q2' q2] at e2'
   rw [e1] at e1';rw [e2] at e2';cases e1';cases e2'
   exact ⟨fT.1,rfl⟩
  ·obtain ⟨_,_,⟨_,_,hTO⟩,h1,h2⟩:=st
   have hcs:c<s.heap.objs.size:=by
    simp at hc
    rcases hc with rfl|rfl|rfl|rfl|rfl
    ·exact Heap.lt_size hz
    ·exact Heap.lt_size hTI
    ·exact Heap.lt_size hTO
    ·exact h1.lt
    ·exact h2.lt
   rw [upd_ne (addr_ne hcs (Nat.le_refl _))]
   exact (hf c hc).1
 done:=fun X hP hw hK hc i pins s σ H E I hf st stop=>by
  subst hP hw hK
  obtain ⟨xs,ys,q1,q2,e⟩:=stop
  refine Elim.el (I.seqk q1) _ ?_
  rintro its1 r1 p1 _
  refine Elim.el (I.seqk q2) _ ?_
  rintro its2 r2 p2 _
  have l1':=r1.length
  have l2':=r2.length
  refine zipk_stop (I.ok.hd hc) D st p1 p2 ?_ fun h' kp=>⟨rfl,?_⟩
  ·rcases e with e|e
   ·exact .inl (by simp;omega)
   ·exact .inr (by simp;omega)
  ·refine I.iter (ch:=[z,TO,i1,i2]) (t':=s.toks) (fun c hc=>hf c (by simp at hc ⊢;rcases hc with q|q|q|q <;> simp [q])) fun c o hc e => ?_
   simp only [List.mem_cons,List.not_mem_nil,or_false] at hc
   exact kp c o hc e
 self:=fun A i s Q E st hQ=>wpAny_pyIter_zip st.zp hQ
section
variable {X:Cx}
noncomputable def iZipK (K:PySem.W.Frag) (ta:TA):TI:=fun σ H R=>ta σ H fun vs H1=>Ex4 fun k1 k2 a b=>vs=[.ref a, .ref b]∧(∃xs,SqK k1 K H1 a xs)∧(∃ys,SqK k2 K H1 b ys)∧R (ItzK K k1 k2 a b) H1
theorem pi_zipK (K:PySem.W.Frag) {elts:List Expr} {k:Nat} {tp:Pos} {a b:Expr} {ta:TA} {p pos:Pos} (hg:Gl X "zip") (hm:X.mg "zip" = none) (ha:PA X [a,b] ta) (hb:bootBuiltins "zip" = some (.type "zip"):=by first|rfl|decide)
  (hs:starEach [a,b] X.env=[(false,eval a X.env),(false,eval b X.env)]:=by rfl) (hs2:starEach [b] X.env=[(false,eval b X.env)]:=by rfl) (hK:X.K=K:=by rfl) :
  PI X (.Tuple elts k tp) (.Call (.Name "zip" p) [a,b] [] pos) (iZipK K ta):=by
 subst hK
 intro pins s σ H R I h
 refine Call_ (ld_blt I hg hm hb (PyProof.Rows.callWith_type1 (thn (ha s σ H _ I h) fun us s1 ⟨vs,H1,I1,r1,q1⟩ => ?_) (by rw [hs,hs2]) (by rw [hs2];rfl)))
 obtain ⟨k1,k2,l1,l2,e,⟨xs,q1⟩,⟨ys,q2⟩,q⟩:=q1
 subst e
 refine Elim.el (vals2 r1) _ ?_
 rintro u w' rfl r1 r2
 cases r1;cases r2
 refine Elim.el (I1.seqk q1) _ ?_
 rintro its1 rv1 p1 _
 refine Elim.el (I1.seqk q2) _ ?_
 rintro its2 rv2 p2 _
 refine call_zipk p1 p2 fun h' st hk=>wpAny_pyIter_zip st.zp ?_
 have I2:Inv X pins σ H1 { s1 with heap:=h' }:=I1.kept (t':=s1.toks) hk
 refine ⟨_,_,_,_,H1,rfl,I2,turn_zipk k1 k2 _ _ _ _ _ _ _ (zipApart_new p1.lt p2.lt),st,fun c hc => ?_,q⟩
 have hcs:s1.heap.objs.size≤c:=by
  simp at hc
  rcases hc with rfl|rfl|rfl|rfl|rfl
  ·exact Nat.le_add_right _ _
  ·exact Nat.le_add_right _ _
  ·exact Nat.le_add_right _ _
  ·exact Nat.le_refl _
  ·exact Nat.le_add_right _ _
 exact I1.fpOk hcs (I1.hok.fresh hcs)
end
end L2
namespace L2
open PySem PySem.Spec PyProof.Rows
section
variable {X:Cx}
end
section
variable {X:Cx} {tg:Expr}
theorem pi_tupK (K:PySem.W.Frag) {l:Expr} {tl:TE} (hl:PE X l tl) (hK:X.K=K:=by rfl):PI X tg l (iTup K tl):=by subst hK;exact pi_tup hl
end
section
variable {X:Cx} {e:Expr} {te:TE} {pos p2 p3 p4:Pos} {j:Nat}
end
end L2
namespace L2
open PySem PySem.Spec PyProof.Rows
section
variable {prog:Program} {w:World} {A:Around} {R:Result→Shared→Prop} {I S:Addr} {fp wr:List Addr} {n:Nat} {P:Nat→Value→Prop} {St:Nat→Heap→Prop}
end
section
variable {X:Cx} (K:PySem.W.Frag)
end
end L2
namespace L2
open PySem
section
variable {X:Cx} (K:PySem.W.Frag)
theorem inK (hK:X.K=K:=by rfl):OpR X (compareOp .In) (rIn K false):=by subst hK;exact op_in_seq
theorem enumK {elts:List Expr} {k:Nat} {tp:Pos} {a:Expr} {ta:TA} {p pos:Pos} (hg:Gl X "enumerate") (hm:X.mg "enumerate" = none) (ha:PA X [a] ta) (hb:bootBuiltins "enumerate" = some (.type "enumerate"):=by first|rfl|decide) (hs:starEach [a] X.env=[(false,eval a X.env)]:=by rfl) (hK:X.K=K:=by rfl) :
  PI X (.Tuple elts k tp) (.Call (.Name "enumerate" p) [a] [] pos) (iEnum K ta):=by subst hK;exact pi_enum hg hm ha hb hs
end
end L2
namespace L2
open PySem PySem.Spec PyProof.Rows
section
variable {prog:Program} {w:World} {A:Around} {R:Result→Shared→Prop} {s:Shared}
theorem dcomp_turns {kx vx target iter:Expr} {ifs:List Expr} {scope:Scope} {pos:Pos} {it:Value} {D:Addr} {env:Env} (I:Nat→Shared→Prop)
  (turn:∀n s,I n s→wpAny (model prog w) A (pyNext it) (fun r s1=>match r with
   | none=>R (.ok .next) s1
   | some v=>wpAny (model prog w) A (letOwnedTupleGo target it v) (fun _ s1'=>wpAny (model prog w) A (assign target env v) (fun _ s2=>
     wpAny (model prog w) A (testsOf ifs env) (fun ok s3=>
      if ok=true then wpAny (model prog w) A (eval kx env) (fun kv s4=>wpAny (model prog w) A (eval vx env) (fun vv s5=>
       wpAny (model prog w) A (dictSet D kv vv) (fun _ s6=>∃m,m<n∧I m s6) noE s5) noE s4) noE s3
      else ∃m,m<n∧I m s3) noE s2) noE s1') noE s1) noE s)
  (n:Nat) (h:I n s):codeAny (model prog w) A (.compLoop (.DictComp kx vx [⟨target,iter,ifs,0⟩] scope pos) 0 it (.ref D) env) R s:=by
 refine codeAny_loop rfl I (fun n s hI=>(show wpAny _ A (Sem.onRaise (compTurn (.DictComp kx vx [⟨target,iter,ifs,0⟩] scope pos) 0 it (.ref D) env) (fun x=>do noteFrame x env;theTreesLotGoes x)) _ _ s from wpAny_noted ?_)) n h
 rw [compTurn_dict]
 refine wpAny_bind (wpAny_standAt (wpAny_bind (noE_to (thn (turn n s hI) fun r s1 h1 => ?_))))
 cases r with
 | none=>exact wpAny_pure h1
 | some v=>
  refine wpAny_bind (noE_to (thn h1 fun _ s1' h1' => ?_))
  refine wpAny_bind (noE_to (thn h1' fun _ s2 h2=>wpAny_bind (noE_to (thn h2 fun ok s3 h3 => ?_))))
  cases ok with
  | false=>exact wpAny_pure ⟨rfl,h3⟩
  | true=>
   exact wpAny_bind (wpAny_bind (noE_to (thn h3 fun kv s4 h4=>wpAny_bind (wpAny_holding (noE_to (thn h4 fun vv s5 h5=>wpAny_bind (wpAny_standAt (wpAny_holding (noE_to (thn h5 fun _ s6 h6=>wpAny_pure ⟨rfl,h6⟩))))))))))
end
section
variable {X:Cx} {pins:List (Addr×Obj)} {σ:St} {H:Hp} {s:Shared} {a:Addr} {y v:V} {u r:Value} {A:Around} {E:Value→Shared→Prop}
theorem d_dictSet {kvs:List (Key×V)} {k:Key} {Q:Unit→Shared→Prop} (I:Inv X pins σ H s) (e:H a=some (.dK kvs)) (l:kvs.length<sizeLine) (ry:RelV (kV k) u) (rv:RelV v r)
  (h:∀s',Inv X pins σ (upd H a (.dK (putK kvs k v))) s'→Q () s'):wpAny (model X.prog X.w) A (dictSet a u r) Q E s:=by
 refine Elim.el (dk_of I.hok e) _ ?_
 rintro z hd vs rel dd
 have hz:vs.length≤sizeLine:=by rw [←rel.length];exact z
 have hl:(putK kvs k v).length≤sizeLine:=by have:=length_putK kvs k v;omega
 refine wpAny_dictSet_pairs (hsz:=hz) (kV_is ry) dd fun h' dd' hs=>h _ ?_
 have he:∃q,h'.get? a=some q:=let ⟨q,_,_,hq,_⟩:=dd'; ⟨q,hq⟩
 exact d_write I (by rw [e];exact True.intro) hs he (dk_new hl hd (rel.put k rv) dd')
end
section
variable {X:Cx} {pins:List (Addr×Obj)} {σ:St} {H:Hp} {s:Shared} {scope:Scope} {Nc Fc:List Str} {js:List Nat} {cl:List (Str×Addr)} {C:Addr} {fp:List Addr}
theorem cxC_inv0 (I:Inv X pins σ H s) (c:CompOk X scope Nc Fc js) (hsub:∀n c,cl.lookup n=some c→X.env.cells.lookup n=some c) (hhas:∀y∈scope.names,y.2 = .free→∃c,cl.lookup y.1=some c)
  (hC:s.heap.objs.size≤C) (hf:∀b∈fp,FpOk X pins H b) (ho:∀b∈fp,∃o,s.heap.get? b=some o) {h1:Heap} {t1:Nat} {m:Str→Option Value}
  (hk:∀b o,s.heap.get? b=some o→h1.get? b=some o) (hm:h1.Ns C m) :
  Inv (cxC X Nc Fc scope cl C s H fp) [] (List.replicate Nc.length none++cvals σ js) H { s with heap:=h1,toks:=t1 }:=by
 refine ⟨cxC_ok I c hsub hhas hC hf ho,rfl,I.bare,Un.kept hk,⟨m,hm,fun i x v e1 e2 e3 => ?_⟩,fun x a e => ?_,I.hok.fresh hC,fun x a e=>I.freeC x a (hsub x a e),fun p hp => ?_,I.hok.kept hk,?_⟩
 ·have e1:(Nc++Fc)[i]? = some x:=e1
  have e2:(List.replicate Nc.length none++cvals σ js)[i]? = some (some v):=e2
  by_cases hi:i<Nc.length
  ·rw [List.getElem?_append_left (by simpa using hi),List.getElem?_replicate] at e2
   split at e2 <;> cases e2
  ·rw [List.getElem?_append_right (by omega)] at e1
   rw [List.getElem?_append_right (by rw [List.length_replicate];omega),List.length_replicate] at e2
   refine Elim.el (c.frees _ _ e1) _ ?_
   rintro hfr j hj hN
   have hv : σ[j]? = some (some v):=by
    unfold cvals at e2
    rw [List.getElem?_map,hj] at e2
    have e2:some ((σ[j]?).join)=some (some v):=e2
    cases q : σ[j]? with
    | none=>rw [q] at e2;cases e2
    | some z=>rw [q] at e2;cases e2;rfl
   have kx:=c.free _ (mem_of_lookup' hfr) rfl
   refine Elim.el (I.loc) _ ?_
   rintro m0 hn0 hl0
   have vis:Vis X.env.scope x:=by
    rcases kx with k|k
    ·exact .inr (.inl k)
    ·exact .inr (.inr k)
   refine Elim.el (hl0 j x v hN hv vis) _ ?_
   rintro u ru lk
   refine ⟨u,ru, .inr ⟨?_,?_⟩⟩
   ·rw [cxC_kind];exact relabel_of_free hfr
   ·obtain ⟨a,ha⟩:=hhas _ (mem_of_lookup' hfr) rfl
    refine ⟨a,ha,?_⟩
    rcases lk with ⟨k,_⟩|⟨_,a',ha',hcell⟩
    ·rcases kx with q|q <;> (rw [k] at q;cases q)
    ·have e:=hsub _ _ ha
     dsimp only at e
     rw [ha'] at e;cases e
     exact hcell.keeps hk
 ·obtain ⟨v,z⟩:=I.cell x a (hsub x a e)
  exact ⟨v,z.keeps hk⟩
 ·have hp:p∈([]:List (Addr×Obj)):=hp
  cases hp
 ·show (List.replicate Nc.length none++cvals σ js).length=(Nc++Fc).length
  unfold cvals
  rw [List.length_append,List.length_append,List.length_replicate,List.length_map,c.lens]
end
noncomputable def CompD (J:It) (n:Nat) (js:List Nat) (g:TG) (tc:TT) (tk tv:TE) (σ:St) (D:Addr) (H1:Hp) (fin:Hp→Prop):Prop:=
 ∃W:Nat→Nat→Hp→Prop,(∃m,W 0 m H1)∧∀i m H,W i m H →
  (J.stop i H∧fin H) ∨
  (J.go i H∧∀x H',J.yld i H x H'→g x (List.replicate n none++cvals σ js) H' fun σ2 H2=>tc σ2 H2 fun b H3=>
   if b=true then tk σ2 H3 fun y H4=>tv σ2 H4 fun z H5=>Ex2 fun kvs k=>H5 D=some (.dK kvs)∧y=kV k∧kvs.length<sizeLine∧∃m',m'<m∧W (i+1) m' (upd H5 D (.dK (putK kvs k z))) else ∃m',m'<m∧W (i+1) m' H3)
noncomputable def tDComp (wi:TI) (n:Nat) (js:List Nat) (g:TG) (tc:TT) (tk tv:TE):TE:=fun σ H Q=>wi σ H fun J H1=>∀D,H1 D=none→CompD J n js g tc tk tv σ D (upd H1 D (.dK [])) fun H2=>Q (.ref D) H2
theorem dcomp_core {X:Cx} {kx vx tg iter:Expr} {ifs:List Expr} {scope:Scope} {pos:Pos} {Nc Fc:List Str} {js:List Nat} {wi:TI} {g:TG} {tc:TT} {tk tv:TE} {use:Option (Value→Sem Unit)} {QV:Value→Shared→Prop}
  (hcalm:X.calm=true) (c:CompOk X scope Nc Fc js) (hi:PI X tg iter wi)
  (hg:∀cl C s H fp,PG (cxC X Nc Fc scope cl C s H fp) tg g) (htc:∀cl C s H fp,PTs (cxC X Nc Fc scope cl C s H fp) ifs tc) (htk:∀cl C s H fp,PE (cxC X Nc Fc scope cl C s H fp) kx tk) (htv:∀cl C s H fp,PE (cxC X Nc Fc scope cl C s H fp) vx tv) (gk:Gk Nc.length g)
  {pins:List (Addr×Obj)} {s:Shared} {σ:St} {H:Hp} {fin:Addr→Hp→Prop} (I:Inv X pins σ H s)
  (h:wi σ H fun J H1=>∀D,H1 D=none→CompD J Nc.length js g tc tk tv σ D (upd H1 D (.dK [])) (fin D))
  (behind:∀(C D:Addr) (m:Str→Option Value) (H2:Hp) (s2:Shared),Inv X pins σ H2 s2→s2.heap.Ns C m→FpOk X pins H2 C→fin D H2→compPost (model X.prog X.w) X.A X.xe use QV (.ref D) C (.ok .next) s2)
  (hs:∀x,foldedSetIterable iter X.env x=pure x) :
  wpAny (model X.prog X.w) X.A (comprehension (.DictComp kx vx [⟨tg,iter,ifs,0⟩] scope pos) scope X.env (firstIterPos [⟨tg,iter,ifs,0⟩] pos) newDict false (eval iter X.env) use) QV X.xe s:=by
 obtain ⟨cl,hclos,hsub,hhas⟩:=closure_of (scope:=scope) (env:=X.env) fun y hy hf=>I.ok.has y.1 (c.free y hy hf)
 refine wpAny_comprehension_free (use:=use) rfl hs hclos c.kind c.names ?_
 refine thn (hi s σ H _ I h) fun v s1 h1=>thn h1 fun itv s2 h2 => ?_
 obtain ⟨it,fp,tn,J,H2,e,I2,T,st2,f2,all⟩:=h2
 subst e
 refine wpAny_newObj_type (wpAny_newFunctionEnv c.nocell (by intro y hy;simp at hy) (fun h1 hns1 hsb1 => ?_) c.kind)
 dsimp only at hns1 hsb1 ⊢
 have hDn:H2 s2.heap.objs.size=none:=I2.hok.fresh (Nat.le_refl _)
 have I2':=I2.laid (a:=s2.heap.objs.size) (o := .dK []) (h':=s2.heap.push { cls := .type "dict",data := .dict #[] }) (t':=s2.toks) (fun _ _ q=>Heap.get?_push_of_some _ q) (Nat.le_refl _) (dk_empty s2.heap I2.big)
 obtain ⟨W,⟨m0,w0⟩,turn⟩:=all _ hDn
 have fo2:∀b∈fp,∃o,s2.heap.get? b=some o:=fun b hb=>let ⟨o,e,_⟩:=T.obj 0 _ st2 b hb; ⟨o,e⟩
 have hDfp:∀b∈fp,b<s2.heap.objs.size:=fun b hb=>let ⟨o,e⟩:=fo2 b hb;Heap.lt_size e
 generalize hG:s2.heap.push { cls := .type "dict",dict:=none,data := .dict #[] } = G at hns1 hsb1 I2' ⊢
 have toG:∀b o,s2.heap.get? b=some o→G.get? b=some o:=fun b o e=>hG ▸ Heap.get?_push_of_some _ e
 have hC:G.objs.size=s2.heap.objs.size+1:=by rw [←hG,Heap.size_push]
 have old:∀b o,G.get? b=some o→h1.get? b=some o:=fun b o e=>
  hsb1.extBut b o (addr_ne (Heap.lt_size e) (Nat.le_refl _)) (Heap.get?_push_of_some _ e)
 let D:Addr:=s2.heap.objs.size
 let s2':Shared:={ s2 with heap:=G,toks:=s2.toks }
 let H2':Hp:=upd H2 D (.dK [])
 have f2':∀b∈fp,FpOk X pins H2' b:=fun b hb=>by
  obtain ⟨a1,a2⟩:=f2 b hb
  refine ⟨?_,a2⟩
  show upd H2 D (.dK []) b=none
  rw [upd_ne (Nat.ne_of_lt (hDfp b hb))];exact a1
 have fo:∀b∈fp,∃o,s2'.heap.get? b=some o:=fun b hb=>let ⟨o,e⟩:=fo2 b hb; ⟨o,toG b o e⟩
 have hfG:∀b∈fp,b<G.objs.size:=fun b hb=>by have:=hDfp b hb;rw [hC];exact Nat.lt_succ_of_lt this
 let Xc:Cx:=cxC X Nc Fc scope cl G.objs.size s2' H2' fp
 have stat:∀{H':Hp},(∀b∈fp,H' b=none)→∀b∈fp,FpOk Xc [] H' b:=fun {H'} hn b hb=>by
  refine ⟨hn b hb,?_,?_, .inl hb,fun x a e => ?_,fun p hq => ?_⟩
  ·exact addr_ne (hfG b hb) (Nat.le_refl _)
  ·exact (cxC_ok I2' c hsub hhas (Nat.le_refl _) f2' fo).exfs b hb
  ·exact (f2 b hb).2.2.2.2.1 x a (hsub _ _ e)
  ·have q:p∈([]:List (Addr×Obj))++[]:=hq
   simp at q
 have loop:∀t1,codeAny (model X.prog X.w) X.A (.compLoop (.DictComp kx vx [⟨tg,iter,ifs,0⟩] scope pos) 0 (.ref it) (.ref s2.heap.objs.size) (compEnvC scope cl G.objs.size X.env))
   (compPost (model X.prog X.w) X.A X.xe use QV (.ref s2.heap.objs.size) G.objs.size) { s2 with heap:=h1,toks:=t1 }:=by
  intro t1
  refine dcomp_turns (fun n s'=>∃i H',Inv Xc [] (List.replicate Nc.length none++cvals σ js) H' s'∧tn i s'.heap∧(∀b∈fp,H' b=none)∧W i n H') ?_ m0
   ⟨0,H2',cxC_inv0 I2' c hsub hhas (Nat.le_refl _) f2' fo old hns1,T.keep _ _ _ st2 (fun b hb o e=>old b o (toG b o e)),fun b hb=>(f2' b hb).1,w0⟩
  intro n s3
  refine Elim.go ?_
  rintro i H3 I3 st3 fr3 w3
  rcases turn i n H3 w3 with ⟨stop,qn⟩|⟨go,step⟩
  ·refine thn (T.done Xc rfl rfl rfl hcalm i _ s3 _ H3 noE I3 (stat fr3) st3 stop) fun r s4 hz_ => ?_
   refine Elim.el hz_ _ ?_
   clear hz_
   rintro hr I4
   subst hr
   show compPost _ _ _ _ _ _ _ _ _
   refine Elim.el (I4.loc) _ ?_
   rintro mC hmC _
   have hCn:H3 G.objs.size=none:=I4.free
   have u:Un (frs X.stack) fp H2' H3 G s4.heap:=I4.base
   have hch:∀b∈fp,(b∈X.ex∨X.s₀.heap.objs.size≤b)∧b≠X.env.locals∧(∀x c,X.env.cells.lookup x=some c→c≠b)∧∀p∈X.pn++pins,p.1≠b:=fun b hb=>
    ⟨(f2 b hb).2.2.2.1,(f2 b hb).2.1,(f2 b hb).2.2.2.2.1,(f2 b hb).2.2.2.2.2⟩
   have os4:s4.os=s2'.os:=I4.os
   have J4:Inv X pins σ H3 s4:=I2'.call' (H':=H3) os4 u I4.hok I4.bare hch
   exact behind G.objs.size D mC H3 s4 J4 hmC (I2'.fpOk (Nat.le_refl _) hCn) qn
  ·refine thn (T.item Xc rfl rfl rfl hcalm i _ s3 _ H3 noE I3 (stat fr3) st3 go) fun r s4 hz_ => ?_
   refine Elim.el hz_ _ ?_
   clear hz_
   rintro u hr h4
   subst hr
   show wpAny _ _ (letOwnedTupleGo tg (.ref it) u) _ _ _
   refine thn h4 fun _ s5 hz_ => ?_
   refine Elim.el hz_ _ ?_
   clear hz_
   rintro x H5 I5 r5 y5 st5 fr5
   have I5':=I5.pinned (stat fr5) (T.obj _ _ st5)
   refine thn (hg cl G.objs.size s2' H2' fp s5 _ H5 x u _ I5' r5 (gk _ _ _ _ (step x H5 y5))) fun _ s6 hz_ => ?_
   refine Elim.el hz_ _ ?_
   clear hz_
   rintro σ6 H6 I6 q6 kσ kl
   refine thn (htc cl G.objs.size s2' H2' fp s6 σ6 H6 _ I6 q6) fun b s7 hz_ => ?_
   refine Elim.el hz_ _ ?_
   clear hz_
   rintro H7 I7 q7
   have later:∀{σ':St} {H':Hp} {s':Shared},Inv Xc ([]++pinsAt fp s5.heap) σ' H' s'→tn (i+1) s'.heap∧∀b∈fp,H' b=none:=fun {σ' H' s'} Iz=>by
    refine ⟨T.keep _ _ _ st5 fun b hb o e=>(Iz.pin (b,o) (List.mem_append_right _ (List.mem_append_right _ (mem_pinsAt hb e)))).1,fun b hb => ?_⟩
    refine Elim.el (T.obj _ _ st5 b hb) _ ?_
    rintro o e d
    exact (Iz.pin (b,o) (List.mem_append_right _ (List.mem_append_right _ (mem_pinsAt hb e)))).2.1
   have back:∀{pl:List (Addr×Obj)} {H':Hp} {s':Shared},Inv Xc pl σ6 H' s'→Inv Xc pl (List.replicate Nc.length none++cvals σ js) H' s':=fun {pl H' s'} Iz=>by
    refine Iz.weak (by rw [←kl]) fun j v hj => ?_
    by_cases hn:j<Nc.length
    ·rw [List.getElem?_append_left (by simpa using hn),List.getElem?_replicate] at hj
     split at hj <;> cases hj
    ·rw [kσ j (by omega)];exact hj
   cases b with
   | false=>
    rw [if_neg Bool.false_ne_true] at q7 ⊢
    refine Elim.el (q7) _ ?_
    rintro m' hm' w7
    obtain ⟨l1,l2⟩:=later I7
    exact ⟨m',hm',i+1,H7,back I7.unpinned,l1,l2,w7⟩
   | true=>
    rw [if_pos rfl] at q7 ⊢
    refine thn (htk cl G.objs.size s2' H2' fp s7 σ6 H7 _ I7 q7) fun yv s8 hz_ => ?_
    refine Elim.el hz_ _ ?_
    clear hz_
    rintro y H8 I8 r8 q8
    refine thn (htv cl G.objs.size s2' H2' fp s8 σ6 H8 _ I8 q8) fun zv s9 hz_ => ?_
    refine Elim.el hz_ _ ?_
    clear hz_
    rintro z H9 I9 r9 q9
    refine Elim.el (q9) _ ?_
    rintro kvs k eD ey hl m' hm' w9
    subst ey
    refine d_dictSet (X:=Xc) I9 eD hl r8 r9 fun s10 I10 => ?_
    obtain ⟨l1,l2⟩:=later I10
    exact ⟨m',hm',i+1,_,back I10.unpinned,l1,l2,w9⟩
 exact codeAny_compStart_dict (loop _) (T.self _ 0 _ _ _ (T.keep _ _ _ st2 fun b hb o e=>old b o (toG b o e)) (loop _))
theorem ps_setdcomp {X:Cx} {i:Nat} {y:Str} {kx vx tg iter:Expr} {ifs:List Expr} {scope:Scope} {pos pos' py:Pos} {Nc Fc:List Str} {js:List Nat} {wi:TI} {g:TG} {tc:TT} {tk tv:TE} (hN:X.N.Nodup) (hy:X.N[i]? = some y) (hl:Loc X.env.scope y)
  (hcalm:X.calm=true) (c:CompOk X scope Nc Fc js) (hi:PI X tg iter wi) (gk:Gk Nc.length g)
  (hg:∀cl C s H fp,PG (cxC X Nc Fc scope cl C s H fp) tg g) (htc:∀cl C s H fp,PTs (cxC X Nc Fc scope cl C s H fp) ifs tc) (htk:∀cl C s H fp,PE (cxC X Nc Fc scope cl C s H fp) kx tk) (htv:∀cl C s H fp,PE (cxC X Nc Fc scope cl C s H fp) vx tv)
  (hsw:swapsWith (.DictComp kx vx [⟨tg,iter,ifs,0⟩] scope pos) (some (.Name y py)) pos'.line X.env=pure true:=by rfl)
  (hs:∀x,foldedSetIterable iter X.env x=pure x:=by intro _;rfl)
  (hf:X.fn y=true∨X.env.scope.names.lookup y=some .local:=by first|exact .inl rfl|exact .inr rfl|assumption) :
  PS X (.Assign [.Name y py] (.DictComp kx vx [⟨tg,iter,ifs,0⟩] scope pos) pos') (tAsg (tDComp wi Nc.length js g tc tk tv) (gName i)):=by
 intro pins s σ H E I h
 rw [exec_Assign_Name_used _ _ _ _ hsw]
 refine wpAny_bind (wpAny_standAt (wpAny_bind ?_))
 show wpAny _ X.A (do let _ ←comprehension (.DictComp kx vx [⟨tg,iter,ifs,0⟩] scope pos) scope X.env _ newDict false (eval iter X.env) (some (assign (.Name y py) X.env))) _ _ s
 refine wpAny_bind (thn (dcomp_core (use:=some (assign (.Name y py) X.env)) (fin:=fun D H2=>gName i (.ref D) σ H2 E.nx) (QV:=fun _ s'=>SP X pins E .next s') hcalm c hi hg htc htk htv gk I h (fun C D m H2 s2 I2 hm hC q => ?_) hs) fun _ s' hq=>wpAny_pure (wpAny_pure hq))
 show wpAny _ _ (assign (.Name y py) X.env (.ref D)) _ _ s2
 refine wpAny_assign_Name (store_ok2 I2 hN hy hl (v := .ref D) rfl (fun s3 I3 hz_=>Elim.el hz_ _ fun a hsa ha => ?_) hf)
 have hne:C≠a:=by
  rcases ha with e|e
  ·rw [e];exact hC.2.1
  ·exact fun z=>hC.2.2.2.2.1 _ _ e z.symm
 refine ⟨m,hm.at' fun o e=>hsa.extBut _ o hne e,fun h' hs' => ?_⟩
 exact ⟨_,_,I3.turned (it:=C) (t':=s3.toks) (fun b o hb e=>hs'.extBut b o hb e) hC.1 hC.2.1 hC.2.2.2.1 hC.2.2.2.2.1 hC.2.2.2.2.2,q⟩
end L2
namespace L2
open PySem PySem.Spec PyProof.Rows
theorem vals_of_ints:∀{ns:List Int} {us:List Value},IntsAre us ns→Vals (ns.map V.int) us
 | _,_, .nil => .nil
 | _,_, .cons _ _ h => .cons ⟨_,rfl⟩ (vals_of_ints h)
section
variable {X:Cx} (K:PySem.W.Frag)
end
end L2
namespace L2
open PySem PySem.Spec PyProof.Rows PySem.W
section
variable {M:Model} {A:Around} {E:Value→Shared→Prop} {s:Shared} {base:Heap} {env:Env} {outer:List Env} {L e:Addr} {cls a0:Value} {dx:Option Addr} {Q:Unit→Shared→Prop}
end
end L2
namespace L2
open PySem PySem.Spec PyProof.Rows PySem.W
section
variable {P:Program} {w:World} {K:PySem.W.Frag} {mg:Str→Option Value} {base:Heap} {N:List Str} {qual:Str} {scope:Scope} {f:Addr} {cd:Value} {A:Around} {outer:List Env} {s0:Shared} {H0:Hp} {E:XK}
end
end L2
namespace L2
open PySem PySem.Spec PyProof.Rows PySem.W
section
variable {X:Cx} {pins pins':List (Addr×Obj)} {σ σ0:St} {E':XK} {H:Hp} {s:Shared}
end
section
variable {X:Cx} {L:Addr}
end
section
variable {X:Cx} {L:Addr} {pins:List (Addr×Obj)} {σ:St} {H:Hp} {s:Shared}
end
section
variable {X:Cx} {L:Addr} {pins:List (Addr×Obj)} {σ:St} {H:Hp} {s:Shared}
end
section
variable {P:Program} {w:World} {K:PySem.W.Frag} {mg:Str→Option Value} {base:Heap}
end
end L2
namespace L2
open PySem PySem.Spec PyProof.Rows
section
variable {prog:Program} {w:World} {A:Around} {E:Value→Shared→Prop} {s:Shared} {a₀:Array Keyed} {key:Keyed→Int} {kd:SortKind}
noncomputable def Lts (prog:Program) (w:World) (A:Around) (E:Value→Shared→Prop) (s:Shared) (a₀:Array Keyed) (key:Keyed→Int) (kd:SortKind):Prop:=
 ∀(st:SortSt) (x y:Keyed) (Q:Option Bool→SortSt→Prop),x∈a₀.toList→y∈a₀.toList→kindOf st=kd→Q (some (decide (key x<key y))) st→wpS (model prog w) A E s (lt' x y) Q st
noncomputable def ky (key:Keyed→Int) (xs:Array Keyed) (i:Nat):Int:=match xs[i]? with
 | some p=>key p
 | none=>0
theorem ky_congr {xs ys:Array Keyed} {i j:Nat} (h:xs[i]? = ys[j]?):ky key xs i=ky key ys j:=by unfold ky;rw [h]
theorem ky_of {xs:Array Keyed} {i:Nat} {p:Keyed} (h:xs[i]? = some p):ky key xs i=key p:=by unfold ky;rw [h]
structure Af (a₀:Array Keyed) (kd:SortKind) (lo:Nat) (st0 st:SortSt):Prop where
 perm:(arrOf st).Perm a₀
 kind:kindOf st=kd
 failed:failedOf st=none
 pend:pendingOf st=pendingOf st0
 low:∀i,i<lo→(arrOf st)[i]? = (arrOf st0)[i]?
theorem Af.size {lo:Nat} {st0 st:SortSt} (h:Af a₀ kd lo st0 st):(arrOf st).size=a₀.size:=h.perm.size_eq
theorem Af.set {lo:Nat} {st0 st:SortSt} (h:Af a₀ kd lo st0 st) {xs:Array Keyed} (hp:xs.Perm (arrOf st)) (hl:∀i,i<lo→xs[i]? = (arrOf st)[i]?):Af a₀ kd lo st0 (setArr st xs):=
 ⟨hp.trans h.perm,h.kind,h.failed,h.pend,fun i hi=>(hl i hi).trans (h.low i hi)⟩
theorem mem_at {xs:Array Keyed} (hp:xs.Perm a₀) {i:Nat} {p:Keyed} (h:xs[i]? = some p):p∈a₀.toList:=by
 refine (Array.perm_iff_toList_perm.mp hp).mem_iff.mp ?_
 exact Array.mem_toList_iff.mpr (Array.mem_of_getElem? h)
theorem tm_elem {xs:Array Keyed} {i:Nat} {st:SortSt} {Q:Keyed→SortSt→Prop} (hi:i<xs.size) (h:∀p,xs[i]? = some p→Q p st):wpS (model prog w) A E s (elem' xs i) Q st:=by
 rw [elem'_eq,getElem?_pos xs i hi]
 exact wpS_pure (h _ (getElem?_pos xs i hi))
theorem tm_ltAt {st:SortSt} {i j:Nat} {Q:Option Bool→SortSt→Prop} (hL:Lts prog w A E s a₀ key kd) (hp:(arrOf st).Perm a₀) (hk:kindOf st=kd) (hi:i<a₀.size) (hj:j<a₀.size)
  (h:Q (some (decide (ky key (arrOf st) i<ky key (arrOf st) j))) st):wpS (model prog w) A E s (ltAt' i j) Q st:=by
 rw [ltAt'_eq]
 refine wpS_bind (wpS_get ?_)
 show wpS _ _ _ _ (do let x ←elem' (arrOf st) i;let y ←elem' (arrOf st) j;lt' x y) Q st
 have hs:=hp.size_eq
 refine wpS_bind (tm_elem (by omega) fun p e1=>wpS_bind (tm_elem (by omega) fun q e2 => ?_))
 refine hL _ _ _ _ (mem_at hp e1) (mem_at hp e2) hk ?_
 rw [ky_of e1,ky_of e2] at h
 exact h
theorem Af.lt {lo:Nat} {st0 st:SortSt} {i j:Nat} {Q:Option Bool→SortSt→Prop} (h:Af a₀ kd lo st0 st) (hL:Lts prog w A E s a₀ key kd) (hi:i<a₀.size) (hj:j<a₀.size)
  (q:Q (some (decide (ky key (arrOf st) i<ky key (arrOf st) j))) st):wpS (model prog w) A E s (ltAt' i j) Q st:=tm_ltAt hL h.perm h.kind hi hj q
noncomputable def Sg (key:Keyed→Int) (xs:Array Keyed) (i j:Nat):Prop:=∀p q,i≤p→p≤q→q<j→ky key xs p≤ky key xs q
noncomputable def Ng (key:Keyed→Int) (xs:Array Keyed) (i j:Nat):Prop:=∀p q,i≤p→p≤q→q<j→ky key xs q≤ky key xs p
theorem ky_mirror {xs:Array Keyed} {i j:Nat} (hj:j≤xs.size) (k:Nat) :
  ky key (mirror xs i j ((j-i) / 2)) k=if i≤k∧k<j then ky key xs (i+j-1-k) else ky key xs k:=by
 have e:=getElem?_mirror_all (i:=i) hj k
 by_cases h1:i≤k∧k<j
 ·rw [if_pos h1] at e ⊢;exact ky_congr e
 ·rw [if_neg h1] at e ⊢;exact ky_congr e
theorem mirror_low {xs:Array Keyed} {i j lo:Nat} (hj:j≤xs.size) (hi:lo≤i):∀k,k<lo→(mirror xs i j ((j-i) / 2))[k]? = xs[k]?:=fun k hk=>by
 rw [getElem?_mirror_all hj,if_neg (by omega)]
theorem ky_mirror_equal {xs:Array Keyed} {i j:Nat} (hj:j≤xs.size) (heq:∀k,i≤k→k<j→ky key xs k=ky key xs (j-1)) (k:Nat) :
  ky key (mirror xs i j ((j-i) / 2)) k=ky key xs k:=by
 rw [ky_mirror hj]
 split
 ·rw [heq _ (by omega) (by omega),heq k (by omega) (by omega)]
 ·rfl
theorem Af.rev {lo i j:Nat} {st0 st:SortSt} (h:Af a₀ kd lo st0 st) (hi:lo≤i) (hj:j≤a₀.size):Af a₀ kd lo st0 (setArr st (mirror (arrOf st) i j ((j-i) / 2))):=
 h.set (mirror_perm _ _ _ _) (mirror_low (by rw [h.size];exact hj) hi)
noncomputable def ascL (lo a nrem:Nat):StateT SortSt Sem AscSt:=
 forIn [a:nrem] ((none,a):AscSt) fun _ c=>do
  let x ←ltAt' (lo+c.snd) (lo+c.snd-1)
  match x with
  | some smaller=>if smaller=true then pure (ForInStep.done (none,c.snd)) else pure (ForInStep.yield (none,c.snd+1))
  | _=>pure (ForInStep.done (some none,c.snd))
noncomputable def tailL (lo n nrem:Nat):StateT SortSt Sem (Option Nat):=do
 reverseSlice' lo (lo+n)
 let c ←ascL lo n nrem
 match c.fst with
 | some r=>pure r
 | none=>pure (some c.snd)
noncomputable def descL (lo n nrem:Nat):StateT SortSt Sem DescSt:=
 forIn [n:nrem] ((none,n,0):DescSt) fun _ c=>do
  let x ←ltAt' (lo+c.snd.fst) (lo+c.snd.fst-1)
  match x with
  | some smaller=>
   if smaller=true then
    if c.snd.snd>0 then do
     reverseSlice' (lo+c.snd.fst-(c.snd.snd+1)) (lo+c.snd.fst)
     pure (ForInStep.yield (none,c.snd.fst+1,0))
    else pure (ForInStep.yield (none,c.snd.fst+1,0))
   else do
    let x ←ltAt' (lo+c.snd.fst-1) (lo+c.snd.fst)
    match x with
    | some larger=>
     if larger=true then pure (ForInStep.done (none,c.snd.fst,c.snd.snd))
     else pure (ForInStep.yield (none,c.snd.fst+1,c.snd.snd+1))
    | _=>pure (ForInStep.done (some none,c.snd.fst,c.snd.snd))
  | _=>pure (ForInStep.done (some none,c.snd.fst,c.snd.snd))
noncomputable def descP (lo n nrem:Nat):StateT SortSt Sem (Option Nat):=do
 liftM (rule "list.sort.descending-run")
 let c ←descL lo (n+1) nrem
 match c.fst with
 | some r=>pure r
 | none=>
  if c.snd.snd>0 then do
   reverseSlice' (lo+c.snd.fst-(c.snd.snd+1)) (lo+c.snd.fst)
   tailL lo c.snd.fst nrem
  else tailL lo c.snd.fst nrem
theorem countL_eq (lo nrem:Nat):countRun' lo nrem=(do
  let c ←ascL lo 1 nrem
  match c.fst with
  | some r=>pure r
  | none=>
   if (c.snd == nrem)=true then pure (some c.snd)
   else if c.snd>1 then do
    let x ←ltAt' lo (lo+c.snd-1)
    match x with
    | some rose=>if rose=true then pure (some c.snd) else do
      reverseSlice' lo (lo+c.snd)
      descP lo c.snd nrem
    | _=>pure none
   else descP lo c.snd nrem):=by
 rw [countRun'_eq]
 dsimp only
 unfold descP tailL descL ascL
 congr 1
 funext c
 obtain ⟨r,n⟩:=c
 cases r with
 | some r=>rfl
 | none=>
  dsimp only
  split
  ·rfl
  ·split
   ·congr 1
    funext x
    cases x with
    | none=>rfl
    | some rose=>
     dsimp only
     split
     ·rfl
     ·congr 1
      funext _r
      congr 1;funext _u;congr 1;congr 1;funext s2;obtain ⟨r2,n2,q2⟩:=s2
      cases r2 with
      | some r2=>rfl
      | none=>(dsimp only;split; (congr 1;funext _v; (congr 1;funext _w;congr 1; (funext s3;obtain ⟨r3,n3⟩:=s3;cases r3 <;> rfl))); (congr 1;funext _w;congr 1; (funext s3;obtain ⟨r3,n3⟩:=s3;cases r3 <;> rfl)))
   ·congr 1;funext _u;congr 1;congr 1;funext s2;obtain ⟨r2,n2,q2⟩:=s2
    cases r2 with
    | some r2=>rfl
    | none=>(dsimp only;split; (congr 1;funext _v; (congr 1;funext _w;congr 1; (funext s3;obtain ⟨r3,n3⟩:=s3;cases r3 <;> rfl))); (congr 1;funext _w;congr 1; (funext s3;obtain ⟨r3,n3⟩:=s3;cases r3 <;> rfl)))
theorem tm_asc {st0 st:SortSt} {lo a nrem:Nat} {Q:AscSt→SortSt→Prop} (hL:Lts prog w A E s a₀ key kd) (hn:lo+nrem≤a₀.size) (ha:1≤a) (han:a≤nrem) (hB:Af a₀ kd lo st0 st)
  (hs:Sg key (arrOf st) lo (lo+a))
  (h:∀n,a≤n→n≤nrem→Sg key (arrOf st) lo (lo+n)→(n=nrem∨ky key (arrOf st) (lo+n)<ky key (arrOf st) (lo+n-1))→Q (none,n) st) :
  wpS (model prog w) A E s (ascL lo a nrem) Q st:=by
 unfold ascL
 refine wpS_forRange (I:=fun x c st'=>st'=st∧c=(none,x)∧Sg key (arrOf st) lo (lo+x)) ?step ?fin ⟨rfl,rfl,hs⟩
 case fin=>
  intro c st'
  refine Elim.go ?_
  rintro rfl rfl hs'
  rw [Nat.max_eq_right (by omega)] at hs' ⊢
  exact h nrem han (Nat.le_refl _) hs' (.inl rfl)
 case step=>
  intro x c st' hax hxn
  refine Elim.go ?_
  rintro rfl rfl hs'
  dsimp only
  refine wpS_bind (hB.lt hL (by omega) (by omega) ?_)
  by_cases hless:ky key (arrOf st') (lo+x)<ky key (arrOf st') (lo+x-1)
  ·simp -iota only [hless,decide_true,if_true]
   exact wpS_pure (h x hax (by omega) hs' (.inr hless))
  ·simp -iota only [hless,decide_false,Bool.false_eq_true,if_false]
   refine wpS_pure ⟨rfl,rfl,fun i j hl hij hj => ?_⟩
   by_cases hjx:j<lo+x
   ·exact hs' i j hl hij hjx
   ·have hj':j=lo+x:=by omega
    subst hj'
    by_cases hi':i=lo+x
    ·subst hi';exact Int.le_refl _
    ·exact Int.le_trans (hs' i (lo+x-1) hl (Nat.le_sub_one_of_lt (Nat.lt_of_le_of_ne hij hi')) (by omega)) (Int.not_lt.mp hless)
theorem tm_tail {st0 st:SortSt} {lo n nrem:Nat} {Q:Option Nat→SortSt→Prop} (hL:Lts prog w A E s a₀ key kd) (hn:lo+nrem≤a₀.size) (h1:1≤n) (hnn:n≤nrem) (hB:Af a₀ kd lo st0 st)
  (hs:Ng key (arrOf st) lo (lo+n)) (h:∀m st',Af a₀ kd lo st0 st'→1≤m→m≤nrem→Sg key (arrOf st') lo (lo+m)→Q (some m) st') :
  wpS (model prog w) A E s (tailL lo n nrem) Q st:=by
 unfold tailL
 have hsz:lo+n≤(arrOf st).size:=by rw [hB.size];omega
 refine wpS_bind (wpS_reverse ?_)
 have hB':=hB.rev (i:=lo) (j:=lo+n) (Nat.le_refl _) (by omega)
 refine wpS_bind (tm_asc hL hn h1 hnn hB' ?_ fun m hm1 hm2 hsm _=>wpS_pure (h m _ hB' (by omega) hm2 hsm))
 intro i j hl hij hj
 show ky key (mirror (arrOf st) lo (lo+n) ((lo+n-lo) / 2)) i≤ky key (mirror (arrOf st) lo (lo+n) ((lo+n-lo) / 2)) j
 rw [ky_mirror hsz,ky_mirror hsz,if_pos (by omega),if_pos (by omega)]
 exact hs _ _ (by omega) (Nat.sub_le_sub_left hij _) (by omega)
theorem tm_desc {st0 st:SortSt} {lo n nrem:Nat} {Q:DescSt→SortSt→Prop} (hL:Lts prog w A E s a₀ key kd) (hn:lo+nrem≤a₀.size) (h1:1≤n) (hnn:n≤nrem) (hB:Af a₀ kd lo st0 st)
  (hs:Ng key (arrOf st) lo (lo+n))
  (h:∀m neq st',Af a₀ kd lo st0 st'→n≤m→m≤nrem→Ng key (arrOf st') lo (lo+m)→neq+1≤m→(∀i,lo+m-(neq+1)≤i→i<lo+m→ky key (arrOf st') i=ky key (arrOf st') (lo+m-1))→Q (none,m,neq) st') :
  wpS (model prog w) A E s (descL lo n nrem) Q st:=by
 unfold descL
 refine wpS_forRange (I:=fun x c st'=>∃neq,c=(none,x,neq)∧Af a₀ kd lo st0 st'∧Ng key (arrOf st') lo (lo+x)∧neq+1≤x ∧
   (∀i,lo+x-(neq+1)≤i→i<lo+x→ky key (arrOf st') i=ky key (arrOf st') (lo+x-1))) ?step ?fin ⟨0,rfl,hB,hs,by omega,fun i h1 h2=>congrArg (ky key _) (Nat.le_antisymm (Nat.le_sub_one_of_lt h2) h1)⟩
 case fin=>
  intro c st'
  refine Elim.go ?_
  rintro neq rfl hB' hs' hq he
  rw [Nat.max_eq_right hnn] at hs' hq he ⊢
  exact h nrem neq st' hB' hnn (Nat.le_refl _) hs' hq he
 case step=>
  intro x c st' hax hxn
  refine Elim.go ?_
  rintro neq rfl hB' hs' hq he
  dsimp only
  have hsz:lo+x≤(arrOf st').size:=by rw [hB'.size];omega
  have lx:lo+x-1<lo+x:=by omega
  refine wpS_bind (hB'.lt hL (by omega) (by omega) ?_)
  by_cases hless:ky key (arrOf st') (lo+x)<ky key (arrOf st') (lo+x-1)
  ·simp -iota only [hless,decide_true,if_true]
   have step1:∀xs:Array Keyed,(∀k,ky key xs k=ky key (arrOf st') k)→Ng key xs lo (lo+(x+1)):=by
    intro xs hk i j hl hij hj
    rw [hk,hk]
    by_cases hjx:j<lo+x
    ·exact hs' i j hl hij hjx
    ·have hj':j=lo+x:=by omega
     subst hj'
     by_cases hi':i=lo+x
     ·subst hi';exact Int.le_refl _
     ·exact Int.le_trans (Int.le_of_lt hless) (hs' i (lo+x-1) hl (Nat.le_sub_one_of_lt (Nat.lt_of_le_of_ne hij hi')) lx)
   by_cases hneq:neq>0
   ·rw [if_pos hneq]
    refine wpS_bind (wpS_reverse (wpS_pure ⟨0,rfl,hB'.rev (by omega) (by omega),step1 _ (ky_mirror_equal hsz he),by omega,fun i h1 h2=>congrArg (ky key _) (Nat.le_antisymm (Nat.le_sub_one_of_lt h2) h1)⟩))
   ·rw [if_neg hneq]
    exact wpS_pure ⟨0,rfl,hB',step1 _ (fun _=>rfl),by omega,fun i h1 h2=>congrArg (ky key _) (Nat.le_antisymm (Nat.le_sub_one_of_lt h2) h1)⟩
  ·simp -iota only [hless,decide_false,Bool.false_eq_true,if_false]
   refine wpS_bind (hB'.lt hL (by omega) (by omega) ?_)
   by_cases hlarger:ky key (arrOf st') (lo+x-1)<ky key (arrOf st') (lo+x)
   ·simp -iota only [hlarger,decide_true,if_true]
    exact wpS_pure (h x neq st' hB' hax (by omega) hs' hq he)
   ·simp -iota only [hlarger,decide_false,Bool.false_eq_true,if_false]
    have heqx:ky key (arrOf st') (lo+x)=ky key (arrOf st') (lo+x-1):=by omega
    refine wpS_pure ⟨neq+1,rfl,hB',fun i j hl hij hj => ?_,by omega,fun i h1 h2 => ?_⟩
    ·by_cases hjx:j<lo+x
     ·exact hs' i j hl hij hjx
     ·have hj':j=lo+x:=by omega
      subst hj'
      by_cases hi':i=lo+x
      ·subst hi';exact Int.le_refl _
      ·rw [heqx];exact hs' i (lo+x-1) hl (Nat.le_sub_one_of_lt (Nat.lt_of_le_of_ne hij hi')) lx
    ·rw [show lo+(x+1)-1=lo+x from Nat.add_sub_cancel (lo+x) 1]
     by_cases hix:i=lo+x
     ·subst hix;rfl
     ·rw [heqx];exact he i (Nat.le_trans (Nat.le_of_eq (Nat.succ_sub_succ (lo+x) (neq+1)).symm) h1) (Nat.lt_of_le_of_ne (Nat.le_of_lt_succ h2) hix)
theorem tm_descP {st0 st:SortSt} {lo n nrem:Nat} {Q:Option Nat→SortSt→Prop} (hL:Lts prog w A E s a₀ key kd) (hn:lo+nrem≤a₀.size) (hnn:n+1≤nrem) (hB:Af a₀ kd lo st0 st)
  (hs:Ng key (arrOf st) lo (lo+(n+1))) (h:∀m st',Af a₀ kd lo st0 st'→1≤m→m≤nrem→Sg key (arrOf st') lo (lo+m)→Q (some m) st') :
  wpS (model prog w) A E s (descP lo n nrem) Q st:=by
 unfold descP
 refine wpS_bind (wpS_lift (wpAny_rule ⟨rfl,?_⟩))
 refine wpS_bind (tm_desc hL hn (by omega) hnn hB hs fun m neq st' hB' hm1 hm2 hs' hq he => ?_)
 dsimp only
 have hsz:lo+m≤(arrOf st').size:=by rw [hB'.size];omega
 by_cases hneq:neq>0
 ·rw [if_pos hneq]
  refine wpS_bind (wpS_reverse (tm_tail hL hn (by omega) hm2 (hB'.rev (by omega) (by omega)) ?_ h))
  intro i j hl hij hj
  show ky key (mirror (arrOf st') _ _ _) j≤ky key (mirror (arrOf st') _ _ _) i
  rw [ky_mirror_equal hsz he,ky_mirror_equal hsz he]
  exact hs' i j hl hij hj
 ·rw [if_neg hneq]
  exact tm_tail hL hn (by omega) hm2 hB' hs' h
theorem tm_count {st0 st:SortSt} {lo nrem:Nat} {Q:Option Nat→SortSt→Prop} (hL:Lts prog w A E s a₀ key kd) (hn:lo+nrem≤a₀.size) (h1:1≤nrem) (hB:Af a₀ kd lo st0 st)
  (h:∀m st',Af a₀ kd lo st0 st'→1≤m→m≤nrem→Sg key (arrOf st') lo (lo+m)→Q (some m) st') :
  wpS (model prog w) A E s (countRun' lo nrem) Q st:=by
 rw [countL_eq]
 refine wpS_bind (tm_asc hL hn (Nat.le_refl 1) h1 hB (fun i j hl hij hj=>by rw [show i=j by omega];exact Int.le_refl _) fun n hn1 hn2 hsn hor => ?_)
 dsimp only
 by_cases hnn:n=nrem
 ·rw [if_pos (by simpa using hnn)]
  exact wpS_pure (h n st hB hn1 hn2 hsn)
 ·rw [if_neg (by simpa using hnn)]
  have hlt:ky key (arrOf st) (lo+n)<ky key (arrOf st) (lo+n-1):=hor.resolve_left hnn
  by_cases hgt:n>1
  ·rw [if_pos hgt]
   refine wpS_bind (hB.lt hL (by omega) (by omega) ?_)
   by_cases hrose:ky key (arrOf st) lo<ky key (arrOf st) (lo+n-1)
   ·simp -iota only [hrose,decide_true,if_true]
    exact wpS_pure (h n st hB hn1 hn2 hsn)
   ·simp -iota only [hrose,decide_false,Bool.false_eq_true,if_false]
    have hsz:lo+n≤(arrOf st).size:=by rw [hB.size];omega
    have hall:∀k,lo≤k→k<lo+n→ky key (arrOf st) k=ky key (arrOf st) (lo+n-1):=by
     intro k hl hk
     have a1:=hsn lo k (by omega) hl hk
     have a2:=hsn k (lo+n-1) hl (by omega) (by omega)
     omega
    refine wpS_bind (wpS_reverse (tm_descP hL hn (by omega) (hB.rev (by omega) (by omega)) ?_ h))
    intro i j hl hij hj
    show ky key (mirror (arrOf st) _ _ _) j≤ky key (mirror (arrOf st) _ _ _) i
    rw [ky_mirror_equal hsz hall,ky_mirror_equal hsz hall]
    by_cases hjn:j<lo+n
    ·rw [hall i hl (by omega),hall j (by omega) hjn];exact Int.le_refl _
    ·have hj':j=lo+n:=by omega
     subst hj'
     by_cases hi':i=lo+n
     ·subst hi';exact Int.le_refl _
     ·rw [hall i hl (by omega)];exact Int.le_of_lt hlt
  ·rw [if_neg hgt]
   have hn1':n=1:=by omega
   subst hn1'
   refine tm_descP hL hn (by omega) hB ?_ h
   intro i j hl hij hj
   by_cases hi':i=j
   ·subst hi';exact Int.le_refl _
   ·have hi0:i=lo:=by omega
    have hj1:j=lo+1:=by omega
    subst hi0;subst hj1
    exact Int.le_of_lt hlt
theorem ky_bubble {xs:Array Keyed} {src d:Nat} (hs:src<xs.size) (hd:d≤src) (k:Nat) :
  ky key (bubble xs src d) k=if k=src-d then ky key xs src else if src-d<k∧k≤src then ky key xs (k-1) else ky key xs k:=by
 have e:=getElem?_bubble hs d hd k
 by_cases h1:k=src-d
 ·rw [if_pos h1] at e ⊢;exact ky_congr e
 ·rw [if_neg h1] at e ⊢
  by_cases h2:src-d<k∧k≤src
  ·rw [if_pos h2] at e ⊢;exact ky_congr e
  ·rw [if_neg h2] at e ⊢;exact ky_congr e
theorem tm_bin {st0 st:SortSt} {lo n ok:Nat} {Q:Bool→SortSt→Prop} (hL:Lts prog w A E s a₀ key kd) (hn:lo+n≤a₀.size) (hok:ok≤n) (hB:Af a₀ kd lo st0 st) (hs:Sg key (arrOf st) lo (lo+ok))
  (h:∀st',Af a₀ kd lo st0 st'→Sg key (arrOf st') lo (lo+n)→Q true st'):wpS (model prog w) A E s (binarySort' lo n ok) Q st:=by
 rw [binarySort'_eq]
 refine wpS_bind (wpS_mono (wpS_forRange (I:=fun k c st'=>c=(none,())∧Af a₀ kd lo st0 st'∧Sg key (arrOf st') lo (lo+min k n))
  (Q:=fun c st'=>c=(none,())∧Af a₀ kd lo st0 st'∧Sg key (arrOf st') lo (lo+n)) ?step ?fin ?init) ?post)
 case post=>
  intro c st'
  refine Elim.go ?_
  rintro rfl hB' hs'
  exact wpS_pure (h st' hB' hs')
 case init=>
  refine ⟨rfl,hB,fun i j hl hij hj => ?_⟩
  by_cases h1:ok=0
  ·subst h1
   have hj2:j<lo+1:=Nat.lt_of_lt_of_le hj (Nat.add_le_add_left (Nat.min_le_left _ _) _)
   have:i=j:=Nat.le_antisymm hij (Nat.le_trans (Nat.le_of_lt_succ hj2) hl)
   subst this;exact Int.le_refl _
  ·exact hs i j hl hij (Nat.lt_of_lt_of_le hj (Nat.add_le_add_left (Nat.le_trans (Nat.min_le_left _ _) (Nat.le_of_eq (Nat.max_eq_left (Nat.pos_of_ne_zero h1)))) _))
 case fin=>
  intro c st'
  refine Elim.go ?_
  rintro hc hB' hs'
  refine ⟨hc,hB',?_⟩
  rwa [Nat.min_eq_right (Nat.le_max_right _ _)] at hs'
 case step=>
  intro k c st' hak hkn
  refine Elim.go ?_
  rintro rfl hB' hs'
  rw [Nat.min_eq_left (Nat.le_of_lt hkn)] at hs'
  have hk:lo+k<a₀.size:=by omega
  refine wpS_bind (wpS_mono (wpS_forRange (I:=fun x c st''=>st''=st'∧∃l r,c=(none,l,r)∧l≤r∧r≤k∧r+x≤k+l ∧
    (∀i,i<l→ky key (arrOf st') (lo+i)≤ky key (arrOf st') (lo+k))∧(∀i,r≤i→i<k→ky key (arrOf st') (lo+k)<ky key (arrOf st') (lo+i)))
   (Q:=fun c st''=>st''=st'∧∃l r,c=(none,l,r)∧l≤k ∧
    (∀i,i<l→ky key (arrOf st') (lo+i)≤ky key (arrOf st') (lo+k))∧(∀i,l≤i→i<k→ky key (arrOf st') (lo+k)<ky key (arrOf st') (lo+i))) ?istep ?ifin ?iinit) ?ipost)
  case iinit=>exact ⟨rfl,0,k,rfl,by omega,by omega,by omega,fun i hi=>by omega,fun i h1 h2=>by omega⟩
  case ifin=>
   intro c st''
   refine Elim.go ?_
   rintro rfl l r rfl hlr hrk hm hlo hhi
   have:l=r:=by omega
   subst this
   exact ⟨rfl,l,l,rfl,hrk,hlo,hhi⟩
  case istep=>
   intro x c st'' _ hxk
   refine Elim.go ?_
   rintro rfl l r rfl hlr hrk hm hlo hhi
   dsimp only
   by_cases hge:l≥r
   ·rw [if_pos hge]
    have:l=r:=by omega
    subst this
    exact wpS_pure ⟨rfl,l,l,rfl,hrk,hlo,hhi⟩
   ·rw [if_neg hge]
    have y1:l≤(l+r) / 2:=by omega
    have y2:(l+r) / 2<r:=by omega
    generalize (l+r) / 2=m at y1 y2 ⊢
    refine wpS_bind (hB'.lt hL hk (by omega) ?_)
    by_cases hless:ky key (arrOf st'') (lo+k)<ky key (arrOf st'') (lo+m)
    ·simp -iota only [hless,decide_true,if_true]
     refine wpS_pure ⟨rfl,l,m,rfl,y1,by omega,by omega,hlo,fun i h1 h2 => ?_⟩
     exact Int.lt_of_lt_of_le hless (hs' _ _ (Nat.le_add_right _ _) (by omega) (by omega))
    ·simp -iota only [hless,decide_false,Bool.false_eq_true,if_false]
     refine wpS_pure ⟨rfl,m+1,r,rfl,y2,hrk,by omega,fun i h1 => ?_,hhi⟩
     exact Int.le_trans (hs' (lo+i) (lo+m) (Nat.le_add_right _ _) (by omega) (by omega)) (Int.not_lt.mp hless)
  case ipost=>
   intro c st''
   refine Elim.go ?_
   rintro rfl l r rfl hlk hlo hhi
   show wpS _ _ _ _ (do moveDown' (lo+k) (lo+l);pure (ForInStep.yield (none,()))) _ _
   rw [moveDown'_eq]
   have hks:lo+k<(arrOf st'').size:=by rw [hB'.size];exact hk
   refine wpS_bind (wpS_modify (wpS_pure ⟨rfl,hB'.set (bubble_perm _ _ _) (fun i hi => ?_),?_⟩))
   ·rw [getElem?_bubble hks _ (Nat.sub_le _ _),Nat.sub_sub_self (Nat.add_le_add_left hlk lo),if_neg (by omega),if_neg (by omega)]
   rw [Nat.min_eq_left hkn]
   have hlo':∀i,lo≤i→i<lo+l→ky key (arrOf st'') i≤ky key (arrOf st'') (lo+k):=fun i h1 h2=>by
    have:=hlo (i-lo) (Nat.sub_lt_left_of_lt_add h1 h2);rwa [Nat.add_sub_of_le h1] at this
   have hhi':∀i,lo+l≤i→i<lo+k→ky key (arrOf st'') (lo+k)<ky key (arrOf st'') i:=fun i h1 h2=>by
    have h0:=Nat.le_trans (Nat.le_add_right lo l) h1;have:=hhi (i-lo) (Nat.le_sub_of_add_le' h1) (Nat.sub_lt_left_of_lt_add h0 h2);rwa [Nat.add_sub_of_le h0] at this
   intro i j hl hij hj
   show ky key (bubble (arrOf st'') (lo+k) (lo+k-(lo+l))) i≤ky key (bubble (arrOf st'') (lo+k) (lo+k-(lo+l))) j
   have hj:j<lo+k+1:=hj
   have hy:lo+l≤lo+k:=Nat.add_le_add_left hlk _
   have h0:lo≤lo+l:=Nat.le_add_right _ _
   rw [ky_bubble hks (Nat.sub_le _ _),ky_bubble hks (Nat.sub_le _ _),Nat.sub_sub_self hy]
   clear hlo hhi h hB hs hn hok hak hkn hk hlk hL
   generalize lo+l=y at h0 hy hlo' hhi' ⊢
   generalize lo+k=z at hy hlo' hhi' hs' hj hks ⊢
   repeat' split
   all_goals first
    | (exfalso;omega)
    | exact Int.le_refl _
    | exact hlo' _ (by omega) (by omega)
    | exact Int.le_of_lt (hhi' _ (by omega) (by omega))
    | exact hs' _ _ (by omega) (Nat.sub_le_sub_right hij 1) (by omega)
    | exact hs' _ _ (by omega) (by omega) (by omega)
end
end L2
namespace L2
open PySem PySem.Spec PyProof.Rows
noncomputable def gallop':Bool→Keyed→Array Keyed→Nat→Nat→Nat→StateT SortSt Sem (Option Nat):=sortPriv% PySem.Builtin.gallop
noncomputable def beyond' (left:Bool) (k:Keyed) (arr:Array Keyed) (base i:Nat):StateT SortSt Sem (Option Bool):=do
 let x ←elem' arr (base+i)
 if left then lt' x k else return (←lt' k x).map (!·)
section
variable {prog:Program} {w:World} {A:Around} {E:Value→Shared→Prop} {s:Shared} {a₀:Array Keyed} {key:Keyed→Int} {kd:SortKind}
noncomputable def bey (left:Bool) (k x:Int):Bool:=if left then decide (x<k) else !decide (k<x)
theorem tm_bey {left:Bool} {k:Keyed} {arr:Array Keyed} {base i:Nat} {st:SortSt} {Q:Option Bool→SortSt→Prop} (hL:Lts prog w A E s a₀ key kd) (hst:kindOf st=kd) (ha:∀p∈arr.toList,p∈a₀.toList) (hk:k∈a₀.toList)
  (hi:base+i<arr.size) (h:Q (some (bey left (key k) (ky key arr (base+i)))) st):wpS (model prog w) A E s (beyond' left k arr base i) Q st:=by
 unfold beyond'
 refine wpS_bind (tm_elem hi fun p e => ?_)
 have hp:=ha p (Array.mem_toList_iff.mpr (Array.mem_of_getElem? e))
 rw [ky_of e] at h
 cases left with
 | true=>exact hL _ _ _ _ hp hk hst h
 | false=>
  refine wpS_bind (m:=lt' k p) (hL _ _ _ _ hk hp hst ?_)
  exact wpS_pure h
theorem bey_mono {left:Bool} {k x y:Int} (h:x≤y) (hy:bey left k y=true):bey left k x=true:=by
 unfold bey at *
 cases left
 ·simp at hy ⊢;omega
 ·simp at hy ⊢;omega
noncomputable def Gal (left:Bool) (k:Int) (key:Keyed→Int) (arr:Array Keyed) (base n r:Nat):Prop:=
 r≤n∧(∀i,i<r→bey left k (ky key arr (base+i))=true)∧∀i,r≤i→i<n→bey left k (ky key arr (base+i))=false
theorem jpGo {α γ:Type} {m:StateT SortSt Sem α} {Q : α→SortSt→Prop} {st:SortSt} (V : γ→StateT SortSt Sem α) (G : γ→Prop) (hV:∀z,G z→wpS (model prog w) A E s (V z) Q st)
  (hm:(∀z,G z→wpS (model prog w) A E s (V z) Q st)→wpS (model prog w) A E s m Q st):wpS (model prog w) A E s m Q st:=hm hV
section
variable {α:Type} {c:Prop} [Decidable c] {m n:StateT SortSt Sem α} {Q : α→SortSt→Prop} {st:SortSt}
theorem ifP (h:c) (hm:wpS (model prog w) A E s m Q st):wpS (model prog w) A E s (if c then m else n) Q st:=by rw [if_pos h];exact hm
theorem ifN (h:¬c) (hm:wpS (model prog w) A E s n Q st):wpS (model prog w) A E s (if c then m else n) Q st:=by rw [if_neg h];exact hm
theorem ifS (h1:c→wpS (model prog w) A E s m Q st) (h2:¬c→wpS (model prog w) A E s n Q st):wpS (model prog w) A E s (if c then m else n) Q st:=by
 split
 ·exact h1 ‹_›
 ·exact h2 ‹_›
theorem ifE {x y:Nat} (h1:x=y→wpS (model prog w) A E s m Q st) (h2:¬x=y→wpS (model prog w) A E s n Q st):wpS (model prog w) A E s (if (x == y)=true then m else n) Q st:=
 ifS (fun z=>h1 (by simpa using z)) fun z=>h2 (by simpa using z)
end
theorem tm_gallop {left:Bool} {k:Keyed} {arr:Array Keyed} {base n hint:Nat} {st:SortSt} {Q:Option Nat→SortSt→Prop} (hL:Lts prog w A E s a₀ key kd) (hst:kindOf st=kd) (ha:∀p∈arr.toList,p∈a₀.toList) (hk:k∈a₀.toList)
  (hs:Sg key arr base (base+n)) (hn:base+n≤arr.size) (hh:hint<n) (h:∀r,Gal left (key k) key arr base n r→Q (some r) st):wpS (model prog w) A E s (gallop' left k arr base n hint) Q st:=by
 have up:∀i j,i≤j→j<n→bey left (key k) (ky key arr (base+j))=true→bey left (key k) (ky key arr (base+i))=true:=fun i j hij hj=>bey_mono (hs _ _ (by omega) (by omega) (by omega))
 have dn:∀i j,i≤j→j<n→bey left (key k) (ky key arr (base+i))=false→bey left (key k) (ky key arr (base+j))=false:=fun i j hij hj e=>by
  cases e2:bey left (key k) (ky key arr (base+j)) with
  | false=>rfl
  | true=>rw [up i j hij hj e2] at e;cases e
 refine wpS_bind (m:=beyond' left k arr base hint) (tm_bey hL hst ha hk (by omega) ?_)
 dsimp -zeta only
 extract_lets jp mo1 mo2
 refine jpGo (fun z:Nat×Nat×Nat×Nat=>jp () z.1 z.2.1 z.2.2.1 z.2.2.2) (fun z=>(z.2.2.1≤z.2.2.2∧z.2.2.2≤n)∧(∀i,i<z.2.2.1→bey left (key k) (ky key arr (base+i))=true)∧(∀i,z.2.2.2≤i→i<n→bey left (key k) (ky key arr (base+i))=false)) (fun z hz => ?_) fun H => ?_
 ·obtain ⟨z1,z2,lo0,hi0⟩:=z
  refine wpS_bind (wpS_mono (wpS_forRange (I:=fun x c st'=>st'=st∧∃lo hi,c=(none,lo,hi)∧lo≤hi∧hi≤n∧hi+x≤n+lo∧(∀i,i<lo→bey left (key k) (ky key arr (base+i))=true)∧(∀i,hi≤i→i<n→bey left (key k) (ky key arr (base+i))=false))
   (Q:=fun c st'=>st'=st∧∃r,c=(none,r,r)∧Gal left (key k) key arr base n r) ?stepA ?finA ⟨rfl,lo0,hi0,rfl,hz.1.1,hz.1.2,Nat.le_trans hz.1.2 (Nat.le_add_right _ _),hz.2.1,hz.2.2⟩) ?postA)
  case postA=>
   intro c st'
   refine Elim.go ?_
   rintro rfl r rfl g
   exact wpS_pure (h r g)
  case finA=>
   intro c st'
   refine Elim.go ?_
   rintro rfl lo hi rfl b1 b2 b3 b4 b5
   have:lo=hi:=by omega
   subst this
   exact ⟨rfl,lo,rfl,b2,b4,b5⟩
  case stepA=>
   intro x c st' _ hx
   refine Elim.go ?_
   rintro rfl lo hi rfl b1 b2 b3 b4 b5
   dsimp only
   refine ifS (fun hge => ?_) fun hge => ?_
   ·have:lo=hi:=by omega
    subst this
    exact wpS_pure ⟨rfl,lo,rfl,b2,b4,b5⟩
   ·have y1:lo≤lo+(hi-lo) / 2:=Nat.le_add_right _ _
    have y2:lo+(hi-lo) / 2<hi:=by omega
    generalize lo+(hi-lo) / 2=m at y1 y2 ⊢
    refine wpS_bind (tm_bey hL hst ha hk (by omega) ?_)
    cases e:bey left (key k) (ky key arr (base+m)) with
    | true=>
     dsimp only
     refine ifP rfl ?_
     exact wpS_pure ⟨rfl,_,_,rfl,y2,b2,by omega,fun i hi'=>up i _ (Nat.le_of_lt_succ hi') (by omega) e,b5⟩
    | false=>
     dsimp only
     refine ifN Bool.false_ne_true ?_
     exact wpS_pure ⟨rfl,_,_,rfl,y1,by omega,by omega,b4,fun i i1 i2=>dn _ i i1 i2 e⟩
 have eN:hint+(n-hint)=n:=Nat.add_sub_of_le (Nat.le_of_lt hh)
 refine ifS (fun e => ?_) fun e => ?_
 ·refine wpS_bind (wpS_mono (wpS_forRange (I:=fun x c st'=>st'=st∧∃last ofs,c=(none,last,ofs)∧last<ofs∧x+1≤ofs∧last<n-hint∧bey left (key k) (ky key arr (base+(hint+last)))=true)
   (Q:=fun c st'=>st'=st∧∃last ofs,c=(none,last,ofs)∧last<ofs∧last<n-hint∧bey left (key k) (ky key arr (base+(hint+last)))=true∧(n-hint≤ofs∨bey left (key k) (ky key arr (base+(hint+ofs)))=false)) ?step ?fin ⟨rfl,0,1,rfl,by omega,by omega,by omega,e⟩) ?post)
  case post=>
   intro c st1
   refine Elim.go ?_
   rintro rfl last ofs rfl c1 c2 c3 c4
   refine H (last,ofs,hint+last+1,hint+min ofs (n-hint)) ⟨⟨Nat.add_le_add_left (Nat.le_min.mpr ⟨c1,c2⟩) hint,Nat.le_trans (Nat.add_le_add_left (Nat.min_le_right _ _) _) (Nat.le_of_eq eN)⟩,fun i hi=>up i (hint+last) (Nat.le_of_lt_succ hi) (Nat.lt_of_lt_of_eq (Nat.add_lt_add_left c2 hint) eN) c3,fun i i1 i2 => ?_⟩
   have i1:hint+min ofs (n-hint)≤i:=i1
   rcases Nat.le_total (n-hint) ofs with t|t
   ·rw [Nat.min_eq_right t,eN] at i1
    exact absurd i2 (Nat.not_lt.mpr i1)
   ·rw [Nat.min_eq_left t] at i1
    rcases c4 with c4|c4
    ·rw [Nat.le_antisymm t c4,eN] at i1
     exact absurd i2 (Nat.not_lt.mpr i1)
    ·exact dn (hint+ofs) i i1 i2 c4
  case fin=>
   intro c st'
   refine Elim.go ?_
   rintro rfl last ofs rfl c1 c2 c3 c4
   exact ⟨rfl,last,ofs,rfl,c1,c3,c4, .inl (by omega)⟩
  case step=>
   intro x c st' _ hx
   refine Elim.go ?_
   rintro rfl last ofs rfl c1 c2 c3 c4
   dsimp only [mo1]
   refine ifS (fun hge=>wpS_pure ⟨rfl,last,ofs,rfl,c1,c3,c4, .inl hge⟩) fun hge => ?_
   refine wpS_bind (tm_bey hL hst ha hk (by omega) ?_)
   cases e2:bey left (key k) (ky key arr (base+(hint+ofs))) with
   | true=>
    exact wpS_pure ⟨rfl,ofs,2*ofs+1,rfl,by omega,by omega,by omega,e2⟩
   | false=>
    exact wpS_pure ⟨rfl,last,ofs,rfl,c1,c3,c4, .inr e2⟩
 ·have e:=Bool.eq_false_iff.mpr e
  refine wpS_bind (wpS_mono (wpS_forRange (I:=fun x c st'=>st'=st∧∃last ofs,c=(none,last,ofs)∧last<ofs∧x+1≤ofs∧last<hint+1∧bey left (key k) (ky key arr (base+(hint-last)))=false)
   (Q:=fun c st'=>st'=st∧∃last ofs,c=(none,last,ofs)∧last<ofs∧last<hint+1∧bey left (key k) (ky key arr (base+(hint-last)))=false∧(hint+1≤ofs∨(ofs≤hint∧bey left (key k) (ky key arr (base+(hint-ofs)))=true))) ?step ?fin ⟨rfl,0,1,rfl,by omega,by omega,by omega,e⟩) ?post)
  case post=>
   intro c st1
   refine Elim.go ?_
   rintro rfl last ofs rfl c1 c2 c3 c4
   refine H (last,ofs,hint+1-min ofs (hint+1),hint-last) ⟨⟨?_,Nat.le_trans (Nat.sub_le _ _) (Nat.le_of_lt hh)⟩,fun i hi => ?_,fun i i1 i2=>dn (hint-last) i i1 i2 c3⟩
   ·show hint+1-min ofs (hint+1)≤hint-last
    rw [←Nat.succ_sub_succ hint last]
    exact Nat.sub_le_sub_left (Nat.le_min.mpr ⟨c1,c2⟩) _
   have hi:i<hint+1-min ofs (hint+1):=hi
   rcases c4 with c4|⟨c4,c5⟩
   ·rw [Nat.min_eq_right c4,Nat.sub_self] at hi
    exact absurd hi (Nat.not_lt_zero _)
   ·rw [Nat.min_eq_left (Nat.le_succ_of_le c4),Nat.succ_sub c4] at hi
    exact up i (hint-ofs) (Nat.le_of_lt_succ hi) (Nat.lt_of_le_of_lt (Nat.sub_le _ _) hh) c5
  case fin=>
   intro c st'
   refine Elim.go ?_
   rintro rfl last ofs rfl c1 c2 c3 c4
   exact ⟨rfl,last,ofs,rfl,c1,c3,c4, .inl (by omega)⟩
  case step=>
   intro x c st' _ hx
   refine Elim.go ?_
   rintro rfl last ofs rfl c1 c2 c3 c4
   dsimp only [mo2]
   refine ifS (fun hge=>wpS_pure ⟨rfl,last,ofs,rfl,c1,c3,c4, .inl hge⟩) fun hge => ?_
   refine wpS_bind (tm_bey hL hst ha hk (by omega) ?_)
   cases e2:bey left (key k) (ky key arr (base+(hint-ofs))) with
   | true=>
    exact wpS_pure ⟨rfl,last,ofs,rfl,c1,c3,c4, .inr ⟨by omega,e2⟩⟩
   | false=>
    exact wpS_pure ⟨rfl,ofs,2*ofs+1,rfl,by omega,by omega,by omega,e2⟩
end
end L2
namespace L2
open PySem PySem.Spec PyProof.Rows
noncomputable def setG':Nat→StateT SortSt Sem Unit:=sortPriv% PySem.Builtin.setMinGallop
noncomputable def withG (st:SortSt) (g:Nat):SortSt:=SortSt.mk' (kindOf st) (arrOf st) (pendingOf st) g (failedOf st)
noncomputable def mergeLo':Array Keyed→Array Keyed→StateT SortSt Sem (Array Keyed):=sortPriv% PySem.Builtin.mergeLo
section
variable {prog:Program} {w:World} {A:Around} {E:Value→Shared→Prop} {s:Shared} {a₀:Array Keyed} {key:Keyed→Int} {kd:SortKind}
noncomputable def Sl (key:Keyed→Int) (l:List Keyed):Prop:=l.Pairwise fun x y=>key x≤key y
structure Kp (st st':SortSt):Prop where
 kind:kindOf st'=kindOf st
 arr:arrOf st'=arrOf st
 pend:pendingOf st'=pendingOf st
 failed:failedOf st'=failedOf st
theorem Kp.refl (st:SortSt):Kp st st:=⟨rfl,rfl,rfl,rfl⟩
theorem Kp.gal {st st':SortSt} (h:Kp st st') (g:Nat):Kp st (withG st' g):=⟨h.kind,h.arr,h.pend,h.failed⟩
theorem ix {xs:Array Keyed} {i:Nat} {x:Keyed} (h:xs.toList[i]? = some x):xs[i]? = some x:=by rw [←h,Array.getElem?_toList]
theorem mem_drop {xs:Array Keyed} {i:Nat} {x:Keyed} (h:x∈xs.toList.drop i):∃j,i≤j∧j<xs.size∧ky key xs j=key x:=by
 obtain ⟨j,hj⟩:=List.mem_iff_getElem?.mp h
 rw [List.getElem?_drop] at hj
 have hl:=(List.getElem?_eq_some_iff.mp hj).1
 rw [Array.length_toList] at hl
 exact ⟨i+j,by omega,hl,ky_of (ix hj)⟩
theorem mem_take {xs:Array Keyed} {i:Nat} {x:Keyed} (h:x∈xs.toList.take i):∃j,j<i∧j<xs.size∧ky key xs j=key x:=by
 obtain ⟨j,hj⟩:=List.mem_iff_getElem?.mp h
 have hl:=(List.getElem?_eq_some_iff.mp hj).1
 rw [List.length_take,Array.length_toList] at hl
 rw [List.getElem?_take_of_lt (by omega)] at hj
 exact ⟨j,by omega,by omega,ky_of (ix hj)⟩
theorem mem_seg {xs:Array Keyed} {i k:Nat} {x:Keyed} (h:x∈(xs.toList.drop i).take k):∃j,i≤j∧j<i+k∧j<xs.size∧ky key xs j=key x:=by
 obtain ⟨j,hj⟩:=List.mem_iff_getElem?.mp h
 have hl:=(List.getElem?_eq_some_iff.mp hj).1
 rw [List.length_take,List.length_drop,Array.length_toList] at hl
 rw [List.getElem?_take_of_lt (by omega),List.getElem?_drop] at hj
 exact ⟨i+j,by omega,by omega,by omega,ky_of (ix hj)⟩
theorem seg1 {xs:Array Keyed} {i:Nat} {p:Keyed} (h:xs[i]? = some p):(xs.toList.drop i).take 1=[p]:=by
 rw [←Array.getElem?_toList] at h
 obtain ⟨hl,e⟩:=List.getElem?_eq_some_iff.mp h
 rw [List.drop_eq_getElem_cons hl,e];rfl
theorem sl_of {xs:Array Keyed} (h:Sg key xs 0 xs.size):Sl key xs.toList:=by
 refine List.pairwise_iff_getElem.mpr fun i j hi hj hij => ?_
 rw [Array.length_toList] at hi hj
 have:=h i j (by omega) (by omega) hj
 rwa [ky_of (getElem?_pos xs i hi),ky_of (getElem?_pos xs j hj)] at this
structure Mg (key:Keyed→Int) (a b:Array Keyed) (out:List Keyed) (ia ib:Nat):Prop where
 ha:ia≤a.size
 hb:ib≤b.size
 sa:Sg key a 0 a.size
 sb:Sg key b 0 b.size
 perm:(out++(a.toList.drop ia++b.toList.drop ib)).Perm (a.toList++b.toList)
 so:Sl key out
 la:∀x∈out,∀y∈a.toList.drop ia,key x≤key y
 lb:∀x∈out,∀y∈b.toList.drop ib,key x≤key y
theorem Mg.swap {a b:Array Keyed} {out:List Keyed} {ia ib:Nat} (h:Mg key a b out ia ib):Mg key b a out ib ia:=
 ⟨h.hb,h.ha,h.sb,h.sa,((List.perm_append_comm).append_left out).trans (h.perm.trans List.perm_append_comm),h.so,h.lb,h.la⟩
theorem Mg.tA {a b:Array Keyed} {out:List Keyed} {ia ib k:Nat} (h:Mg key a b out ia ib) (hk:ia+k≤a.size) (q:∀j,ia≤j→j<ia+k→ky key a j≤ky key b ib):Mg key a b (out++(a.toList.drop ia).take k) (ia+k) ib:=by
 have e:a.toList.drop ia=(a.toList.drop ia).take k++a.toList.drop (ia+k):=by
  rw [←List.drop_drop,List.take_append_drop]
 have sd:Sl key (a.toList.drop ia):=(sl_of h.sa).sublist (List.drop_sublist _ _)
 rw [e] at sd
 obtain ⟨s1,s2,s3⟩:=List.pairwise_append.mp sd
 refine ⟨hk,h.hb,h.sa,h.sb,?_,?_,?_,?_⟩
 ·have p:=h.perm
  rw [e] at p
  rw [List.append_assoc] at p ⊢
  exact p
 ·refine List.pairwise_append.mpr ⟨h.so,s1,fun x hx y hy=>h.la x hx y (List.mem_of_mem_take hy)⟩
 ·intro x hx y hy
  rcases List.mem_append.mp hx with hx|hx
  ·exact h.la x hx y (by rw [e];exact List.mem_append_right _ hy)
  ·exact s3 x hx y hy
 ·intro x hx y hy
  rcases List.mem_append.mp hx with hx|hx
  ·exact h.lb x hx y hy
  ·obtain ⟨j,j1,j2,j3,e1⟩:=mem_seg (key:=key) hx
   obtain ⟨i,i1,i2,e2⟩:=mem_drop (key:=key) hy
   have:=q j j1 j2
   have:=h.sb ib i (by omega) i1 i2
   omega
theorem Mg.tB {a b:Array Keyed} {out:List Keyed} {ia ib k:Nat} (h:Mg key a b out ia ib) (hk:ib+k≤b.size) (q:∀j,ib≤j→j<ib+k→ky key b j≤ky key a ia):Mg key a b (out++(b.toList.drop ib).take k) ia (ib+k):=
 (h.swap.tA hk q).swap
theorem Mg.pushA {a b out:Array Keyed} {ia ib:Nat} {p:Keyed} (h:Mg key a b out.toList ia ib) (e:a[ia]? = some p) (hk:ia<a.size) (q:ky key a ia≤ky key b ib):Mg key a b (out.push p).toList (ia+1) ib:=by
 rw [Array.toList_push, ←seg1 e]
 exact h.tA hk fun j j1 j2=>by rw [show j=ia by omega];exact q
theorem Mg.pushB {a b out:Array Keyed} {ia ib:Nat} {p:Keyed} (h:Mg key a b out.toList ia ib) (e:b[ib]? = some p) (hk:ib<b.size) (q:ky key b ib≤ky key a ia):Mg key a b (out.push p).toList ia (ib+1):=by
 rw [Array.toList_push, ←seg1 e]
 exact h.tB hk fun j j1 j2=>by rw [show j=ib by omega];exact q
theorem ext_toList {xs:Array Keyed} {i k:Nat} (h:i+k≤xs.size):(xs.extract i (i+k)).toList=(xs.toList.drop i).take k:=by
 rw [Array.toList_extract,List.extract_eq_take_drop]
 congr 1;omega
theorem ext_end {xs:Array Keyed} {i:Nat} : (xs.extract i xs.size).toList=xs.toList.drop i:=by
 rw [Array.toList_extract,List.extract_eq_take_drop]
 refine List.take_of_length_le ?_
 rw [List.length_drop,Array.length_toList];omega
theorem Mg.exA {a b out:Array Keyed} {ia ib k:Nat} (h:Mg key a b out.toList ia ib) (hk:ia+k≤a.size) (q:∀j,ia≤j→j<ia+k→ky key a j≤ky key b ib):Mg key a b (out++a.extract ia (ia+k)).toList (ia+k) ib:=by
 rw [Array.toList_append,ext_toList hk]
 exact h.tA hk q
theorem Mg.exB {a b out:Array Keyed} {ia ib k:Nat} (h:Mg key a b out.toList ia ib) (hk:ib+k≤b.size) (q:∀j,ib≤j→j<ib+k→ky key b j≤ky key a ia):Mg key a b (out++b.extract ib (ib+k)).toList ia (ib+k):=by
 rw [Array.toList_append,ext_toList hk]
 exact h.tB hk q
noncomputable def Good (key:Keyed→Int) (a b res:Array Keyed):Prop:=res.toList.Perm (a.toList++b.toList)∧Sl key res.toList
theorem Mg.done {a b out:Array Keyed} {ia ib:Nat} (h:Mg key a b out.toList ia ib) (q:ia=a.size∨ib=b.size):Good key a b (out++a.extract ia a.size++b.extract ib b.size):=by
 unfold Good
 rw [Array.toList_append,Array.toList_append,ext_end,ext_end,List.append_assoc]
 refine ⟨h.perm,List.pairwise_append.mpr ⟨h.so,List.pairwise_append.mpr ⟨(sl_of h.sa).sublist (List.drop_sublist _ _),(sl_of h.sb).sublist (List.drop_sublist _ _),fun x hx y hy => ?_⟩,fun x hx y hy => ?_⟩⟩
 ·obtain ⟨j,j1,j2,_⟩:=mem_drop (key:=key) hx
  obtain ⟨i,i1,i2,_⟩:=mem_drop (key:=key) hy
  omega
 ·rcases List.mem_append.mp hy with hy|hy
  ·exact h.la x hx y hy
  ·exact h.lb x hx y hy
theorem Mg.last {a b out:Array Keyed} {ia ib:Nat} (h:Mg key a b out.toList ia ib) (e:ia+1=a.size) (q:∀j,j<b.size→ky key b j≤ky key a (a.size-1)):Good key a b (out++b.extract ib b.size++a.extract ia a.size):=by
 unfold Good
 rw [Array.toList_append,Array.toList_append,ext_end,ext_end,List.append_assoc]
 refine ⟨(List.perm_append_comm.append_left out.toList).trans h.perm,List.pairwise_append.mpr ⟨h.so,List.pairwise_append.mpr ⟨(sl_of h.sb).sublist (List.drop_sublist _ _),(sl_of h.sa).sublist (List.drop_sublist _ _),fun x hx y hy => ?_⟩,fun x hx y hy => ?_⟩⟩
 ·obtain ⟨j,j1,j2,e1⟩:=mem_drop (key:=key) hx
  obtain ⟨i,i1,i2,e2⟩:=mem_drop (key:=key) hy
  have:=q j j2
  rw [show a.size-1=i by omega] at this
  omega
 ·rcases List.mem_append.mp hy with hy|hy
  ·exact h.lb x hx y hy
  ·exact h.la x hx y hy
theorem gal_le {k x:Int} (h:bey false k x=true):x≤k:=by unfold bey at h;simp at h;exact h
theorem gal_lt {k x:Int} (h:bey false k x=false):k<x:=by unfold bey at h;simp at h;exact h
theorem gal_le' {k x:Int} (h:bey true k x=true):x<k:=by unfold bey at h;simp at h;exact h
theorem gal_lt' {k x:Int} (h:bey true k x=false):k≤x:=by unfold bey at h;simp at h;exact h
end
end L2
namespace L2
open PySem PySem.Spec PyProof.Rows
section
variable {prog:Program} {w:World} {A:Around} {E:Value→Shared→Prop} {s:Shared} {a₀:Array Keyed} {key:Keyed→Int} {kd:SortKind}
theorem elemB {α:Type} {xs:Array Keyed} {i:Nat} {f:Keyed→StateT SortSt Sem α} {Q : α→SortSt→Prop} {st:SortSt} (hi:i<xs.size) (h:∀p,xs[i]? = some p→wpS (model prog w) A E s (f p) Q st):wpS (model prog w) A E s (elem' xs i >>= f) Q st:=wpS_bind (tm_elem hi h)
theorem ltB {α:Type} {x y:Keyed} {f:Option Bool→StateT SortSt Sem α} {Q : α→SortSt→Prop} {st:SortSt} (hL:Lts prog w A E s a₀ key kd) (hx:x∈a₀.toList) (hy:y∈a₀.toList) (hk:kindOf st=kd) (h:wpS (model prog w) A E s (f (some (decide (key x<key y)))) Q st):wpS (model prog w) A E s (lt' x y >>= f) Q st:=wpS_bind (hL _ _ _ _ hx hy hk h)
theorem gallopB {α:Type} {left:Bool} {k:Keyed} {arr:Array Keyed} {base n hint:Nat} {st:SortSt} {f:Option Nat→StateT SortSt Sem α} {Q : α→SortSt→Prop} (hL:Lts prog w A E s a₀ key kd) (hst:kindOf st=kd) (ha:∀p∈arr.toList,p∈a₀.toList) (hk:k∈a₀.toList)
  (hs:Sg key arr base (base+n)) (hn:base+n≤arr.size) (hh:hint<n) (h:∀r,Gal left (key k) key arr base n r→wpS (model prog w) A E s (f (some r)) Q st):wpS (model prog w) A E s (gallop' left k arr base n hint >>= f) Q st:=wpS_bind (tm_gallop hL hst ha hk hs hn hh h)
theorem tup6 {α β γ δ ε ζ:Type} {P : α × β × γ × δ × ε × ζ→Prop} (h:∀a b c d e f,P (a,b,c,d,e,f)):∀x,P x:=fun ⟨a,b,c,d,e,f⟩=>h a b c d e f
theorem tup7 {α β γ δ ε ζ η:Type} {P : α × β × γ × δ × ε × ζ × η→Prop} (h:∀a b c d e f g,P (a,b,c,d,e,f,g)):∀x,P x:=fun ⟨a,b,c,d,e,f,g⟩=>h a b c d e f g
theorem setGo {α:Type} {g:Nat} {f:Unit→StateT SortSt Sem α} {st st3:SortSt} {Q : α→SortSt→Prop} (kp:Kp st st3) (h:∀st4,Kp st st4→wpS (model prog w) A E s (f ()) Q st4):wpS (model prog w) A E s (setG' g >>= f) Q st3:=by
 exact wpS_bind (m:=setG' g) (wpS_modify (f:=fun s=>withG s g) (h _ (kp.gal g)))
theorem mem_of {xs:Array Keyed} {i:Nat} {p:Keyed} (h:xs[i]? = some p):p∈xs.toList:=Array.mem_toList_iff.mpr (Array.mem_of_getElem? h)
theorem sg_from {xs:Array Keyed} {i j:Nat} (h:Sg key xs 0 j):Sg key xs i j:=fun p q _ h2 h3=>h p q (Nat.zero_le _) h2 h3
noncomputable abbrev LoI0 (key:Keyed→Int) (a b:Array Keyed) (st:SortSt) (x:Nat) (c:Option (Array Keyed)×Array Keyed×Nat×Nat×Nat) (st':SortSt):Prop:=Kp st st'∧∃out ia ib g,c=(none,out,ia,ib,g)∧Mg key a b out.toList ia ib∧x+1≤ia+ib∧ia+1<a.size∧ib<b.size
noncomputable abbrev LoQ0 (key:Keyed→Int) (a b:Array Keyed) (st:SortSt) (c:Option (Array Keyed)×Array Keyed×Nat×Nat×Nat) (st':SortSt):Prop:=Kp st st'∧∃r,c.1=some r∧Good key a b r
noncomputable abbrev LoI1 (key:Keyed→Int) (a b:Array Keyed) (st1:SortSt) (x:Nat) (y:Nat) (c:Option (Array Keyed)×Array Keyed×Nat×Nat×Nat×Nat) (st':SortSt):Prop:=st'=st1∧∃out ia ib p q,c=(none,out,ia,ib,p,q)∧Mg key a b out.toList ia ib∧x+1+y≤ia+ib∧ia+1<a.size∧ib<b.size
noncomputable abbrev LoQ1 (key:Keyed→Int) (a b:Array Keyed) (st1:SortSt) (x:Nat) (c:Option (Array Keyed)×Array Keyed×Nat×Nat×Nat×Nat) (st':SortSt):Prop:=st'=st1∧((∃r,c.1=some r∧Good key a b r)∨(c.1=none∧Mg key a b c.2.1.toList c.2.2.1 c.2.2.2.1∧x+2≤c.2.2.1+c.2.2.2.1∧c.2.2.1+1<a.size∧c.2.2.2.1<b.size))
noncomputable abbrev LoI2 (key:Keyed→Int) (a b:Array Keyed) (st:SortSt) (x:Nat) (y:Nat) (c:Option (Array Keyed)×Array Keyed×Nat×Nat×Nat×Nat×Nat) (st':SortSt):Prop:=Kp st st'∧∃out ia ib g p q,c=(none,out,ia,ib,g,p,q)∧Mg key a b out.toList ia ib∧x+2≤ia+ib∧ia+1<a.size∧ib<b.size
noncomputable abbrev LoQ2 (key:Keyed→Int) (a b:Array Keyed) (st:SortSt) (x:Nat) (c:Option (Array Keyed)×Array Keyed×Nat×Nat×Nat×Nat×Nat) (st':SortSt):Prop:=Kp st st'∧((∃r,c.1=some r∧Good key a b r)∨(c.1=none∧Mg key a b c.2.1.toList c.2.2.1 c.2.2.2.1∧x+2≤c.2.2.1+c.2.2.2.1∧c.2.2.1+1<a.size∧c.2.2.2.1<b.size))
theorem tm_lo {a b:Array Keyed} {st:SortSt} {Q:Array Keyed→SortSt→Prop} (hL:Lts prog w A E s a₀ key kd) (hk:kindOf st=kd) (ham:∀p∈a.toList,p∈a₀.toList) (hbm:∀p∈b.toList,p∈a₀.toList)
  (hsa:Sg key a 0 a.size) (hsb:Sg key b 0 b.size) (ha1:1≤a.size) (hb1:1≤b.size) (h0:ky key b 0≤ky key a 0) (hl:∀j,j<b.size→ky key b j≤ky key a (a.size-1))
  (h:∀res st',Kp st st'→Good key a b res→Q res st'):wpS (model prog w) A E s (mergeLo' a b) Q st:=by
 refine wpS_bind (m:=liftM (rule "list.sort.merge-lo")) (wpS_lift (wpAny_rule ⟨rfl,?_⟩))
 refine elemB hb1 fun p e => ?_
 have mz:Mg key a b (#[]:Array Keyed).toList 0 0:=⟨Nat.zero_le _,Nat.zero_le _,hsa,hsb,by simp, .nil,(fun _ h=>by cases h),(fun _ h=>by cases h)⟩
 have m0:Mg key a b (#[p]:Array Keyed).toList 0 1:=mz.pushB e hb1 h0
 refine ifE (fun z1=>wpS_pure (h _ _ (Kp.refl _) (m0.done (.inr z1)))) fun z1 => ?_
 refine ifE (fun z2=>wpS_pure (h _ _ (Kp.refl _) (m0.last z2 hl))) fun z2 => ?_
 refine wpS_bind (wpS_get ?_)
 refine wpS_bind (wpS_mono (wpS_forRange
  (I:=LoI0 key a b st)
  (Q:=LoQ0 key a b st) ?step ?fin ⟨Kp.refl _,_,_,_,_,rfl,m0,by omega,by omega,by omega⟩) ?post)
 case post=>
  rintro ⟨c1,c⟩ st' ⟨kp,r,e1,g⟩
  cases e1
  exact wpS_pure (h _ _ kp g)
 case fin=>
  intro c st'
  refine Elim.go ?_
  rintro kp out ia ib g rfl mm h1 h2 h3
  rw [Nat.zero_max] at h1
  omega
 case step=>
  intro x c st1 _ hx
  refine Elim.go ?_
  rintro kp1 out ia ib g rfl mm h1 h2 h3
  dsimp -zeta only
  refine wpS_bind (wpS_mono (wpS_forRange
   (I:=LoI1 key a b st1 x)
   (Q:=LoQ1 key a b st1 x) ?step1 ?fin1 ⟨rfl,out,ia,ib,_,_,rfl,mm,by omega,h2,h3⟩) ?post1)
  case fin1=>
   intro c st'
   refine Elim.go ?_
   rintro rfl out ia ib p q rfl mm h1 h2 h3
   exact ⟨rfl, .inr ⟨rfl,mm,by rw [Nat.zero_max] at h1;show x+2≤ia+ib;omega,h2,h3⟩⟩
  case step1=>
   intro y c st' _ hy
   refine Elim.go ?_
   rintro rfl out ia ib p q rfl mm h1 h2 h3
   dsimp only
   refine elemB h3 fun p1 e1=>elemB (Nat.lt_of_succ_lt h2) fun p2 e2 => ?_
   refine ltB hL (hbm _ (mem_of e1)) (ham _ (mem_of e2)) (kp1.kind.trans hk) ?_
   rw [←ky_of (key:=key) e1, ←ky_of (key:=key) e2]
   by_cases hlt:ky key b ib<ky key a ia
   ·rw [decide_eq_true hlt]
    dsimp only
    refine ifP rfl ?_
    refine elemB h3 fun p3 e3 => ?_
    have m1:=mm.pushB e3 h3 (Int.le_of_lt hlt)
    refine ifE (fun z3=>wpS_pure ⟨rfl, .inl ⟨_,rfl,m1.done (.inr z3)⟩⟩) fun z3 => ?_
    refine ifS (fun z4=>wpS_pure ⟨rfl, .inr ⟨rfl,m1,by show x+2≤ia+(ib+1);omega,h2,Nat.lt_of_le_of_ne h3 z3⟩⟩) fun z4 => ?_
    exact wpS_pure ⟨rfl,_,_,_,_,_,rfl,m1,by omega,h2,Nat.lt_of_le_of_ne h3 z3⟩
   ·rw [decide_eq_false hlt]
    dsimp only
    refine ifN Bool.false_ne_true ?_
    refine elemB (Nat.lt_of_succ_lt h2) fun p3 e3 => ?_
    have m1:=mm.pushA e3 (by omega) (Int.not_lt.mp hlt)
    refine ifE (fun z3=>wpS_pure ⟨rfl, .inl ⟨_,rfl,m1.last z3 hl⟩⟩) fun z3 => ?_
    refine ifS (fun z4=>wpS_pure ⟨rfl, .inr ⟨rfl,m1,by show x+2≤ia+1+ib;omega,Nat.lt_of_le_of_ne h2 z3,h3⟩⟩) fun z4 => ?_
    exact wpS_pure ⟨rfl,_,_,_,_,_,rfl,m1,by omega,Nat.lt_of_le_of_ne h2 z3,h3⟩
  refine tup6 fun c1 out ia ib p q => ?_
  intro st2 hc
  have es:st2=st1:=hc.1
  subst es
  refine Or.elim hc.2 (fun gg => ?_) fun gg => ?_
  ·refine Elim.el gg _ ?_
   intro r e1 gd
   have e1:c1=some r:=e1
   subst e1
   exact wpS_pure ⟨kp1,r,rfl,gd⟩
  have e1:c1=none:=gg.1
  have mm:Mg key a b out.toList ia ib:=gg.2.1
  have h1:x+2≤ia+ib:=gg.2.2.1
  have h2:ia+1<a.size:=gg.2.2.2.1
  have h3:ib<b.size:=gg.2.2.2.2
  clear gg hc
  subst e1
  dsimp -zeta only
  refine wpS_bind (wpS_lift (wpAny_rule ⟨rfl,?_⟩))
  refine wpS_bind (wpS_mono (wpS_forRange
   (I:=LoI2 key a b st x)
   (Q:=LoQ2 key a b st x) ?step2 ?fin2 ⟨kp1,out,ia,ib,_,_,_,rfl,mm,by omega,h2,h3⟩) ?post2)
  case fin2=>
   intro c st'
   refine Elim.go ?_
   rintro kp out ia ib g p q rfl mm h1 h2 h3
   exact ⟨kp, .inr ⟨rfl,mm,h1,h2,h3⟩⟩
  case post2=>
   refine tup7 fun c1 out ia ib g p q => ?_
   intro st3 hc
   have kp:Kp st st3:=hc.1
   refine Or.elim hc.2 (fun gg => ?_) fun gg => ?_
   ·refine Elim.el gg _ ?_
    intro r e1 gd
    have e1:c1=some r:=e1
    subst e1
    exact wpS_pure ⟨kp,r,rfl,gd⟩
   have e1:c1=none:=gg.1
   have mm:Mg key a b out.toList ia ib:=gg.2.1
   have h1:x+2≤ia+ib:=gg.2.2.1
   have h2:ia+1<a.size:=gg.2.2.2.1
   have h3:ib<b.size:=gg.2.2.2.2
   clear gg hc
   subst e1
   dsimp only
   exact setGo kp fun st4 kk=>wpS_pure ⟨kk,_,_,_,_,rfl,mm,by omega,h2,h3⟩
  case step2=>
   intro y c st3 _ hy
   refine Elim.go ?_
   rintro kp out ia ib g p q rfl mm h1 h2 h3
   dsimp -zeta only
   extract_lets s1 o1 s2 i1 s3 i2 s4 mg s5 ac bc ib1 jp mg1
   refine jpGo (fun z:Nat=>jp () z) (fun _=>True) (fun g' _ => ?_) fun H => ?_
   rotate_left
   ·exact ifS (fun _=>H _ trivial) fun _=>H _ trivial
   refine setGo kp fun st4 kk => ?_
   dsimp -zeta only [s1,o1,s2,i1,s3,i2,s4,mg,s5,ac,bc,ib1]
   have hkd:kindOf st4=kd:=kk.kind.trans hk
   have eA:ia+(a.size-ia)=a.size:=Nat.add_sub_of_le (Nat.le_of_lt (Nat.lt_of_succ_lt h2))
   refine elemB h3 fun p1 e1 => ?_
   refine gallopB hL hkd ham (hbm _ (mem_of e1)) (by rw [eA];exact sg_from hsa) (Nat.le_of_eq eA) (by omega) fun k1 g1 => ?_
   obtain ⟨g11,g12,g13⟩:=g1
   rw [←ky_of (key:=key) e1] at g12 g13
   dsimp -zeta only
   extract_lets ac2 jp2 o2 i3
   refine jpGo (fun z:Array Keyed×Nat=>jp2 () z.1 z.2) (fun z=>Mg key a b z.1.toList z.2 ib∧ia≤z.2∧z.2+1<a.size∧ky key b ib≤ky key a z.2) (fun z hz => ?_) fun H => ?_
   rotate_left
   ·refine ifS (fun ka => ?_) fun ka => ?_
    ·have ka':k1>0:=ka
     have kA:ia+k1≤a.size:=Nat.le_trans (Nat.add_le_add_left g11 ia) (Nat.le_of_eq eA)
     have m1:=mm.exA (k:=k1) kA (fun j j1 j2=>by have:=gal_le (g12 (j-ia) (Nat.sub_lt_left_of_lt_add j1 j2));rw [Nat.add_sub_of_le j1] at this;exact this)
     refine ifE (fun z1=>wpS_pure ⟨kk, .inl ⟨_,rfl,m1.last z1 hl⟩⟩) fun z1 => ?_
     refine ifE (fun z2=>wpS_pure ⟨kk, .inl ⟨_,rfl,m1.done (.inl z2)⟩⟩) fun z2 => ?_
     exact H (o2,i3) ⟨m1,Nat.le_add_right _ _,Nat.lt_of_le_of_ne (Nat.lt_of_le_of_ne kA z2) z1,Int.le_of_lt (gal_lt (g13 k1 (Nat.le_refl _) (by omega)))⟩
    ·exact H (out,ia) ⟨mm,Nat.le_refl _,h2,Int.le_of_lt (gal_lt (g13 0 (by omega) (by omega)))⟩
   obtain ⟨out2,ia2⟩:=z
   have m1:Mg key a b out2.toList ia2 ib:=hz.1
   have n1:ia≤ia2:=hz.2.1
   have n2:ia2+1<a.size:=hz.2.2.1
   have n3:ky key b ib≤ky key a ia2:=hz.2.2.2
   clear hz
   refine elemB h3 fun p2 e2 => ?_
   have m2:=m1.pushB e2 h3 n3
   dsimp -zeta only [ac2]
   extract_lets o3
   refine ifE (fun z3=>wpS_pure ⟨kk, .inl ⟨_,rfl,m2.done (.inr z3)⟩⟩) fun z3 => ?_
   have eB:ib+1+(b.size-(ib+1))=b.size:=Nat.add_sub_of_le h3
   have h4:ib+1<b.size:=Nat.lt_of_le_of_ne h3 z3
   refine elemB (Nat.lt_of_succ_lt n2) fun p3 e3 => ?_
   refine gallopB hL hkd hbm (ham _ (mem_of e3)) (by rw [eB];exact sg_from hsb) (Nat.le_of_eq eB) (Nat.sub_pos_of_lt h4) fun k2 g2 => ?_
   obtain ⟨g21,g22,g23⟩:=g2
   rw [←ky_of (key:=key) e3] at g22 g23
   dsimp -zeta only
   extract_lets bc2 jp3 o4 i4
   refine jpGo (fun z:Array Keyed×Nat=>jp3 () z.1 z.2) (fun z=>Mg key a b z.1.toList ia2 z.2∧ib≤z.2∧z.2<b.size∧ky key a ia2≤ky key b z.2) (fun z hz => ?_) fun H => ?_
   rotate_left
   ·refine ifS (fun kz => ?_) fun kz => ?_
    ·have kB:ib+1+k2≤b.size:=Nat.le_trans (Nat.add_le_add_left g21 _) (Nat.le_of_eq eB)
     have m3:=m2.exB (k:=k2) kB (fun j j1 j2=>by have:=gal_le' (g22 (j-(ib+1)) (Nat.sub_lt_left_of_lt_add j1 j2));rw [Nat.add_sub_of_le j1] at this;exact Int.le_of_lt this)
     refine ifE (fun z4=>wpS_pure ⟨kk, .inl ⟨_,rfl,m3.done (.inr z4)⟩⟩) fun z4 => ?_
     exact H (o4,i4) ⟨m3,Nat.le_trans (Nat.le_succ _) (Nat.le_add_right _ _),Nat.lt_of_le_of_ne kB z4,gal_lt' (g23 k2 (Nat.le_refl _) (by omega))⟩
    ·exact H (o3,ib+1) ⟨m2,Nat.le_succ _,h4,gal_lt' (g23 0 (by omega) (Nat.sub_pos_of_lt h4))⟩
   obtain ⟨out3,ib3⟩:=z
   have m3:Mg key a b out3.toList ia2 ib3:=hz.1
   have n4:ib≤ib3:=hz.2.1
   have n5:ib3<b.size:=hz.2.2.1
   have n6:ky key a ia2≤ky key b ib3:=hz.2.2.2
   clear hz
   refine elemB (Nat.lt_of_succ_lt n2) fun p4 e4 => ?_
   have m4:=m3.pushA e4 (by omega) n6
   dsimp only [bc2]
   refine ifE (fun z5=>wpS_pure ⟨kk, .inl ⟨_,rfl,m4.last z5 hl⟩⟩) fun z5 => ?_
   refine ifS (fun _ => ?_) fun _ => ?_
   ·exact wpS_pure ⟨kk, .inr ⟨rfl,m4,by dsimp only;omega,Nat.lt_of_le_of_ne n2 z5,n5⟩⟩
   ·exact wpS_pure ⟨kk,_,_,_,_,_,_,rfl,m4,by omega,Nat.lt_of_le_of_ne n2 z5,n5⟩
end
end L2
namespace L2
open PySem PySem.Spec PyProof.Rows
noncomputable def mergeHi':Array Keyed→Array Keyed→StateT SortSt Sem (Array Keyed):=sortPriv% PySem.Builtin.mergeHi
section
variable {prog:Program} {w:World} {A:Around} {E:Value→Shared→Prop} {s:Shared} {a₀:Array Keyed} {key:Keyed→Int} {kd:SortKind}
theorem sg_to {xs:Array Keyed} {n:Nat} (hn:n≤xs.size) (h:Sg key xs 0 xs.size):Sg key xs 0 (0+n):=fun p q h1 h2 h3=>h p q h1 h2 (by omega)
structure Mh (key:Keyed→Int) (a b:Array Keyed) (out:List Keyed) (na nb:Nat):Prop where
 ha:na≤a.size
 hb:nb≤b.size
 sa:Sg key a 0 a.size
 sb:Sg key b 0 b.size
 perm:(a.toList.take na++b.toList.take nb++out.reverse).Perm (a.toList++b.toList)
 so:Sl key out.reverse
 la:∀x∈a.toList.take na,∀y∈out,key x≤key y
 lb:∀x∈b.toList.take nb,∀y∈out,key x≤key y
theorem Mh.swap {a b:Array Keyed} {out:List Keyed} {na nb:Nat} (h:Mh key a b out na nb):Mh key b a out nb na:=
 ⟨h.hb,h.ha,h.sb,h.sa,((List.perm_append_comm).append_right _).trans (h.perm.trans List.perm_append_comm),h.so,h.lb,h.la⟩
theorem mem_segR {xs:Array Keyed} {t n:Nat} {x:Keyed} (h:x∈(xs.toList.take n).drop t):∃j,t≤j∧j<n∧j<xs.size∧ky key xs j=key x:=by
 rw [List.drop_take] at h
 obtain ⟨j,j1,j2,j3,e⟩:=mem_seg (key:=key) h
 exact ⟨j,j1,by omega,j3,e⟩
theorem Mh.tA {a b:Array Keyed} {out:List Keyed} {na nb t:Nat} (h:Mh key a b out na nb) (ht:t≤na) (hn:1≤nb) (q:∀j,t≤j→j<na→ky key b (nb-1)≤ky key a j):Mh key a b (out++((a.toList.take na).drop t).reverse) t nb:=by
 have e:a.toList.take na=a.toList.take t++(a.toList.take na).drop t:=by
  have:=List.take_append_drop t (a.toList.take na)
  rw [List.take_take,Nat.min_eq_left ht] at this
  exact this.symm
 have sd:Sl key (a.toList.take na):=(sl_of h.sa).sublist (List.take_sublist _ _)
 rw [e] at sd
 refine Elim.el (List.pairwise_append.mp sd) _ ?_
 rintro s1 s2 s3
 have ha:=h.ha
 have hb:=h.hb
 refine ⟨by omega,h.hb,h.sa,h.sb,?_,?_,?_,?_⟩
 ·have p:=h.perm
  rw [e,List.append_assoc,List.append_assoc] at p
  rw [List.reverse_append,List.reverse_reverse,List.append_assoc]
  refine List.Perm.trans (List.Perm.append_left _ ?_) p
  rw [←List.append_assoc, ←List.append_assoc]
  exact List.perm_append_comm.append_right _
 ·rw [List.reverse_append,List.reverse_reverse]
  exact List.pairwise_append.mpr ⟨s2,h.so,fun x hx y hy=>h.la x (List.mem_of_mem_drop hx) y (List.mem_reverse.mp hy)⟩
 ·intro x hx y hy
  rcases List.mem_append.mp hy with hy|hy
  ·exact h.la x (by rw [e];exact List.mem_append_left _ hx) y hy
  ·exact s3 x hx y (List.mem_reverse.mp hy)
 ·intro x hx y hy
  rcases List.mem_append.mp hy with hy|hy
  ·exact h.lb x hx y hy
  ·obtain ⟨j,j1,j2,j3,e1⟩:=mem_segR (key:=key) (List.mem_reverse.mp hy)
   obtain ⟨i,i1,i2,e2⟩:=mem_take (key:=key) hx
   have:=q j j1 j2
   have:=h.sb i (nb-1) (by omega) (by omega) (by omega)
   omega
theorem Mh.tB {a b:Array Keyed} {out:List Keyed} {na nb t:Nat} (h:Mh key a b out na nb) (ht:t≤nb) (hn:1≤na) (q:∀j,t≤j→j<nb→ky key a (na-1)≤ky key b j):Mh key a b (out++((b.toList.take nb).drop t).reverse) na t:=
 (h.swap.tA ht hn q).swap
theorem segR1 {xs:Array Keyed} {n:Nat} {p:Keyed} (hn:1≤n) (h:xs[n-1]? = some p):((xs.toList.take n).drop (n-1)).reverse=[p]:=by
 rw [List.drop_take,show n-(n-1)=1 by omega,seg1 h];rfl
theorem Mh.pushA {a b out:Array Keyed} {na nb:Nat} {p:Keyed} (h:Mh key a b out.toList na nb) (hn:1≤na) (e:a[na-1]? = some p) (hb:1≤nb) (q:ky key b (nb-1)≤ky key a (na-1)):Mh key a b (out.push p).toList (na-1) nb:=by
 rw [Array.toList_push, ←segR1 hn e]
 exact h.tA (by omega) hb fun j j1 j2=>by rw [show j=na-1 by omega];exact q
theorem Mh.pushB {a b out:Array Keyed} {na nb:Nat} {p:Keyed} (h:Mh key a b out.toList na nb) (hn:1≤nb) (e:b[nb-1]? = some p) (hb:1≤na) (q:ky key a (na-1)≤ky key b (nb-1)):Mh key a b (out.push p).toList na (nb-1):=by
 rw [Array.toList_push, ←segR1 hn e]
 exact h.tB (by omega) hb fun j j1 j2=>by rw [show j=nb-1 by omega];exact q
theorem extR {xs:Array Keyed} {t n:Nat} : (xs.extract t n).toList=(xs.toList.take n).drop t:=by
 rw [Array.toList_extract,List.extract_eq_take_drop,List.drop_take]
theorem Mh.exA {a b out:Array Keyed} {na nb t:Nat} (h:Mh key a b out.toList na nb) (ht:t≤na) (hn:1≤nb) (q:∀j,t≤j→j<na→ky key b (nb-1)≤ky key a j):Mh key a b (out++(a.extract t na).reverse).toList t nb:=by
 rw [Array.toList_append,Array.toList_reverse,extR]
 exact h.tA ht hn q
theorem Mh.exB {a b out:Array Keyed} {na nb t:Nat} (h:Mh key a b out.toList na nb) (ht:t≤nb) (hn:1≤na) (q:∀j,t≤j→j<nb→ky key a (na-1)≤ky key b j):Mh key a b (out++(b.extract t nb).reverse).toList na t:=by
 rw [Array.toList_append,Array.toList_reverse,extR]
 exact h.tB ht hn q
theorem ext0 {xs:Array Keyed} {n:Nat} : (xs.extract 0 n).toList=xs.toList.take n:=by rw [extR,List.drop_zero]
theorem Mh.done {a b out:Array Keyed} {na nb:Nat} (h:Mh key a b out.toList na nb) (q:na=0∨nb=0):Good key a b (a.extract 0 na++b.extract 0 nb++out.reverse):=by
 unfold Good
 rw [Array.toList_append,Array.toList_append,ext0,ext0,Array.toList_reverse]
 refine ⟨h.perm,List.pairwise_append.mpr ⟨List.pairwise_append.mpr ⟨(sl_of h.sa).sublist (List.take_sublist _ _),(sl_of h.sb).sublist (List.take_sublist _ _),fun x hx y hy => ?_⟩,h.so,fun x hx y hy => ?_⟩⟩
 ·obtain ⟨j,j1,j2,_⟩:=mem_take (key:=key) hx
  obtain ⟨i,i1,i2,_⟩:=mem_take (key:=key) hy
  omega
 ·rcases List.mem_append.mp hx with hx|hx
  ·exact h.la x hx y (List.mem_reverse.mp hy)
  ·exact h.lb x hx y (List.mem_reverse.mp hy)
theorem Mh.first {a b out:Array Keyed} {na nb:Nat} (h:Mh key a b out.toList na nb) (e:nb=1) (q:ky key b 0≤ky key a 0):Good key a b (b.extract 0 nb++a.extract 0 na++out.reverse):=by
 unfold Good
 rw [Array.toList_append,Array.toList_append,ext0,ext0,Array.toList_reverse]
 refine ⟨(List.perm_append_comm.append_right _).trans h.perm,List.pairwise_append.mpr ⟨List.pairwise_append.mpr ⟨(sl_of h.sb).sublist (List.take_sublist _ _),(sl_of h.sa).sublist (List.take_sublist _ _),fun x hx y hy => ?_⟩,h.so,fun x hx y hy => ?_⟩⟩
 ·obtain ⟨j,j1,j2,e1⟩:=mem_take (key:=key) hx
  obtain ⟨i,i1,i2,e2⟩:=mem_take (key:=key) hy
  have:=h.sa 0 i (by omega) (by omega) i2
  rw [show j=0 by omega] at e1
  omega
 ·rcases List.mem_append.mp hx with hx|hx
  ·exact h.lb x hx y (List.mem_reverse.mp hy)
  ·exact h.la x hx y (List.mem_reverse.mp hy)
noncomputable abbrev HiI0 (key:Keyed→Int) (a b:Array Keyed) (st:SortSt) (x:Nat) (c:Option (Array Keyed)×Nat×Nat×Array Keyed×Nat) (st':SortSt):Prop:=Kp st st'∧∃na nb out g,c=(none,na,nb,out,g)∧Mh key a b out.toList na nb∧na+nb+x+1≤a.size+b.size∧1≤na∧2≤nb
noncomputable abbrev HiQ0 (key:Keyed→Int) (a b:Array Keyed) (st:SortSt) (c:Option (Array Keyed)×Nat×Nat×Array Keyed×Nat) (st':SortSt):Prop:=Kp st st'∧∃r,c.1=some r∧Good key a b r
noncomputable abbrev HiI1 (key:Keyed→Int) (a b:Array Keyed) (st1:SortSt) (x:Nat) (y:Nat) (c:Option (Array Keyed)×Nat×Nat×Array Keyed×Nat×Nat) (st':SortSt):Prop:=st'=st1∧∃na nb out p q,c=(none,na,nb,out,p,q)∧Mh key a b out.toList na nb∧na+nb+x+1+y≤a.size+b.size∧1≤na∧2≤nb
noncomputable abbrev HiQ1 (key:Keyed→Int) (a b:Array Keyed) (st1:SortSt) (x:Nat) (c:Option (Array Keyed)×Nat×Nat×Array Keyed×Nat×Nat) (st':SortSt):Prop:=st'=st1∧((∃r,c.1=some r∧Good key a b r)∨(c.1=none∧Mh key a b c.2.2.2.1.toList c.2.1 c.2.2.1∧c.2.1+c.2.2.1+x+2≤a.size+b.size∧1≤c.2.1∧2≤c.2.2.1))
noncomputable abbrev HiI2 (key:Keyed→Int) (a b:Array Keyed) (st:SortSt) (x:Nat) (y:Nat) (c:Option (Array Keyed)×Nat×Nat×Array Keyed×Nat×Nat×Nat) (st':SortSt):Prop:=Kp st st'∧∃na nb out g p q,c=(none,na,nb,out,g,p,q)∧Mh key a b out.toList na nb∧na+nb+x+2≤a.size+b.size∧1≤na∧2≤nb
noncomputable abbrev HiQ2 (key:Keyed→Int) (a b:Array Keyed) (st:SortSt) (x:Nat) (c:Option (Array Keyed)×Nat×Nat×Array Keyed×Nat×Nat×Nat) (st':SortSt):Prop:=Kp st st'∧((∃r,c.1=some r∧Good key a b r)∨(c.1=none∧Mh key a b c.2.2.2.1.toList c.2.1 c.2.2.1∧c.2.1+c.2.2.1+x+2≤a.size+b.size∧1≤c.2.1∧2≤c.2.2.1))
theorem tm_hi {a b:Array Keyed} {st:SortSt} {Q:Array Keyed→SortSt→Prop} (hL:Lts prog w A E s a₀ key kd) (hk:kindOf st=kd) (ham:∀p∈a.toList,p∈a₀.toList) (hbm:∀p∈b.toList,p∈a₀.toList)
  (hsa:Sg key a 0 a.size) (hsb:Sg key b 0 b.size) (ha1:1≤a.size) (hb1:1≤b.size) (h0:ky key b 0≤ky key a 0) (hl:∀j,j<b.size→ky key b j≤ky key a (a.size-1))
  (h:∀res st',Kp st st'→Good key a b res→Q res st'):wpS (model prog w) A E s (mergeHi' a b) Q st:=by
 refine wpS_bind (m:=liftM (rule "list.sort.merge-hi")) (wpS_lift (wpAny_rule ⟨rfl,?_⟩))
 refine elemB (by omega) fun p e => ?_
 have mz:Mh key a b (#[]:Array Keyed).toList a.size b.size:=⟨Nat.le_refl _,Nat.le_refl _,hsa,hsb,by rw [←Array.length_toList, ←Array.length_toList,List.take_length,List.take_length];simp, .nil,(fun _ _ _ h=>by cases h),(fun _ _ _ h=>by cases h)⟩
 have m0:Mh key a b (#[p]:Array Keyed).toList (a.size-1) b.size:=mz.pushA ha1 e hb1 (hl _ (by omega))
 refine ifE (fun z1=>wpS_pure (h _ _ (Kp.refl _) (m0.done (.inl z1)))) fun z1 => ?_
 refine ifE (fun z2=>wpS_pure (h _ _ (Kp.refl _) (m0.first z2 h0))) fun z2 => ?_
 refine wpS_bind (wpS_get ?_)
 refine wpS_bind (wpS_mono (wpS_forRange
  (I:=HiI0 key a b st)
  (Q:=HiQ0 key a b st) ?step ?fin ⟨Kp.refl _,_,_,_,_,rfl,m0,by omega,by omega,by omega⟩) ?post)
 case post=>
  rintro ⟨c1,c⟩ st' ⟨kp,r,e1,g⟩
  cases e1
  exact wpS_pure (h _ _ kp g)
 case fin=>
  intro c st'
  refine Elim.go ?_
  rintro kp na nb out g rfl mm h1 h2 h3
  rw [Nat.zero_max] at h1
  omega
 case step=>
  intro x c st1 _ hx
  refine Elim.go ?_
  rintro kp1 na nb out g rfl mm h1 h2 h3
  have ua:=mm.ha
  have ub:=mm.hb
  dsimp -zeta only
  refine wpS_bind (wpS_mono (wpS_forRange
   (I:=HiI1 key a b st1 x)
   (Q:=HiQ1 key a b st1 x) ?step1 ?fin1 ⟨rfl,na,nb,out,_,_,rfl,mm,by omega,h2,h3⟩) ?post1)
  case fin1=>
   intro c st'
   refine Elim.go ?_
   rintro rfl na nb out p q rfl mm h1 h2 h3
   exact ⟨rfl, .inr ⟨rfl,mm,by rw [Nat.zero_max] at h1;dsimp only;omega,h2,h3⟩⟩
  case step1=>
   intro y c st' _ hy
   refine Elim.go ?_
   rintro rfl na nb out p q rfl mm h1 h2 h3
   have ua:=mm.ha
   have ub:=mm.hb
   dsimp only
   have la:na-1<a.size:=Nat.sub_one_lt_of_le h2 mm.ha
   have nb1:1≤nb:=Nat.le_of_succ_le h3
   have lb:nb-1<b.size:=Nat.sub_one_lt_of_le nb1 mm.hb
   refine elemB (by first|assumption|omega) fun p1 e1=>elemB (by first|assumption|omega) fun p2 e2 => ?_
   refine ltB hL (hbm _ (mem_of e1)) (ham _ (mem_of e2)) (kp1.kind.trans hk) ?_
   rw [←ky_of (key:=key) e1, ←ky_of (key:=key) e2]
   by_cases hlt:ky key b (nb-1)<ky key a (na-1)
   ·rw [decide_eq_true hlt]
    dsimp only
    refine ifP rfl ?_
    refine elemB (by first|assumption|omega) fun p3 e3 => ?_
    have m1:=mm.pushA h2 e3 nb1 (by first|exact Int.le_of_lt hlt|omega)
    refine ifE (fun z3=>wpS_pure ⟨rfl, .inl ⟨_,rfl,m1.done (.inl z3)⟩⟩) fun z3 => ?_
    refine ifS (fun z4=>wpS_pure ⟨rfl, .inr ⟨rfl,m1,by dsimp only;omega,by dsimp only;omega,h3⟩⟩) fun z4 => ?_
    exact wpS_pure ⟨rfl,_,_,_,_,_,rfl,m1,by omega,by omega,h3⟩
   ·rw [decide_eq_false hlt]
    dsimp only
    refine ifN Bool.false_ne_true ?_
    refine elemB (by first|assumption|omega) fun p3 e3 => ?_
    have m1:=mm.pushB nb1 e3 h2 (Int.not_lt.mp hlt)
    refine ifE (fun z3=>wpS_pure ⟨rfl, .inl ⟨_,rfl,m1.first z3 h0⟩⟩) fun z3 => ?_
    refine ifS (fun z4=>wpS_pure ⟨rfl, .inr ⟨rfl,m1,by dsimp only;omega,h2,by dsimp only;omega⟩⟩) fun z4 => ?_
    exact wpS_pure ⟨rfl,_,_,_,_,_,rfl,m1,by omega,h2,by omega⟩
  refine tup6 fun c1 na nb out p q => ?_
  intro st2 hc
  have es:st2=st1:=hc.1
  subst es
  refine Or.elim hc.2 (fun gg => ?_) fun gg => ?_
  ·refine Elim.el gg _ ?_
   intro r e1 gd
   have e1:c1=some r:=e1
   subst e1
   exact wpS_pure ⟨kp1,r,rfl,gd⟩
  have e1:c1=none:=gg.1
  have mm:Mh key a b out.toList na nb:=gg.2.1
  have h1:na+nb+x+2≤a.size+b.size:=gg.2.2.1
  have h2:1≤na:=gg.2.2.2.1
  have h3:2≤nb:=gg.2.2.2.2
  clear gg hc
  subst e1
  dsimp -zeta only
  refine wpS_bind (wpS_lift (wpAny_rule ⟨rfl,?_⟩))
  refine wpS_bind (wpS_mono (wpS_forRange
   (I:=HiI2 key a b st x)
   (Q:=HiQ2 key a b st x) ?step2 ?fin2 ⟨kp1,na,nb,out,_,_,_,rfl,mm,by omega,h2,h3⟩) ?post2)
  case fin2=>
   intro c st'
   refine Elim.go ?_
   rintro kp na nb out g p q rfl mm h1 h2 h3
   exact ⟨kp, .inr ⟨rfl,mm,h1,h2,h3⟩⟩
  case post2=>
   refine tup7 fun c1 na nb out g p q => ?_
   intro st3 hc
   have kp:Kp st st3:=hc.1
   refine Or.elim hc.2 (fun gg => ?_) fun gg => ?_
   ·refine Elim.el gg _ ?_
    intro r e1 gd
    have e1:c1=some r:=e1
    subst e1
    exact wpS_pure ⟨kp,r,rfl,gd⟩
   have e1:c1=none:=gg.1
   have mm:Mh key a b out.toList na nb:=gg.2.1
   have h1:na+nb+x+2≤a.size+b.size:=gg.2.2.1
   have h2:1≤na:=gg.2.2.2.1
   have h3:2≤nb:=gg.2.2.2.2
   clear gg hc
   subst e1
   dsimp only
   exact setGo kp fun st4 kk=>wpS_pure ⟨kk,_,_,_,_,rfl,mm,by omega,h2,h3⟩
  case step2=>
   intro y c st3 _ hy
   refine Elim.go ?_
   rintro kp na nb out g p q rfl mm h1 h2 h3
   have ua:=mm.ha
   have ub:=mm.hb
   dsimp -zeta only
   extract_lets s1 o1 s2 i1 s3 i2 s4 mg s5 ac bc ib1 jp mg1
   refine jpGo (fun z:Nat=>jp () z) (fun _=>True) (fun g' _ => ?_) fun H => ?_
   rotate_left
   ·exact ifS (fun _=>H _ trivial) fun _=>H _ trivial
   refine setGo kp fun st4 kk => ?_
   dsimp -zeta only [s1,o1,s2,i1,s3,i2,s4,mg,s5,ac,bc,ib1]
   have hkd:kindOf st4=kd:=kk.kind.trans hk
   have nb1:1≤nb:=Nat.le_of_succ_le h3
   have lb:nb-1<b.size:=Nat.sub_one_lt_of_le nb1 ub
   refine elemB lb fun p1 e1 => ?_
   refine gallopB hL hkd ham (hbm _ (mem_of e1)) (sg_to ua hsa) (by rw [Nat.zero_add];exact ua) (Nat.sub_one_lt (Nat.ne_of_gt h2)) fun k1 g1 => ?_
   obtain ⟨g11,g12,g13⟩:=g1
   rw [←ky_of (key:=key) e1] at g12 g13
   simp only [Nat.zero_add] at g12 g13
   dsimp -zeta only
   extract_lets kx ac2 jp2 o2 na2
   refine jpGo (fun z:Nat×Array Keyed=>jp2 () z.1 z.2) (fun z=>Mh key a b z.2.toList z.1 nb∧1≤z.1∧z.1≤na∧ky key a (z.1-1)≤ky key b (nb-1)) (fun z hz => ?_) fun H => ?_
   rotate_left
   ·refine ifS (fun ka => ?_) fun ka => ?_
    ·have ka':na-k1>0:=ka
     have m1:=mm.exA (t:=k1) g11 nb1 (fun j j1 j2=>Int.le_of_lt (gal_lt (g13 j j1 j2)))
     refine ifE (fun z1=>wpS_pure ⟨kk, .inl ⟨_,rfl,m1.done (.inl z1)⟩⟩) fun z1 => ?_
     have z2:¬k1=0:=z1
     exact H (na2,o2) ⟨m1,Nat.pos_of_ne_zero z2,g11,gal_le (g12 (k1-1) (Nat.sub_one_lt z2))⟩
    ·have ka':¬na-k1>0:=ka
     exact H (na,out) ⟨mm,h2,Nat.le_refl _,gal_le (g12 (na-1) (Nat.sub_one_lt_of_le h2 (Nat.le_of_sub_eq_zero (Nat.eq_zero_of_not_pos ka'))))⟩
   obtain ⟨na3,out2⟩:=z
   have m1:Mh key a b out2.toList na3 nb:=hz.1
   have n1:1≤na3:=hz.2.1
   have n2:na3≤na:=hz.2.2.1
   have n3:ky key a (na3-1)≤ky key b (nb-1):=hz.2.2.2
   clear hz
   refine elemB lb fun p2 e2 => ?_
   have m2:=m1.pushB nb1 e2 n1 n3
   dsimp -zeta only [ac2,kx]
   extract_lets o3
   refine ifE (fun z3=>wpS_pure ⟨kk, .inl ⟨_,rfl,m2.first z3 h0⟩⟩) fun z3 => ?_
   have la3:na3-1<a.size:=Nat.sub_one_lt_of_le n1 (Nat.le_trans n2 ua)
   have nb2:2≤nb-1:=by omega
   have nb0:0<nb-1:=Nat.lt_of_lt_of_le Nat.one_pos (Nat.le_of_succ_le nb2)
   refine elemB la3 fun p3 e3 => ?_
   refine gallopB hL hkd hbm (ham _ (mem_of e3)) (sg_to (Nat.le_of_lt lb) hsb) (by rw [Nat.zero_add];exact Nat.le_of_lt lb) (Nat.sub_one_lt (Nat.ne_of_gt nb0)) fun k2 g2 => ?_
   obtain ⟨g21,g22,g23⟩:=g2
   rw [←ky_of (key:=key) e3] at g22 g23
   simp only [Nat.zero_add] at g22 g23
   dsimp -zeta only
   extract_lets ky2 bc2 jp3 o4 nb4
   refine jpGo (fun z:Nat×Array Keyed=>jp3 () z.1 z.2) (fun z=>Mh key a b z.2.toList na3 z.1∧2≤z.1∧z.1≤nb∧ky key b (z.1-1)≤ky key a (na3-1)) (fun z hz => ?_) fun H => ?_
   rotate_left
   ·refine ifS (fun kz => ?_) fun kz => ?_
    ·have kz':nb-1-k2>0:=kz
     have m3:=m2.exB (t:=k2) g21 n1 (fun j j1 j2=>gal_lt' (g23 j j1 j2))
     refine ifE (fun z4=>wpS_pure ⟨kk, .inl ⟨_,rfl,m3.first z4 h0⟩⟩) fun z4 => ?_
     refine ifE (fun z7=>wpS_pure ⟨kk, .inl ⟨_,rfl,m3.done (.inr z7)⟩⟩) fun z7 => ?_
     have y4:¬k2=1:=z4
     have y7:¬k2=0:=z7
     exact H (nb4,o4) ⟨m3,by show 2≤k2;omega,Nat.le_trans g21 (Nat.sub_le _ _),Int.le_of_lt (gal_le' (g22 (k2-1) (Nat.sub_one_lt y7)))⟩
    ·have kz':¬nb-1-k2>0:=kz
     exact H (nb-1,o3) ⟨m2,nb2,Nat.sub_le _ _,Int.le_of_lt (gal_le' (g22 (nb-1-1) (Nat.sub_one_lt_of_le nb0 (Nat.le_of_sub_eq_zero (Nat.eq_zero_of_not_pos kz')))))⟩
   obtain ⟨nb3,out3⟩:=z
   have m3:Mh key a b out3.toList na3 nb3:=hz.1
   have n4:2≤nb3:=hz.2.1
   have n5:nb3≤nb:=hz.2.2.1
   have n6:ky key b (nb3-1)≤ky key a (na3-1):=hz.2.2.2
   clear hz
   dsimp only [jp3]
   refine elemB la3 fun p4 e4 => ?_
   have m4:=m3.pushA n1 e4 (Nat.le_of_succ_le n4) n6
   dsimp only [bc2,ky2]
   refine ifE (fun z5=>wpS_pure ⟨kk, .inl ⟨_,rfl,m4.done (.inl z5)⟩⟩) fun z5 => ?_
   refine ifS (fun _=>wpS_pure ⟨kk, .inr ⟨rfl,m4,by dsimp only;omega,Nat.pos_of_ne_zero z5,n4⟩⟩) fun _ => ?_
   exact wpS_pure ⟨kk,_,_,_,_,_,_,rfl,m4,by omega,Nat.pos_of_ne_zero z5,n4⟩
end
end L2
namespace L2
open PySem PySem.Spec PyProof.Rows
section
variable {prog:Program} {w:World} {A:Around} {E:Value→Shared→Prop} {s:Shared} {a₀:Array Keyed} {key:Keyed→Int} {kd:SortKind}
theorem wpS_set {M:Model} {σ:Type} {st st' : σ} {Q:PUnit → σ→Prop} (h:Q ⟨⟩ st'):wpS M A E s (set st':StateT σ Sem PUnit) Q st:=by
 unfold wpS
 rw [StateT.run_set];exact wpAny_pure ⟨rfl,h⟩
theorem wr_get {sa:Nat} : ∀(l:List Keyed) (n:Nat) (xs:Array Keyed),sa+n+l.length≤xs.size→∀k:Nat,
  ((l.zipIdx n).foldl (fun a (p:Keyed×Nat)=>a.setIfInBounds (sa+p.2) p.1) xs)[k]? = if sa+n≤k∧k<sa+n+l.length then l[k-(sa+n)]? else xs[k]?
 | [],n,xs,h,k=>by rw [List.zipIdx_nil,List.foldl_nil,if_neg (by simp only [List.length_nil];omega)]
 | p :: l,n,xs,h,k=>by
  rw [List.length_cons] at h
  rw [List.zipIdx_cons,List.foldl_cons,wr_get l (n+1) _ (by rw [Array.size_setIfInBounds];omega),List.length_cons]
  by_cases e1:sa+(n+1)≤k∧k<sa+(n+1)+l.length
  ·rw [if_pos e1,if_pos (by omega),show k-(sa+n)=(k-(sa+(n+1)))+1 by omega,List.getElem?_cons_succ]
  ·rw [if_neg e1,Array.getElem?_setIfInBounds]
   by_cases e2:sa+n=k
   ·subst e2
    rw [if_pos rfl,if_pos (by omega),if_pos (by omega),Nat.sub_self];rfl
   ·rw [if_neg e2,if_neg (by omega)]
noncomputable def wr (sa:Nat) (l:List Keyed) (xs:Array Keyed):Array Keyed:=l.zipIdx.foldl (fun a (p:Keyed×Nat)=>a.setIfInBounds (sa+p.2) p.1) xs
theorem wr_at {sa:Nat} {l:List Keyed} {xs:Array Keyed} (h:sa+l.length≤xs.size) (k:Nat):(wr sa l xs)[k]? = if sa≤k∧k<sa+l.length then l[k-sa]? else xs[k]?:=wr_get l 0 xs h k
theorem wr_list {sa:Nat} {l:List Keyed} {xs:Array Keyed} (h:sa+l.length≤xs.size):(wr sa l xs).toList=xs.toList.take sa++(l++xs.toList.drop (sa+l.length)):=by
 refine List.ext_getElem? fun k => ?_
 have hl:(xs.toList.take sa).length=sa:=by rw [List.length_take,Array.length_toList];omega
 rw [Array.getElem?_toList,wr_at h]
 by_cases e1:k<sa
 ·rw [if_neg (by omega),List.getElem?_append_left (by omega),List.getElem?_take_of_lt e1,Array.getElem?_toList]
 ·rw [List.getElem?_append_right (by omega),hl]
  by_cases e2:k<sa+l.length
  ·rw [if_pos (by omega),List.getElem?_append_left (by omega)]
  ·rw [if_neg (by omega),List.getElem?_append_right (by omega),List.getElem?_drop, ←Array.getElem?_toList]
   congr 1;omega
theorem wr_perm {sa:Nat} {l:List Keyed} {xs:Array Keyed} (h:sa+l.length≤xs.size) (hp:l.Perm ((xs.toList.drop sa).take l.length)):(wr sa l xs).Perm xs:=by
 refine Array.perm_iff_toList_perm.mpr ?_
 rw [wr_list h]
 have e:xs.toList=xs.toList.take sa++((xs.toList.drop sa).take l.length++xs.toList.drop (sa+l.length)):=by
  rw [←List.drop_drop,List.take_append_drop,List.take_append_drop]
 exact ((hp.append_right _).append_left _).trans (List.Perm.of_eq e.symm)
theorem ky_ext {xs:Array Keyed} {i j k:Nat} (hj:j≤xs.size) (hk:i+k<j):ky key (xs.extract i j) k=ky key xs (i+k):=by
 refine ky_congr ?_
 rw [Array.getElem?_extract,if_pos (by omega)]
theorem sg_ext {xs:Array Keyed} {i j:Nat} (hj:j≤xs.size) (hij:i≤j) (h:Sg key xs i j):Sg key (xs.extract i j) 0 (xs.extract i j).size:=by
 rw [Array.size_extract,Nat.min_eq_left hj]
 intro p q _ h2 h3
 rw [ky_ext hj (by omega),ky_ext hj (by omega)]
 exact h _ _ (by omega) (by omega) (by omega)
theorem mem_ext {xs:Array Keyed} {i j:Nat} {p:Keyed} (h:p∈(xs.extract i j).toList):p∈xs.toList:=by
 rw [extR] at h
 exact List.mem_of_mem_take (List.mem_of_mem_drop h)
structure Tb (a₀:Array Keyed) (kd:SortKind) (st:SortSt):Prop where
 perm:(arrOf st).Perm a₀
 kind:kindOf st=kd
 failed:failedOf st=none
theorem wr_sorted {xs:Array Keyed} {res:List Keyed} {sa u sb v e:Nat} (h1:sa≤u) (h2:u≤sb) (h3:sb≤v) (h4:v≤e) (h5:e≤xs.size) (h6:sa<sb) (len:u+res.length=v) (gp:res.Perm ((xs.toList.drop u).take res.length)) (gs:res.Pairwise fun a b=>key a≤key b)
  (s1:Sg key xs sa sb) (s2:Sg key xs sb e) (hA:∀p,sa≤p→p<u→ky key xs p≤ky key xs sb) (hB:∀q,v≤q→q<e→ky key xs (sb-1)≤ky key xs q):Sg key (wr u res xs) sa e:=by
 have at':=wr_at (sa:=u) (l:=res) (xs:=xs) (by omega)
 have hout:∀p,(p<u∨v≤p)→ky key (wr u res xs) p=ky key xs p:=fun p hp'=>by
  refine ky_congr ?_
  rw [at' p,if_neg (by omega)]
 have hin:∀p,u≤p→p<v→∃x,res[p-u]? = some x∧ky key (wr u res xs) p=key x:=fun p a1 a2=>by
  obtain ⟨x,hx⟩:∃x,res[p-u]? = some x:=⟨_,List.getElem?_eq_getElem (by omega)⟩
  exact ⟨x,hx,ky_of ((at' p).trans ((if_pos (by omega)).trans hx))⟩
 have hm:∀p,u≤p→p<v→∃j,u≤j∧j<v∧ky key (wr u res xs) p=ky key xs j:=fun p a1 a2=>by
  refine Elim.el (hin p a1 a2) _ ?_
  rintro x hx ex
  have hmem2:=gp.mem_iff.mp (List.mem_iff_getElem?.mpr ⟨_,hx⟩)
  obtain ⟨j,j1,j2,j3,e4⟩:=mem_seg (key:=key) hmem2
  exact ⟨j,j1,by omega,by omega⟩
 have sl:sb-1<sb:=by omega
 intro p q g1 g2 g3
 by_cases a1:q<u
 ·have a0:=Nat.lt_of_le_of_lt g2 a1
  rw [hout p (.inl a0),hout q (.inl a1)];exact s1 p q g1 g2 (Nat.lt_of_lt_of_le a1 h2)
 have a1:=Nat.le_of_not_lt a1
 by_cases a2:q<v
 ·by_cases a3:p<u
  ·refine Elim.el (hm q a1 a2) _ ?_
   rintro j j1 j2 ej
   rw [hout p (.inl a3),ej]
   by_cases a4:j<sb
   ·exact s1 p j g1 (Nat.le_trans (Nat.le_of_lt a3) j1) a4
   ·exact Int.le_trans (hA p g1 a3) (s2 sb j (Nat.le_refl _) (Nat.le_of_not_lt a4) (Nat.lt_of_lt_of_le j2 h4))
  ·have a3:=Nat.le_of_not_lt a3
   refine Elim.el (hin p a3 (Nat.lt_of_le_of_lt g2 a2)) _ ?_
   rintro x hx ex
   refine Elim.el (hin q a1 a2) _ ?_
   rintro y hy ey
   rw [ex,ey]
   by_cases a5:p=q
   ·subst a5
    rw [hx] at hy;cases hy;exact Int.le_refl _
   ·obtain ⟨l1,e5⟩:=List.getElem?_eq_some_iff.mp hx
    obtain ⟨l2,e6⟩:=List.getElem?_eq_some_iff.mp hy
    have:=List.pairwise_iff_getElem.mp gs _ _ l1 l2 (Nat.sub_lt_sub_right a3 (Nat.lt_of_le_of_ne g2 a5))
    rw [e5,e6] at this;exact this
 ·have a2:=Nat.le_of_not_lt a2
  rw [hout q (.inr a2)]
  have hq:=hB q a2 g3
  by_cases a3:p<u
  ·rw [hout p (.inl a3)]
   exact Int.le_trans (s1 p (sb-1) g1 (by omega) sl) hq
  ·by_cases a4:p<v
   ·refine Elim.el (hm p (Nat.le_of_not_lt a3) a4) _ ?_
    rintro j j1 j2 ej
    rw [ej]
    by_cases a5:j<sb
    ·exact Int.le_trans (s1 j (sb-1) (Nat.le_trans h1 j1) (by omega) sl) hq
    ·exact s2 j q (Nat.le_of_not_lt a5) (Nat.le_trans (Nat.le_of_lt j2) a2) g3
   ·have a4:=Nat.le_of_not_lt a4
    rw [hout p (.inr a4)]
    exact s2 p q (Nat.le_trans h3 a4) g2 g3
theorem tm_mergeAt {st:SortSt} {i sa na sb nb p1 p2:Nat} {L R:List (Nat×Nat×Nat)} {Q:Bool→SortSt→Prop} (hL:Lts prog w A E s a₀ key kd) (hT:Tb a₀ kd st)
  (hp:(pendingOf st).toList=L++(sa,na,p1) :: (sb,nb,p2) :: R) (hi:L.length=i) (e1:sb=sa+na) (n1:1≤na) (n2:1≤nb) (hz:sb+nb≤a₀.size)
  (s1:Sg key (arrOf st) sa sb) (s2:Sg key (arrOf st) sb (sb+nb))
  (h:∀st',Tb a₀ kd st'→(pendingOf st').toList=L++(sa,na+nb,p1) :: R→(∀k,k<sa∨sb+nb≤k→(arrOf st')[k]? = (arrOf st)[k]?)→Sg key (arrOf st') sa (sb+nb)→Q true st') :
  wpS (model prog w) A E s (mergeAt' i) Q st:=by
 have hsz:=hT.perm.size_eq
 have g1:(pendingOf st)[i]? = some (sa,na,p1):=by
  rw [←Array.getElem?_toList,hp,List.getElem?_append_right (by omega),hi,Nat.sub_self];rfl
 have g2:(pendingOf st)[i+1]? = some (sb,nb,p2):=by
  rw [←Array.getElem?_toList,hp,List.getElem?_append_right (by omega),hi,show i+1-i=1 by omega];rfl
 have hP:(((pendingOf st).setIfInBounds i (sa,na+nb,p1)).eraseIdxIfInBounds (i+1)).toList=L++(sa,na+nb,p1) :: R:=by
  have hlt:i+1<((pendingOf st).setIfInBounds i (sa,na+nb,p1)).size:=by
   rw [Array.size_setIfInBounds, ←Array.length_toList,hp,List.length_append,List.length_cons,List.length_cons];omega
  rw [Array.eraseIdxIfInBounds,dif_pos hlt,Array.toList_eraseIdx,Array.toList_setIfInBounds,hp]
  rw [List.set_append_right _ _ (by omega),hi,Nat.sub_self,List.set_cons_zero,List.eraseIdx_append_of_length_le (by omega),hi,show i+1-i=1 by omega]
  rfl
 refine wpS_bind (m:=get) (wpS_get ?_)
 dsimp only
 rw [g1,g2]
 dsimp only
 refine wpS_bind (wpS_set ?_)
 have am:∀p∈(arrOf st).toList,p∈a₀.toList:=fun p h'=>(Array.perm_iff_toList_perm.mp hT.perm).mem_iff.mp h'
 refine wpS_bind (tm_elem (xs:=arrOf st) (by omega) fun q1 f1 => ?_)
 refine wpS_bind (tm_gallop (arr:=arrOf st) hL (show kindOf (setPending st _)=kd from hT.kind) am (am _ (mem_of f1)) (by rw [←e1];exact s1) (by omega) (by omega) fun k gk => ?_)
 obtain ⟨k1,k2,k3⟩:=gk
 rw [←ky_of (key:=key) f1] at k2 k3
 obtain ⟨d,rfl⟩:∃d,na=k+d:=Nat.exists_eq_add_of_le k1
 have eD:sb=sa+k+d:=by omega
 have hA:∀p,sa≤p→p<sa+k→ky key (arrOf st) p≤ky key (arrOf st) sb:=fun p h1 h2=>by
  have:=gal_le (k2 (p-sa) (by omega));rwa [show sa+(p-sa)=p by omega] at this
 dsimp only
 rw [Nat.add_sub_cancel_left]
 refine ifE (fun z1 => ?_) fun z1 => ?_
 ·refine wpS_pure (h _ ⟨hT.perm,hT.kind,hT.failed⟩ hP (fun _ _=>rfl) fun p q h1 h2 h3 => ?_)
  show ky key (arrOf st) p≤ky key (arrOf st) q
  by_cases c1:q<sb
  ·exact s1 p q h1 h2 c1
  ·by_cases c2:sb≤p
   ·exact s2 p q c2 h2 h3
   ·exact Int.le_trans (hA p h1 (by omega)) (s2 sb q (Nat.le_refl _) (by omega) h3)
 have d1:1≤d:=Nat.pos_of_ne_zero z1
 refine wpS_bind (tm_elem (xs:=arrOf st) (by omega) fun q2 f2 => ?_)
 refine wpS_bind (tm_gallop (arr:=arrOf st) hL (show kindOf (setPending st _)=kd from hT.kind) am (am _ (mem_of f2)) s2 (by omega) (by omega) fun m gm => ?_)
 obtain ⟨m1,m2,m3⟩:=gm
 rw [←ky_of (key:=key) f2, ←eD] at m2 m3
 have hB:∀q,sb+m≤q→q<sb+nb→ky key (arrOf st) (sb-1)≤ky key (arrOf st) q:=fun q h1 h2=>by
  have:=gal_lt' (m3 (q-sb) (by omega) (by omega));rwa [show sb+(q-sb)=q by omega] at this
 dsimp only
 have hC:=gal_lt (k3 k (Nat.le_refl _) (by omega))
 by_cases z2:m=0
 ·have:=hB sb (by omega) (by omega)
  have:=s1 (sa+k) (sb-1) (by omega) (by omega) (by omega)
  omega
 refine ifN (by simpa using z2) ?_
 have x1:((arrOf st).extract (sa+k) sb).size=d:=by rw [Array.size_extract,Nat.min_eq_left (by omega),eD,Nat.add_sub_cancel_left]
 have y1:((arrOf st).extract sb (sb+m)).size=m:=by rw [Array.size_extract,Nat.min_eq_left (by omega),Nat.add_sub_cancel_left]
 have sx:=sg_ext (key:=key) (xs:=arrOf st) (i:=sa+k) (j:=sb) (by omega) (by omega) (fun p q h1 h2 h3=>s1 p q (by omega) h2 h3)
 have sy:=sg_ext (key:=key) (xs:=arrOf st) (i:=sb) (j:=sb+m) (by omega) (by omega) (fun p q h1 h2 h3=>s2 p q h1 h2 (by omega))
 have h0:ky key ((arrOf st).extract sb (sb+m)) 0≤ky key ((arrOf st).extract (sa+k) sb) 0:=by
  rw [ky_ext (by omega) (by omega),ky_ext (by omega) (by omega)]
  exact Int.le_of_lt hC
 have hl:∀j,j<((arrOf st).extract sb (sb+m)).size→ky key ((arrOf st).extract sb (sb+m)) j≤ky key ((arrOf st).extract (sa+k) sb) (((arrOf st).extract (sa+k) sb).size-1):=fun j hj=>by
  rw [y1] at hj
  rw [x1,ky_ext (by omega) (by omega),ky_ext (by omega) (by omega),show sa+k+(d-1)=sb-1 by rw [eD,Nat.add_sub_assoc d1]]
  have:=gal_le' (m2 j hj);omega
 have wb:∀(res:Array Keyed) (st2:SortSt),Kp (setPending st (((pendingOf st).setIfInBounds i (sa,k+d+nb,p1)).eraseIdxIfInBounds (i+1))) st2→Good key ((arrOf st).extract (sa+k) sb) ((arrOf st).extract sb (sb+m)) res→Q true (setArr st2 (wr (sa+k) res.toList (arrOf st2))):=fun res st2 kp gd=>by
  have ea:arrOf st2=arrOf st:=kp.arr
  obtain ⟨gp,gs⟩:=gd
  have len:res.toList.length=d+m:=by rw [gp.length_eq,List.length_append,Array.length_toList,Array.length_toList,x1,y1]
  have hw:sa+k+res.toList.length≤(arrOf st).size:=by omega
  have eM:((arrOf st).extract (sa+k) sb).toList++((arrOf st).extract sb (sb+m)).toList=((arrOf st).toList.drop (sa+k)).take res.toList.length:=by
   rw [extR,extR,List.drop_take,List.drop_take,len,Nat.add_sub_cancel_left,show sb-(sa+k)=d by rw [eD,Nat.add_sub_cancel_left],List.take_add,List.drop_drop, ←eD]
  refine h _ ⟨?_,kp.kind.trans hT.kind,kp.failed.trans hT.failed⟩ ?_ (fun p hp' => ?_) fun p q h1 h2 h3 => ?_
  ·show (wr (sa+k) res.toList (arrOf st2)).Perm a₀
   rw [ea]
   exact (wr_perm hw (gp.trans (List.Perm.of_eq eM))).trans hT.perm
  ·show (pendingOf st2).toList=_
   rw [kp.pend];exact hP
  ·show (wr (sa+k) res.toList (arrOf st2))[p]? = _
   rw [ea,wr_at hw p,if_neg (by omega)]
  ·show ky key (wr (sa+k) res.toList (arrOf st2)) p≤ky key (wr (sa+k) res.toList (arrOf st2)) q
   rw [ea]
   exact wr_sorted (Nat.le_add_right _ _) (Nat.le_trans (Nat.le_add_right _ _) (Nat.le_of_eq eD.symm)) (Nat.le_add_right _ _) (Nat.add_le_add_left m1 _) (Nat.le_trans hz (Nat.le_of_eq hsz.symm)) (by omega) (by omega) (gp.trans (List.Perm.of_eq eM)) gs s1 s2 hA hB p q h1 h2 h3
 have ham:∀p∈((arrOf st).extract (sa+k) sb).toList,p∈a₀.toList:=fun p hp'=>am _ (mem_ext hp')
 have hbm:∀p∈((arrOf st).extract sb (sb+m)).toList,p∈a₀.toList:=fun p hp'=>am _ (mem_ext hp')
 have tl:∀(res:Array Keyed) (st2:SortSt),Kp (setPending st (((pendingOf st).setIfInBounds i (sa,k+d+nb,p1)).eraseIdxIfInBounds (i+1))) st2→Good key ((arrOf st).extract (sa+k) sb) ((arrOf st).extract sb (sb+m)) res →
   wpS (model prog w) A E s (do
    modify fun s=>setArr s (wr (sa+k) res.toList (arrOf s))
    return (failedOf (←get)).isNone) Q st2:=fun res st2 kp gd=>by
  refine wpS_bind (wpS_modify (wpS_bind (wpS_get (wpS_pure ?_))))
  have ef:failedOf (setArr st2 (wr (sa+k) res.toList (arrOf st2)))=none:=kp.failed.trans hT.failed
  rw [ef]
  exact wb res st2 kp gd
 refine ifS (fun _ => ?_) fun _ => ?_
 ·exact wpS_bind (tm_lo (a:=(arrOf st).extract (sa+k) sb) (b:=(arrOf st).extract sb (sb+m)) hL (show kindOf (setPending st _)=kd from hT.kind) ham hbm sx sy (by omega) (by omega) h0 hl fun res st2 kp gd=>tl res st2 kp gd)
 ·exact wpS_bind (tm_hi (a:=(arrOf st).extract (sa+k) sb) (b:=(arrOf st).extract sb (sb+m)) hL (show kindOf (setPending st _)=kd from hT.kind) ham hbm sx sy (by omega) (by omega) h0 hl fun res st2 kp gd=>tl res st2 kp gd)
end
end L2
namespace L2
open PySem PySem.Spec PyProof.Rows
section
variable {prog:Program} {w:World} {A:Around} {E:Value→Shared→Prop} {s:Shared} {a₀:Array Keyed} {key:Keyed→Int} {kd:SortKind}
noncomputable def Chn (key:Keyed→Int) (xs:Array Keyed):Nat→List (Nat×Nat×Nat)→Nat→Prop
 | lo,[],hi=>lo=hi
 | lo,(s,n,_) :: t,hi=>s=lo∧1≤n∧Sg key xs lo (lo+n)∧Chn key xs (lo+n) t hi
theorem Chn.le {xs:Array Keyed} : ∀{L:List (Nat×Nat×Nat)} {lo hi:Nat},Chn key xs lo L hi→lo+L.length≤hi
 | [],lo,hi,h=>by have h:lo=hi:=h;simp -iota only [List.length_nil];omega
 | (s,n,p) :: t,lo,hi,h=>by
  obtain ⟨_,h1,_,h2⟩:=h
  have:=h2.le
  rw [List.length_cons];omega
theorem Chn.app {xs:Array Keyed} : ∀{L R:List (Nat×Nat×Nat)} {lo mid hi:Nat},Chn key xs lo L mid→Chn key xs mid R hi→Chn key xs lo (L++R) hi
 | [],R,lo,mid,hi,h,h'=>by have h:lo=mid:=h;rw [h];exact h'
 | (s,n,p) :: t,R,lo,mid,hi,h,h'=>⟨h.1,h.2.1,h.2.2.1,h.2.2.2.app h'⟩
theorem Chn.cut {xs:Array Keyed} : ∀{L R:List (Nat×Nat×Nat)} {lo hi:Nat},Chn key xs lo (L++R) hi→∃mid,Chn key xs lo L mid∧Chn key xs mid R hi
 | [],R,lo,hi,h=>⟨lo,rfl,h⟩
 | (s,n,p) :: t,R,lo,hi,h=>by
  obtain ⟨mid,h1,h2⟩:=Chn.cut (L:=t) h.2.2.2
  exact ⟨mid,⟨h.1,h.2.1,h.2.2.1,h1⟩,h2⟩
theorem sg_same {xs ys:Array Keyed} {i j:Nat} (e:∀k,i≤k→k<j→ys[k]? = xs[k]?) (h:Sg key xs i j):Sg key ys i j:=fun p q h1 h2 h3=>by
 rw [ky_congr (e p h1 (by omega)),ky_congr (e q (by omega) h3)];exact h p q h1 h2 h3
theorem Chn.same {xs ys:Array Keyed} : ∀{L:List (Nat×Nat×Nat)} {lo hi:Nat},(∀k,lo≤k→k<hi→ys[k]? = xs[k]?)→Chn key xs lo L hi→Chn key ys lo L hi
 | [],lo,hi,e,h=>h
 | (s,n,p) :: t,lo,hi,e,h=>by
  obtain ⟨h0,h1,h2,h3⟩:=h
  have:=h3.le
  exact ⟨h0,h1,sg_same (fun k a b=>e k a (by omega)) h2,Chn.same (fun k a b=>e k (by omega) b) h3⟩
theorem tm_mergeC {st:SortSt} {i hi:Nat} {Q:Bool→SortSt→Prop} (hL:Lts prog w A E s a₀ key kd) (hT:Tb a₀ kd st) (hc:Chn key (arrOf st) 0 (pendingOf st).toList hi) (hz:hi≤a₀.size) (hi2:i+1<(pendingOf st).size)
  (h:∀st',Tb a₀ kd st'→Chn key (arrOf st') 0 (pendingOf st').toList hi→(pendingOf st').size+1=(pendingOf st).size→(∀k,hi≤k→(arrOf st')[k]? = (arrOf st)[k]?)→Q true st'):wpS (model prog w) A E s (mergeAt' i) Q st:=by
 have hl:i+1<(pendingOf st).toList.length:=by rw [Array.length_toList];exact hi2
 obtain ⟨⟨sa,na,p1⟩,e1⟩:∃y,(pendingOf st).toList[i]'(by omega)=y:=⟨_,rfl⟩
 obtain ⟨⟨sb,nb,p2⟩,e2⟩:∃y,(pendingOf st).toList[i+1]'hl=y:=⟨_,rfl⟩
 have ep:(pendingOf st).toList=(pendingOf st).toList.take i++(sa,na,p1) :: (sb,nb,p2) :: (pendingOf st).toList.drop (i+2):=by
  have d1:=List.drop_eq_getElem_cons (i:=i) (l:=(pendingOf st).toList) (by omega)
  have d2:=List.drop_eq_getElem_cons (i:=i+1) (l:=(pendingOf st).toList) hl
  rw [e1] at d1
  rw [e2] at d2
  rw [←d2, ←d1,List.take_append_drop]
 have hc':=hc
 rw [ep] at hc'
 refine Elim.el (hc'.cut) _ ?_
 rintro mid c1 c2
 obtain ⟨rfl,n1,s1,c3⟩:=c2
 obtain ⟨rfl,n2,s2,c4⟩:=c3
 have c4l:=c4.le
 refine tm_mergeAt hL hT ep (by rw [List.length_take];omega) rfl n1 n2 (by omega) s1 s2 fun st' t' p' o' s' => ?_
 refine h st' t' ?_ ?_ (fun k hk=>o' k (.inr (by omega)))
 ·rw [p']
  refine Chn.app (mid:=sa) (c1.same fun k _ hk=>o' k (.inl hk)) ⟨rfl,by omega,?_,?_⟩
  ·rw [←Nat.add_assoc];exact s'
  ·rw [←Nat.add_assoc];exact c4.same fun k hk _=>o' k (.inr hk)
 ·have l1:=congrArg List.length p'
  have l2:=congrArg List.length ep
  rw [Array.length_toList] at l1 l2
  rw [l1,l2]
  simp -iota only [List.length_append,List.length_cons]
  omega
theorem Chn.pow {xs:Array Keyed} {f:Nat×Nat×Nat→Nat×Nat×Nat} (hf:∀y,(f y).1=y.1∧(f y).2.1=y.2.1):∀{L:List (Nat×Nat×Nat)} {i lo hi:Nat},Chn key xs lo L hi→Chn key xs lo (L.modify i f) hi
 | [],i,lo,hi,h=>by rw [List.modify_nil];exact h
 | (s,n,p) :: t,0,lo,hi,h=>by
  rw [List.modify_zero_cons]
  obtain ⟨e1,e2⟩:=hf (s,n,p)
  generalize f (s,n,p)=y at e1 e2
  obtain ⟨y1,y2,y3⟩:=y
  dsimp only at e1 e2
  subst e1 e2
  exact h
 | (s,n,p) :: t,i+1,lo,hi,h=>by
  rw [List.modify_succ_cons]
  exact ⟨h.1,h.2.1,h.2.2.1,Chn.pow hf h.2.2.2⟩
theorem ite_lt2 {c:Prop} [Decidable c] {n:Nat} (h:1<n):(if c then n-2-1 else n-2)+1<n:=by
 by_cases z:c
 ·rw [if_pos z];omega
 ·rw [if_neg z];omega
theorem jpGoS {α γ:Type} {m:StateT SortSt Sem α} {Q : α→SortSt→Prop} {st:SortSt} (V : γ→StateT SortSt Sem α) (G : γ→SortSt→Prop) (hV:∀z st,G z st→wpS (model prog w) A E s (V z) Q st)
  (hm:(∀z st,G z st→wpS (model prog w) A E s (V z) Q st)→wpS (model prog w) A E s m Q st):wpS (model prog w) A E s m Q st:=hm hV
theorem tm_runs {st:SortSt} {Q:Unit→SortSt→Prop} (hL:Lts prog w A E s a₀ key kd) (hT:Tb a₀ kd st) (hp:pendingOf st = #[])
  (h:∀st',Tb a₀ kd st'→Sg key (arrOf st') 0 a₀.size→Q () st'):wpS (model prog w) A E s sortRuns' Q st:=by
 have hsz:=hT.perm.size_eq
 rw [sortRuns'_eq]
 refine wpS_bind (wpS_get ?_)
 dsimp -zeta only
 rw [hsz]
 refine wpS_bind (wpS_mono (wpS_forRange
  (I:=fun x c st'=>∃lo,c=(none,lo)∧Tb a₀ kd st'∧Chn key (arrOf st') 0 (pendingOf st').toList lo∧lo≤a₀.size∧(x≤lo∨lo=a₀.size))
  (Q:=fun c st'=>c=(none,a₀.size)∧Tb a₀ kd st'∧Chn key (arrOf st') 0 (pendingOf st').toList a₀.size) ?step ?fin ⟨0,rfl,hT,by rw [hp];rfl,Nat.zero_le _, .inl (Nat.le_refl _)⟩) ?post)
 case fin=>
  intro c st'
  refine Elim.go ?_
  rintro lo rfl t ch h1 h2
  have:lo=a₀.size:=by omega
  subst this
  exact ⟨rfl,t,ch⟩
 case post=>
  intro c st1
  refine Elim.go ?_
  rintro rfl t1 ch1
  dsimp only
  refine wpS_bind (wpS_mono (wpS_forRange
   (I:=fun x c st'=>c=(none,())∧Tb a₀ kd st'∧Chn key (arrOf st') 0 (pendingOf st').toList a₀.size∧((pendingOf st').size≤1∨(pendingOf st').size+x≤a₀.size))
   (Q:=fun c st'=>c=(none,())∧Tb a₀ kd st'∧Chn key (arrOf st') 0 (pendingOf st').toList a₀.size∧(pendingOf st').size≤1) ?step2 ?fin2 ⟨rfl,t1,ch1, .inr (by have:=ch1.le;rw [Array.length_toList] at this;omega)⟩) ?post2)
  case fin2=>
   intro c st'
   refine Elim.go ?_
   rintro rfl t ch hs
   exact ⟨rfl,t,ch,by omega⟩
  case post2=>
   intro c st'
   refine Elim.go ?_
   rintro rfl t ch hs
   refine wpS_pure (h st' t ?_)
   cases e:(pendingOf st').toList with
   | nil=>
    rw [e] at ch
    have ch:0=a₀.size:=ch
    intro p q _ _ h3;omega
   | cons y r=>
    have hl:(pendingOf st').toList.length≤1:=by rw [Array.length_toList];exact hs
    rw [e] at ch hl
    have hr:r=[]:=by
     cases r with
     | nil=>rfl
     | cons _ _=>simp -iota only [List.length_cons] at hl;omega
    subst hr
    obtain ⟨y1,y2,y3⟩:=y
    obtain ⟨_,_,g1,g2⟩:=ch
    have g2:0+y2=a₀.size:=g2
    rw [g2] at g1;exact g1
  case step2=>
   intro x c st' _ hx
   refine Elim.go ?_
   rintro rfl t ch hs
   refine wpS_bind (wpS_get ?_)
   by_cases z:(pendingOf st').size≤1
   ·rw [if_pos z]
    exact wpS_pure ⟨rfl,t,ch,z⟩
   ·rw [if_neg z]
    refine wpS_bind (tm_mergeC hL t ch (Nat.le_refl _) (ite_lt2 (by omega)) fun st2 t2 ch2 sz2 _ => ?_)
    exact wpS_pure ⟨rfl,t2,ch2,by omega⟩
 case step=>
  intro x c st1 _ hx
  refine Elim.go ?_
  rintro lo rfl t1 ch1 h1 h2
  dsimp -zeta only
  extract_lets l0 jp fc n2
  refine ifS (fun z => ?_) fun z => ?_
  ·have:lo=a₀.size:=Nat.le_antisymm h1 z
   subst this
   exact wpS_pure ⟨rfl,t1,ch1⟩
  have z:¬lo≥a₀.size:=z
  have tl:∀(n:Nat) (st2:SortSt),Tb a₀ kd st2→1≤n→lo+n≤a₀.size→Sg key (arrOf st2) lo (lo+n)→∀p:Array (Nat×Nat×Nat),Chn key (arrOf st2) 0 p.toList lo →
    Tb a₀ kd (setPending st2 (p.push (lo,n,0)))∧Chn key (arrOf st2) 0 (p.push (lo,n,0)).toList (lo+n):=fun n st2 t2 n1 n2 s2 p hp'=>by
   refine ⟨⟨t2.perm,t2.kind,t2.failed⟩,?_⟩
   rw [Array.toList_push]
   exact hp'.app ⟨rfl,n1,s2,rfl⟩
  have af:Af a₀ kd lo st1 st1:=⟨t1.perm,t1.kind,t1.failed,rfl,fun _ _=>rfl⟩
  have back:∀{st2:SortSt},Af a₀ kd lo st1 st2→Tb a₀ kd st2∧Chn key (arrOf st2) 0 (pendingOf st2).toList lo:=fun {st2} f=>⟨⟨f.perm,f.kind,f.failed⟩,by rw [f.pend];exact ch1.same fun k _ hk=>f.low k hk⟩
  refine jpGoS (fun n:Nat=>jp () n) (fun n st2=>Af a₀ kd lo st1 st2∧1≤n∧lo+n≤a₀.size∧Sg key (arrOf st2) lo (lo+n)) (fun m st2 hz => ?_) fun H => ?_
  rotate_left
  ·refine wpS_bind (tm_count hL (by omega) (by omega) af fun m st2 f2 m1 m2 s2 => ?_)
   dsimp only [l0,fc,n2]
   refine ifS (fun zm => ?_) fun zm => ?_
   ·refine wpS_bind (wpS_lift (wpAny_rule ⟨rfl,?_⟩))
    refine wpS_bind (tm_bin hL (by omega) (by omega) f2 s2 fun st3 f3 s3 => ?_)
    simp -iota only [Bool.not_true,Bool.false_eq_true,if_false]
    exact H _ st3 ⟨f3,by omega,by omega,s3⟩
   ·exact H _ st2 ⟨f2,m1,by omega,s2⟩
  obtain ⟨f2,m1,m2,s2⟩:=hz
  have b2:=back f2
  refine wpS_bind (wpS_get ?_)
  dsimp only [l0]
  cases hb:(pendingOf st2).back? with
  | none=>
   dsimp only
   obtain ⟨u1,u2⟩:=tl m st2 b2.1 m1 m2 s2 (pendingOf st2) b2.2
   exact wpS_bind (wpS_modify (wpS_pure ⟨_,rfl,u1,u2,m2, .inl (by omega)⟩))
  | some y=>
   obtain ⟨y1,y2,y3⟩:=y
   dsimp only
   refine wpS_bind (wpS_mono (wpS_forRange
    (I:=fun _ c st'=>c=(none,())∧Tb a₀ kd st'∧Chn key (arrOf st') 0 (pendingOf st').toList lo∧Sg key (arrOf st') lo (lo+m))
    (Q:=fun c st'=>c=(none,())∧Tb a₀ kd st'∧Chn key (arrOf st') 0 (pendingOf st').toList lo∧Sg key (arrOf st') lo (lo+m)) ?step4 (fun _ _ hh=>hh) ⟨rfl,b2.1,b2.2,s2⟩) ?post4)
   case post4=>
    intro c st5
    refine Elim.go ?_
    rintro rfl t5 c5 s5
    dsimp only
    have c6:Chn key (arrOf st5) 0 ((pendingOf st5).modify ((pendingOf st5).size-1) fun z=>(z.1,z.2.1,power' a₀.size (2*y1+y2) (2*y1+y2+y2+m) a₀.size)).toList lo:=by
     rw [Array.toList_modify]
     refine Chn.pow (fun _ => ?_) c5
     exact ⟨rfl,rfl⟩
    obtain ⟨u1,u2⟩:=tl m st5 t5 m1 m2 s5 _ c6
    exact wpS_bind (wpS_modify (wpS_bind (wpS_modify (wpS_pure ⟨_,rfl,u1,u2,m2, .inl (by omega)⟩))))
   case step4=>
    intro x5 c st5 _ _
    refine Elim.go ?_
    rintro rfl t5 c5 s5
    refine wpS_bind (wpS_get ?_)
    by_cases z5:(pendingOf st5).size>1
    ·have hb5:(pendingOf st5).size-2<(pendingOf st5).size:=by omega
     rw [if_pos z5,getElem?_pos (pendingOf st5) ((pendingOf st5).size-2) hb5]
     obtain ⟨⟨v1,v2,v3⟩,ev⟩:∃v,(pendingOf st5)[(pendingOf st5).size-2]'hb5=v:=⟨_,rfl⟩
     rw [ev]
     dsimp only
     refine ifS (fun _=>wpS_pure ⟨rfl,t5,c5,s5⟩) fun _ => ?_
     refine wpS_bind (tm_mergeC hL t5 c5 h1 (by omega) fun st6 t6 c6 _ o6 => ?_)
     exact wpS_pure ⟨rfl,t6,c6,sg_same (fun k hk _=>o6 k hk) s5⟩
    ·rw [if_neg z5]
     exact wpS_pure ⟨rfl,t5,c5,s5⟩
end
end L2
namespace L2
open PySem PySem.Spec PyProof.Rows
section
variable {prog:Program} {w:World} {A:Around} {E:Value→Shared→Prop} {s:Shared}
noncomputable def numK (p:Keyed):Int:=numOf p.1
theorem lts_int {a₀:Array Keyed} (h0:IntKeys a₀):Lts prog w A E s a₀ numK oneType':=fun st x y Q hx hy hk q=>by
 obtain ⟨n,t,e1⟩:=h0 x hx
 obtain ⟨m,u,e2⟩:=h0 y hy
 have ex:numK x=n:=by unfold numK;rw [e1];rfl
 have ey:numK y=m:=by unfold numK;rw [e2];rfl
 rw [ex,ey] at q
 rw [lt'_eq]
 refine wpS_bind (wpS_get ?_)
 rw [hk,keyLt'_oneType,e1,e2]
 refine wpS_bind (wpS_lift (wpAny_attempt (oneLt_int ⟨rfl,?_⟩)))
 exact wpS_pure q
noncomputable def Ask (prog:Program) (w:World) (A:Around) (E:Value→Shared→Prop) (s:Shared) (vs:List Value) (key:Keyed→Int) (κ:SortKind):Prop:=
 (∀Q:SortKind→Shared→Prop,Q κ s→wpAny (model prog w) A (keyKind' vs.toArray) Q (fun _ _=>False) s)∧Lts prog w A E s (pairsOf vs) key κ
theorem sortG_tree {a:Addr} {vs:List Value} {n:Nat} {κ:SortKind} {key:Keyed→Int} {P:PySem.Fin→Shared→Prop} (ho:s.heap.get? a=some (seqObj "list" vs.toArray n)) (hl:vs.length≤sizeLine)
  (ask:2≤vs.length→∀s6:Shared,(∀b o,b≠a→s.heap.get? b=some o→s6.heap.get? b=some o)→Ask prog w A E s6 vs key κ)
  (h:∀xs:Array Keyed,xs.Perm (pairsOf vs)→Sg key xs 0 xs.size→P (.done (.ret .none)) { s with heap:=sortedHeap s.heap a vs (xs.map (·.2)) }) :
  wpAny (model prog w) A (Builtin.«list.sort» ⟨[.ref a],[]⟩) P E s:=by
 obtain ⟨e,g1⟩:∃e,(s.heap.update a (Obj.mapSeq fun _ => #[])).get? a=some (seqObj "list" #[] e):=⟨_,get?_update_seq ho _⟩
 have g2:=Heap.get?_push_of_some (seqObj "list" #[] 0) (Heap.get?_push_of_some (seqObj "tuple" vs.toArray 0) g1)
 have ls:vs.toArray.size=vs.length:=by simp
 have room:∀{xs:Array Keyed},xs.Perm (pairsOf vs)→(xs.map (·.2)).size≤sizeLine+1:=fun {xs} hp=>by
  have:=hp.size_eq
  rw [pairsOf_size] at this
  rw [Array.size_map];omega
 rw [list_sort_plain]
 refine wpAny_bind (listItems_at ho rfl (wpAny_bind (listUpdate_at ho rfl (wpAny_bind (seqEpoch_at g1 rfl (wpAny_bind (wpAny_newTuple (wpAny_bind (wpAny_newList (wpAny_holding ?_)))))))  (by rw [ls];exact hl) (Nat.zero_le _))))
 by_cases few:vs.toArray.size<2
 ·rw [if_pos few,if_pos few]
  refine wpAny_bind (wpAny_pure ?_)
  dsimp only
  rw [StateT.run_pure]
  have srt:Sg key (pairsOf vs) 0 (pairsOf vs).size:=fun i j _ hij hj=>by
   rw [pairsOf_size] at hj
   rw [show i=j by omega];exact Int.le_refl _
  refine wpAny_bind (wpAny_pure (wpAny_bind (seqEpoch_at g2 rfl (wpAny_bind (listUpdate_at g2 rfl ?_ (Nat.zero_le _) (room (Array.Perm.refl _)))))))
  simp only [bne_self_eq_false,Bool.false_eq_true,if_false]
  exact wpAny_pure (h _ (Array.Perm.refl _) srt)
 ·rw [if_neg few,if_neg few]
  obtain ⟨kk,hL⟩:=ask (by omega) { s with heap:=((s.heap.update a (Obj.mapSeq fun _ => #[])).push (seqObj "tuple" vs.toArray 0)).push (seqObj "list" #[] 0) } fun b o hb q=>Heap.get?_push_of_some _ (Heap.get?_push_of_some _ (by rw [Heap.get?_update_ne _ _ _ _ hb];exact q))
  refine wpAny_bind (wpAny_mono (kk (fun κ' s' => κ' = κ∧s'={ s with heap:=((s.heap.update a (Obj.mapSeq fun _ => #[])).push (seqObj "tuple" vs.toArray 0)).push (seqObj "list" #[] 0) }) ⟨rfl,rfl⟩) (fun κ' s' hk => ?_) fun _ _ z=>z.elim)
  obtain ⟨rfl,rfl⟩:=hk
  refine wpAny_bind (wpAny_mono (tm_runs (a₀:=pairsOf vs) (st:=SortSt.mk' _ (pairsOf vs) #[] 7 none) (Q:=fun _ st=>Tb (pairsOf vs) κ' st∧Sg key (arrOf st) 0 (pairsOf vs).size) hL ⟨Array.Perm.refl _,rfl,rfl⟩ rfl fun _ t g=>⟨t,g⟩) ?_ fun _ _ z=>z)
  rintro ⟨⟨⟩,st⟩ s' ⟨rfl,t,g⟩
  refine wpAny_bind (seqEpoch_at g2 rfl (wpAny_bind (listUpdate_at g2 rfl ?_ (Nat.zero_le _) (room t.perm))))
  rw [t.failed]
  simp only [bne_self_eq_false,Bool.false_eq_true,if_false]
  exact wpAny_pure (h _ t.perm (by rw [t.perm.size_eq];exact g))
theorem ask_ints {vs:List Value} {ns:List Int} (hI:IntsAre vs ns) (h2:2≤vs.length):Ask prog w A E s vs numK oneType':=by
 refine ⟨fun Q q => ?_,lts_int hI.intKeys⟩
 cases vs with
 | nil=>cases h2
 | cons x vs=>
  cases vs with
  | nil=>exact absurd h2 (by show ¬ 2≤1;decide)
  | cons y r=>rw [keyKind_ints hI];exact wpAny_pure q
end
section
variable {X:Cx} (K:PySem.W.Frag)
end
end L2
namespace L2
open PySem PySem.Spec PyProof.Rows PySem.W
section
variable {prog:Program} {w:World} {A:Around} {E:Value→Shared→Prop} {s:Shared}
end
section
variable {X:Cx} (K:PySem.W.Frag)
end
end L2
namespace L2
open PySem PySem.Spec PyProof.Rows
section
variable {X:Cx} {pos:Pos}
noncomputable def tDNewN:TE:=fun _ H Q=>∀p H',New H p (.dK []) H'→Q (.ref p) H'
theorem dnewN:PE X (.Dict [] [] pos) tDNewN:=by
 have e:tDNewN=tDNewK:=by
  funext σ H Q
  exact (new_all (F:=fun p H'=>Q (.ref p) H')).symm
 rw [e];exact pe_dnewK
end
end L2
namespace L2
open PySem PySem.Spec PyProof.Rows PySem.W
end L2
namespace L2
open PySem PySem.Spec PyProof.Rows PySem.W
end L2
namespace L2
open PySem PySem.Spec PyProof.Rows PySem.W PySem.Calls Builtin Builtin.ObjectAttr Builtin.Getset_descriptor
section
variable {K:Frag} {e C:Addr}
variable {prog:Program} {w:World} {A:Around} {E:Value→Shared→Prop} {s:Shared}
end
section
variable {X:Cx}
theorem pe_gref {x:Str} {C:Addr} {pos:Pos} (hg:Gl X x) (hm:X.mg x=some (.ref C)) (hd:(x == ("__debug__" : Str))=false:=by decide):PE X (.Name x pos) (tC (.ref C)):=pe_glob (v := .ref C) hg hm rfl hd
end
end L2
namespace L2
open PySem PySem.Spec PyProof.Rows
section
variable {X:Cx}
end
end L2
namespace L2
open PySem PySem.Spec PyProof.Rows
noncomputable def oneMore {K:Type} [DecidableEq K] (D:List K) (k:K):List K:=if k∈D then D else D++[k]
noncomputable def metKeys {K:Type} [DecidableEq K] (ks:Nat→K):Nat→List K
 | 0=>[]
 | i+1=>oneMore (metKeys ks i) (ks i)
theorem metKeys_le {K:Type} [DecidableEq K] (ks:Nat→K):∀i,(metKeys ks i).length≤i
 | 0=>Nat.le_refl _
 | i+1=>by
  have:=metKeys_le ks i
  unfold metKeys oneMore
  split
  ·omega
  ·rw [List.length_append];exact Nat.succ_le_succ this
section
variable {prog:Program} {w:World} {K:Type} [DecidableEq K] {knd:PySem.KeyKind prog w K}
noncomputable def HasKeys (knd:PySem.KeyKind prog w K) (h:Heap) (a:Addr) (D:List K):Prop:=h.SetOf knd a (fun k=>decide (k∈D)) D.length
theorem HasKeys.at' {h h':Heap} {a:Addr} {D:List K} (x:HasKeys knd h a D) (k:∀o,h.get? a=some o→h'.get? a=some o):HasKeys knd h' a D:=by
 obtain ⟨o,es,ep,t,e,r⟩:=x
 exact ⟨o,es,ep,t,k _ e,r⟩
variable {A:Around} {R:Result→Shared→Prop} {I:Addr} {fp wr:List Addr} {G:Array GenState→Array GenState→Prop} {n:Nat} {P:Nat→Value→Prop} {St:Nat→Shared→Prop}
end
noncomputable abbrev setObj0 (led:Bool):Obj:={ cls := .type "set",dict:=none,data := .set #[] 0 (.fresh 0 0 led) }
section
variable {prog:Program} {w:World} {K:Type} [DecidableEq K] {knd:PySem.KeyKind prog w K} {A:Around} {E:Value→Shared→Prop} {s:Shared}
end
section
variable {X:Cx}
end
end L2
namespace L2
open PySem PySem.Spec PyProof.Rows
noncomputable def strD:PyData→Str
 | .str x=>x
 | d=>d.shown
section
variable {X:Cx} {pins:List (Addr×Obj)} {σ:St} {H:Hp} {s:Shared}
mutual
theorem den_reads (I:Inv X pins σ H s):∀(d:PyData) (x:V) (u:Value),Den X.K H d x→RelV x u→∃as,Reads s.heap u d as
 | .none,x,u,h,r=>by unfold Den at h;subst h;cases r;exact ⟨_, .none⟩
 | .bool b,x,u,h,r=>by unfold Den at h;subst h;cases r;exact ⟨_, .bool b⟩
 | .int i,x,u,h,r=>by unfold Den at h;subst h;obtain ⟨t,rfl⟩:=r;exact ⟨_, .int i t⟩
 | .str y,x,u,h,r=>by unfold Den at h;subst h;obtain ⟨t,rfl⟩:=r;exact ⟨_, .str y t⟩
 | .list ds,x,u,h,r=>by
  unfold Den at h
  obtain ⟨a,vs,rfl,h1,h2⟩:=h
  cases r
  obtain ⟨its,rv,pl,hz⟩:=I.list h1
  obtain ⟨o,e1,e2,n,e3⟩:=pl.isList
  obtain ⟨bs,hb⟩:=dens_reads I ds vs its h2 rv
  exact ⟨_, .list e1 e2 e3 (by simpa using hb)⟩
 | .tuple ds,x,u,h,r=>by
  unfold Den at h
  obtain ⟨a,vs,rfl,h1,h2⟩:=h
  cases r
  obtain ⟨its,rv,⟨o,e1,e2,n,e3⟩,hz⟩:=I.tuple h1
  obtain ⟨bs,hb⟩:=dens_reads I ds vs its h2 rv
  exact ⟨_, .tuple e1 e2 e3 (by simpa using hb)⟩
 | .dict _,x,u,h,r=>by unfold Den at h;exact h.elim
theorem dens_reads (I:Inv X pins σ H s):∀(ds:List PyData) (vs:List V) (us:List Value),Dens X.K H ds vs→Vals vs us→∃as,ReadsAll s.heap us ds as
 | [],vs,us,h,r=>by unfold Dens at h;subst h;cases r;exact ⟨_, .nil⟩
 | d :: ds,vs,us,h,r=>by
  unfold Dens at h
  obtain ⟨v,vr,rfl,h1,h2⟩:=h
  cases r with
  | cons r1 r2=>
   obtain ⟨as,ha⟩:=den_reads I d _ _ h1 r1
   obtain ⟨bs,hb⟩:=dens_reads I ds _ _ h2 r2
   exact ⟨_, .cons ha hb⟩
end
mutual
theorem nodict {K:PySem.W.Frag} {H:Hp} : ∀(d:PyData) (x:V),Den K H d x→d.hasDict=false
 | .none,_,_=>rfl
 | .bool _,_,_=>rfl
 | .int _,_,_=>rfl
 | .str _,_,_=>rfl
 | .list ds,x,h=>by
  unfold Den at h
  obtain ⟨a,vs,_,_,h2⟩:=h
  simp only [PyData.hasDict]
  exact nodicts ds vs h2
 | .tuple ds,x,h=>by
  unfold Den at h
  obtain ⟨a,vs,_,_,h2⟩:=h
  simp only [PyData.hasDict]
  exact nodicts ds vs h2
 | .dict _,x,h=>by unfold Den at h;exact h.elim
theorem nodicts {K:PySem.W.Frag} {H:Hp} : ∀(ds:List PyData) (vs:List V),Dens K H ds vs→PyData.hasDictAll ds=false
 | [],_,_=>rfl
 | d :: ds,vs,h=>by
  unfold Dens at h
  obtain ⟨v,r,_,h1,h2⟩:=h
  simp only [PyData.hasDictAll,nodict d v h1,nodicts ds r h2,Bool.or_false]
end
noncomputable def rStr (K:PySem.W.Frag):List V→Hp→VK→Prop:=fun xs H Q=>Ex2 fun (x:V) (d:PyData)=>xs=[x]∧Den K H d x∧d.showable=true∧d.depth≤40∧d.shown.length≤sizeLine∧Q (.str (strD d)) H
theorem strK (K:PySem.W.Frag) (hg:X.A.guards=some []) (hu:X.A.units+64<cLine) (hK:X.K=K:=by rfl):CallR X (.type "str") (rStr K):=by
 subst hK
 intro pins s σ H xs us Q I r h
 obtain ⟨x,d,rfl,hd,hs,hp,hz,q⟩:=h
 obtain ⟨u,rfl,ru⟩:=vals1 r
 have nd:=nodict d x hd
 obtain ⟨as,rd⟩:=den_reads I d x u hd ru
 cases d with
 | none=>cases rd;exact PySem.P.str_of_none ⟨.str _,H,I.tok _,⟨_,rfl⟩,q⟩
 | bool b=>cases rd;exact PySem.P.str_of_bool ⟨.str _,H,I.tok _,⟨_,rfl⟩,q⟩
 | int i=>
  cases rd
  refine PySem.P.str_of_int (by simpa [PyData.showable] using hs) ⟨.str _,H,I.tok _,⟨_,rfl⟩,q⟩
 | str y=>cases rd;exact PySem.P.str_of_str ⟨.str _,H,I,⟨_,rfl⟩,q⟩
 | list ds=>
  have hu':∃a,u = .ref a:=by cases rd;exact ⟨_,rfl⟩
  obtain ⟨a,rfl⟩:=hu'
  exact str_of_reads rd hs (fun z=>by rw [nd] at z;cases z) hg (by omega) (fun _ _ e=>e) (fun h' u' tk k=>⟨.str _,H,I.kept k,⟨_,rfl⟩,q⟩) hz
 | tuple ds=>
  have hu':∃a,u = .ref a:=by cases rd;exact ⟨_,rfl⟩
  obtain ⟨a,rfl⟩:=hu'
  exact str_of_reads rd hs (fun z=>by rw [nd] at z;cases z) hg (by omega) (fun _ _ e=>e) (fun h' u' tk k=>⟨.str _,H,I.kept k,⟨_,rfl⟩,q⟩) hz
 | dict _=>unfold Den at hd;exact hd.elim
end
end L2
namespace L2
open PySem PySem.Spec PyProof.Rows
noncomputable def Up (xs:List Nat):Prop:=xs.Pairwise (· < ·)
theorem Up.lt {xs:Array Nat} (h:Up xs.toList) {i j:Nat} (hj:j<xs.size) (hij:i<j):xs[i]<xs[j]:=by
 have:=List.pairwise_iff_getElem.mp h i j (by simpa using Nat.lt_trans hij hj) (by simpa using hj) hij
 simpa using this
structure Cut (xs:Array Nat) (j p:Nat):Prop where
 le:p≤xs.size
 lo:∀i (h:i<xs.size),i<p→xs[i]<j
 hi:∀i (h:i<xs.size),p≤i→j≤xs[i]
theorem below_go {xs:Array Nat} (u:Up xs.toList) (j:Nat):∀(fuel lo hi:Nat),hi-lo≤fuel→lo≤hi→hi≤xs.size→(∀i (h:i<xs.size),i<lo→xs[i]<j)→(∀i (h:i<xs.size),hi≤i→j≤xs[i])→Cut xs j (SetTable.below.go xs j fuel lo hi)
 | 0,lo,hi,hf,hl,hs,h1,h2=>by
  have e:lo=hi:=by omega
  unfold SetTable.below.go
  subst e
  exact ⟨hs,h1,h2⟩
 | fuel+1,lo,hi,hf,hl,hs,h1,h2=>by
  unfold SetTable.below.go
  by_cases hlt:lo<hi
  ·rw [if_pos hlt]
   have hm:(lo+hi) / 2<xs.size:=by omega
   have e:xs.getD ((lo+hi) / 2) j=xs[(lo+hi) / 2]:=by simp [Array.getD,hm]
   dsimp only
   rw [e]
   by_cases hc:xs[(lo+hi) / 2]<j
   ·rw [if_pos hc]
    refine below_go u j fuel _ _ (by omega) (by omega) hs (fun i h hi' => ?_) h2
    by_cases q:i=(lo+hi) / 2
    ·subst q;exact hc
    ·exact Nat.lt_trans (u.lt hm (by omega)) hc
   ·rw [if_neg hc]
    refine below_go u j fuel _ _ (by omega) (by omega) (by omega) h1 (fun i h hi' => ?_)
    by_cases q:i=(lo+hi) / 2
    ·subst q;omega
    ·have:=u.lt h (show (lo+hi) / 2<i by omega)
     omega
  ·rw [if_neg hlt]
   have e:lo=hi:=by omega
   subst e
   exact ⟨hs,h1,h2⟩
theorem below_cut {xs:Array Nat} (u:Up xs.toList) (j:Nat):Cut xs j (SetTable.below xs j):=
 below_go u j _ _ _ (by omega) (Nat.zero_le _) (Nat.le_refl _) (fun i h z=>absurd z (Nat.not_lt_zero _)) fun i h z=>absurd h (by omega)
theorem Cut.next {xs:Array Nat} {p i:Nat} (u:Up xs.toList) (h:i<xs.size) (c:Cut xs (xs[i]+1) p):p=i+1:=by
 have h1:¬p<i+1:=fun z=>by have:=c.hi i h (by omega);omega
 have h2:¬i+1<p:=fun z=>by
  have hs:i+1<xs.size:=by have:=c.le;omega
  have a:=c.lo (i+1) hs z
  have b:=u.lt hs (Nat.lt_succ_self i)
  omega
 omega
noncomputable def GoodT (t:SetTable):Prop:=t.dummies = #[]∧Up t.place.toList
theorem good_fresh {a b:Nat} {led:Bool} : GoodT (SetTable.fresh a b led):=⟨rfl,List.Pairwise.nil⟩
theorem good_stand (t:SetTable) (n:Nat):GoodT (t.standIn n):=⟨rfl,by
 show List.Pairwise _ (Array.range n).toList
 rw [Array.toList_range]
 exact List.pairwise_lt_range⟩
theorem has_none (j:Nat):SetTable.has #[] j=false:=by
 unfold SetTable.has
 simp
theorem slot_kind {t:SetTable} (g:GoodT t) (j:Nat):t.slot j = .empty∨∃i,t.slot j = .live i:=by
 unfold SetTable.slot
 dsimp only
 split
 ·exact .inr ⟨_,rfl⟩
 ·rw [g.1,has_none]
  exact .inl rfl
theorem slot_free {t:SetTable} (g:GoodT t) {j:Nat} (h:t.slot j = .empty):j ∉ t.place.toList:=fun hm=>by
 obtain ⟨i,hi,e⟩:=List.mem_iff_getElem.mp hm
 have hi':i<t.place.size:=by simpa using hi
 have e':t.place[i]=j:=by simpa using e
 have c:=below_cut g.2 j
 have hp:SetTable.below t.place j=i:=by
  have h1:¬i<SetTable.below t.place j:=fun z=>by have:=c.lo i hi' z;omega
  have h2:¬SetTable.below t.place j<i:=fun z=>by
   have hs:SetTable.below t.place j<t.place.size:=by omega
   have a:=c.hi _ hs (Nat.le_refl _)
   have b:=g.2.lt hi' z
   omega
  omega
 unfold SetTable.slot at h
 dsimp only at h
 rw [hp,Array.getElem?_eq_getElem hi',e'] at h
 simp at h
theorem probe_free {t:SetTable} (g:GoodT t) {h:Int} {j:Nat} {d:Option Nat} : ∀(fuel:Nat) (p:SetTable.Probe),p.dummy=none→SetTable.probe.go t (fun _=>h+1) h fuel p=some (.empty j d)→t.slot j = .empty∧d=none
 | 0,p,hp,e=>by unfold SetTable.probe.go at e;cases e
 | fuel+1,p,hp,e=>by
  unfold SetTable.probe.go at e
  rcases slot_kind g p.j with q|⟨i,q⟩
  ·rw [q] at e
   dsimp only at e
   cases e
   exact ⟨q,hp⟩
  ·rw [q] at e
   dsimp only at e
   rw [if_neg (by rw [beq_iff_eq];omega)] at e
   refine probe_free g fuel _ ?_ e
   unfold SetTable.advance
   split
   ·exact hp
   ·exact hp
theorem good_put {t:SetTable} (g:GoodT t) {j:Nat} (h:t.slot j = .empty):GoodT (t.put j).1:=by
 have hn:=slot_free g h
 have c:=below_cut g.2 j
 unfold SetTable.put
 refine ⟨?_,?_⟩
 ·show (if SetTable.has t.dummies j=true then _ else t.dummies) = #[]
  rw [g.1,has_none,if_neg Bool.false_ne_true]
 ·show Up (SetTable.insertAt t.place _ j).toList
  rw [SetTable.toList_insertAt]
  have u:Up t.place.toList:=g.2
  refine List.pairwise_append.mpr ⟨List.Pairwise.sublist (List.take_sublist _ _) u,List.pairwise_cons.mpr ⟨fun x hx => ?_,List.Pairwise.sublist (List.drop_sublist _ _) u⟩,fun x hx y hy => ?_⟩
  ·obtain ⟨i,hi,e⟩:=List.mem_iff_getElem.mp hx
   rw [List.getElem_drop] at e
   have hi':SetTable.below t.place j+i<t.place.size:=by rw [List.length_drop] at hi;simp at hi;omega
   have:=c.hi _ hi' (Nat.le_add_right _ _)
   have e':t.place[SetTable.below t.place j+i]=x:=by simpa using e
   have hne:j≠x:=fun z=>hn (by rw [z];exact List.mem_of_mem_drop hx)
   omega
  ·have hxj:x<j:=by
    obtain ⟨i,hi,e⟩:=List.mem_iff_getElem.mp hx
    rw [List.getElem_take] at e
    rw [List.length_take] at hi
    have hi':i<t.place.size:=by simp at hi;omega
    have:=c.lo i hi' (by omega)
    have e':t.place[i]=x:=by simpa using e
    omega
   rcases List.mem_cons.mp hy with rfl|hy
   ·exact hxj
   ·obtain ⟨i,hi,e⟩:=List.mem_iff_getElem.mp hy
    rw [List.getElem_drop] at e
    have hi':SetTable.below t.place j+i<t.place.size:=by rw [List.length_drop] at hi;simp at hi;omega
    have:=c.hi _ hi' (Nat.le_add_right _ _)
    have e':t.place[SetTable.below t.place j+i]=y:=by simpa using e
    omega
theorem good_or {t:SetTable} (g:GoodT t) (n:Nat):GoodT (t.orStandIn n):=by
 unfold SetTable.orStandIn
 split
 ·exact g
 ·exact good_stand t n
theorem good_lay {t:SetTable} (g:GoodT t) (es:Array (Int×Value)) (h:Int) (x:Value):GoodT (layNew t es h x).2.1∧(layNew t es h x).2.1.led=t.led:=by
 unfold layNew
 split
 ·rename_i slot wasDummy hs
  dsimp only
  have hfree:t.slot slot = .empty:=by
   unfold SetTable.freeSlot at hs
   split at hs
   ·rename_i j d hp
    unfold SetTable.probe at hp
    obtain ⟨h1,h2⟩:=probe_free g _ _ rfl hp
    subst h2
    cases hs
    exact h1
   ·cases hs
  refine ⟨good_or (good_put g hfree) _,?_⟩
  unfold SetTable.orStandIn
  split <;> rfl
 ·exact ⟨good_stand t _,rfl⟩
theorem some_sub {β:Type} (f:Nat→Option β):∀l:List Nat,List.Sublist ((l.filterMap fun j=>(f j).map (j, ·)).map (·.1)) l
 | []=>List.Sublist.refl _
 | j :: l=>by
  rw [List.filterMap_cons]
  cases f j with
  | none=>exact List.Sublist.cons _ (some_sub f l)
  | some b=>exact List.Sublist.cons_cons _ (some_sub f l)
theorem good_laid {mask finger moves:Nat} {led plain:Bool} {hs:Array Int} {t:SetTable} {order:Array Nat} (e:SetTable.laid mask finger moves led plain hs=some (t,order)):GoodT t∧t.led=led:=by
 unfold SetTable.laid at e
 cases q:SetTable.layClean mask hs with
 | none=>rw [q] at e;cases e
 | some owner=>
  rw [q] at e
  cases e
  refine ⟨⟨rfl,?_⟩,rfl⟩
  exact List.Pairwise.sublist (some_sub _ _) List.pairwise_lt_range
theorem good_relay {t:SetTable} (es:Array (Int×Value)) (n:Nat):GoodT (relayAll t es n).2.1∧(relayAll t es n).2.1.led=t.led:=by
 unfold relayAll
 split
 ·rename_i t' order hr
  dsimp only
  split
  ·unfold SetTable.relaid at hr
   exact good_laid hr
  ·exact ⟨good_stand t _,rfl⟩
 ·exact ⟨good_stand t _,rfl⟩
section
variable {prog:Program} {w:World} {K:Type} [DecidableEq K] {knd:PySem.KeyKind prog w K} {A:Around} {E:Value→Shared→Prop} {s:Shared} {a:Addr}
noncomputable def GoodSet (w:World) (h:Heap) (a:Addr):Prop:=∃o es ep t,h.get? a=some o∧o.data = .set es ep t∧GoodT t∧(w.params.followText "set-order" = false→t.led=true)
theorem GoodSet.at' {h h':Heap} (x:GoodSet w h a) (k:∀o,h.get? a=some o→h'.get? a=some o):GoodSet w h' a:=by
 obtain ⟨o,es,ep,t,e,r⟩:=x
 exact ⟨o,es,ep,t,k _ e,r⟩
noncomputable def SetKeys (knd:PySem.KeyKind prog w K) (h:Heap) (a:Addr) (D:List K):Prop:=HasKeys knd h a D∧GoodSet w h a
theorem put_good {o:Obj} {es:Array (Int×Value)} {ep:Nat} {t:SetTable} (ho:s.heap.get? a=some o) (hd:o.data = .set es ep t) {es':Array (Int×Value)} {t':SetTable} (g:GoodT t') (l:w.params.followText "set-order" = false→t'.led=true) :
  (s.heap.update a (Obj.putSet es' t')).get? a=some { o with data := .set es' (ep+1) t' } ∧ GoodSet w (s.heap.update a (Obj.putSet es' t')) a:=by
 have e:=Heap.get?_update_self (Obj.putSet es' t') ho (by rw [putSet_of es' t' hd];rfl)
 rw [putSet_of es' t' hd] at e
 exact ⟨e,_,_,_,_,e,rfl,g,l⟩
theorem add_hashed {D:List K} {k:K} {x:Value} {Q:Bool→Shared→Prop} (hk:knd.is k x=true) (hx:x.scannable=true) (S:SetKeys knd s.heap a D) (room:D.length+1<scanBound)
  (fin:∀b h',Heap.SameBut a s.heap h'→SetKeys knd h' a (oneMore D k)→Q b { s with heap:=h' }):wpAny (model prog w) A (setAddHashed a x (knd.hash k)) Q E s:=by
 obtain ⟨HK,o',es',ep',t',ho',hd',gt',ld'⟩:=S
 obtain ⟨o,es,ep,t,ho,ex,hd,el,mem,bnd,fit,len⟩:=id HK
 obtain ⟨gt,ld⟩:GoodT t∧(w.params.followText "set-order" = false→t.led=true):=by
  rw [ho] at ho';cases ho'
  rw [hd] at hd';cases hd'
  exact ⟨gt',ld'⟩
 have by1:=byScan_of hx bnd el
 unfold setAddHashed setAddHashedIn setAddByScan
 refine wpAny_holding (wpAny_bind (wpAny_setState_of ho hd fit ?_))
 dsimp only
 rw [by1,if_pos rfl]
 refine wpAny_bind (wpAny_bind (wpAny_rule (wpAny_bind (wpAny_setScan_of hk ho hd fit el ?_))))
 have gave:∀(b:Bool) {s1:Shared} {Q':Unit→Shared→Prop},Q' () s1→wpAny (model prog w) A (match b with|true=>rule "set.scan.the-table-gave-way" | false=>pure ()) Q' E s1:=fun b s1 Q' q=>by
  cases b
  ·exact wpAny_pure q
  ·exact wpAny_rule q
 cases hr:es.toList.findIdx? (fun e=>knd.is k e.2) with
 | some j=>
  obtain ⟨hj,hp,_⟩:=List.findIdx?_eq_some_iff_getElem.mp hr
  have hin:k∈D:=of_decide_eq_true ((mem k).mpr ⟨_,List.getElem_mem hj,hp⟩)
  refine wpAny_pure (wpAny_pure ?_)
  have q:=fin false s.heap (Heap.SameBut.refl a s.heap) (by
   unfold oneMore
   rw [if_pos hin]
   exact ⟨HK,_,_,_,_,ho,hd,gt,ld⟩)
  exact q
 | none=>
  have hout:k ∉ D:=fun z=>by
   obtain ⟨e,he,hp⟩:=(mem k).mp (decide_eq_true z)
   have:=List.findIdx?_eq_none_iff.mp hr e he
   rw [hp] at this;cases this
  have more:∀k',decide (k'∈oneMore D k)=(decide (k'∈D)||decide (k'=k)):=fun k'=>by
   unfold oneMore
   rw [if_neg hout]
   simp [Bool.decide_or]
  obtain ⟨g1,l1⟩:=good_lay gt es (knd.hash k) x
  have pm:=layNew_perm t es (knd.hash k) x
  have ft:=layNew_fits t es (knd.hash k) x
  dsimp only
  generalize layNew t es (knd.hash k) x=L at g1 l1 pm ft ⊢
  obtain ⟨es1,t1,dummy,gv⟩:=L
  dsimp only at g1 l1 pm ft ⊢
  rw [Array.toList_push] at pm
  have el1:ElemsOf knd es1.toList:=(el.push hk hx).perm pm
  have mem1:∀k',decide (k'∈oneMore D k)=true ↔ ∃e∈es1.toList,knd.is k' e.2=true:=fun k'=>by
   rw [more];exact mem_push_iff hk mem pm k'
  have sz1:es1.size=(oneMore D k).length:=by
   unfold oneMore
   rw [if_neg hout, ←Array.length_toList,pm.length_eq,List.length_append,List.length_append,Array.length_toList,len];rfl
  have lenD:(oneMore D k).length=D.length+1:=by
   unfold oneMore
   rw [if_neg hout,List.length_append];rfl
  have bnd1:es1.size<scanBound:=by omega
  have ld1:w.params.followText "set-order" = false→t1.led=true:=fun z=>l1.trans (ld z)
  have tail:∀t2:SetTable,GoodT t2→(w.params.followText "set-order" = false→t2.led=true)→t2.fits es1.size=true→∀c:Bool,
    wpAny (model prog w) A (do
     storeSet a es1 t2
     if c=true then do
       (match (relayAll t2 es1 (SetTable.grown es1.size)).2.2 with|true=>rule "set.scan.the-table-gave-way" | false=>pure ())
       storeSet a (relayAll t2 es1 (SetTable.grown es1.size)).1 (relayAll t2 es1 (SetTable.grown es1.size)).2.1
       pure (some true)
      else pure (some true)) (fun r s'=>r=some true∧∃h',s'={ s with heap:=h' } ∧ Heap.SameBut a s.heap h'∧SetKeys knd h' a (oneMore D k)) E s:=by
   intro t2 g2 ld2 ft2 c
   refine wpAny_bind (wpAny_storeSet_of ho hd ?_ (fits_of_scanBound bnd1))
   obtain ⟨e1,gs1⟩:=put_good (es':=es1) ho hd g2 ld2
   have sb1:=Heap.SameBut.update s.heap a (Obj.putSet es1 t2)
   cases c with
   | false=>
    rw [if_neg Bool.false_ne_true]
    exact wpAny_pure ⟨rfl,_,rfl,sb1,⟨_,_,_,_,e1,ex,rfl,el1,mem1,bnd1,ft2,sz1⟩,gs1⟩
   | true=>
    rw [if_pos rfl]
    have pm2:=relayAll_perm t2 es1 (SetTable.grown es1.size)
    have ft3:=relayAll_fits t2 es1 (SetTable.grown es1.size)
    obtain ⟨g3,l3⟩:=good_relay (t:=t2) es1 (SetTable.grown es1.size)
    generalize relayAll t2 es1 (SetTable.grown es1.size)=L2 at pm2 ft3 g3 l3 ⊢
    obtain ⟨es2,t3,gv2⟩:=L2
    dsimp only at pm2 ft3 g3 l3 ⊢
    have sz2:es2.size=es1.size:=by rw [←Array.length_toList,pm2.length_eq,Array.length_toList]
    refine wpAny_bind (gave _ ?_)
    refine wpAny_bind (wpAny_storeSet_of e1 rfl ?_ (fits_of_scanBound (by omega)))
    obtain ⟨e2,gs2⟩:=put_good (s:={ s with heap:=s.heap.update a (Obj.putSet es1 t2) }) (es':=es2) e1 rfl g3 (fun z=>l3.trans (ld2 z))
    refine wpAny_pure ⟨rfl,_,rfl,sb1.trans (Heap.SameBut.update _ a _),⟨_,_,_,_,e2,ex,rfl,el1.perm pm2,fun k'=>(mem1 k').trans ⟨fun hz_=>Elim.el hz_ _ fun e he q=>⟨e,pm2.mem_iff.mpr he,q⟩,fun hz_=>Elim.el hz_ _ fun e he q=>⟨e,pm2.mem_iff.mp he,q⟩⟩,by omega,ft3,sz2.trans sz1⟩,gs2⟩
  have out:∀(r:Option Bool) s',(r=some true∧∃h',s'={ s with heap:=h' } ∧ Heap.SameBut a s.heap h'∧SetKeys knd h' a (oneMore D k))→wpAny (model prog w) A (match r with|some added=>pure added|none=>setAddHashedIn a x (knd.hash k) 99999) Q E s':=by
   rintro r s' ⟨rfl,h',rfl,sb,sk⟩
   exact wpAny_pure (fin true h' sb sk)
  refine wpAny_bind (gave _ ?_)
  cases hpl:t1.plain with
  | false=>
   rw [if_neg Bool.false_ne_true]
   refine wpAny_bind (wpAny_pure ?_)
   rw [if_pos rfl]
   exact wpAny_mono (tail t1 g1 ld1 ft _) (fun r s' q=>out r s' q) fun _ _ z=>z
  | true=>
   rw [if_pos rfl]
   refine wpAny_bind ?_
   rw [hashByValue_scannable 8 hx]
   refine wpAny_pure ?_
   cases plainKind x with
   | true=>
    rw [if_pos rfl]
    exact wpAny_mono (tail t1 g1 ld1 ft _) (fun r s' q=>out r s' q) fun _ _ z=>z
   | false=>
    rw [if_neg Bool.false_ne_true]
    exact wpAny_mono (tail { t1 with plain:=false } g1 ld1 (SetTable.fits_plain_off ft) _) (fun r s' q=>out r s' q) fun _ _ z=>z
theorem SetKeys.at' {D:List K} {h h':Heap} (x:SetKeys knd h a D) (k:∀o,h.get? a=some o→h'.get? a=some o):SetKeys knd h' a D:=⟨x.1.at' k,x.2.at' k⟩
theorem add_call {D:List K} {k:K} {x:Value} {Q:Value→Shared→Prop} (hk:knd.is k x=true) (hx:x.scannable=true) (S:SetKeys knd s.heap a D) (room:D.length+1<scanBound)
  (fin:∀h',Heap.SameBut a s.heap h'→SetKeys knd h' a (oneMore D k)→Q .none { s with heap:=h',toks:=s.toks+1 }):wpAny (model prog w) A (call (.builtin "set.add") [.ref a,x]) Q E s:=by
 refine wpAny_call_entry F.slot_set_add (show s.heap.SetOf knd a _ _ from S.1).typeIs F.entry_set_add ?_ (F.args_set_add_2 _ _)
 unfold Builtin.«set.add» Builtin.Frozenset.oneOther Builtin.Frozenset.addrOf setAdd
 simp only [List.isEmpty_nil,bind_assoc]
 refine wpAny_bind (wpAny_pure (wpAny_bind (wpAny_pure (wpAny_bind (wpAny_holding (wpAny_bind (knd.pyHash hk ?_)))))))
 exact add_hashed (s:={ s with toks:=s.toks+1 }) hk hx S room fun b h' sb sk=>wpAny_pure ⟨_,rfl,fin h' sb sk⟩
end
end L2
namespace L2
open PySem PySem.Spec PyProof.Rows
structure KeyV (P:Program) (w:World) (K:Type) [DecidableEq K] where
 knd:PySem.KeyKind P w K
 v:K→V
 ok:∀k u,RelV (v k) u→knd.is k u=true∧u.scannable=true
noncomputable def intV (P:Program) (w:World):KeyV P w Int:=⟨intKind P w,V.int,fun k u r=>by obtain ⟨t,rfl⟩:=r;exact ⟨intKind_is _ _ _ _,rfl⟩⟩
noncomputable def setK {P:Program} {w:World} {K:Type} [DecidableEq K] (kv:KeyV P w K) (a:Addr) (D:List K):HO := .ext fun h=>SetKeys kv.knd h a D
theorem setK_ok {P:Program} {w:World} {K:Type} [DecidableEq K] {kv:KeyV P w K} {a:Addr} {D:List K} {H:Hp} {h:Heap} (x:SetKeys kv.knd h a D):ObjOk P w H h a (setK kv a D):=by
 have x':=x.1
 obtain ⟨o,es,ep,t,e,rest⟩:=x'
 exact ⟨x,⟨o,e⟩,fun h1 h2 y k=>SetKeys.at' y k⟩
section
variable {prog:Program} {w:World} {A:Around} {R:Result→Shared→Prop} {s:Shared}
theorem scomp_turn (ex target iter:Expr) (ifs:List Expr) (scope:Scope) (pos:Pos) (it:Value) (D:Addr) (env:Env) :
  compTurn (.SetComp ex [⟨target,iter,ifs,0⟩] scope pos) 0 it (.ref D) env=(do
   standAt iter.pos
   match ←pyNext it with
   | none=>pure (.done .next)
   | some v=>
    letOwnedTupleGo target it v
    assign target env v
    let mut ok:=true
    for c in ifs do
     if ok then ok ←isTrue c env (eval c env)
    if ok then
     (do
      let ev ←eval ex env
      standAt ex.pos
      let _ ←call (.builtin "set.add") [.ref D,ev])
    again (.compLoop (.SetComp ex [⟨target,iter,ifs,0⟩] scope pos) 0 it (.ref D) env)):=by rfl
theorem scomp_turns {ex target iter:Expr} {ifs:List Expr} {scope:Scope} {pos:Pos} {it:Value} {D:Addr} {env:Env} (I:Nat→Shared→Prop)
  (turn:∀n s,I n s→wpAny (model prog w) A (pyNext it) (fun r s1=>match r with
   | none=>R (.ok .next) s1
   | some v=>wpAny (model prog w) A (letOwnedTupleGo target it v) (fun _ s1'=>wpAny (model prog w) A (assign target env v) (fun _ s2=>
     wpAny (model prog w) A (testsOf ifs env) (fun ok s3=>
      if ok=true then wpAny (model prog w) A (eval ex env) (fun ev s4=>wpAny (model prog w) A (call (.builtin "set.add") [.ref D,ev]) (fun _ s6=>∃m,m<n∧I m s6) noE s4) noE s3
      else ∃m,m<n∧I m s3) noE s2) noE s1') noE s1) noE s)
  (n:Nat) (h:I n s):codeAny (model prog w) A (.compLoop (.SetComp ex [⟨target,iter,ifs,0⟩] scope pos) 0 it (.ref D) env) R s:=by
 refine codeAny_loop rfl I (fun n s hI=>(show wpAny _ A (Sem.onRaise (compTurn (.SetComp ex [⟨target,iter,ifs,0⟩] scope pos) 0 it (.ref D) env) (fun x=>do noteFrame x env;theTreesLotGoes x)) _ _ s from wpAny_noted ?_)) n h
 rw [scomp_turn]
 refine wpAny_bind (wpAny_standAt (wpAny_bind (noE_to (thn (turn n s hI) fun r s1 h1 => ?_))))
 cases r with
 | none=>exact wpAny_pure h1
 | some v=>
  refine wpAny_bind (noE_to (thn h1 fun _ s1' h1' => ?_))
  refine wpAny_bind (noE_to (thn h1' fun _ s2 h2=>wpAny_bind (noE_to (thn h2 fun ok s3 h3 => ?_))))
  cases ok with
  | false=>exact wpAny_pure ⟨rfl,h3⟩
  | true=>
   exact wpAny_bind (wpAny_bind (noE_to (thn h3 fun ev s4 h4=>wpAny_bind (wpAny_standAt (wpAny_bind (noE_to (thn h4 fun _ s6 h6=>wpAny_pure (wpAny_pure ⟨rfl,h6⟩))))))))
theorem scomp_start {ex target iter ifs rest scope pos it acc env} (h0:codeAny (model prog w) A (.compLoop (.SetComp ex (⟨target,iter,ifs,0⟩ :: rest) scope pos) 0 it acc env) R s)
  (h:wpAny (model prog w) A (pyIter it) (fun it' s'=>codeAny (model prog w) A (.compLoop (.SetComp ex (⟨target,iter,ifs,0⟩ :: rest) scope pos) 0 it' acc env) R s') (notedBy (model prog w) A env fun x s'=>R (.error x) s') s) :
  codeAny (model prog w) A (.compStart (.SetComp ex (⟨target,iter,ifs,0⟩ :: rest) scope pos) 0 it acc env) R s:=by
 refine codeAny_of_tree (show wpAny _ A ((compStart (.SetComp ex (⟨target,iter,ifs,0⟩ :: rest) scope pos) 0 it acc env).onRaise (fun x=>do noteFrame x env;standAt theWindowsPlace)) _ _ s from wpAny_notedAt ?_)
 unfold compStart
 refine wpAny_bind (m:=ask) (wpAny_askSetting (wpAny_ite ?_))
 split
 ·first
   | exact wpAny_bind (wpAny_pure (wpAny_pure ⟨rfl,h0⟩))
   | exact wpAny_pure ⟨rfl,h0⟩
 ·refine wpAny_bind (wpAny_rule ?_)
  refine wpAny_bind (m:=standAt iter.pos) (wpAny_standAt ?_)
  exact wpAny_bind (wpAny_mono h (fun it' s' h'=>wpAny_pure ⟨rfl,h'⟩) fun _ _ x=>x)
end
section
variable {X:Cx} {pins:List (Addr×Obj)} {σ:St} {H:Hp} {s:Shared} {a:Addr} {u:Value} {A:Around} {E:Value→Shared→Prop} {K:Type} [DecidableEq K] {kv:KeyV X.prog X.w K}
theorem s_add {D:List K} {k:K} {Q:Value→Shared→Prop} (I:Inv X pins σ H s) (e:H a=some (setK kv a D)) (l:D.length≤4000) (ry:RelV (kv.v k) u)
  (h:∀v s',Inv X pins σ (upd H a (setK kv a (oneMore D k))) s'→Q v s'):wpAny (model X.prog X.w) A (call (.builtin "set.add") [.ref a,u]) Q E s:=by
 have x:=(show ObjOk X.prog X.w H s.heap a (setK kv a D) from I.hok a _ e).1
 obtain ⟨h1,h2⟩:=kv.ok k u ry
 refine add_call h1 h2 x (by unfold scanBound;omega) fun h' sb y => ?_
 have y':=y.1
 obtain ⟨o,es,ep,t,eo,_⟩:=y'
 exact h _ _ (d_write I (by rw [e];exact True.intro) sb ⟨o,eo⟩ (setK_ok y))
end
noncomputable def CompS {P:Program} {w:World} {KT:Type} [DecidableEq KT] (kv:KeyV P w KT) (J:It) (n:Nat) (js:List Nat) (g:TG) (tc:TT) (te:TE) (σ:St) (D:Addr) (H1:Hp) (fin:Hp→Prop):Prop:=
 ∃W:Nat→Nat→Hp→Prop,(∃m,W 0 m H1)∧∀i m H,W i m H →
  (J.stop i H∧fin H) ∨
  (J.go i H∧∀x H',J.yld i H x H'→g x (List.replicate n none++cvals σ js) H' fun σ2 H2=>tc σ2 H2 fun b H3=>
   if b=true then te σ2 H3 fun y H4=>∃ks k,H4 D=some (setK kv D ks)∧y=kv.v k∧ks.length≤4000∧∃m',m'<m∧W (i+1) m' (upd H4 D (setK kv D (oneMore ks k))) else ∃m',m'<m∧W (i+1) m' H3)
noncomputable def tSComp {P:Program} {w:World} {KT:Type} [DecidableEq KT] (kv:KeyV P w KT) (wi:TI) (n:Nat) (js:List Nat) (g:TG) (tc:TT) (te:TE):TE:=fun σ H Q=>wi σ H fun J H1=>∀D,H1 D=none→CompS kv J n js g tc te σ D (upd H1 D (setK kv D [])) fun H2=>Q (.ref D) H2
theorem new_set {prog:Program} {w:World} {A:Around} {s:Shared} {Q:Value→Shared→Prop} {E:Value→Shared→Prop} (h:∀led,(w.params.followText "set-order" = false→led=true)→Q (.ref s.heap.objs.size) { s with heap:=s.heap.push (setObj0 led) }):wpAny (model prog w) A (newSet (.type "set")) Q E s:=by
 unfold newSet setsByText
 refine wpAny_bind (wpAny_bind (wpAny_askSetting (wpAny_pure ?_)))
 show wpAny _ _ (newObj _ _) _ _ _
 simp only [newObj]
 exact wpAny_bind (wpAny_alloc (wpAny_pure (h _ fun z=>by show (!w.params.followText "set-order")=true;rw [z];rfl)))
theorem fresh_keys {prog:Program} {w:World} {K:Type} [DecidableEq K] {knd:PySem.KeyKind prog w K} {h:Heap} {a:Addr} {led:Bool} (e:h.get? a=some (setObj0 led)):HasKeys knd h a []:=by
 have z:=(setObjOf_fresh (knd:=knd) led).setOf e (by decide)
 have q:(fun k:K=>decide (k∈([]:List K)))=fun _=>false:=by funext k;simp
 show Heap.SetOf knd _ _ (fun k=>decide (k∈([]:List K))) 0
 rw [q]
 exact z
theorem fresh_good {prog:Program} {w:World} {K:Type} [DecidableEq K] {knd:PySem.KeyKind prog w K} {h:Heap} {a:Addr} {led:Bool} (l:w.params.followText "set-order" = false→led=true) (e:h.get? a=some (setObj0 led)):SetKeys knd h a []:=⟨fresh_keys e,_,_,_,_,e,rfl,good_fresh,l⟩
theorem scomp_core {X:Cx} {KT:Type} [DecidableEq KT] (kv:KeyV X.prog X.w KT) {ex tg iter:Expr} {ifs:List Expr} {scope:Scope} {pos:Pos} {Nc Fc:List Str} {js:List Nat} {wi:TI} {g:TG} {tc:TT} {te:TE} {use:Option (Value→Sem Unit)} {QV:Value→Shared→Prop}
  (hcalm:X.calm=true) (c:CompOk X scope Nc Fc js) (hi:PI X tg iter wi)
  (hg:∀cl C s H fp,PG (cxC X Nc Fc scope cl C s H fp) tg g) (htc:∀cl C s H fp,PTs (cxC X Nc Fc scope cl C s H fp) ifs tc) (hte:∀cl C s H fp,PE (cxC X Nc Fc scope cl C s H fp) ex te) (gk:Gk Nc.length g)
  {pins:List (Addr×Obj)} {s:Shared} {σ:St} {H:Hp} {fin:Addr→Hp→Prop} (I:Inv X pins σ H s)
  (h:wi σ H fun J H1=>∀D,H1 D=none→CompS kv J Nc.length js g tc te σ D (upd H1 D (setK kv D [])) (fin D))
  (behind:∀(C D:Addr) (m:Str→Option Value) (H2:Hp) (s2:Shared),Inv X pins σ H2 s2→s2.heap.Ns C m→FpOk X pins H2 C→fin D H2→compPost (model X.prog X.w) X.A X.xe use QV (.ref D) C (.ok .next) s2)
  (hs:∀x,foldedSetIterable iter X.env x=pure x) :
  wpAny (model X.prog X.w) X.A (comprehension (.SetComp ex [⟨tg,iter,ifs,0⟩] scope pos) scope X.env (firstIterPos [⟨tg,iter,ifs,0⟩] pos) (newSet (.type "set")) false (eval iter X.env) use) QV X.xe s:=by
 obtain ⟨cl,hclos,hsub,hhas⟩:=closure_of (scope:=scope) (env:=X.env) fun y hy hf=>I.ok.has y.1 (c.free y hy hf)
 refine wpAny_comprehension_free (use:=use) rfl hs hclos c.kind c.names ?_
 refine thn (hi s σ H _ I h) fun v s1 h1=>thn h1 fun itv s2 h2 => ?_
 obtain ⟨it,fp,tn,J,H2,e,I2,T,st2,f2,all⟩:=h2
 subst e
 refine new_set fun led hled => ?_
 refine (wpAny_newFunctionEnv c.nocell (by intro y hy;simp at hy) (fun h1 hns1 hsb1 => ?_) c.kind)
 dsimp only at hns1 hsb1 ⊢
 have hDn:H2 s2.heap.objs.size=none:=I2.hok.fresh (Nat.le_refl _)
 have I2':=I2.laid (a:=s2.heap.objs.size) (o:=setK kv s2.heap.objs.size []) (h':=s2.heap.push (setObj0 led)) (t':=s2.toks) (fun _ _ q=>Heap.get?_push_of_some _ q) (Nat.le_refl _) (setK_ok (fresh_good hled (Heap.get?_push_size _ rfl)))
 obtain ⟨W,⟨m0,w0⟩,turn⟩:=all _ hDn
 have fo2:∀b∈fp,∃o,s2.heap.get? b=some o:=fun b hb=>let ⟨o,e,_⟩:=T.obj 0 _ st2 b hb; ⟨o,e⟩
 have hDfp:∀b∈fp,b<s2.heap.objs.size:=fun b hb=>let ⟨o,e⟩:=fo2 b hb;Heap.lt_size e
 generalize hG:s2.heap.push (setObj0 led)=G at hns1 hsb1 I2' ⊢
 have toG:∀b o,s2.heap.get? b=some o→G.get? b=some o:=fun b o e=>hG ▸ Heap.get?_push_of_some _ e
 have hC:G.objs.size=s2.heap.objs.size+1:=by rw [←hG,Heap.size_push]
 have old:∀b o,G.get? b=some o→h1.get? b=some o:=fun b o e=>
  hsb1.extBut b o (addr_ne (Heap.lt_size e) (Nat.le_refl _)) (Heap.get?_push_of_some _ e)
 let D:Addr:=s2.heap.objs.size
 let s2':Shared:={ s2 with heap:=G,toks:=s2.toks }
 let H2':Hp:=upd H2 D (setK kv D [])
 have f2':∀b∈fp,FpOk X pins H2' b:=fun b hb=>by
  obtain ⟨a1,a2⟩:=f2 b hb
  refine ⟨?_,a2⟩
  show upd H2 D (setK kv D []) b=none
  rw [upd_ne (Nat.ne_of_lt (hDfp b hb))];exact a1
 have fo:∀b∈fp,∃o,s2'.heap.get? b=some o:=fun b hb=>let ⟨o,e⟩:=fo2 b hb; ⟨o,toG b o e⟩
 have hfG:∀b∈fp,b<G.objs.size:=fun b hb=>by have:=hDfp b hb;rw [hC];exact Nat.lt_succ_of_lt this
 let Xc:Cx:=cxC X Nc Fc scope cl G.objs.size s2' H2' fp
 have stat:∀{H':Hp},(∀b∈fp,H' b=none)→∀b∈fp,FpOk Xc [] H' b:=fun {H'} hn b hb=>by
  refine ⟨hn b hb,?_,?_, .inl hb,fun x a e => ?_,fun p hq => ?_⟩
  ·exact addr_ne (hfG b hb) (Nat.le_refl _)
  ·exact (cxC_ok I2' c hsub hhas (Nat.le_refl _) f2' fo).exfs b hb
  ·exact (f2 b hb).2.2.2.2.1 x a (hsub _ _ e)
  ·have q:p∈([]:List (Addr×Obj))++[]:=hq
   simp at q
 have loop:∀t1,codeAny (model X.prog X.w) X.A (.compLoop (.SetComp ex [⟨tg,iter,ifs,0⟩] scope pos) 0 (.ref it) (.ref s2.heap.objs.size) (compEnvC scope cl G.objs.size X.env))
   (compPost (model X.prog X.w) X.A X.xe use QV (.ref s2.heap.objs.size) G.objs.size) { s2 with heap:=h1,toks:=t1 }:=by
  intro t1
  refine scomp_turns (fun n s'=>∃i H',Inv Xc [] (List.replicate Nc.length none++cvals σ js) H' s'∧tn i s'.heap∧(∀b∈fp,H' b=none)∧W i n H') ?_ m0
   ⟨0,H2',cxC_inv0 I2' c hsub hhas (Nat.le_refl _) f2' fo old hns1,T.keep _ _ _ st2 (fun b hb o e=>old b o (toG b o e)),fun b hb=>(f2' b hb).1,w0⟩
  intro n s3
  refine Elim.go ?_
  rintro i H3 I3 st3 fr3 w3
  rcases turn i n H3 w3 with ⟨stop,qn⟩|⟨go,step⟩
  ·refine thn (T.done Xc rfl rfl rfl hcalm i _ s3 _ H3 noE I3 (stat fr3) st3 stop) fun r s4 ⟨hr,I4⟩ => ?_
   subst hr
   show compPost _ _ _ _ _ _ _ _ _
   refine Elim.el (I4.loc) _ ?_
   rintro mC hmC _
   have hCn:H3 G.objs.size=none:=I4.free
   have u:Un (frs X.stack) fp H2' H3 G s4.heap:=I4.base
   have hch:∀b∈fp,(b∈X.ex∨X.s₀.heap.objs.size≤b)∧b≠X.env.locals∧(∀x c,X.env.cells.lookup x=some c→c≠b)∧∀p∈X.pn++pins,p.1≠b:=fun b hb=>
    ⟨(f2 b hb).2.2.2.1,(f2 b hb).2.1,(f2 b hb).2.2.2.2.1,(f2 b hb).2.2.2.2.2⟩
   have os4:s4.os=s2'.os:=I4.os
   have J4:Inv X pins σ H3 s4:=I2'.call' (H':=H3) os4 u I4.hok I4.bare hch
   exact behind G.objs.size D mC H3 s4 J4 hmC (I2'.fpOk (Nat.le_refl _) hCn) qn
  ·refine thn (T.item Xc rfl rfl rfl hcalm i _ s3 _ H3 noE I3 (stat fr3) st3 go) fun r s4 hz_=>Elim.el hz_ _ fun u hr h4 => ?_
   subst hr
   show wpAny _ _ (letOwnedTupleGo tg (.ref it) u) _ _ _
   refine thn h4 fun _ s5 hz_=>Elim.el hz_ _ fun x H5 I5 r5 y5 st5 fr5 => ?_
   have I5':=I5.pinned (stat fr5) (T.obj _ _ st5)
   refine thn (hg cl G.objs.size s2' H2' fp s5 _ H5 x u _ I5' r5 (gk _ _ _ _ (step x H5 y5))) fun _ s6 hz_=>Elim.el hz_ _ fun σ6 H6 I6 q6 kσ kl => ?_
   refine thn (htc cl G.objs.size s2' H2' fp s6 σ6 H6 _ I6 q6) fun b s7 hz_=>Elim.el hz_ _ fun H7 I7 q7 => ?_
   have later:∀{σ':St} {H':Hp} {s':Shared},Inv Xc ([]++pinsAt fp s5.heap) σ' H' s'→tn (i+1) s'.heap∧∀b∈fp,H' b=none:=fun {σ' H' s'} Iz=>by
    refine ⟨T.keep _ _ _ st5 fun b hb o e=>(Iz.pin (b,o) (List.mem_append_right _ (List.mem_append_right _ (mem_pinsAt hb e)))).1,fun b hb => ?_⟩
    refine Elim.el (T.obj _ _ st5 b hb) _ ?_
    rintro o e d
    exact (Iz.pin (b,o) (List.mem_append_right _ (List.mem_append_right _ (mem_pinsAt hb e)))).2.1
   have back:∀{pl:List (Addr×Obj)} {H':Hp} {s':Shared},Inv Xc pl σ6 H' s'→Inv Xc pl (List.replicate Nc.length none++cvals σ js) H' s':=fun {pl H' s'} Iz=>by
    refine Iz.weak (by rw [←kl]) fun j v hj => ?_
    by_cases hn:j<Nc.length
    ·rw [List.getElem?_append_left (by simpa using hn),List.getElem?_replicate] at hj
     split at hj <;> cases hj
    ·rw [kσ j (by omega)];exact hj
   cases b with
   | false=>
    rw [if_neg Bool.false_ne_true] at q7 ⊢
    refine Elim.el (q7) _ ?_
    rintro m' hm' w7
    obtain ⟨l1,l2⟩:=later I7
    exact ⟨m',hm',i+1,H7,back I7.unpinned,l1,l2,w7⟩
   | true=>
    rw [if_pos rfl] at q7 ⊢
    refine thn (hte cl G.objs.size s2' H2' fp s7 σ6 H7 _ I7 q7) fun yv s8 hz_=>Elim.el hz_ _ fun y H8 I8 r8 q8 => ?_
    refine Elim.el (q8) _ ?_
    rintro ks k eD ey hl m' hm' w9
    subst ey
    refine s_add (X:=Xc) (kv:=kv) I8 eD hl r8 fun _ s10 I10 => ?_
    obtain ⟨l1,l2⟩:=later I10
    exact ⟨m',hm',i+1,_,back I10.unpinned,l1,l2,w9⟩
 exact scomp_start (loop _) (T.self _ 0 _ _ _ (T.keep _ _ _ st2 fun b hb o e=>old b o (toG b o e)) (loop _))
theorem pe_scomp {X:Cx} {KT:Type} [DecidableEq KT] (kv:KeyV X.prog X.w KT) {ex tg iter:Expr} {ifs:List Expr} {scope:Scope} {pos:Pos} {Nc Fc:List Str} {js:List Nat} {wi:TI} {g:TG} {tc:TT} {te:TE}
  (hcalm:X.calm=true) (c:CompOk X scope Nc Fc js) (hi:PI X tg iter wi) (gk:Gk Nc.length g)
  (hg:∀cl C s H fp,PG (cxC X Nc Fc scope cl C s H fp) tg g) (htc:∀cl C s H fp,PTs (cxC X Nc Fc scope cl C s H fp) ifs tc) (hte:∀cl C s H fp,PE (cxC X Nc Fc scope cl C s H fp) ex te)
  (hs:∀x,foldedSetIterable iter X.env x=pure x:=by intro _;rfl) :
  PE X (.SetComp ex [⟨tg,iter,ifs,0⟩] scope pos) (tSComp kv wi Nc.length js g tc te):=by
 intro pins s σ H Q I h
 rw [arm_eval_SetComp]
 refine scomp_core kv (use:=none) (fin:=fun D H2=>Q (.ref D) H2) hcalm c hi hg htc hte gk I h (fun C D m H2 s2 I2 hm hC q => ?_) hs
 refine ⟨m,hm,fun h' hs' => ?_⟩
 exact ⟨.ref D,_,I2.turned (it:=C) (t':=s2.toks) (fun b o hb e=>hs'.extBut b o hb e) hC.1 (hC.2.1) hC.2.2.2.1 hC.2.2.2.2.1 hC.2.2.2.2.2,rfl,q⟩
theorem scomp_go {P:Program} {w:World} {KT:Type} [DecidableEq KT] {kv:KeyV P w KT} {J:It} {n:Nat} {js:List Nat} {g:TG} {tc:TT} {te:TE} {σ:St} {D:Addr} {H1:Hp} {fin:Hp→Prop} (N:Nat) (Pv:Nat→Hp→Prop) (h0:Pv 0 H1)
  (go:∀i H (Nx:Hp→Prop),i<N→Pv i H→(∀H',Pv (i+1) H'→Nx H')→J.go i H ∧
   ∀x H',J.yld i H x H'→g x (List.replicate n none++cvals σ js) H' fun σ2 H2=>tc σ2 H2 fun b H3=>if b=true then te σ2 H3 fun y H4=>∃ks k,H4 D=some (setK kv D ks)∧y=kv.v k∧ks.length≤4000∧Nx (upd H4 D (setK kv D (oneMore ks k))) else Nx H3)
  (stop:∀H,Pv N H→J.stop N H∧fin H):CompS kv J n js g tc te σ D H1 fin:=by
 refine ⟨fun i m H=>m=N-i∧i≤N∧Pv i H,⟨N,by simp,Nat.zero_le _,h0⟩,?_⟩
 intro i m H
 refine Elim.go ?_
 rintro rfl hi p
 by_cases hlt:i<N
 ·obtain ⟨g1,g2⟩:=go i H (fun H'=>∃m',m'<N-i∧(m'=N-(i+1)∧i+1≤N∧Pv (i+1) H')) hlt p fun H' q=>⟨_,by omega,rfl,hlt,q⟩
  exact .inr ⟨g1,fun x H' y=>g2 x H' y⟩
 ·have e:i=N:=by omega
  subst e
  exact .inl (stop H p)
end L2
namespace L2
open PySem PySem.Spec PyProof.Rows
section
variable {X:Cx}
theorem pe_gstr {x:Str} {z:Str} {t:Tok} {pos:Pos} (hg:Gl X x) (hm:X.mg x=some (.str z t)) (hd:(x == ("__debug__" : Str))=false:=by decide):PE X (.Name x pos) (tC (.str z)):=pe_glob (v := .str z) hg hm ⟨t,rfl⟩ hd
theorem pe_gint {x:Str} {z:Int} {t:Tok} {pos:Pos} (hg:Gl X x) (hm:X.mg x=some (.int z t)) (hd:(x == ("__debug__" : Str))=false:=by decide):PE X (.Name x pos) (tC (.int z)):=pe_glob (v := .int z) hg hm ⟨t,rfl⟩ hd
end
end L2
namespace L2
open PySem PySem.Spec PyProof.Rows
section
variable {X:Cx} (K:PySem.W.Frag)
end
section
variable {X:Cx}
end
end L2
namespace L2
open PySem PySem.Spec PyProof.Rows
section
variable {X:Cx} {tg:Expr}
end
theorem ps_dead {X:Cx} {st:Stmt} : PS X st (fun _ _ _=>False):=by
 intro pins s σ H D I h
 exact h.elim
end L2
namespace L2
open PySem PySem.Spec PyProof.Rows
section
variable {X:Cx}
end
end L2
namespace L2
open PySem PySem.Spec PyProof.Rows
section
variable {X:Cx} {K:PySem.W.Frag}
end
end L2
namespace L2
open PySem PySem.Spec PyProof.Rows PySem.W
section
variable {X:Cx} {pins:List (Addr×Obj)} {σ:St} {H:Hp} {s:Shared}
end
section
variable {X:Cx}
end
end L2
namespace L2
open PySem PySem.Spec PyProof.Rows
section
variable {X:Cx}
end
end L2
namespace L2
open PySem PySem.Spec PyProof.Rows
section
variable {X:Cx} {e:Expr} {te:TE} {j p2 p3 p4 pos}
end
end L2
namespace L2
open PySem PySem.Spec PyProof.Rows
theorem PE.weak {X:Cx} {e:Expr} {t t':TE} (h:PE X e t) (w:∀ σ H Q,t' σ H Q→t σ H Q):PE X e t':=fun _ s σ H Q I q=>h s σ H Q I (w σ H Q q)
theorem PA.weak {X:Cx} {es:List Expr} {t t':TA} (h:PA X es t) (w:∀ σ H Q,t' σ H Q→t σ H Q):PA X es t':=fun _ _ s σ H Q I q=>h s σ H Q I (w σ H Q q)
noncomputable def newOf (H H':Hp):Hp:=fun a=>match H a with
 | none=>H' a
 | some _=>none
theorem newOf_none {H H':Hp} {a:Addr} (h:H a=none):newOf H H' a=H' a:=by unfold newOf;rw [h]
theorem of_newOf {H H':Hp} {a:Addr} {o:HO} (h:newOf H H' a=some o):H a=none∧H' a=some o:=by
 unfold newOf at h
 cases e:H a with
 | none=>rw [e] at h;exact ⟨rfl,h⟩
 | some u=>rw [e] at h;cases h
theorem newOf_more {H H1 H2:Hp} (s:Same H1 H2):Same (newOf H H1) (newOf H H2):=fun a o h=>by
 rw [newOf_none (of_newOf h).1];exact s a o (of_newOf h).2
theorem newOf_less {H H1 H2:Hp} (s:Same H H1):Same (newOf H1 H2) (newOf H H2):=fun a o h=>by
 rw [newOf_none (s.free (of_newOf h).1)];exact (of_newOf h).2
noncomputable def tLit (K:PySem.W.Frag) (d:PyData):TE:=fun _ H Q=>∀v H',Same H H'→Den K (newOf H H') d v→Q v H'
noncomputable def tLits (K:PySem.W.Frag) (ds:List PyData):TA:=fun _ H Q=>∀vs H',Same H H'→Dens K (newOf H H') ds vs→Q vs H'
section
variable {X:Cx} {K:PySem.W.Frag}
theorem lit_str {x:Str} {j pos} : PE X (.Constant (.str x) j pos) (tLit K (.str x)):=pe_str.weak fun σ H Q h=>h _ H (Same.refl _) (by unfold Den;rfl)
theorem lits_nil:PA X [] (tLits K []):=pa_nil.weak fun σ H Q h=>h [] H (Same.refl _) (by unfold Dens;rfl)
theorem lits_cons {e:Expr} {es:List Expr} {d:PyData} {ds:List PyData} (h:PE X e (tLit K d)) (hs:PA X es (tLits K ds)) (hst:starEach (e :: es) X.env=(false,eval e X.env) :: starEach es X.env:=by rfl):PA X (e :: es) (tLits K (d :: ds)):=
 (pa_cons h hs hst).weak fun σ H Q q v H1 s1 d1 vs H2 s2 d2=>q (v :: vs) H2 (s1.trans s2) (by
  unfold Dens
  exact ⟨v,vs,rfl,d1.same (newOf_more s2),d2.same (newOf_less s1)⟩)
theorem lens_of {K:PySem.W.Frag} {H:Hp} : ∀{ds:List PyData} {vs:List V},Dens K H ds vs→vs.length=ds.length
 | [],_,h=>by unfold Dens at h;subst h;rfl
 | d :: ds,vs,h=>by
  unfold Dens at h
  obtain ⟨v,r,rfl,h1,h2⟩:=h
  rw [List.length_cons,List.length_cons,lens_of h2]
end
structure CDict (K:PySem.W.Frag) (w:World) (a:Addr):Prop where
 ex:∃es n,K.lookup a=some ⟨.type "dict",none, .dict es n, #[]⟩∧PySem.W.KeysLit w.params es.toList
noncomputable def tCGet (K:PySem.W.Frag) (w:World) (td ty:TE):TE:=fun σ H Q=>td σ H fun x H1=>ty σ H1 fun y H2=>∃a k u v,x = .ref a∧y = .str k∧CDict K w a∧PySem.W.nsIn K a k=some (some u)∧RelV v u∧Q v H2
section
variable {X:Cx} {o i:Expr} {td ty:TE} {pos:Pos}
theorem pe_cget (K:PySem.W.Frag) (w:World) (ho:PE X o td) (hi:PE X i ty) (hs:NoSl i) (hK:X.K=K:=by rfl) (hw:X.w=w:=by rfl):PE X (.Subscript o i pos) (tCGet K w td ty):=by
 subst hK hw
 intro pins s σ H Q I h
 refine subD_of PySem.F.slot_dict_getitem.lookup hs (thn (ho s σ H _ I h) fun u s1 hz_=>Elim.el hz_ _ fun x H1 I1 rx q1=>thn (hi s1 σ H1 _ I1 q1) fun iv s2 hz_ => ?_)
 refine Elim.el hz_ _ ?_
 clear hz_
 rintro y H2 I2 ry ⟨a,k,u',v,ex,ey,cd,e,rv,q2⟩
 subst ex ey
 obtain rfl:u=Value.ref a:=rx
 obtain ⟨t,rfl⟩:=ry
 obtain ⟨es,n,hl,hk⟩:=cd.ex
 have hm:=PySem.W.mapOf_K (prog:=X.prog) I2.kIn hl hk
 exact ⟨hm.typeIs,wpAny_getItem_of (strKind_is X.prog X.w k t) hm (PySem.W.find_K hl e) ⟨v,H2,I2.tok _,rv,q2⟩⟩
end
noncomputable def inD (d:PyData) (ds:List PyData):Bool:=ds.any fun e=>PyData.eqv e d
noncomputable def rInD (K:PySem.W.Frag) (neg:Bool):R2:=fun x y H Q=>Ex4 fun p xs d ds=>y = .ref p∧(SqL K H p xs∨SqT K H p xs)∧Den K H d x∧Dens K H ds xs∧d.canLay0=true∧(∀e∈ds,SeqAt.shaped e=true)∧Q (.bl (if neg then !inD d ds else inD d ds)) H
section
variable {X:Cx} {pins:List (Addr×Obj)} {σ:St} {H:Hp} {s:Shared}
open Classical in
noncomputable def answ (h:Heap) (d:PyData) (u:Value):Bool:=if hd:∃e as,Reads h u e as∧e.canLay0=true∧e.depth≤64 then PyData.eqv hd.choose d else false
theorem eqAt_data (hu:X.A.units+66<cLine) (I:Inv X pins σ H s) {d:PyData} {x:V} {v:Value} (hd:Den X.K H d x) (rx:RelV x v) (hc:d.canLay0=true) {e:PyData} {y:V} {u:Value} (he:Den X.K H e y) (ry:RelV y u) (hs:SeqAt.shaped e=true) :
  SeqAt.EqAt X.A.in1 s u v (PyData.eqv e d):=by
 obtain ⟨as,ra⟩:=hd.reads I rx
 obtain ⟨bs,rb⟩:=he.reads I ry
 have hdp:=SeqAt.depth_of_shaped hs
 refine SeqAt.eqAt_reads e d X.A.in1 s u v bs as rb ra (SeqAt.canLay_of_shaped hs) hc ?_
 have:X.A.in1.units=X.A.units+1:=rfl
 have:min e.depth d.depth≤e.depth:=Nat.min_le_left _ _
 omega
theorem answ_of (hu:X.A.units+66<cLine) (I:Inv X pins σ H s) {d:PyData} {x:V} {v:Value} (hd:Den X.K H d x) (rx:RelV x v) (hc:d.canLay0=true):∀{ds:List PyData} {xs:List V} {us:List Value},Dens X.K H ds xs→Vals xs us→(∀e∈ds,SeqAt.shaped e=true) →
  ∃f:Value→Bool,(∀u∈us,SeqAt.EqAt X.A.in1 s u v (f u))∧us.any f=inD d ds:=by
 intro ds xs us h r hs
 refine ⟨answ s.heap d,?_⟩
 induction ds generalizing xs us with
 | nil=>unfold Dens at h;subst h;cases r;exact ⟨(fun u hu=>nomatch hu),rfl⟩
 | cons e ds ih=>
  unfold Dens at h
  obtain ⟨y,ys,rfl,h1,h2⟩:=h
  cases r with
  | @cons _ u _ us r1 r2=>
   obtain ⟨g1,g2⟩:=ih h2 r2 fun e he=>hs e (List.mem_cons_of_mem _ he)
   have hse:=hs e List.mem_cons_self
   obtain ⟨bs,rb⟩:=h1.reads I r1
   have hex:∃e as,Reads s.heap u e as∧e.canLay0=true∧e.depth≤64:=⟨e,bs,rb,SeqAt.canLay_of_shaped hse,SeqAt.depth_of_shaped hse⟩
   have ea:answ s.heap d u=PyData.eqv hex.choose d:=by unfold answ;rw [dif_pos hex]
   have eqc:hex.choose=e:=SeqAt.Reads.unique _ _ _ _ _ hex.choose_spec.choose_spec.2.1 hex.choose_spec.choose_spec.1 rb
   refine ⟨fun u' hu' => ?_,?_⟩
   ·rcases List.mem_cons.mp hu' with rfl|hu'
    ·rw [ea,eqc];exact eqAt_data hu I hd rx hc h1 r1 hse
    ·exact g1 u' hu'
   ·rw [List.any_cons,g2,ea,eqc];rfl
end
section
variable {X:Cx}
theorem in_dat (hu:X.A.units+66<cLine):OpR X (compareOp .In) (rInD X.K false):=by
 intro pins s σ H x y v u Q I rx ry h
 obtain ⟨p,xs,d,ds,rfl,hq,hd,hds,hc,hs,q⟩:=h
 cases ry
 rcases hq with hq|hq
 ·obtain ⟨its,r,pl,hz⟩:=I.list hq
  obtain ⟨f,g1,g2⟩:=answ_of hu I hd rx hc hds r hs
  refine SeqAt.in_listAt f pl.isList (fun w hw=>g1 w (by simpa using hw)) ⟨.bl _,H,I,rfl,?_⟩
  rw [show its.toArray.any f=its.any f by simp,g2]
  exact q
 ·obtain ⟨its,r,pl,hz⟩:=I.tuple hq
  obtain ⟨f,g1,g2⟩:=answ_of hu I hd rx hc hds r hs
  refine SeqAt.in_tupleAt f pl (fun w hw=>g1 w (by simpa using hw)) ⟨.bl _,H,I,rfl,?_⟩
  rw [show its.toArray.any f=its.any f by simp,g2]
  exact q
theorem notin_dat (hu:X.A.units+66<cLine):OpR X (compareOp .NotIn) (rInD X.K true):=by
 intro pins s σ H x y v u Q I rx ry h
 obtain ⟨p,xs,d,ds,rfl,hq,hd,hds,hc,hs,q⟩:=h
 cases ry
 rcases hq with hq|hq
 ·obtain ⟨its,r,pl,hz⟩:=I.list hq
  obtain ⟨f,g1,g2⟩:=answ_of hu I hd rx hc hds r hs
  refine SeqAt.notIn_listAt f pl.isList (fun w hw=>g1 w (by simpa using hw)) ⟨.bl _,H,I,rfl,?_⟩
  rw [show its.toArray.any f=its.any f by simp,g2]
  exact q
 ·obtain ⟨its,r,pl,hz⟩:=I.tuple hq
  obtain ⟨f,g1,g2⟩:=answ_of hu I hd rx hc hds r hs
  refine SeqAt.notIn_tupleAt f pl (fun w hw=>g1 w (by simpa using hw)) ⟨.bl _,H,I,rfl,?_⟩
  rw [show its.toArray.any f=its.any f by simp,g2]
  exact q
theorem inDK (K:PySem.W.Frag) (hu:X.A.units+66<cLine) (hK:X.K=K:=by rfl):OpR X (compareOp .In) (rInD K false):=by subst hK;exact in_dat hu
theorem notInDK (K:PySem.W.Frag) (hu:X.A.units+66<cLine) (hK:X.K=K:=by rfl):OpR X (compareOp .NotIn) (rInD K true):=by subst hK;exact notin_dat hu
end
section
variable {X:Cx}
noncomputable def rSlTN (K:PySem.W.Frag):V→Option Int→Option Int→Hp→VK→Prop:=fun x lo hi H Q=>Ex2 fun a xs=>x = .ref a∧SqT K H a xs ∧
 ¬(HT.sIx xs.length 0 lo=0∧HT.sIx xs.length xs.length hi=xs.length)∧∀p H',New H p (.tup (cutV xs lo hi)) H'→Q (.ref p) H'
theorem slTN (K:PySem.W.Frag) (hK:X.K=K:=by rfl):SlR X (rSlTN K):=by
 subst hK
 intro pins s σ H x v vl vu lo hi sl Q I rx hs pl pu q
 refine sl_tup s σ H x v vl vu lo hi sl Q I rx hs pl pu ?_
 obtain ⟨a,xs,e,h,nw,q⟩:=q
 exact ⟨a,xs,e,h,nw,fun p hp=>q p _ ⟨hp,rfl⟩⟩
end
theorem sqt_mk {K:PySem.W.Frag} {a:Addr} {dd:Option Addr} {its:List Value} {n:Nat} {sl:Array (Option Value)} {xs:List V} (h:K.lookup a=some ⟨.type "tuple",dd, .seq its.toArray n,sl⟩) (hv:Vals xs its) (hz:xs.length≤1000) (H:Hp):SqT K H a xs:=
 .inr ⟨_,its.toArray,n,h,rfl,rfl,Nat.le_trans (by rw [List.size_toArray, ←hv.length];exact hz) (show 1000≤sizeLine by decide),by simpa using hv⟩
theorem hu66_of {k:Nat} {A:Around} (r:Room k A):A.units+66<cLine:=by have:=r.un;omega
noncomputable def tLitL (K:PySem.W.Frag) (ds:List PyData):TE:=fun _ H Q=>∀p vs H',Same H H'→newOf H H' p=some (.lst vs)→Dens K (newOf H H') ds vs→Q (.ref p) H'
theorem lit_lstO {X:Cx} {K:PySem.W.Frag} {es:List Expr} {ds:List PyData} {pos:Pos} (h:PA X es (tLits K ds)) (hl:ds.length≤1000:=by decide):PE X (.List es pos) (tLitL K ds):=
 (lstN h).weak fun σ H Q q vs H1 s1 d1=>⟨Nat.le_trans (by rw [lens_of d1];exact hl) (show 1000≤sizeLine by decide),fun p H' n=>q p vs H' (s1.trans n.same) (by rw [newOf_none (s1.free n.nn)];exact n.at) (d1.same (newOf_more n.same))⟩
end L2
namespace L2
open PySem PySem.Spec PyProof.Rows PySem.W PySem.Calls Builtin Builtin.ObjectAttr
section
variable {prog:Program} {w:World} {A:Around} {K:Frag} {C e:Addr} {s:Shared} {E:Value→Shared→Prop} {f:Str} {v:Value}
end
section
variable {prog:Program} {w:World} {A:Around} {E:Value→Shared→Prop} {h0:Heap} {g0:Array GenState} {d0:Drawn} {t0:Nat} {os0:OsState} {nm qn:Str} {C N fi:Addr} {bs up tail:List Value} {hdct:Bool} {sn:List Str} {sub:List Value} {ab:Bool}
 {col:Option Bool} {dd:Option Addr} {k0 k1 k2 k3 k5:Option Value} {B newId initId:String}
end
section
variable {X:Cx} {pins:List (Addr×Obj)} {σ:St} {H:Hp} {s:Shared} {e C:Addr}
end
section
variable {K:Frag} {C D N:Addr} {nm qn:Str} {bs up:List Value} {hdct:Bool} {sn:List Str} {sub:List Value} {ab:Bool} {col:Option Bool} {dd:Option Addr} {k0 k1 k2 k3 k5:Option Value}
end
section
variable {prog:Program} {w:World} {A:Around} {E:Value→Shared→Prop}
end
end L2
namespace L2
open PySem PySem.Spec PyProof.Rows PySem.Builtin PySem.Builtin.Str
end L2
namespace L2
open PySem PySem.Spec PyProof.Rows
end L2
namespace L2
open PySem PySem.Spec PyProof.Rows
section
variable {prog:Program} {w:World} {K:Type} [DecidableEq K] {knd:KeyKind prog w K} {A:Around} {E:Value→Shared→Prop} {s:Shared}
end
structure FeedL (prog:Program) (w:World) (A:Around) (it S:Addr) (fp:Addr→Prop) (n:Nat) (P:Nat→Value→Heap→Prop) (R:Value→Value→Prop) (St:Nat→Heap→Prop):Prop where
 sfp:¬fp S
 item:∀i (s:Shared) (Q:Option Value→Shared→Prop) (E:Value→Shared→Prop),i<n→St i s.heap→S<s.heap.objs.size →
  (∀v h' tk,Keeps s.heap h' fp→St (i+1) h'→P i v h'→(∀j u,P j u s.heap→R u v)→Q (some v) { s with heap:=h',toks:=tk })→wpAny (model prog w) A (pyNext (.ref it)) Q E s
 stop:∀(s:Shared) (Q:Option Value→Shared→Prop) (E:Value→Shared→Prop),St n s.heap→S<s.heap.objs.size→(∀h' tk,Keeps s.heap h' fp→Q none { s with heap:=h',toks:=tk })→wpAny (model prog w) A (pyNext (.ref it)) Q E s
 keepS:∀i h h',St i h→Keeps h h' (· = S)→St i h'
 keepP:∀j v h h',P j v h→Keeps h h' (fun b=>fp b∨b=S)→P j v h'
section
variable {prog:Program} {w:World} {A:Around} {it S:Addr} {fp:Addr→Prop} {n:Nat} {P:Nat→Value→Heap→Prop} {R:Value→Value→Prop} {St:Nat→Heap→Prop}
theorem feed_loopL (Fd:FeedL prog w A.in1 it S fp n P R St) (hn:n≤sizeLine) {s:Shared} {Z:Result→Shared→Prop} {res:Value} {g:Heap} (fin:FeedEnd g S fp n P R s (Z (.ok (.ret res)))) :
  ∀(k i:Nat) (h:Heap) (tk:Nat) (acc:Array Value) (c:Nat),i+k=n→St i h→Grown h S i P R acc c→Keeps g h (fun b=>fp b∨b=S) →
   codeAny (model prog w) A (.builtin "list.extend.loop" ⟨[.ref S, .ref it,res],[]⟩) Z { s with heap:=h,toks:=tk }
 | 0,i,h,tk,acc,c,hk,hst,G,kp=>by
  have e:i=n:=by omega
  subst e
  refine codeAny_builtin PySem.F.entry_extend_loop ?_
  rw [Around.under_plainId PySem.F.plain_extend_loop _]
  refine wpAny_bind (Fd.stop { s with heap:=h,toks:=tk } _ _ hst (Heap.lt_size G.ob) fun h' tk' k'=>wpAny_pure ?_)
  exact fin h' tk' acc c (fun b o nb q=>k' b o (fun z=>nb (.inl z)) (kp b o nb q)) ⟨k' _ _ Fd.sfp G.ob,G.sz,G.pw,fun j v e=>Fd.keepP _ _ _ _ (G.all j v e) fun b o nb q=>k' b o (fun z=>nb (.inl z)) q⟩
 | k+1,i,h,tk,acc,c,hk,hst,G,kp=>by
  refine codeAny_builtin PySem.F.entry_extend_loop ?_
  rw [Around.under_plainId PySem.F.plain_extend_loop _]
  refine wpAny_bind (Fd.item i { s with heap:=h,toks:=tk } _ _ (by omega) hst (Heap.lt_size G.ob) fun v h' tk' k' st' pv rv => ?_)
  have ob':=k' _ _ Fd.sfp G.ob
  have other:Keeps h' (h'.update S (Obj.mapSeq (·.push v))) (· = S):=fun b o nb q=>(Heap.get?_update_other _ _ (Ne.symm nb)).trans q
  have k2:Keeps h (h'.update S (Obj.mapSeq (·.push v))) (fun b=>fp b∨b=S):=fun b o nb q=>other b o (fun z=>nb (.inr z)) (k' b o (fun z=>nb (.inl z)) q)
  have sz:=G.sz
  refine wpAny_bind (wpAny_updateSeq ob' rfl (wpAny_pure ⟨plainId_quiet PySem.F.plain_extend_loop _,?_⟩) (by rw [sz];omega) (by show (acc.push v).size≤sizeLine+1;rw [Array.size_push,sz];omega))
  refine feed_loopL Fd hn fin k (i+1) _ tk' (acc.push v) _ (by omega) (Fd.keepS _ _ _ st' other) ⟨Heap.get?_update_self _ ob' rfl,by rw [Array.size_push,sz],?_,fun j u e => ?_⟩ (fun b o nb q=>k2 b o nb (kp b o nb q))
  ·rw [Array.toList_push]
   refine List.pairwise_append.mpr ⟨G.pw,List.pairwise_singleton _ _,fun a ha b hb => ?_⟩
   obtain ⟨j,hj⟩:=List.mem_iff_getElem?.mp ha
   rw [List.mem_singleton.mp hb]
   exact rv j a (G.all j a (by simpa using hj))
  ·by_cases hj:j<i
   ·rw [Array.getElem?_push_lt (by omega)] at e
    exact Fd.keepP _ _ _ _ (G.all j u (by rw [Array.getElem?_eq_getElem (by omega)];exact e)) k2
   ·have hj':j=i:=by
     have:=(Array.getElem?_eq_some_iff.mp e).1
     rw [Array.size_push] at this
     omega
    subst hj'
    have e':(acc.push v)[acc.size]? = some u:=by rw [sz];exact e
    rw [Array.getElem?_push_size] at e'
    cases e'
    exact Fd.keepP _ _ _ _ pv fun b o nb q=>other b o (fun z=>nb (.inr z)) q
end
section
variable {prog:Program} {w:World} {K:Type} [DecidableEq K] {knd:KeyKind prog w K}
end
section
variable {X:Cx}
end
end L2
namespace L2
open PySem PySem.Spec PyProof.Rows
open AutoSeq1 (wpAny_loadPart')
section
variable {prog:Program} {w:World} {A:Around} {E:Value→Shared→Prop} {s:Shared}
end
end L2
namespace L2
open PySem PySem.Spec PyProof.Rows
theorem set_it_slot:Slot "set_iterator" "__next__" "set_iterator.__next__":=by
 refine .of (owner := "set_iterator") (n := "__next__") ?_ ?_ ?_ ?_ ?_ ?_
 ·rw [typeLookup_type,builtinLookup_eq_fast];kernel_rfl
 ·decide +kernel
 ·decide +kernel
 ·decide +kernel
 ·first
   | exact .inl (by decide +kernel)
   | exact .inr (by decide +kernel)
 ·rw [isSubtype_type];kernel_rfl
theorem set_it_entry:entryFor table "set_iterator.__next__" = some Builtin.«set_iterator.__next__»:=entryFor_of_fast (by kernel_rfl)
theorem set_it_args (a:Value):argsOk "set_iterator.__next__" ⟨[a],[]⟩:=by
 unfold argsOk
 rw [signature?_of (id := "set_iterator.__next__") (n := "__txen__".toList) (o := "rotareti_tes".toList) (rows:=Manifest.sig_set_iterator) (by kernel_rfl) (by kernel_rfl)]
 kernel_rfl
theorem set_iter_entry:entryFor table "set.__iter__" = some Builtin.«frozenset.__iter__»:=entryFor_alias (id' := "frozenset.__iter__") (by kernel_rfl) rfl (by decide +kernel) (by kernel_rfl)
theorem erase_perm {α:Type} : ∀{l:List α} {i:Nat} (h:i<l.length),List.Perm (l[i] :: l.eraseIdx i) l
 | x :: l,0,h=>List.Perm.refl _
 | x :: l,i+1,h=>by
  rw [List.eraseIdx_cons_succ,List.getElem_cons_succ]
  exact (List.Perm.swap _ _ _).trans ((erase_perm (Nat.lt_of_succ_lt_succ h)).cons x)
theorem pick_go {α:Type} (next:Nat→Nat):∀(n k:Nat) (left:List α) (out:Array α),left.length=n→List.Perm (pickOrder.go next n k left out).toList (out.toList++left)
 | 0,k,left,out,h=>by
  unfold pickOrder.go
  rw [List.eq_nil_of_length_eq_zero h,List.append_nil]
 | n+1,k,left,out,h=>by
  unfold pickOrder.go
  have hp:next k % left.length<left.length:=Nat.mod_lt _ (by omega)
  rw [List.getElem?_eq_getElem hp]
  dsimp only
  refine (pick_go next n (k+1) _ _ (by rw [List.length_eraseIdx,if_pos hp];omega)).trans ?_
  rw [Array.toList_push,List.append_assoc]
  refine List.Perm.append_left _ ?_
  rw [List.singleton_append]
  exact erase_perm hp
theorem pick_perm {α:Type} (next:Nat→Nat) (xs:Array α):List.Perm (pickOrder next xs).toList xs.toList:=pick_go next _ 0 _ #[] rfl
theorem draw_order {M:Model} {A:Around} {E:Value→Shared→Prop} {α:Type} : ∀(n:Nat) (xs:List α) (s:Shared) (Q:List α→Shared→Prop),xs.length=n →
  (∀ys d,List.Perm ys xs→Q ys { s with drawn:=d })→wpAny M A (drawOrder n xs) Q E s:=by
 intro n
 induction n with
 | zero=>
  intro xs s Q h q
  unfold drawOrder
  exact wpAny_pure (q [] s.drawn (by rw [List.eq_nil_of_length_eq_zero h]))
 | succ n ih=>
  intro xs s Q h q
  cases xs with
  | nil=>cases h
  | cons x xs=>
   unfold drawOrder
   refine wpAny_bind (fun Γ p hΓ => ?_)
   unfold choose
   rw [Sem.wp_choose]
   refine ⟨by simp,?_⟩
   have hp:M.w.draws .order (s.drawn.get .order) % (x :: xs).length<(x :: xs).length:=Nat.mod_lt _ (by simp)
   generalize M.w.draws .order (s.drawn.get .order) % (x :: xs).length=i at hp ⊢
   rw [Sem.wp_pure]
   dsimp only
   rw [List.getElem?_eq_getElem hp]
   refine wpAny_bind (ih _ _ _ (by rw [List.length_eraseIdx,if_pos hp];omega) fun ys d hy=>wpAny_pure (q _ d ?_))
   exact (hy.cons _).trans (erase_perm hp)
end L2
namespace L2
open PySem PySem.Spec PyProof.Rows
noncomputable def byT (w:World):Bool:=w.params.followText "set-order"
inductive SOrd (w:World) (a:Addr) (es:Array (Int×Value)) (ep:Nat) (t:SetTable) (lo i:Nat) (h:Heap) (it:Addr):Value→List Value→Prop
 | text (b:byT w=true):SOrd w a es ep t lo i h it (.int 0 0) ((pickOrder (w.params.setOrder a ep) es).toList.map (·.2))
 | places (b:byT w=false) (d:(!t.plain&&decide (es.size>1))=false) (l:t.led=true) (z:Nat) (c:Cut t.place z i):SOrd w a es ep t lo i h it (.int (z:Int) 0) (es.toList.map (·.2))
 | drawn (ys:List Nat) (p:List.Perm ys (List.range es.size)) (tp:Addr) (low:lo≤tp) (ne:tp≠it) (o:Obj) (n:Nat) (e:h.get? tp=some o) (d:o.data = .seq (ys.map fun (k:Nat)=>rawInt k).toArray n):SOrd w a es ep t lo i h it (.ref tp) (ys.map fun k=>(es.toList.map (·.2)).getD k .none)
structure SSt (w:World) (a:Addr) (es:Array (Int×Value)) (ep:Nat) (t:SetTable) (lo:Nat) (vals:List Value) (it:Addr) (i:Nat) (h:Heap):Prop where
 set:∃o,h.get? a=some o∧o.data = .set es ep t
 fit:t.fits es.size=true
 good:GoodT t
 ne:a≠it
 low:lo≤it
 ex:∃first,SOrd w a es ep t lo i h it first vals∧h.get? it=some { cls := .type "set_iterator",data := .fields #[first, .int i 0, .ref a, .int es.size 0, .int ep 0] }
theorem SSt.keep {w:World} {a:Addr} {es:Array (Int×Value)} {ep:Nat} {t:SetTable} {lo:Nat} {vals:List Value} {it:Addr} {i:Nat} {h h':Heap} (x:SSt w a es ep t lo vals it i h) (k:∀b o,h.get? b=some o→(b=a∨lo≤b)→h'.get? b=some o):SSt w a es ep t lo vals it i h':=by
 obtain ⟨⟨o,e1,e2⟩,ft,g,ne,low,first,so,e3⟩:=x
 refine ⟨⟨o,k _ _ e1 (.inl rfl),e2⟩,ft,g,ne,low,first,?_,k _ _ e3 (.inr low)⟩
 cases so with
 | text b=>exact .text b
 | places b d l z c=>exact .places b d l z c
 | drawn ys p tp tl ne o n e d=>exact .drawn ys p tp tl ne o n (k _ _ e (.inr tl)) d
section
variable {prog:Program} {w:World} {A:Around} {E:Value→Shared→Prop} {s:Shared} {a:Addr} {es:Array (Int×Value)} {ep:Nat} {t:SetTable} {o:Obj} {lo:Nat}
theorem set_iter {Q:Value→Shared→Prop} (ho:s.heap.get? a=some o) (hx:o.ExactSet) (hd:o.data = .set es ep t) (hf:t.fits es.size=true) (g:GoodT t) (l:byT w=false→t.led=true) (hz:es.size≤sizeLine)
  (fin:∀it h' d vals,vals.length=es.size→List.Perm vals (es.toList.map (·.2))→s.heap.objs.size≤it→(∀b o,s.heap.get? b=some o→h'.get? b=some o)→SSt w a es ep t s.heap.objs.size vals it 0 h'→Q (.ref it) { s with heap:=h',drawn:=d }) :
  wpAny (model prog w) A (pyIter (.ref a)) Q E s:=by
 have hT:s.TypeIs (.ref a) "set":=⟨o,ho,hx.1⟩
 have low:a<s.heap.objs.size:=Heap.lt_size ho
 refine wpAny_pyIter_slot hT F.slot_set_iter (wpAny_call_entry F.slot_set_iter hT set_iter_entry ?_ (F.args_set_iter_1 _))
 unfold Builtin.«frozenset.__iter__» Builtin.Frozenset.slot0 slotArgs Builtin.Frozenset.addrOf Builtin.Frozenset.sizeOf setEntries setDrawn setEpoch setsByText
 simp -iota only [List.isEmpty_nil,Bool.not_true,Bool.false_eq_true, ↓reduceIte,bind_assoc,List.length_nil,bne_self_eq_false]
 dsimp only
 try simp -iota only [bind_assoc,Bool.false_eq_true, ↓reduceIte]
 refine wpAny_bind (wpAny_pure (wpAny_bind (wpAny_pure (wpAny_bind (wpAny_setState_of ho hd hf (wpAny_bind (wpAny_pure (wpAny_bind (wpAny_pure (wpAny_bind (wpAny_setState_of ho hd hf ?_)))))))))))
 refine wpAny_bind (wpAny_askSetting (wpAny_bind (wpAny_pure (wpAny_bind (wpAny_pure ?_)))))
 have last:∀(s1:Shared) (d:Drawn) (first:Value) (vals:List Value),s1.drawn=d→s1.gens=s.gens→s1.toks=s.toks→s1.os=s.os→(∀b o,s.heap.get? b=some o→s1.heap.get? b=some o)→s.heap.objs.size≤s1.heap.objs.size→vals.length=es.size→List.Perm vals (es.toList.map (·.2)) →
   (∀h' it,s1.heap.objs.size≤it→(∀b o,s1.heap.get? b=some o→h'.get? b=some o)→SOrd w a es ep t s.heap.objs.size 0 h' it first vals) →
   wpAny (model prog w) A.in1 (do
    let x ←setState a
    let y ←pure x.2.1
    let z ←newFields "set_iterator" [first,rawInt 0, .ref a,rawInt es.size,rawInt y]
    ret z) (fun fin s'=>∃v,fin = .done (.ret v)∧∃T' r,s'.TypeIs v T'∧typeLookup (.type T') (Str.ofString "__next__")=pure (some r)∧Q v s') E s1:=by
  intro s1 d first vals e1 e2 e3 e4 k1 z1 hl hp so
  refine wpAny_bind (wpAny_setState_of (k1 _ _ ho) hd hf (wpAny_bind (wpAny_pure ?_)))
  unfold newFields
  refine wpAny_bind (wpAny_newObj_type (wpAny_pure ?_))
  refine ⟨_,rfl, "set_iterator",_,⟨_,Heap.get?_push_size _ rfl,rfl⟩,set_it_slot.lookup,?_⟩
  have k2:∀b o,s1.heap.get? b=some o→(s1.heap.push { cls := .type "set_iterator",data := .fields [first,rawInt 0, .ref a,rawInt es.size,rawInt ep].toArray }).get? b=some o:=fun b o x=>Heap.get?_push_of_some _ x
  have q:=fin s1.heap.objs.size (s1.heap.push { cls := .type "set_iterator",data := .fields [first,rawInt 0, .ref a,rawInt es.size,rawInt ep].toArray }) d vals hl hp z1 (fun b o x=>k2 b o (k1 b o x)) ⟨⟨o,k2 _ _ (k1 _ _ ho),hd⟩,hf,g,Nat.ne_of_lt (Nat.lt_of_lt_of_le low z1),z1,first,so _ _ (Nat.le_refl _) k2,Heap.get?_push_size _ rfl⟩
  subst e1
  rw [←e2, ←e3, ←e4] at q
  exact q
 have lv:(es.toList.map (·.2)).length=es.size:=by rw [List.length_map,Array.length_toList]
 cases hb:byT w with
 | true=>
  have hb':w.params.followText "set-order" = true:=hb
  refine wpAny_ite ?_
  rw [if_neg (by show ¬((!w.params.followText "set-order" && _)=true);rw [hb'];exact Bool.false_ne_true)]
  refine wpAny_bind (wpAny_pure ?_)
  have pm:=pick_perm (w.params.setOrder a ep) es
  exact last s s.drawn _ _ rfl rfl rfl rfl (fun _ _ x=>x) (Nat.le_refl _) (by rw [List.length_map,pm.length_eq,Array.length_toList]) (pm.map _) fun h' it _ _ => .text hb
 | false=>
  have hb':w.params.followText "set-order" = false:=hb
  refine wpAny_ite ?_
  cases hc:(!t.plain&&decide (es.size>1)) with
  | false=>
   rw [if_neg (by show ¬((!w.params.followText "set-order" && (!t.plain&&decide (es.size>1)))=true);rw [hb',hc];exact Bool.false_ne_true)]
   refine wpAny_bind (wpAny_pure ?_)
   exact last s s.drawn _ _ rfl rfl rfl rfl (fun _ _ x=>x) (Nat.le_refl _) lv (List.Perm.refl _) fun h' it _ _ => .places hb hc (l hb) 0 ⟨Nat.zero_le _,fun i _ z=>absurd z (Nat.not_lt_zero _),fun i _ _=>Nat.zero_le _⟩
  | true=>
   rw [if_pos (by show (!w.params.followText "set-order" && (!t.plain&&decide (es.size>1)))=true;rw [hb',hc];rfl)]
   refine wpAny_bind (draw_order _ _ _ _ List.length_range fun ys d hy => ?_)
   have hyl:ys.length=es.size:=by rw [hy.length_eq,List.length_range]
   refine wpAny_bind (wpAny_newTuple ?_ (by rw [List.length_map,hyl];exact hz))
   have rm:List.Perm (ys.map fun k=>(es.toList.map (·.2)).getD k .none) (es.toList.map (·.2)):=by
    refine (hy.map _).trans ?_
    have:(List.range es.size).map (fun k=>(es.toList.map (·.2)).getD k .none)=es.toList.map (·.2):=by
     refine List.ext_getElem (by rw [List.length_map,List.length_range,lv]) fun i h1 h2 => ?_
     rw [List.getElem_map,List.getElem_range,List.getD_eq_getElem?_getD,List.getElem?_eq_getElem h2];rfl
    rw [this]
   refine last { s with heap:=s.heap.push { cls := .type "tuple",data := .seq (ys.map fun (i:Nat)=>rawInt i).toArray },drawn:=d } d _ _ rfl rfl rfl rfl (fun b o x=>Heap.get?_push_of_some _ x) (by show _≤(s.heap.push _).objs.size;rw [Heap.size_push];exact Nat.le_succ _) (by rw [List.length_map,hyl]) rm fun h' it hit k' => ?_
   refine .drawn ys hy _ (Nat.le_refl _) ?_ _ 0 (k' _ _ (Heap.get?_push_size _ rfl)) rfl
   have hit:(s.heap.push { cls := .type "tuple",data := .seq (ys.map fun (i:Nat)=>rawInt i).toArray }).objs.size≤it:=hit
   rw [Heap.size_push] at hit
   exact Nat.ne_of_lt hit
theorem walk_text {Q:Array (Int×Value)→Shared→Prop} (b:byT w=true) (ho:s.heap.get? a=some o) (hd:o.data = .set es ep t) (hf:t.fits es.size=true) (q:Q (pickOrder (w.params.setOrder a ep) es) s):wpAny (model prog w) A (setWalk a) Q E s:=by
 unfold setWalk setsByText
 have b':w.params.followText "set-order" = true:=b
 refine wpAny_bind (wpAny_setState_of ho hd hf (wpAny_bind (wpAny_bind (wpAny_askSetting (wpAny_pure ?_)))))
 refine wpAny_ite ?_
 rw [if_pos (show ({ program:=(model prog w).prog,params:=(model prog w).w.params } : Setting).params.followText "set-order" = true from b')]
 exact wpAny_bind (wpAny_askSetting (wpAny_pure q))
theorem set_next {vals:List Value} {it:Addr} {i:Nat} {v:Value} {Q:Option Value→Shared→Prop} (st:SSt w a es ep t lo vals it i s.heap) (hv:vals[i]? = some v)
  (fin:∀h',(∀b o,b≠it→s.heap.get? b=some o→h'.get? b=some o)→h'.objs.size=s.heap.objs.size→SSt w a es ep t lo vals it (i+1) h'→Q (some v) { s with heap:=h' }) :
  wpAny (model prog w) A (pyNext (.ref it)) Q E s:=by
 obtain ⟨⟨o,ho,hd⟩,hf,g,ne,low,first,so,e⟩:=st
 have hT:s.TypeIs (.ref it) "set_iterator":=⟨_,e,rfl⟩
 refine wpAny_bind (wpAny_attempt (wpAny_callSpecial?_slot (name:=Str.ofString "__next__") hT set_it_slot (wpAny_call_entry set_it_slot hT set_it_entry ?_ (set_it_args _))))
 unfold Builtin.«set_iterator.__next__» slotArgs setEntries setNext setsByText
 simp -iota only [List.isEmpty_nil,Bool.not_true,Bool.false_eq_true, ↓reduceIte,bind_assoc,List.length_nil,bne_self_eq_false]
 dsimp only
 try simp -iota only [bind_assoc,Bool.false_eq_true, ↓reduceIte]
 refine wpAny_bind (wpAny_pure (wpAny_bind (wpAny_fieldsOf e rfl ?_)))
 dsimp only
 refine wpAny_bind (wpAny_setState_of ho hd hf (wpAny_bind (wpAny_pure ?_)))
 refine wpAny_ite ?_
 rw [if_neg (by simp)]
 cases so with
 | text b=>
  have b':w.params.followText "set-order" = true:=b
  refine wpAny_bind (wpAny_setState_of ho hd hf (wpAny_bind (wpAny_askSetting (wpAny_bind (wpAny_pure ?_)))))
  refine wpAny_bind (wpAny_ite ?_)
  rw [if_pos (show ({ program:=(model prog w).prog,params:=(model prog w).w.params } : Setting).params.followText "set-order" = true from b')]
  refine wpAny_ite ?_
  rw [if_neg (by simp)]
  refine wpAny_bind (walk_text b ho hd hf (wpAny_pure ?_))
  have hx:((pickOrder (w.params.setOrder a ep) es)[(i:Int).toNat]?).map (fun e=>(e.2,(0:Int).toNat))=some (v,0):=by
   rw [Int.toNat_natCast, ←Array.getElem?_toList]
   rw [List.getElem?_map] at hv
   cases q:(pickOrder (w.params.setOrder a ep) es).toList[i]? with
   | none=>rw [q] at hv;cases hv
   | some y=>rw [q] at hv;cases hv;rfl
  rw [hx]
  refine wpAny_bind (wpAny_setField_rec e (by simp) fun h1 e1 s1=>wpAny_bind (wpAny_setField_rec (s:={ s with heap:=h1 }) e1 (by simp) fun h2 e2 s2 => ?_))
  refine wpAny_pure ⟨_,rfl,wpAny_pure (fin h2 (fun b o nb x=>s2.extBut b o nb (s1.extBut b o nb x)) (s2.1.trans s1.1) ⟨⟨o,s2.extBut _ _ ne (s1.extBut _ _ ne ho),hd⟩,hf,g,ne,low,_, .text b,?_⟩)⟩
  simpa [rawInt] using e2
 | places b d l z c=>
  have b':w.params.followText "set-order" = false:=b
  have hps:t.place.size=es.size:=by
   have:=hf
   simp only [SetTable.fits,Bool.and_eq_true,beq_iff_eq] at this
   exact this.1
  have hi:i<es.size:=by
   have:=(List.getElem?_eq_some_iff.mp hv).1
   rwa [List.length_map,Array.length_toList] at this
  refine wpAny_bind (wpAny_setState_of ho hd hf (wpAny_bind (wpAny_askSetting (wpAny_bind (wpAny_pure ?_)))))
  refine wpAny_bind (wpAny_ite ?_)
  rw [if_neg (by show ¬(w.params.followText "set-order" = true);rw [b'];exact Bool.false_ne_true)]
  refine wpAny_ite ?_
  rw [if_neg (by show ¬((!t.plain&&decide (es.size>1))=true);rw [d];exact Bool.false_ne_true)]
  refine wpAny_bind ?_
  show wpAny _ _ (if (!t.led && !es.isEmpty)=true then unsupported "set:maker-not-led" else pure ()) _ _ _
  rw [l]
  refine wpAny_pure ?_
  have hbl:SetTable.below t.place ((z:Int)).toNat=i:=by
   rw [Int.toNat_natCast]
   have c2:=below_cut g.2 z
   have h1:¬SetTable.below t.place z<i:=fun q=>by
    have hs:SetTable.below t.place z<t.place.size:=by omega
    have:=c2.hi _ hs (Nat.le_refl _)
    have:=c.lo _ hs q
    omega
   have h2:¬i<SetTable.below t.place z:=fun q=>by
    have hs:i<t.place.size:=by omega
    have:=c2.lo _ hs q
    have:=c.hi _ hs (Nat.le_refl _)
    omega
   omega
  refine wpAny_pure ?_
  dsimp only
  rw [hbl,Array.getElem?_eq_getElem hi,Array.getElem?_eq_getElem (show i<t.place.size by omega)]
  have hv':es[i].2=v:=by
   rw [List.getElem?_map,Array.getElem?_toList,Array.getElem?_eq_getElem hi] at hv
   injection hv
  dsimp only
  rw [hv']
  refine wpAny_bind (wpAny_setField_rec e (by simp) fun h1 e1 s1=>wpAny_bind (wpAny_setField_rec (s:={ s with heap:=h1 }) e1 (by simp) fun h2 e2 s2 => ?_))
  refine wpAny_pure ⟨_,rfl,wpAny_pure (fin h2 (fun b o nb x=>s2.extBut b o nb (s1.extBut b o nb x)) (s2.1.trans s1.1) ⟨⟨o,s2.extBut _ _ ne (s1.extBut _ _ ne ho),hd⟩,hf,g,ne,low,_, .places b d l (t.place[i]+1) ?_,?_⟩)⟩
  ·have c3:=below_cut g.2 (t.place[i]+1)
   rw [Cut.next g.2 (by omega) c3] at c3
   exact c3
  ·simpa [rawInt] using e2
 | drawn ys p tp tl nt ot n et dt=>
  dsimp only
  unfold seqItems?
  refine wpAny_bind (wpAny_bind (wpAny_load et ?_))
  rw [dt]
  refine wpAny_pure ?_
  dsimp only
  rw [List.getElem?_map] at hv
  cases hy:ys[i]? with
  | none=>rw [hy] at hv;cases hv
  | some y=>
   rw [hy] at hv
   injection hv with hv
   have hyr:y<es.size:=List.mem_range.mp (p.mem_iff.mp (List.mem_of_getElem? hy))
   have hpl:(ys.map fun (k:Nat)=>rawInt k).toArray[(i:Int).toNat]? = some (rawInt y):=by
    rw [Int.toNat_natCast,List.getElem?_toArray,List.getElem?_map,hy];rfl
   rw [hpl]
   have hes:es[y].2=v:=by
    rw [←hv]
    dsimp only
    rw [List.getD_eq_getElem?_getD,List.getElem?_map,Array.getElem?_toList,Array.getElem?_eq_getElem hyr];rfl
   show wpAny _ _ (setNextDrawn a ((y:Int)).toNat ((ep:Int)).toNat >>= _) _ _ _
   rw [Int.toNat_natCast,Int.toNat_natCast]
   unfold setNextDrawn
   refine wpAny_bind (wpAny_bind (wpAny_setState_of ho hd hf ?_))
   dsimp only
   refine wpAny_ite ?_
   rw [if_neg (by simp),Array.getElem?_eq_getElem hyr]
   refine wpAny_pure ?_
   show wpAny _ _ (setField (.ref it) 1 (rawInt ((i:Int)+1)) >>= fun _=>ret es[y].2) _ _ _
   rw [hes]
   refine wpAny_bind (wpAny_setField_rec e (by simp) fun h1 e1 s1 => ?_)
   refine wpAny_pure ⟨_,rfl,wpAny_pure (fin h1 (fun b o nb x=>s1.extBut b o nb x) s1.1 ⟨⟨o,s1.extBut _ _ ne ho,hd⟩,hf,g,ne,low,_, .drawn ys p tp tl nt ot n (s1.extBut _ _ nt et) dt,?_⟩)⟩
   simpa [rawInt] using e1
theorem set_stop {vals:List Value} {it:Addr} {Q:Option Value→Shared→Prop} (hh:A.handled=none) (st:SSt w a es ep t lo vals it es.size s.heap) (hl:vals.length=es.size)
  (fin:∀h',(∀b o,b≠it→s.heap.get? b=some o→h'.get? b=some o)→Q none { s with heap:=h' }) :
  wpAny (model prog w) A (pyNext (.ref it)) Q E s:=by
 obtain ⟨⟨o,ho,hd⟩,hf,g,ne,low,first,so,e⟩:=st
 have hT:s.TypeIs (.ref it) "set_iterator":=⟨_,e,rfl⟩
 refine wpAny_bind (wpAny_attempt (wpAny_callSpecial?_slot (name:=Str.ofString "__next__") hT set_it_slot (wpAny_call_entry set_it_slot hT set_it_entry ?_ (set_it_args _))))
 unfold Builtin.«set_iterator.__next__» slotArgs setEntries setNext setsByText
 simp -iota only [List.isEmpty_nil,Bool.not_true,Bool.false_eq_true, ↓reduceIte,bind_assoc,List.length_nil,bne_self_eq_false]
 dsimp only
 try simp -iota only [bind_assoc,Bool.false_eq_true, ↓reduceIte]
 refine wpAny_bind (wpAny_pure (wpAny_bind (wpAny_fieldsOf e rfl ?_)))
 dsimp only
 refine wpAny_bind (wpAny_setState_of ho hd hf (wpAny_bind (wpAny_pure ?_)))
 refine wpAny_ite ?_
 rw [if_neg (by simp)]
 cases so with
 | text b=>
  have b':w.params.followText "set-order" = true:=b
  refine wpAny_bind (wpAny_setState_of ho hd hf (wpAny_bind (wpAny_askSetting (wpAny_bind (wpAny_pure ?_)))))
  refine wpAny_bind (wpAny_ite ?_)
  rw [if_pos (show ({ program:=(model prog w).prog,params:=(model prog w).w.params } : Setting).params.followText "set-order" = true from b')]
  refine wpAny_ite ?_
  rw [if_neg (by simp)]
  refine wpAny_bind (walk_text b ho hd hf (wpAny_pure ?_))
  have hx:((pickOrder (w.params.setOrder a ep) es)[(es.size:Int).toNat]?).map (fun e=>(e.2,(0:Int).toNat))=none:=by
   have:(pickOrder (w.params.setOrder a ep) es).size=es.size:=by rw [←hl,List.length_map,Array.length_toList]
   rw [Int.toNat_natCast,Array.getElem?_eq_none (by omega)];rfl
  rw [hx]
  refine wpAny_bind (wpAny_setField_rec e (by simp) fun h1 e1 s1 => ?_)
  wp_walk
  refine wpAny_raiseNew_none hh (wpAny_bind (wpAny_isInstance (T := "StopIteration") (b:=true) ⟨_,Heap.get?_push_size _ rfl,rfl⟩ isSubtype_stop (wpAny_pure (fin _ fun b o nb x => ?_))))
  exact Heap.get?_push_of_some _ (Heap.get?_push_of_some _ (s1.extBut b o nb x))
 | places b d l z c=>
  have b':w.params.followText "set-order" = false:=b
  have hps:t.place.size=es.size:=by
   have:=hf
   simp only [SetTable.fits,Bool.and_eq_true,beq_iff_eq] at this
   exact this.1
  refine wpAny_bind (wpAny_setState_of ho hd hf (wpAny_bind (wpAny_askSetting (wpAny_bind (wpAny_pure ?_)))))
  refine wpAny_bind (wpAny_ite ?_)
  rw [if_neg (by show ¬(w.params.followText "set-order" = true);rw [b'];exact Bool.false_ne_true)]
  refine wpAny_ite ?_
  rw [if_neg (by show ¬((!t.plain&&decide (es.size>1))=true);rw [d];exact Bool.false_ne_true)]
  refine wpAny_bind ?_
  show wpAny _ _ (if (!t.led && !es.isEmpty)=true then unsupported "set:maker-not-led" else pure ()) _ _ _
  rw [l]
  refine wpAny_pure ?_
  have hbl:es.size≤SetTable.below t.place ((z:Int)).toNat:=by
   rw [Int.toNat_natCast]
   have c2:=below_cut g.2 z
   refine Nat.not_lt.mp fun q => ?_
   have hs:SetTable.below t.place z<t.place.size:=by omega
   have:=c2.hi _ hs (Nat.le_refl _)
   have:=c.lo _ hs q
   omega
  refine wpAny_pure ?_
  dsimp only
  rw [Array.getElem?_eq_none hbl]
  dsimp only
  refine wpAny_bind (wpAny_setField_rec e (by simp) fun h1 e1 s1 => ?_)
  wp_walk
  refine wpAny_raiseNew_none hh (wpAny_bind (wpAny_isInstance (T := "StopIteration") (b:=true) ⟨_,Heap.get?_push_size _ rfl,rfl⟩ isSubtype_stop (wpAny_pure (fin _ fun b o nb x => ?_))))
  exact Heap.get?_push_of_some _ (Heap.get?_push_of_some _ (s1.extBut b o nb x))
 | drawn ys p tp tl nt ot n et dt=>
  dsimp only
  unfold seqItems?
  refine wpAny_bind (wpAny_bind (wpAny_load et ?_))
  rw [dt]
  refine wpAny_pure ?_
  dsimp only
  have hyl:ys.length=es.size:=by rw [p.length_eq,List.length_range]
  have hpl:(ys.map fun (k:Nat)=>rawInt k).toArray[(es.size:Int).toNat]? = none:=by
   rw [Int.toNat_natCast,Array.getElem?_eq_none (by rw [List.size_toArray,List.length_map,hyl];exact Nat.le_refl _)]
  rw [hpl]
  refine wpAny_bind (wpAny_setField_rec e (by simp) fun h0 e0 s0=>wpAny_bind (wpAny_setField_rec (s:={ s with heap:=h0 }) e0 (by simp) fun h1 e1 s1 => ?_))
  wp_walk
  refine wpAny_raiseNew_none hh (wpAny_bind (wpAny_isInstance (T := "StopIteration") (b:=true) ⟨_,Heap.get?_push_size _ rfl,rfl⟩ isSubtype_stop (wpAny_pure (fin _ fun b o nb x => ?_))))
  exact Heap.get?_push_of_some _ (Heap.get?_push_of_some _ (s1.extBut b o nb (s0.extBut b o nb x)))
end
end L2
namespace L2
open PySem PySem.Spec PyProof.Rows
section
variable {prog:Program} {w:World} {a:Addr} {es:Array (Int×Value)} {ep:Nat} {t:SetTable} {lo:Nat}
theorem set_feed {A:Around} {it S:Addr} {vals:List Value} (hh:A.handled=none) (hl:vals.length=es.size) (n1:it≠S) (n2:a≠S) (hS:S<lo) :
  FeedL prog w A it S (· = it) es.size (fun i v _=>vals[i]? = some v) (fun _ _=>True) (fun i h=>SSt w a es ep t lo vals it i h) where
 sfp:=fun z=>n1 z.symm
 item:=fun i s Q E hi st _ q=>set_next st (v:=vals[i]) (List.getElem?_eq_getElem (by omega)) fun h' k' z' st'=>q _ h' s.toks (fun b o nb x=>k' b o nb x) st' (List.getElem?_eq_getElem (by omega)) fun _ _ _=>trivial
 stop:=fun s Q E st _ q=>set_stop hh st hl fun h' k'=>q h' s.toks fun b o nb x=>k' b o nb x
 keepS:=fun i h h' st k=>st.keep fun b o e hb=>k b o (fun z=>by
  rcases hb with rfl|hb
  ·exact n2 z
  ·subst z;exact absurd hS (Nat.not_lt.mpr hb)) e
 keepP:=fun j v h h' p k=>p
theorem sub_set:isSubtype (.type "set") (.type "set")=pure true:=by
 first|rfl|decide|(unfold isSubtype;rfl)
theorem set_extend {A:Around} {S:Addr} {o:Obj} (hh:A.in1.handled=none) {s:Shared} {Z:Result→Shared→Prop} {res:Value} {c0:Nat} (ho:s.heap.get? a=some o) (hx:o.ExactSet) (hd:o.data = .set es ep t) (hf:t.fits es.size=true) (g:GoodT t) (l:byT w=false→t.led=true) (hz:es.size≤sizeLine)
  (haS:a≠S) (hS:s.heap.get? S=some { cls := .type "list",data := .seq #[] c0 })
  (fin:∀h' tk d acc c vals,Keeps s.heap h' (· = S)→vals.length=es.size→List.Perm vals (es.toList.map (·.2))→Grown h' S es.size (fun i v _=>vals[i]? = some v) (fun _ _=>True) acc c→Z (.ok (.ret res)) { s with heap:=h',toks:=tk,drawn:=d }) :
  wpAny (model prog w) A.in1 (Builtin.List.listExtendWith (.ref S) (.ref a) res) (RunsTo prog w A Z) (fun e s'=>Z (.error e) s') s:=by
 have hT:s.TypeIs (.ref a) "set":=⟨o,ho,hx.1⟩
 have nsame:Builtin.List.listSameRef (.ref S) (.ref a)=false:=by simp [Builtin.List.listSameRef,Ne.symm haS]
 have low:=Heap.lt_size hS
 unfold Builtin.List.listExtendWith
 refine wpAny_bind (wpAny_typeOf hT ?_)
 simp only [nsame,show (Value.type "set" == Value.type "list")=false by decide,show (Value.type "set" == Value.type "tuple")=false by decide,Bool.or_false,Bool.false_eq_true,if_false]
 refine wpAny_bind (set_iter ho hx hd hf g l hz fun it h1 d vals hl hp hit k1 st1 => ?_)
 have hT1:Shared.TypeIs { s with heap:=h1,drawn:=d } (.ref a) "set":=⟨o,k1 _ _ ho,hx.1⟩
 have hint:∀(Q:Bool→Shared→Prop),Q false { s with heap:=h1,drawn:=d } → wpAny (model prog w) A.in1 (Builtin.List.listLengthHint (.ref a)) Q (fun e s'=>Z (.error e) s') { s with heap:=h1,drawn:=d }:=fun Q q=>by
  unfold Builtin.List.listLengthHint
  refine wpAny_bind (wpAny_specialOf hT1 F.slot_set_len.lookup ?_)
  refine wpAny_bind (wpAny_isInstance (T := "set") (b:=true) hT1 sub_set ?_)
  refine wpAny_ite_split (fun z=>absurd z (by decide)) fun _=>wpAny_ite_split (fun _ => ?_) fun z=>absurd (show _=true by decide +kernel) z
  exact wpAny_bind (wpAny_typeOf hT1 (wpAny_pure q))
 refine wpAny_bind (wpAny_holding (hint _ ?_))
 have hS1:=k1 _ _ hS
 have nS:it≠S:=fun z=>by subst z;exact absurd low (Nat.not_lt.mpr hit)
 have go:∀(h:Heap) (c tk:Nat),Keeps h1 h (· = S)→h.get? S=some { cls := .type "list",data := .seq #[] c } → codeAny (model prog w) A (.builtin "list.extend.loop" ⟨[.ref S, .ref it,res],[]⟩) Z { s with heap:=h,toks:=tk,drawn:=d }:=fun h c tk k ob=>by
  have Fd:=set_feed (prog:=prog) (w:=w) (ep:=ep) (t:=t) (vals:=vals) (A:=A.in1) hh hl nS haS low
  refine feed_loopL Fd hz (s:={ s with drawn:=d }) (g:=h1) (fun h' tk acc c k' G=>fin h' tk d acc c vals (fun b o nb q=>k' b o (fun z=>z.elim (fun z=>by subst z;exact absurd (Heap.lt_size q) (Nat.not_lt.mpr hit)) nb) (k1 b o q)) hl hp G) es.size 0 h tk #[] c (by omega) (Fd.keepS _ _ _ st1 k) ⟨ob,rfl, .nil,fun j v e=>by simp at e⟩ fun b o nb q=>k b o (fun z=>nb (.inr z)) q
 refine wpAny_ite_split (fun _ => ?_) fun z=>absurd (show _=true by decide +kernel) z
 refine wpAny_bind (wpAny_rule (wpAny_bind ?_))
 have o1:=Heap.get?_update_self (Obj.mapSeq (·.push Value.none)) hS1 rfl
 have o2:=Heap.get?_update_self (Obj.mapSeq (·.pop)) o1 rfl
 refine wpAny_bind (wpAny_updateSeq (s:={ s with heap:=h1,drawn:=d }) hS1 rfl (wpAny_updateSeq (hz:=by seq_fits) o1 rfl (wpAny_pure ⟨plainId_quiet PySem.F.plain_extend_loop _,go _ _ _ (fun b o nb q => ?_) o2⟩)))
 exact (Heap.get?_update_other _ _ (Ne.symm nb)).trans ((Heap.get?_update_other _ _ (Ne.symm nb)).trans q)
theorem set_collect {A:Around} {E:Value→Shared→Prop} {o:Obj} (hh:A.handled=none) {s:Shared} {Q:List Value→Shared→Prop} (ho:s.heap.get? a=some o) (hx:o.ExactSet) (hd:o.data = .set es ep t) (hf:t.fits es.size=true) (g:GoodT t) (l:byT w=false→t.led=true) (hz:es.size≤sizeLine)
  (fin:∀h' tk d vals,s.heap.objs.size≤h'.objs.size→(∀b o,s.heap.get? b=some o→h'.get? b=some o)→List.Perm vals (es.toList.map (·.2))→Q vals { s with heap:=h',toks:=tk,drawn:=d }):wpAny (model prog w) A (collect (.ref a)) Q E s:=by
 unfold collect
 refine wpAny_bind (wpAny_runValue (codeAny_builtin PySem.F.entry_proto_collect ?_))
 rw [Around.under_plainId PySem.F.plain_proto_collect _]
 show wpAny _ A.in1 (newList [] >>= fun l=>again (.builtin "list.__iadd__" ⟨[l, .ref a],[]⟩)) _ _ s
 refine wpAny_bind (wpAny_newObj_type (wpAny_pure ⟨plainId_quiet PySem.F.plain_list_iadd _,codeAny_builtin PySem.F.entry_list_iadd ?_⟩))
 rw [Around.under_plainId PySem.F.plain_list_iadd _]
 have k0:∀b o,s.heap.get? b=some o→(s.heap.push { cls := .type "list",data := .seq ([]:List Value).toArray }).get? b=some o:=fun b o x=>Heap.get?_push_of_some _ x
 refine set_extend (s:={ s with heap:=s.heap.push { cls := .type "list",data := .seq ([]:List Value).toArray } }) (A:=A) (res := .ref s.heap.objs.size)
  (Z:=fun (r:Result) s'=>match r with
   | .ok (.ret v)=>wpAny (model prog w) A (match v with
    | .ref a=>(load a >>= fun o=>match o.data with
     | .seq xs _=>pure xs.toList
     | _=>unsupported "internal:collect")
    | _=>unsupported "internal:collect") Q E s'
   | .ok _=>False
   | .error e=>E e s') hh (k0 _ _ ho) hx hd hf g l hz (Nat.ne_of_lt (Heap.lt_size ho)) (Heap.get?_push_size _ rfl) fun h' tk d acc c vals k hl hp G => ?_
 refine wpAny_bind (wpAny_load G.ob (wpAny_pure ?_))
 have e:acc.toList=vals:=by
  refine List.ext_getElem? fun j => ?_
  by_cases hj:j<acc.size
  ·rw [Array.getElem?_toList,Array.getElem?_eq_getElem hj]
   exact (G.all j _ (Array.getElem?_eq_getElem hj)).symm
  ·rw [Array.getElem?_toList,Array.getElem?_eq_none (by omega),List.getElem?_eq_none (by have:=G.sz;omega)]
 rw [e]
 exact fin h' tk d vals (Nat.le_of_lt (Heap.lt_size G.ob)) (fun b o x=>k b o (Nat.ne_of_lt (Heap.lt_size x)) (k0 b o x)) hp
end
theorem perm_of_sub {α:Type} [DecidableEq α]:∀{D ns:List α},D.Nodup→(∀k∈D,k∈ns)→ns.length≤D.length→List.Perm ns D
 | [],ns,_,_,hl=>by rw [List.eq_nil_of_length_eq_zero (Nat.le_zero.mp hl)]
 | k :: D,ns,nd,sub,hl=>by
  obtain ⟨nk,nd'⟩:=List.nodup_cons.mp nd
  have hk:=sub k List.mem_cons_self
  refine (List.perm_cons_erase hk).trans (List.Perm.cons k (perm_of_sub nd' (fun x hx => ?_) ?_))
  ·exact (List.mem_erase_of_ne (fun z=>nk (by rw [←z];exact hx))).mpr (sub x (List.mem_cons_of_mem _ hx))
  ·rw [List.length_erase_of_mem hk]
   rw [List.length_cons] at hl
   omega
theorem ints_all:∀{vs:List Value},(∀v∈vs,∃k t,v = .int k t)→∃ns,IntsAre vs ns∧∀k,k∈ns ↔ ∃t,Value.int k t∈vs
 | [],_=>⟨[], .nil,fun k=>⟨(fun h=>nomatch h),(fun ⟨_,h⟩=>nomatch h)⟩⟩
 | v :: vs,h=>by
  obtain ⟨ns,h1,h2⟩:=ints_all (vs:=vs) fun u hu=>h u (List.mem_cons_of_mem _ hu)
  obtain ⟨k,t,rfl⟩:=h v List.mem_cons_self
  refine ⟨k :: ns, .cons k t h1,fun j=>⟨fun hj => ?_,fun ⟨u,hu⟩ => ?_⟩⟩
  ·rcases List.mem_cons.mp hj with rfl|hj
   ·exact ⟨t,List.mem_cons_self⟩
   ·obtain ⟨u,hu⟩:=(h2 j).mp hj
    exact ⟨u,List.mem_cons_of_mem _ hu⟩
  ·rcases List.mem_cons.mp hu with e|hu
   ·cases e;exact List.mem_cons_self
   ·exact List.mem_cons_of_mem _ ((h2 j).mpr ⟨u,hu⟩)
theorem ints_len:∀{vs:List Value} {ns:List Int},IntsAre vs ns→vs.length=ns.length
 | _,_, .nil=>rfl
 | _,_, .cons _ _ h=>by rw [List.length_cons,List.length_cons,ints_len h]
theorem Inv.drawn {X:Cx} {pins:List (Addr×Obj)} {σ:St} {H:Hp} {s:Shared} (d:Drawn) (I:Inv X pins σ H s):Inv X pins σ H { s with drawn:=d }:=⟨I.ok,I.os,I.bare,I.base,I.loc,I.cell,I.free,I.freeC,I.pin,I.hok,I.len⟩
theorem sortedSet {X:Cx} (hc:X.calm=true):CallR X (.builtin "sorted") (fun xs H Q=>∃(a:Addr) (D:List Int),xs=[.ref a]∧H a=some (setK (intV X.prog X.w) a D)∧D.Nodup∧D.length≤100000 ∧
  ∀(ms:List Int) (q:Addr) (H':Hp),ms.Perm D→ms.Pairwise (· ≤ ·)→New H q (.lst (ms.map V.int)) H'→Q (.ref q) H'):=by
 intro pins s σ H xs us Q I r h
 obtain ⟨a,D,rfl,ha,nd,hl,q⟩:=h
 obtain ⟨u,rfl,ru⟩:=vals1 r
 cases ru
 obtain ⟨HK,o',es',ep',t',ho',hd',g',l'⟩:=(show ObjOk X.prog X.w H s.heap a (setK (intV X.prog X.w) a D) from I.hok a _ ha).1
 obtain ⟨o,es,ep,t,ho,ex,hd,el,mem,bnd,fit,len⟩:=id HK
 obtain ⟨g,l⟩:GoodT t∧(X.w.params.followText "set-order" = false→t.led=true):=by
  rw [ho] at ho';cases ho'
  rw [hd] at hd';cases hd'
  exact ⟨g',l'⟩
 refine Calls.call_function_entry kind_sorted plain_sorted entry_sorted (args_sorted1 _) ?_
 unfold Builtin.«sorted»
 refine wpAny_bind (m:=checkCount "sorted" 1 1 _) (wpAny_pure ?_)
 refine wpAny_bind (set_collect (A:=X.A.in1) (show X.A.in1.handled=none from I.ok.hd hc) ho ex hd fit g l (fits_of_scanBound bnd) fun h1 tk d vals hle k1 pm => ?_)
 have hv:∀v∈vals,∃k t,v = .int k t:=fun v hv=>by
  obtain ⟨e,he,rfl⟩:=List.mem_map.mp (pm.mem_iff.mp hv)
  obtain ⟨⟨k,hk,_⟩,_⟩:=el e he
  obtain ⟨t,ht⟩:=Value.isInt_shape hk
  exact ⟨k,t,ht⟩
 obtain ⟨ns,hI,hns⟩:=ints_all hv
 have hlen:vals.length=D.length:=by rw [pm.length_eq,List.length_map,Array.length_toList,len]
 have hnl:=ints_len hI
 have pD:List.Perm ns D:=perm_of_sub nd (fun k hk=>by
  obtain ⟨e,he,h2⟩:=(mem k).mp (decide_eq_true hk)
  obtain ⟨t,ht⟩:=Value.isInt_shape h2
  exact (hns k).mpr ⟨t,by rw [←ht];exact pm.mem_iff.mpr (List.mem_map.mpr ⟨e,he,rfl⟩)⟩) (by omega)
 refine wpAny_bind (wpAny_newList ?_ (Nat.le_trans (show vals.length≤100000 by omega) (by decide)))
 have ob:(h1.push (seqObj "list" vals.toArray 0)).get? h1.objs.size=some (seqObj "list" vals.toArray 0):=Heap.get?_push_size _ rfl
 refine wpAny_bind (wpAny_holding (wpAny_call_entry slot_list_sort ⟨_,ob,rfl⟩ entry_list_sort (sortG_tree ob (Nat.le_trans (show vals.length≤100000 by omega) (by decide)) (fun h2 s6 _=>ask_ints hI h2) fun xs b1 b2=>⟨_,rfl,wpAny_pure ⟨_,rfl,?_⟩⟩) (args_list_sort _)))
 obtain ⟨ms,a1,a2,a3⟩:=sorted_out hI b1 fun i j hij hj=>b2 i j (Nat.zero_le _) hij (by rw [b1.size_eq];exact hj)
 obtain ⟨out,ho⟩:∃out:Array Value,out=xs.map (·.2):=⟨_,rfl⟩
 rw [←ho] at a1 ⊢
 obtain ⟨e,he⟩:=sortedHeap_at (out:=out) ob
 have hm:ms.length=D.length:=(a2.trans pD).length_eq
 have hr:=vals_of_ints a1
 have kk:∀b o,s.heap.get? b=some o→(sortedHeap (h1.push (seqObj "list" vals.toArray 0)) h1.objs.size vals out).get? b=some o:=fun b ob' x=>by
  have x1:=k1 b ob' x
  rw [sortedHeap_old (Nat.ne_of_lt (Heap.lt_size x1)) (by rw [size_push'];exact Nat.lt_succ_of_lt (Heap.lt_size x1)),Heap.get?_push_ne _ _ _ (Nat.ne_of_lt (Heap.lt_size x1))]
  exact x1
 refine ⟨.ref h1.objs.size,_,(I.laid (a:=h1.objs.size) (o := .lst (ms.map V.int)) (t':=tk) kk hle ⟨?_,out.toList,e,hr,?_⟩).drawn d,rfl,q ms _ _ (a2.trans pD) a3 ⟨I.hok.fresh hle,rfl⟩⟩
 ·rw [List.length_map];exact Nat.le_trans (show ms.length≤100000 by omega) (by decide)
 ·simpa [seqObj] using he
end L2
namespace L2
open PySem PySem.Spec PyProof.Rows
theorem lk_keys:typeLookup (.type "list") "keys" = pure none:=by rw [typeLookup_type,builtinLookup_eq_fast];kernel_rfl
theorem lk_ga:typeLookup (.type "list") "__getattr__" = pure none:=by rw [typeLookup_type,builtinLookup_eq_fast];kernel_rfl
theorem sub_ae:isSubtype (.type "AttributeError") (.type "AttributeError")=pure true:=by first|rfl|(rw [isSubtype_type];kernel_rfl)
section
variable {prog:Program} {w:World} {A:Around} {E:Value→Shared→Prop} {h:Heap} {g:Array GenState} {d:Drawn} {t:Nat} {os:OsState} {a:Addr} {o:Obj}
theorem keys_entry {tk:Tok} {Q:Fin→Shared→Prop} (hx:h.get? a=some o) (hc:o.cls = .type "list") (hdn:o.dict=none) {xs:Array Value} {n:Nat} (hd:o.data = .seq xs n) (hh:A.handled=none)
  (hq:∀e h' t',(∀b o,h.get? b=some o→h'.get? b=some o)→(∃oe,h'.get? e=some oe∧oe.cls = .type "AttributeError")→E (.ref e) ⟨h',g,d,t',os⟩) :
  wpAny (model prog w) A (Builtin.«object.__getattribute__» ⟨[.ref a, .str "keys" tk],[]⟩) Q E ⟨h,g,d,t,os⟩:=by
 have hT:(⟨h,g,d,t,os⟩:Shared).TypeIs (.ref a) "list":=⟨_,hx,hc⟩
 have f4:=lk_keys
 repeat (any_goals (first|assumption|wp_step))
 rw [hd]
 dsimp only
 unfold instanceDict
 repeat (any_goals (first|assumption|wp_step))
 rw [hdn,hc]
 repeat (any_goals (first|assumption|wp_step))
 have f9:=sub_ae
 unfold raiseAttrError noteAttr
 wp_walk
 rw [show (Manifest.find? "AttributeError").elim false (fun t=>t.mro.contains "StopIteration" || t.mro.contains "SystemExit")=false by decide +kernel,if_neg Bool.false_ne_true]
 repeat (any_goals (first|assumption|wp_step))
 refine wpAny_raiseNew_none hh (hq _ _ _ (fun b o' x => ?_) ⟨_,Heap.get?_update_self _ (Heap.get?_push_size _ rfl) rfl,rfl⟩)
 have x1:=Heap.get?_push_of_some (h:=h) { cls:=Value.type "tuple",data:=Data.seq #[Value.str (Str.ofString (toString "'" ++ toString ((Manifest.find? "list").elim "list" fun x=>x.tpName)++toString "' object has no attribute '")++Str.ofString "keys" ++ Str.ofString "'") t] } x
 rw [Heap.get?_update_other _ _ (Nat.ne_of_gt (Heap.lt_size x1))]
 exact Heap.get?_push_of_some _ x1
theorem keys_call {tk:Tok} {R:Result→Shared→Prop} (hx:h.get? a=some o) (hc:o.cls = .type "list") (hdn:o.dict=none) {xs:Array Value} {n:Nat} (hd:o.data = .seq xs n) (hh:A.handled=none)
  (hq:∀e h' t',(∀b o,h.get? b=some o→h'.get? b=some o)→(∃oe,h'.get? e=some oe∧oe.cls = .type "AttributeError")→R (.error (.ref e)) ⟨h',g,d,t',os⟩) :
  codeAny (model prog w) A (.call (.builtin "list.__getattribute__") ⟨[.ref a, .str "keys" tk],[]⟩) R ⟨h,g,d,t,os⟩:=
 codeAny_call_builtin F.slot_list_getattribute.plain F.entry_list_ga (F.slot_list_getattribute.check _ _ _ _ _ _ _ _ (show (⟨h,g,d,t,os⟩:Shared).TypeIs (.ref a) "list" from ⟨_,hx,hc⟩) (F.args_list_getattribute_2 _ _) (keys_entry hx hc hdn hd hh hq))
theorem keys_none {Q:Option Value→Shared→Prop} (hx:h.get? a=some o) (hc:o.cls = .type "list") (hdn:o.dict=none) {xs:Array Value} {n:Nat} (hd:o.data = .seq xs n) (hh:A.handled=none)
  (hq:∀h' t',(∀b o,h.get? b=some o→h'.get? b=some o)→Q none ⟨h',g,d,t',os⟩):wpAny (model prog w) A (getAttr? (.ref a) "keys") Q E ⟨h,g,d,t,os⟩:=by
 have hT:(⟨h,g,d,t+1,os⟩:Shared).TypeIs (.ref a) "list":=⟨_,hx,hc⟩
 have f2:=F.slot_list_getattribute.lookup
 have f3:=F.slot_list_getattribute.bind (.ref a)
 have f4:=lk_ga
 unfold getAttr? getAttrBy?
 repeat (any_goals (first|assumption|wp_step))
 refine keys_call hx hc hdn hd hh fun e h' t' k hoe => ?_
 have hTe:Shared.TypeIs ⟨h',g,d,t',os⟩ (.ref e) "AttributeError":=hoe
 have f5:=sub_ae
 dsimp only
 unfold getattributeRaised
 refine wpAny_bind (wpAny_isInstance (T := "AttributeError") (b:=true) hTe f5 ?_)
 rw [if_pos rfl]
 unfold hookBehind
 repeat (any_goals (first|assumption|wp_step))
 exact hq h' t' k
end
end L2
namespace L2
open PySem PySem.Spec PyProof.Rows
theorem upd_loop_entry:entryFor table "dict.update.loop" = some Builtin.«dict.update.loop»:=entryFor_of_fast (by kernel_rfl)
theorem upd_loop_plain:plainId "dict.update.loop" = true:=by decide +kernel
section
variable {prog:Program} {w:World} {K:Type} [DecidableEq K] {knd:KeyKind prog w K} {A:Around} {E:Value→Shared→Prop}
noncomputable def PairAt (knd:KeyKind prog w K) (h:Heap) (v:Value) (kv:K×Value):Prop:=∃(tp:Addr) (o:Obj) (n:Nat) (ku:Value),v = .ref tp∧h.get? tp=some o∧o.cls = .type "tuple" ∧ o.data = .seq #[ku,kv.2] n∧knd.is kv.1 ku=true
theorem pairs_loop {s:Shared} {R:Result→Shared→Prop} {it l d:Addr} {items:Array Value} {kvs:List (K×Value)} {g:Heap} (hh:A.in1.handled=none) (hl:g.IsList l items) (hn:items.size=kvs.length) (hz:kvs.length≤100000)
  (hp:∀(j:Nat) v kv,items[j]? = some v→kvs[j]? = some kv→PairAt knd g v kv) (lit:∀b o,g.get? b=some o→b≠it∧b≠d) (ne:d≠it)
  (fin:∀h tk,(∀b o,b≠d→b≠it→g.get? b=some o→h.get? b=some o)→h.DictOf knd d (merged [] kvs)→R (.ok (.ret .none)) { s with heap:=h,toks:=tk }) :
  ∀(k i:Nat) (h:Heap) (tk:Nat) (acc:List (K×Value)),i+k=kvs.length→acc.length≤i→merged acc (kvs.drop i)=merged [] kvs→(∀b o,b≠d→b≠it→g.get? b=some o→h.get? b=some o)→h.IsListIter it l i→h.DictOf knd d acc →
   codeAny (model prog w) A (.builtin "dict.update.loop" ⟨[.ref d, .ref it,rawInt i, .none],[]⟩) R { s with heap:=h,toks:=tk }
 | 0,i,h,tk,acc,hk,ha,hm,kp,hi,hd=>by
  have e:i=kvs.length:=by omega
  subst e
  have hl':h.IsList l items:=by
   obtain ⟨o,ho,r⟩:=hl
   exact ⟨o,kp _ _ (lit _ _ ho).2 (lit _ _ ho).1 ho,r⟩
  refine codeAny_builtin upd_loop_entry ?_
  rw [Around.under_plainId upd_loop_plain _]
  unfold Builtin.«dict.update.loop»
  refine wpAny_bind (wpAny_pyNext_list_end (s:={ s with heap:=h,toks:=tk }) hh hi hl' (by rw [Array.getElem?_eq_none (by omega)]) fun h' eb => ?_)
  refine wpAny_bind (m:=Builtin.Dict.addKeywords d []) (wpAny_pure (wpAny_pure ?_))
  refine fin h' tk (fun b o nd ni x=>eb b o ni (kp b o nd ni x)) ?_
  rw [List.drop_length] at hm
  have hm:acc=merged [] kvs:=hm
  rw [←hm]
  obtain ⟨o,es,ep,ho,r⟩:=hd
  exact ⟨o,es,ep,eb _ _ ne ho,r⟩
 | k+1,i,h,tk,acc,hk,ha,hm,kp,hi,hd=>by
  have hlt:i<kvs.length:=by omega
  have hl':h.IsList l items:=by
   obtain ⟨o,ho,r⟩:=hl
   exact ⟨o,kp _ _ (lit _ _ ho).2 (lit _ _ ho).1 ho,r⟩
  have hit:items[i]? = some items[i]:=Array.getElem?_eq_getElem (by omega)
  obtain ⟨tp,o,n,ku,ev,ho,hc,hdat,hkey⟩:=hp i _ _ hit (List.getElem?_eq_getElem hlt)
  refine codeAny_builtin upd_loop_entry ?_
  rw [Around.under_plainId upd_loop_plain _]
  unfold Builtin.«dict.update.loop»
  refine wpAny_bind (wpAny_pyNext_list_item (s:={ s with heap:=h,toks:=tk }) hi hl' hit fun h1 hi1 sb1 => ?_)
  rw [ev]
  have ho1:h1.get? tp=some o:=sb1.extBut _ _ (lit _ _ ho).1 (kp _ _ (lit _ _ ho).2 (lit _ _ ho).1 ho)
  have hd1:h1.DictOf knd d acc:=by
   obtain ⟨o,es,ep,ho,r⟩:=hd
   exact ⟨o,es,ep,sb1.extBut _ _ ne ho,r⟩
  have hT:Shared.TypeIs { s with heap:=h1,toks:=tk } (.ref tp) "tuple":=⟨o,ho1,hc⟩
  refine wpAny_bind (wpAny_holding ?_)
  refine wpAny_bind (wpAny_tryCatch ?_)
  unfold Builtin.Dict.pairItems
  refine wpAny_bind (wpAny_typeOf hT ?_)
  rw [if_pos (by decide)]
  refine wpAny_bind (wpAny_seqItems (s:={ s with heap:=h1,toks:=tk }) ho1 hdat (wpAny_pure ?_))
  refine wpAny_holding (wpAny_dictSet_pairs (s:={ s with heap:=h1,toks:=tk }) hkey hd1 (fun h2 hd2 sb2 => ?_) (Nat.le_trans (show acc.length≤100000 by omega) (by decide)))
  refine wpAny_pure ⟨plainId_quiet upd_loop_plain _,?_⟩
  have:=pairs_loop hh hl hn hz hp lit ne fin k (i+1) h2 (tk+1) (stored acc kvs[i].1 kvs[i].2) (by omega) ?_ ?_ (fun b o nd ni x=>sb2.extBut b o nd (sb1.extBut b o ni (kp b o nd ni x))) ?_ hd2
  ·exact this
  ·refine Nat.le_trans ?_ (Nat.succ_le_succ ha)
   unfold stored
   split
   ·rw [List.length_map];exact Nat.le_succ _
   ·rw [List.length_append];exact Nat.le_refl _
  ·rw [←hm,List.drop_eq_getElem_cons hlt]
   rfl
  ·obtain ⟨oi,e1,r⟩:=hi1
   exact ⟨oi,sb2.extBut _ _ (Ne.symm ne) e1,r⟩
theorem call_pairs {s:Shared} {Q:Value→Shared→Prop} {l:Addr} {items:Array Value} {kvs:List (K×Value)} {ol:Obj} {n:Nat} (hh:A.handled=none) (ho:s.heap.get? l=some ol) (hc:ol.cls = .type "list") (hdn:ol.dict=none) (hd:ol.data = .seq items n) (hn:items.size=kvs.length) (hz:kvs.length≤100000)
  (hp:∀(j:Nat) v kv,items[j]? = some v→kvs[j]? = some kv→PairAt knd s.heap v kv)
  (fin:∀h tk,(∀b o,s.heap.get? b=some o→h.get? b=some o)→h.DictOf knd s.heap.objs.size (merged [] kvs)→Q (.ref s.heap.objs.size) { s with heap:=h,toks:=tk }) :
  wpAny (model prog w) A (call (.type "dict") [.ref l]) Q E s:=by
 refine callType_codes (Q₁:=fun obj s₁=>obj = .ref s.heap.objs.size∧s₁={ s with heap:=s.heap.push { cls := .type "dict",data := .dict #[] } }) F.kt_called_dict (F.kt_typeCall_dict_1 _) F.entry_dict_init (kt_code_dict_new _ ⟨rfl,rfl⟩) ?_
 rintro obj s1 ⟨rfl,rfl⟩
 have new:(s.heap.push { cls := .type "dict",data := .dict #[] }).DictOf knd s.heap.objs.size []:=Heap.DictOf.new s.heap
 have k0:∀b o,s.heap.get? b=some o→(s.heap.push { cls := .type "dict",data := .dict #[] }).get? b=some o:=fun b o x=>Heap.get?_push_of_some _ x
 refine ⟨new.typeIs,F.args_dict_init_2 _ _,?_⟩
 unfold Builtin.«dict.__init__» Builtin.Dict.selfAndRest
 refine wpAny_bind (wpAny_bind (wpAny_notOrdered_dict new.typeIs ?_))
 show wpAny _ _ (pure (s.heap.objs.size,[Value.ref l])) _ _ _
 refine wpAny_pure ?_
 show wpAny _ _ (Builtin.Dict.updateFrom "dict.__init__" s.heap.objs.size (.ref l) [] .none) _ _ _
 unfold Builtin.Dict.updateFrom
 have hT:Shared.TypeIs { s with heap:=s.heap.push { cls := .type "dict",data := .dict #[] } } (.ref l) "list":=⟨ol,k0 _ _ ho,hc⟩
 refine wpAny_bind (wpAny_typeOf hT ?_)
 rw [if_pos (by decide)]
 refine wpAny_bind (keys_none (h:=s.heap.push { cls := .type "dict",data := .dict #[] }) (k0 _ _ ho) hc hdn hd hh fun h1 t1 k1 => ?_)
 rw [if_pos (by rfl)]
 have kk:∀b o,s.heap.get? b=some o→h1.get? b=some o:=fun b o x=>k1 b o (k0 b o x)
 refine wpAny_bind (wpAny_rule (wpAny_bind (wpAny_pyIter_list (l:=l) (items:=items) ⟨ol,kk _ _ ho,hc,n,hd⟩ ?_)))
 have hS:s.heap.objs.size<h1.objs.size:=by
  obtain ⟨o,es,ep,e,_⟩:=new
  exact Heap.lt_size (k1 _ _ e)
 refine wpAny_pure ⟨plainId_quiet upd_loop_plain _,?_⟩
 have low:∀b o,s.heap.get? b=some o→b≠h1.objs.size∧b≠s.heap.objs.size:=fun b o x=>⟨Nat.ne_of_lt (Heap.lt_size (kk b o x)),Nat.ne_of_lt (Heap.lt_size x)⟩
 refine pairs_loop (s:=s) (knd:=knd) (A:=A.in1) (it:=h1.objs.size) (g:=s.heap) (kvs:=kvs) hh ⟨ol,ho,hc,n,hd⟩ hn hz hp low (Nat.ne_of_lt hS) (fun h tk k dd=>⟨rfl,fin h tk (fun b o x=>k b o (low b o x).2 (low b o x).1 x) dd⟩) kvs.length 0 _ _ [] (by omega) (Nat.le_refl _) rfl (fun b o nd ni x=>Heap.get?_push_of_some _ (kk b o x)) ⟨_,Heap.get?_push_size _ rfl,rfl,rfl⟩ ?_
 obtain ⟨o,es,ep,e,r⟩:=new
 exact ⟨o,es,ep,Heap.get?_push_of_some _ (k1 _ _ e),r⟩
end
section
variable {X:Cx} {pins:List (Addr×Obj)} {σ:St} {H:Hp} {s:Shared}
theorem pairs_lie (I:Inv X pins σ H s) (as:List Addr):∀{kvs:List (Key×V)},as.length=kvs.length→(∀(j:Nat) b kv,as[j]? = some b→kvs[j]? = some kv→SqT X.K H b [kV kv.1,kv.2]) →
  ∃vs,KV kvs vs∧∀(j:Nat) b kv,as[j]? = some b→vs[j]? = some kv→PairAt (mixKind X.prog X.w) s.heap (.ref b) kv:=by
 induction as with
 | nil=>
  intro kvs hl _
  rw [List.eq_nil_of_length_eq_zero hl.symm]
  exact ⟨[], .nil,fun j b kv h=>by simp at h⟩
 | cons a as ih=>
  intro kvs hl h
  cases kvs with
  | nil=>cases hl
  | cons p kvs=>
  obtain ⟨vs,h1,h2⟩:=ih (kvs:=kvs) (by simpa using hl) fun j b kv e1 e2=>h (j+1) b kv e1 e2
  obtain ⟨its,r,⟨o,e1,e2,n,e3⟩,_⟩:=I.tuple (h 0 a p rfl rfl)
  obtain ⟨ku,vu,rfl,r1,r2⟩:=r.two
  refine ⟨(p.1,vu) :: vs, .cons ⟨rfl,r2⟩ h1,fun j b kv e4 e5 => ?_⟩
  cases j with
  | zero=>
   cases e4;cases e5
   exact ⟨a,o,n,ku,rfl,e1,e2,e3,kV_is r1⟩
  | succ j=>exact h2 j b kv e4 e5
theorem vals_refsD:∀{as:List Addr} {its:List Value},Vals (as.map V.ref) its→its=as.map Value.ref
 | [],_,rv=>by cases rv;rfl
 | a :: as,_,rv=>by
  obtain ⟨v,r,rfl,rv1,rv2⟩:=rv.hd
  cases rv1
  rw [vals_refsD rv2];rfl
theorem dictP (K:PySem.W.Frag) (hc:X.calm=true) (hK:X.K=K:=by rfl):CallR X (.type "dict") (fun xs H Q=>∃(p:Addr) (as:List Addr) (kvs:List (Key×V)),xs=[.ref p]∧SqL K H p (as.map V.ref)∧as.length=kvs.length∧kvs.length≤100000 ∧
  (∀(j:Nat) b kv,as[j]? = some b→kvs[j]? = some kv→SqT K H b [kV kv.1,kv.2])∧∀d H',New H d (.dK (mergeK [] kvs)) H'→Q (.ref d) H'):=by
 subst hK
 intro pins s σ H xs us Q I r h
 obtain ⟨p,as,kvs,rfl,hp,hl,hz,ht,q⟩:=h
 obtain ⟨u,rfl,ru⟩:=vals1 r
 cases ru
 obtain ⟨its,rv,⟨o,n,e1,e2,e3,e4⟩,_⟩:=I.list hp
 obtain ⟨vs,kv,pa⟩:=pairs_lie I _ hl ht
 have hits:=vals_refsD rv
 have kl:=kv.length
 refine call_pairs (knd:=mixKind X.prog X.w) (kvs:=vs) (I.ok.hd hc) e1 e2 e3 e4 (by rw [hits];simp;omega) (by omega) (fun j v kw h1 h2 => ?_) fun h1 tk k1 dd => ?_
 ·rw [hits] at h1
  simp only [List.getElem?_toArray,List.getElem?_map] at h1
  cases e:as[j]? with
  | none=>rw [e] at h1;cases h1
  | some b=>rw [e] at h1;cases h1;exact pa j b kw e h2
 ·have ml:=length_mergeK kvs []
  have big:=I.big
  refine ⟨.ref s.heap.objs.size,_,I.laid (a:=s.heap.objs.size) (o := .dK (mergeK [] kvs)) (t':=tk) k1 (Nat.le_refl _) ⟨Nat.le_trans (show _≤100000 by simp at ml;omega) (by decide),?_,_,KV.merge kv .nil,dd⟩,rfl,q _ _ ⟨I.hok.fresh (Nat.le_refl _),rfl⟩⟩
  exact beq_eq_false_iff_ne.mpr (Nat.ne_of_gt big)
end
end L2
namespace L2
open PySem PySem.Spec PyProof.Rows
section
variable {prog:Program} {w:World} {K:Type} [DecidableEq K] {knd:PySem.KeyKind prog w K}
variable {A:Around} {R:Result→Shared→Prop} {I:Addr} {fp wr:List Addr} {G:Array GenState→Array GenState→Prop} {n:Nat} {P:Nat→Value→Prop} {St:Nat→Shared→Prop}
theorem set_loopG (W:WalksS prog w A.in1 I fp wr G n P St) (S:Addr) (hS:S ∉ fp) (ks:Nat→K) (hv:∀i v,P i v→knd.is (ks i) v=true∧v.scannable=true) (hb:n+1<scanBound) :
  ∀(k i:Nat) (s:Shared),i+k=n→St i s→SetKeys knd s.heap S (metKeys ks i)→(∀s',Moved (S :: wr) G s s'→SetKeys knd s'.heap S (metKeys ks n)→R (.ok (.ret .none)) s') →
   codeAny (model prog w) A (.builtin "set.update.loop" ⟨[.ref S, .ref I],[]⟩) R s
 | 0,i,s,hk,st,hK,fin=>by
  have e:i=n:=by omega
  subst e
  refine codeAny_builtin F.entry_set_update_loop ?_
  rw [Around.under_plainId F.plain_set_update_loop _]
  refine wpAny_bind (m:=pyNext (.ref I)) (W.done s _ _ st fun s' mv => ?_)
  refine wpAny_pure (fin s' (mv.mono fun b hb=>List.mem_cons_of_mem _ hb) (hK.at' fun o e=>mv.heap S o (fun z=>hS (W.sub _ z)) e))
 | k+1,i,s,hk,st,hK,fin=>by
  refine codeAny_builtin F.entry_set_update_loop ?_
  rw [Around.under_plainId F.plain_set_update_loop _]
  refine wpAny_bind (m:=pyNext (.ref I)) (W.item i s _ _ (by omega) st fun v s' pv st' mv => ?_)
  obtain ⟨h1,h2⟩:=hv i v pv
  have hK':SetKeys knd s'.heap S (metKeys ks i):=hK.at' fun o e=>mv.heap S o (fun z=>hS (W.sub _ z)) e
  refine wpAny_bind (m:=holding [v] (setAdd S v)) (wpAny_holding ?_)
  unfold setAdd
  refine wpAny_holding (wpAny_bind (knd.pyHash (k:=ks i) h1 ?_))
  have room:(metKeys ks i).length+1<scanBound:=by have:=metKeys_le ks i;omega
  refine add_hashed (s:={ s' with toks:=s'.toks+1 }) h1 h2 hK' room fun _ h' sb hN => ?_
  refine wpAny_pure ⟨plainId_quiet F.plain_set_update_loop _,?_⟩
  refine set_loopG W S hS ks hv hb k (i+1) _ (by omega) (W.frame _ s' _ _ st' (Nat.le_succ _) fun b hb o e => ?_) hN fun s2 mv2 hK2 => ?_
  ·rw [sb.2 b (fun z:b=S=>hS (by rw [←z];exact hb))];exact e
  ·refine fin s2 (Moved.trans W.gtrans ((mv.mono fun b hb=>List.mem_cons_of_mem _ hb).then_heap (Nat.le_succ _) fun b o nb e => ?_) mv2) hK2
   rw [sb.2 b (fun z:b=S=>nb (by rw [z];exact List.mem_cons_self))];exact e
end
section
variable {prog:Program} {w:World} {K:Type} [DecidableEq K] {knd:PySem.KeyKind prog w K} {A:Around} {E:Value→Shared→Prop} {s:Shared}
theorem set_new_led (v:Value) {Q₁:Value→Shared→Prop} (h:∀led,(w.params.followText "set-order" = false→led=true)→Q₁ (.ref s.heap.objs.size) { s with heap:=s.heap.push (setObj0 led) }) :
  codeAny (model prog w) A (.call (.builtin "set.__new__") ⟨[.type "set",v],[]⟩) (wants Q₁ E) s:=by
 refine codeAny_of_tree (show wpAny _ A.in1 (do checkBuiltinCall "set.__new__" ⟨[.type "set",v],[]⟩;again (.builtin "set.__new__" ⟨[.type "set",v],[]⟩)) _ _ s from ?_)
 refine wpAny_bind (wpAny_of_eq (F.newCall_set_1 v) (wpAny_pure ⟨plainId_quiet F.plain_set_new _,codeAny_builtin F.entry_set_new ?_⟩))
 rw [Around.under_plainId F.plain_set_new _]
 have hsub:=sub_set_self
 obtain ⟨hp,g,d,tk,os⟩:=s
 unfold Builtin.«set.__new__» Builtin.Frozenset.newClass
 dsimp only
 wp_walk
 refine wpAny_askSetting (wpAny_pure ?_)
 dsimp only
 simp only [newObj]
 exact wpAny_bind (wpAny_alloc (wpAny_pure (wpAny_pure (h _ fun z=>by show (!w.params.followText "set-order")=true;rw [z];rfl))))
theorem set_initG {l:Addr} {items:Array Value} {led:Bool} {R:Result→Shared→Prop} (hled:w.params.followText "set-order" = false→led=true) (hh:A.handled=none) (hl:s.heap.IsList l items) (ks:Nat→K) (hv:∀(i:Nat) v,items[i]? = some v→knd.is (ks i) v=true∧v.scannable=true) (hb:items.size+1<scanBound)
  (fin:∀(h':Heap) (tk:Nat),SetKeys knd h' s.heap.objs.size (metKeys ks items.size)→(∀b o,s.heap.get? b=some o→h'.get? b=some o)→R (.ok (.ret .none)) { s with heap:=h',toks:=tk }) :
  codeAny (model prog w) A (.call (.builtin "set.__init__") ⟨[.ref s.heap.objs.size, .ref l],[]⟩) R { s with heap:=s.heap.push (setObj0 led) }:=by
 have hS:(s.heap.push (setObj0 led)).get? s.heap.objs.size=some (setObj0 led):=Heap.get?_push_size _ rfl
 have hT:Shared.TypeIs { s with heap:=s.heap.push (setObj0 led) } (.ref s.heap.objs.size) "set":=⟨_,hS,rfl⟩
 refine codeAny_call_builtin F.called_set.init.plain F.entry_set_init ?_
 refine check_set_init_1 hT ?_
 obtain ⟨ol,g1,g2,nl,g3⟩:=hl
 obtain ⟨c1,c2,c3,c4⟩:=ol
 have g2:c1 = .type "list":=g2
 have g3:c3 = .seq items nl:=g3
 subst g2 g3
 have hT2:Shared.TypeIs { s with heap:=s.heap.push (setObj0 led) } (.ref l) "list":=⟨_,Heap.get?_push_of_some _ g1,rfl⟩
 have gl:(s.heap.push (setObj0 led)).get? l=some { cls := .type "list",dict:=c2,data := .seq items nl,slots:=c4 }:=Heap.get?_push_of_some _ g1
 have isl:(s.heap.push (setObj0 led)).IsList l items:=⟨_,gl,rfl,nl,rfl⟩
 have z1:=F.sub_list_set
 have z2:=F.sub_list_frozenset
 have z3:(Value.type "list" == Value.type "dict")=false:=by decide
 unfold Builtin.«set.__init__» noKeywords
 unfold Builtin.Frozenset.updateFrom
 generalize hPI:pyIter=PI
 wp_walk
 subst hPI
 refine wpAny_pyIter_list isl ?_
 refine wpAny_bind (wpAny_runValue ?_)
 have lS:l<s.heap.objs.size:=Heap.lt_size g1
 have sz:(s.heap.push (setObj0 led)).objs.size=s.heap.objs.size+1:=Heap.size_push ..
 have nI:l≠(s.heap.push (setObj0 led)).objs.size:=by rw [sz];exact Nat.ne_of_lt (Nat.lt_succ_of_lt lS)
 have nS:s.heap.objs.size ∉ [(s.heap.push (setObj0 led)).objs.size,l]:=by
  rw [sz]
  intro z
  rcases List.mem_cons.mp z with z|z
  ·exact Nat.ne_of_lt (Nat.lt_succ_self _) z
  ·exact Nat.ne_of_gt lS (List.mem_singleton.mp z)
 have W:=Walks.list (prog:=prog) (w:=w) (A:=A.in1.in1) (by simp [hh]) _ l nI items
 refine set_loopG W.toS s.heap.objs.size nS ks hv hb items.size 0 _ (by omega) ?st ?k0 ?fin
 case st=>exact ⟨⟨_,Heap.get?_push_size _ rfl,rfl,rfl⟩,isl.push _⟩
 case k0=>exact fresh_good hled (Heap.get?_push_of_some { cls := .type "list_iterator",data := .fields #[.ref l, .int 0 0] } hS)
 case fin=>
  intro s2 mv hK
  obtain ⟨h2,g2,d2,t2,o2⟩:=s2
  have q1:g2=s.gens:=mv.gens
  have q2:d2=s.drawn:=mv.drawn
  have q3:o2=s.os:=mv.os
  subst q1 q2 q3
  refine wpAny_pure ?_
  refine wpAny_pure (fin h2 t2 hK fun b o e => ?_)
  have nb:=Heap.lt_size e
  refine mv.heap b o (fun z => ?_) (Heap.get?_push_of_some _ (Heap.get?_push_of_some _ e))
  rcases List.mem_cons.mp z with z|z
  ·exact Nat.ne_of_lt nb z
  ·have z:=List.mem_singleton.mp z
   rw [z,sz] at nb
   exact Nat.lt_irrefl _ (Nat.lt_of_succ_lt nb)
theorem set_callG {l:Addr} {items:Array Value} {Q:Value→Shared→Prop} (hh:A.handled=none) (hl:s.heap.IsList l items) (ks:Nat→K) (hv:∀(i:Nat) v,items[i]? = some v→knd.is (ks i) v=true∧v.scannable=true) (hb:items.size+1<scanBound)
  (fin:∀(h':Heap) (tk:Nat),SetKeys knd h' s.heap.objs.size (metKeys ks items.size)→(∀b o,s.heap.get? b=some o→h'.get? b=some o)→Q (.ref s.heap.objs.size) { s with heap:=h',toks:=tk }) :
  wpAny (model prog w) A (call (.type "set") [.ref l]) Q E s:=by
 have a1:=F.called_set.made
 have a2:=F.called_set.sub
 have a3:=F.called_set.notType
 have a4:=F.called_set.canCreate
 have a5:=F.typeCall_set_1 (.ref l)
 obtain ⟨c,tl,a6⟩:=F.called_set.mro
 refine wpAny_call (codeAny_of_tree ?_)
 refine wpAny_pure ⟨Code.quiet_builtin _ (by decide +kernel),codeAny_builtin F.entry_type_call ?_⟩
 rw [Around.under_plain (weight_type_call_type "set" [.ref l] []) rfl]
 repeat (any_goals (first|assumption|wp_step))
 have mk:=set_new_led (prog:=prog) (w:=w) (A:=A.in1) (s:=s) (.ref l) (E:=E) (Q₁:=fun obj s1=>∃led,(w.params.followText "set-order" = false→led=true)∧obj = .ref s.heap.objs.size∧s1={ s with heap:=s.heap.push (setObj0 led) }) fun led hled=>⟨led,hled,rfl,rfl⟩
 refine codeAny_mono mk fun r s1 hr => ?_
 cases r with
 | error e=>exact hr
 | ok fl=>
  cases fl with
  | ret obj=>
   obtain ⟨led,hled,rfl,rfl⟩:=hr
   have b1:Shared.TypeIs { s with heap:=s.heap.push (setObj0 led) } (.ref s.heap.objs.size) "set":=⟨_,Heap.get?_push_size _ rfl,rfl⟩
   have b2:=F.called_set.init.lookup
   have b3:=F.called_set.init.bind (.ref s.heap.objs.size)
   repeat (any_goals (first|assumption|wp_step))
   refine set_initG hled (A:=A.in1) (by simp [hh]) hl ks hv hb fun h' tk hK old => ?_
   refine wpAny_pure ?_
   exact wpAny_pure (fin h' tk hK old)
  | _=>exact hr.elim
end
section
variable {X:Cx}
end
end L2
namespace L2
open PySem PySem.Spec PyProof.Rows PySem.W PySem.Calls
section
variable {M:Model} {A:Around} {E:Value→Shared→Prop} {s:Shared} {env:Env}
variable {nm q:Str} {C N:Addr} {bs bm:List Value} {hdct:Bool} {sn:List Str} {sub:List Value} {ab:Bool} {col:Option Bool} {dd:Option Addr} {k0 k1 k2 k3 k5:Option Value} {newId:String}
end
section
variable {P:Program} {w:World} {K:PySem.W.Frag} {mg:Str→Option Value} {base:Heap} {N:List Str} {qual:Str} {scope:Scope} {f:Addr} {cd:Value} {A:Around} {outer:List Env} {s0:Shared} {H0:Hp} {E:XK}
end
section
variable {X:Cx}
end
end L2
namespace L2
open PySem PySem.Spec PyProof.Rows PySem.W
theorem intS {X:Cx} : CallR X (.type "int") (fun xs H Q=>∃x n,xs=[.str x]∧PySem.intText? x=some n∧x.length≤640∧Q (.int n) H):=by
 intro pins s σ H xs us Q I r h
 obtain ⟨x,n,rfl,e,hl,q⟩:=h
 obtain ⟨u,rfl,t,rfl⟩:=vals1 r
 exact KIN.call_text e hl ⟨.int n,H,I.tok _,⟨_,rfl⟩,q⟩
end L2
namespace L2
open PySem PySem.Spec PyProof.Rows PySem.W Builtin.Str
theorem rel_numbered:∀(tk:Nat) (xs:List Str),Vals (xs.map V.str) (strValues (numbered tk xs))
 | _,[] => .nil
 | tk,x :: r => .cons ⟨tk,rfl⟩ (rel_numbered (tk+1) r)
section
variable {X:Cx}
theorem endsW:MtR X "str.endswith" (fun x vs H Q=>Ex2 fun a b=>x = .str a∧vs=[.str b]∧Q (.bl (Txt.endswith a b)) H):=by
 intro pins s σ H x vs v us Q I rx rv h
 obtain ⟨a,b,rfl,rfl,q⟩:=h
 obtain ⟨t,rfl⟩:=rx
 obtain ⟨u,rfl,t',rfl⟩:=rv.one
 exact SC.endswith ⟨.bl _,H,I,rfl,q⟩
theorem splitN:MtR X "str.split" (fun x vs H Q=>Ex2 fun a b=>x = .str a∧vs=[.str b]∧b.length≠0∧a.length≤1000000∧(Txt.split a b).length≤1000000∧∀p H',New H p (.lst ((Txt.split a b).map V.str)) H'→Q (.ref p) H'):=by
 intro pins s σ H x vs v us Q I rx rv h
 obtain ⟨a,b,rfl,rfl,hb,ha,hn,q⟩:=h
 obtain ⟨t,rfl⟩:=rx
 obtain ⟨u,rfl,t',rfl⟩:=rv.one
 have hb':(b.length == 0)=false:=by simpa using hb
 have new:∀(tk:Nat) (its:List Value),Vals ((Txt.split a b).map V.str) its→EP X pins σ Q (.ref s.heap.objs.size) { s with toks:=tk,heap:=s.heap.push { cls := .type "list",data := .seq its.toArray } }:=fun tk its r=>
  ⟨.ref _,_,I.laid (a:=s.heap.objs.size) (o := .lst ((Txt.split a b).map V.str)) (t':=tk) (fun _ _ e=>Heap.get?_push_of_some _ e) (Nat.le_refl _) ⟨by rw [List.length_map];exact Nat.le_trans hn (by decide),its,0,r,Heap.get?_push_size _ rfl⟩,rfl,q _ _ ⟨I.hok.fresh (Nat.le_refl _),rfl⟩⟩
 have self:Txt.split a b=[a]→Vals ((Txt.split a b).map V.str) [.str a t]:=fun e=>by rw [e];exact .cons ⟨t,rfl⟩ .nil
 by_cases h1:(decide (a.length<b.length)||decide (strKind a<strKind b))=true
 ·exact call_meets F.slot_str_split (typeIs_str _ _ _) F.entry_str_split (F.args_str_split_2 _ _) (meets_str_split_cannot_occur a b t t' h1) (new s.toks _ (self (if_pos h1)))
 have h1':=Bool.eq_false_iff.mpr h1
 by_cases hf:(occurrences a b 0 a.length (a.length+1)).isEmpty=true
 ·exact call_meets F.slot_str_split (typeIs_str _ _ _) F.entry_str_split (F.args_str_split_2 _ _) (meets_str_split_not_found a b t t' h1' hb' hf) (new s.toks _ (self ((if_neg h1).trans (if_pos hf))))
 have e:Txt.split a b=partsBetween a (occurrences a b 0 a.length (a.length+1)) b.length:=(if_neg h1).trans (if_neg hf)
 refine call_meets F.slot_str_split (typeIs_str _ _ _) F.entry_str_split (F.args_str_split_2 _ _) (meets_str_split_sep a b t t' h1' hb' (Bool.eq_false_iff.mpr hf) (Nat.le_trans ha (by decide)) (by rw [←e];exact Nat.le_trans hn (by decide))) ?_
 refine new _ _ ?_
 rw [←e,strsFrom_eq]
 exact rel_numbered _ _
noncomputable def rTup (K:PySem.W.Frag):R2:=fun x y H Q=>Ex4 fun (a b:Addr) (xs ys:List V)=>x = .ref a∧y = .ref b∧SqT K H a xs∧SqT K H b ys∧xs.length+ys.length≤100000∧xs≠[] ∧
 (ys=[]→Q (.ref a) H)∧(ys≠[]→∀p H',New H p (.tup (xs++ys)) H'→Q (.ref p) H')
theorem op_tup:OpR X (binaryOp .Add) (rTup X.K):=by
 intro pins s σ H x y v u Q I rx ry h
 obtain ⟨a,b,xs,ys,rfl,rfl,ha,hb,hl,hx,q0,q1⟩:=h
 cases rx
 cases ry
 obtain ⟨is,ra,⟨⟨c1,d1,k1,l1⟩,e1,f1,n1,g1⟩,_⟩:=I.tuple ha
 obtain ⟨js,rb,⟨⟨c2,d2,k2,l2⟩,e2,f2,n2,g2⟩,_⟩:=I.tuple hb
 simp only at f1 g1 f2 g2
 subst f1 g1 f2 g2
 have li:=ra.length
 have lj:=rb.length
 have hi:¬is.toArray.isEmpty=true:=fun z=>hx (by
  have:is=[]:=by simpa using z
  rw [this] at li
  exact List.length_eq_zero_iff.mp li)
 by_cases hy:ys=[]
 ·have hj:js.toArray.isEmpty=true:=by
   rw [hy] at lj
   have:js=[]:=List.length_eq_zero_iff.mp lj.symm
   rw [this];rfl
  exact concat_meets ⟨_,e1,rfl⟩ ⟨_,e2,rfl⟩ noFill_tuple_add seq_tuple_add F.slot_tuple_add F.entry_tuple_add (F.args_tuple_add_2 _ _) (tuple_addW1 a b is.toArray js.toArray n1 n2 d1 d2 l1 l2 hi hj) ⟨e1,e2,⟨.ref a,H,I,rfl,q0 hy⟩⟩
 ·have hj:¬js.toArray.isEmpty=true:=fun z=>hy (by
   have:js=[]:=by simpa using z
   rw [this] at lj
   exact List.length_eq_zero_iff.mp lj)
  refine concat_meets ⟨_,e1,rfl⟩ ⟨_,e2,rfl⟩ noFill_tuple_add seq_tuple_add F.slot_tuple_add F.entry_tuple_add (F.args_tuple_add_2 _ _) (tuple_addW2 a b is.toArray js.toArray n1 n2 d1 d2 l1 l2 hi hj (by rw [List.size_toArray,List.size_toArray];exact Nat.le_trans (by omega) (show 100000≤sizeLine by decide))) ⟨e1,e2,?_⟩
  refine ⟨.ref s.heap.objs.size,_,I.laid (a:=s.heap.objs.size) (o := .tup (xs++ys)) (t':=s.toks) (fun _ _ e=>Heap.get?_push_of_some _ e) (Nat.le_refl _) ?_,rfl,q1 hy _ _ ⟨I.hok.fresh (Nat.le_refl _),rfl⟩⟩
  refine ⟨by rw [List.length_append];exact Nat.le_trans hl (by decide),is++js,ra.append rb,⟨_,Heap.get?_push_size _ rfl,rfl,0,by simp⟩⟩
noncomputable def onceI (zs:List Int):List Int:=metKeys (fun i=>zs.getD i 0) zs.length
theorem call_setI (hc:X.calm=true):CallR X (.type "set") (fun xs H Q=>∃(p:Addr) (zs:List Int),xs=[.ref p]∧SqL X.K H p (zs.map V.int)∧zs.length≤4000∧∀(a:Addr) (H':Hp),New H a (setK (intV X.prog X.w) a (onceI zs)) H'→Q (.ref a) H'):=by
 intro pins s σ H xs us Q I r h
 obtain ⟨p,zs,rfl,hq,hl,q⟩:=h
 obtain ⟨u,rfl,ru⟩:=vals1 r
 cases ru
 obtain ⟨its,rv,pl,_⟩:=I.list hq
 have hn:zs.length=its.length:=by have:=rv.length;rwa [List.length_map] at this
 have size:its.toArray.size=zs.length:=by rw [List.size_toArray,hn]
 refine set_callG (knd:=intKind X.prog X.w) (I.ok.hd hc) pl.isList (fun i=>zs.getD i 0) (fun i v e => ?_) (by rw [size];unfold scanBound;omega) fun h' tk hK old => ?_
 ·obtain ⟨y,e1,e2⟩:=vals_at rv e
  obtain ⟨z,hz,rfl⟩:∃z,zs[i]? = some z∧V.int z=y:=by
   rw [List.getElem?_map] at e1
   exact Option.map_eq_some_iff.mp e1
  obtain ⟨t,rfl⟩:=e2
  have ez:zs.getD i 0=z:=by simp [List.getD,hz]
  refine ⟨?_,rfl⟩
  rw [ez];exact intKind_is _ _ _ _
 ·rw [size] at hK
  exact ⟨.ref _,_,I.laid (o:=setK (intV X.prog X.w) s.heap.objs.size (onceI zs)) (t':=tk) old (Nat.le_refl _) (setK_ok hK),rfl,q _ _ ⟨I.hok.fresh (Nat.le_refl _),rfl⟩⟩
theorem addT (K:PySem.W.Frag) (hK:X.K=K:=by rfl):OpR X (binaryOp .Add) (rTup K):=by subst hK;exact op_tup
end
end L2
namespace L2
open PySem PySem.Spec PyProof.Rows PySem.W
section
variable {X:Cx} {H Hj:Hp} {s sj:Shared} {pins:List (Addr×Obj)} {σ:St}
end
section
variable {prog:Program} {w:World} {A:Around} {E:Value→Shared→Prop} {s:Shared}
end
section
variable {X:Cx} {H:Hp} {s0:Shared} {pins:List (Addr×Obj)} {σ:St} {D kS:Addr} {ts:List Str} {vs:List Value}
end
end L2
namespace L2
open PySem PySem.Spec PyProof.Rows PySem.W
section
variable {X:Cx} {x:Str} {p pos:Pos} {e:Expr} {es:List Expr} {kws:List Keyword} {t tk:TA} {id:String} {ks:List Str} {r:List V→List V→Hp→VK→Prop}
end
section
variable {X:Cx} (K:PySem.W.Frag)
end
end L2
namespace L2
open PySem PySem.Spec PyProof.Rows
section
open PySem.SeqAt
open PySem.AutoSeq1 (wpAny_loadPart')
open PySem.MeetsSeq PySem.MeetsSeq2 PySem.MeetsSeq3
end
section
variable {prog:Program} {w:World} {A:Around} {E:Value→Shared→Prop} {s:Shared}
end
section
variable {X:Cx}
end
end L2
namespace L2
open PySem PySem.Spec PyProof.Rows PySem.W
section
variable {X:Cx} {H:Hp} {s0:Shared} {pins:List (Addr×Obj)} {σ:St} {I S p:Addr} {as:List Addr} {kt:Nat→Str} {f:Addr} {r:V→Hp→VK→Prop}
end
section
variable {X:Cx} (K:PySem.W.Frag)
end
end L2
namespace L2
open PySem PySem.Spec PyProof.Rows
section
variable {X:Cx} {pins:List (Addr×Obj)} {σ:St} {H:Hp} {s:Shared} {a:Addr} {u v:HO}
end
end L2
namespace L2
open PySem PySem.Spec PyProof.Rows
section
variable {X:Cx}
end
end L2
namespace L2
open PySem PySem.Spec PyProof.Rows PySem.W
theorem keys_rel {prog:Program} {w:World} {kvs:List (Key×V)} {vs:List (Key×Value)} (h:KV kvs vs):∀{its:List Value},its.length=vs.length →
  (∀(j:Nat) v,its[j]? = some v→∃k x,vs[j]? = some (k,x)∧(mixKind prog w).is k v=true)→Vals (kvs.map fun q=>kV q.1) its:=by
 unfold KV at h
 induction h with
 | nil=>
  intro its hl _
  rw [List.eq_nil_of_length_eq_zero hl]
  exact .nil
 | @cons p q kvs vs h1 _ ih=>
  intro its hl h
  cases its with
  | nil=>cases hl
  | cons v its=>
  refine .cons ?_ (ih (Nat.succ.inj hl) fun j u e=>h (j+1) u e)
  obtain ⟨k,x,e1,e2⟩:=h 0 v rfl
  cases e1
  show RelV (kV p.1) v
  rw [show p.1=k from h1.1]
  rcases keyIs_shape e2 with ⟨n,t,z1,z2⟩|⟨y,t,z1,z2⟩
  ·rw [z1,z2];exact ⟨t,rfl⟩
  ·rw [z1,z2];exact ⟨t,rfl⟩
section
variable {X:Cx}
theorem listD (hc:X.calm=true):CallR X (.type "list") (fun xs H Q=>Ex2 fun (d:Addr) (kvs:List (Key×V))=>xs=[.ref d]∧H d=some (.dK kvs)∧∀p H',New H p (.lst (kvs.map fun q=>kV q.1)) H'→Q (.ref p) H'):=by
 intro pins s σ H xs us Q I r h
 obtain ⟨d,kvs,rfl,hd,q⟩:=h
 obtain ⟨u,rfl,ru⟩:=vals1 r
 cases ru
 obtain ⟨z,ns,vs,kv,o,es,ep,e,rr⟩:=I.hok d _ hd
 have kl:=kv.length
 refine kdl_call (kdl_dict (knd:=mixKind X.prog X.w) (kvs:=vs) (ep:=ep) ns) (I.ok.hd hc) ⟨o,es,e,rr⟩ (by omega) fun h' tk acc c k hS items => ?_
 refine ⟨.ref s.heap.objs.size,_,I.laid (a:=s.heap.objs.size) (o := .lst (kvs.map fun q=>kV q.1)) (t':=tk) k (Nat.le_refl _) ⟨by rw [List.length_map];exact z,acc.toList,c,?_,by simpa using hS⟩,rfl,q _ _ ⟨I.hok.fresh (Nat.le_refl _),rfl⟩⟩
 exact keys_rel kv (by rw [Array.length_toList];exact items.1) fun j v ej=>items.2 j v (by rw [←Array.getElem?_toList];exact ej)
end
end L2
namespace Z
open PySem L2
noncomputable def top (i:Nat):Stmt:=PySem.Challenge.pw_oddlong_k80_sheets_read.main.body.getD i (.Pass ⟨0,0,0,0⟩)
noncomputable abbrev i_OddError:Nat:=1
noncomputable abbrev i_BadRow:Nat:=2
noncomputable abbrev i_made_of:Nat:=11
noncomputable abbrev i_is_name:Nat:=12
noncomputable abbrev i_read_program:Nat:=16
noncomputable abbrev i_label_places:Nat:=17
noncomputable abbrev i_label_in:Nat:=18
noncomputable abbrev i_row_in:Nat:=19
noncomputable abbrev i_value_in:Nat:=20
noncomputable abbrev i_number_in:Nat:=21
noncomputable abbrev i_written_program:Nat:=22
noncomputable abbrev i_label_name:Nat:=23
noncomputable abbrev i_label_rows:Nat:=24
noncomputable abbrev i_row_text:Nat:=25
noncomputable abbrev i_law_begin:Nat:=27
noncomputable abbrev i_law_take:Nat:=28
noncomputable abbrev i_law_program:Nat:=29
noncomputable abbrev i_law_word:Nat:=30
noncomputable abbrev i_law_sheet:Nat:=31
noncomputable abbrev i_law_written:Nat:=32
noncomputable abbrev i_law_many:Nat:=33
noncomputable abbrev i_law_same:Nat:=34
noncomputable abbrev i_law:Nat:=35
end Z
namespace Z
open PySem L2
theorem sizeOk {n:Nat} (h:n≤10000000):n≤sizeLine:=Nat.le_trans h (by decide)
theorem ndS (l:List Str) (h:decide l.Nodup=true:=by decide +kernel):l.Nodup:=of_decide_eq_true h
end Z
namespace L2
set_option genSizeOf false
set_option genInjectivity false
end L2
namespace L2
set_option genSizeOf false
set_option genInjectivity false
end L2
namespace Z
open PySem L2
structure Box (H:Hp) (b c:Addr) (t:Int) (ns:List Int):Prop where
 d:H b=some (.dK [(.inr "cells", .ref c),(.inr "turn", .int t)])
 l:H c=some (.lst (ns.map V.int))
 ne:0<ns.length
 le:ns.length≤64
noncomputable def hid (H:Hp) (b c:Addr):Hp:=fun a=>if a=b∨a=c then none else H a
theorem hid_of {H:Hp} {b c a:Addr} (h1:a≠b) (h2:a≠c):hid H b c a=H a:=if_neg (fun z=>z.elim h1 h2)
theorem of_hid {H:Hp} {b c a:Addr} {o:HO} (h:hid H b c a=some o):H a=some o∧a≠b∧a≠c:=by
 unfold hid at h
 split at h
 ·cases h
 ·rename_i n
  exact ⟨h,fun z=>n (.inl z),fun z=>n (.inr z)⟩
theorem Box.bc {H:Hp} {b c:Addr} {t:Int} {ns:List Int} (x:Box H b c t ns):b≠c:=ne_of x.d x.l (by intro z;cases z)
theorem Box.get_turn {H:Hp} {b c:Addr} {t:Int} {ns:List Int} (x:Box H b c t ns):DGet H b (.str "turn") (some (.int t)):=DGet.k (k:=Sum.inr "turn") x.d
theorem Box.get_cells {H:Hp} {b c:Addr} {t:Int} {ns:List Int} (x:Box H b c t ns):DGet H b (.str "cells") (some (.ref c)):=DGet.k (k:=Sum.inr "cells") x.d
theorem Box.put_turn {H:Hp} {b c:Addr} {t:Int} {ns:List Int} (x:Box H b c t ns) (t':Int):DPut H b (.str "turn") (.int t') (upd H b (.dK [(.inr "cells", .ref c),(.inr "turn", .int t')])):=
 DPut.k (k:=Sum.inr "turn") x.d (by show 2<sizeLine;decide)
theorem Box.turned {H:Hp} {b c:Addr} {t:Int} {ns:List Int} (x:Box H b c t ns) (t':Int):Box (upd H b (.dK [(.inr "cells", .ref c),(.inr "turn", .int t')])) b c t' ns:=
 ⟨upd_same,by rw [upd_ne (Ne.symm x.bc)];exact x.l,x.ne,x.le⟩
theorem hid_upd_b {H:Hp} {b c:Addr} {o:HO} : hid (upd H b o) b c=hid H b c:=by
 funext a;unfold hid;split
 ·rfl
 ·rename_i n;exact upd_ne (fun z=>n (.inl z))
theorem hid_upd_c {H:Hp} {b c:Addr} {o:HO} : hid (upd H c o) b c=hid H b c:=by
 funext a;unfold hid;split
 ·rfl
 ·rename_i n;exact upd_ne (fun z=>n (.inr z))
noncomputable def spTake:Sp:=fun vs H Q _=>Ex5 fun (b c:Addr) (t:Int) (ns:List Int) (many:Int)=>vs=[.ref b, .int many]∧Box H b c t ns∧0≤t∧t<100000000∧0<many∧many<1073741824 ∧
 ∀(r:Int) (H':Hp) (ns':List Int),0≤r→r<many→Box H' b c (t+1) ns'→Same (hid H b c) (hid H' b c)→Q (.int r) H'
theorem at_of {ns:List Int} {p:Int} (h0:0≤p) (h1:p<ns.length):∃v,atI (ns.map V.int) p=some (.int v)∧ns[p.toNat]? = some v:=by
 have hk:p.toNat<ns.length:=by omega
 have ek:p=((p.toNat:Nat):Int):=by omega
 have q:atI (ns.map V.int) ((p.toNat:Nat):Int)=some (.int ns[p.toNat]):=atI_nat (by rw [List.getElem?_map,List.getElem?_eq_getElem hk] <;> rfl)
 rw [←ek] at q
 exact ⟨_,q,List.getElem?_eq_getElem hk⟩
theorem cm_mod {a j m:Int} (h0:0<m) (h:m<2 ^ 64):CMul (a % m) j:=by
 have h1:=Int.emod_nonneg a (b:=m) (by omega)
 have h2:=Int.emod_lt_of_pos a h0
 exact .inl ⟨by omega,by omega⟩
theorem ixN_of {n:Nat} {p:Int} (h0:0≤p) (h1:p<n):ixN n p=some p.toNat:=by unfold ixN;rw [if_pos h0,if_pos h1]
theorem hid_more {H H':Hp} {b c:Addr} (h:∀a o,a≠b→a≠c→H a=some o→H' a=some o):Same (hid H b c) (hid H' b c):=fun a o e=>by
 refine Elim.el (of_hid e) _ ?_
 rintro e h1 h2
 rw [hid_of h1 h2]
 exact h a o h1 h2 e
end Z
namespace L2
open PySem
noncomputable def Gm (t:TG):Prop:=∀x σ H (Q Q':St→Hp→Prop),(∀a b,Q a b→Q' a b)→t x σ H Q→t x σ H Q'
noncomputable def Gms (t:TGs):Prop:=∀x σ H (Q Q':St→Hp→Prop),(∀a b,Q a b→Q' a b)→t x σ H Q→t x σ H Q'
theorem gm_name {i:Nat} : Gm (gName i):=fun _ _ _ _ _ h q=>h _ _ q
theorem gms_nil:Gms gNil:=fun _ _ _ _ _ h q=>⟨q.1,h _ _ q.2⟩
theorem gms_cons {t:TG} {u:TGs} (a:Gm t) (b:Gms u):Gms (gCons t u):=fun _ _ _ _ _ h ⟨v,r,e,q⟩=>⟨v,r,e,a _ _ _ _ _ (fun _ _ z=>b _ _ _ _ _ h z) q⟩
theorem Dens.get {K:PySem.W.Frag} {H:Hp} : ∀{ds:List PyData} {vs:List V} {i:Nat} {d:PyData},Dens K H ds vs→ds[i]? = some d→∃v,vs[i]? = some v∧Den K H d v
 | [],_,_,_,_,e=>by simp at e
 | d :: ds,vs,i,d',h,e=>by
  unfold Dens at h
  obtain ⟨v,r,rfl,h1,h2⟩:=h
  cases i with
  | zero=>cases e;exact ⟨v,rfl,h1⟩
  | succ i=>exact Dens.get (i:=i) h2 e
theorem Dens.len {K:PySem.W.Frag} {H:Hp} : ∀{ds:List PyData} {vs:List V},Dens K H ds vs→vs.length=ds.length
 | [],_,h=>by unfold Dens at h;subst h;rfl
 | d :: ds,vs,h=>by
  unfold Dens at h
  obtain ⟨v,r,rfl,h1,h2⟩:=h
  rw [List.length_cons,List.length_cons,Dens.len h2]
end L2
namespace Z
open PySem L2
theorem same_new {H:Hp} {p:Addr} (h:H p=none) (o:HO):Same H (upd H p o):=fun b u q=>by rw [upd_ne (ne_of_none q h)];exact q
end Z
namespace L2
open PySem
theorem for_go {J:It} {g:TG} {tb:TS} {D:Ends} {σ:St} {H:Hp} (N:Nat) (Pv:Nat→St→Hp→Prop) (h0:Pv 0 σ H)
  (go:∀i σ H,i<N→Pv i σ H→J.go i H∧∀x H',J.yld i H x H'→g x σ H' fun σ2 H2=>tb { D with nx:=Pv (i+1),ct:=Pv (i+1),bk:=D.nx } σ2 H2)
  (stop:∀ σ H,Pv N σ H→J.stop N H∧D.nx σ H) :
  ∃W:Nat→Nat→St→Hp→Prop,(∃m,W 0 m σ H)∧∀i m σ H,W i m σ H →
   (J.stop i H∧D.nx σ H)∨(J.go i H∧∃N:St→Hp→Prop,(∀ σ' H',N σ' H'→∃m',m'<m∧W (i+1) m' σ' H')∧∀x H',J.yld i H x H'→g x σ H' fun σ2 H2=>tb { D with nx:=N,ct:=N,bk:=D.nx } σ2 H2):=by
 refine ⟨fun i m σ H=>m=N-i∧i≤N∧Pv i σ H,⟨N,by simp,Nat.zero_le _,h0⟩,?_⟩
 intro i m σ H
 refine Elim.go ?_
 rintro rfl hi p
 by_cases hlt:i<N
 ·obtain ⟨g1,g2⟩:=go i σ H hlt p
  exact .inr ⟨g1,Pv (i+1),fun σ' H' p'=>⟨N-(i+1),by omega,rfl,hlt,p'⟩,g2⟩
 ·have e:i=N:=by omega
  subst e
  exact .inl (stop σ H p)
end L2
namespace L2
open PySem
theorem seqCut {t u:TS} {D:Ends} {σ:St} {H:Hp} (Ex:St→Hp→Prop) (h:∀Nx:St→Hp→Prop,(∀ σ H,Ex σ H→Nx σ H)→t { D with nx:=Nx } σ H) (fin:∀ σ H,Ex σ H→u D σ H):tSeq t u D σ H:=h (u D) fin
theorem whileGo {c:TT} {tb:TS} {D:Ends} {σ:St} {H:Hp} (Pv:Nat→St→Hp→Prop) (h0:∃m,Pv m σ H)
  (hs:∀m σ H,Pv m σ H→c σ H fun b H1=>if b=true then ∃N:St→Hp→Prop,(∀ σ' H',N σ' H'→∃m',m'<m∧Pv m' σ' H')∧tb { D with nx:=N,ct:=N,bk:=D.nx } σ H1 else D.nx σ H1):tWhile c tb D σ H:=⟨Pv,h0,hs⟩
end L2
namespace L2
open PySem
theorem asgCut {te:TE} {g:TG} {u:TS} {D:Ends} {σ:St} {H:Hp} (Ex:V→Hp→Prop) (h:∀Qn:VK,(∀v H,Ex v H→Qn v H)→te σ H Qn) (fin:∀v H,Ex v H→g v σ H (u D)):tSeq (tAsg te g) u D σ H:=h _ fin
end L2
namespace L2
open PySem
theorem gn {i:Nat} {v:V} {σ:St} {H:Hp} {Q:St→Hp→Prop} (h:Q (σ.set i (some v)) H):gName i v σ H Q:=h
end L2
namespace L2
open PySem
end L2
namespace Z
open PySem L2
noncomputable def Bx (H:Hp) (b c:Addr) (t:Int):Prop:=∃ns,Box H b c t ns
structure Step (b c:Addr) (H H':Hp) (t t' N:Int):Prop where
 le:t≤t'
 ub:t'≤t+N
 bx:Bx H' b c t'
 sm:Same (hid H b c) (hid H' b c)
theorem Step.refl {b c:Addr} {H:Hp} {t:Int} (h:Bx H b c t):Step b c H H t t 0:=⟨Int.le_refl _,by omega,h,Same.refl _⟩
theorem Step.trans {b c:Addr} {H H' H2:Hp} {t t' t2 N M:Int} (x:Step b c H H' t t' N) (y:Step b c H' H2 t' t2 M):Step b c H H2 t t2 (N+M):=
 ⟨by have:=x.le;have:=y.le;omega,by have:=x.ub;have:=y.ub;omega,y.bx,x.sm.trans y.sm⟩
theorem Step.more {b c:Addr} {H H':Hp} {t t' N M:Int} (x:Step b c H H' t t' N) (h:N≤M):Step b c H H' t t' M:=⟨x.le,by have:=x.ub;omega,x.bx,x.sm⟩
theorem Bx.ne_new {H:Hp} {b c p:Addr} {t:Int} (x:Bx H b c t) (h:H p=none):p≠b∧p≠c:=by
 obtain ⟨ns,x⟩:=x
 exact ⟨fun z=>(by rw [z,x.d] at h;cases h),fun z=>(by rw [z,x.l] at h;cases h)⟩
theorem Bx.upd {H:Hp} {b c p:Addr} {t:Int} {o:HO} (x:Bx H b c t) (h1:p≠b) (h2:p≠c):Bx (upd H p o) b c t:=by
 obtain ⟨ns,x⟩:=x
 exact ⟨ns,by rw [upd_ne (Ne.symm h1)];exact x.d,by rw [upd_ne (Ne.symm h2)];exact x.l,x.ne,x.le⟩
theorem Step.new {b c p:Addr} {H H':Hp} {t t' N:Int} (x:Step b c H H' t t' N) (h:H' p=none) (o:HO):Step b c H (upd H' p o) t t' N:=
 ⟨x.le,x.ub,x.bx.upd (x.bx.ne_new h).1 (x.bx.ne_new h).2,x.sm.trans (hid_more fun a u _ _ e=>by rw [upd_ne (ne_of_none e h)];exact e)⟩
theorem Step.chg {b c p:Addr} {H H':Hp} {t t' N:Int} (x:Step b c H H' t t' N) (h:H p=none) (h1:p≠b) (h2:p≠c) (o:HO):Step b c H (upd H' p o) t t' N:=
 ⟨x.le,x.ub,x.bx.upd h1 h2,fun a u e=>by
  have q:=x.sm a u e
  refine Elim.el (of_hid q) _ ?_
  rintro q n1 n2
  rw [hid_of n1 n2,upd_ne (fun z => ?_)]
  ·exact q
  ·rw [z] at e
   rw [(of_hid e).1] at h;cases h⟩
theorem Step.old {b c a:Addr} {H H':Hp} {t t' N:Int} {o:HO} (x:Step b c H H' t t' N) (h:H a=some o) (h1:a≠b) (h2:a≠c):H' a=some o:=
 (of_hid (x.sm a o (by rw [hid_of h1 h2];exact h))).1
theorem Step.fresh {b c a:Addr} {H H':Hp} {t t' N:Int} (x:Step b c H H' t t' N) (hb:Bx H b c t) (h:H' a=none):H a=none:=by
 obtain ⟨h1,h2⟩:=x.bx.ne_new h
 cases e:H a with
 | none=>rfl
 | some o=>rw [x.old e h1 h2] at h;cases h
theorem Same.hid {H H':Hp} {b c:Addr} (s:Same H H'):Same (hid H b c) (hid H' b c):=hid_more fun a o _ _ e=>s a o e
theorem Bx.same {H H':Hp} {b c:Addr} {t:Int} (x:Bx H b c t) (s:Same H H'):Bx H' b c t:=by
 obtain ⟨ns,x⟩:=x
 exact ⟨ns,s _ _ x.d,s _ _ x.l,x.ne,x.le⟩
theorem Step.same {b c:Addr} {H H':Hp} {t:Int} (x:Bx H b c t) (s:Same H H'):Step b c H H' t t 0:=⟨Int.le_refl _,by omega,x.same s,Same.hid s⟩
noncomputable def spTk:Sp:=fun vs H Q _=>Ex4 fun (b c:Addr) (t many:Int)=>vs=[.ref b, .int many]∧Bx H b c t∧0≤t∧t<100000000∧0<many∧many<1073741824 ∧
 ∀(r:Int) (H':Hp),0≤r→r<many→Step b c H H' t (t+1) 1→Q (.int r) H'
theorem spTk_of {vs:List V} {H:Hp} {Q:VK} {E:XK} (h:spTk vs H Q E):spTake vs H Q E:=by
 obtain ⟨b,c,t,many,e,⟨ns,bx⟩,h1,h2,h3,h4,q⟩:=h
 exact ⟨b,c,t,ns,many,e,bx,h1,h2,h3,h4,fun r H' ns' r0 r1 bx' sm=>q r H' r0 r1 ⟨by omega,by omega,⟨ns',bx'⟩,sm⟩⟩
theorem cut_to (vs:List V) (j:Nat):cutV vs none (some (j:Int))=vs.take j:=by
 unfold cutV
 rw [HT.sIx_none,HT.sIx_nat,List.drop_zero,Nat.sub_zero]
 rcases Nat.le_total j vs.length with h|h
 ·rw [Nat.min_eq_left h]
 ·rw [Nat.min_eq_right h,List.take_of_length_le (Nat.le_refl _),List.take_of_length_le h]
theorem cut_from (vs:List V) (j:Nat):cutV vs (some (j:Int)) none=vs.drop j:=by
 unfold cutV
 rw [HT.sIx_none,HT.sIx_nat]
 rcases Nat.le_total j vs.length with h|h
 ·rw [Nat.min_eq_left h,List.take_of_length_le (by rw [List.length_drop];exact Nat.le_refl _)]
 ·rw [Nat.min_eq_right h,List.drop_of_length_le (Nat.le_refl _),List.drop_of_length_le h];simp
theorem Fn.imp {P:Program} {w:World} {K:PySem.W.Frag} {mg:Str→Option Value} {base:Heap} {k:Nat} {x:Str} {ps:List Str} {sp sp':Sp} (F:Fn P w K mg base k x ps sp) (h:∀vs H Q E,sp' vs H Q E→sp vs H Q E):Fn P w K mg base k x ps sp':=by
 refine Elim.el (F.ex) _ ?_
 rintro f fd a b c d
 exact ⟨f,fd,a.imp h,b,c,d⟩
end Z
namespace Z
open PySem L2
theorem Step.newN {b c p:Addr} {H H' H2:Hp} {t t' N:Int} {o:HO} (x:Step b c H H' t t' N) (n:New H' p o H2):Step b c H H2 t t' N:=by rw [n.eq];exact x.new n.nn _
theorem Step.chgN {b c p:Addr} {H H' H2:Hp} {t t' N:Int} {o:HO} (x:Step b c H H' t t' N) (n:Chg H' p o H2) (h:H p=none) (h1:p≠b) (h2:p≠c):Step b c H H2 t t' N:=by rw [n.eq];exact x.chg h h1 h2 _
end Z
namespace Z
open PySem L2
theorem glued_list (g:Str):∀(parts:List Str) (acc:Array Nat),(parts.foldl (fun acc p=>acc++g.cps++p.cps) acc).toList=acc.toList++parts.flatMap (fun p=>g.cps.toList++p.cps.toList)
 | [],acc=>by simp
 | p :: r,acc=>by rw [List.foldl_cons,glued_list g r];simp
theorem join_list0 (xs:List Str):(Txt.join "" xs).cps.toList=xs.flatMap (fun p=>p.cps.toList):=by
 cases xs with
 | nil=>rfl
 | cons x r=>
  show ((r.foldl (fun acc p=>acc++(Str.ofString "").cps++p.cps) x.cps)).toList=_
  rw [glued_list]
  have e:(Str.ofString "").cps.toList=[]:=rfl
  simp [e]
end Z
namespace Z
open PySem L2
theorem str_append_list (x y:Str):(x++y).cps.toList=x.cps.toList++y.cps.toList:=by
 show (x.cps++y.cps).toList=_
 simp
theorem str_len (x:Str):x.length=x.cps.toList.length:=by simp [Str.length]
theorem len_append (x y:Str):(x++y).length=x.length+y.length:=by rw [str_len,str_append_list,List.length_append, ←str_len, ←str_len]
end Z
namespace Z
open PySem L2
noncomputable def Sh (n:Nat) (d:PyData):Prop:=d.canLay0=true∧d.depth≤n
theorem Sh.all {n:Nat} : ∀{ds:List PyData},(∀d∈ds,Sh n d)→PyData.canLayAll0 ds=true∧PyData.depthAll ds≤n
 | [],_=>⟨by simp [PyData.canLayAll0],by simp [PyData.depthAll]⟩
 | d :: ds,h=>by
  obtain ⟨h1,h2⟩:=h d List.mem_cons_self
  obtain ⟨h3,h4⟩:=Sh.all fun e he=>h e (List.mem_cons_of_mem _ he)
  exact ⟨by simp [PyData.canLayAll0,h1,h3],by simp only [PyData.depthAll];omega⟩
theorem Sh.list {n:Nat} {ds:List PyData} (h:∀d∈ds,Sh n d):Sh (n+1) (.list ds):=by
 obtain ⟨h1,h2⟩:=Sh.all h
 exact ⟨by simpa [PyData.canLay0] using h1,by simp only [PyData.depth];omega⟩
theorem Sh.shaped {n:Nat} {d:PyData} (h:Sh n d) (hn:n≤64):SeqAt.shaped d=true:=by
 unfold SeqAt.shaped
 rw [h.1,decide_eq_true (Nat.le_trans h.2 hn)]
 rfl
theorem Sh.str {n:Nat} {x:Str} (h:PyData.canLay0 (.str x)=true):Sh n (.str x):=⟨h,by simp [PyData.depth]⟩
theorem Sh.int {n:Nat} {i:Int} : Sh n (.int i):=⟨by simp [PyData.canLay0],by simp [PyData.depth]⟩
theorem canLay_small {x:Str} (h:∀ch∈x.cps.toList,ch<128):PyData.canLay0 (.str x)=true:=by
 simp only [PyData.canLay0,PyData.strOk]
 rw [←Array.all_toList,List.all_eq_true]
 intro ch hc
 have:=h ch hc
 exact decide_eq_true (by omega)
theorem Den.strs {K:PySem.W.Frag} {H:Hp} : ∀(xs:List Str),Dens K H (xs.map PyData.str) (xs.map V.str)
 | []=>by unfold Dens;rfl
 | x :: xs=>by
  rw [List.map_cons]
  unfold Dens
  exact ⟨_,_,rfl,by unfold Den;rfl,Den.strs xs⟩
theorem Den.list {K:PySem.W.Frag} {H:Hp} {l:Addr} {ds:List PyData} {vs:List V} (h:SqL K H l vs) (hd:Dens K H ds vs):Den K H (.list ds) (.ref l):=by
 unfold Den
 exact ⟨l,vs,rfl,h,hd⟩
theorem depth_at {n:Nat} : ∀{ds:List PyData} {d:PyData},PyData.depthAll ds≤n→d∈ds→d.depth≤n
 | [],_,_,h=>nomatch h
 | e :: ds,d,hn,h=>by
  simp only [PyData.depthAll] at hn
  rcases List.mem_cons.mp h with rfl|h
  ·omega
  ·exact depth_at (by omega) h
theorem weight_at {n:Nat} : ∀{ds:List PyData} {d:PyData},PyData.weightAll ds≤n→d∈ds→d.weight≤n
 | [],_,_,h=>nomatch h
 | e :: ds,d,hn,h=>by
  simp only [PyData.weightAll] at hn
  rcases List.mem_cons.mp h with rfl|h
  ·omega
  ·exact weight_at (by omega) h
theorem len_weight:∀(ds:List PyData),ds.length≤PyData.weightAll ds
 | []=>by simp
 | e :: ds=>by
  simp only [PyData.weightAll,List.length_cons]
  have:=len_weight ds
  omega
theorem all_true (n:Nat):(List.replicate n true).all id=true:=by
 induction n with
 | zero=>rfl
 | succ n ih=>rw [List.replicate_succ,List.all_cons,ih];rfl
end Z
namespace Z
open PySem L2
theorem Dens.of_get {K:PySem.W.Frag} {H:Hp} : ∀{ds:List PyData} {vs:List V},ds.length=vs.length→(∀(j:Nat) d v,ds[j]? = some d→vs[j]? = some v→Den K H d v)→Dens K H ds vs
 | [],[],_,_=>by unfold Dens;rfl
 | [],_ :: _,h,_=>by simp at h
 | _ :: _,[],h,_=>by simp at h
 | d :: ds,v :: vs,h,g=>by
  unfold Dens
  exact ⟨v,vs,rfl,g 0 d v rfl rfl,Dens.of_get (by simpa using h) fun j d' v' h1 h2=>g (j+1) d' v' h1 h2⟩
end Z
namespace Z
open PySem L2
theorem weight_int {i:Int} (h:i.natAbs<2 ^ 200):PyData.weight (.int i)≤201:=by
 simp only [PyData.weight]
 split
 ·omega
 ·rename_i h0
  have hne:i.natAbs≠0:=by
   intro z
   exact h0 (by simp;omega)
  have:=(Nat.log2_lt hne).mpr h
  omega
end Z
namespace Z
open PySem L2
noncomputable def spBegin (K:PySem.W.Frag):Sp:=fun vs H Q _=>Ex2 fun (a:Addr) (ns:List Int)=>vs=[.ref a]∧SqL K H a (ns.map V.int)∧ns.length≤63 ∧
 ∀(b c:Addr) (H':Hp),Bx H' b c 0→H b=none→H c=none→Same H (hid H' b c)→Q (.ref b) H'
theorem Den.ints {K:PySem.W.Frag} {H:Hp} : ∀(ns:List Int),Dens K H (ns.map PyData.int) (ns.map V.int)
 | []=>by unfold Dens;rfl
 | n :: ns=>by
  rw [List.map_cons,List.map_cons]
  unfold Dens
  exact ⟨_,_,rfl,by unfold Den;rfl,Den.ints ns⟩
theorem eqvNil (ds:List PyData):PyData.eqv (.list ds) (.list [])=ds.isEmpty:=by
 cases ds <;> simp [PyData.eqv,PyData.eqvAll]
theorem sh_ints {n:Nat} (ns:List Int):Sh (n+1) (.list (ns.map PyData.int)):=Sh.list fun d hd=>by
 refine Elim.el (List.mem_map.mp hd) _ ?_
 rintro i _ rfl
 exact Sh.int
section
variable {P:Program} {w:World} {K:PySem.W.Frag} {mg:Str→Option Value} {base:Heap} {f:Addr} {fd:FuncData}
theorem sc_law_begin:FnScope ["_law_script", "_law_cells"] ["_law_script"] (defScope (top i_law_begin)):=⟨rfl,rfl,rfl,by decide +kernel,rfl,by decide +kernel,by decide +kernel⟩
theorem ok_begin (F:Fun K "_law_begin" "_law_begin" (top i_law_begin) f fd) (T:Nm mg):FnOk P w K mg base CX0 1 f fd ["_law_script"] (spBegin K):=by
 refine F.ok sc_law_begin (fun vs H Q E h => ?_) (fun cdv A outer s H vs Q E hr h => ?_)
 ·obtain ⟨a,ns,rfl,_⟩:=h
  rfl
 obtain ⟨a,ns,rfl,hS,hlen,q⟩:=h
 have hu6:=hr.units
 refine ⟨_,(pss_cons (ps_set (i:=1) sc_law_begin.nd rfl (Or.inl rfl) (pe_callTy (listN K) rfl T.n_list (by rfl) (pa_cons (pe_slice (slN K) (pv 0) po_none (po_some pe_int)) pa_nil)))
  (pss_cons (ps_if (pt_cmpR (eqK K hu6) (pv 1) (lstN pa_nil) (nomark _)) (pss_one (ps_set (i:=1) sc_law_begin.nd rfl (Or.inl rfl) (lstN (pa_cons pe_int pa_nil)))) pss_nil)
  (pss_one (ps_ret (dispN (pps_cons pe_str (pv 1) (pps_cons pe_str pe_int pps_nil)) rfl rfl (by decide) (by decide)))))),?_⟩
 refine ⟨_,rfl,_,rfl, .inl ⟨a,_,rfl,hS,fun r1 H1 n1 => ?_⟩⟩
 refine ⟨r1,_,rfl, .inl (SqL.of n1.at),fun r2 H2 n2=>gn ?_⟩
 have hc:cutV (ns.map V.int) none (some 63)=ns.map V.int:=by
  have e:=cut_to (ns.map V.int) 63
  rw [List.take_of_length_le (by rw [List.length_map];exact hlen)] at e
  exact e
 have hn2:H2 r2=some (.lst (ns.map V.int)):=by rw [←hc];exact n2.at
 have sm2:=n1.same.trans n2.same
 dsimp only
 refine seqCut (t:=tIfS _ _ _) (fun σ H'=>Ex2 fun (r:Addr) (ns':List Int) => σ=[some (.ref a),some (.ref r)]∧H' r=some (.lst (ns'.map V.int))∧0<ns'.length∧ns'.length≤64∧H r=none∧Same H H') (fun Nx nx => ?_) ?_
 ·refine ⟨_,rfl,by show 0≤sizeLine;decide,fun r3 H3 n3 => ?_⟩
  have d2:Den K H3 (.list (ns.map PyData.int)) (.ref r2):=Den.list (SqL.of (n3.same _ _ hn2)) (Den.ints ns)
  have d3:Den K H3 (.list []) (.ref r3):=Den.list (SqL.of n3.at) (Den.ints [])
  refine .inr ⟨_,_,d2,d3,(sh_ints (n:=1) ns).shaped (by decide),by decide +kernel,_,rfl,?_⟩
  rw [eqvNil]
  refine ite2 (fun e => ?_) (fun e => ?_)
  ·refine ⟨by show 1≤sizeLine;decide,fun r4 H4 n4=>gn (nx _ _ ⟨r4,[_],rfl,n4.at,by decide,by decide,(sm2.trans n3.same).free n4.nn,sm2.trans (n3.same.trans n4.same)⟩)⟩
  ·refine nx _ _ ⟨r2,ns,rfl,n3.same _ _ hn2,?_,by omega,n1.same.free n2.nn,sm2.trans n3.same⟩
   cases ns with
   | nil=>exact absurd rfl e
   | cons _ _=>exact Nat.succ_pos _
 intro σ H3
 refine Elim.go ?_
 rintro r ns' rfl hr' l0 l1 hn sm
 intro p H0 n0
 refine ⟨_,rfl,?_⟩
 refine ⟨n0.at,[(.inr "cells", .ref r),(.inr "turn", .int 0)],rfl,by show 2≤15;decide,fun H6 n6 => ?_⟩
 have hpr:r≠p:=ne_of_none hr' n0.nn
 have hp:H p=none:=sm.free n0.nn
 refine q p r H6 ⟨ns',?_,?_,l0,l1⟩ hp hn (fun b o e => ?_)
 ·rw [n6.at];rfl
 ·rw [n6.ne hpr,n0.ne hpr];exact hr'
 ·have hb1:b≠p:=ne_of_none e hp
  have hb2:b≠r:=ne_of_none e hn
  rw [hid_of hb1 hb2,n6.ne hb1,n0.ne hb1]
  exact sm _ _ e
end
end Z
namespace Z
open PySem L2
theorem Box.same {H H':Hp} {b c:Addr} {t:Int} {ns:List Int} (x:Box H b c t ns) (s:Same H H'):Box H' b c t ns:=⟨s _ _ x.d,s _ _ x.l,x.ne,x.le⟩
section
variable {P:Program} {w:World} {K:PySem.W.Frag} {mg:Str→Option Value} {base:Heap} {f:Addr} {fd:FuncData}
theorem sc_law_take:FnScope ["_law_state", "_law_many_here", "_law_turn", "_law_place", "_law_cell", "_law_digit", "_law_mixed"] ["_law_state", "_law_many_here"] (defScope (top i_law_take)):=⟨rfl,rfl,rfl,by decide +kernel,rfl,by decide +kernel,by decide +kernel⟩
theorem ok_take (F:Fun K "_law_take" "_law_take" (top i_law_take) f fd) (T:Nm mg):FnOk P w K mg base CX0 1 f fd ["_law_state", "_law_many_here"] spTake:=by
 refine F.ok sc_law_take (fun vs H Q E h => ?_) (fun cdv A outer s H vs Q E hr h => ?_)
 ·obtain ⟨b,c,t,ns,many,rfl,_⟩:=h
  rfl
 obtain ⟨b,c,t,ns,many,rfl,bx,t0,t1,m0,m1,q⟩:=h
 have hu:=hu_of hr
 refine ⟨_,(pss_cons (ps_set (i:=2) sc_law_take.nd rfl (Or.inl rfl) (pe_op addN (pe_dget hu (pv 0) pe_str (fun _ _=>rfl)) pe_int))
  (pss_cons (ps_dput hu (pv 0) pe_str (pv 2) rfl)
  (pss_cons (ps_set (i:=3) sc_law_take.nd rfl (Or.inl rfl) (pe_op op_mod (pv 2) (pe_callB (lenK K) rfl T.n_len (by rfl) (pa_cons (pe_dget hu (pv 0) pe_str (fun _ _=>rfl)) pa_nil))))
  (pss_cons (ps_set (i:=4) sc_law_take.nd rfl (Or.inl rfl) (pe_ix (ixK K) (pe_dget hu (pv 0) pe_str (fun _ _=>rfl)) (pv 3) (fun _ _=>rfl)))
  (pss_cons (ps_if (pt_cmpR op_ge (pv 4) (pe_op op_pow pe_int pe_int) (nomark _)) (pss_cons (ps_asg (pe_callB divmodN rfl T.n_divmod (by rfl) (pa_cons (pv 4) (pa_cons (pv 1) pa_nil))) (tupK K 2 rfl (pgs_cons (pg_sub (pe_dget hu (pv 0) pe_str (fun _ _=>rfl)) (pv 3) set_list) (pgs_cons (pg_name (i:=5) sc_law_take.nd rfl (Or.inl rfl)) pgs_nil))))
  (pss_one (ps_ret (pv 5)))) pss_nil)
  (pss_cons (ps_set (i:=6) sc_law_take.nd rfl (Or.inl rfl) (pe_op op_mod (pe_op mulN (pe_op addN (pe_op addN (pe_op op_mod (pv 4) pe_int) (pe_op mulN (pe_op mulN (pv 2) (pv 2)) pe_int)) pe_int) pe_int) pe_int))
  (pss_cons (ps_set (i:=6) sc_law_take.nd rfl (Or.inl rfl) (pe_op op_mod (pe_op mulN (pv 6) (pv 6)) pe_int))
  (pss_one (ps_ret (pe_op op_mod (pe_op op_fdiv (pe_op op_mod (pe_op mulN (pe_op addN (pv 6) (pe_op mulN (pv 2) pe_int)) pe_int) pe_int) pe_int) (pv 1))))))))))),?_⟩
 refine ⟨_,rfl,b,_,rfl,bx.get_turn, .inl ⟨_,_,rfl,rfl,?_⟩⟩
 refine ⟨_,rfl,_,rfl,b,_,rfl,bx.put_turn (t+1),?_⟩
 have bx1:=bx.turned (t+1)
 refine ⟨_,rfl,_,rfl,b,_,rfl,bx1.get_cells,_,_,rfl, .inl ⟨_,SqL.of bx1.l,rfl⟩,_,_,rfl,rfl,?_,?_⟩
 ·rw [List.length_map];have:=bx1.ne;omega
 have hlen:(ns.map V.int).length=ns.length:=List.length_map _
 have hp0:0≤(t+1) % ((ns.map V.int).length:Int):=Int.emod_nonneg _ (by have:=bx1.ne;omega)
 have hp1:(t+1) % ((ns.map V.int).length:Int)<ns.length:=by rw [hlen];exact Int.emod_lt_of_pos _ (by have:=bx1.ne;omega)
 refine Elim.el (at_of hp0 hp1) _ ?_
 rintro v hv hv'
 refine ⟨_,rfl,b,_,rfl,bx1.get_cells,_,rfl, .inl ⟨c,_,_,_,rfl,rfl,SqL.of bx1.l,hv,?_⟩⟩
 refine ⟨_,rfl,_,_,rfl,rfl,⟨by decide,by decide,by decide⟩,_,_,rfl,rfl,_,rfl,?_⟩
 refine ite2 (fun _ => ?_) (fun _ => ?_)
 ·refine ⟨_,rfl,_,rfl,v,many,rfl,⟨m0,by omega⟩,fun pt H2 n2 => ?_⟩
  obtain ⟨hpb,hpc⟩:pt≠b∧pt≠c:=⟨fun z=>(by have:=n2.nn;rw [z,bx1.d] at this;cases this),fun z=>(by have:=n2.nn;rw [z,bx1.l] at this;cases this)⟩
  have bx2:=bx1.same n2.same
  refine ⟨pt,_,rfl,SqT.of n2.at,rfl,_,_,rfl,?_⟩
  refine ⟨_,rfl,b,_,rfl,bx2.get_cells,_,rfl,c,_,_,_,rfl,rfl,bx2.l,ixN_of hp0 (by simpa only [hlen] using hp1),?_⟩
  refine ⟨_,_,rfl,rfl,_,rfl,?_⟩
  refine q (v % many) _ (ns.set ((t+1) % ((ns.map V.int).length:Int)).toNat (v / many)) (Int.emod_nonneg _ (by omega)) (Int.emod_lt_of_pos _ m0) ⟨?_,?_,?_,?_⟩ ?_
  ·rw [upd_ne bx2.bc];exact bx2.d
  ·rw [upd_same,List.map_set]
  ·rw [List.length_set];exact bx1.ne
  ·rw [List.length_set];exact bx1.le
  ·rw [hid_upd_c]
   refine hid_more fun a o h1 h2 e => ?_
   rw [n2.ne (fun z => ?_),upd_ne h1]
   ·exact e
   ·have z2:=n2.nn
    rw [upd_ne hpb, ←z,e] at z2
    cases z2
 ·refine ⟨_,rfl,_,_,rfl,rfl,(by dsimp only;decide),_,rfl,_,rfl, .inl ⟨_,_,rfl,rfl, .inl ⟨by omega,by omega⟩, .inl ⟨_,_,rfl,rfl, .inr ⟨by decide,by decide⟩, .inl ⟨_,_,rfl,rfl, .inl ⟨_,_,rfl,rfl, .inl ⟨_,_,rfl,rfl, .inr ⟨by decide,by decide⟩,_,_,rfl,rfl,(by dsimp only;decide),?_⟩⟩⟩⟩⟩⟩
  have cm:∀(x y p:Int),0<p→p<2 ^ 64→CMul (x % p) y:=fun x y p h0 h1=>cm_mod h0 h1
  refine ⟨_,rfl,_,rfl, .inl ⟨_,_,rfl,rfl,cm _ _ _ (by decide) (by decide),?_⟩⟩
  refine ⟨_,_,rfl,rfl,(by dsimp only;decide),?_⟩
  refine ⟨_,rfl,_,rfl, .inl ⟨_,_,rfl,rfl, .inl ⟨by omega,by omega⟩, .inl ⟨_,_,rfl,rfl, .inl ⟨_,_,rfl,rfl, .inr ⟨by decide,by decide⟩,_,_,rfl,rfl,(by dsimp only;decide),_,_,rfl,rfl,⟨by decide,by decide⟩,_,rfl,_,_,rfl,rfl,m0,?_⟩⟩⟩⟩
  exact q _ _ ns (Int.emod_nonneg _ (by omega)) (Int.emod_lt_of_pos _ m0) bx1 (by rw [hid_upd_b];exact Same.refl _)
end
end Z
namespace Z
open PySem L2
noncomputable def Asz (x:Str):Bool:=x.cps.all (· < 128)
mutual
noncomputable def Pz:PyData→Bool
 | .none | .bool _=>true
 | .int i=>decide (i.natAbs<10 ^ 40)
 | .str x=>Asz x
 | .list ds | .tuple ds=>Pzs ds
 | .dict _=>false
noncomputable def Pzs:List PyData→Bool
 | []=>true
 | d :: ds=>Pz d&&Pzs ds
end
theorem lText_len (ts:List Str):(listText ts).length≤piled ts+2:=by
 unfold listText
 rw [strLen_append]
 have e:(((("]" : String):Str))).length=1:=rfl
 rw [e]
 cases ts with
 | nil=>exact Nat.le_refl _
 | cons t ts=>
  have q:=textFrom_length_pos ts 1 ((("[" : String):Str)++((if 0>0 then ", " else "" : String):Str)++t) (by decide)
  show (textFrom 1 _ ts).length+1≤_
  rw [q,strLen_append,strLen_append,piled_cons]
  have e1:(((("[" : String):Str))).length=1:=rfl
  have e2:((((if 0>0 then ", " else "" : String):Str))).length=0:=rfl
  rw [e1,e2]
  omega
theorem tText_len (ts:List Str):(tupleText ts).length≤piled ts+3:=by
 unfold tupleText
 rw [strLen_append,strLen_append]
 have e1:((("(" : String):Str)).length=1:=rfl
 have e3:(((if ts.length == 1 then ",)" else ")" : String):Str)).length≤2:=by split <;> decide
 have e2:(Str.join ", " ts).length≤piled ts:=by
  cases ts with
  | nil=>exact Nat.le_refl _
  | cons t ts=>have:=join_length_add (t :: ts) (by simp);omega
 rw [e1]
 omega
theorem int_len {i:Int} (h:i.natAbs<10 ^ 40):(Str.ofString (toString i)).length≤41:=by
 cases i with
 | ofNat n=>
  have:=PyProof.Rows.toString_length_le (v:=Int.ofNat n) (by simp) (k:=40) (by decide) (by
   have h:n<10 ^ 40:=h
   show ((n:Nat):Int)<10 ^ 40
   exact_mod_cast h)
  omega
 | negSucc n=>
  have h:n+1<10 ^ 40:=h
  have:=PyProof.Rows.toString_length_le (v:=Int.ofNat (n+1)) (by show (0:Int)≤((n+1:Nat):Int);omega) (k:=40) (by decide) (by
   show ((n+1:Nat):Int)<10 ^ 40
   exact_mod_cast h)
  have e:toString (Int.negSucc n) = "-" ++ toString (Int.ofNat (n+1)):=rfl
  rw [e]
  have e2:∀a b:String,(Str.ofString (a++b)).length=(Str.ofString a).length+(Str.ofString b).length:=fun a b=>by
   simp [PyProof.Rows.ofString_length]
  rw [e2]
  have e3:(Str.ofString "-").length=1:=rfl
  omega
mutual
theorem pz_shown:∀(d:PyData),Pz d=true→d.shown.length≤44*d.weight+42∧d.showable=true∧d.canLay0=true
 | .none,_=>⟨by decide +kernel,rfl,rfl⟩
 | .bool b,_=>⟨by cases b <;> decide +kernel,rfl,rfl⟩
 | .int i,h=>by
  have h:i.natAbs<10 ^ 40:=by simpa [Pz] using h
  refine ⟨?_,?_,rfl⟩
  ·have:=int_len h
   simp only [PyData.shown]
   show (Str.ofString (toString i)).length≤_
   omega
  ·simp only [PyData.showable,decide_eq_true_eq]
   by_cases z:i.natAbs=0
   ·rw [z];decide
   ·exact (Nat.log2_lt z).mpr (Nat.lt_of_lt_of_le h (by decide))
 | .str x,h=>by
  have hx:∀c∈x.cps.toList,c<128:=fun c hc=>by
   have h:Asz x=true:=by simpa only [Pz] using h
   unfold Asz at h
   rw [Array.all_eq_true_iff_forall_mem] at h
   have:=h c (by simpa using hc)
   simpa using this
  refine ⟨?_,rfl,?_⟩
  ·have:=StrLaws.reprText_len x fun c hc=>Nat.lt_of_lt_of_le (hx c hc) (by decide)
   simp only [PyData.shown,PyData.weight]
   have e:x.cps.size=x.length:=rfl
   omega
  ·exact (Sh.str (n:=0) (canLay_small fun ch hc=>by have:=hx ch hc;omega)).1
 | .list ds,h=>by
  obtain ⟨h1,h2,h3⟩:=pzs_shown ds (by simpa only [Pz] using h)
  refine ⟨?_,by simpa only [PyData.showable] using h2,by simpa only [PyData.canLay0] using h3⟩
  have:=lText_len (PyData.shownAll ds)
  simp only [PyData.shown,PyData.weight]
  omega
 | .tuple ds,h=>by
  obtain ⟨h1,h2,h3⟩:=pzs_shown ds (by simpa only [Pz] using h)
  refine ⟨?_,by simpa only [PyData.showable] using h2,by simpa only [PyData.canLay0] using h3⟩
  have:=tText_len (PyData.shownAll ds)
  simp only [PyData.shown,PyData.weight]
  omega
 | .dict _,h=>by simp [Pz] at h
theorem pzs_shown:∀(ds:List PyData),Pzs ds=true→piled (PyData.shownAll ds)≤44*PyData.weightAll ds∧PyData.showableAll ds=true∧PyData.canLayAll0 ds=true
 | [],_=>⟨Nat.le_refl _,rfl,rfl⟩
 | d :: ds,h=>by
  simp only [Pzs,Bool.and_eq_true] at h
  refine Elim.el (pz_shown d h.1) _ ?_
  rintro a1 a2 a3
  refine Elim.el (pzs_shown ds h.2) _ ?_
  rintro b1 b2 b3
  refine ⟨?_,by simp only [PyData.showableAll,a2,b2];rfl,by simp only [PyData.canLayAll0,a3,b3];rfl⟩
  simp only [PyData.shownAll,PyData.weightAll,piled_cons]
  omega
end
theorem pzs_iff {ds:List PyData} : Pzs ds=true ↔ ∀d∈ds,Pz d=true:=by
 induction ds with
 | nil=>simp [Pzs]
 | cons d ds ih=>simp [Pzs,ih]
theorem dAll_le {m:Nat} : ∀{ds:List PyData},(∀e∈ds,e.depth≤m)→PyData.depthAll ds≤m
 | [],_=>by simp [PyData.depthAll]
 | d :: ds,h=>by
  have:=dAll_le (m:=m) (ds:=ds) fun e he=>h e (List.mem_cons_of_mem _ he)
  have:=h d List.mem_cons_self
  simp only [PyData.depthAll]
  omega
structure Gd (w dp:Nat) (d:PyData):Prop where
 pz:Pz d=true
 wt:d.weight≤w
 dp:d.depth≤dp
theorem Gd.mono {w dp w' dp':Nat} {d:PyData} (h:Gd w dp d) (hw:w≤w') (hd:dp≤dp'):Gd w' dp' d:=⟨h.pz,Nat.le_trans h.wt hw,Nat.le_trans h.dp hd⟩
theorem Gd.shaped {w dp:Nat} {d:PyData} (h:Gd w dp d) (hd:dp≤64):SeqAt.shaped d=true:=by
 unfold SeqAt.shaped
 rw [(pz_shown d h.pz).2.2,decide_eq_true (Nat.le_trans h.dp hd)];rfl
theorem wAll_app (xs ys:List PyData):PyData.weightAll (xs++ys)=PyData.weightAll xs+PyData.weightAll ys:=by
 induction xs with
 | nil=>simp [PyData.weightAll]
 | cons x xs ih=>rw [List.cons_append];simp only [PyData.weightAll,ih];omega
structure Gs (w dp:Nat) (ds:List PyData):Prop where
 pz:∀d∈ds,Pz d=true
 wt:PyData.weightAll ds≤w
 dp:∀d∈ds,d.depth≤dp
theorem Gs.list {w dp:Nat} {ds:List PyData} (h:Gs w dp ds):Gd w (dp+1) (.list ds):=⟨by simp only [Pz];exact pzs_iff.mpr h.pz,by simp only [PyData.weight];exact h.wt,by simp only [PyData.depth];have:=dAll_le h.dp;omega⟩
theorem Gs.tuple {w dp:Nat} {ds:List PyData} (h:Gs w dp ds):Gd w (dp+1) (.tuple ds):=⟨by simp only [Pz];exact pzs_iff.mpr h.pz,by simp only [PyData.weight];exact h.wt,by simp only [PyData.depth];have:=dAll_le h.dp;omega⟩
theorem Gs.mono {w dp w' dp':Nat} {ds:List PyData} (h:Gs w dp ds) (hw:w≤w') (hd:dp≤dp'):Gs w' dp' ds:=⟨h.pz,Nat.le_trans h.wt hw,fun d m=>Nat.le_trans (h.dp d m) hd⟩
theorem Gs.app {w dp w':Nat} {xs ys:List PyData} (h:Gs w dp xs) (g:Gs w' dp ys):Gs (w+w') dp (xs++ys):=
 ⟨fun d m=>(List.mem_append.mp m).elim (h.pz d) (g.pz d),by rw [wAll_app];have:=h.wt;have:=g.wt;omega,fun d m=>(List.mem_append.mp m).elim (h.dp d) (g.dp d)⟩
theorem Gs.one {w dp:Nat} {d:PyData} (h:Gd w dp d):Gs (w+1) dp [d]:=
 ⟨fun e m=>by rw [List.mem_singleton.mp m];exact h.pz,by have:=h.wt;simp only [PyData.weightAll];omega,fun e m=>by rw [List.mem_singleton.mp m];exact h.dp⟩
theorem Gs.cons {w dp w':Nat} {d:PyData} {ds:List PyData} (h:Gd w dp d) (g:Gs w' dp ds):Gs (w+1+w') dp (d :: ds):=(Gs.one h).app g
theorem Gs.nil {dp:Nat} : Gs 0 dp []:=⟨(fun d m=>nomatch m),Nat.le_refl _,(fun d m=>nomatch m)⟩
theorem Gs.at {w dp:Nat} {ds:List PyData} {d:PyData} (h:Gs w dp ds) (m:d∈ds):Gd w dp d:=⟨h.pz d m,weight_at h.wt m,h.dp d m⟩
theorem Gd.int {w dp:Nat} {i:Int} (h:i.natAbs<10 ^ 40) (hw:201≤w):Gd w dp (.int i):=⟨by simpa [Pz] using h,Nat.le_trans (weight_int (Nat.lt_of_lt_of_le h (by decide))) hw,by simp [PyData.depth]⟩
theorem Gd.str {w dp:Nat} {x:Str} (h:Asz x=true) (hw:x.length≤w):Gd w dp (.str x):=⟨by simpa only [Pz] using h,by simp only [PyData.weight];exact hw,by simp [PyData.depth]⟩
end Z
namespace Z
open PySem L2
theorem dsnil {K:PySem.W.Frag} {H:Hp} : Dens K H [] []:=by unfold Dens;rfl
theorem dscons {K:PySem.W.Frag} {H:Hp} {d:PyData} {v:V} {ds:List PyData} {vs:List V} (h:Den K H d v) (g:Dens K H ds vs):Dens K H (d :: ds) (v :: vs):=by unfold Dens;exact ⟨_,_,rfl,h,g⟩
theorem dtupN {K:PySem.W.Frag} {G:Hp} {p:Addr} {ds:List PyData} {vs:List V} (h:G p=some (.tup vs)) (g:Dens K G ds vs):Den K G (.tuple ds) (.ref p):=by unfold Den;exact ⟨p,vs,rfl,SqT.of h,g⟩
theorem dlstN {K:PySem.W.Frag} {G:Hp} {p:Addr} {ds:List PyData} {vs:List V} (h:G p=some (.lst vs)) (g:Dens K G ds vs):Den K G (.list ds) (.ref p):=by unfold Den;exact ⟨p,vs,rfl,SqL.of h,g⟩
theorem at_mem {α:Type} {xs:List α} {r:Int} (h0:0≤r) (h1:r<xs.length):∃v,atI xs r=some v∧v∈xs:=by
 have hk:r.toNat<xs.length:=by omega
 exact ⟨xs[r.toNat],at_nat h0 (List.getElem?_eq_getElem hk),List.getElem_mem hk⟩
noncomputable def fV:PyData→V
 | .str x => .str x
 | .int i => .int i
 | .bool b => .bl b
 | _ => .non
noncomputable def flatD:PyData→Bool
 | .str _=>true
 | .int _=>true
 | .bool _=>true
 | .none=>true
 | _=>false
theorem den_flat {K:PySem.W.Frag} {H:Hp} {d:PyData} {v:V} (h:Den K H d v) (f:flatD d=true):v=fV d:=by
 cases d with
 | str x=>unfold Den at h;exact h
 | int x=>unfold Den at h;exact h
 | bool x=>unfold Den at h;exact h
 | none=>unfold Den at h;exact h
 | list x=>cases f
 | tuple x=>cases f
 | dict x=>cases f
theorem dens_flat {K:PySem.W.Frag} {H:Hp} : ∀{ds:List PyData} {vs:List V},Dens K H ds vs→ds.all flatD=true→vs=ds.map fV
 | [],_,h,_=>by unfold Dens at h;exact h
 | d :: ds,_,h,f=>by
  unfold Dens at h
  obtain ⟨v,r,rfl,h1,h2⟩:=h
  rw [List.all_cons,Bool.and_eq_true] at f
  rw [den_flat h1 f.1,dens_flat h2 f.2];rfl
end Z
namespace L2
open PySem
end L2
namespace Z
open PySem L2
inductive Rw
 | set (p:Nat) (n:Int)
 | add (p q:Nat)
 | take (p q:Nat)
 | tell (p:Nat)
 | ask (p:Nat)
 | jump (t:Nat)
 | zero (p t:Nat)
 | stop
noncomputable abbrev sp:Nat→Str
 | 0 => "a"
 | 1 => "b"
 | 2 => "c"
 | _ => "d"
noncomputable abbrev Rw.ds:Rw→List PyData
 | .set p n=>[.str "set", .str (sp p), .int n]
 | .add p q=>[.str "add", .str (sp p), .str (sp q)]
 | .take p q=>[.str "take", .str (sp p), .str (sp q)]
 | .tell p=>[.str "tell", .str (sp p)]
 | .ask p=>[.str "ask", .str (sp p)]
 | .jump t=>[.str "jump", .int t]
 | .zero p t=>[.str "zero", .str (sp p), .int t]
 | .stop=>[.str "stop"]
noncomputable abbrev Rw.d (r:Rw):PyData := .tuple r.ds
theorem Rw.flat (r:Rw):r.ds.all flatD=true:=by cases r <;> rfl
noncomputable def kindS:Rw→Str
 | .set _ _ => "set"
 | .add _ _ => "add"
 | .take _ _ => "take"
 | .tell _ => "tell"
 | .ask _ => "ask"
 | .jump _ => "jump"
 | .zero _ _ => "zero"
 | .stop => "stop"
theorem kind_at (r:Rw):atI (r.ds.map fV) 0=some (.str (kindS r)):=by cases r <;> exact at_nat (by decide) rfl
noncomputable def Rw.ok (len:Nat):Rw→Prop
 | .set p n=>p<4∧0≤n∧n<256
 | .add p q=>p<4∧q<4
 | .take p q=>p<4∧q<4
 | .tell p=>p<4
 | .ask p=>p<4
 | .jump t=>t≤len
 | .zero p t=>p<4∧t≤len
 | .stop=>True
end Z
namespace Z
open PySem L2 PyProof.Rows
noncomputable def joinL (c:Nat):List (List Nat)→List Nat
 | []=>[]
 | [x]=>x
 | x :: y :: r=>x++c :: joinL c (y :: r)
theorem str_eq' {x y:Str} (h:x.cps.toList=y.cps.toList):x=y:=by
 cases x;cases y;congr 1;exact Array.toList_inj.mp h
theorem sg_joinS (c:Nat):∀(xs:List Str),(Str.join ⟨#[c]⟩ xs).cps.toList=joinL c (xs.map fun x=>x.cps.toList)
 | []=>rfl
 | [x]=>rfl
 | x :: y :: r=>by
  rw [join_cons_cons,str_append_list,str_append_list,sg_joinS c (y :: r)]
  simp [joinL]
theorem flat_join (c:Nat) (x:List Nat):∀(r:List (List Nat)),x++r.flatMap (fun p=>[c]++p)=joinL c (x :: r)
 | []=>by simp [joinL]
 | y :: r=>by
  rw [List.flatMap_cons,joinL, ←flat_join c y r]
  simp
theorem sg_joinT (c:Nat) (xs:List Str):(Txt.join ⟨#[c]⟩ xs).cps.toList=joinL c (xs.map fun x=>x.cps.toList):=by
 cases xs with
 | nil=>rfl
 | cons x r=>
  show ((r.foldl (fun acc p=>acc++(⟨#[c]⟩:Str).cps++p.cps) x.cps)).toList=_
  rw [glued_list,List.map_cons, ←flat_join,List.flatMap_map]
theorem joinL_mem {c:Nat} {x y:List Nat} {r:List (List Nat)} : c∈joinL c (x :: y :: r):=by
 rw [joinL];exact List.mem_append_right _ List.mem_cons_self
theorem cut_one {c:Nat} : ∀{x x' y y':List Nat},c ∉ x→c ∉ x'→x++c :: y=x'++c :: y'→x=x'∧y=y'
 | [],[],y,y',_,_,e=>⟨rfl,(List.cons.inj e).2⟩
 | [],a :: x',y,y',_,h,e=>absurd (by rw [←(List.cons.inj e).1];exact List.mem_cons_self) h
 | a :: x,[],y,y',h,_,e=>absurd (by rw [(List.cons.inj e).1];exact List.mem_cons_self) h
 | a :: x,b :: x',y,y',h,h',e=>by
  obtain ⟨e1,e2⟩:=List.cons.inj e
  obtain ⟨k1,k2⟩:=cut_one (fun z=>h (List.mem_cons_of_mem _ z)) (fun z=>h' (List.mem_cons_of_mem _ z)) e2
  exact ⟨by rw [e1,k1],k2⟩
theorem joinL_one {c:Nat} : ∀{xs ys:List (List Nat)},xs≠[]→ys≠[]→(∀x∈xs,c ∉ x)→(∀y∈ys,c ∉ y)→joinL c xs=joinL c ys→xs=ys
 | [],_,h,_,_,_,_=>absurd rfl h
 | _,[],_,h,_,_,_=>absurd rfl h
 | [x],[y],_,_,_,_,e=>by rw [show x=y from e]
 | [x],y :: z :: r,_,_,hx,_,e=>by
  have:c∈x:=by
   have e:x=joinL c (y :: z :: r):=e
   rw [e];exact joinL_mem
  exact absurd this (hx x List.mem_cons_self)
 | x :: z :: r,[y],_,_,_,hy,e=>by
  have:c∈y:=by
   have e:joinL c (x :: z :: r)=y:=e
   rw [←e];exact joinL_mem
  exact absurd this (hy y List.mem_cons_self)
 | x :: x2 :: r,y :: y2 :: r',_,_,hx,hy,e=>by
  rw [joinL,joinL] at e
  obtain ⟨e1,e2⟩:=cut_one (hx x List.mem_cons_self) (hy y List.mem_cons_self) e
  rw [e1,joinL_one (by simp) (by simp) (fun z hz=>hx z (List.mem_cons_of_mem _ hz)) (fun z hz=>hy z (List.mem_cons_of_mem _ hz)) e2]
theorem map_inj {xs ys:List Str} (h:xs.map (fun x=>x.cps.toList)=ys.map fun x=>x.cps.toList):xs=ys:=by
 induction xs generalizing ys with
 | nil=>cases ys with|nil=>rfl|cons _ _=>cases h
 | cons x xs ih=>
  cases ys with
  | nil=>cases h
  | cons y ys=>
   rw [List.map_cons,List.map_cons] at h
   obtain ⟨h1,h2⟩:=List.cons.inj h
   rw [str_eq' h1,ih h2]
theorem split_join {c:Nat} {xs:List Str} (hx:xs≠[]) (hf:∀x∈xs,c ∉ x.cps.toList):Txt.split (Txt.join ⟨#[c]⟩ xs) ⟨#[c]⟩=xs:=by
 have h1:=StrLaws.join_split (Txt.join ⟨#[c]⟩ xs) ⟨#[c]⟩
 have h2:=StrLaws.split_free (Txt.join ⟨#[c]⟩ xs) c
 have h3:=congrArg (fun s:Str=>s.cps.toList) h1
 rw [sg_joinS,sg_joinT] at h3
 have hne:Txt.split (Txt.join ⟨#[c]⟩ xs) ⟨#[c]⟩≠[]:=by
  unfold Txt.split
  split
  ·exact fun z=>nomatch z
  ·split
   ·exact fun z=>nomatch z
   ·intro z
    have:=congrArg List.length z
    rw [len_partsBetween] at this
    cases this
 refine map_inj (joinL_one (by simpa using hne) (by simpa using hx) (fun x hx' => ?_) (fun x hx' => ?_) h3)
 ·obtain ⟨y,hy,rfl⟩:=List.mem_map.mp hx'
  exact h2 y hy
 ·obtain ⟨y,hy,rfl⟩:=List.mem_map.mp hx'
  exact hf y hy
end Z
namespace Z
open PySem L2 PyProof.Rows
noncomputable def TP (H H':Hp):Prop:=∀a us,H a=some (.tup us)→H' a=some (.tup us)
theorem TP.refl {H:Hp} : TP H H:=fun _ _ e=>e
theorem TP.trans {H H' H2:Hp} (h:TP H H') (g:TP H' H2):TP H H2:=fun a us e=>g a us (h a us e)
theorem TP.same {H H':Hp} (h:Same H H'):TP H H':=fun a us e=>h _ _ e
theorem TP.step {b c:Addr} {H H':Hp} {t t' N t0:Int} (bx:Bx H b c t0) (st:Step b c H H' t t' N):TP H H':=fun a us e=>by
 obtain ⟨ns,bx⟩:=bx
 exact st.old e (fun z=>by rw [z,bx.d] at e;cases e) (fun z=>by rw [z,bx.l] at e;cases e)
theorem TP.chg {H H':Hp} {p:Addr} {xs:List V} {o:HO} (h:H p=some (.lst xs)) (c:Chg H p o H'):TP H H':=fun a us e=>by
 rw [c.ne (fun z=>by rw [z,h] at e;cases e)];exact e
noncomputable def Tups (H:Hp) (rows:List Rw) (vs:List V):Prop:=vs.length=rows.length∧∀(i:Nat) (r:Rw),rows[i]? = some r→∃rp:Addr,vs[i]? = some (V.ref rp)∧H rp=some (.tup (r.ds.map fV))
theorem Tups.tp {H H':Hp} {rows:List Rw} {vs:List V} (h:Tups H rows vs) (g:TP H H'):Tups H' rows vs:=⟨h.1,fun i r e=>by
 obtain ⟨rp,h1,h2⟩:=h.2 i r e
 exact ⟨rp,h1,g _ _ h2⟩⟩
theorem Tups.snoc {H:Hp} {rows:List Rw} {vs:List V} {r:Rw} {rp:Addr} (h:Tups H rows vs) (g:H rp=some (.tup (r.ds.map fV))):Tups H (rows++[r]) (vs++[.ref rp]):=⟨by rw [List.length_append,List.length_append,h.1];rfl,fun i q e=>by
 by_cases hi:i<rows.length
 ·rw [List.getElem?_append_left hi] at e
  obtain ⟨p,h1,h2⟩:=h.2 i q e
  exact ⟨p,by rw [List.getElem?_append_left (by rw [h.1];exact hi)];exact h1,h2⟩
 ·rw [List.getElem?_append_right (by omega)] at e
  have:i-rows.length=0:=by have:=(List.getElem?_eq_some_iff.mp e).1;simp at this;omega
  rw [this] at e
  cases e
  exact ⟨rp,by rw [List.getElem?_append_right (by rw [h.1];omega),h.1,this];rfl,g⟩⟩
theorem fV_dens {K:PySem.W.Frag} {H:Hp} : ∀{ds:List PyData},ds.all flatD=true→Dens K H ds (ds.map fV)
 | [],_=>dsnil
 | d :: ds,h=>by
  rw [List.all_cons,Bool.and_eq_true] at h
  refine dscons ?_ (fV_dens h.2)
  cases d with
  | str x=>unfold Den;rfl
  | int x=>unfold Den;rfl
  | bool x=>unfold Den;rfl
  | none=>unfold Den;rfl
  | list x=>cases h.1
  | tuple x=>cases h.1
  | dict x=>cases h.1
theorem Tups.dens {K:PySem.W.Frag} {H:Hp} {rows:List Rw} {vs:List V} (h:Tups H rows vs):Dens K H (rows.map Rw.d) vs:=by
 refine Dens.of_get (by rw [List.length_map];exact h.1.symm) fun j d v h1 h2 => ?_
 rw [List.getElem?_map] at h1
 cases e:rows[j]? with
 | none=>rw [e] at h1;cases h1
 | some r=>
  rw [e] at h1
  cases h1
  obtain ⟨rp,g1,g2⟩:=h.2 j r e
  rw [h2] at g1
  cases g1
  exact dtupN g2 (fV_dens r.flat)
noncomputable def madeOf (x y:Str):Bool:=decide (V.str (Txt.stripChars x y)=V.str (Str.ofString ""))
theorem split_not {g:Nat→Bool} : ∀(l:List Nat),l.all g=false→∃p c r,l=p++c :: r∧(∀a∈p,g a=true)∧g c=false
 | [],h=>by cases h
 | a :: l,h=>by
  cases ha:g a with
  | false=>exact ⟨[],a,l,rfl,(fun _ z=>nomatch z),ha⟩
  | true=>
   rw [List.all_cons,ha,Bool.true_and] at h
   refine Elim.el (split_not l h) _ ?_
   rintro p c r rfl hp hc
   refine ⟨a :: p,c,r,rfl,fun x hx => ?_,hc⟩
   rcases List.mem_cons.mp hx with rfl|hx
   ·exact ha
   ·exact hp x hx
theorem madeOf_all (x y:Str):madeOf x y=x.cps.toList.all y.cps.contains:=by
 unfold madeOf Txt.stripChars
 rw [PyProof.Rows.stripBy_eq]
 generalize y.cps.contains=g
 unfold stripHi stripLo
 simp only [if_true]
 have sub:∀i j:Nat,decide (V.str (Builtin.Str.strSub x i j)=V.str (Str.ofString ""))=decide (min j x.length≤i):=fun i j=>by
  congr 1
  refine propext ⟨fun h => ?_,fun h => ?_⟩
  ·injection h with h
   have h:=congrArg (fun s:Str=>s.cps.size) h
   have e0:(Str.ofString "").cps.size=0:=rfl
   simp only [Builtin.Str.strSub,Array.size_extract,e0] at h
   have:x.cps.size=x.length:=rfl
   omega
  ·congr 1
   unfold Builtin.Str.strSub
   have e:x.cps.extract i j = #[]:=by
    apply Array.eq_empty_of_size_eq_zero
    rw [Array.size_extract]
    have:x.cps.size=x.length:=rfl
    omega
   rw [e]
   rfl
 rw [sub]
 have hlen:x.length=x.cps.toList.length:=by simp [Str.length]
 rw [hlen]
 generalize x.cps.toList=l
 by_cases h:l.all g=true
 ·rw [h]
  have e:l.takeWhile g=l:=by
   clear sub hlen
   induction l with
   | nil=>rfl
   | cons a l ih=>
    rw [List.all_cons,Bool.and_eq_true] at h
    rw [List.takeWhile_cons,if_pos h.1,ih h.2]
  rw [e]
  exact decide_eq_true (by omega)
 ·have hf:l.all g=false:=by simpa using h
  rw [hf]
  apply decide_eq_false
  intro z
  refine Elim.el (split_not l hf) _ ?_
  rintro p c r rfl hp hc
  have e:(p++c :: r).takeWhile g=p:=by
   clear z hlen sub h hf
   induction p with
   | nil=>rw [List.nil_append,List.takeWhile_cons,hc];rfl
   | cons a p ih=>
    rw [List.cons_append,List.takeWhile_cons,if_pos (hp a List.mem_cons_self),ih fun x hx=>hp x (List.mem_cons_of_mem _ hx)]
  have ed:(p++c :: r).drop p.length=c :: r:=List.drop_left
  rw [e,ed] at z
  have hl:(p++c :: r).length=p.length+(r.length+1):=by rw [List.length_append,List.length_cons]
  have tl:((c :: r).reverse.takeWhile g).length≤r.length:=by
   rw [List.reverse_cons]
   have:((r.reverse++[c]).takeWhile g).length≤r.reverse.length:=by
    rw [List.takeWhile_append]
    split
    ·rw [List.length_append]
     have e:[c].takeWhile g=[]:=by simp [List.takeWhile,hc]
     rw [e];simp
    ·exact (List.takeWhile_prefix g).length_le
   rw [List.length_reverse] at this
   exact this
  omega
noncomputable abbrev sSmall:Str := "abcdefghijklmnopqrstuvwxyz"
noncomputable abbrev sFig:Str := "0123456789"
structure Nam (x:Str):Prop where
 lo:1≤x.length
 hi:x.length≤8
 ch:∀c∈x.cps.toList,97≤c∧c≤122
noncomputable def numT (n:Nat):Str:=Str.ofString (toString (n:Int))
theorem num_small:∀n,n<256→(numT n).cps.toList.all (fun c=>decide (48≤c)&&decide (c≤57))=true∧1≤(numT n).length∧(numT n).length≤3:=by decide +kernel
noncomputable def plc:Rw→Option Nat
 | .jump t=>some t
 | .zero _ t=>some t
 | _=>none
noncomputable def wds (L:Nat→Str):Rw→List Str
 | .set p n=>["set",sp p,numT n.toNat]
 | .add p q=>["add",sp p,sp q]
 | .take p q=>["take",sp p,sp q]
 | .tell p=>["tell",sp p]
 | .ask p=>["ask",sp p]
 | .jump t=>["jump",L t]
 | .zero p t=>["zero",sp p,L t]
 | .stop=>["stop"]
noncomputable abbrev sBl:Str:=⟨#[32]⟩
noncomputable abbrev sNl:Str:=⟨#[10]⟩
noncomputable abbrev sCo:Str:=⟨#[58]⟩
noncomputable def rowT (L:Nat→Str) (r:Rw):Str:=Txt.join sBl (wds L r)
inductive Ln
 | lb (x:Str)
 | em
 | rw (r:Rw)
noncomputable def lnT (L:Nat→Str):Ln→Str
 | .lb x=>x++sCo
 | .em=>⟨#[]⟩
 | .rw r=>rowT L r
noncomputable def LnOk (L:Nat→Str) (n:Nat):Ln→Prop
 | .lb x=>Nam x
 | .em=>True
 | .rw r=>r.ok n∧∀t,plc r=some t→Nam (L t)
noncomputable def Wd (x:Str):Prop:=1≤x.length∧x.length≤8∧∀c∈x.cps.toList,(48≤c∧c≤57)∨(97≤c∧c≤122)
theorem Nam.wd {x:Str} (h:Nam x):Wd x:=⟨h.lo,h.hi,fun c hc => .inr (h.ch c hc)⟩
theorem wdB {x:Str} (h:(decide (1≤x.length)&&decide (x.length≤8)&&x.cps.toList.all fun c=>(decide (48≤c)&&decide (c≤57))||(decide (97≤c)&&decide (c≤122)))=true):Wd x:=by
 rw [Bool.and_eq_true,Bool.and_eq_true,decide_eq_true_iff,decide_eq_true_iff,List.all_eq_true] at h
 exact ⟨h.1.1,h.1.2,fun c hc=>by simpa using h.2 c hc⟩
theorem sp_wd (p:Nat):Wd (sp p):=by
 match p with
 | 0=>exact wdB (by decide +kernel)
 | 1=>exact wdB (by decide +kernel)
 | 2=>exact wdB (by decide +kernel)
 | n+3=>exact (wdB (by decide +kernel):Wd (Str.ofString "d"))
theorem num_wd {n:Nat} (h:n<256):Wd (numT n):=by
 obtain ⟨h1,h2,h3⟩:=num_small n h
 rw [List.all_eq_true] at h1
 exact ⟨h2,by omega,fun c hc => .inl (by simpa using h1 c hc)⟩
theorem wds_wd {L:Nat→Str} {n:Nat} {r:Rw} (h:r.ok n) (hL:∀t,plc r=some t→Nam (L t)):∀x∈wds L r,Wd x:=by
 have k:∀{s:Str},Wd s→∀{xs:List Str},(∀x∈xs,Wd x)→∀x∈s :: xs,Wd x:=fun {s} hs {xs} hx x hm=>by
  rcases List.mem_cons.mp hm with e|hm
  ·rw [e];exact hs
  ·exact hx x hm
 have nl:∀x∈([]:List Str),Wd x:=fun x hx=>nomatch hx
 cases r with
 | set p n=>exact k (wdB (by decide +kernel)) (k (sp_wd _) (k (num_wd (by have:=h.2;omega)) nl))
 | add p q=>exact k (wdB (by decide +kernel)) (k (sp_wd _) (k (sp_wd _) nl))
 | take p q=>exact k (wdB (by decide +kernel)) (k (sp_wd _) (k (sp_wd _) nl))
 | tell p=>exact k (wdB (by decide +kernel)) (k (sp_wd _) nl)
 | ask p=>exact k (wdB (by decide +kernel)) (k (sp_wd _) nl)
 | jump t=>exact k (wdB (by decide +kernel)) (k (hL t rfl).wd nl)
 | zero p t=>exact k (wdB (by decide +kernel)) (k (sp_wd _) (k (hL t rfl).wd nl))
 | stop=>exact k (wdB (by decide +kernel)) nl
theorem wds_ne (L:Nat→Str) (r:Rw):wds L r≠[]:=by cases r <;> exact fun z=>nomatch z
theorem wds_len (L:Nat→Str) (r:Rw):(wds L r).length≤3:=by cases r <;> exact Nat.le_of_ble_eq_true rfl
theorem split_row {L:Nat→Str} {n:Nat} {r:Rw} (h:r.ok n) (hL:∀t,plc r=some t→Nam (L t)):Txt.split (rowT L r) sBl=wds L r:=
 split_join (wds_ne L r) fun x hx hc=>by
  have:=(wds_wd h hL x hx).2.2 32 hc
  omega
theorem joinL_in {c:Nat} : ∀{xs:List (List Nat)} {a:Nat},a∈joinL c xs→a=c∨∃x∈xs,a∈x
 | [],a,h=>nomatch h
 | [x],a,h => .inr ⟨x,List.mem_cons_self,h⟩
 | x :: y :: r,a,h=>by
  rw [joinL] at h
  rcases List.mem_append.mp h with h|h
  ·exact .inr ⟨x,List.mem_cons_self,h⟩
  ·rcases List.mem_cons.mp h with h|h
   ·exact .inl h
   ·rcases joinL_in h with h|⟨z,hz,h⟩
    ·exact .inl h
    ·exact .inr ⟨z,List.mem_cons_of_mem _ hz,h⟩
theorem joinL_le {c m:Nat} : ∀{xs:List (List Nat)},(∀x∈xs,x.length≤m)→(joinL c xs).length≤(m+1)*xs.length
 | [],_=>Nat.zero_le _
 | [x],h=>by
  have:=h x List.mem_cons_self
  show x.length≤(m+1)*1
  omega
 | x :: y :: r,h=>by
  have h1:=joinL_le (c:=c) (m:=m) (xs:=y :: r) fun z hz=>h z (List.mem_cons_of_mem _ hz)
  have h2:=h x List.mem_cons_self
  rw [joinL,List.length_append,List.length_cons,List.length_cons (a:=x),Nat.mul_succ]
  omega
theorem row_chars {L:Nat→Str} {n:Nat} {r:Rw} (h:r.ok n) (hL:∀t,plc r=some t→Nam (L t)):∀c∈(rowT L r).cps.toList,c=32∨(48≤c∧c≤57)∨(97≤c∧c≤122):=fun c hc=>by
 unfold rowT at hc
 rw [sg_joinT] at hc
 rcases joinL_in hc with h'|⟨x,hx,hc⟩
 ·exact .inl h'
 ·obtain ⟨y,hy,rfl⟩:=List.mem_map.mp hx
  exact .inr ((wds_wd h hL y hy).2.2 c hc)
theorem row_len {L:Nat→Str} {n:Nat} {r:Rw} (h:r.ok n) (hL:∀t,plc r=some t→Nam (L t)):(rowT L r).length≤27∧rowT L r≠⟨#[]⟩:=by
 have e:(rowT L r).length=(joinL 32 ((wds L r).map fun x=>x.cps.toList)).length:=by rw [str_len];unfold rowT;rw [sg_joinT]
 refine ⟨?_,fun z => ?_⟩
 ·rw [e]
  have:=joinL_le (c:=32) (m:=8) (xs:=(wds L r).map fun x=>x.cps.toList) fun x hx=>by
   obtain ⟨y,hy,rfl⟩:=List.mem_map.mp hx
   have:=(wds_wd h hL y hy).2.1
   rw [str_len] at this
   exact this
  rw [List.length_map] at this
  have h3:=wds_len L r
  have:9*(wds L r).length≤27:=by omega
  omega
 ·rw [z] at e
  have e:0=(joinL 32 ((wds L r).map fun x=>x.cps.toList)).length:=e
  cases hw:wds L r with
  | nil=>exact wds_ne L r hw
  | cons x xs=>
   have h1:=(wds_wd h hL x (by rw [hw];exact List.mem_cons_self)).1
   rw [str_len] at h1
   rw [hw] at e
   cases xs with
   | nil=>
    have e:0=x.cps.toList.length:=e
    omega
   | cons y ys=>
    rw [List.map_cons,List.map_cons,joinL,List.length_append,List.length_cons] at e
    omega
end Z
namespace Z
open PySem L2
noncomputable abbrev sg (x:Str):List Nat:=x.cps.toList
end Z
namespace Z
open PySem L2
theorem str_eq {x y:Str} (h:sg x=sg y):x=y:=by
 cases x;cases y
 simp only [sg] at h
 rw [Array.toList_inj.mp h]
theorem sl_to {x:Str} {j:Int} (h0:0≤j) (h1:j≤x.length):sg (Txt.slice x none (some j))=(sg x).take j.toNat:=by
 have e:=PyProof.Rows.slice_closes_to (x:=x) (j:=j) ⟨h0,by rw [←str_len];exact h1⟩
 rw [eq_of_beq e]
 simp
end Z
namespace Z
open PySem L2
theorem take_next {α:Type} {l:List α} {i:Nat} (h:i<l.length):l.take (i+1)=l.take i++[l[i]]:=by
 rw [List.take_succ,List.getElem?_eq_getElem h];rfl
end Z
namespace Z
open PySem L2 PyProof.Rows
noncomputable def spMade:Sp:=fun vs H Q _=>∃x y:Str,vs=[.str x, .str y]∧x.length≤1000000∧Q (.bl (madeOf x y)) H
noncomputable def spNam (K:PySem.W.Frag):Sp:=fun vs H Q _=>∃x:Str,vs=[.str x]∧Nam x∧Q (.bl true) H
noncomputable def lnV:Ln→V
 | .lb x => .str x
 | _ => .non
noncomputable def spLin (K:PySem.W.Frag):Sp:=fun vs H Q _=>Ex3 fun (L:Nat→Str) (n:Nat) (ln:Ln)=>vs=[.str (lnT L ln)]∧LnOk L n ln∧Q (lnV ln) H
noncomputable def spNum (K:PySem.W.Frag):Sp:=fun vs H Q _=>∃n:Nat,vs=[.str (numT n)]∧n<256∧Q (.int (n:Nat)) H
theorem con_small:∀c,c<128→(decide (97≤c)&&decide (c≤122))=true→sSmall.cps.contains c=true:=by decide +kernel
theorem con_fig:∀c,c<128→(decide (48≤c)&&decide (c≤57))=true→sFig.cps.contains c=true:=by decide +kernel
theorem Nam.made {x:Str} (h:Nam x):madeOf x sSmall=true:=by
 rw [madeOf_all,List.all_eq_true]
 intro c hc
 have:=h.ch c hc
 exact con_small c (by omega) (by simp;omega)
theorem num_made {n:Nat} (h:n<256):madeOf (numT n) sFig=true:=by
 rw [madeOf_all,List.all_eq_true]
 intro c hc
 have h1:=(num_small n h).1
 rw [List.all_eq_true] at h1
 have h2:=h1 c hc
 have h3:48≤c∧c≤57:=by simpa using h2
 exact con_fig c (by omega) h2
theorem ends_iff (x:Str) (c:Nat):Txt.endswith x ⟨#[c]⟩=true ↔ ∃y,x.cps.toList=y++[c]:=by
 have e:Txt.endswith x ⟨#[c]⟩=(decide (0+1≤x.length)&&(x.cps.extract (x.length-1) (x.length-1+1) == #[c])):=rfl
 have hl:x.length=x.cps.toList.length:=str_len x
 rw [e,Bool.and_eq_true,decide_eq_true_iff,beq_iff_eq, ←Array.toList_inj,Array.toList_extract]
 rw [hl]
 generalize x.cps.toList=l
 constructor
 ·rintro ⟨h1,h2⟩
  rw [show l.length-1+1=l.length by omega,List.extract_eq_take_drop] at h2
  have h2:List.take (l.length-(l.length-1)) (List.drop (l.length-1) l)=[c]:=h2
  refine ⟨l.take (l.length-1),?_⟩
  have h3:l.drop (l.length-1)=[c]:=by
   rw [←h2,List.take_of_length_le (by rw [List.length_drop];omega)]
  rw [←h3,List.take_append_drop]
 ·rintro ⟨y,rfl⟩
  rw [List.length_append,List.extract_eq_take_drop]
  refine ⟨by show 0+1≤y.length+1;omega,?_⟩
  show List.take _ (List.drop (y.length+1-1) (y++[c]))=[c]
  rw [Nat.add_sub_cancel,List.drop_left,List.take_of_length_le (by show 1≤y.length+1-y.length;omega)]
theorem slice_last {x:Str} {c:Nat} (hx:x.length≤100):Txt.slice (x++⟨#[c]⟩) none (some (-1))=x:=by
 have hl:(x++(⟨#[c]⟩:Str)).length=x.length+1:=by rw [len_append];rfl
 have e:Txt.slice (x++⟨#[c]⟩) none (some (-1))=Txt.slice (x++⟨#[c]⟩) none (some (x.length:Nat)):=by
  unfold Txt.slice
  have:PySem.Builtin.Str.strSliceIndices none (some (-1)) 1 (x++(⟨#[c]⟩:Str)).length=PySem.Builtin.Str.strSliceIndices none (some ((x.length:Nat):Int)) 1 (x++(⟨#[c]⟩:Str)).length:=by
   unfold PySem.Builtin.Str.strSliceIndices
   rw [hl]
   dsimp only
   congr 1
   all_goals omega
  rw [this]
 rw [e]
 refine str_eq ?_
 rw [sl_to (by omega) (by rw [hl];omega),Int.toNat_natCast]
 show ((x++(⟨#[c]⟩:Str)).cps.toList).take x.length=_
 rw [str_append_list,str_len,List.take_left]
theorem int_shown (n:Int):strD (.int n)=Str.ofString (toString n):=by
 show (PyData.int n).shown=_
 simp only [PyData.shown]
theorem len255:(strD (.int 255)).length=3:=by rw [int_shown];decide +kernel
section
variable {P:Program} {w:World} {K:PySem.W.Frag} {mg:Str→Option Value} {base:Heap} {f:Addr} {fd:FuncData} {t1 t2 t3:Tok}
theorem sc_made_of:FnScope ["text", "signs"] ["text", "signs"] (defScope (top i_made_of)):=⟨rfl,rfl,rfl,by decide +kernel,rfl,by decide +kernel,by decide +kernel⟩
theorem ok_made (F:Fun K "made_of" "made_of" (top i_made_of) f fd) (T:Nm mg):FnOk P w K mg base CX0 1 f fd ["text", "signs"] spMade:=by
 refine F.ok sc_made_of (fun vs H Q E h => ?_) (fun cdv A outer s H vs Q E hr h => ?_)
 ·obtain ⟨x,y,rfl,_⟩:=h
  rfl
 obtain ⟨x,y,rfl,hx,q⟩:=h
 have hu6:=hr.units
 refine ⟨_,(pss_one (ps_ret (pe_cmpR (eqK K hu6) (bmK K PySem.F.plainAttrs_str PySem.F.slot_str_strip PySem.F.type_str_strip mt_strip1 (pv 0) (pa_cons (pv 1) pa_nil)) pe_str (nomark _)))),?_⟩
 exact ⟨_,rfl,rfl,_,rfl,x,y,rfl,rfl,sizeOk (by omega), .inl ⟨rfl,q⟩⟩
theorem sc_is_name:FnScope ["thing"] ["thing"] (defScope (top i_is_name)):=⟨rfl,rfl,rfl,by decide +kernel,rfl,by decide +kernel,by decide +kernel⟩
theorem ok_nam (F:Fun K "is_name" "is_name" (top i_is_name) f fd) (T:Nm mg) (v_LONGEST_NAME:mg "LONGEST_NAME" = some (.int 8 t1)) (v_SMALL_LETTERS:mg "SMALL_LETTERS" = some (.str sSmall t2)) (f_made_of:Fn P w K mg base 1 "made_of" ["text", "signs"] spMade):FnOk P w K mg base CX0 2 f fd ["thing"] (spNam K):=by
 refine F.ok sc_is_name (fun vs H Q E h => ?_) (fun cdv A outer s H vs Q E hr h => ?_)
 ·obtain ⟨x,rfl,_⟩:=h
  rfl
 obtain ⟨x,rfl,hx,q⟩:=h
 have h1:=hx.lo
 have h2:=hx.hi
 refine ⟨_,(pss_one (ps_ret (pe_and (pe_callB (isiK K) rfl T.n_isinstance (by rfl) (pa_cons (pv 0) (pa_cons (pe_bltn rfl T.n_str (by rfl) (v := .ty "str") rfl) pa_nil))) (pe_and (pe_chain op_le op_le pe_int (pe_callB (lenK K) rfl T.n_len (by rfl) (pa_cons (pv 0) pa_nil)) (pe_gint rfl v_LONGEST_NAME)) (pe_one (pe_fn (f_made_of.mono (by decide)) hr rfl (pa_cons (pv 0) (pa_cons (pe_gstr rfl v_SMALL_LETTERS) pa_nil)))))))),?_⟩
 refine ⟨_,rfl, .inl ⟨_, "str", .str x,_,rfl,(by unfold Den;rfl),(kitT K (.str x)).2.2.1,_,rfl,iteT ?_⟩⟩
 refine ⟨_,rfl,_,_,rfl,⟨sizeOk (by omega),rfl⟩,_,_,rfl,rfl,_,rfl,?_⟩
 rw [decide_eq_true (show (1:Int)≤(x.length:Nat) by omega)]
 refine iteT ⟨_,_,rfl,rfl,_,rfl,?_⟩
 rw [decide_eq_true (show ((x.length:Nat):Int)≤8 by omega)]
 refine iteT ⟨_,rfl,x,_,rfl,by omega,?_⟩
 rw [hx.made]
 exact q
theorem sc_label_in:FnScope ["row"] ["row"] (defScope (top i_label_in)):=⟨rfl,rfl,rfl,by decide +kernel,rfl,by decide +kernel,by decide +kernel⟩
theorem ok_lin (F:Fun K "label_in" "label_in" (top i_label_in) f fd) (T:Nm mg) (f_is_name:Fn P w K mg base 2 "is_name" ["thing"] (spNam K)):FnOk P w K mg base CX0 3 f fd ["row"] (spLin K):=by
 refine F.ok sc_label_in (fun vs H Q E h => ?_) (fun cdv A outer s H vs Q E hr h => ?_)
 ·obtain ⟨L,n,ln,rfl,_⟩:=h
  rfl
 obtain ⟨L,n,ln,rfl,ok,q⟩:=h
 have hu6:=hr.units
 refine ⟨_,(pss_one (ps_ret (pe_ifExp (PW.pt (pw_and (pt_val (bmK K PySem.F.plainAttrs_str PySem.F.slot_str_endswith PySem.F.type_str_endswith endsW (pv 0) (pa_cons pe_str pa_nil))) (pw_and1 (pt_val (pe_fn (f_is_name.mono (by decide)) hr rfl (pa_cons (pe_slice (slN K) (pv 0) po_none (po_some (pe_un un_neg pe_int))) pa_nil)))))) (pe_slice (slN K) (pv 0) po_none (po_some (pe_un un_neg pe_int))) pe_non))),?_⟩
 have co:(Str.ofString ":")=sCo:=by decide +kernel
 have no:∀{x:Str},(∀c∈x.cps.toList,c≠58)→Txt.endswith x (Str.ofString ":")=false:=fun {x} h=>by
  rw [co]
  refine Bool.eq_false_iff.mpr fun z => ?_
  obtain ⟨y,e⟩:=(ends_iff x 58).mp z
  exact h 58 (by rw [e];exact List.mem_append_right _ (List.mem_singleton.mpr rfl)) rfl
 cases ln with
 | lb x=>
  have hn:Nam x:=ok
  have hl:=hn.hi
  have e1:Txt.endswith (x++sCo) (Str.ofString ":")=true:=by
   rw [co]
   exact (ends_iff _ _).mpr ⟨x.cps.toList,str_append_list _ _⟩
  have es:Txt.slice (x++sCo) none (some (-1))=x:=slice_last (by omega)
  have sz:(x++sCo).length≤10:=by rw [len_append];show x.length+1≤10;omega
  refine ⟨_,rfl,rfl,_,_,rfl,rfl,_,rfl,?_⟩
  show (if Txt.endswith (x++sCo) (Str.ofString ":")=true then _ else _)
  rw [e1]
  refine iteT ⟨_,rfl,_,rfl,_,rfl, .inr ⟨_,rfl,sizeOk (by show (x++sCo).length≤_;omega),?_⟩⟩
  refine ⟨x,by rw [show Txt.slice (lnT L (.lb x)) none (some (-1))=x from es];rfl,hn,_,rfl,iteT ?_⟩
  refine ⟨_,rfl,_,rfl,_,rfl, .inr ⟨_,rfl,sizeOk (by show (x++sCo).length≤_;omega),?_⟩⟩
  rw [show Txt.slice (lnT L (.lb x)) none (some (-1))=x from es]
  exact q
 | em=>
  refine ⟨_,rfl,rfl,_,_,rfl,rfl,_,rfl,?_⟩
  show (if Txt.endswith ⟨#[]⟩ (Str.ofString ":")=true then _ else _)
  rw [no (fun c hc=>by simp at hc)]
  exact iteF (iteF q)
 | rw r=>
  have hr':r.ok n∧∀t,plc r=some t→Nam (L t):=ok
  refine ⟨_,rfl,rfl,_,_,rfl,rfl,_,rfl,?_⟩
  show (if Txt.endswith (rowT L r) (Str.ofString ":")=true then _ else _)
  rw [no (fun c hc=>by have:=row_chars hr'.1 hr'.2 c hc;omega)]
  exact iteF (iteF q)
theorem sc_number_in:FnScope ["word", "number"] ["word"] (defScope (top i_number_in)):=⟨rfl,rfl,rfl,by decide +kernel,rfl,by decide +kernel,by decide +kernel⟩
theorem ok_num (F:Fun K "number_in" "number_in" (top i_number_in) f fd) (T:Nm mg) (v_GREATEST_NUMBER:mg "GREATEST_NUMBER" = some (.int 255 t1)) (v_FIGURES:mg "FIGURES" = some (.str sFig t2)) (f_made_of:Fn P w K mg base 1 "made_of" ["text", "signs"] spMade):FnOk P w K mg base CX0 2 f fd ["word"] (spNum K):=by
 refine F.ok sc_number_in (fun vs H Q E h => ?_) (fun cdv A outer s H vs Q E hr h => ?_)
 ·obtain ⟨n,rfl,_⟩:=h
  rfl
 obtain ⟨n,rfl,hn,q⟩:=h
 have hu6:=hr.units
 obtain ⟨_,l1,l3⟩:=num_small n hn
 refine ⟨_,(pss_cons (ps_if (PW.pt (pw_or (pt_cmpR (eqK K hu6) (pv 0) pe_str (nomark _)) (pw_or (pt_cmpR op_gt (pe_callB (lenK K) rfl T.n_len (by rfl) (pa_cons (pv 0) pa_nil)) (pe_callB (lenK K) rfl T.n_len (by rfl) (pa_cons (pe_callTy (strK K hr.gd hu6) rfl T.n_str (by rfl) (pa_cons (pe_gint rfl v_GREATEST_NUMBER) pa_nil)) pa_nil)) (nomark _)) (pw_or1 (pt_not (pt_val (pe_fn (f_made_of.mono (by decide)) hr rfl (pa_cons (pv 0) (pa_cons (pe_gstr rfl v_FIGURES) pa_nil))))))))) (pss_one (ps_ret pe_non)) pss_nil)
  (pss_cons (ps_set (i:=1) sc_number_in.nd rfl (Or.inl rfl) (pe_callTy intS rfl T.n_int (by rfl) (pa_cons (pv 0) pa_nil)))
  (pss_one (ps_ret (pe_ifExp (PW.pt (pw_and (pt_cmpR op_le (pv 1) (pe_gint rfl v_GREATEST_NUMBER) (nomark _)) (pw_and1 (pt_cmpR (eqK K hu6) (pe_callTy (strK K hr.gd hu6) rfl T.n_str (by rfl) (pa_cons (pv 1) pa_nil)) (pv 0) (nomark _))))) (pv 1) pe_non))))),?_⟩
 have sh:∀m:Int,m.natAbs<1000→(PyData.int m).showable=true∧(PyData.int m).depth≤40∧(PyData.int m).shown.length≤sizeLine:=fun m hm=>by
  have g:Gd 300 1 (.int m):=Gd.int (Nat.lt_of_lt_of_le hm (by decide)) (by decide)
  obtain ⟨h1,h2,h3⟩:=pz_shown _ g.pz
  have:=g.wt
  exact ⟨h2,by simp [PyData.depth],sizeOk (by omega)⟩
 have di:∀{H:Hp} {m:Int},Den K H (.int m) (.int m):=by intro H m;unfold Den;rfl
 have s255:=sh 255 (by decide)
 have sn:=sh (n:Int) (by omega)
 refine ⟨_,rfl, .inl ⟨rfl,_,rfl,?_⟩⟩
 rw [decide_eq_false (fun z=>by injection z with z;rw [z] at l1;exact absurd l1 (by decide))]
 refine iteF ⟨_,rfl,_,_,rfl,⟨sizeOk (by omega),rfl⟩,_,_,rfl,di,s255.1,s255.2.1,s255.2.2,_,_,rfl,⟨by rw [len255];decide,rfl⟩,_,_,rfl,rfl,_,rfl,?_⟩
 rw [len255,decide_eq_false (by show ¬((3:Nat):Int)<((numT n).length:Nat);omega)]
 refine iteF ⟨_,rfl,_,_,rfl,by omega,_,rfl,?_⟩
 rw [num_made hn]
 refine iteF ?_
 refine ⟨_,rfl,numT n,(n:Int),rfl,PySem.W.KIN.num_reads (by omega) (by omega),by omega,gn ?_⟩
 refine ⟨_,rfl,_,_,rfl,rfl,_,rfl,?_⟩
 rw [decide_eq_true (show (n:Int)≤255 by omega)]
 refine iteT ⟨_,rfl,_,_,rfl,di,sn.1,sn.2.1,sn.2.2,_,rfl, .inl ⟨rfl,_,rfl,?_⟩⟩
 rw [int_shown,show decide (V.str (Str.ofString (toString (n:Int)))=V.str (numT n))=true from decide_eq_true rfl]
 exact iteT ⟨_,rfl,q⟩
end
end Z
namespace Z
open PySem L2 PyProof.Rows
noncomputable abbrev kinds8:List Str:=["set", "add", "take", "tell", "ask", "jump", "zero", "stop"]
noncomputable abbrev spots4:List Str:=["a", "b", "c", "d"]
noncomputable def prts:Rw→List Str
 | .set _ _=>["spot", "number"]
 | .add _ _=>["spot", "spot"]
 | .take _ _=>["spot", "spot"]
 | .tell _=>["spot"]
 | .ask _=>["spot"]
 | .jump _=>["near"]
 | .zero _ _=>["spot", "near"]
 | .stop=>[]
noncomputable def zs3 (L:Nat→Str):Rw→List (Str×Str×PyData)
 | .set p n=>[("spot",sp p, .str (sp p)),("number",numT n.toNat, .int n)]
 | .add p q=>[("spot",sp p, .str (sp p)),("spot",sp q, .str (sp q))]
 | .take p q=>[("spot",sp p, .str (sp p)),("spot",sp q, .str (sp q))]
 | .tell p=>[("spot",sp p, .str (sp p))]
 | .ask p=>[("spot",sp p, .str (sp p))]
 | .jump t=>[("near",L t, .int t)]
 | .zero p t=>[("spot",sp p, .str (sp p)),("near",L t, .int t)]
 | .stop=>[]
theorem zs_wds (L:Nat→Str) (r:Rw):wds L r=kindS r :: (zs3 L r).map (·.2.1):=by cases r <;> rfl
theorem zs_ds (L:Nat→Str) (r:Rw):r.ds = .str (kindS r) :: (zs3 L r).map (·.2.2):=by cases r <;> rfl
theorem zs_pr (L:Nat→Str) (r:Rw):(zs3 L r).map (·.1)=prts r:=by cases r <;> rfl
theorem zs_len (L:Nat→Str) (r:Rw):(zs3 L r).length≤2:=by cases r <;> exact Nat.le_of_ble_eq_true rfl
theorem kind_in (r:Rw):kindS r∈kinds8:=by
 have h:kinds8.contains (kindS r)=true:=by cases r <;> rfl
 simpa using h
inductive VI (kvs:List (Key×V)):Str→Str→V→Prop
 | spot (p:Nat):VI kvs "spot" (sp p) (.str (sp p))
 | num (n:Nat) (h:n<256):VI kvs "number" (numT n) (.int (n:Nat))
 | near (x:Str) (v:V) (h:valV kvs (.inr x)=some v):VI kvs "near" x v
theorem zs_vi {L:Nat→Str} {n:Nat} {r:Rw} {kvs:List (Key×V)} (h:r.ok n) (hL:∀t,plc r=some t→valV kvs (.inr (L t))=some (.int (t:Nat))):∀z∈zs3 L r,VI kvs z.1 z.2.1 (fV z.2.2)∧fV z.2.2 ≠ .non∧flatD z.2.2=true∧SeqAt.shaped z.2.2=true:=by
 have k:∀{s:Str×Str×PyData},(VI kvs s.1 s.2.1 (fV s.2.2)∧fV s.2.2 ≠ .non∧flatD s.2.2=true∧SeqAt.shaped s.2.2=true)→∀{xs:List (Str×Str×PyData)},(∀x∈xs,VI kvs x.1 x.2.1 (fV x.2.2)∧fV x.2.2 ≠ .non∧flatD x.2.2=true∧SeqAt.shaped x.2.2=true)→∀x∈s :: xs,VI kvs x.1 x.2.1 (fV x.2.2)∧fV x.2.2 ≠ .non∧flatD x.2.2=true∧SeqAt.shaped x.2.2=true:=fun {s} hs {xs} hx x hm=>by
  rcases List.mem_cons.mp hm with e|hm
  ·rw [e];exact hs
  ·exact hx x hm
 have nl:∀x∈([]:List (Str×Str×PyData)),VI kvs x.1 x.2.1 (fV x.2.2)∧fV x.2.2 ≠ .non∧flatD x.2.2=true∧SeqAt.shaped x.2.2=true:=fun x hx=>nomatch hx
 have s:∀p,VI kvs "spot" (sp p) (fV (.str (sp p)))∧fV (.str (sp p)) ≠ .non∧flatD (.str (sp p))=true∧SeqAt.shaped (.str (sp p))=true:=fun p=>⟨.spot p,(fun z=>by cases z),rfl,(Sh.str (n:=0) (canLay_small fun ch hc=>by have:=(sp_wd p).2.2 ch hc;omega)).shaped (by decide)⟩
 cases r with
 | set p m=>
  refine k (s p) (k ⟨?_,(fun z=>by cases z),rfl,rfl⟩ nl)
  have h2:0≤m∧m<256:=h.2
  have:=VI.num (kvs:=kvs) m.toNat (by omega)
  rw [show ((m.toNat:Nat):Int)=m by omega] at this
  exact this
 | add p q=>exact k (s p) (k (s q) nl)
 | take p q=>exact k (s p) (k (s q) nl)
 | tell p=>exact k (s p) nl
 | ask p=>exact k (s p) nl
 | jump t=>exact k ⟨.near _ _ (hL t rfl),(fun z=>by cases z),rfl,rfl⟩ nl
 | zero p t=>exact k (s p) (k ⟨.near _ _ (hL t rfl),(fun z=>by cases z),rfl,rfl⟩ nl)
 | stop=>exact nl
theorem sh_strs (ks:List Str) (h:ks.all (fun x=>x.cps.all (· < 128))=true):∀e∈ks.map PyData.str,SeqAt.shaped e=true:=fun e he=>by
 obtain ⟨x,hx,rfl⟩:=List.mem_map.mp he
 have hx:=List.all_eq_true.mp h x hx
 refine (Sh.str (n:=0) (canLay_small fun ch hc => ?_)).shaped (by decide)
 rw [Array.all_eq_true_iff_forall_mem] at hx
 have:=hx ch (by simpa using hc)
 simpa using this
theorem inD_strs (x:Str) (ks:List Str):inD (.str x) (ks.map PyData.str)=decide (x∈ks):=by
 unfold inD
 rw [List.any_map,Bool.eq_iff_iff,List.any_eq_true,decide_eq_true_iff]
 refine ⟨fun ⟨y,hy,e⟩ => ?_,fun h=>⟨x,h,?_⟩⟩
 ·have e:(y == x)=true:=by simpa [PyData.eqv] using e
  rw [←eq_of_beq e];exact hy
 ·show PyData.eqv (.str x) (.str x)=true
  simp [PyData.eqv]
theorem lay_wd {x:Str} (h:Wd x):(PyData.str x).canLay0=true:=(Sh.str (n:=0) (canLay_small fun ch hc=>by have:=h.2.2 ch hc;omega)).1
structure Cs83 (K:PySem.W.Frag) (w:World) (mg:Str→Option Value) (aS aR aP aJ:Addr):Prop where
 g_SPOT_NAMES:mg "SPOT_NAMES" = some (.ref aS)
 g_ROW_KINDS:mg "ROW_KINDS" = some (.ref aR)
 g_PARTS:mg "PARTS" = some (.ref aP)
 g_JUMPS:mg "JUMPS" = some (.ref aJ)
 sS:∀H,SqT K H aS (spots4.map V.str)
 sR:∀H,SqT K H aR (kinds8.map V.str)
 sJ:∀H,SqT K H aJ (([Str.ofString "jump",Str.ofString "zero"]:List Str).map V.str)
 cd:CDict K w aP
 pt:∀r:Rw,∃p,PySem.W.nsIn K aP (kindS r)=some (some (.ref p))∧∀H,SqT K H p ((prts r).map V.str)
noncomputable def spVal (K:PySem.W.Frag):Sp:=fun vs H Q _=>Ex4 fun (p x:Str) (d:Addr) (v:V)=>∃kvs:List (Key×V),vs=[.str p, .str x, .ref d]∧H d=some (.dK kvs)∧VI kvs p x v∧Q v H
noncomputable def spRin (K:PySem.W.Frag):Sp:=fun vs H Q _=>Ex5 fun (L:Nat→Str) (n:Nat) (r:Rw) (d:Addr) (kvs:List (Key×V))=>vs=[.str (rowT L r), .ref d]∧H d=some (.dK kvs)∧r.ok n∧(∀t,plc r=some t→Nam (L t)∧valV kvs (.inr (L t))=some (.int (t:Nat))) ∧
 ∀p H',Same H H'→H' p=some (.tup (r.ds.map fV))→Q (.ref p) H'
section
variable {P:Program} {w:World} {K:PySem.W.Frag} {mg:Str→Option Value} {base:Heap} {f:Addr} {fd:FuncData} {aS aR aP aJ:Addr}
theorem sc_value_in:FnScope ["part", "word", "places"] ["part", "word", "places"] (defScope (top i_value_in)):=⟨rfl,rfl,rfl,by decide +kernel,rfl,by decide +kernel,by decide +kernel⟩
theorem ok_val (F:Fun K "value_in" "value_in" (top i_value_in) f fd) (T:Nm mg) (C:Cs83 K w mg aS aR aP aJ) (f_number_in:Fn P w K mg base 2 "number_in" ["word"] (spNum K)):FnOk P w K mg base CX0 3 f fd ["part", "word", "places"] (spVal K):=by
 refine F.ok sc_value_in (fun vs H Q E h => ?_) (fun cdv A outer s H vs Q E hr h => ?_)
 ·obtain ⟨p,x,d,v,kvs,rfl,_⟩:=h
  rfl
 obtain ⟨p,x,d,v,kvs,rfl,hd,vi,q⟩:=h
 have hu6:=hr.units
 have hu1:=hu_of hr
 have hu66:=hu66_of hr
 have g_SPOT_NAMES:=C.g_SPOT_NAMES
 refine ⟨_,(pss_cons (ps_if (pt_cmpR (eqK K hu6) (pv 0) pe_str (nomark _)) (pss_one (ps_ret (pe_ifExp (pt_cmpR (inDK K hu66) (pv 1) (pe_gref rfl g_SPOT_NAMES) (by with_unfolding_all rfl)) (pv 1) pe_non))) pss_nil)
  (pss_cons (ps_if (pt_cmpR (eqK K hu6) (pv 0) pe_str (nomark _)) (pss_one (ps_ret (pe_fn (f_number_in.mono (by decide)) hr rfl (pa_cons (pv 1) pa_nil)))) pss_nil)
  (pss_one (ps_ret (pe_dget1 hu1 (pv 2) (pv 1) ⟨rfl,rfl,rfl,rfl⟩))))),?_⟩
 have ne:∀{a b:Str},a≠b→decide (V.str a=V.str b)=false:=fun h=>decide_eq_false fun z=>h (by injection z)
 cases vi with
 | spot p=>
  refine ⟨_,rfl, .inl ⟨rfl,_,rfl,iteT ?_⟩⟩
  refine ⟨_,rfl,aS,_, .str (sp p),spots4.map PyData.str,rfl, .inr (C.sS H),(by unfold Den;rfl),Den.strs _,lay_wd (sp_wd p),sh_strs _ (by decide +kernel),_,rfl,?_⟩
  have e:inD (.str (sp p)) (spots4.map PyData.str)=true:=by
   rw [inD_strs]
   match p with
   | 0=>decide
   | 1=>decide
   | 2=>decide
   | n+3=>exact decide_eq_true (show (Str.ofString "d")∈spots4 by decide)
  rw [if_neg (show ¬(false=true) from fun z=>nomatch z),e]
  exact iteT ⟨_,rfl,q⟩
 | num n h=>
  exact ⟨_,rfl, .inl ⟨rfl,_,rfl,iteF ⟨_,rfl, .inl ⟨rfl,_,rfl,iteT ⟨_,rfl,n,rfl,h,q⟩⟩⟩⟩⟩
 | near x v h=>
  refine ⟨_,rfl, .inl ⟨rfl,_,rfl,iteF ⟨_,rfl, .inl ⟨rfl,_,rfl,iteF ?_⟩⟩⟩⟩
  refine ⟨_,rfl,d,rfl, .inl ⟨kvs, .inl hd⟩,_,rfl,some v, .inl ⟨kvs, .inr x, .inl hd,rfl,h.symm⟩,q⟩
theorem sc_row_in:FnScope ["row", "places", "words", "kind", "values"] ["row", "places"] (defScope (top i_row_in)):=⟨rfl,rfl,rfl,by decide +kernel,rfl,by decide +kernel,by decide +kernel⟩
theorem ok_rin (F:Fun K "row_in" "row_in" (top i_row_in) f fd) (T:Nm mg) (C:Cs83 K w mg aS aR aP aJ) (f_value_in:Fn P w K mg base 3 "value_in" ["part", "word", "places"] (spVal K)):FnOk P w K mg base CX0 4 f fd ["row", "places"] (spRin K):=by
 refine F.ok sc_row_in (fun vs H Q E h => ?_) (fun cdv A outer s H vs Q E hr h => ?_)
 ·obtain ⟨L,n,r,d,kvs,rfl,_⟩:=h
  rfl
 obtain ⟨L,n,r,d,kvs,rfl,hd,ok,hL,q⟩:=h
 have hu6:=hr.units
 have hu66:=hu66_of hr
 have g_ROW_KINDS:=C.g_ROW_KINDS
 have g_PARTS:=C.g_PARTS
 have small:∀{n:Nat},n≤1000→n<sizeLine:=fun h=>Nat.lt_of_le_of_lt h (by decide)
 refine ⟨_,(pss_cons (ps_set (i:=2) sc_row_in.nd rfl (Or.inl rfl) (bmK K PySem.F.plainAttrs_str PySem.F.slot_str_split PySem.F.type_str_split splitN (pv 0) (pa_cons pe_str pa_nil)))
  (pss_cons (ps_set (i:=3) sc_row_in.nd rfl (Or.inl rfl) (pe_ix (ixK K) (pv 2) pe_int (fun _ _=>rfl)))
  (pss_cons (ps_if (PW.pt (pw_or (pt_cmpR (notInDK K hu66) (pv 3) (pe_gref rfl g_ROW_KINDS) (by with_unfolding_all rfl)) (pw_or1 (pt_cmpR (neK K hu6) (pe_callB (lenK K) rfl T.n_len (by rfl) (pa_cons (pv 2) pa_nil)) (pe_op addN pe_int (pe_callB (lenK K) rfl T.n_len (by rfl) (pa_cons (pe_cget K w (pe_gref rfl g_PARTS) (pv 3) (fun _ _=>rfl)) pa_nil))) (nomark _))))) (pss_one (ps_ret pe_non)) pss_nil)
  (pss_cons (ps_setcomp (i:=4) sc_row_in.nd rfl (Or.inl rfl) rfl (comp_ok (Nc:=["part", "word"]) (Fc:=["places"]) (js:=[1])) (pi_zipK K rfl T.n_zip (pa_cons (pe_cget K w (pe_gref rfl g_PARTS) (pv 3) (fun _ _=>rfl)) (pa_cons (pe_slice (slN K) (pv 2) (po_some pe_int) po_none) pa_nil))) (gk_tup (gks_cons (gk_name (i:=0) (n:=2) (by decide)) (gks_cons (gk_name (i:=1) (n:=2) (by decide)) gks_nil gm_name gms_nil) gm_name (gms_cons gm_name gms_nil))) (fun _ _ _ _ _=>(tupK K 2 rfl (pgs_cons (pg_name (i:=0) (ndS ["part", "word", "places"]) rfl (Or.inl rfl)) (pgs_cons (pg_name (i:=1) (ndS ["part", "word", "places"]) rfl (Or.inl rfl)) pgs_nil)))) (fun _ _ _ _ _=>pts_nil) (fun _ _ _ _ _=>(pe_fn (f_value_in.mono (by decide)) hr rfl (pa_cons (pv 0) (pa_cons (pv 1) (pa_cons (pv 2) pa_nil))))))
  (pss_one (ps_ret (pe_ifExp (pt_cmpR (inDK K hu66) pe_non (pv 4) (by with_unfolding_all rfl)) pe_non (pe_op (addT K) (tupN (pa_cons (pv 3) pa_nil)) (pe_callTy (tupleN K) rfl T.n_tuple (by rfl) (pa_cons (pv 4) pa_nil)))))))))),?_⟩
 have hN:∀t,plc r=some t→Nam (L t):=fun t h=>(hL t h).1
 have rl:=(row_len ok hN).1
 have es:Txt.split (rowT L r) (Str.ofString " ")=wds L r:=by
  rw [show (Str.ofString " ")=sBl by decide +kernel]
  exact split_row ok hN
 have zl:=zs_len L r
 refine ⟨_,rfl,rfl,_,_,rfl,rfl,by decide +kernel,by omega,by rw [es,zs_wds,List.length_cons,List.length_map];omega,fun p1 H1 n1=>gn ?_⟩
 rw [es,zs_wds] at n1
 have hp1:=n1.at
 refine ⟨_,rfl, .inl ⟨p1,_,0,_,rfl,rfl,SqL.of hp1,at_nat (by decide) rfl,gn ?_⟩⟩
 refine ⟨_,rfl,aR,_, .str (kindS r),kinds8.map PyData.str,rfl, .inr (C.sR H1),(by unfold Den;rfl),Den.strs _,?_,sh_strs _ (by decide +kernel),_,rfl,?_⟩
 ·exact lay_wd (wds_wd ok hN _ (by rw [zs_wds];exact List.mem_cons_self))
 have ek:inD (.str (kindS r)) (kinds8.map PyData.str)=true:=by rw [inD_strs];exact decide_eq_true (kind_in r)
 rw [if_pos rfl,ek]
 obtain ⟨qp,hq1,hq2⟩:=C.pt r
 have pl:(prts r).length=(zs3 L r).length:=by rw [←zs_pr L r,List.length_map]
 refine iteF ⟨_,rfl,_,_,rfl, .inl ⟨_,SqL.of hp1,rfl⟩,_,rfl,aP,_,_, .ref qp,rfl,rfl,C.cd,hq1,rfl,_,_,rfl, .inr ⟨_,hq2 _,rfl⟩, .inl ⟨_,_,rfl,rfl, .inl ⟨rfl,_,rfl,?_⟩⟩⟩
 simp only [List.length_map,List.length_cons,pl]
 rw [decide_eq_true (by congr 1;omega)]
 refine iteF ?_
 obtain ⟨W,hW⟩:∃W,W=zs3 L r:=⟨_,rfl⟩
 have vi:=zs_vi ok fun t h=>(hL t h).2
 have eD:r.ds = .str (kindS r) :: W.map (·.2.2):=by rw [hW];exact zs_ds L r
 have eP:prts r=W.map (·.1):=by rw [hW];exact (zs_pr L r).symm
 rw [←hW] at n1 hp1 vi zl
 rw [eP] at hq2
 have at1:∀{j:Nat} (hj:j<W.length),((W.map (·.1)).map V.str)[j]? = some (.str W[j].1):=fun hj=>by rw [List.getElem?_map,List.getElem?_map,List.getElem?_eq_getElem hj];rfl
 have at2:∀{j:Nat} (hj:j<W.length),((W.map (·.2.1)).map V.str)[j]? = some (.str W[j].2.1):=fun hj=>by rw [List.getElem?_map,List.getElem?_map,List.getElem?_eq_getElem hj];rfl
 dsimp only [tNext]
 refine asgCut (te:=tComp _ _ _ _ _ _) (fun v H'=>∃pv,v = .ref pv∧Same H1 H'∧H' pv=some (.lst ((W.map (·.2.2)).map fV))) (fun Qn qn => ?_) ?_
 ·refine ⟨_,rfl,aP,_,_, .ref qp,rfl,rfl,C.cd,hq1,rfl,_,rfl,1,rfl,?_⟩
  dsimp only [tNoPart]
  refine .inl ⟨p1,_,rfl,SqL.of hp1,fun p2 H2 n2 => ?_⟩
  have e2:cutV ((kindS r :: W.map (·.2.1)).map V.str) (some 1) none=(W.map (·.2.1)).map V.str:=cut_from ((kindS r :: W.map (·.2.1)).map V.str) 1
  rw [e2] at n2
  have hd2:=n2.same _ _ (n1.same _ _ hd)
  refine ⟨true,false,qp,p2,rfl,⟨_,hq2 _⟩,⟨_,SqL.of n2.at⟩,?_⟩
  refine comp_go (N:=W.length) (fun j ys H'=>Same H2 H'∧ys=((W.take j).map (·.2.2)).map fV) ⟨Same.refl _,rfl⟩ ?_ ?_
  ·rintro j ys H3 Ny hj ⟨s3,rfl⟩ ny
   have q1:SqK true K H3 qp ((W.map (·.1)).map V.str):=hq2 _
   have q2:SqK false K H3 p2 ((W.map (·.2.1)).map V.str):=SqL.of (s3 _ _ n2.at)
   refine ⟨⟨_,_,_,_,q1,q2,at1 hj,at2 hj⟩,small (by rw [List.length_map,List.length_map,List.length_take];omega),?_⟩
   rintro x' H4 ⟨T',rfl,hN'⟩
   have n4:=hN' _ _ _ _ q1 q2 (at1 hj) (at2 hj)
   refine ⟨T',_,rfl,SqT.of n4.at,rfl,_,_,rfl,_,_,rfl,rfl,?_⟩
   dsimp only [tYes]
   rw [if_pos rfl]
   have hv:=(vi _ (List.getElem_mem hj)).1
   refine ⟨_,rfl,_,rfl,_,rfl,W[j].1,W[j].2.1,d,_,kvs,rfl,n4.same _ _ (s3 _ _ hd2),hv,ny _ _ ⟨s3.trans n4.same,?_⟩⟩
   rw [take_next hj,List.map_append,List.map_append];rfl
  ·rintro ys H3 ⟨s3,rfl⟩
   rw [List.take_length]
   have q1:SqK true K H3 qp ((W.map (·.1)).map V.str):=hq2 _
   have q2:SqK false K H3 p2 ((W.map (·.2.1)).map V.str):=SqL.of (s3 _ _ n2.at)
   refine ⟨?_,fun pv hp=>qn _ _ ⟨pv,rfl,n2.same.trans (s3.trans (same_new hp _)),upd_same⟩⟩
   exact ⟨_,_,q1,q2, .inl (by rw [List.length_map,List.length_map];exact Nat.le_refl _)⟩
 rintro v H2 ⟨pv,rfl,s2,hpv⟩
 refine gn ?_
 have fl:(W.map (·.2.2)).all flatD=true:=by
  rw [List.all_map,List.all_eq_true]
  exact fun z hz=>(vi z hz).2.2.1
 have shp:∀e∈W.map (·.2.2),SeqAt.shaped e=true∧e ≠ .none:=fun e he=>by
  obtain ⟨z,hz,rfl⟩:=List.mem_map.mp he
  obtain ⟨h1,h2,h3,h4⟩:=vi z hz
  exact ⟨h4,fun ez=>h2 (by rw [ez];rfl)⟩
 refine ⟨_,rfl,pv,_, .none,_,rfl, .inl (SqL.of hpv),(by unfold Den;rfl),fV_dens fl,rfl,fun e he=>(shp e he).1,_,rfl,?_⟩
 have en:inD .none (W.map (·.2.2))=false:=by
  unfold inD
  refine Bool.eq_false_iff.mpr fun z => ?_
  obtain ⟨e,he,z⟩:=List.any_eq_true.mp z
  have:=(shp e he).2
  cases e <;> first|exact this rfl|(simp [PyData.eqv] at z)
 rw [if_neg (show ¬(false=true) from fun z=>nomatch z),en]
 refine iteF ⟨_,rfl,by show 1≤sizeLine;decide,fun tp H3 n3=>⟨_,rfl,pv,_,rfl, .inl ⟨SqL.of (n3.same _ _ hpv),fun tq H4 n4 => ?_⟩⟩⟩
 have s4:=n1.same.trans (s2.trans (n3.same.trans n4.same))
 refine ⟨tp,tq,_,_,rfl,rfl,SqT.of (n4.same _ _ n3.at),SqT.of n4.at,?_,(fun z=>nomatch z),fun ey => ?_,fun _ p5 H5 n5 => ?_⟩
 ·rw [List.length_map,List.length_map];show 1+W.length≤100000;omega
 ·refine q tp H4 s4 ?_
  rw [eD,List.map_cons,ey]
  exact n4.same _ _ n3.at
 ·refine q p5 H5 (s4.trans n5.same) ?_
  rw [eD,List.map_cons]
  exact n5.at
end
end Z
namespace Z
open PySem L2 PyProof.Rows
noncomputable def rowsOf (ls:List Ln):List Rw:=ls.filterMap fun l=>match l with
 | .rw r=>some r
 | _=>none
noncomputable def lbsOf (ls:List Ln):List Str:=ls.filterMap fun l=>match l with
 | .lb x=>some x
 | _=>none
noncomputable def lpS (s:List (Key×V)×Nat):Ln→List (Key×V)×Nat
 | .lb x=>(putK s.1 (.inr x) (.int (s.2:Nat)),s.2)
 | .em=>s
 | .rw _=>(s.1,s.2+1)
noncomputable def lpF (ls:List Ln):List (Key×V)×Nat:=ls.foldl lpS ([],0)
theorem lpF_snoc (ls:List Ln) (l:Ln):lpF (ls++[l])=lpS (lpF ls) l:=by unfold lpF;rw [List.foldl_append];rfl
theorem lpF_rows:∀(ls:List Ln) (s:List (Key×V)×Nat),(ls.foldl lpS s).2=s.2+(rowsOf ls).length
 | [],s=>rfl
 | l :: ls,s=>by
  rw [List.foldl_cons,lpF_rows ls]
  cases l with
  | lb x=>rfl
  | em=>rfl
  | rw r=>show s.2+1+(rowsOf ls).length=s.2+((rowsOf ls).length+1);omega
theorem lpF_len:∀(ls:List Ln) (s:List (Key×V)×Nat),(ls.foldl lpS s).1.length≤s.1.length+ls.length
 | [],s=>Nat.le_refl _
 | l :: ls,s=>by
  rw [List.foldl_cons]
  have h:=lpF_len ls (lpS s l)
  have h2:(lpS s l).1.length≤s.1.length+1:=by
   cases l with
   | lb x=>exact length_putK _ _ _
   | em=>exact Nat.le_succ _
   | rw r=>exact Nat.le_succ _
  rw [List.length_cons]
  omega
theorem lp_keep {x:Str} : ∀(ls:List Ln) (s:List (Key×V)×Nat),x ∉ lbsOf ls→valV (ls.foldl lpS s).1 (.inr x)=valV s.1 (.inr x)
 | [],s,_=>rfl
 | l :: ls,s,h=>by
  rw [List.foldl_cons]
  cases l with
  | lb y=>
   have h':x ∉ y :: lbsOf ls:=h
   rw [lp_keep ls _ (fun z=>h' (List.mem_cons_of_mem _ z))]
   show valV (putK s.1 (.inr y) (.int (s.2:Nat))) (.inr x)=_
   rw [valV_put,if_neg (fun z=>h' (by injection z with z;rw [z];exact List.mem_cons_self))]
  | em=>exact lp_keep ls _ h
  | rw r=>exact lp_keep ls _ h
theorem lp_val {x:Str} {A C:List Ln} (h:x ∉ lbsOf C):valV (lpF (A ++ .lb x :: C)).1 (.inr x)=some (.int ((rowsOf A).length:Nat)):=by
 unfold lpF
 rw [List.foldl_append,List.foldl_cons,lp_keep C _ h]
 show valV (putK _ (Sum.inr x) (.int _)) (Sum.inr x)=_
 rw [valV_put,if_pos rfl,lpF_rows]
 show some (V.int ((0+(rowsOf A).length:Nat):Int))=_
 rw [Nat.zero_add]
theorem rowsOf_app (A C:List Ln):rowsOf (A++C)=rowsOf A++rowsOf C:=List.filterMap_append
theorem lbsOf_app (A C:List Ln):lbsOf (A++C)=lbsOf A++lbsOf C:=List.filterMap_append
structure Sheet (L:Nat→Str) (ls:List Ln):Prop where
 ne:ls≠[]
 ok:∀l∈ls,LnOk L 200 l
 nd:(lbsOf ls).Nodup
 le:(rowsOf ls).length≤200
 few:ls.length≤1000
 lb:∀r∈rowsOf ls,∀t,plc r=some t→∃A C,ls=A ++ .lb (L t) :: C∧(rowsOf A).length=t
theorem Sheet.at {L:Nat→Str} {ls:List Ln} (h:Sheet L ls) {r:Rw} (hr:r∈rowsOf ls) {t:Nat} (ht:plc r=some t):valV (lpF ls).1 (.inr (L t))=some (.int (t:Nat)):=by
 obtain ⟨A,C,e,ek⟩:=h.lb r hr t ht
 have nd:=h.nd
 rw [e,lbsOf_app] at nd
 have:L t ∉ lbsOf C:=fun z=>by
  have h2:(L t :: lbsOf C).Nodup:=(List.nodup_append.mp nd).2.1
  exact (List.nodup_cons.mp h2).1 z
 rw [e,lp_val this,ek]
noncomputable def shT (L:Nat→Str) (ls:List Ln):Str:=Txt.join sNl (ls.map (lnT L))
theorem ln_chars {L:Nat→Str} {n:Nat} {l:Ln} (h:LnOk L n l):∀c∈(lnT L l).cps.toList,c≠10∧c<128:=fun c hc=>by
 cases l with
 | lb x=>
  have h:Nam x:=h
  have hc:c∈(x++sCo).cps.toList:=hc
  rw [str_append_list] at hc
  rcases List.mem_append.mp hc with hc|hc
  ·have:=h.ch c hc;omega
  ·have:c=58:=by simpa using hc
   omega
 | em=>simp [lnT] at hc
 | rw r=>have:=row_chars h.1 h.2 c hc;omega
theorem ln_len {L:Nat→Str} {n:Nat} {l:Ln} (h:LnOk L n l):(lnT L l).length≤27:=by
 cases l with
 | lb x=>
  have h:Nam x:=h
  show (x++sCo).length≤27
  rw [len_append]
  have:=h.hi
  show x.length+1≤27
  omega
 | em=>exact Nat.zero_le _
 | rw r=>exact (row_len h.1 h.2).1
theorem Sheet.split {L:Nat→Str} {ls:List Ln} (h:Sheet L ls):Txt.split (shT L ls) sNl=ls.map (lnT L):=
 split_join (by simpa using h.ne) fun x hx hc=>by
  obtain ⟨l,hl,rfl⟩:=List.mem_map.mp hx
  exact (ln_chars (h.ok l hl) 10 hc).1 rfl
theorem Sheet.len {L:Nat→Str} {ls:List Ln} (h:Sheet L ls):(shT L ls).length≤28000:=by
 rw [str_len]
 unfold shT
 rw [sg_joinT]
 have:=joinL_le (c:=10) (m:=27) (xs:=(ls.map (lnT L)).map fun x=>x.cps.toList) fun x hx=>by
  obtain ⟨y,hy,rfl⟩:=List.mem_map.mp hx
  obtain ⟨l,hl,rfl⟩:=List.mem_map.mp hy
  have:=ln_len (h.ok l hl)
  rw [str_len] at this
  exact this
 rw [List.length_map,List.length_map] at this
 have:=h.few
 omega
noncomputable def lbD (xs:List Str):List (Key×V):=xs.foldl (fun kv x=>putK kv (.inr x) (.bl true)) []
theorem lbD_snoc (xs:List Str) (x:Str):lbD (xs++[x])=putK (lbD xs) (.inr x) (.bl true):=by unfold lbD;rw [List.foldl_append];rfl
theorem lbD_none {x:Str} : ∀(xs:List Str) (s:List (Key×V)),x ∉ xs→valV s (.inr x)=none→valV (xs.foldl (fun kv x=>putK kv (.inr x) (.bl true)) s) (.inr x)=none
 | [],s,_,h=>h
 | y :: xs,s,hx,h=>by
  rw [List.foldl_cons]
  refine lbD_none xs _ (fun z=>hx (List.mem_cons_of_mem _ z)) ?_
  rw [valV_put,if_neg (fun z=>hx (by injection z with z;rw [z];exact List.mem_cons_self))]
  exact h
theorem lbD_len:∀(xs:List Str) (s:List (Key×V)),(xs.foldl (fun kv x=>putK kv (.inr x) (.bl true)) s).length≤s.length+xs.length
 | [],s=>Nat.le_refl _
 | y :: xs,s=>by
  rw [List.foldl_cons,List.length_cons]
  have h1:=lbD_len xs (putK s (.inr y) (.bl true))
  have h2:=length_putK s (.inr y) (V.bl true)
  omega
theorem none_back {H H':Hp} {a:Addr} (s:Same H H') (h:H' a=none):H a=none:=by
 cases e:H a with
 | none=>rfl
 | some o=>rw [s _ _ e] at h;cases h
noncomputable def LnsAt (K:PySem.W.Frag) (H:Hp) (p:Addr) (L:Nat→Str) (ls:List Ln):Prop:=H p=some (.lst ((ls.map (lnT L)).map V.str))
noncomputable def spLpl (K:PySem.W.Frag):Sp:=fun vs H Q _=>Ex3 fun (L:Nat→Str) (ls:List Ln) (p:Addr)=>vs=[.ref p]∧LnsAt K H p L ls∧(∀l∈ls,LnOk L 200 l)∧ls.length≤1000∧∀d H',Same H H'→H d=none→H' d=some (.dK (lpF ls).1)→Q (.ref d) H'
noncomputable def spRdp (K:PySem.W.Frag):Sp:=fun vs H Q _=>Ex2 fun (L:Nat→Str) (ls:List Ln)=>vs=[.str (shT L ls)]∧Sheet L ls∧∀p us H',Same H H'→H p=none→H' p=some (.lst us)→Tups H' (rowsOf ls) us→Q (.ref p) H'
theorem em_iff {L:Nat→Str} {n:Nat} {l:Ln} (h:LnOk L n l) (e:∀x,l ≠ .lb x):(lnT L l=Str.ofString "") ↔ l = .em:=by
 have z0:(Str.ofString "")=(⟨#[]⟩:Str):=by decide +kernel
 rw [z0]
 cases l with
 | lb x=>exact absurd rfl (e x)
 | em=>exact ⟨fun _=>rfl,fun _=>rfl⟩
 | rw r=>exact ⟨fun z=>absurd z (row_len h.1 h.2).2,fun z=>nomatch z⟩
section
variable {P:Program} {w:World} {K:PySem.W.Frag} {mg:Str→Option Value} {base:Heap} {f:Addr} {fd:FuncData} {aS aR aP aJ:Addr} {t1:Tok}
theorem sc_label_places:FnScope ["rows", "places", "many", "row", "name"] ["rows"] (defScope (top i_label_places)):=⟨rfl,rfl,rfl,by decide +kernel,rfl,by decide +kernel,by decide +kernel⟩
theorem ok_lpl (F:Fun K "label_places" "label_places" (top i_label_places) f fd) (T:Nm mg) (f_label_in:Fn P w K mg base 3 "label_in" ["row"] (spLin K)):FnOk P w K mg base CX0 4 f fd ["rows"] (spLpl K):=by
 refine F.ok sc_label_places (fun vs H Q E h => ?_) (fun cdv A outer s H vs Q E hr h => ?_)
 ·obtain ⟨L,ls,p,rfl,_⟩:=h
  rfl
 obtain ⟨L,ls,p,rfl,hp,ok,few,q⟩:=h
 have hu:=hu_of hr
 have hu6:=hr.units
 have small:∀{n:Nat},n≤10000→n<sizeLine:=fun h=>Nat.lt_of_le_of_lt h (by decide)
 refine ⟨_,(pss_cons (ps_set (i:=1) sc_label_places.nd rfl (Or.inl rfl) dnewN)
  (pss_cons (ps_set (i:=2) sc_label_places.nd rfl (Or.inl rfl) pe_int)
  (pss_cons (ps_for PassesOwn.never rfl (piK K (pv 0)) (pg_name (i:=3) sc_label_places.nd rfl (Or.inl rfl)) (pss_cons (ps_set (i:=4) sc_label_places.nd rfl (Or.inl rfl) (pe_fn (f_label_in.mono (by decide)) hr rfl (pa_cons (pv 3) pa_nil)))
  (pss_one (ps_if (pt_cmpR g_isnot (pv 4) pe_non (nomark _)) (pss_one (ps_dput hu (pv 1) (pv 4) (pv 2) rfl)) (pss_one (ps_if (pt_cmpR (neK K hu6) (pv 3) pe_str (nomark _)) (pss_one (ps_aug (i:=2) sc_label_places.nd rfl (Or.inl rfl) pe_int ip_add)) pss_nil))))))
  (pss_one (ps_ret (pv 1)))))),?_⟩
 refine fun d H1 n1=>gn ?_
 dsimp only
 refine asgCut (te:=tC _) (fun v H'=>v = .int 0∧H1=H') (fun Qn qn=>qn _ _ ⟨rfl,rfl⟩) ?_
 rintro _ _ ⟨rfl,rfl⟩
 refine gn ?_
 have at1:∀{i:Nat} (hi:i<ls.length),((ls.map (lnT L)).map V.str)[i]? = some (.str (lnT L ls[i])):=fun hi=>by rw [List.getElem?_map,List.getElem?_map,List.getElem?_eq_getElem hi];rfl
 refine seqCut (t:=tFor _ _ _) (fun σ H'=>Ex2 fun (x3 x4:Option V) => σ=[some (.ref p),some (.ref d),some (.int ((lpF ls).2:Nat)),x3,x4]∧Same H H'∧H' d=some (.dK (lpF ls).1)) (fun Nx nx => ?_) ?_
 ·refine ⟨_,rfl,p,rfl,⟨_,SqL.of (n1.same _ _ hp)⟩,?_⟩
  refine for_go (N:=ls.length) (fun i σ H'=>Ex2 fun (x3 x4:Option V) => σ=[some (.ref p),some (.ref d),some (.int ((lpF (ls.take i)).2:Nat)),x3,x4]∧Same H H'∧H' d=some (.dK (lpF (ls.take i)).1)) ⟨_,_,rfl,n1.same,n1.at⟩ ?_ ?_
  ·intro i σ H2 hi
   refine Elim.go ?_
   rintro x3 x4 rfl s2 hd2
   refine ⟨⟨_,_,SqL.of (s2 _ _ hp),at1 hi⟩,?_⟩
   rintro y H3 ⟨rfl,hy⟩
   have e:=hy _ (SqL.of (s2 _ _ hp))
   rw [at1 hi] at e;cases e
   have hok:=ok _ (List.getElem_mem hi)
   have htk:=lpF_snoc (ls.take i) ls[i]
   rw [←take_next hi] at htk
   have hl:=lpF_len (ls.take i) ([],0)
   have hl:(lpF (ls.take i)).1.length≤1000:=Nat.le_trans hl (by rw [List.length_take];show 0+min i ls.length≤1000;omega)
   rw [htk]
   generalize lpF (ls.take i)=st at hd2 hl
   generalize ls[i]=ln at hok
   refine gn ⟨_,rfl,L,200,ln,rfl,hok,gn ?_⟩
   cases ln with
   | lb x=>
    refine ⟨_,rfl, .inl ⟨rfl,_,rfl,iteT ?_⟩⟩
    refine ⟨_,rfl,_,rfl,_,rfl,d,_,rfl,DPut.k (k:=Sum.inr x) hd2 (small (by omega)),_,_,rfl,fun b o e => ?_,upd_same⟩
    rw [upd_ne (ne_of_none e n1.nn)];exact s2 b o e
   | em=>
    refine ⟨_,rfl, .inl ⟨rfl,_,rfl,iteF ⟨_,rfl, .inl ⟨rfl,_,rfl,?_⟩⟩⟩⟩
    rw [show decide (V.str (lnT L .em)=V.str (Str.ofString ""))=true from decide_eq_true (by rw [(em_iff hok (fun x z=>nomatch z)).mpr rfl])]
    exact iteF ⟨_,_,rfl,s2,hd2⟩
   | rw r=>
    refine ⟨_,rfl, .inl ⟨rfl,_,rfl,iteF ⟨_,rfl, .inl ⟨rfl,_,rfl,?_⟩⟩⟩⟩
    rw [show decide (V.str (lnT L (.rw r))=V.str (Str.ofString ""))=false from decide_eq_false fun z=>by
     injection z with z
     exact nomatch (em_iff hok (fun x z=>nomatch z)).mp z]
    exact iteT ⟨_,rfl,_,_,rfl,rfl,gn ⟨_,_,rfl,s2,hd2⟩⟩
  ·intro σ H2
   refine Elim.go ?_
   rintro x3 x4 rfl s2 hd2
   rw [List.take_length] at hd2
   exact ⟨⟨_,SqL.of (s2 _ _ hp),by rw [List.length_map,List.length_map];exact Nat.le_refl _⟩,nx _ _ ⟨x3,x4,by rw [List.take_length],s2,hd2⟩⟩
 intro σ H2
 refine Elim.go ?_
 rintro x3 x4 rfl s2 hd2
 exact ⟨_,rfl,q d H2 s2 n1.nn hd2⟩
theorem sc_read_program:FnScope ["text", "rows", "places", "labels", "program", "at", "row", "name", "read"] ["text"] (defScope (top i_read_program)):=⟨rfl,rfl,rfl,by decide +kernel,rfl,by decide +kernel,by decide +kernel⟩
theorem ok_rdp (F:Fun K "read_program" "read_program" (top i_read_program) f fd) (T:Nm mg) (v_MOST_ROWS:mg "MOST_ROWS" = some (.int 200 t1)) (f_label_places:Fn P w K mg base 4 "label_places" ["rows"] (spLpl K)) (f_label_in:Fn P w K mg base 3 "label_in" ["row"] (spLin K)) (f_row_in:Fn P w K mg base 4 "row_in" ["row", "places"] (spRin K)):FnOk P w K mg base CX0 5 f fd ["text"] (spRdp K):=by
 refine F.ok sc_read_program (fun vs H Q E h => ?_) (fun cdv A outer s H vs Q E hr h => ?_)
 ·obtain ⟨L,ls,rfl,_⟩:=h
  rfl
 obtain ⟨L,ls,rfl,sh,q⟩:=h
 have hu:=hu_of hr
 have hu6:=hr.units
 have small:∀{n:Nat},n≤10000→n<sizeLine:=fun h=>Nat.lt_of_le_of_lt h (by decide)
 have few:=sh.few
 have sle:=sh.len
 refine ⟨_,(pss_cons (ps_set (i:=1) sc_read_program.nd rfl (Or.inl rfl) (bmK K PySem.F.plainAttrs_str PySem.F.slot_str_split PySem.F.type_str_split splitN (pv 0) (pa_cons pe_str pa_nil)))
  (pss_cons (ps_set (i:=2) sc_read_program.nd rfl (Or.inl rfl) (pe_fn (f_label_places.mono (by decide)) hr rfl (pa_cons (pv 1) pa_nil)))
  (pss_cons (ps_set (i:=3) sc_read_program.nd rfl (Or.inl rfl) dnewN)
  (pss_cons (ps_set (i:=4) sc_read_program.nd rfl (Or.inl rfl) (lstN pa_nil))
  (pss_cons (ps_for PassesOwn.never rfl (enumK K rfl T.n_enumerate (pa_cons (pv 1) pa_nil)) (tupK K 2 rfl (pgs_cons (pg_name (i:=5) sc_read_program.nd rfl (Or.inl rfl)) (pgs_cons (pg_name (i:=6) sc_read_program.nd rfl (Or.inl rfl)) pgs_nil))) (pss_cons (ps_set (i:=7) sc_read_program.nd rfl (Or.inl rfl) (pe_fn (f_label_in.mono (by decide)) hr rfl (pa_cons (pv 6) pa_nil)))
  (pss_one (ps_if (pt_cmpR g_isnot (pv 7) pe_non (nomark _)) (pss_cons (ps_if (pt_cmp (pc_din hu (pv 7) (pv 3))) (pss_one ps_dead) pss_nil)
  (pss_one (ps_dput hu (pv 3) (pv 7) pe_bl rfl))) (pss_one (ps_if (pt_cmpR (neK K hu6) (pv 6) pe_str (nomark _)) (pss_cons (ps_set (i:=8) sc_read_program.nd rfl (Or.inl rfl) (pe_fn (f_row_in.mono (by decide)) hr rfl (pa_cons (pv 6) (pa_cons (pv 2) pa_nil))))
  (pss_cons (ps_if (PW.pt (pw_or (pt_cmpR g_is (pv 8) pe_non (nomark _)) (pw_or1 (pt_cmpR (eqK K hu6) (pe_callB (lenK K) rfl T.n_len (by rfl) (pa_cons (pv 4) pa_nil)) (pe_gint rfl v_MOST_ROWS) (nomark _))))) (pss_one ps_dead) pss_nil)
  (pss_one (ps_expr (bmK K PySem.F.plainAttrs_list PySem.F.slot_list_append PySem.F.type_list_append appendN (pv 4) (pa_cons (pv 8) pa_nil)))))) pss_nil))))))
  (pss_one (ps_ret (pv 4)))))))),?_⟩
 have es:Txt.split (shT L ls) (Str.ofString "\n")=ls.map (lnT L):=by
  rw [show (Str.ofString "\n")=sNl by decide +kernel]
  exact sh.split
 refine ⟨_,rfl,rfl,_,_,rfl,rfl,by decide +kernel,by omega,by rw [es,List.length_map];omega,fun p1 H1 n1=>gn ?_⟩
 rw [es] at n1
 refine ⟨_,rfl,L,ls,p1,rfl,n1.at,sh.ok,few,fun d H2 s2 hd0 hd2=>gn ?_⟩
 refine fun lb H3 n3=>gn ⟨by show 0≤sizeLine;decide,fun pp H4 n4=>gn ?_⟩
 dsimp only
 have h2:Same H H2:=n1.same.trans s2
 have hp2:=s2 _ _ n1.at
 have lb2:H2 lb=none:=n3.nn
 have pp2:H2 pp=none:=n3.back n4.nn
 have npl:pp≠lb:=fun z=>by have:=n4.nn;rw [z,n3.at] at this;cases this
 have at1:∀{i:Nat} (hi:i<ls.length),((ls.map (lnT L)).map V.str)[i]? = some (.str (lnT L ls[i])):=fun hi=>by rw [List.getElem?_map,List.getElem?_map,List.getElem?_eq_getElem hi];rfl
 have lf:∀(A:List Ln),(lbsOf A).length≤A.length∧(rowsOf A).length≤A.length:=fun A=>⟨List.length_filterMap_le _ _,List.length_filterMap_le _ _⟩
 refine seqCut (t:=tFor _ _ _) (fun σ H'=>Ex5 fun (x5 x6 x7 x8:Option V) (us:List V) => σ=[some (.str (shT L ls)),some (.ref p1),some (.ref d),some (.ref lb),some (.ref pp),x5,x6,x7,x8]∧Same H2 H'∧H' pp=some (.lst us)∧Tups H' (rowsOf ls) us) (fun Nx nx => ?_) ?_
 ·refine ⟨_,rfl,p1,rfl,⟨_,SqL.of ((n3.same.trans n4.same) _ _ hp2)⟩,?_⟩
  refine for_go (N:=ls.length) (fun i σ H'=>Ex5 fun (x5 x6 x7 x8:Option V) (us:List V) => σ=[some (.str (shT L ls)),some (.ref p1),some (.ref d),some (.ref lb),some (.ref pp),x5,x6,x7,x8]∧Same H2 H'∧H' pp=some (.lst us)∧Tups H' (rowsOf (ls.take i)) us∧H' lb=some (.dK (lbD (lbsOf (ls.take i))))) ⟨_,_,_,_,[],rfl,n3.same.trans n4.same,n4.at,⟨rfl,fun i r e=>by cases e⟩,n4.same _ _ n3.at⟩ ?_ ?_
  ·intro i σ H5 hi
   refine Elim.go ?_
   rintro x5 x6 x7 x8 us rfl s5 hp5 tu hl5
   refine ⟨⟨_,_,SqL.of (s5 _ _ hp2),at1 hi⟩,?_⟩
   rintro y H6 ⟨T',rfl,hT,hy⟩
   have e:=hy _ _ (SqL.of (s5 _ _ hp2)) (at1 hi)
   have n6:New H5 T' (.tup [.int i, .str (lnT L ls[i])]) H6:=⟨hT,e⟩
   have hok:=sh.ok _ (List.getElem_mem hi)
   have s6:=s5.trans n6.same
   have hp6:=n6.same _ _ hp5
   have hl6:=n6.same _ _ hl5
   have tu6:=tu.tp (TP.same n6.same)
   have er:=rowsOf_app (ls.take i) [ls[i]]
   have el:=lbsOf_app (ls.take i) [ls[i]]
   have es2:ls=ls.take i++[ls[i]]++ls.drop (i+1):=by rw [←take_next hi,List.take_append_drop]
   have er2:=rowsOf_app (ls.take i++[ls[i]]) (ls.drop (i+1))
   have el2:=lbsOf_app (ls.take i++[ls[i]]) (ls.drop (i+1))
   rw [←es2,er] at er2
   rw [←es2,el] at el2
   rw [take_next hi,er,el]
   have lt:=lf (ls.take i)
   rw [List.length_take] at lt
   have mn:=Nat.min_le_left i ls.length
   have g0:(rowsOf (ls.take i)).length≤1000:=by omega
   have g1:(lbsOf (ls.take i)).length≤1000:=by omega
   refine ⟨T',_,rfl,SqT.of n6.at,rfl,_,_,rfl,_,_,rfl,rfl,?_⟩
   clear er el es2 lt
   generalize rowsOf (ls.take i)=R0 at tu6 g0 er2
   generalize lbsOf (ls.take i)=B0 at hl6 g1 el2
   generalize ls[i]=ln at hok er2 el2 hy
   refine gn ⟨_,rfl,L,200,ln,rfl,hok,gn ?_⟩
   cases ln with
   | lb x=>
    refine ⟨_,rfl, .inl ⟨rfl,_,rfl,iteT ?_⟩⟩
    have nx0:x ∉ B0:=fun z=>by
     have nd:=sh.nd
     rw [el2] at nd
     have:=(List.nodup_append.mp (List.nodup_append.mp nd).1).2.2 x z x (by exact List.mem_cons_self)
     exact this rfl
    have hv:valV (lbD B0) (.inr x)=none:=lbD_none B0 [] nx0 rfl
    refine ⟨_,rfl,_,rfl,lb,none,rfl,?_,_,rfl,iteF (gn ?_)⟩
    ·have:=DGet.k (k := .inr x) hl6
     rw [hv] at this
     exact this
    have bl:=lbD_len B0 []
    have bl:(lbD B0).length≤1000:=Nat.le_trans bl (by show 0+B0.length≤1000;omega)
    refine ⟨_,rfl,_,rfl,lb,_,rfl,DPut.k (k:=Sum.inr x) hl6 (small (by omega)),_,_,_,_,us,rfl,?_,?_,?_,?_⟩
    ·exact fun b o e=>by rw [upd_ne (ne_of_none e lb2)];exact s6 b o e
    ·rw [upd_ne npl];exact hp6
    ·have:TP H6 (upd H6 lb (.dK (putK (lbD B0) (.inr x) (.bl true)))):=fun a us e=>by
      rw [upd_ne (fun z=>by rw [z,hl6] at e;cases e)];exact e
     rw [show R0++rowsOf [Ln.lb x]=R0 from List.append_nil _]
     exact tu6.tp this
    ·rw [show lbsOf [Ln.lb x]=[x] from rfl,lbD_snoc];exact upd_same
   | em=>
    refine ⟨_,rfl, .inl ⟨rfl,_,rfl,iteF ⟨_,rfl, .inl ⟨rfl,_,rfl,?_⟩⟩⟩⟩
    rw [show decide (V.str (lnT L .em)=V.str (Str.ofString ""))=true from decide_eq_true (by rw [(em_iff hok (fun x z=>nomatch z)).mpr rfl])]
    refine iteF ⟨_,_,_,_,us,rfl,s6,hp6,?_,?_⟩
    ·rw [show R0++rowsOf [Ln.em]=R0 from List.append_nil _];exact tu6
    ·rw [show B0++lbsOf [Ln.em]=B0 from List.append_nil _];exact hl6
   | rw r=>
    refine ⟨_,rfl, .inl ⟨rfl,_,rfl,iteF ⟨_,rfl, .inl ⟨rfl,_,rfl,?_⟩⟩⟩⟩
    rw [show decide (V.str (lnT L (.rw r))=V.str (Str.ofString ""))=false from decide_eq_false fun z=>by
     injection z with z
     exact nomatch (em_iff hok (fun x z=>nomatch z)).mp z]
    refine iteT ?_
    have hr':r∈rowsOf ls:=by rw [er2];exact List.mem_append_left _ (List.mem_append_right _ (by exact List.mem_cons_self))
    have hlt:R0.length<200:=by
     have:=sh.le
     rw [er2,List.length_append,List.length_append] at this
     have e1:(rowsOf [Ln.rw r]).length=1:=rfl
     omega
    refine ⟨_,rfl,_,rfl,L,200,r,d,_,rfl,s6 _ _ hd2,hok.1,fun t ht=>⟨hok.2 t ht,sh.at hr' ht⟩,fun rp H7 s7 h7=>gn ?_⟩
    have hp7:=s7 _ _ hp6
    refine ⟨_,rfl, .inl ⟨rfl,_,rfl,iteF ?_⟩⟩
    refine ⟨_,rfl,_,_,rfl, .inl ⟨_,SqL.of hp7,rfl⟩, .inl ⟨rfl,_,rfl,?_⟩⟩
    rw [decide_eq_false (show ¬V.int (us.length:Nat)=V.int 200 from fun z=>by
     injection z with z
     have:=tu6.1
     omega)]
    refine iteF (gn ?_)
    refine ⟨_,rfl, .inl ⟨rfl,_,SqL.of hp7⟩,_,rfl,pp,us,_,rfl,rfl,hp7,small (by rw [tu6.1];omega),fun H8 c8=>gn ⟨_,_,_,_,us++[.ref rp],rfl,?_,c8.at,?_,?_⟩⟩
    ·exact fun b o e=>by rw [c8.ne (ne_of_none e pp2)];exact (s6.trans s7) b o e
    ·exact ((tu6.tp (TP.same s7)).snoc h7).tp (TP.chg hp7 c8)
    ·rw [c8.ne npl.symm,show B0++lbsOf [Ln.rw r]=B0 from List.append_nil _]
     exact s7 _ _ hl6
  ·intro σ H5
   refine Elim.go ?_
   rintro x5 x6 x7 x8 us rfl s5 hp5 tu hl5
   rw [List.take_length] at tu
   exact ⟨⟨_,SqL.of (s5 _ _ hp2),by rw [List.length_map,List.length_map];exact Nat.le_refl _⟩,nx _ _ ⟨x5,x6,x7,x8,us,rfl,s5,hp5,tu⟩⟩
 intro σ H5
 refine Elim.go ?_
 rintro x5 x6 x7 x8 us rfl s5 hp5 tu
 exact ⟨_,rfl,q pp us H5 (h2.trans s5) (none_back (n1.same.trans s2) pp2) hp5 tu⟩
end
end Z
namespace Z
open PySem L2 PyProof.Rows
noncomputable def plcs (rows:List Rw):List Nat:=rows.filterMap plc
noncomputable def gls (rows:List Rw):List Nat:=(List.range 201).filter fun t=>(plcs rows).contains t
theorem gls_mem {rows:List Rw} {t:Nat} : t∈gls rows ↔ t≤200∧t∈plcs rows:=by
 unfold gls
 rw [List.mem_filter,List.mem_range,List.contains_iff_mem]
 exact ⟨fun h=>⟨by omega,h.2⟩,fun h=>⟨by omega,h.2⟩⟩
theorem gls_sorted (rows:List Rw):(gls rows).Pairwise (· < ·):=List.pairwise_lt_range.filter _
theorem gls_nodup (rows:List Rw):(gls rows).Nodup:=(gls_sorted rows).imp fun h=>Nat.ne_of_lt h
theorem gls_len (rows:List Rw):(gls rows).length≤201:=by
 have:=List.length_filter_le (fun t=>(plcs rows).contains t) (List.range 201)
 rw [List.length_range] at this
 exact this
theorem plc_le {n:Nat} {r:Rw} {t:Nat} (h:r.ok n) (e:plc r=some t):t≤n:=by
 cases r with
 | jump u=>cases e;exact h
 | zero p u=>cases e;exact h.2
 | set p q=>cases e
 | add p q=>cases e
 | take p q=>cases e
 | tell p=>cases e
 | ask p=>cases e
 | stop=>cases e
theorem plcs_in {rows:List Rw} {r:Rw} {t:Nat} (h:r∈rows) (e:plc r=some t):t∈plcs rows:=List.mem_filterMap.mpr ⟨r,h,e⟩
theorem gls_in {rows:List Rw} {n:Nat} (hn:n≤200) (ok:∀r∈rows,r.ok n) {t:Nat} (h:t∈plcs rows):t∈gls rows:=by
 refine gls_mem.mpr ⟨?_,h⟩
 obtain ⟨r,hr,e⟩:=List.mem_filterMap.mp h
 exact Nat.le_trans (plc_le (ok r hr) e) hn
theorem gls_uni {rows:List Rw} {n:Nat} (hn:n≤200) (ok:∀r∈rows,r.ok n) {D ms:List Int} (nd:D.Nodup) (mem:∀x,x∈D ↔ ∃t:Nat,t∈plcs rows∧(t:Int)=x) (pm:ms.Perm D) (so:ms.Pairwise (· ≤ ·)):ms=(gls rows).map fun t:Nat=>(t:Int):=by
 refine List.Perm.eq_of_pairwise (le:=(· ≤ ·)) (fun a b _ _ h1 h2=>Int.le_antisymm h1 h2) so ?_ (pm.trans ?_)
 ·rw [List.pairwise_map]
  exact (gls_sorted rows).imp fun h=>by omega
 ·refine (List.perm_ext_iff_of_nodup nd ?_).mpr fun x => ?_
  ·exact List.pairwise_map.mpr ((gls_sorted rows).imp fun h=>by omega)
  ·rw [mem,List.mem_map]
   exact ⟨fun ⟨t,h,e⟩=>⟨t,gls_in hn ok h,e⟩,fun ⟨t,h,e⟩=>⟨t,(gls_mem.mp h).2,e⟩⟩
noncomputable def lab (i:Nat):Str:=⟨#[108,97+i / 26,97+i % 26]⟩
theorem lab_nam {i:Nat} (h:i<676):Nam (lab i):=⟨by show 1≤3;omega,by show 3≤8;omega,fun c hc=>by
 have hc:c∈[108,97+i / 26,97+i % 26]:=hc
 rcases List.mem_cons.mp hc with rfl|hc
 ·omega
 rcases List.mem_cons.mp hc with rfl|hc
 ·omega
 rw [List.mem_singleton.mp hc]
 omega⟩
theorem lab_inj {i j:Nat} (h:lab i=lab j):i=j:=by
 unfold lab at h
 injection h with h
 have h:[108,97+i / 26,97+i % 26]=[108,97+j / 26,97+j % 26]:=congrArg Array.toList h
 injection h with _ h
 injection h with h1 h
 injection h with h2 _
 omega
noncomputable def Lg (rows:List Rw) (t:Nat):Str:=lab ((gls rows).idxOf t)
theorem Lg_nam {rows:List Rw} {t:Nat} (h:t∈gls rows):Nam (Lg rows t):=lab_nam (by
 have:=List.idxOf_lt_length_iff.mpr h
 have:=gls_len rows
 omega)
theorem Lg_inj {rows:List Rw} {t u:Nat} (h:t∈gls rows) (g:u∈gls rows) (e:Lg rows t=Lg rows u):t=u:=by
 have e:=lab_inj e
 have h1:=List.getElem_idxOf (List.idxOf_lt_length_iff.mpr h)
 have h2:=List.getElem_idxOf (List.idxOf_lt_length_iff.mpr g)
 rw [←h1, ←h2]
 simp only [e]
noncomputable def lbAt (rows:List Rw) (i:Nat):List Ln:=if i∈gls rows then [.lb (Lg rows i)] else []
noncomputable def lnsTo (rows:List Rw):Nat→List Ln
 | 0=>[]
 | k+1=>lnsTo rows k++lbAt rows k++[.rw (rows.getD k .stop)]
noncomputable def lnsOf (rows:List Rw):List Ln:=lnsTo rows rows.length++lbAt rows rows.length
noncomputable def wpT (rows:List Rw):Str:=shT (Lg rows) (lnsOf rows)
theorem lbAt_rows (rows:List Rw) (i:Nat):rowsOf (lbAt rows i)=[]:=by unfold lbAt;split <;> rfl
theorem lbAt_len (rows:List Rw) (i:Nat):(lbAt rows i).length≤1:=by unfold lbAt;split <;> exact Nat.le_of_ble_eq_true rfl
theorem lnsTo_rows (rows:List Rw):∀k,k≤rows.length→rowsOf (lnsTo rows k)=rows.take k
 | 0,_=>rfl
 | k+1,h=>by
  rw [lnsTo,rowsOf_app,rowsOf_app,lbAt_rows,List.append_nil,lnsTo_rows rows k (by omega),take_next h]
  congr 1
  show [rows.getD k .stop]=_
  rw [List.getD_eq_getElem?_getD,List.getElem?_eq_getElem h]
  rfl
theorem lnsTo_len (rows:List Rw):∀k,(lnsTo rows k).length≤2*k
 | 0=>Nat.le_refl _
 | k+1=>by
  rw [lnsTo,List.length_append,List.length_append]
  have h1:=lnsTo_len rows k
  have h2:=lbAt_len rows k
  show _+_+1≤_
  omega
theorem lbAt_mem {rows:List Rw} {i:Nat} {x:Str} (h:x∈lbsOf (lbAt rows i)):i∈gls rows∧x=Lg rows i:=by
 unfold lbAt at h
 split at h
 case isTrue hi=>exact ⟨hi,List.mem_singleton.mp h⟩
 case isFalse hi=>cases h
theorem lnsTo_mem (rows:List Rw):∀k x,x∈lbsOf (lnsTo rows k)→∃t,t<k∧t∈gls rows∧x=Lg rows t
 | 0,x,h=>nomatch h
 | k+1,x,h=>by
  rw [lnsTo,lbsOf_app,lbsOf_app] at h
  rcases List.mem_append.mp h with h|h
  ·rcases List.mem_append.mp h with h|h
   ·obtain ⟨t,h1,h2,h3⟩:=lnsTo_mem rows k x h
    exact ⟨t,by omega,h2,h3⟩
   ·obtain ⟨h1,h2⟩:=lbAt_mem h
    exact ⟨k,by omega,h1,h2⟩
  ·cases h
theorem lbAt_nodup (rows:List Rw) (i:Nat):(lbsOf (lbAt rows i)).Nodup:=by
 unfold lbAt
 split
 ·exact List.nodup_cons.mpr ⟨(fun h=>nomatch h),List.nodup_nil⟩
 ·exact List.nodup_nil
theorem more_lb {rows:List Rw} {k:Nat} (h:(lbsOf (lnsTo rows k)).Nodup):(lbsOf (lnsTo rows k++lbAt rows k)).Nodup:=by
 rw [lbsOf_app]
 refine List.nodup_append.mpr ⟨h,lbAt_nodup rows k,fun a ha b hb e => ?_⟩
 obtain ⟨t,h1,h2,h3⟩:=lnsTo_mem rows k a ha
 obtain ⟨h4,h5⟩:=lbAt_mem hb
 have:=Lg_inj h2 h4 (by rw [←h3, ←h5,e])
 omega
theorem lnsTo_nodup (rows:List Rw):∀k,(lbsOf (lnsTo rows k)).Nodup
 | 0=>List.nodup_nil
 | k+1=>by
  rw [lnsTo,lbsOf_app,show lbsOf [Ln.rw (rows.getD k .stop)]=[] from rfl,List.append_nil]
  exact more_lb (lnsTo_nodup rows k)
theorem lnsTo_cut (rows:List Rw) {t:Nat} (ht:t∈gls rows):∀k,t<k→∃C,lnsTo rows k=lnsTo rows t ++ .lb (Lg rows t) :: C
 | 0,h=>absurd h (Nat.not_lt_zero _)
 | k+1,h=>by
  by_cases e:t=k
  ·subst e
   refine ⟨[.rw (rows.getD t .stop)],?_⟩
   rw [lnsTo,show lbAt rows t=[.lb (Lg rows t)] from if_pos ht,List.append_assoc]
   rfl
  ·obtain ⟨C,hC⟩:=lnsTo_cut rows ht k (by omega)
   refine ⟨C++lbAt rows k++[.rw (rows.getD k .stop)],?_⟩
   rw [lnsTo,hC]
   simp only [List.append_assoc,List.cons_append]
theorem lns_ok {rows:List Rw} {n:Nat} (hn:n≤200) (ok:∀r∈rows,r.ok n):∀k,k≤rows.length→∀l∈lnsTo rows k++lbAt rows k,LnOk (Lg rows) 200 l:=by
 have lb:∀k,∀l∈lbAt rows k,LnOk (Lg rows) 200 l:=fun k l h=>by
  unfold lbAt at h
  split at h
  case isTrue hi=>
   rw [List.mem_singleton.mp h]
   exact Lg_nam hi
  case isFalse hi=>cases h
 have mono:∀r:Rw,r.ok n→r.ok 200:=fun r h=>by
  cases r with
  | jump t=>exact Nat.le_trans h hn
  | zero p t=>exact ⟨h.1,Nat.le_trans h.2 hn⟩
  | set p q=>exact h
  | add p q=>exact h
  | take p q=>exact h
  | tell p=>exact h
  | ask p=>exact h
  | stop=>exact h
 intro k
 induction k with
 | zero=>exact fun _ l hl=>lb 0 l hl
 | succ k ih=>
  intro hk l hl
  rcases List.mem_append.mp hl with hl|hl
  ·rw [lnsTo] at hl
   rcases List.mem_append.mp hl with hl|hl
   ·exact ih (by omega) l hl
   ·rw [List.mem_singleton.mp hl,List.getD_eq_getElem?_getD,List.getElem?_eq_getElem hk]
    have hr:=List.getElem_mem hk
    exact ⟨mono _ (ok _ hr),fun t ht=>Lg_nam (gls_in hn ok (plcs_in hr ht))⟩
  ·exact lb _ l hl
theorem sheet_of {rows:List Rw} {n:Nat} (hn:n≤200) (hl:rows.length=n) (ok:∀r∈rows,r.ok n):Ex2 fun (L:Nat→Str) (ls:List Ln)=>wpT rows=shT L ls∧Sheet L ls∧rowsOf ls=rows:=by
 cases rows with
 | nil=>exact ⟨Lg [],[.em],rfl,⟨(fun z=>nomatch z),fun l hl=>by rw [List.mem_singleton.mp hl];trivial,List.nodup_nil,Nat.zero_le _,by show 1≤1000;omega,fun r hr=>nomatch hr⟩,rfl⟩
 | cons r0 rs=>
  have er:rowsOf (lnsOf (r0 :: rs))=r0 :: rs:=by
   unfold lnsOf
   rw [rowsOf_app,lbAt_rows,List.append_nil,lnsTo_rows _ _ (Nat.le_refl _),List.take_length]
  refine ⟨Lg (r0 :: rs),lnsOf (r0 :: rs),rfl,⟨fun z => ?_,lns_ok hn ok _ (Nat.le_refl _),more_lb (lnsTo_nodup _ _),?_,?_,fun r hr t ht => ?_⟩,er⟩
  ·rw [z] at er;cases er
  ·rw [er];omega
  ·unfold lnsOf
   rw [List.length_append]
   have h1:=lnsTo_len (r0 :: rs) (r0 :: rs).length
   have h2:=lbAt_len (r0 :: rs) (r0 :: rs).length
   omega
  ·rw [er] at hr
   have hg:=gls_in hn ok (plcs_in hr ht)
   have hle:=plc_le (ok r hr) ht
   have ra:∀k,k≤(r0 :: rs).length→(rowsOf (lnsTo (r0 :: rs) k)).length=k:=fun k hk=>by rw [lnsTo_rows _ _ hk,List.length_take];omega
   by_cases e:t=(r0 :: rs).length
   ·refine ⟨lnsTo (r0 :: rs) t,[],?_,ra t (by omega)⟩
    unfold lnsOf
    rw [←e,show lbAt (r0 :: rs) t=[.lb (Lg (r0 :: rs) t)] from if_pos hg]
   ·obtain ⟨C,hC⟩:=lnsTo_cut (r0 :: rs) hg (r0 :: rs).length (by omega)
    refine ⟨lnsTo (r0 :: rs) t,C++lbAt (r0 :: rs) (r0 :: rs).length,?_,ra t (by omega)⟩
    unfold lnsOf
    rw [hC,List.append_assoc,List.cons_append]
end Z
namespace Z
open PySem L2 PyProof.Rows
theorem sum_len {m:Nat} : ∀{xs:List Str},(∀x∈xs,x.length≤m)→(xs.map (·.length)).sum≤m*xs.length
 | [],_=>Nat.zero_le _
 | x :: xs,h=>by
  have h1:=h x List.mem_cons_self
  have h2:=sum_len (xs:=xs) fun y hy=>h y (List.mem_cons_of_mem _ hy)
  rw [List.map_cons,List.sum_cons,List.length_cons,Nat.mul_succ]
  omega
theorem small_at {i:Nat} (h:i<26):atI sSmall.cps.toList (i:Nat)=some (97+i):=by
 have e:sSmall.cps.toList=(List.range 26).map (97 + ·):=by decide +kernel
 rw [e]
 refine at_nat (by simpa using h) ?_
 show ((List.range 26).map (97 + ·))[i]? = _
 rw [List.getElem?_map,List.getElem?_range h]
 rfl
theorem zs_str {L:Nat→Str} {n:Nat} {r:Rw} (h:r.ok n):∀z∈zs3 L r,(z.1 = "near" ∧ ∃t:Nat,plc r=some t∧z.2.1=L t∧z.2.2 = .int (t:Nat))∨(z.1 ≠ "near" ∧ strD z.2.2=z.2.1∧z.2.2.showable=true∧z.2.2.depth≤40∧z.2.2.shown.length≤sizeLine∧flatD z.2.2=true):=by
 have sp':∀p,strD (.str (sp p))=sp p∧(PyData.str (sp p)).showable=true∧(PyData.str (sp p)).depth≤40∧(PyData.str (sp p)).shown.length≤sizeLine∧flatD (.str (sp p))=true:=fun p=>by
  refine ⟨rfl,?_,by simp [PyData.depth],?_,rfl⟩
  ·match p with
   | 0=>decide +kernel
   | 1=>decide +kernel
   | 2=>decide +kernel
   | n+3=>exact (by decide +kernel:(PyData.str (Str.ofString "d")).showable=true)
  ·match p with
   | 0=>decide +kernel
   | 1=>decide +kernel
   | 2=>decide +kernel
   | n+3=>exact (by decide +kernel:(PyData.str (Str.ofString "d")).shown.length≤sizeLine)
 have num:∀m:Int,0≤m→m<256→strD (.int m)=numT m.toNat∧(PyData.int m).showable=true∧(PyData.int m).depth≤40∧(PyData.int m).shown.length≤sizeLine∧flatD (.int m)=true:=fun m h0 h1=>by
  have g:Gd 300 1 (.int m):=Gd.int (Nat.lt_of_lt_of_le (show m.natAbs<1000 by omega) (by decide)) (by decide)
  obtain ⟨h1,h2,h3⟩:=pz_shown _ g.pz
  have:=g.wt
  refine ⟨?_,h2,by simp [PyData.depth],sizeOk (by omega),rfl⟩
  unfold numT
  rw [show ((m.toNat:Nat):Int)=m by omega]
  exact int_shown m
 have ne1:(Str.ofString "spot") ≠ "near":=by decide
 have ne2:(Str.ofString "number") ≠ "near":=by decide
 have k:∀{s:Str×Str×PyData} {xs:List (Str×Str×PyData)} {C:Str×Str×PyData→Prop},C s→(∀x∈xs,C x)→∀x∈s :: xs,C x:=fun {s xs C} hs hx x hm=>by
  rcases List.mem_cons.mp hm with e|hm
  ·rw [e];exact hs
  ·exact hx x hm
 have nl:∀{C:Str×Str×PyData→Prop},∀x∈([]:List (Str×Str×PyData)),C x:=fun x hx=>nomatch hx
 cases r with
 | set p m=>exact k (.inr ⟨ne1,sp' p⟩) (k (.inr ⟨ne2,num m h.2.1 h.2.2⟩) nl)
 | add p q=>exact k (.inr ⟨ne1,sp' p⟩) (k (.inr ⟨ne1,sp' q⟩) nl)
 | take p q=>exact k (.inr ⟨ne1,sp' p⟩) (k (.inr ⟨ne1,sp' q⟩) nl)
 | tell p=>exact k (.inr ⟨ne1,sp' p⟩) nl
 | ask p=>exact k (.inr ⟨ne1,sp' p⟩) nl
 | jump t=>exact k (.inl ⟨rfl,t,rfl,rfl,rfl⟩) nl
 | zero p t=>exact k (.inr ⟨ne1,sp' p⟩) (k (.inl ⟨rfl,t,rfl,rfl,rfl⟩) nl)
 | stop=>exact nl
noncomputable def spLnm:Sp:=fun vs H Q _=>∃i:Nat,vs=[.int (i:Nat)]∧i<676∧Q (.str (lab i)) H
noncomputable def spLrw:Sp:=fun vs H Q _=>Ex4 fun (d:Addr) (k:Int) (kvs:List (Key×V)) (o:Option Str)=>vs=[.ref d, .int k]∧H d=some (.dK kvs)∧valV kvs (.inl k)=o.map V.str∧(∀x,o=some x→x.length≤100) ∧
 ∀p H',New H p (.lst ((o.toList.map fun x=>x++sCo).map V.str)) H'→Q (.ref p) H'
noncomputable def spRtx (K:PySem.W.Frag):Sp:=fun vs H Q _=>Ex6 fun (rp d:Addr) (L:Nat→Str) (n:Nat) (r:Rw) (kvs:List (Key×V))=>vs=[.ref rp, .ref d]∧H rp=some (.tup (r.ds.map fV))∧H d=some (.dK kvs)∧r.ok n∧(∀t,plc r=some t→Nam (L t)∧valV kvs (.inl (t:Nat))=some (.str (L t))) ∧
 ∀H',Same H H'→Q (.str (rowT L r)) H'
section
variable {P:Program} {w:World} {K:PySem.W.Frag} {mg:Str→Option Value} {base:Heap} {f:Addr} {fd:FuncData} {aS aR aP aJ:Addr} {t1:Tok}
theorem sc_label_name:FnScope ["at"] ["at"] (defScope (top i_label_name)):=⟨rfl,rfl,rfl,by decide +kernel,rfl,by decide +kernel,by decide +kernel⟩
theorem ok_lnm (F:Fun K "label_name" "label_name" (top i_label_name) f fd) (T:Nm mg) (v_SMALL_LETTERS:mg "SMALL_LETTERS" = some (.str sSmall t1)):FnOk P w K mg base CX0 1 f fd ["at"] spLnm:=by
 refine F.ok sc_label_name (fun vs H Q E h => ?_) (fun cdv A outer s H vs Q E hr h => ?_)
 ·obtain ⟨i,rfl,_⟩:=h
  rfl
 obtain ⟨i,rfl,hi,q⟩:=h
 refine ⟨_,(pss_one (ps_ret (pe_op addN (pe_op addN pe_str (pe_ix (ixK K) (pe_gstr rfl v_SMALL_LETTERS) (pe_op op_fdiv (pv 0) (pe_callB (lenK K) rfl T.n_len (by rfl) (pa_cons (pe_gstr rfl v_SMALL_LETTERS) pa_nil))) (fun _ _=>rfl))) (pe_ix (ixK K) (pe_gstr rfl v_SMALL_LETTERS) (pe_op op_mod (pv 0) (pe_callB (lenK K) rfl T.n_len (by rfl) (pa_cons (pe_gstr rfl v_SMALL_LETTERS) pa_nil))) (fun _ _=>rfl))))),?_⟩
 have sl:sSmall.length=26:=by decide +kernel
 have se:((26:Nat):Int)=26:=rfl
 refine ⟨_,rfl,_,_,rfl,⟨by rw [sl];decide,rfl⟩,_,_,rfl,rfl,?_,?_⟩
 ·rw [sl];exact ⟨by omega,by omega⟩
 rw [sl]
 have e1:((i:Nat):Int) / ((26:Nat):Int)=((i / 26:Nat):Int):=by omega
 have e2:((i:Nat):Int) % ((26:Nat):Int)=((i % 26:Nat):Int):=by omega
 dsimp only
 rw [e1]
 refine .inr (.inr ⟨_,_,_,rfl,rfl,by rw [sl];decide,small_at (by omega), .inr (.inl ⟨_,_,rfl,rfl,by show 1+1≤sizeLine;decide,?_⟩)⟩)
 refine ⟨_,rfl,_,_,rfl,⟨by rw [sl];decide,rfl⟩,_,_,rfl,rfl,?_,?_⟩
 ·rw [sl];omega
 rw [sl]
 dsimp only
 rw [e2]
 refine .inr (.inr ⟨_,_,_,rfl,rfl,by rw [sl];decide,small_at (by omega), .inr (.inl ⟨_,_,rfl,rfl,by show 2+1≤sizeLine;decide,?_⟩)⟩)
 exact q
theorem sc_label_rows:FnScope ["labels", "place"] ["labels", "place"] (defScope (top i_label_rows)):=⟨rfl,rfl,rfl,by decide +kernel,rfl,by decide +kernel,by decide +kernel⟩
theorem ok_lrw (F:Fun K "label_rows" "label_rows" (top i_label_rows) f fd) (T:Nm mg):FnOk P w K mg base CX0 1 f fd ["labels", "place"] spLrw:=by
 refine F.ok sc_label_rows (fun vs H Q E h => ?_) (fun cdv A outer s H vs Q E hr h => ?_)
 ·obtain ⟨d,k,kvs,o,rfl,_⟩:=h
  rfl
 obtain ⟨d,k,kvs,o,rfl,hd,hv,hl,q⟩:=h
 have hu:=hu_of hr
 refine ⟨_,(pss_one (ps_ret (pe_ifExp (pt_cmp (pc_din hu (pv 1) (pv 0))) (lstN (pa_cons (pe_op addN (pe_dget hu (pv 0) (pv 1) (fun _ _=>rfl)) pe_str) pa_nil)) (lstN pa_nil)))),?_⟩
 have g:=DGet.k (k := .inl k) hd
 rw [hv] at g
 refine ⟨_,rfl,_,rfl,d,_,rfl,g,_,rfl,?_⟩
 cases o with
 | none=>exact iteF ⟨by show 0≤sizeLine;decide,fun p H' n=>q p H' n⟩
 | some x=>
  refine iteT ⟨_,rfl,_,rfl,d,_,rfl,g, .inr (.inl ⟨_,_,rfl,rfl,?_,by show 1≤sizeLine;decide,fun p H' n=>q p H' ?_⟩)⟩
  ·have:=hl x rfl
   show x.length+1≤sizeLine
   exact sizeOk (by omega)
  ·exact n
theorem sc_row_text:FnScope ["row", "labels", "words", "part", "value"] ["row", "labels"] (defScope (top i_row_text)):=⟨rfl,rfl,rfl,by decide +kernel,rfl,by decide +kernel,by decide +kernel⟩
theorem ok_rtx (F:Fun K "row_text" "row_text" (top i_row_text) f fd) (T:Nm mg) (C:Cs83 K w mg aS aR aP aJ):FnOk P w K mg base CX0 1 f fd ["row", "labels"] (spRtx K):=by
 refine F.ok sc_row_text (fun vs H Q E h => ?_) (fun cdv A outer s H vs Q E hr h => ?_)
 ·obtain ⟨rp,d,L,n,r,kvs,rfl,_⟩:=h
  rfl
 obtain ⟨rp,d,L,n,r,kvs,rfl,hrp,hd,ok,hL,q⟩:=h
 have hu:=hu_of hr
 have hu6:=hr.units
 have g_PARTS:=C.g_PARTS
 have small:∀{n:Nat},n≤10000→n<sizeLine:=fun h=>Nat.lt_of_le_of_lt h (by decide)
 refine ⟨_,(pss_cons (ps_set (i:=2) sc_row_text.nd rfl (Or.inl rfl) (lstN (pa_cons (pe_ix (ixK K) (pv 0) pe_int (fun _ _=>rfl)) pa_nil)))
  (pss_cons (ps_for PassesOwn.never rfl (pi_zipK K rfl T.n_zip (pa_cons (pe_cget K w (pe_gref rfl g_PARTS) (pe_ix (ixK K) (pv 0) pe_int (fun _ _=>rfl)) (fun _ _=>rfl)) (pa_cons (pe_slice (slTN K) (pv 0) (po_some pe_int) po_none) pa_nil))) (tupK K 2 rfl (pgs_cons (pg_name (i:=3) sc_row_text.nd rfl (Or.inl rfl)) (pgs_cons (pg_name (i:=4) sc_row_text.nd rfl (Or.inl rfl)) pgs_nil))) (pss_one (ps_expr (bmK K PySem.F.plainAttrs_list PySem.F.slot_list_append PySem.F.type_list_append appendN (pv 2) (pa_cons (pe_ifExp (pt_cmpR (eqK K hu6) (pv 3) pe_str (nomark _)) (pe_dget hu (pv 1) (pv 4) (fun _ _=>rfl)) (pe_callTy (strK K hr.gd hu6) rfl T.n_str (by rfl) (pa_cons (pv 4) pa_nil))) pa_nil)))))
  (pss_one (ps_ret (bmK K PySem.F.plainAttrs_str PySem.F.slot_str_join PySem.F.type_str_join (joinK K) pe_str (pa_cons (pv 2) pa_nil)))))),?_⟩
 obtain ⟨W,hW⟩:∃W,W=zs3 L r:=⟨_,rfl⟩
 have eD:r.ds = .str (kindS r) :: W.map (·.2.2):=by rw [hW];exact zs_ds L r
 have eP:prts r=W.map (·.1):=by rw [hW];exact (zs_pr L r).symm
 have zl:=zs_len L r
 have zS:=zs_str (L:=L) ok
 rw [←hW] at zl zS
 obtain ⟨qp,hq1,hq2⟩:=C.pt r
 rw [eP] at hq2
 have hrp':=hrp
 rw [eD,List.map_cons] at hrp
 refine ⟨_,rfl, .inr (.inl ⟨rp,_,0,_,rfl,rfl,SqT.of hrp',kind_at r,by show 1≤sizeLine;decide,fun wp H1 n1=>gn ?_⟩)⟩
 have at1:∀{j:Nat} (hj:j<W.length),((W.map (·.1)).map V.str)[j]? = some (.str W[j].1):=fun hj=>by rw [List.getElem?_map,List.getElem?_map,List.getElem?_eq_getElem hj];rfl
 have at2:∀{j:Nat} (hj:j<W.length),((W.map (·.2.2)).map fV)[j]? = some (fV W[j].2.2):=fun hj=>by rw [List.getElem?_map,List.getElem?_map,List.getElem?_eq_getElem hj];rfl
 dsimp only
 refine seqCut (t:=tFor _ _ _) (fun σ H'=>Ex2 fun (x3 x4:Option V) => σ=[some (.ref rp),some (.ref d),some (.ref wp),x3,x4]∧Same H H'∧H' wp=some (.lst ((kindS r :: W.map (·.2.1)).map V.str))) (fun Nx nx => ?_) ?_
 ·refine ⟨_,rfl, .inr (.inl ⟨rp,_,0,_,rfl,rfl,SqT.of (n1.same _ _ hrp'),kind_at r,aP,_,_, .ref qp,rfl,rfl,C.cd,hq1,rfl,_,rfl,1,rfl,?_⟩)⟩
  have hc:cutV (r.ds.map fV) (some 1) none=(W.map (·.2.2)).map fV:=by rw [eD,List.map_cons];exact cut_from _ 1
  refine ⟨rp,_,rfl,SqT.of (n1.same _ _ hrp'),?_,fun p2 H2 n2 => ?_⟩
  ·rintro ⟨z,_⟩
   have hl:1≤(r.ds.map fV).length:=by rw [eD,List.map_cons,List.length_cons];omega
   rw [show (some (1:Int))=some (((1:Nat):Int)) from rfl,HT.sIx_nat] at z
   omega
  rw [hc] at n2
  have h02:=n1.same.trans n2.same
  refine ⟨true,true,qp,p2,rfl,⟨_,hq2 _⟩,⟨_,SqT.of n2.at⟩,?_⟩
  refine for_go (N:=W.length) (fun j σ H'=>Ex2 fun (x3 x4:Option V) => σ=[some (.ref rp),some (.ref d),some (.ref wp),x3,x4]∧Same H H'∧H' p2=some (.tup ((W.map (·.2.2)).map fV))∧H' wp=some (.lst ((kindS r :: (W.take j).map (·.2.1)).map V.str))) ⟨_,_,rfl,h02,n2.at,n2.same _ _ n1.at⟩ ?_ ?_
  ·intro j σ H3 hj
   refine Elim.go ?_
   rintro x3 x4 rfl s3 hp3 hw3
   have q1:SqK true K H3 qp ((W.map (·.1)).map V.str):=hq2 _
   have q2:SqK true K H3 p2 ((W.map (·.2.2)).map fV):=SqT.of hp3
   refine ⟨⟨_,_,_,_,q1,q2,at1 hj,at2 hj⟩,?_⟩
   rintro x' H4 ⟨T',rfl,hN'⟩
   have n4:=hN' _ _ _ _ q1 q2 (at1 hj) (at2 hj)
   have s4:=s3.trans n4.same
   have hw4:=n4.same _ _ hw3
   have hp4:=n4.same _ _ hp3
   have hpw:p2≠wp:=fun z=>by rw [z,hw3] at hp3;cases hp3
   have fin:∀{x3' x4':Option V} {H5:Hp},Chg H4 wp (.lst ((kindS r :: (W.take j).map (·.2.1)).map V.str++[.str W[j].2.1])) H5→Ex2 fun (y3 y4:Option V)=>[some (V.ref rp),some (.ref d),some (.ref wp),x3',x4']=[some (.ref rp),some (.ref d),some (.ref wp),y3,y4]∧Same H H5∧H5 p2=some (.tup ((W.map (·.2.2)).map fV))∧H5 wp=some (.lst ((kindS r :: (W.take (j+1)).map (·.2.1)).map V.str)):=fun {x3' x4' H5} c5=>by
    refine ⟨_,_,rfl,fun b o e => ?_,?_,?_⟩
    ·rw [c5.ne (ne_of_none e n1.nn)];exact s4 b o e
    ·rw [c5.ne hpw];exact hp4
    ·rw [c5.at,take_next hj,List.map_append]
     simp only [List.map_cons,List.map_append,List.cons_append,List.map_nil]
   refine ⟨T',_,rfl,SqT.of n4.at,rfl,_,_,rfl,_,_,rfl,rfl,?_⟩
   refine ⟨_,rfl, .inl ⟨rfl,_,SqL.of hw4⟩,?_⟩
   have room:((kindS r :: (W.take j).map (·.2.1)).map V.str).length<sizeLine:=small (by rw [List.length_map,List.length_cons,List.length_map,List.length_take];omega)
   rcases zS _ (List.getElem_mem hj) with ⟨e1,t,e2,e3,e4⟩|⟨e1,e2,e3,e4,e5,e6⟩
   ·refine ⟨_,rfl, .inl ⟨rfl,_,rfl,?_⟩⟩
    rw [show decide (V.str W[j].1=V.str (Str.ofString "near"))=true from decide_eq_true (by rw [e1])]
    have g:=DGet.k (k := .inl ((t:Nat):Int)) (s4 _ _ hd)
    rw [(hL t e2).2] at g
    refine iteT ⟨_,rfl,_,rfl,d, .str (L t),rfl,?_,wp,_,_,rfl,rfl,hw4,room,fun H5 c5=>gn (fin ?_)⟩
    ·rw [e4];exact g
    ·rw [e3];exact c5
   ·refine ⟨_,rfl, .inl ⟨rfl,_,rfl,?_⟩⟩
    rw [show decide (V.str W[j].1=V.str (Str.ofString "near"))=false from decide_eq_false fun z=>e1 (by injection z)]
    refine iteF ⟨_,rfl,_,W[j].2.2,rfl,?_,e3,e4,e5,wp,_,_,rfl,rfl,hw4,room,fun H5 c5=>gn (fin ?_)⟩
    ·obtain ⟨v,r',ev,h1,_⟩:=fV_dens (K:=K) (H:=H4) (ds:=[W[j].2.2]) (by rw [List.all_cons,e6];rfl)
     injection ev with ev _
     rw [ev];exact h1
    ·rw [←e2];exact c5
  ·intro σ H3
   refine Elim.go ?_
   rintro x3 x4 rfl s3 hp3 hw3
   rw [List.take_length] at hw3
   have q1:SqK true K H3 qp ((W.map (·.1)).map V.str):=hq2 _
   have q2:SqK true K H3 p2 ((W.map (·.2.2)).map fV):=SqT.of hp3
   exact ⟨⟨_,_,q1,q2, .inl (by rw [List.length_map,List.length_map];exact Nat.le_refl _)⟩,nx _ _ ⟨x3,x4,rfl,s3,hw3⟩⟩
 intro σ H2
 refine Elim.go ?_
 rintro x3 x4 rfl s2 hw2
 have hN:∀t,plc r=some t→Nam (L t):=fun t h=>(hL t h).1
 refine ⟨rfl,_,rfl,_,wp,_,rfl,rfl,SqL.of hw2,?_,?_⟩
 ·have h1:=sum_len (m:=8) (xs:=wds L r) fun x hx=>(wds_wd ok hN x hx).2.1
  have h2:=wds_len L r
  rw [zs_wds, ←hW] at h1 h2
  show _+_*1≤_
  omega
 ·rw [show kindS r :: W.map (·.2.1)=wds L r by rw [zs_wds,hW],show (Str.ofString " ")=sBl by decide +kernel]
  exact q _ s2
end
end Z
namespace Z
open PySem L2 PyProof.Rows
theorem more_nodup {α:Type} [DecidableEq α] {D:List α} {k : α} (h:D.Nodup):(oneMore D k).Nodup:=by
 unfold oneMore
 split
 ·exact h
 ·rename_i hk
  refine List.nodup_append.mpr ⟨h,List.nodup_cons.mpr ⟨by simp,List.nodup_nil⟩,fun a ha b hb e=>hk ?_⟩
  rw [←List.mem_singleton.mp hb, ←e];exact ha
theorem more_mem {α:Type} [DecidableEq α] {D:List α} {k x : α} : x∈oneMore D k ↔ x∈D∨x=k:=by
 unfold oneMore
 split
 ·rename_i hk
  exact ⟨.inl,fun h=>h.elim id fun z=>by rw [z];exact hk⟩
 ·rw [List.mem_append,List.mem_singleton]
theorem more_len {α:Type} [DecidableEq α] {D:List α} {k : α} : (oneMore D k).length≤D.length+1:=by
 unfold oneMore
 split
 ·omega
 ·rw [List.length_append];exact Nat.le_refl _
theorem dcomp_go {J:It} {n:Nat} {js:List Nat} {g:TG} {tc:TT} {tk tv:TE} {σ:L2.St} {D:Addr} {H1:Hp} {fin:Hp→Prop} (N:Nat) (Pv:Nat→List (Key×V)→Hp→Prop) (hD:H1 D=some (.dK [])) (h0:Pv 0 [] H1)
  (go:∀i kvs H (Nx:Hp→Prop),i<N→H D=some (.dK kvs)→kvs.length≤i→Pv i kvs H→(∀kvs' H',H' D=some (.dK kvs')→kvs'.length≤i+1→Pv (i+1) kvs' H'→Nx H') →
   J.go i H∧∀x H',J.yld i H x H'→g x (List.replicate n none++cvals σ js) H' fun σ2 H2=>tc σ2 H2 fun b H3=>
    if b=true then tk σ2 H3 fun y H4=>tv σ2 H4 fun z H5=>Ex2 fun kvs k=>H5 D=some (.dK kvs)∧y=kV k∧kvs.length<sizeLine∧Nx (upd H5 D (.dK (putK kvs k z))) else Nx H3)
  (stop:∀kvs H,H D=some (.dK kvs)→Pv N kvs H→J.stop N H∧fin H):CompD J n js g tc tk tv σ D H1 fin:=by
 refine ⟨fun i m H=>m=N-i∧i≤N∧∃kvs,H D=some (.dK kvs)∧kvs.length≤i∧Pv i kvs H,⟨N,rfl,Nat.zero_le _,[],hD,Nat.le_refl _,h0⟩,?_⟩
 intro i m H
 refine Elim.go ?_
 rintro rfl hi kvs hk hl p
 by_cases h:i<N
 ·refine .inr ?_
  obtain ⟨g1,g2⟩:=go i kvs H (fun H'=>∃m',m'<N-i∧m'=N-(i+1)∧i+1≤N∧∃kvs,H' D=some (.dK kvs)∧kvs.length≤i+1∧Pv (i+1) kvs H') h hk hl p fun kvs' H' a b c=>⟨N-(i+1),by omega,rfl,h,kvs',a,b,c⟩
  exact ⟨g1,g2⟩
 ·have:i=N:=by omega
  subst this
  exact .inl (stop kvs H hk p)
theorem jump_in (r:Rw):inD (.str (kindS r)) (([Str.ofString "jump",Str.ofString "zero"]:List Str).map PyData.str)=(plc r).isSome:=by
 rw [inD_strs]
 cases r <;> rfl
theorem last_at {r:Rw} {t:Nat} (h:plc r=some t):atI (r.ds.map fV) (-1)=some (.int (t:Nat)):=by
 cases r with
 | jump u=>cases h;rfl
 | zero p u=>cases h;rfl
 | set p q=>cases h
 | add p q=>cases h
 | take p q=>cases h
 | tell p=>cases h
 | ask p=>cases h
 | stop=>cases h
theorem kind_wd (r:Rw):Wd (kindS r):=by
 have h:kinds8.all (fun x=>decide (1≤x.length)&&decide (x.length≤8)&&x.cps.toList.all fun c=>(decide (48≤c)&&decide (c≤57))||(decide (97≤c)&&decide (c≤122)))=true:=by decide +kernel
 exact wdB (List.all_eq_true.mp h _ (kind_in r))
noncomputable def LbD (rows:List Rw) (kvs:List (Key×V)):Prop:=∀k:Nat,valV kvs (.inl (k:Nat))=if k∈gls rows then some (.str (Lg rows k)) else none
theorem LbD.opt {rows:List Rw} {kvs:List (Key×V)} (h:LbD rows kvs) (k:Nat):valV kvs (.inl (k:Nat))=(if k∈gls rows then some (Lg rows k) else none:Option Str).map V.str:=by
 rw [h k]
 split <;> rfl
theorem lbAt_txt (rows:List Rw) (k:Nat):(lbAt rows k).map (lnT (Lg rows))=(if k∈gls rows then some (Lg rows k) else none:Option Str).toList.map fun x=>x++sCo:=by
 unfold lbAt
 split <;> rfl
theorem wpT_len {rows:List Rw} {n:Nat} (hn:n≤200) (hl:rows.length=n) (ok:∀r∈rows,r.ok n):(((lnsOf rows).map (lnT (Lg rows))).map (·.length)).sum+((lnsOf rows).map (lnT (Lg rows))).length*1≤16777216:=by
 have h1:=sum_len (m:=27) (xs:=(lnsOf rows).map (lnT (Lg rows))) fun x hx=>by
  obtain ⟨l,hl',rfl⟩:=List.mem_map.mp hx
  exact ln_len (lns_ok hn ok _ (Nat.le_refl _) l hl')
 have h2:(lnsOf rows).length≤401:=by
  unfold lnsOf
  rw [List.length_append]
  have h1:=lnsTo_len rows rows.length
  have h2:=lbAt_len rows rows.length
  omega
 rw [List.length_map] at h1 ⊢
 omega
noncomputable def spWpr (K:PySem.W.Frag):Sp:=fun vs H Q _=>Ex4 fun (p:Addr) (us:List V) (rows:List Rw) (n:Nat)=>vs=[.ref p]∧H p=some (.lst us)∧Tups H rows us∧n≤200∧rows.length=n∧(∀r∈rows,r.ok n) ∧
 ∀H',Same H H'→Q (.str (wpT rows)) H'
section
variable {P:Program} {w:World} {K:PySem.W.Frag} {mg:Str→Option Value} {base:Heap} {f:Addr} {fd:FuncData} {aS aR aP aJ:Addr} {t1:Tok}
theorem sc_written_program:FnScope ["program", "goals", "labels", "rows", "at", "row"] ["program"] (defScope (top i_written_program)):=⟨rfl,rfl,rfl,by decide +kernel,rfl,by decide +kernel,by decide +kernel⟩
theorem ok_wpr (F:Fun K "written_program" "written_program" (top i_written_program) f fd) (T:Nm mg) (n_sorted:mg "sorted" = none) (C:Cs83 K w mg aS aR aP aJ) (f_label_name:Fn P w K mg base 1 "label_name" ["at"] spLnm) (f_label_rows:Fn P w K mg base 1 "label_rows" ["labels", "place"] spLrw) (f_row_text:Fn P w K mg base 1 "row_text" ["row", "labels"] (spRtx K)):FnOk P w K mg base CX0 2 f fd ["program"] (spWpr K):=by
 refine F.ok sc_written_program (fun vs H Q E h => ?_) (fun cdv A outer s H vs Q E hr h => ?_)
 ·obtain ⟨p,us,rows,n,rfl,_⟩:=h
  rfl
 obtain ⟨p,us,rows,n,rfl,hp,tu,hn,hl,ok,q⟩:=h
 have hu:=hu_of hr
 have hu6:=hr.units
 have hu66:=hu66_of hr
 have g_JUMPS:=C.g_JUMPS
 have small:∀{n:Nat},n≤10000→n<sizeLine:=fun h=>Nat.lt_of_le_of_lt h (by decide)
 refine ⟨_,(pss_cons (ps_set (i:=1) sc_written_program.nd rfl (Or.inl rfl) (pe_callB (sortedSet rfl) rfl n_sorted (by rfl) (pa_cons (pe_scomp (intV P w) rfl (comp_ok (Nc:=["row"]) (Fc:=[]) (js:=[])) (piK K (pv 0)) (gk_name (i:=0) (n:=1) (by decide)) (fun _ _ _ _ _=>(pg_name (i:=0) (ndS ["row"]) rfl (Or.inl rfl))) (fun _ _ _ _ _=>(pts_one (pt_cmpR (inDK K hu66) (pe_ix (ixK K) (pv 0) pe_int (fun _ _=>rfl)) (pe_gref rfl g_JUMPS) (by with_unfolding_all rfl)))) (fun _ _ _ _ _=>(pe_ix (ixK K) (pv 0) (pe_un un_neg pe_int) (fun _ _=>rfl)))) pa_nil)))
  (pss_cons (ps_setdcomp (i:=2) sc_written_program.nd rfl (Or.inl rfl) rfl (comp_ok (Nc:=["at", "place"]) (Fc:=[]) (js:=[])) (enumK K rfl T.n_enumerate (pa_cons (pv 1) pa_nil)) (gk_tup (gks_cons (gk_name (i:=0) (n:=2) (by decide)) (gks_cons (gk_name (i:=1) (n:=2) (by decide)) gks_nil gm_name gms_nil) gm_name (gms_cons gm_name gms_nil))) (fun _ _ _ _ _=>(tupK K 2 rfl (pgs_cons (pg_name (i:=0) (ndS ["at", "place"]) rfl (Or.inl rfl)) (pgs_cons (pg_name (i:=1) (ndS ["at", "place"]) rfl (Or.inl rfl)) pgs_nil)))) (fun _ _ _ _ _=>pts_nil) (fun _ _ _ _ _=>(pv 1)) (fun _ _ _ _ _=>(pe_fn (f_label_name.mono (by decide)) hr rfl (pa_cons (pv 0) pa_nil))))
  (pss_cons (ps_set (i:=3) sc_written_program.nd rfl (Or.inl rfl) (lstN pa_nil))
  (pss_cons (ps_for PassesOwn.never rfl (enumK K rfl T.n_enumerate (pa_cons (pv 0) pa_nil)) (tupK K 2 rfl (pgs_cons (pg_name (i:=4) sc_written_program.nd rfl (Or.inl rfl)) (pgs_cons (pg_name (i:=5) sc_written_program.nd rfl (Or.inl rfl)) pgs_nil))) (pss_cons (ps_expr (bmK K PySem.F.plainAttrs_list PySem.F.slot_list_extend PySem.F.type_list_extend extendN (pv 3) (pa_cons (pe_fn (f_label_rows.mono (by decide)) hr rfl (pa_cons (pv 2) (pa_cons (pv 4) pa_nil))) pa_nil)))
  (pss_one (ps_expr (bmK K PySem.F.plainAttrs_list PySem.F.slot_list_append PySem.F.type_list_append appendN (pv 3) (pa_cons (pe_fn (f_row_text.mono (by decide)) hr rfl (pa_cons (pv 5) (pa_cons (pv 2) pa_nil))) pa_nil))))))
  (pss_cons (ps_expr (bmK K PySem.F.plainAttrs_list PySem.F.slot_list_extend PySem.F.type_list_extend extendN (pv 3) (pa_cons (pe_fn (f_label_rows.mono (by decide)) hr rfl (pa_cons (pv 2) (pa_cons (pe_callB (lenK K) rfl T.n_len (by rfl) (pa_cons (pv 0) pa_nil)) pa_nil))) pa_nil)))
  (pss_one (ps_ret (bmK K PySem.F.plainAttrs_str PySem.F.slot_str_join PySem.F.type_str_join (joinK K) pe_str (pa_cons (pv 3) pa_nil))))))))),?_⟩
 have gin:∀{r:Rw},r∈rows→∀{t:Nat},plc r=some t→t∈gls rows:=fun hr _ ht=>gls_in hn ok (plcs_in hr ht)
 have rat:∀{i:Nat} (hi:i<rows.length),∃rp:Addr,us[i]? = some (.ref rp)∧H rp=some (.tup (rows[i].ds.map fV)):=fun hi=>tu.2 _ _ (List.getElem?_eq_getElem hi)
 refine ⟨_,rfl,p,rfl,⟨_,SqL.of hp⟩,fun S hS => ?_⟩
 refine scomp_go (N:=rows.length) (fun i H'=>∃D':List Int,H'=upd H S (setK (intV P w) S D')∧D'.Nodup∧D'.length≤i∧∀x,x∈D' ↔ ∃t:Nat,t∈plcs (rows.take i)∧(t:Int)=x) ⟨[],rfl,List.nodup_nil,Nat.le_refl _,fun n=>⟨(fun h=>nomatch h),(fun ⟨_,h,_⟩=>nomatch h)⟩⟩ ?_ ?_
 ·rintro i H2 Nx hi ⟨D',rfl,nd,hle,hm⟩ nx
  have sm:Same H (upd H S (setK (intV P w) S D')):=same_new hS _
  obtain ⟨rp,h1,h2⟩:=rat hi
  refine ⟨⟨_,_,SqL.of (sm _ _ hp),h1⟩,?_⟩
  rintro x H3 ⟨rfl,hy⟩
  have e:=hy _ (SqL.of (sm _ _ hp))
  rw [h1] at e;cases e
  have hr2:=sm _ _ h2
  have ept:plcs (rows.take (i+1))=plcs (rows.take i)++plcs [rows[i]]:=by rw [take_next hi];exact List.filterMap_append
  refine ⟨_,rfl, .inr (.inl ⟨rp,_,0,_,rfl,rfl,SqT.of hr2,kind_at _,aJ,_, .str (kindS rows[i]),([Str.ofString "jump",Str.ofString "zero"]:List Str).map PyData.str,rfl, .inr (C.sJ _),(by unfold Den;rfl),Den.strs _,?_,sh_strs _ (by decide +kernel),_,rfl,?_⟩)⟩
  ·exact lay_wd (kind_wd _)
  rw [if_neg (show ¬(false=true) from fun z=>nomatch z),jump_in]
  cases hpl:plc rows[i] with
  | none=>
   rw [if_neg (show ¬((none:Option Nat).isSome=true) from fun z=>nomatch z)]
   refine nx _ ⟨D',rfl,nd,by omega,fun x => ?_⟩
   rw [hm,ept,show plcs [rows[i]]=[] by unfold plcs;rw [List.filterMap_cons,hpl];rfl,List.append_nil]
  | some t=>
   rw [if_pos (show ((some t).isSome=true) from rfl)]
   refine ⟨_,rfl,_,rfl, .inr (.inl ⟨rp,_,_,_,rfl,rfl,SqT.of hr2,last_at hpl,D',((t:Nat):Int),upd_same,rfl,by omega,nx _ ⟨oneMore D' ((t:Nat):Int),upd_upd,more_nodup nd,Nat.le_trans more_len (by omega),fun x => ?_⟩⟩)⟩
   rw [more_mem,hm,ept,show plcs [rows[i]]=[t] by unfold plcs;rw [List.filterMap_cons,hpl];rfl]
   constructor
   ·rintro (⟨u,hu,e⟩|rfl)
    ·exact ⟨u,List.mem_append_left _ hu,e⟩
    ·exact ⟨t,List.mem_append_right _ (List.mem_singleton.mpr rfl),rfl⟩
   ·rintro ⟨u,hu,e⟩
    rcases List.mem_append.mp hu with hu|hu
    ·exact .inl ⟨u,hu,e⟩
    ·rw [List.mem_singleton.mp hu] at e
     exact .inr e.symm
 rintro H2 ⟨D',rfl,nd,hle,hm⟩
 have sm:Same H (upd H S (setK (intV P w) S D')):=same_new hS _
 refine ⟨⟨_,SqL.of (sm _ _ hp),by rw [tu.1];exact Nat.le_refl _⟩,S,D',rfl,upd_same,nd,by omega,fun ms gp H3 pm so n3=>gn ?_⟩
 rw [List.take_length] at hm
 rw [gls_uni hn ok nd hm pm so] at n3
 have s3:=sm.trans n3.same
 have hg3:=n3.at
 have hp3:=s3 _ _ hp
 have tu3:=tu.tp (TP.same s3)
 have gl:=gls_len rows
 have gnd:=gls_nodup rows
 have gat:∀{i:Nat} (hi:i<(gls rows).length),(((gls rows).map fun t:Nat=>(t:Int)).map V.int)[i]? = some (.int ((gls rows)[i]:Nat)):=fun hi=>by rw [List.getElem?_map,List.getElem?_map,List.getElem?_eq_getElem hi];rfl
 dsimp only
 refine asgCut (te:=tDComp _ _ _ _ _ _ _) (fun v H'=>Ex2 fun (D:Addr) (kvs:List (Key×V))=>v = .ref D∧Same H3 H'∧H' D=some (.dK kvs)∧LbD rows kvs) (fun Qn qn => ?_) ?_
 ·refine ⟨_,rfl,gp,rfl,⟨_,SqL.of hg3⟩,fun D hD => ?_⟩
  refine dcomp_go (N:=(gls rows).length) (fun j kvs H'=>(∀a v,a≠D→H3 a=some v→H' a=some v)∧∀k:Nat,valV kvs (.inl (k:Nat))=if k∈(gls rows).take j then some (.str (Lg rows k)) else none) upd_same ⟨fun a v h e=>by rw [upd_ne h];exact e,fun k=>rfl⟩ ?_ ?_
  ·rintro j kvs H4 Nx hj hD4 hkl ⟨k4,hv⟩ nx
   have hgD:gp≠D:=fun z=>by rw [z,hD] at hg3;cases hg3
   have hg4:=k4 _ _ hgD hg3
   refine ⟨⟨_,_,SqL.of hg4,gat hj⟩,?_⟩
   rintro y H5 ⟨T',rfl,hT,hy⟩
   have e:=hy _ _ (SqL.of hg4) (gat hj)
   have n5:New H4 T' (.tup [.int j, .int ((gls rows)[j]:Nat)]) H5:=⟨hT,e⟩
   refine ⟨T',_,rfl,SqT.of n5.at,rfl,_,_,rfl,_,_,rfl,rfl,?_⟩
   refine ⟨_,rfl,_,rfl,j,rfl,by omega,kvs, .inl ((gls rows)[j]:Nat),n5.same _ _ hD4,rfl,small (by omega),nx _ _ upd_same ?_ ⟨fun a v h e => ?_,fun k => ?_⟩⟩
   ·exact Nat.le_trans (length_putK _ _ _) (by omega)
   ·rw [upd_ne h];exact n5.same _ _ (k4 a v h e)
   ·rw [valV_put,hv,take_next hj]
    have eL:Lg rows (gls rows)[j]=lab j:=by unfold Lg;rw [List.Nodup.idxOf_getElem gnd]
    by_cases ek:k=(gls rows)[j]
    ·rw [if_pos (by rw [ek]),if_pos (by rw [ek];exact List.mem_append_right _ (List.mem_singleton.mpr rfl)),ek,eL]
    ·rw [if_neg (fun z=>ek (by injection z with z;omega))]
     have:k∈(gls rows).take j++[(gls rows)[j]] ↔ k∈(gls rows).take j:=by
      rw [List.mem_append,List.mem_singleton]
      exact ⟨fun h=>h.resolve_right ek, .inl⟩
     simp only [this]
  ·rintro kvs H4 hD4 ⟨k4,hv⟩
   have hgD:gp≠D:=fun z=>by rw [z,hD] at hg3;cases hg3
   rw [List.take_length] at hv
   refine ⟨⟨_,SqL.of (k4 _ _ hgD hg3),by rw [List.length_map,List.length_map];exact Nat.le_refl _⟩,qn _ _ ⟨D,kvs,rfl,fun a v e => ?_,hD4,hv⟩⟩
   exact k4 a v (ne_of_none e hD) e
 intro v H4
 refine Elim.go ?_
 rintro D kvs rfl s4 hD4 lbd
 refine gn ⟨by show 0≤sizeLine;decide,fun rl H5 n5=>gn ?_⟩
 have hp4:=s4 _ _ hp3
 have tu4:=tu3.tp (TP.same s4)
 have rat4:∀{i:Nat} (hi:i<rows.length),∃rp:Addr,us[i]? = some (.ref rp)∧H4 rp=some (.tup (rows[i].ds.map fV)):=fun hi=>tu4.2 _ _ (List.getElem?_eq_getElem hi)
 have olb:∀k x,(if k∈gls rows then some (Lg rows k) else none:Option Str)=some x→x.length≤100:=fun k x e=>by
  split at e
  case isTrue h=>cases e;have:=(Lg_nam h).hi;omega
  case isFalse h=>cases e
 dsimp only
 refine seqCut (t:=tFor _ _ _) (fun σ H'=>Ex2 fun (x4 x5:Option V) => σ=[some (.ref p),some (.ref gp),some (.ref D),some (.ref rl),x4,x5]∧Same H4 H'∧H' rl=some (.lst (((lnsTo rows rows.length).map (lnT (Lg rows))).map V.str))) (fun Nx nx => ?_) ?_
 ·refine ⟨_,rfl,p,rfl,⟨_,SqL.of (n5.same _ _ hp4)⟩,?_⟩
  refine for_go (N:=rows.length) (fun i σ H'=>Ex2 fun (x4 x5:Option V) => σ=[some (.ref p),some (.ref gp),some (.ref D),some (.ref rl),x4,x5]∧Same H4 H'∧H' rl=some (.lst (((lnsTo rows i).map (lnT (Lg rows))).map V.str))) ⟨_,_,rfl,n5.same,n5.at⟩ ?_ ?_
  ·intro i σ H6 hi
   refine Elim.go ?_
   rintro x4 x5 rfl s6 hr6
   obtain ⟨rp,h1,h2⟩:=rat4 hi
   refine ⟨⟨_,_,SqL.of (s6 _ _ hp4),h1⟩,?_⟩
   rintro y H7 ⟨T',rfl,hT,hy⟩
   have e:=hy _ _ (SqL.of (s6 _ _ hp4)) h1
   have n7:New H6 T' (.tup [.int i, .ref rp]) H7:=⟨hT,e⟩
   have s7:=s6.trans n7.same
   have hr7:=n7.same _ _ hr6
   have ll:=lnsTo_len rows i
   have l1:=lbAt_len rows i
   refine ⟨T',_,rfl,SqT.of n7.at,rfl,_,_,rfl,_,_,rfl,rfl,?_⟩
   refine ⟨_,rfl, .inl ⟨rfl,_,SqL.of hr7⟩,_,rfl,_,rfl,D,i,kvs,_,rfl,s7 _ _ hD4,lbd.opt i,olb i,fun lp H8 n8 => ?_⟩
   rw [←lbAt_txt] at n8
   refine ⟨rl,lp,_,_,rfl,rfl,n8.same _ _ hr7,n8.at,?_,fun H9 c9=>gn ?_⟩
   ·simp only [List.length_map];exact Nat.le_of_lt (small (by omega))
   have s8:=s7.trans n8.same
   have s9:Same H4 H9:=fun b o e=>by rw [c9.ne (ne_of_none e n5.nn)];exact s8 b o e
   have hr9:=c9.at
   rw [←List.map_append, ←List.map_append] at hr9
   refine ⟨_,rfl, .inl ⟨rfl,_,SqL.of hr9⟩,_,rfl,_,rfl,rp,D,Lg rows,n,rows[i],kvs,rfl,s9 _ _ h2,s9 _ _ hD4,ok _ (List.getElem_mem hi),fun t ht => ?_,fun H10 s10 => ?_⟩
   ·have:=gin (List.getElem_mem hi) ht
    exact ⟨Lg_nam this,by rw [lbd t,if_pos this]⟩
   refine ⟨rl,_,_,rfl,rfl,s10 _ _ hr9,?_,fun H11 c11=>gn ⟨_,_,rfl,fun b o e => ?_,?_⟩⟩
   ·simp only [List.length_map,List.length_append];exact small (by omega)
   ·rw [c11.ne (ne_of_none e n5.nn)];exact (s9.trans s10) b o e
   ·rw [c11.at,lnsTo,List.getD_eq_getElem?_getD,List.getElem?_eq_getElem hi]
    simp only [List.map_append,List.map_cons,List.map_nil]
    rfl
  ·intro σ H6
   refine Elim.go ?_
   rintro x4 x5 rfl s6 hr6
   exact ⟨⟨_,SqL.of (s6 _ _ hp4),by rw [tu.1];exact Nat.le_refl _⟩,nx _ _ ⟨x4,x5,rfl,s6,hr6⟩⟩
 intro σ H6
 refine Elim.go ?_
 rintro x4 x5 rfl s6 hr6
 have ll:=lnsTo_len rows rows.length
 have l1:=lbAt_len rows rows.length
 refine ⟨_,rfl, .inl ⟨rfl,_,SqL.of hr6⟩,_,rfl,_,rfl,_,_,rfl, .inl ⟨_,SqL.of (s6 _ _ hp4),rfl⟩,D,_,kvs,_,rfl,s6 _ _ hD4,by rw [tu.1];exact lbd.opt rows.length,olb _,fun lp H8 n8 => ?_⟩
 rw [←lbAt_txt] at n8
 refine ⟨rl,lp,_,_,rfl,rfl,n8.same _ _ hr6,n8.at,?_,fun H9 c9 => ?_⟩
 ·simp only [List.length_map];exact Nat.le_of_lt (small (by omega))
 have s8:=s6.trans n8.same
 have s9:Same H4 H9:=fun b o e=>by rw [c9.ne (ne_of_none e n5.nn)];exact s8 b o e
 have hr9:=c9.at
 rw [←List.map_append, ←List.map_append] at hr9
 refine ⟨rfl,_,rfl,_,rl,_,rfl,rfl,SqL.of hr9,wpT_len hn hl ok,?_⟩
 rw [show (Str.ofString "\n")=sNl by decide +kernel]
 exact q _ (s3.trans (s4.trans s9))
end
end Z
namespace Z
open PySem L2 PyProof.Rows
noncomputable def ds2 (L:Nat→Str):Rw→List PyData
 | .jump t=>[.str "jump", .str (L t)]
 | .zero p t=>[.str "zero", .str (sp p), .str (L t)]
 | r=>r.ds
theorem wd_gd {x:Str} (h:Wd x):Gd 300 0 (.str x):=Gd.str (by
 unfold Asz
 rw [Array.all_eq_true_iff_forall_mem]
 intro c hc
 have:=h.2.2 c (by simpa using hc)
 simp
 omega) (by have:=h.2.1;omega)
theorem ds2_gs {L:Nat→Str} {n:Nat} {r:Rw} (h:r.ok n) (hL:∀t,plc r=some t→Nam (L t)):Gs 903 0 (ds2 L r):=by
 have k:Gd 300 0 (.str (kindS r)):=wd_gd (kind_wd r)
 have s:∀p,Gd 300 0 (.str (sp p)):=fun p=>wd_gd (sp_wd p)
 have o:∀{d:PyData},Gd 300 0 d→Gs 301 0 [d]:=fun h=>Gs.one h
 cases r with
 | set p m=>exact (Gs.cons k (Gs.cons (s p) (o (Gd.int (by have:=h.2;exact Nat.lt_of_lt_of_le (show m.natAbs<1000 by omega) (by decide)) (by decide))))).mono (by decide) (Nat.le_refl _)
 | add p q=>exact (Gs.cons k (Gs.cons (s p) (o (s q)))).mono (by decide) (Nat.le_refl _)
 | take p q=>exact (Gs.cons k (Gs.cons (s p) (o (s q)))).mono (by decide) (Nat.le_refl _)
 | tell p=>exact (Gs.cons k (o (s p))).mono (by decide) (Nat.le_refl _)
 | ask p=>exact (Gs.cons k (o (s p))).mono (by decide) (Nat.le_refl _)
 | jump t=>exact (Gs.cons k (o (wd_gd (hL t rfl).wd))).mono (by decide) (Nat.le_refl _)
 | zero p t=>exact (Gs.cons k (Gs.cons (s p) (o (wd_gd (hL t rfl).wd)))).mono (by decide) (Nat.le_refl _)
 | stop=>exact (o k).mono (by decide) (Nat.le_refl _)
theorem ds2_wds {L:Nat→Str} {n:Nat} {r:Rw} (h:r.ok n):(ds2 L r).map strD=wds L r:=by
 cases r with
 | set p m=>
  show [_,_,strD (.int m)]=[_,_,numT m.toNat]
  unfold numT
  rw [show ((m.toNat:Nat):Int)=m by have:=h.2;omega,int_shown]
  rfl
 | add p q=>rfl
 | take p q=>rfl
 | tell p=>rfl
 | ask p=>rfl
 | jump t=>rfl
 | zero p t=>rfl
 | stop=>rfl
theorem ds2_flat (L:Nat→Str) (r:Rw):(ds2 L r).all flatD=true:=by cases r <;> rfl
theorem ds2_end (L:Nat→Str) (r:Rw):PyData.eqv (.tuple (ds2 L r)) (.tuple [.str "end"])=false:=by
 have h:∀k:Str,k ≠ "end" → ∀ds,PyData.eqv (.tuple (.str k :: ds)) (.tuple [.str "end"])=false:=fun k hk ds=>by
  have:(k == Str.ofString "end")=false:=by simpa using hk
  simp [PyData.eqv,PyData.eqvAll,this]
 cases r <;> exact h _ (by decide) _
theorem ds2_none {L:Nat→Str} {r:Rw} (h:plc r=none):ds2 L r=r.ds:=by
 cases r with
 | jump t=>cases h
 | zero p t=>cases h
 | set p q=>rfl
 | add p q=>rfl
 | take p q=>rfl
 | tell p=>rfl
 | ask p=>rfl
 | stop=>rfl
theorem ds2_some {L:Nat→Str} {r:Rw} {t:Nat} (h:plc r=some t):cutV (r.ds.map fV) none (some (-1))++[.str (L t)]=(ds2 L r).map fV:=by
 cases r with
 | jump u=>cases h;rfl
 | zero p u=>cases h;rfl
 | set p q=>cases h
 | add p q=>cases h
 | take p q=>cases h
 | tell p=>cases h
 | ask p=>cases h
 | stop=>cases h
theorem ds2_cut {r:Rw} {t:Nat} (h:plc r=some t):¬(HT.sIx (r.ds.map fV).length 0 none=0∧HT.sIx (r.ds.map fV).length (r.ds.map fV).length (some (-1))=(r.ds.map fV).length)∧cutV (r.ds.map fV) none (some (-1))≠[]∧(cutV (r.ds.map fV) none (some (-1))).length≤3:=by
 cases r with
 | jump u=>exact ⟨(by decide:¬(HT.sIx 2 0 none=0∧HT.sIx 2 2 (some (-1))=2)),(fun z=>nomatch z),by show 1≤3;decide⟩
 | zero p u=>exact ⟨(by decide:¬(HT.sIx 3 0 none=0∧HT.sIx 3 3 (some (-1))=3)),(fun z=>nomatch z),by show 2≤3;decide⟩
 | set p q=>cases h
 | add p q=>cases h
 | take p q=>cases h
 | tell p=>cases h
 | ask p=>cases h
 | stop=>cases h
theorem jump_inV (r:Rw):inV (.str (kindS r)) [.str "jump", .str "zero"]=(plc r).isSome:=by cases r <;> rfl
theorem met_nd {α:Type} [DecidableEq α] {f:Nat → α} : ∀i,(metKeys f i).Nodup
 | 0=>List.nodup_nil
 | i+1=>more_nodup (met_nd i)
theorem met_iff {α:Type} [DecidableEq α] {f:Nat → α} {x : α} : ∀i,x∈metKeys f i ↔ ∃j,j<i∧f j=x
 | 0=>⟨(fun h=>nomatch h),fun ⟨j,h,_⟩=>absurd h (Nat.not_lt_zero _)⟩
 | i+1=>by
  show x∈oneMore (metKeys f i) (f i) ↔ _
  rw [more_mem,met_iff i]
  constructor
  ·rintro (⟨j,h,e⟩|rfl)
   ·exact ⟨j,by omega,e⟩
   ·exact ⟨i,by omega,rfl⟩
  ·rintro ⟨j,h,e⟩
   by_cases z:j=i
   ·exact .inr (by rw [←z,e])
   ·exact .inl ⟨j,by omega,e⟩
theorem onceI_iff {zs:List Int} {x:Int} : x∈onceI zs ↔ x∈zs:=by
 unfold onceI
 rw [met_iff]
 constructor
 ·rintro ⟨j,h,e⟩
  rw [←e,List.getD_eq_getElem?_getD,List.getElem?_eq_getElem h]
  exact List.getElem_mem h
 ·intro h
  obtain ⟨j,hj,e⟩:=List.getElem_of_mem h
  exact ⟨j,hj,by rw [List.getD_eq_getElem?_getD,List.getElem?_eq_getElem hj];exact e⟩
theorem merge_lb {L:Nat→Str} {k:Nat} : ∀(gs:List Nat) (acc:List (Key×V)),valV (mergeK acc (gs.map fun t=>((.inl (t:Nat):Key),V.str (L t)))) (.inl (k:Nat))=if k∈gs then some (.str (L k)) else valV acc (.inl (k:Nat))
 | [],acc=>rfl
 | g :: gs,acc=>by
  rw [List.map_cons]
  show valV (mergeK (putK acc (.inl (g:Nat)) (.str (L g))) (gs.map _)) _=_
  rw [merge_lb gs,valV_put]
  by_cases e:k∈gs
  ·rw [if_pos e,if_pos (List.mem_cons_of_mem _ e)]
  ·rw [if_neg e]
   by_cases e2:k=g
   ·rw [if_pos (by rw [e2]),if_pos (by rw [e2];exact List.mem_cons_self),e2]
   ·rw [if_neg (fun z=>e2 (by injection z with z;omega)),if_neg (fun z=>(List.mem_cons.mp z).elim e2 e)]
noncomputable def lnsU (rows:List Rw) (i:Nat):List Ln:=if i≤rows.length then lnsTo rows i else lnsOf rows
theorem lnsU_le {rows:List Rw} {i:Nat} (h:i≤rows.length):lnsU rows i=lnsTo rows i:=if_pos h
section
variable {P:Program} {w:World} {K:PySem.W.Frag} {mg:Str→Option Value} {base:Heap} {f:Addr} {fd:FuncData} {aS aR aP aJ:Addr} {t1:Tok}
theorem sc_law_written:FnScope ["_law_program_here", "_law_letters", "_law_goals", "_law_labels", "_law_rows", "_law_place", "_law_row"] ["_law_program_here"] (defScope (top i_law_written)):=⟨rfl,rfl,rfl,by decide +kernel,rfl,by decide +kernel,by decide +kernel⟩
theorem ok_lwr (F:Fun K "_law_written" "_law_written" (top i_law_written) f fd) (T:Nm mg) (n_sorted:mg "sorted" = none) (n_set:mg "set" = none) (n_dict:mg "dict" = none):FnOk P w K mg base CX0 1 f fd ["_law_program_here"] (spWpr K):=by
 refine F.ok sc_law_written (fun vs H Q E h => ?_) (fun cdv A outer s H vs Q E hr h => ?_)
 ·obtain ⟨p,us,rows,n,rfl,_⟩:=h
  rfl
 obtain ⟨p,us,rows,n,rfl,hp,tu,hn,hl,ok,q⟩:=h
 have hu:=hu_of hr
 have hu6:=hr.units
 have hu66:=hu66_of hr
 have small:∀{n:Nat},n≤10000→n<sizeLine:=fun h=>Nat.lt_of_le_of_lt h (by decide)
 refine ⟨_,(pss_cons (ps_set (i:=1) sc_law_written.nd rfl (Or.inr rfl) pe_str)
  (pss_cons (ps_set (i:=2) sc_law_written.nd rfl (Or.inl rfl) (pe_callB (sortedSet rfl) rfl n_sorted (by rfl) (pa_cons (pe_callTy (call_setI rfl) rfl n_set (by rfl) (pa_cons (pe_lcomp rfl (comp_ok (Nc:=["_law_row"]) (Fc:=[]) (js:=[])) (piK K (pv 0)) (gk_name (i:=0) (n:=1) (by decide)) (fun _ _ _ _ _=>(pg_name (i:=0) (ndS ["_law_row"]) rfl (Or.inl rfl))) (fun _ _ _ _ _=>(pts_one (pt_cmpR (inK K) (pe_ix (ixK K) (pv 0) pe_int (fun _ _=>rfl)) (tupN (pa_cons pe_str (pa_cons pe_str pa_nil))) (by with_unfolding_all rfl)))) (fun _ _ _ _ _=>(pe_ix (ixK K) (pv 0) (pe_un un_neg pe_int) (fun _ _=>rfl)))) pa_nil)) pa_nil)))
  (pss_cons (ps_set (i:=3) sc_law_written.nd rfl (Or.inl rfl) (pe_callTy (dictP K rfl) rfl n_dict (by rfl) (pa_cons (pe_lcomp rfl (comp_ok (Nc:=["_law_k", "_law_place"]) (Fc:=["_law_letters"]) (js:=[1])) (enumK K rfl T.n_enumerate (pa_cons (pv 2) pa_nil)) (gk_tup (gks_cons (gk_name (i:=0) (n:=2) (by decide)) (gks_cons (gk_name (i:=1) (n:=2) (by decide)) gks_nil gm_name gms_nil) gm_name (gms_cons gm_name gms_nil))) (fun _ _ _ _ _=>(tupK K 2 rfl (pgs_cons (pg_name (i:=0) (ndS ["_law_k", "_law_place", "_law_letters"]) rfl (Or.inl rfl)) (pgs_cons (pg_name (i:=1) (ndS ["_law_k", "_law_place", "_law_letters"]) rfl (Or.inl rfl)) pgs_nil)))) (fun _ _ _ _ _=>pts_nil) (fun _ _ _ _ _=>(tupN (pa_cons (pv 1) (pa_cons (pe_op addN (pe_op addN pe_str (pe_ix (ixK K) (pv 2) (pe_op op_fdiv (pv 0) pe_int) (fun _ _=>rfl))) (pe_ix (ixK K) (pv 2) (pe_op op_mod (pv 0) pe_int) (fun _ _=>rfl))) pa_nil))))) pa_nil)))
  (pss_cons (ps_set (i:=4) sc_law_written.nd rfl (Or.inl rfl) (lstN pa_nil))
  (pss_cons (ps_for PassesOwn.never rfl (enumK K rfl T.n_enumerate (pa_cons (pe_op addN (pv 0) (lstN (pa_cons (tupN (pa_cons pe_str pa_nil)) pa_nil))) pa_nil)) (tupK K 2 rfl (pgs_cons (pg_name (i:=5) sc_law_written.nd rfl (Or.inl rfl)) (pgs_cons (pg_name (i:=6) sc_law_written.nd rfl (Or.inl rfl)) pgs_nil))) (pss_cons (ps_if (pt_cmp (pc_din hu (pv 5) (pv 3))) (pss_one (ps_expr (bmK K PySem.F.plainAttrs_list PySem.F.slot_list_append PySem.F.type_list_append appendN (pv 4) (pa_cons (pe_op addN (pe_dget hu (pv 3) (pv 5) (fun _ _=>rfl)) pe_str) pa_nil)))) pss_nil)
  (pss_cons (ps_if (pt_cmpR (inK K) (pe_ix (ixK K) (pv 6) pe_int (fun _ _=>rfl)) (tupN (pa_cons pe_str (pa_cons pe_str pa_nil))) (by with_unfolding_all rfl)) (pss_one (ps_set (i:=6) sc_law_written.nd rfl (Or.inl rfl) (pe_op (addT K) (pe_slice (slTN K) (pv 6) po_none (po_some (pe_un un_neg pe_int))) (tupN (pa_cons (pe_dget hu (pv 3) (pe_ix (ixK K) (pv 6) (pe_un un_neg pe_int) (fun _ _=>rfl)) (fun _ _=>rfl)) pa_nil))))) pss_nil)
  (pss_one (ps_if (pt_cmpR (neK K hu6) (pv 6) (tupN (pa_cons pe_str pa_nil)) (nomark _)) (pss_one (ps_expr (bmK K PySem.F.plainAttrs_list PySem.F.slot_list_append PySem.F.type_list_append appendN (pv 4) (pa_cons (bmK K PySem.F.plainAttrs_str PySem.F.slot_str_join PySem.F.type_str_join (joinK K) pe_str (pa_cons (pe_lcomp rfl (comp_ok (Nc:=["_law_part"]) (Fc:=[]) (js:=[])) (pi_tupK K (pv 6)) (gk_name (i:=0) (n:=1) (by decide)) (fun _ _ _ _ _=>(pg_name (i:=0) (ndS ["_law_part"]) rfl (Or.inl rfl))) (fun _ _ _ _ _=>pts_nil) (fun _ _ _ _ _=>(pe_callTy (strK K hr.gd hu6) rfl T.n_str (by rfl) (pa_cons (pv 0) pa_nil)))) pa_nil)) pa_nil)))) pss_nil)))))
  (pss_one (ps_ret (bmK K PySem.F.plainAttrs_str PySem.F.slot_str_join PySem.F.type_str_join (joinK K) pe_str (pa_cons (pv 4) pa_nil))))))))),?_⟩
 dsimp only [tNext]
 have rat:∀{i:Nat} (hi:i<rows.length),∃rp:Addr,us[i]? = some (.ref rp)∧H rp=some (.tup (rows[i].ds.map fV)):=fun hi=>tu.2 _ _ (List.getElem?_eq_getElem hi)
 have gin:∀{r:Rw},r∈rows→∀{t:Nat},plc r=some t→t∈gls rows:=fun hr _ ht=>gls_in hn ok (plcs_in hr ht)
 refine asgCut (te:=tC _) (fun v H'=>v = .str sSmall∧H=H') (fun Qn qn=>qn _ _ ⟨rfl,rfl⟩) ?_
 rintro _ _ ⟨rfl,rfl⟩
 refine gn ?_
 refine asgCut (te:=tCB _ _) (fun v H'=>∃gp,v = .ref gp∧Same H H'∧H' gp=some (.lst (((gls rows).map fun t:Nat=>(t:Int)).map V.int))) (fun Qn qn => ?_) ?_
 ·refine ⟨_,rfl,p,rfl,⟨_,SqL.of hp⟩,?_⟩
  refine comp_go (N:=rows.length) (fun j ys H'=>Same H H'∧ys=((plcs (rows.take j)).map fun t:Nat=>(t:Int)).map V.int) ⟨Same.refl _,rfl⟩ ?_ ?_
  ·rintro i ys H2 Ny hi ⟨sm,rfl⟩ ny
   obtain ⟨rp,h1,h2⟩:=rat hi
   have pll:(plcs (rows.take i)).length≤200:=by
    have:=List.length_filterMap_le plc (rows.take i)
    rw [List.length_take] at this
    unfold plcs
    omega
   refine ⟨⟨_,_,SqL.of (sm _ _ hp),h1⟩,small (by rw [List.length_map,List.length_map];omega),?_⟩
   rintro x H3 ⟨rfl,hy⟩
   have e:=hy _ (SqL.of (sm _ _ hp))
   rw [h1] at e;cases e
   have hr2:=sm _ _ h2
   have ept:plcs (rows.take (i+1))=plcs (rows.take i)++plcs [rows[i]]:=by rw [take_next hi];exact List.filterMap_append
   refine ⟨_,rfl, .inr (.inl ⟨rp,_,0,_,rfl,rfl,SqT.of hr2,kind_at _,by show 2≤sizeLine;decide,fun tp H4 n4=>⟨tp,_,rfl, .inr (SqT.of n4.at),rfl,rfl,_,rfl,?_⟩⟩)⟩
   rw [if_neg (show ¬(false=true) from fun z=>nomatch z),jump_inV]
   cases hpl:plc rows[i] with
   | none=>
    refine iteF (ny _ _ ⟨sm.trans n4.same,?_⟩)
    rw [ept,show plcs [rows[i]]=[] by unfold plcs;rw [List.filterMap_cons,hpl];rfl,List.append_nil]
   | some t=>
    refine iteT ⟨_,rfl,_,rfl, .inr (.inl ⟨rp,_,_,_,rfl,rfl,SqT.of (n4.same _ _ hr2),last_at hpl,ny _ _ ⟨sm.trans n4.same,?_⟩⟩)⟩
    rw [ept,show plcs [rows[i]]=[t] by unfold plcs;rw [List.filterMap_cons,hpl];rfl,List.map_append,List.map_append]
    rfl
  ·rintro ys H2 ⟨sm,rfl⟩
   rw [List.take_length]
   have pll:(plcs rows).length≤200:=by
    have:=List.length_filterMap_le plc rows
    unfold plcs
    omega
   refine ⟨⟨_,SqL.of (sm _ _ hp),by rw [tu.1];exact Nat.le_refl _⟩,fun lp hlp => ?_⟩
   have nl:New H2 lp (.lst (((plcs rows).map fun t:Nat=>(t:Int)).map V.int)) (upd H2 lp (.lst (((plcs rows).map fun t:Nat=>(t:Int)).map V.int))):=⟨hlp,rfl⟩
   refine ⟨lp,_,rfl,SqL.of nl.at,by rw [List.length_map];omega,fun S H3 n3=>⟨S,_,rfl,n3.at,met_nd _,?_,fun ms gp H4 pm so n4=>qn _ _ ⟨gp,rfl,sm.trans (nl.same.trans (n3.same.trans n4.same)),?_⟩⟩⟩
   ·refine Nat.le_trans (metKeys_le _ _) ?_
    rw [List.length_map];omega
   ·have:=gls_uni hn ok (met_nd _) (fun x=>by
     show x∈onceI _ ↔ _
     rw [onceI_iff,List.mem_map]) pm so
    rw [n4.at,this]
 rintro v H1 ⟨gp,rfl,s1,hg1⟩
 refine gn ?_
 have gl:=gls_len rows
 have gnd:=gls_nodup rows
 have gat:∀{i:Nat} (hi:i<(gls rows).length),(((gls rows).map fun t:Nat=>(t:Int)).map V.int)[i]? = some (.int ((gls rows)[i]:Nat)):=fun hi=>by rw [List.getElem?_map,List.getElem?_map,List.getElem?_eq_getElem hi];rfl
 have sl:sSmall.length=26:=by decide +kernel
 refine asgCut (te:=tCB _ _) (fun v H'=>Ex2 fun (D:Addr) (kvs:List (Key×V))=>v = .ref D∧Same H1 H'∧H' D=some (.dK kvs)∧LbD rows kvs) (fun Qn qn => ?_) ?_
 ·refine ⟨_,rfl,gp,rfl,⟨_,SqL.of hg1⟩,?_⟩
  refine comp_go (N:=(gls rows).length) (fun j ys H'=>Same H1 H'∧∃as:List Addr,ys=as.map V.ref∧as.length=j∧∀(i:Nat) b,as[i]? = some b→∀hi:i<(gls rows).length,H' b=some (.tup [.int ((gls rows)[i]:Nat), .str (lab i)])) ⟨Same.refl _,[],rfl,rfl,fun i b e=>nomatch e⟩ ?_ ?_
  ·rintro j ys H2 Ny hj ⟨s2,as,rfl,hal,ha⟩ ny
   refine ⟨⟨_,_,SqL.of (s2 _ _ hg1),gat hj⟩,small (by rw [List.length_map];omega),?_⟩
   rintro y H3 ⟨T',rfl,hT,hy⟩
   have e:=hy _ _ (SqL.of (s2 _ _ hg1)) (gat hj)
   have n3:New H2 T' (.tup [.int j, .int ((gls rows)[j]:Nat)]) H3:=⟨hT,e⟩
   refine ⟨T',_,rfl,SqT.of n3.at,rfl,_,_,rfl,_,_,rfl,rfl,?_⟩
   dsimp only [tYes]
   rw [if_pos rfl]
   have e1:((j:Nat):Int) / 26=((j / 26:Nat):Int):=by omega
   have e2:((j:Nat):Int) % 26=((j % 26:Nat):Int):=by omega
   refine ⟨_,rfl,_,rfl,_,rfl,_,_,rfl,rfl,⟨by decide,by decide⟩,?_⟩
   dsimp only
   rw [e1]
   refine .inr (.inr ⟨_,_,_,rfl,rfl,by rw [sl];decide,small_at (by omega), .inr (.inl ⟨_,_,rfl,rfl,by show 1+1≤sizeLine;decide,_,rfl,_,rfl,_,_,rfl,rfl,(by decide:(0:Int)<26),?_⟩)⟩)
   dsimp only
   rw [e2]
   refine .inr (.inr ⟨_,_,_,rfl,rfl,by rw [sl];decide,small_at (by omega), .inr (.inl ⟨_,_,rfl,rfl,by show 2+1≤sizeLine;decide,by show 2≤sizeLine;decide,fun tp H4 n4=>ny _ _ ⟨s2.trans (n3.same.trans n4.same),as++[tp],?_,?_,fun i b e hi => ?_⟩⟩)⟩)
   ·rw [List.map_append];rfl
   ·rw [List.length_append,hal];rfl
   ·by_cases hij:i<as.length
    ·rw [List.getElem?_append_left hij] at e
     exact n4.same _ _ (n3.same _ _ (ha i b e hi))
    ·rw [List.getElem?_append_right (by omega)] at e
     have hz:i-as.length=0:=by have:=(List.getElem?_eq_some_iff.mp e).1;simp at this;omega
     rw [hz] at e
     cases e
     have:i=j:=by omega
     subst this
     exact n4.at
  ·rintro ys H2 ⟨s2,as,rfl,hal,ha⟩
   refine ⟨⟨_,SqL.of (s2 _ _ hg1),by rw [List.length_map,List.length_map];exact Nat.le_refl _⟩,fun lp hlp => ?_⟩
   have nl:New H2 lp (.lst (as.map V.ref)) (upd H2 lp (.lst (as.map V.ref))):=⟨hlp,rfl⟩
   refine ⟨lp,as,(gls rows).map fun t=>((.inl (t:Nat):Key),V.str (Lg rows t)),rfl,SqL.of nl.at,by rw [hal,List.length_map],by rw [List.length_map];omega,fun i b kv h1 h2 => ?_,fun D H3 n3=>qn _ _ ⟨D,_,rfl,s2.trans (nl.same.trans n3.same),n3.at,fun k=>merge_lb (gls rows) []⟩⟩
   rw [List.getElem?_map] at h2
   have hi:i<(gls rows).length:=by rw [←hal];exact (List.getElem?_eq_some_iff.mp h1).1
   rw [List.getElem?_eq_getElem hi] at h2
   cases h2
   have eL:Lg rows (gls rows)[i]=lab i:=by unfold Lg;rw [List.Nodup.idxOf_getElem gnd]
   show SqT K _ b [_,V.str (Lg rows (gls rows)[i])]
   rw [eL]
   exact SqT.of (nl.same _ _ (ha i b h1 hi))
 intro v H4
 refine Elim.go ?_
 rintro D kvs rfl s4 hD4 lbd
 refine gn ⟨by show 0≤sizeLine;decide,fun rl H5 n5=>gn ?_⟩
 have s04:=s1.trans s4
 have hp4:=s04 _ _ hp
 have rat4:∀{i:Nat} (hi:i<rows.length),∃rp:Addr,us[i]? = some (.ref rp)∧H4 rp=some (.tup (rows[i].ds.map fV)):=fun hi=>by
  obtain ⟨rp,h1,h2⟩:=rat hi
  exact ⟨rp,h1,s04 _ _ h2⟩
 have ud:us.length=rows.length:=tu.1
 dsimp only
 refine seqCut (t:=tFor _ _ _) (fun σ H'=>Ex2 fun (x5 x6:Option V) => σ=[some (.ref p),some (.str sSmall),some (.ref gp),some (.ref D),some (.ref rl),x5,x6]∧Same H4 H'∧H' rl=some (.lst (((lnsOf rows).map (lnT (Lg rows))).map V.str))) (fun Nx nx => ?_) ?_
 ·refine ⟨_,rfl,by show 1≤sizeLine;decide,fun ep H6 n6=>⟨by show 1≤sizeLine;decide,fun lp H7 n7 => .inr (.inr ⟨p,lp,us,_,rfl,rfl,n7.same _ _ (n6.same _ _ (n5.same _ _ hp4)),n7.at,?_,fun pl H8 n8=>⟨pl,rfl,⟨_,SqL.of n8.at⟩,?_⟩⟩)⟩⟩
  ·show us.length+1≤sizeLine
   exact Nat.le_of_lt (small (by omega))
  have he8:=n8.same _ _ (n7.same _ _ n6.at)
  have hrl8:=n8.same _ _ (n7.same _ _ (n6.same _ _ n5.at))
  have s8:Same H5 H8:=n6.same.trans (n7.same.trans n8.same)
  have hpl8:=n8.at
  have rlpl:pl≠rl:=fun z=>by have:=n8.nn;rw [z,n7.same _ _ (n6.same _ _ n5.at)] at this;cases this
  have atU:∀{i:Nat} (hi:i<rows.length),(us++[V.ref ep])[i]? = us[i]?:=fun hi=>List.getElem?_append_left (by omega)
  have atE:(us++[V.ref ep])[rows.length]? = some (.ref ep):=by rw [List.getElem?_append_right (by omega),ud,Nat.sub_self];rfl
  refine for_go (N:=rows.length+1) (fun i σ H'=>Ex2 fun (x5 x6:Option V) => σ=[some (.ref p),some (.str sSmall),some (.ref gp),some (.ref D),some (.ref rl),x5,x6]∧Same H4 H'∧TP H8 H'∧H' pl=some (.lst (us++[.ref ep]))∧H' rl=some (.lst (((lnsU rows i).map (lnT (Lg rows))).map V.str))) ⟨_,_,rfl,n5.same.trans s8,TP.refl,hpl8,by rw [lnsU_le (Nat.zero_le _)];exact hrl8⟩ ?_ ?_
  ·intro i σ H9 hi
   refine Elim.go ?_
   rintro x5 x6 rfl s9 t9 hpl9 hr9
   rw [lnsU_le (Nat.le_of_lt_succ hi)] at hr9
   obtain ⟨rp,hrp⟩:∃rp,(us++[V.ref ep])[i]? = some (.ref rp):=by
    by_cases hi2:i<rows.length
    ·obtain ⟨rp,h1,h2⟩:=rat4 hi2
     exact ⟨rp,by rw [atU hi2];exact h1⟩
    ·exact ⟨ep,by rw [show i=rows.length by omega];exact atE⟩
   refine ⟨⟨_,_,SqL.of hpl9,hrp⟩,?_⟩
   rintro y Ha ⟨T',rfl,hT,hy⟩
   have e:=hy _ _ (SqL.of hpl9) hrp
   have na:New H9 T' (.tup [.int i, .ref rp]) Ha:=⟨hT,e⟩
   have sa:=s9.trans na.same
   have ta:=t9.trans (TP.same na.same)
   have hpla:=na.same _ _ hpl9
   have hra:=na.same _ _ hr9
   have ll:=lnsTo_len rows i
   have l1:=lbAt_len rows i
   refine ⟨T',_,rfl,SqT.of na.at,rfl,_,_,rfl,_,_,rfl,rfl,?_⟩
   rw [show (List.set (List.set ([some (V.ref p),some (.str sSmall),some (.ref gp),some (.ref D),some (.ref rl),x5,x6]:List (Option V)) 5 (some (.int (i:Nat)))) 6 (some (.ref rp)):L2.St)=[some (.ref p),some (.str sSmall),some (.ref gp),some (.ref D),some (.ref rl),some (.int (i:Nat)),some (.ref rp)] from rfl]
   refine seqCut (t:=tIfS _ _ _) (fun σ H' => σ=[some (.ref p),some (.str sSmall),some (.ref gp),some (.ref D),some (.ref rl),some (.int (i:Nat)),some (.ref rp)]∧Same H4 H'∧TP H8 H'∧H' pl=some (.lst (us++[.ref ep]))∧H' rl=some (.lst (((lnsTo rows i++lbAt rows i).map (lnT (Lg rows))).map V.str))) (fun Nx nx => ?_) ?_
   ·have g:=DGet.k (k := .inl ((i:Nat):Int)) (sa _ _ hD4)
    rw [lbd i] at g
    by_cases hg:i∈gls rows
    ·rw [if_pos hg] at g
     refine ⟨_,rfl,_,rfl,D,_,rfl,g,_,rfl,iteT ?_⟩
     refine ⟨_,rfl, .inl ⟨rfl,_,SqL.of hra⟩,_,rfl,_,rfl,D,_,rfl,g, .inr (.inl ⟨_,_,rfl,rfl,?_,rl,_,_,rfl,rfl,hra,?_,fun Hb cb=>nx _ _ ⟨rfl,fun b o e => ?_,ta.trans (TP.chg hra cb),?_,?_⟩⟩)⟩
     ·have:=(Lg_nam hg).hi
      show _+1≤sizeLine
      exact sizeOk (by omega)
     ·simp only [List.length_map];exact small (by omega)
     ·rw [cb.ne (ne_of_none e n5.nn)];exact sa b o e
     ·rw [cb.ne rlpl];exact hpla
     ·rw [cb.at,show lbAt rows i=[.lb (Lg rows i)] from if_pos hg]
      simp only [List.map_append,List.map_cons,List.map_nil]
      rfl
    ·rw [if_neg hg] at g
     refine ⟨_,rfl,_,rfl,D,_,rfl,g,_,rfl,iteF (nx _ _ ⟨rfl,sa,ta,hpla,?_⟩)⟩
     rw [show lbAt rows i=[] from if_neg hg,List.append_nil]
     exact hra
   rintro σ Hb ⟨rfl,sb,tb,hplb,hrb⟩
   by_cases hi2:i<rows.length
   ·obtain ⟨rp',h1,h2⟩:=rat4 hi2
    have:rp'=rp:=by rw [atU hi2,h1] at hrp;cases hrp;rfl
    subst this
    have hin:=List.getElem_mem hi2
    have h2b:=sb _ _ h2
    have hLn:∀t,plc rows[i]=some t→Nam (Lg rows t):=fun t ht=>Lg_nam (gin hin ht)
    refine seqCut (t:=tIfS _ _ _) (fun σ H'=>∃rq:Addr, σ=[some (.ref p),some (.str sSmall),some (.ref gp),some (.ref D),some (.ref rl),some (.int (i:Nat)),some (.ref rq)]∧H' rq=some (.tup ((ds2 (Lg rows) rows[i]).map fV))∧Same Hb H') (fun Nx nx => ?_) ?_
    ·refine ⟨_,rfl, .inr (.inl ⟨rp',_,0,_,rfl,rfl,SqT.of h2b,kind_at _,by show 2≤sizeLine;decide,fun tp Hc nc=>⟨tp,_,rfl, .inr (SqT.of nc.at),rfl,rfl,_,rfl,?_⟩⟩)⟩
     rw [if_neg (show ¬(false=true) from fun z=>nomatch z),jump_inV]
     have h2c:=nc.same _ _ h2b
     cases hpl:plc rows[i] with
     | none=>exact iteF (nx _ _ ⟨rp',rfl,by rw [ds2_none hpl];exact h2c,nc.same⟩)
     | some t=>
      obtain ⟨c1,c2,c3⟩:=ds2_cut hpl
      have hg:=gin hin hpl
      refine iteT ⟨_,rfl,_,rfl,_,rfl,rp',_,rfl,SqT.of h2c,c1,fun cp Hd nd' => ?_⟩
      have sd:=nc.same.trans nd'.same
      have g:=DGet.k (k := .inl ((t:Nat):Int)) ((sb.trans sd) _ _ hD4)
      rw [lbd t,if_pos hg] at g
      refine ⟨_,rfl,_,rfl,_,rfl, .inr (.inl ⟨rp',_,_,_,rfl,rfl,SqT.of (sd _ _ h2b),last_at hpl,D,_,rfl,g,by show 1≤sizeLine;decide,fun tq He ne=>⟨cp,tq,_,_,rfl,rfl,SqT.of (ne.same _ _ nd'.at),SqT.of ne.at,?_,c2,(fun z=>nomatch z),fun _ rq Hf nf=>gn (nx _ _ ⟨rq,rfl,?_,sd.trans (ne.same.trans nf.same)⟩)⟩⟩)⟩
      ·show _+1≤100000
       omega
      ·rw [nf.at,ds2_some hpl]
    rintro σ Hc ⟨rq,rfl,hrq,sc⟩
    have hgs:=ds2_gs (ok _ hin) hLn
    have hflat:=ds2_flat (Lg rows) rows[i]
    refine ⟨_,rfl,by show 1≤sizeLine;decide,fun te Hd nd' => .inr ⟨.tuple (ds2 (Lg rows) rows[i]), .tuple [.str "end"],?_,?_,?_,?_,_,rfl,?_⟩⟩
    ·exact dtupN (nd'.same _ _ hrq) (fV_dens hflat)
    ·exact dtupN nd'.at (fV_dens (ds:=[.str "end"]) rfl)
    ·exact hgs.tuple.shaped (by decide)
    ·exact (Gs.one (wd_gd (wdB (by decide +kernel)))).tuple.shaped (by decide)
    rw [ds2_end]
    have hrd:=nd'.same _ _ (sc _ _ hrb)
    refine iteT ⟨_,rfl, .inl ⟨rfl,_,SqL.of hrd⟩,rfl,_,rfl,rq,rfl,⟨_,SqT.of (nd'.same _ _ hrq)⟩,?_⟩
    have dat:∀{j:Nat} (hj:j<(ds2 (Lg rows) rows[i]).length),((ds2 (Lg rows) rows[i]).map fV)[j]? = some (fV (ds2 (Lg rows) rows[i])[j]):=fun hj=>by rw [List.getElem?_map,List.getElem?_eq_getElem hj];rfl
    have dl:(ds2 (Lg rows) rows[i]).length≤3:=by
     have:=wds_len (Lg rows) rows[i]
     rw [←ds2_wds (ok _ hin),List.length_map] at this
     exact this
    refine comp_go (N:=(ds2 (Lg rows) rows[i]).length) (fun j ys H'=>H'=Hd∧ys=(((ds2 (Lg rows) rows[i]).take j).map strD).map V.str) ⟨rfl,rfl⟩ ?_ ?_
    ·rintro j ys He Ny hj ⟨rfl,rfl⟩ ny
     refine ⟨⟨_,_,SqT.of (nd'.same _ _ hrq),dat hj⟩,small (by rw [List.length_map,List.length_map,List.length_take];omega),?_⟩
     rintro x Hf ⟨rfl,hy⟩
     have e:=hy _ (SqT.of (nd'.same _ _ hrq))
     rw [dat hj] at e;cases e
     dsimp only [tYes]
     refine gn ?_
     rw [if_pos rfl]
     have hm:=List.getElem_mem hj
     have gd:=hgs.at hm
     obtain ⟨z1,z2,z3⟩:=pz_shown _ gd.pz
     have zw:=gd.wt
     refine ⟨_,rfl,_,(ds2 (Lg rows) rows[i])[j],rfl,?_,z2,Nat.le_trans gd.dp (by decide),sizeOk (by omega),ny _ _ ⟨rfl,?_⟩⟩
     ·have hf:flatD (ds2 (Lg rows) rows[i])[j]=true:=List.all_eq_true.mp hflat _ hm
      obtain ⟨v,r',ev,h1,_⟩:=fV_dens (K:=K) (H:=Hf) (ds:=[(ds2 (Lg rows) rows[i])[j]]) (by rw [List.all_cons,hf];rfl)
      injection ev with ev _
      rw [ev];exact h1
     ·rw [take_next hj,List.map_append,List.map_append];rfl
    ·rintro ys He ⟨rfl,rfl⟩
     rw [List.take_length,ds2_wds (ok _ hin)]
     refine ⟨⟨_,SqT.of (nd'.same _ _ hrq),by rw [List.length_map];exact Nat.le_refl _⟩,fun wp hwp => ?_⟩
     have nw:New He wp (.lst ((wds (Lg rows) rows[i]).map V.str)) (upd He wp (.lst ((wds (Lg rows) rows[i]).map V.str))):=⟨hwp,rfl⟩
     have hrf:=nw.same _ _ hrd
     have sf:=sc.trans (nd'.same.trans nw.same)
     refine ⟨_,wp,_,rfl,rfl,SqL.of nw.at,?_,rl,_,_,rfl,rfl,hrf,?_,fun Hg cg=>⟨_,_,rfl,fun b o e => ?_,(tb.trans (TP.same sf)).trans (TP.chg hrf cg),?_,?_⟩⟩
     ·have h1:=sum_len (m:=8) (xs:=wds (Lg rows) rows[i]) fun x hx=>(wds_wd (ok _ hin) hLn x hx).2.1
      have h2:=wds_len (Lg rows) rows[i]
      show _+_*1≤_
      omega
     ·simp only [List.length_map,List.length_append];exact small (by omega)
     ·rw [cg.ne (ne_of_none e n5.nn)];exact (sb.trans sf) b o e
     ·rw [cg.ne rlpl];exact sf _ _ hplb
     ·rw [cg.at,lnsU_le hi2,lnsTo,List.getD_eq_getElem?_getD,List.getElem?_eq_getElem hi2,show (Str.ofString " ")=sBl by decide +kernel]
      simp only [List.map_append,List.map_cons,List.map_nil]
      rfl
   ·have ei:i=rows.length:=by omega
    subst ei
    have:rp=ep:=by rw [atE] at hrp;cases hrp;rfl
    subst this
    have heb:=tb _ _ he8
    refine seqCut (t:=tIfS _ _ _) (fun σ H' => σ=[some (.ref p),some (.str sSmall),some (.ref gp),some (.ref D),some (.ref rl),some (.int (rows.length:Nat)),some (.ref rp)]∧Same Hb H') (fun Nx nx => ?_) ?_
    ·refine ⟨_,rfl, .inr (.inl ⟨rp,_,0, .str "end",rfl,rfl,SqT.of heb,rfl,by show 2≤sizeLine;decide,fun tp Hc nc=>⟨tp,_,rfl, .inr (SqT.of nc.at),rfl,rfl,_,rfl,?_⟩⟩)⟩
     rw [show inV (.str (Str.ofString "end")) [.str (Str.ofString "jump"), .str (Str.ofString "zero")]=false by decide]
     exact iteF (nx _ _ ⟨rfl,nc.same⟩)
    rintro σ Hc ⟨rfl,sc⟩
    refine ⟨_,rfl,by show 1≤sizeLine;decide,fun te Hd nd' => .inr ⟨.tuple [.str "end"], .tuple [.str "end"],?_,?_,?_,?_,_,rfl,?_⟩⟩
    ·exact dtupN (nd'.same _ _ (sc _ _ heb)) (fV_dens (ds:=[.str "end"]) rfl)
    ·exact dtupN nd'.at (fV_dens (ds:=[.str "end"]) rfl)
    ·exact (Gs.one (wd_gd (wdB (by decide +kernel)))).tuple.shaped (by decide)
    ·exact (Gs.one (wd_gd (wdB (by decide +kernel)))).tuple.shaped (by decide)
    rw [show PyData.eqv (.tuple [.str (Str.ofString "end")]) (.tuple [.str (Str.ofString "end")])=true by decide +kernel]
    have sd:=sc.trans nd'.same
    refine iteF ⟨_,_,rfl,sb.trans sd,tb.trans (TP.same sd),sd _ _ hplb,?_⟩
    rw [show lnsU rows (rows.length+1)=lnsOf rows from if_neg (by omega)]
    exact sd _ _ hrb
  ·intro σ H9
   refine Elim.go ?_
   rintro x5 x6 rfl s9 t9 hpl9 hr9
   rw [show lnsU rows (rows.length+1)=lnsOf rows from if_neg (by omega)] at hr9
   exact ⟨⟨_,SqL.of hpl9,by rw [List.length_append,ud];exact Nat.le_refl _⟩,nx _ _ ⟨x5,x6,rfl,s9,hr9⟩⟩
 intro σ H9
 refine Elim.go ?_
 rintro x5 x6 rfl s9 hr9
 refine ⟨rfl,_,rfl,_,rl,_,rfl,rfl,SqL.of hr9,wpT_len hn hl ok,?_⟩
 rw [show (Str.ofString "\n")=sNl by decide +kernel]
 exact q _ (s04.trans s9)
end
end Z
namespace Z
open PySem L2
theorem spotAt {r:Int} (h0:0≤r) (h1:r<4):∃ch p,atI (Str.ofString "abcd").cps.toList r=some ch∧p<4∧(⟨#[ch]⟩:Str)=sp p:=by
 have:r=0∨r=1∨r=2∨r=3:=by omega
 rcases this with rfl|rfl|rfl|rfl
 ·exact ⟨97,0,by decide +kernel,by decide,by decide +kernel⟩
 ·exact ⟨98,1,by decide +kernel,by decide,by decide +kernel⟩
 ·exact ⟨99,2,by decide +kernel,by decide,by decide +kernel⟩
 ·exact ⟨100,3,by decide +kernel,by decide,by decide +kernel⟩
noncomputable def spProg (K:PySem.W.Frag):Sp:=fun vs H Q _=>∃(b c:Addr) (t:Int) (n:Nat),vs=[.ref b, .int n]∧Bx H b c t∧0≤t∧t<9000000∧n≤40∧∀(rows:List Rw) (p:Addr) (vs:List V) H' t',rows.length=n→(∀r∈rows,r.ok n)→H' p=some (.lst vs)→p≠b→p≠c→H p=none→Tups H' rows vs→Step b c H H' t t' (20*n)→Q (.ref p) H'
noncomputable def spMn:Sp:=fun vs H Q _=>∃(b c:Addr) (t:Int),vs=[.ref b]∧Bx H b c t∧0≤t∧t<9000000∧∀(n:Nat) H' t',n≤40→Step b c H H' t t' 2→Q (.int n) H'
section
variable {P:Program} {w:World} {K:PySem.W.Frag} {mg:Str→Option Value} {base:Heap} {f:Addr} {fd:FuncData} {C:Addr}
theorem sc_law_program:FnScope ["_law_state", "_law_many_here", "_law_found", "_law_k", "_law_way", "_law_spot", "_law_other", "_law_at"] ["_law_state", "_law_many_here"] (defScope (top i_law_program)):=⟨rfl,rfl,rfl,by decide +kernel,rfl,by decide +kernel,by decide +kernel⟩
theorem ok_prog (F:Fun K "_law_program" "_law_program" (top i_law_program) f fd) (T:Nm mg) (f_law_take:Fn P w K mg base 1 "_law_take" ["_law_state", "_law_many_here"] spTk):FnOk P w K mg base CX0 2 f fd ["_law_state", "_law_many_here"] (spProg K):=by
 refine F.ok sc_law_program (fun vs H Q E h => ?_) (fun cdv A outer s H vs Q E hr h => ?_)
 ·obtain ⟨b,c,t,n,rfl,_⟩:=h
  rfl
 obtain ⟨b,c,t,n,rfl,bx,t0,t1,hn,q⟩:=h
 have hu6:=hr.units
 refine ⟨_,(pss_cons (ps_set (i:=2) sc_law_program.nd rfl (Or.inl rfl) (lit_lstO (K:=K) lits_nil))
  (pss_cons (ps_for PassesOwn.never rfl (pi_range1 rfl T.n_range (pa_cons (pv 1) pa_nil)) (pg_name (i:=3) sc_law_program.nd rfl (Or.inl rfl)) (pss_cons (ps_set (i:=4) sc_law_program.nd rfl (Or.inl rfl) (pe_fn (f_law_take.mono (by decide)) hr rfl (pa_cons (pv 0) (pa_cons pe_int pa_nil))))
  (pss_cons (ps_set (i:=5) sc_law_program.nd rfl (Or.inl rfl) (pe_ix (ixK K) pe_str (pe_fn (f_law_take.mono (by decide)) hr rfl (pa_cons (pv 0) (pa_cons pe_int pa_nil))) (fun _ _=>rfl)))
  (pss_cons (ps_set (i:=6) sc_law_program.nd rfl (Or.inl rfl) (pe_ix (ixK K) pe_str (pe_fn (f_law_take.mono (by decide)) hr rfl (pa_cons (pv 0) (pa_cons pe_int pa_nil))) (fun _ _=>rfl)))
  (pss_cons (ps_set (i:=7) sc_law_program.nd rfl (Or.inl rfl) (pe_ix (ixK K) (lstN (pa_cons (pe_fn (f_law_take.mono (by decide)) hr rfl (pa_cons (pv 0) (pa_cons (pe_op addN (pv 1) pe_int) pa_nil))) (pa_cons (pe_callB (call_min2 rfl) rfl T.n_min (by rfl) (pa_cons (pv 1) (pa_cons (pe_callB (call_max2 rfl) rfl T.n_max (by rfl) (pa_cons pe_int (pa_cons (pe_op addN (pe_op op_sub (pv 3) pe_int) (pe_fn (f_law_take.mono (by decide)) hr rfl (pa_cons (pv 0) (pa_cons pe_int pa_nil)))) pa_nil))) pa_nil))) pa_nil))) (pe_fn (f_law_take.mono (by decide)) hr rfl (pa_cons (pv 0) (pa_cons pe_int pa_nil))) (fun _ _=>rfl)))
  (pss_one (ps_if (pt_cmpR op_lt (pv 4) pe_int (nomark _)) (pss_one (ps_expr (bmK K PySem.F.plainAttrs_list PySem.F.slot_list_append PySem.F.type_list_append appendN (pv 2) (pa_cons (tupN (pa_cons pe_str (pa_cons (pv 5) (pa_cons (pe_ix (ixK K) (lstN (pa_cons (pe_fn (f_law_take.mono (by decide)) hr rfl (pa_cons (pv 0) (pa_cons pe_int pa_nil))) (pa_cons (pe_fn (f_law_take.mono (by decide)) hr rfl (pa_cons (pv 0) (pa_cons pe_int pa_nil))) pa_nil))) (pe_fn (f_law_take.mono (by decide)) hr rfl (pa_cons (pv 0) (pa_cons pe_int pa_nil))) (fun _ _=>rfl)) pa_nil)))) pa_nil)))) (pss_one (ps_if (pt_cmpR op_lt (pv 4) pe_int (nomark _)) (pss_one (ps_expr (bmK K PySem.F.plainAttrs_list PySem.F.slot_list_append PySem.F.type_list_append appendN (pv 2) (pa_cons (tupN (pa_cons (pe_ix (ixK K) (lit_lstO (K:=K) (lits_cons lit_str (lits_cons lit_str lits_nil))) (pe_op op_sub (pv 4) pe_int) (fun _ _=>rfl)) (pa_cons (pv 5) (pa_cons (pv 6) pa_nil)))) pa_nil)))) (pss_one (ps_if (pt_cmpR op_lt (pv 4) pe_int (nomark _)) (pss_one (ps_expr (bmK K PySem.F.plainAttrs_list PySem.F.slot_list_append PySem.F.type_list_append appendN (pv 2) (pa_cons (tupN (pa_cons (pe_ix (ixK K) (lit_lstO (K:=K) (lits_cons lit_str (lits_cons lit_str (lits_cons lit_str lits_nil)))) (pe_op op_sub (pv 4) pe_int) (fun _ _=>rfl)) (pa_cons (pv 5) pa_nil))) pa_nil)))) (pss_one (ps_if (PW.pt (pw_and (pt_cmpR (eqK K hu6) (pv 4) pe_int (nomark _)) (pw_and1 (pt_cmpR (eqK K hu6) (pe_fn (f_law_take.mono (by decide)) hr rfl (pa_cons (pv 0) (pa_cons pe_int pa_nil))) pe_int (nomark _))))) (pss_one (ps_expr (bmK K PySem.F.plainAttrs_list PySem.F.slot_list_append PySem.F.type_list_append appendN (pv 2) (pa_cons (tupN (pa_cons pe_str pa_nil)) pa_nil)))) (pss_one (ps_expr (bmK K PySem.F.plainAttrs_list PySem.F.slot_list_append PySem.F.type_list_append appendN (pv 2) (pa_cons (pe_ifExp (pt_cmpR op_gt (pv 4) pe_int (nomark _)) (tupN (pa_cons pe_str (pa_cons (pv 5) (pa_cons (pv 7) pa_nil)))) (tupN (pa_cons pe_str (pa_cons (pv 7) pa_nil)))) pa_nil)))))))))))))))))
  (pss_one (ps_ret (pv 2))))),?_⟩
 intro fp us0 H1 sm1 nw1 d1
 unfold Dens at d1
 subst d1
 obtain ⟨nf,hf1⟩:=of_newOf nw1
 obtain ⟨fb,fc⟩:=bx.ne_new nf
 have st1:=Step.same bx sm1
 refine gn ?_
 dsimp only
 refine seqCut (t:=tFor _ _ _) (fun σ H'=>∃(x3 x4 x5 x6 x7:Option V) (rows:List Rw) (vs:List V) (t':Int), σ=[some (.ref b),some (.int n),some (.ref fp),x3,x4,x5,x6,x7]∧rows.length=n∧(∀r∈rows,r.ok n)∧H' fp=some (.lst vs)∧Tups H' rows vs∧Step b c H H' t t' (20*n)) (fun Nx nx => ?_) ?_
 ·refine ⟨_,rfl,_,rfl,by omega,by omega,?_⟩
  refine for_go (N:=n) (fun i σ H'=>∃(x3 x4 x5 x6 x7:Option V) (rows:List Rw) (vs:List V) (t':Int), σ=[some (.ref b),some (.int n),some (.ref fp),x3,x4,x5,x6,x7]∧rows.length=i∧(∀r∈rows,r.ok n)∧H' fp=some (.lst vs)∧Tups H' rows vs∧Step b c H H' t t' (20*i)) ⟨_,_,_,_,_,[],[],_,rfl,rfl,(fun _ h=>nomatch h),hf1,⟨rfl,fun _ _ h=>nomatch h⟩,st1.more (by omega)⟩ ?_ ?_
  ·rintro i σ H2 hi ⟨x3,x4,x5,x6,x7,rows,vs,t2,rfl,hl,hok,hf2,hT,st2⟩
   have ub2:=st2.ub
   have lo2:=st2.le
   refine ⟨by show i<((n:Nat):Int).toNat;omega,?_⟩
   rintro x H3 ⟨rfl,rfl⟩
   refine gn ?_
   refine ⟨_,rfl,b,c,t2,12,rfl,st2.bx,by omega,by omega,by decide,by decide,fun way H4 w0 w1 st4=>gn ?_⟩
   refine ⟨_,rfl,b,c,_,4,rfl,st4.bx,by omega,by omega,by decide,by decide,fun r5 H5 r50 r51 st5 => ?_⟩
   obtain ⟨c5,p,hc5,hp,ep⟩:=spotAt r50 r51
   refine .inr (.inr ⟨_,_,c5,rfl,rfl,by decide +kernel,hc5,gn ?_⟩)
   refine ⟨_,rfl,b,c,_,4,rfl,st5.bx,by omega,by omega,by decide,by decide,fun r6 H6 r60 r61 st6 => ?_⟩
   obtain ⟨c6,z,hc6,hz,ez⟩:=spotAt r60 r61
   refine .inr (.inr ⟨_,_,c6,rfl,rfl,by decide +kernel,hc6,gn ?_⟩)
   rw [ep,ez]
   refine ⟨_,rfl,_,rfl, .inl ⟨_,_,rfl,rfl,b,c,_,_,rfl,st6.bx,by omega,by omega,by omega,by omega,fun r7 H7 r70 r71 st7 => ?_⟩⟩
   refine ⟨_,rfl,_,rfl,_,_,rfl,rfl,_,rfl,b,c,_,8,rfl,st7.bx,by omega,by omega,by decide,by decide,fun r8 H8 r80 r81 st8 => .inl ⟨_,_,rfl,rfl,_,_,rfl,_,_,rfl,by show 2≤sizeLine;decide,fun p9 H9 n9 => ?_⟩⟩
   have sA:=st4.trans (st5.trans (st6.trans (st7.trans st8)))
   have st9:=(st2.trans sA).newN n9
   obtain ⟨w9,h9,w90,w91⟩:∃w9:Int,H9 p9=some (.lst [V.int r7,V.int w9])∧0≤w9∧w9≤n:=⟨_,n9.at,by (repeat' split) <;> omega,by (repeat' split) <;> omega⟩
   refine ⟨_,rfl,b,c,_,2,rfl,st9.bx,by omega,by omega,by decide,by decide,fun r10 H10 r100 r101 sB => ?_⟩
   obtain ⟨b9,c9⟩:=st8.bx.ne_new n9.nn
   obtain ⟨kv,hk4,hk5⟩:=at_mem (xs:=[V.int r7,V.int w9]) r100 r101
   refine .inl ⟨p9,_,_,_,rfl,rfl,SqL.of (sB.old h9 b9 c9),hk4,gn ?_⟩
   obtain ⟨at_,rfl,hat⟩:∃a:Nat,kv = .int a∧a≤n:=by
    rcases List.mem_cons.mp hk5 with rfl|hk5
    ·exact ⟨r7.toNat,congrArg V.int (Int.toNat_of_nonneg r70).symm,by omega⟩
    ·rw [List.mem_singleton.mp hk5]
     exact ⟨w9.toNat,congrArg V.int (Int.toNat_of_nonneg w90).symm,by omega⟩
   have st10:=(st9.trans sB).more (show _≤20*(i:Int)+7 by omega)
   have f10:H10 fp=some (.lst vs):=sB.old (n9.same _ _ (sA.old hf2 fb fc)) fb fc
   have tp10:TP H3 H10:=((TP.step st2.bx sA).trans (TP.same n9.same)).trans (TP.step st9.bx sB)
   have fin:∀(r:Rw) (Hn:Hp) (tn:Int),r.ok n→Step b c H Hn t tn (20*i+15)→TP H3 Hn→Hn fp=some (.lst vs)→∀p' Hm,New Hn p' (.tup (r.ds.map fV)) Hm→Hm fp=some (.lst vs)∧vs.length<sizeLine∧∀Hx,Chg Hm fp (.lst (vs++[.ref p'])) Hx →
     ∃(rows:List Rw) (vs:List V) (t':Int),rows.length=i+1∧(∀r∈rows,r.ok n)∧Hx fp=some (.lst vs)∧Tups Hx rows vs∧Step b c H Hx t t' (20*((i+1:Nat):Int)):=fun r Hn tn hr' stn tpn fn p' Hm nm=>by
    refine ⟨nm.same _ _ fn,Nat.lt_of_le_of_lt (show vs.length≤1000 by have:=hT.1;omega) (by decide),fun Hx cx => ?_⟩
    have tx:=TP.chg (nm.same _ _ fn) cx
    refine ⟨rows++[r],_,tn,by rw [List.length_append,hl];rfl,fun r' h' => ?_,cx.at,(((hT.tp tpn).tp (TP.same nm.same)).tp tx).snoc (tx _ _ nm.at),((stn.newN nm).chgN cx nf fb fc).more (by omega)⟩
    rcases List.mem_append.mp h' with h'|h'
    ·exact hok r' h'
    ·rw [List.mem_singleton.mp h'];exact hr'
   have ub10:=st10.ub
   have lo10:=st10.le
   refine ⟨_,rfl,_,_,rfl,rfl,_,rfl,ite2 (fun e1 => ?_) (fun e1 => ?_)⟩
   ·refine ⟨_,rfl, .inl ⟨rfl,_,SqL.of f10⟩,?_⟩
    refine ⟨_,rfl,_,rfl,b,c,_,256,rfl,st10.bx,by omega,by omega,by decide,by decide,fun r11 H11 r110 r111 st11 => ?_⟩
    refine ⟨_,rfl,b,c,_,4,rfl,st11.bx,by omega,by omega,by decide,by decide,fun r12 H12 r120 r121 st12=>⟨by show 2≤sizeLine;decide,fun p13 H13 n13 => ?_⟩⟩
    obtain ⟨b13,c13⟩:=st12.bx.ne_new n13.nn
    have st13:=(st10.trans (st11.trans st12)).newN n13
    refine ⟨_,rfl,b,c,_,2,rfl,st13.bx,by omega,by omega,by decide,by decide,fun r14 H14 r140 r141 st14 => ?_⟩
    obtain ⟨kv,hk4,hk5⟩:=at_mem (xs:=[V.int r11,V.int r12]) r140 r141
    obtain ⟨v,rfl,v0,v1⟩:∃i:Int,kv = .int i∧0≤i∧i<256:=by
     rcases List.mem_cons.mp hk5 with rfl|hk5
     ·exact ⟨_,rfl,r110,r111⟩
     ·rw [List.mem_singleton.mp hk5];exact ⟨_,rfl,r120,by omega⟩
    refine .inl ⟨p13,_,_,_,rfl,rfl,SqL.of (st14.old n13.at b13 c13),hk4,by show 3≤sizeLine;decide,fun p' Hm nm => ?_⟩
    obtain ⟨g1,g2,g3⟩:=fin (.set p v) H14 _ ⟨hp,v0,v1⟩ ((st13.trans st14).more (by omega)) (((tp10.trans (TP.step st10.bx (st11.trans st12))).trans (TP.same n13.same)).trans (TP.step st13.bx st14)) (st14.old (n13.same _ _ ((st11.trans st12).old f10 fb fc)) fb fc) p' Hm nm
    refine ⟨fp,_,_,rfl,rfl,g1,g2,fun Hx cx => ?_⟩
    obtain ⟨rows',vs',t',k1,k2,k3,k4,k5⟩:=g3 Hx cx
    exact ⟨_,_,_,_,_,rows',vs',t',rfl,k1,k2,k3,k4,k5⟩
   refine ⟨_,rfl,_,_,rfl,rfl,_,rfl,ite2 (fun e2 => ?_) (fun e2 => ?_)⟩
   ·refine ⟨_,rfl, .inl ⟨rfl,_,SqL.of f10⟩,fun p11 us11 H11 sm11 nw11 d11 => ?_⟩
    rw [dens_flat (ds:=[.str "add", .str "take"]) d11 rfl] at nw11
    have h11:=(of_newOf nw11).2
    have e1:¬way<3:=fun h=>e1 (decide_eq_true h)
    have e2:way<5:=of_decide_eq_true e2
    have st11:=st10.trans (Step.same st10.bx sm11)
    have tp11:=tp10.trans (TP.same sm11)
    have hway:way=3∨way=4:=by omega
    have fin2:∀r:Rw,r.ok n→∀p' Hm,New H11 p' (.tup (r.ds.map fV)) Hm→_:=fun r hr' p' Hm nm=>fin r H11 _ hr' (st11.more (by omega)) tp11 (sm11 _ _ f10) p' Hm nm
    rcases hway with rfl|rfl
    ·refine ⟨_,rfl,_,_,rfl,rfl, .inl ⟨p11,_,_, .str "add",rfl,rfl,SqL.of h11,at_nat (by decide) rfl,?_⟩⟩
     refine ⟨_,rfl,_,rfl,by show 3≤sizeLine;decide,fun p' Hm nm => ?_⟩
     obtain ⟨g1,g2,g3⟩:=fin2 (.add p z) ⟨hp,hz⟩ p' Hm nm
     refine ⟨fp,_,_,rfl,rfl,g1,g2,fun Hx cx => ?_⟩
     obtain ⟨rows',vs',t',k1,k2,k3,k4,k5⟩:=g3 Hx cx
     exact ⟨_,_,_,_,_,rows',vs',t',rfl,k1,k2,k3,k4,k5⟩
    ·refine ⟨_,rfl,_,_,rfl,rfl, .inl ⟨p11,_,_, .str "take",rfl,rfl,SqL.of h11,at_nat (by decide) rfl,?_⟩⟩
     refine ⟨_,rfl,_,rfl,by show 3≤sizeLine;decide,fun p' Hm nm => ?_⟩
     obtain ⟨g1,g2,g3⟩:=fin2 (.take p z) ⟨hp,hz⟩ p' Hm nm
     refine ⟨fp,_,_,rfl,rfl,g1,g2,fun Hx cx => ?_⟩
     obtain ⟨rows',vs',t',k1,k2,k3,k4,k5⟩:=g3 Hx cx
     exact ⟨_,_,_,_,_,rows',vs',t',rfl,k1,k2,k3,k4,k5⟩
   refine ⟨_,rfl,_,_,rfl,rfl,_,rfl,ite2 (fun e3 => ?_) (fun e3 => ?_)⟩
   ·refine ⟨_,rfl, .inl ⟨rfl,_,SqL.of f10⟩,fun p11 us11 H11 sm11 nw11 d11 => ?_⟩
    rw [dens_flat (ds:=[.str "tell", .str "ask", .str "tell"]) d11 rfl] at nw11
    have h11:=(of_newOf nw11).2
    have e2:¬way<5:=fun h=>e2 (decide_eq_true h)
    have e3:way<8:=of_decide_eq_true e3
    have st11:=st10.trans (Step.same st10.bx sm11)
    have tp11:=tp10.trans (TP.same sm11)
    have hway:way=5∨way=6∨way=7:=by omega
    have fin2:∀r:Rw,r.ok n→∀p' Hm,New H11 p' (.tup (r.ds.map fV)) Hm→_:=fun r hr' p' Hm nm=>fin r H11 _ hr' (st11.more (by omega)) tp11 (sm11 _ _ f10) p' Hm nm
    rcases hway with rfl|rfl|rfl
    ·refine ⟨_,rfl,_,_,rfl,rfl, .inl ⟨p11,_,_, .str "tell",rfl,rfl,SqL.of h11,at_nat (by decide) rfl,?_⟩⟩
     refine ⟨_,rfl,by show 2≤sizeLine;decide,fun p' Hm nm => ?_⟩
     obtain ⟨g1,g2,g3⟩:=fin2 (.tell p) hp p' Hm nm
     refine ⟨fp,_,_,rfl,rfl,g1,g2,fun Hx cx => ?_⟩
     obtain ⟨rows',vs',t',k1,k2,k3,k4,k5⟩:=g3 Hx cx
     exact ⟨_,_,_,_,_,rows',vs',t',rfl,k1,k2,k3,k4,k5⟩
    ·refine ⟨_,rfl,_,_,rfl,rfl, .inl ⟨p11,_,_, .str "ask",rfl,rfl,SqL.of h11,at_nat (by decide) rfl,?_⟩⟩
     refine ⟨_,rfl,by show 2≤sizeLine;decide,fun p' Hm nm => ?_⟩
     obtain ⟨g1,g2,g3⟩:=fin2 (.ask p) hp p' Hm nm
     refine ⟨fp,_,_,rfl,rfl,g1,g2,fun Hx cx => ?_⟩
     obtain ⟨rows',vs',t',k1,k2,k3,k4,k5⟩:=g3 Hx cx
     exact ⟨_,_,_,_,_,rows',vs',t',rfl,k1,k2,k3,k4,k5⟩
    ·refine ⟨_,rfl,_,_,rfl,rfl, .inl ⟨p11,_,_, .str "tell",rfl,rfl,SqL.of h11,at_nat (by decide) rfl,?_⟩⟩
     refine ⟨_,rfl,by show 2≤sizeLine;decide,fun p' Hm nm => ?_⟩
     obtain ⟨g1,g2,g3⟩:=fin2 (.tell p) hp p' Hm nm
     refine ⟨fp,_,_,rfl,rfl,g1,g2,fun Hx cx => ?_⟩
     obtain ⟨rows',vs',t',k1,k2,k3,k4,k5⟩:=g3 Hx cx
     exact ⟨_,_,_,_,_,rows',vs',t',rfl,k1,k2,k3,k4,k5⟩
   refine ⟨_,rfl, .inl ⟨rfl,_,rfl,ite2 (fun e4 => ?_) (fun e4 => ?_)⟩⟩
   ·refine ⟨_,rfl,b,c,_,3,rfl,st10.bx,by omega,by omega,by decide,by decide,fun r11 H11 r110 r111 st11 => .inl ⟨rfl,_,rfl,ite2 (fun e5 => ?_) (fun e5 => ?_)⟩⟩
    ·refine ⟨_,rfl, .inl ⟨rfl,_,SqL.of (st11.old f10 fb fc)⟩,by show 1≤sizeLine;decide,fun p' Hm nm => ?_⟩
     obtain ⟨g1,g2,g3⟩:=fin .stop H11 _ trivial ((st10.trans st11).more (by omega)) (tp10.trans (TP.step st10.bx st11)) (st11.old f10 fb fc) p' Hm nm
     refine ⟨fp,_,_,rfl,rfl,g1,g2,fun Hx cx => ?_⟩
     obtain ⟨rows',vs',t',k1,k2,k3,k4,k5⟩:=g3 Hx cx
     exact ⟨_,_,_,_,_,rows',vs',t',rfl,k1,k2,k3,k4,k5⟩
    ·have f11:=st11.old f10 fb fc
     refine ⟨_,rfl, .inl ⟨rfl,_,SqL.of f11⟩,?_⟩
     refine ⟨_,rfl,_,_,rfl,rfl,_,rfl,ite2 (fun _ => ?_) (fun _ => ?_)⟩
     ·refine ⟨_,rfl,_,rfl,by show 3≤sizeLine;decide,fun p' Hm nm => ?_⟩
      obtain ⟨g1,g2,g3⟩:=fin (.zero p at_) H11 _ ⟨hp,hat⟩ ((st10.trans st11).more (by omega)) (tp10.trans (TP.step st10.bx st11)) f11 p' Hm nm
      refine ⟨fp,_,_,rfl,rfl,g1,g2,fun Hx cx => ?_⟩
      obtain ⟨rows',vs',t',k1,k2,k3,k4,k5⟩:=g3 Hx cx
      exact ⟨_,_,_,_,_,rows',vs',t',rfl,k1,k2,k3,k4,k5⟩
     ·refine ⟨_,rfl,by show 2≤sizeLine;decide,fun p' Hm nm => ?_⟩
      obtain ⟨g1,g2,g3⟩:=fin (.jump at_) H11 _ hat ((st10.trans st11).more (by omega)) (tp10.trans (TP.step st10.bx st11)) f11 p' Hm nm
      refine ⟨fp,_,_,rfl,rfl,g1,g2,fun Hx cx => ?_⟩
      obtain ⟨rows',vs',t',k1,k2,k3,k4,k5⟩:=g3 Hx cx
      exact ⟨_,_,_,_,_,rows',vs',t',rfl,k1,k2,k3,k4,k5⟩
   ·skip
    refine ⟨_,rfl, .inl ⟨rfl,_,SqL.of f10⟩,?_⟩
    refine ⟨_,rfl,_,_,rfl,rfl,_,rfl,ite2 (fun _ => ?_) (fun _ => ?_)⟩
    ·refine ⟨_,rfl,_,rfl,by show 3≤sizeLine;decide,fun p' Hm nm => ?_⟩
     obtain ⟨g1,g2,g3⟩:=fin (.zero p at_) H10 _ ⟨hp,hat⟩ (st10.more (by omega)) tp10 f10 p' Hm nm
     refine ⟨fp,_,_,rfl,rfl,g1,g2,fun Hx cx => ?_⟩
     obtain ⟨rows',vs',t',k1,k2,k3,k4,k5⟩:=g3 Hx cx
     exact ⟨_,_,_,_,_,rows',vs',t',rfl,k1,k2,k3,k4,k5⟩
    ·refine ⟨_,rfl,by show 2≤sizeLine;decide,fun p' Hm nm => ?_⟩
     obtain ⟨g1,g2,g3⟩:=fin (.jump at_) H10 _ hat (st10.more (by omega)) tp10 f10 p' Hm nm
     refine ⟨fp,_,_,rfl,rfl,g1,g2,fun Hx cx => ?_⟩
     obtain ⟨rows',vs',t',k1,k2,k3,k4,k5⟩:=g3 Hx cx
     exact ⟨_,_,_,_,_,rows',vs',t',rfl,k1,k2,k3,k4,k5⟩
  ·rintro σ H2 ⟨x3,x4,x5,x6,x7,rows,vs,t2,rfl,hl,hok,hf2,hT,st2⟩
   exact ⟨by show ((n:Nat):Int).toNat≤n;omega,nx _ _ ⟨_,_,_,_,_,rows,vs,t2,rfl,hl,hok,hf2,hT,st2⟩⟩
 rintro σ H2 ⟨x3,x4,x5,x6,x7,rows,vs,t2,rfl,hl,hok,hf2,hT,st2⟩
 exact ⟨_,rfl,q rows fp vs H2 t2 hl hok hf2 fb fc nf hT st2⟩
theorem sc_law_many:FnScope ["_law_state"] ["_law_state"] (defScope (top i_law_many)):=⟨rfl,rfl,rfl,by decide +kernel,rfl,by decide +kernel,by decide +kernel⟩
theorem ok_many (F:Fun K "_law_many" "_law_many" (top i_law_many) f fd) (T:Nm mg) (f_law_take:Fn P w K mg base 1 "_law_take" ["_law_state", "_law_many_here"] spTk):FnOk P w K mg base CX0 2 f fd ["_law_state"] spMn:=by
 refine F.ok sc_law_many (fun vs H Q E h => ?_) (fun cdv A outer s H vs Q E hr h => ?_)
 ·obtain ⟨b,c,t,rfl,_⟩:=h
  rfl
 obtain ⟨b,c,t,rfl,bx,t0,t1,q⟩:=h
 have hu6:=hr.units
 refine ⟨_,(pss_cons (ps_if (pt_cmpR (eqK K hu6) (pe_fn (f_law_take.mono (by decide)) hr rfl (pa_cons (pv 0) (pa_cons pe_int pa_nil))) pe_int (nomark _)) (pss_one (ps_ret (pe_op addN pe_int (pe_fn (f_law_take.mono (by decide)) hr rfl (pa_cons (pv 0) (pa_cons pe_int pa_nil)))))) pss_nil)
  (pss_one (ps_ret (pe_fn (f_law_take.mono (by decide)) hr rfl (pa_cons (pv 0) (pa_cons pe_int pa_nil)))))),?_⟩
 refine ⟨_,rfl,b,c,t,8,rfl,bx,by omega,by omega,by decide,by decide,fun r H2 r0 r1 st2 => .inl ⟨rfl,_,rfl,ite2 (fun _ => ?_) (fun _ => ?_)⟩⟩
 ·refine ⟨_,rfl,b,c,_,28,rfl,st2.bx,by omega,by omega,by decide,by decide,fun r3 H3 r30 r31 st3 => .inl ⟨_,_,rfl,rfl,?_⟩⟩
  have:=q (13+r3).toNat _ _ (by omega) (st2.trans st3)
  rw [show (((13+r3).toNat:Nat):Int)=13+r3 by omega] at this
  exact this
 ·refine ⟨_,rfl,b,c,_,13,rfl,st2.bx,by omega,by omega,by decide,by decide,fun r3 H3 r30 r31 st3 => ?_⟩
  have:=q r3.toNat _ _ (by omega) (st2.trans st3)
  rw [show ((r3.toNat:Nat):Int)=r3 by omega] at this
  exact this
end
end Z
namespace Z
open PySem L2
noncomputable def spSame (K:PySem.W.Frag) (n:Nat):Sp:=fun vs H Q _=>Ex3 fun (v1 v2:V) (d:PyData)=>vs=[v1,v2]∧Den K H d v1∧Den K H d v2∧d.depth<n∧d.weight≤1000000∧∀H',Same H H'→Q (.bl true) H'
section
variable {P:Program} {w:World} {K:PySem.W.Frag} {mg:Str→Option Value} {base:Heap} {f:Addr} {fd:FuncData}
theorem sc_law_same:FnScope ["_law_found", "_law_due"] ["_law_found", "_law_due"] (defScope (top i_law_same)):=⟨rfl,rfl,rfl,by decide +kernel,rfl,by decide +kernel,by decide +kernel⟩
theorem ok_same {n:Nat} (F:Fun K "_law_same" "_law_same" (top i_law_same) f fd) (T:Nm mg) (f_law_same:Fn P w K mg base n "_law_same" ["_law_found", "_law_due"] (spSame K n)):FnOk P w K mg base CX0 (n+1) f fd ["_law_found", "_law_due"] (spSame K (n+1)):=by
 refine F.ok sc_law_same (fun vs H Q E h => ?_) (fun cdv A outer s H vs Q E hr h => ?_)
 ·obtain ⟨v1,v2,d,rfl,_⟩:=h
  rfl
 obtain ⟨v1,v2,d,rfl,d1,d2,hn,hw,q⟩:=h
 have hu6:=hr.units
 refine ⟨_,(pss_cons (ps_if (pt_val (pe_callB (isiTK K) rfl T.n_isinstance (by rfl) (pa_cons (pv 1) (pa_cons (tupN (pa_cons (pe_bltn rfl T.n_list (by rfl) (v := .ty "list") rfl) (pa_cons (pe_bltn rfl T.n_tuple (by rfl) (v := .ty "tuple") rfl) pa_nil))) pa_nil)))) (pss_cons (ps_if (PW.pt (pw_or (pt_cmpR (neK K hu6) (pe_callB (isiK K) rfl T.n_isinstance (by rfl) (pa_cons (pv 0) (pa_cons (pe_bltn rfl T.n_list (by rfl) (v := .ty "list") rfl) pa_nil))) (pe_callB (isiK K) rfl T.n_isinstance (by rfl) (pa_cons (pv 1) (pa_cons (pe_bltn rfl T.n_list (by rfl) (v := .ty "list") rfl) pa_nil))) (nomark _)) (pw_or1 (pt_cmpR (neK K hu6) (pe_callB (isiK K) rfl T.n_isinstance (by rfl) (pa_cons (pv 0) (pa_cons (pe_bltn rfl T.n_tuple (by rfl) (v := .ty "tuple") rfl) pa_nil))) (pe_callB (isiK K) rfl T.n_isinstance (by rfl) (pa_cons (pv 1) (pa_cons (pe_bltn rfl T.n_tuple (by rfl) (v := .ty "tuple") rfl) pa_nil))) (nomark _))))) (pss_one (ps_ret pe_bl)) pss_nil)
  (pss_one (ps_ret (pe_and (pe_cmpR (eqK K hu6) (pe_callB (lenK K) rfl T.n_len (by rfl) (pa_cons (pv 0) pa_nil)) (pe_callB (lenK K) rfl T.n_len (by rfl) (pa_cons (pv 1) pa_nil)) (nomark _)) (pe_one (pe_callB (allK K rfl) rfl T.n_all (by rfl) (pa_cons (pe_lcomp rfl (comp_ok (Nc:=["_law_one", "_law_other"]) (Fc:=[]) (js:=[])) (pi_zipK K rfl T.n_zip (pa_cons (pv 0) (pa_cons (pv 1) pa_nil))) (gk_tup (gks_cons (gk_name (i:=0) (n:=2) (by decide)) (gks_cons (gk_name (i:=1) (n:=2) (by decide)) gks_nil gm_name gms_nil) gm_name (gms_cons gm_name gms_nil))) (fun _ _ _ _ _=>(tupK K 2 rfl (pgs_cons (pg_name (i:=0) (ndS ["_law_one", "_law_other"]) rfl (Or.inl rfl)) (pgs_cons (pg_name (i:=1) (ndS ["_law_one", "_law_other"]) rfl (Or.inl rfl)) pgs_nil)))) (fun _ _ _ _ _=>pts_nil) (fun _ _ _ _ _=>(pe_fn (f_law_same.mono (by first|decide|exact Nat.le_refl _|omega)) hr rfl (pa_cons (pv 0) (pa_cons (pv 1) pa_nil))))) pa_nil))))))) pss_nil)
  (pss_cons (ps_if (PW.pt (pw_and (pt_val (pe_callB (isiK K) rfl T.n_isinstance (by rfl) (pa_cons (pv 1) (pa_cons (pe_bltn rfl T.n_int (by rfl) (v := .ty "int") rfl) pa_nil)))) (pw_and1 (pt_not (pt_val (pe_callB (isiK K) rfl T.n_isinstance (by rfl) (pa_cons (pv 1) (pa_cons (pe_bltn rfl T.n_bool (by rfl) (v := .ty "bool") rfl) pa_nil)))))))) (pss_one (ps_ret (pe_and (pe_callB (isiK K) rfl T.n_isinstance (by rfl) (pa_cons (pv 0) (pa_cons (pe_bltn rfl T.n_int (by rfl) (v := .ty "int") rfl) pa_nil))) (pe_and (pe_not (pe_callB (isiK K) rfl T.n_isinstance (by rfl) (pa_cons (pv 0) (pa_cons (pe_bltn rfl T.n_bool (by rfl) (v := .ty "bool") rfl) pa_nil)))) (pe_one (pe_cmpR (eqK K hu6) (pv 0) (pv 1) (nomark _))))))) pss_nil)
  (pss_cons (ps_if (pt_val (pe_callB (isiK K) rfl T.n_isinstance (by rfl) (pa_cons (pv 1) (pa_cons (pe_bltn rfl T.n_str (by rfl) (v := .ty "str") rfl) pa_nil)))) (pss_one (ps_ret (pe_and (pe_callB (isiK K) rfl T.n_isinstance (by rfl) (pa_cons (pv 0) (pa_cons (pe_bltn rfl T.n_str (by rfl) (v := .ty "str") rfl) pa_nil))) (pe_one (pe_cmpR (eqK K hu6) (pv 0) (pv 1) (nomark _)))))) pss_nil)
  (pss_cons (ps_if (pt_cmpR g_is (pv 1) pe_non (nomark _)) (pss_one (ps_ret (pe_cmpR g_is (pv 0) pe_non (nomark _)))) pss_nil)
  (pss_one (ps_ret (pe_and (pe_callB (isiK K) rfl T.n_isinstance (by rfl) (pa_cons (pv 0) (pa_cons (pe_bltn rfl T.n_bool (by rfl) (v := .ty "bool") rfl) pa_nil))) (pe_one (pe_cmpR (eqK K hu6) (pv 0) (pv 1) (nomark _)))))))))),?_⟩
 cases d with
 | none=>
  have d1':=d1
  have d2':=d2
  unfold Den at d1' d2'
  subst d1' d2'
  refine ⟨_,rfl,by show 2≤sizeLine;decide,fun p H1 n1=>⟨_,p,["list", "tuple"], .none,false,rfl,n1.at,d2,rfl,_,rfl,iteF ?_⟩⟩
  refine ⟨_,rfl, .inl ⟨_, "int", .none,false,rfl,d2,rfl,_,rfl,iteF ?_⟩⟩
  refine ⟨_,rfl, .inl ⟨_, "str", .none,false,rfl,d2,rfl,_,rfl,iteF ?_⟩⟩
  exact ⟨_,rfl, .inl ⟨rfl,_,rfl,iteT ⟨_,rfl, .inl ⟨rfl,q H1 n1.same⟩⟩⟩⟩
 | bool b=>
  have d1':=d1
  have d2':=d2
  unfold Den at d1' d2'
  subst d1' d2'
  refine ⟨_,rfl,by show 2≤sizeLine;decide,fun p H1 n1=>⟨_,p,["list", "tuple"], .bool b,false,rfl,n1.at,d2,rfl,_,rfl,iteF ?_⟩⟩
  refine ⟨_,rfl, .inl ⟨_, "int", .bool b,true,rfl,d2,rfl,_,rfl,iteT ⟨_,rfl, .inl ⟨_, "bool", .bool b,true,rfl,d2,rfl,_,rfl,iteF ?_⟩⟩⟩⟩
  refine ⟨_,rfl, .inl ⟨_, "str", .bool b,false,rfl,d2,rfl,_,rfl,iteF ?_⟩⟩
  refine ⟨_,rfl, .inl ⟨rfl,_,rfl,iteF ?_⟩⟩
  refine ⟨_,rfl, .inl ⟨_, "bool", .bool b,true,rfl,d1,rfl,_,rfl,iteT ⟨_,rfl,_,rfl, .inl ⟨rfl,?_⟩⟩⟩⟩
  rw [decide_eq_true rfl]
  exact q H1 n1.same
 | int i=>
  have d1':=d1
  have d2':=d2
  unfold Den at d1' d2'
  subst d1' d2'
  refine ⟨_,rfl,by show 2≤sizeLine;decide,fun p H1 n1=>⟨_,p,["list", "tuple"], .int i,false,rfl,n1.at,d2,rfl,_,rfl,iteF ?_⟩⟩
  refine ⟨_,rfl, .inl ⟨_, "int", .int i,true,rfl,d2,rfl,_,rfl,iteT ⟨_,rfl, .inl ⟨_, "bool", .int i,false,rfl,d2,rfl,_,rfl,iteT ?_⟩⟩⟩⟩
  refine ⟨_,rfl, .inl ⟨_, "int", .int i,true,rfl,d1,rfl,_,rfl,iteT ⟨_,rfl, .inl ⟨_, "bool", .int i,false,rfl,d1,rfl,_,rfl,_,rfl,iteT ⟨_,rfl,_,rfl, .inl ⟨rfl,?_⟩⟩⟩⟩⟩⟩
  rw [decide_eq_true rfl]
  exact q H1 n1.same
 | str x=>
  have d1':=d1
  have d2':=d2
  unfold Den at d1' d2'
  subst d1' d2'
  refine ⟨_,rfl,by show 2≤sizeLine;decide,fun p H1 n1=>⟨_,p,["list", "tuple"], .str x,false,rfl,n1.at,d2,rfl,_,rfl,iteF ?_⟩⟩
  refine ⟨_,rfl, .inl ⟨_, "int", .str x,false,rfl,d2,rfl,_,rfl,iteF ?_⟩⟩
  refine ⟨_,rfl, .inl ⟨_, "str", .str x,true,rfl,d2,rfl,_,rfl,iteT ?_⟩⟩
  refine ⟨_,rfl, .inl ⟨_, "str", .str x,true,rfl,d1,rfl,_,rfl,iteT ⟨_,rfl,_,rfl, .inl ⟨rfl,?_⟩⟩⟩⟩
  rw [decide_eq_true rfl]
  exact q H1 n1.same
 | list ds=>
  have e1:=d1
  have e2:=d2
  unfold Den at e1 e2
  obtain ⟨a1,vs1,rfl,s1,ds1⟩:=e1
  obtain ⟨a2,vs2,rfl,s2,ds2⟩:=e2
  simp only [PyData.depth] at hn
  simp only [PyData.weight] at hw
  have hlw:=len_weight ds
  refine ⟨_,rfl,by show 2≤sizeLine;decide,fun p H1 n1=>⟨_,p,["list", "tuple"], .list ds,true,rfl,n1.at,d2.same n1.same,rfl,_,rfl,iteT ?_⟩⟩
  have b1:=d1.same n1.same
  have b2:=d2.same n1.same
  refine ⟨_,rfl, .inl ⟨_, "list", .list ds,true,rfl,b1,rfl,_,rfl, .inl ⟨_, "list", .list ds,true,rfl,b2,rfl, .inl ⟨rfl,_,rfl,iteF ?_⟩⟩⟩⟩
  refine ⟨_,rfl, .inl ⟨_, "tuple", .list ds,false,rfl,b1,rfl,_,rfl, .inl ⟨_, "tuple", .list ds,false,rfl,b2,rfl, .inl ⟨rfl,_,rfl,iteF ?_⟩⟩⟩⟩
  refine ⟨_,rfl,_,_,rfl, .inl ⟨vs1,n1.same.seq s1,rfl⟩,_,rfl,_,_,rfl, .inl ⟨vs2,n1.same.seq s2,rfl⟩, .inl ⟨rfl,_,rfl,?_⟩⟩
  rw [decide_eq_true (show V.int (vs1.length:Nat)=V.int (vs2.length:Nat) by rw [ds1.len,ds2.len])]
  refine iteT ⟨_,rfl,_,rfl,false,false,a1,a2,rfl,⟨_,n1.same.seq s1⟩,⟨_,n1.same.seq s2⟩,?_⟩
  refine comp_go (N:=ds.length) (fun i ys H'=>Same H1 H'∧ys=(List.replicate i true).map V.bl) ⟨Same.refl _,rfl⟩ ?_ ?_
  ·rintro i ys H2 Nx hi ⟨sm,rfl⟩ nx
   have sm2:=n1.same.trans sm
   obtain ⟨x,hx,dx⟩:=ds1.get (i:=i) (d:=ds[i]) (List.getElem?_eq_getElem hi)
   obtain ⟨y,hy,dy⟩:=ds2.get (i:=i) (d:=ds[i]) (List.getElem?_eq_getElem hi)
   have q1:SqK false K H2 a1 vs1:=sm2.seq s1
   have q2:SqK false K H2 a2 vs2:=sm2.seq s2
   refine ⟨⟨_,_,_,_,q1,q2,hx,hy⟩,by rw [List.length_map,List.length_replicate];exact Nat.lt_of_lt_of_le (show i<10000000 by omega) (by decide),?_⟩
   rintro x' H3 ⟨T',rfl,hN⟩
   have n3:=hN _ _ _ _ q1 q2 hx hy
   refine ⟨T',_,rfl,SqT.of n3.at,rfl,_,_,rfl,_,_,rfl,rfl,?_⟩
   have sm3:=sm2.trans n3.same
   refine ⟨_,rfl,_,rfl,x,y,ds[i],rfl,dx.same sm3,dy.same sm3,?_,?_,fun H4 sm4=>nx _ _ ⟨sm.trans (n3.same.trans sm4),?_⟩⟩
   ·have:=depth_at (n:=n-1) (by omega) (List.getElem_mem hi)
    omega
   ·exact weight_at hw (List.getElem_mem hi)
   ·rw [List.replicate_succ',List.map_append];rfl
  ·rintro ys H2 ⟨sm,rfl⟩
   have sm2:=n1.same.trans sm
   have q1:SqK false K H2 a1 vs1:=sm2.seq s1
   have q2:SqK false K H2 a2 vs2:=sm2.seq s2
   refine ⟨⟨_,_,q1,q2, .inl (by rw [ds1.len];exact Nat.le_refl _)⟩,fun p2 hp2 => ?_⟩
   refine ⟨p2,List.replicate ds.length true,rfl,SqL.of upd_same,?_⟩
   rw [all_true]
   exact q _ (sm2.trans (same_new hp2 _))
 | tuple ds=>
  have e1:=d1
  have e2:=d2
  unfold Den at e1 e2
  obtain ⟨a1,vs1,rfl,s1,ds1⟩:=e1
  obtain ⟨a2,vs2,rfl,s2,ds2⟩:=e2
  simp only [PyData.depth] at hn
  simp only [PyData.weight] at hw
  have hlw:=len_weight ds
  refine ⟨_,rfl,by show 2≤sizeLine;decide,fun p H1 n1=>⟨_,p,["list", "tuple"], .tuple ds,true,rfl,n1.at,d2.same n1.same,rfl,_,rfl,iteT ?_⟩⟩
  have b1:=d1.same n1.same
  have b2:=d2.same n1.same
  refine ⟨_,rfl, .inl ⟨_, "list", .tuple ds,false,rfl,b1,rfl,_,rfl, .inl ⟨_, "list", .tuple ds,false,rfl,b2,rfl, .inl ⟨rfl,_,rfl,iteF ?_⟩⟩⟩⟩
  refine ⟨_,rfl, .inl ⟨_, "tuple", .tuple ds,true,rfl,b1,rfl,_,rfl, .inl ⟨_, "tuple", .tuple ds,true,rfl,b2,rfl, .inl ⟨rfl,_,rfl,iteF ?_⟩⟩⟩⟩
  refine ⟨_,rfl,_,_,rfl, .inr ⟨vs1,n1.same.seqT s1,rfl⟩,_,rfl,_,_,rfl, .inr ⟨vs2,n1.same.seqT s2,rfl⟩, .inl ⟨rfl,_,rfl,?_⟩⟩
  rw [decide_eq_true (show V.int (vs1.length:Nat)=V.int (vs2.length:Nat) by rw [ds1.len,ds2.len])]
  refine iteT ⟨_,rfl,_,rfl,true,true,a1,a2,rfl,⟨_,n1.same.seqT s1⟩,⟨_,n1.same.seqT s2⟩,?_⟩
  refine comp_go (N:=ds.length) (fun i ys H'=>Same H1 H'∧ys=(List.replicate i true).map V.bl) ⟨Same.refl _,rfl⟩ ?_ ?_
  ·rintro i ys H2 Nx hi ⟨sm,rfl⟩ nx
   have sm2:=n1.same.trans sm
   obtain ⟨x,hx,dx⟩:=ds1.get (i:=i) (d:=ds[i]) (List.getElem?_eq_getElem hi)
   obtain ⟨y,hy,dy⟩:=ds2.get (i:=i) (d:=ds[i]) (List.getElem?_eq_getElem hi)
   have q1:SqK true K H2 a1 vs1:=sm2.seqT s1
   have q2:SqK true K H2 a2 vs2:=sm2.seqT s2
   refine ⟨⟨_,_,_,_,q1,q2,hx,hy⟩,by rw [List.length_map,List.length_replicate];exact Nat.lt_of_lt_of_le (show i<10000000 by omega) (by decide),?_⟩
   rintro x' H3 ⟨T',rfl,hN⟩
   have n3:=hN _ _ _ _ q1 q2 hx hy
   refine ⟨T',_,rfl,SqT.of n3.at,rfl,_,_,rfl,_,_,rfl,rfl,?_⟩
   have sm3:=sm2.trans n3.same
   refine ⟨_,rfl,_,rfl,x,y,ds[i],rfl,dx.same sm3,dy.same sm3,?_,?_,fun H4 sm4=>nx _ _ ⟨sm.trans (n3.same.trans sm4),?_⟩⟩
   ·have:=depth_at (n:=n-1) (by omega) (List.getElem_mem hi)
    omega
   ·exact weight_at hw (List.getElem_mem hi)
   ·rw [List.replicate_succ',List.map_append];rfl
  ·rintro ys H2 ⟨sm,rfl⟩
   have sm2:=n1.same.trans sm
   have q1:SqK true K H2 a1 vs1:=sm2.seqT s1
   have q2:SqK true K H2 a2 vs2:=sm2.seqT s2
   refine ⟨⟨_,_,q1,q2, .inl (by rw [ds1.len];exact Nat.le_refl _)⟩,fun p2 hp2 => ?_⟩
   refine ⟨p2,List.replicate ds.length true,rfl,SqL.of upd_same,?_⟩
   rw [all_true]
   exact q _ (sm2.trans (same_new hp2 _))
 | dict _=>unfold Den at d1;exact d1.elim
end
end Z
namespace Z
open PySem L2 PyProof.Rows
noncomputable abbrev sRev:Str := "zyxwvutsrqponmlkjihgfedcba"
theorem rev_at {i:Nat} (h:i<26):atI sRev.cps.toList (i:Nat)=some (122-i):=by
 have e:sRev.cps.toList=(List.range 26).map (122 - ·):=by decide +kernel
 rw [e]
 refine at_nat (by simpa using h) ?_
 show ((List.range 26).map (122 - ·))[i]? = _
 rw [List.getElem?_map,List.getElem?_range h]
 rfl
theorem ones_len:∀{xs:List Str},(∀x∈xs,∃ch:Nat,x=⟨#[ch]⟩)→(xs.flatMap (fun p=>p.cps.toList)).length=xs.length∧(xs.map (·.length)).sum=xs.length
 | [],_=>⟨rfl,rfl⟩
 | x :: r,h=>by
  obtain ⟨ch,rfl⟩:=h x List.mem_cons_self
  obtain ⟨h1,h3⟩:=ones_len fun y hy=>h y (List.mem_cons_of_mem _ hy)
  refine ⟨by simp at h1 ⊢;omega,?_⟩
  rw [List.map_cons,List.sum_cons,h3]
  show 1+_=_
  simp;omega
noncomputable def N80 (i:Nat) (x:Str):Prop:=∃y:List Nat,x.cps.toList=y++[122-i / 26,122-i % 26]∧1≤y.length∧y.length≤6∧∀ch∈y,97≤ch∧ch≤122
theorem N80.inj {i j:Nat} {x:Str} (h:N80 i x) (g:N80 j x) (hi:i<52) (hj:j<52):i=j:=by
 obtain ⟨y,e,_⟩:=h
 obtain ⟨z,f,_⟩:=g
 rw [e] at f
 obtain ⟨_,f⟩:=List.append_inj' f rfl
 injection f with f1 f
 injection f with f2 _
 omega
theorem N80.nam {i:Nat} {x:Str} (h:N80 i x) (hi:i<52):Nam x:=by
 obtain ⟨y,e,h1,h2,h3⟩:=h
 refine ⟨?_,?_,fun c hc => ?_⟩
 ·rw [str_len,e,List.length_append];omega
 ·rw [str_len,e,List.length_append];show y.length+2≤8;omega
 ·rw [e] at hc
  rcases List.mem_append.mp hc with hc|hc
  ·exact h3 c hc
  rcases List.mem_cons.mp hc with rfl|hc
  ·omega
  ·rw [List.mem_singleton.mp hc];omega
noncomputable abbrev ws10:List Str:=["set", "add", "take", "tell", "ask", "jump", "zero", "stop", "a", "d"]
noncomputable def sec (l:List Nat):Nat:=l.reverse.getD 1 0
theorem N80.word {i:Nat} {x:Str} (h:N80 i x) (hi:i<52):x ∉ ws10:=fun hx=>by
 obtain ⟨y,e,_⟩:=h
 have w:ws10.all (fun w=>decide (sec w.cps.toList<121))=true:=by decide +kernel
 have:=of_decide_eq_true (List.all_eq_true.mp w x hx)
 rw [e] at this
 unfold sec at this
 rw [List.reverse_append] at this
 have:122-i / 26<121:=this
 omega
theorem ws_nam:∀x∈ws10,Nam x:=fun x hx=>by
 have w:ws10.all (fun x=>decide (1≤x.length)&&decide (x.length≤8)&&x.cps.toList.all fun c=>decide (97≤c)&&decide (c≤122))=true:=by decide +kernel
 have:=List.all_eq_true.mp w x hx
 rw [Bool.and_eq_true,Bool.and_eq_true,decide_eq_true_iff,decide_eq_true_iff,List.all_eq_true] at this
 exact ⟨this.1.1,this.1.2,fun c hc=>by simpa using this.2 c hc⟩
noncomputable def Ns80 (ks:List Str):Prop:=∀(i:Nat) x,ks[i]? = some x→N80 i x
theorem Ns80.new {ks:List Str} {x:Str} (h:Ns80 ks) (hl:ks.length<52) (g:N80 ks.length x):x ∉ ks:=fun hx=>by
 obtain ⟨i,hi,e⟩:=List.getElem_of_mem hx
 have:=(h i x (by rw [List.getElem?_eq_getElem hi,e])).inj g (by omega) hl
 omega
theorem Ns80.snoc {ks:List Str} {x:Str} (h:Ns80 ks) (g:N80 ks.length x):Ns80 (ks++[x]):=fun i y e=>by
 by_cases hi:i<ks.length
 ·rw [List.getElem?_append_left hi] at e;exact h i y e
 ·rw [List.getElem?_append_right (by omega)] at e
  have hz:i-ks.length=0:=by have:=(List.getElem?_eq_some_iff.mp e).1;simp at this;omega
  rw [hz] at e
  cases e
  rw [show i=ks.length by omega];exact g
theorem Ns80.nodup {ks:List Str} (h:Ns80 ks) (hl:ks.length≤52):ks.Nodup:=by
 rw [List.nodup_iff_pairwise_ne,List.pairwise_iff_getElem]
 intro i j hi hj hij e
 have h1:=h i _ (List.getElem?_eq_getElem hi)
 have h2:=h j _ (List.getElem?_eq_getElem hj)
 rw [e] at h1
 have:=h1.inj h2 (by omega) (by omega)
 omega
theorem set_nodup {l:List Str} {k:Nat} {a:Str} (h:l.Nodup) (ha:a ∉ l):(l.set k a).Nodup:=by
 rw [List.nodup_iff_pairwise_ne,List.pairwise_iff_getElem] at h ⊢
 intro i j hi hj hij
 rw [List.length_set] at hi hj
 rw [List.getElem_set,List.getElem_set]
 split
 ·split
  ·omega
  ·exact fun z=>ha (by rw [z];exact List.getElem_mem _)
 ·split
  ·exact fun z=>ha (by rw [←z];exact List.getElem_mem _)
  ·exact h i j hi hj hij
structure Lb80 (m:Nat) (labs ws:List Str):Prop where
 len:labs.length=m
 nd:labs.Nodup
 nm:∀x∈labs,Nam x
 wnd:ws.Nodup
 wn:∀x∈ws,Nam x
 dj:∀x∈labs,x ∉ ws
theorem Ns80.lb {ks:List Str} (h:Ns80 ks) (hl:ks.length≤52):Lb80 ks.length ks ws10:=by
 have at':∀x∈ks,∃i,i<52∧N80 i x:=fun x hx=>by
  obtain ⟨i,hi,e⟩:=List.getElem_of_mem hx
  exact ⟨i,by omega,h i x (by rw [List.getElem?_eq_getElem hi,e])⟩
 exact ⟨rfl,h.nodup hl,fun x hx=>by obtain ⟨i,hi,g⟩:=at' x hx;exact g.nam hi,by decide,ws_nam,fun x hx=>by obtain ⟨i,hi,g⟩:=at' x hx;exact g.word hi⟩
theorem Lb80.step {m k j:Nat} {labs ws:List Str} {x:Str} (h:Lb80 m labs ws) (hx:ws[j]? = some x):Lb80 m (labs.set k x) (ws.eraseIdx j):=by
 have hm:x∈ws:=List.mem_of_getElem? hx
 refine ⟨by rw [List.length_set];exact h.len,set_nodup h.nd fun z=>h.dj x z hm,fun y hy => ?_,h.wnd.sublist (List.eraseIdx_sublist _ _),fun y hy=>h.wn y ((List.eraseIdx_sublist _ _).subset hy),fun y hy hw => ?_⟩
 ·rcases List.mem_or_eq_of_mem_set hy with hy|rfl
  ·exact h.nm y hy
  ·exact h.wn _ hm
 ·rcases List.mem_or_eq_of_mem_set hy with hy|rfl
  ·exact h.dj y hy ((List.eraseIdx_sublist _ _).subset hw)
  ·obtain ⟨i,hi,ne,e⟩:=List.mem_eraseIdx_iff_getElem.mp hw
   have nd:=h.wnd
   rw [List.nodup_iff_pairwise_ne,List.pairwise_iff_getElem] at nd
   obtain ⟨hj,e2⟩:=List.getElem?_eq_some_iff.mp hx
   rcases Nat.lt_or_gt_of_ne ne with q|q
   ·exact nd i j hi hj q (by rw [e,e2])
   ·exact nd j i hj hi q (by rw [e,e2])
noncomputable def Lf (labs:List Str) (t:Nat):Str:=labs.getD t ⟨#[]⟩
theorem Lf_at {labs:List Str} {t:Nat} (h:t<labs.length):labs[t]? = some (Lf labs t):=by
 unfold Lf;rw [List.getD_eq_getElem?_getD,List.getElem?_eq_getElem h];rfl
theorem Lb80.nam {m t:Nat} {labs ws:List Str} (h:Lb80 m labs ws) (ht:t<m):Nam (Lf labs t):=h.nm _ (List.mem_of_getElem? (Lf_at (by rw [h.len];exact ht)))
theorem Lb80.inj {m t u:Nat} {labs ws:List Str} (h:Lb80 m labs ws) (ht:t<m) (hu:u<m) (e:Lf labs t=Lf labs u):t=u:=by
 have nd:=h.nd
 rw [List.nodup_iff_pairwise_ne,List.pairwise_iff_getElem] at nd
 have l:=h.len
 obtain ⟨h1,e1⟩:=List.getElem?_eq_some_iff.mp (Lf_at (labs:=labs) (t:=t) (by omega))
 obtain ⟨h2,e2⟩:=List.getElem?_eq_some_iff.mp (Lf_at (labs:=labs) (t:=u) (by omega))
 rcases Nat.lt_trichotomy t u with q|q|q
 ·exact absurd (by rw [e1,e2,e]) (nd t u h1 h2 q)
 ·exact q
 ·exact absurd (by rw [e1,e2,e]) (nd u t h2 h1 q)
noncomputable def lns80 (rows:List Rw) (labs:List Str) (i:Nat) (c1 c2 c3:Bool):List Ln:=
 (if c1 then [.lb (Lf labs i)] else [])++(if c2 then [.lb (Lf labs (rows.length+1+i))] else [])++(if c3 then [.em] else [])
noncomputable def lrw (rows:List Rw) (i:Nat):List Ln:=match rows[i]? with
 | some r=>[.rw r]
 | none=>[]
structure Sh80 (rows:List Rw) (labs:List Str) (i:Nat) (ls:List Ln):Prop where
 rw':rowsOf ls=rows.take i
 lb:∀x∈lbsOf ls,∃t,x=Lf labs t∧t<rows.length+4∧(t<i∨(rows.length+1≤t∧t<rows.length+1+i))
 nd:(lbsOf ls).Nodup
 len:ls.length≤4*i
 ok:∀l∈ls,LnOk (Lf labs) 200 l
 at':∀t∈plcs rows,t<i→∃A C,ls=A ++ .lb (Lf labs t) :: C∧(rowsOf A).length=t
theorem Sh80.zero (rows:List Rw) (labs:List Str):Sh80 rows labs 0 []:=⟨rfl,(fun x h=>nomatch h),List.nodup_nil,Nat.le_refl _,(fun l h=>nomatch h),fun t _ h=>absurd h (Nat.not_lt_zero _)⟩
theorem Sh80.step {rows:List Rw} {labs ws:List Str} {i:Nat} {ls:List Ln} {c1 c2 c3:Bool} (h:Sh80 rows labs i ls) (g:Lb80 (rows.length+4) labs ws) (hn:rows.length≤200) (ok:∀r∈rows,r.ok rows.length) (hi:i≤rows.length) (h1:i∈plcs rows→c1=true) (h2:c2=true→i<3) :
  Sh80 rows labs (i+1) (ls++(lns80 rows labs i c1 c2 c3++lrw rows i)):=by
 have r0:rowsOf (lns80 rows labs i c1 c2 c3)=[]:=by unfold lns80;cases c1 <;> cases c2 <;> cases c3 <;> rfl
 have r1:rowsOf (lrw rows i)=(rows[i]?).toList:=by unfold lrw;cases rows[i]? <;> rfl
 have l1:lbsOf (lrw rows i)=[]:=by unfold lrw;cases rows[i]? <;> rfl
 have ll:(lrw rows i).length≤1:=by unfold lrw;cases rows[i]? <;> exact Nat.le_of_ble_eq_true rfl
 have l0:lbsOf (lns80 rows labs i c1 c2 c3)=(if c1 then [Lf labs i] else [])++(if c2 then [Lf labs (rows.length+1+i)] else []):=by unfold lns80;cases c1 <;> cases c2 <;> cases c3 <;> rfl
 have m0:∀x∈lbsOf (lns80 rows labs i c1 c2 c3),∃t,x=Lf labs t∧t<rows.length+4∧(t=i∨t=rows.length+1+i):=fun x hx=>by
  rw [l0] at hx
  rcases List.mem_append.mp hx with hx|hx
  ·cases c1 with
   | true=>exact ⟨i,List.mem_singleton.mp hx,by omega, .inl rfl⟩
   | false=>cases hx
  ·cases c2 with
   | true=>exact ⟨_,List.mem_singleton.mp hx,by have:=h2 rfl;omega, .inr rfl⟩
   | false=>cases hx
 refine ⟨?_,fun x hx => ?_,?_,?_,fun l hl => ?_,fun t ht hti => ?_⟩
 ·rw [rowsOf_app,rowsOf_app,r0,r1,h.rw',List.nil_append,List.take_succ]
 ·rw [lbsOf_app,lbsOf_app,l1,List.append_nil] at hx
  rcases List.mem_append.mp hx with hx|hx
  ·obtain ⟨t,e,e1,e2⟩:=h.lb x hx
   exact ⟨t,e,e1,by omega⟩
  ·obtain ⟨t,e,e1,e2⟩:=m0 x hx
   exact ⟨t,e,e1,by omega⟩
 ·rw [lbsOf_app,lbsOf_app,l1,List.append_nil]
  refine List.nodup_append.mpr ⟨h.nd,?_,fun a ha b hb e => ?_⟩
  ·rw [l0]
   cases c1 with
   | false=>
    cases c2 with
    | false=>exact List.nodup_nil
    | true=>exact List.nodup_cons.mpr ⟨(fun h=>nomatch h),List.nodup_nil⟩
   | true=>
    cases c2 with
    | false=>exact List.nodup_cons.mpr ⟨(fun h=>nomatch h),List.nodup_nil⟩
    | true=>
     refine List.nodup_cons.mpr ⟨fun z => ?_,List.nodup_cons.mpr ⟨(fun h=>nomatch h),List.nodup_nil⟩⟩
     have:=g.inj (by omega) (by have:=h2 rfl;omega) (List.mem_singleton.mp z)
     omega
  ·obtain ⟨t,e1,e2,e3⟩:=h.lb a ha
   obtain ⟨u,f1,f2,f3⟩:=m0 b hb
   have:=g.inj e2 f2 (by rw [←e1, ←f1,e])
   omega
 ·have:(lns80 rows labs i c1 c2 c3).length≤3:=by unfold lns80;cases c1 <;> cases c2 <;> cases c3 <;> exact Nat.le_of_ble_eq_true rfl
  have:=h.len
  rw [List.length_append,List.length_append]
  omega
 ·rcases List.mem_append.mp hl with hl|hl
  ·exact h.ok l hl
  rcases List.mem_append.mp hl with hl|hl
  ·unfold lns80 at hl
   rcases List.mem_append.mp hl with hl|hl
   ·rcases List.mem_append.mp hl with hl|hl
    ·cases c1 with
     | true=>rw [List.mem_singleton.mp hl];exact g.nam (by omega)
     | false=>cases hl
    ·cases c2 with
     | true=>rw [List.mem_singleton.mp hl];exact g.nam (by have:=h2 rfl;omega)
     | false=>cases hl
   ·cases c3 with
    | true=>rw [List.mem_singleton.mp hl];trivial
    | false=>cases hl
  ·unfold lrw at hl
   cases e:rows[i]? with
   | none=>rw [e] at hl;cases hl
   | some r=>
    rw [e] at hl
    rw [List.mem_singleton.mp hl]
    have hr:r∈rows:=List.mem_of_getElem? e
    refine ⟨?_,fun t ht=>g.nam (by have:=plc_le (ok r hr) ht;omega)⟩
    have:=ok r hr
    cases r with
    | jump t=>exact Nat.le_trans this hn
    | zero p t=>exact ⟨this.1,Nat.le_trans this.2 hn⟩
    | set p q=>exact this
    | add p q=>exact this
    | take p q=>exact this
    | tell p=>exact this
    | ask p=>exact this
    | stop=>exact this
 ·by_cases e:t<i
  ·obtain ⟨A,C,e1,e2⟩:=h.at' t ht e
   exact ⟨A,C++(lns80 rows labs i c1 c2 c3++lrw rows i),by rw [e1,List.append_assoc,List.cons_append],e2⟩
  ·have e:t=i:=by omega
   subst e
   refine ⟨ls,(if c2 then [.lb (Lf labs (rows.length+1+t))] else [])++(if c3 then [.em] else [])++lrw rows t,?_,by rw [h.rw',List.length_take];omega⟩
   unfold lns80
   rw [h1 ht,if_pos rfl]
   simp only [List.append_assoc,List.cons_append,List.nil_append]
theorem Sh80.sheet {rows:List Rw} {labs ws:List Str} {ls:List Ln} (h:Sh80 rows labs (rows.length+1) ls) (hn:rows.length≤40) (ok:∀r∈rows,r.ok rows.length):Ex2 fun (L:Nat→Str) (ls':List Ln)=>shT (Lf labs) ls=shT L ls'∧Sheet L ls'∧rowsOf ls'=rows:=by
 have er:rowsOf ls=rows:=by rw [h.rw',List.take_of_length_le (by omega)]
 cases ls with
 | nil=>
  have er:[]=rows:=er
  subst er
  exact ⟨Lf labs,[.em],rfl,⟨(fun z=>nomatch z),fun l hl=>by rw [List.mem_singleton.mp hl];trivial,List.nodup_nil,Nat.zero_le _,by show 1≤1000;omega,fun r hr=>nomatch hr⟩,rfl⟩
 | cons l0 l1=>
  refine ⟨Lf labs,l0 :: l1,rfl,⟨(fun z=>nomatch z),h.ok,h.nd,by rw [er];omega,by have:=h.len;omega,fun r hr t ht => ?_⟩,er⟩
  rw [er] at hr
  exact h.at' t (plcs_in hr ht) (by have:=plc_le (ok r hr) ht;omega)
end Z
namespace Z
open PySem L2 PyProof.Rows
noncomputable def spWrd:Sp:=fun vs H Q _=>Ex4 fun (b c:Addr) (t:Int) (m:Nat)=>vs=[.ref b, .int m]∧Bx H b c t∧0≤t∧t<9000000∧1≤m∧m≤100∧∀(x:Str) H' t',1≤x.length→x.length≤m→(∀ch∈x.cps.toList,97≤ch∧ch≤122)→Step b c H H' t t' (m+1)→Q (.str x) H'
noncomputable def spSht (K:PySem.W.Frag):Sp:=fun vs H Q _=>Ex6 fun (b c:Addr) (t:Int) (p:Addr) (us:List V) (rows:List Rw)=>∃e:Bool,vs=[.ref b, .ref p, .bl e]∧Bx H b c t∧0≤t∧t<8000000∧H p=some (.lst us)∧p≠b∧p≠c∧Tups H rows us∧rows.length≤40∧(∀r∈rows,r.ok rows.length) ∧
 ∀(L:Nat→Str) (ls:List Ln) H' t',Sheet L ls→rowsOf ls=rows→Step b c H H' t t' 1000→Q (.str (shT L ls)) H'
theorem er_map {α β:Type} (f : α → β):∀(l:List α) (i:Nat),(l.map f).eraseIdx i=(l.eraseIdx i).map f
 | [],_=>rfl
 | _ :: _,0=>rfl
 | a :: l,i+1=>congrArg (f a :: ·) (er_map f l i)
theorem inV_nats {zs:List Nat} {k:Nat} : inV (.int (k:Nat)) ((zs.map fun t:Nat=>(t:Int)).map V.int)=true ↔ k∈zs:=by
 unfold inV
 rw [List.map_map,List.any_map,List.any_eq_true]
 constructor
 ·rintro ⟨c,hc,e⟩
  have e:((c:Nat):Int)=k:=by simpa [eqV] using e
  rw [show k=c by omega];exact hc
 ·intro h
  exact ⟨k,h,by simp [eqV]⟩
structure G80 (b c:Addr) (H Hx:Hp) (t tx:Int) (lp rl:Addr) (labs:List Str) (ls:List Ln) (N:Int):Prop where
 lb:Hx lp=some (.lst (labs.map V.str))
 rl:Hx rl=some (.lst ((ls.map (lnT (Lf labs))).map V.str))
 st:Step b c H Hx t tx N
theorem G80.step {b c:Addr} {H Hx Hy:Hp} {t tx ty:Int} {lp rl:Addr} {labs:List Str} {ls:List Ln} {N M:Int} (g:G80 b c H Hx t tx lp rl labs ls N) (s:Step b c Hx Hy tx ty M) (l0:H lp=none) (r0:H rl=none) (bx:Bx H b c t):G80 b c H Hy t ty lp rl labs ls (N+M):=
 ⟨s.old g.lb (bx.ne_new l0).1 (bx.ne_new l0).2,s.old g.rl (bx.ne_new r0).1 (bx.ne_new r0).2,g.st.trans s⟩
theorem G80.same {b c:Addr} {H Hx Hy:Hp} {t tx:Int} {lp rl:Addr} {labs:List Str} {ls:List Ln} {N:Int} (g:G80 b c H Hx t tx lp rl labs ls N) (s:Same Hx Hy):G80 b c H Hy t tx lp rl labs ls N:=
 ⟨s _ _ g.lb,s _ _ g.rl,(g.st.trans (Step.same g.st.bx s)).more (by omega)⟩
theorem G80.app {b c:Addr} {H Hx Hy:Hp} {t tx:Int} {lp rl:Addr} {labs:List Str} {ls:List Ln} {N:Int} {l:Ln} (g:G80 b c H Hx t tx lp rl labs ls N) (r0:H rl=none) (bx:Bx H b c t) (ne:lp≠rl) (cg:Chg Hx rl (.lst ((ls.map (lnT (Lf labs))).map V.str++[.str (lnT (Lf labs) l)])) Hy):G80 b c H Hy t tx lp rl labs (ls++[l]) N:=
 ⟨by rw [cg.ne ne];exact g.lb,by rw [cg.at];simp only [List.map_append,List.map_cons,List.map_nil],g.st.chgN cg r0 (bx.ne_new r0).1 (bx.ne_new r0).2⟩
section
variable {P:Program} {w:World} {K:PySem.W.Frag} {mg:Str→Option Value} {base:Heap} {f:Addr} {fd:FuncData} {C:Addr}
theorem sc_law_word:FnScope ["_law_state", "_law_most", "_law_letters"] ["_law_state", "_law_most"] (defScope (top i_law_word)):=⟨rfl,rfl,rfl,by decide +kernel,rfl,by decide +kernel,by decide +kernel⟩
theorem ok_wrd (F:Fun K "_law_word" "_law_word" (top i_law_word) f fd) (T:Nm mg) (f_law_take:Fn P w K mg base 1 "_law_take" ["_law_state", "_law_many_here"] spTk):FnOk P w K mg base CX0 2 f fd ["_law_state", "_law_most"] spWrd:=by
 refine F.ok sc_law_word (fun vs H Q E h => ?_) (fun cdv A outer s H vs Q E hr h => ?_)
 ·obtain ⟨b,c,t,n,rfl,_⟩:=h
  rfl
 obtain ⟨b,c,t,m,rfl,bx,t0,t1,m1,mh,q⟩:=h
 have hu6:=hr.units
 refine ⟨_,(pss_cons (ps_set (i:=2) sc_law_word.nd rfl (Or.inr rfl) pe_str)
  (pss_one (ps_ret (bmK K PySem.F.plainAttrs_str PySem.F.slot_str_join PySem.F.type_str_join (joinK K) pe_str (pa_cons (pe_lcomp rfl (comp_ok (Nc:=["_law_turn"]) (Fc:=["_law_letters", "_law_state"]) (js:=[2,0])) (pi_range1 rfl T.n_range (pa_cons (pe_op addN pe_int (pe_fn (f_law_take.mono (by decide)) hr rfl (pa_cons (pv 0) (pa_cons (pv 1) pa_nil)))) pa_nil)) (gk_name (i:=0) (n:=1) (by decide)) (fun _ _ _ _ _=>(pg_name (i:=0) (ndS ["_law_turn", "_law_letters", "_law_state"]) rfl (Or.inl rfl))) (fun _ _ _ _ _=>pts_nil) (fun _ _ _ _ _=>(pe_ix (ixK K) (pv 1) (pe_fn (f_law_take.mono (by decide)) hr rfl (pa_cons (pv 2) (pa_cons pe_int pa_nil))) (fun _ _=>rfl)))) pa_nil))))),?_⟩
 have sl:sSmall.length=26:=by decide +kernel
 refine gn ⟨rfl,_,rfl,_,rfl,b,c,t,m,rfl,bx,by omega,by omega,by omega,by omega,fun r H1 r0 r1 st1 => .inl ⟨_,_,rfl,rfl,_,rfl,by omega,by omega,?_⟩⟩
 refine comp_go (N:=(1+r).toNat) (fun k ys H'=>Ex2 fun (zs:List Str) (t':Int)=>ys=zs.map V.str∧zs.length=k∧(∀x∈zs,∃ch:Nat,x=⟨#[ch]⟩∧97≤ch∧ch≤122)∧Step b c H H' t t' (1+k)) ⟨[],_,rfl,rfl,(fun _ h=>nomatch h),st1.more (by omega)⟩ ?_ ?_
 ·intro k ys H2 Ny hk hz_ ny
  refine Elim.el hz_ _ ?_
  clear hz_
  rintro zs t2 rfl hzl hz st2
  have ub2:=st2.ub
  have lo2:=st2.le
  refine ⟨hk,by rw [List.length_map,hzl];exact Nat.lt_of_lt_of_le (show k<1000 by omega) (by decide),?_⟩
  rintro x H3 ⟨rfl,rfl⟩
  refine gn ?_
  dsimp only [tYes]
  rw [if_pos rfl]
  refine ⟨_,rfl,_,rfl,b,c,t2,26,rfl,st2.bx,by omega,by omega,by decide,by decide,fun d H4 d0 d1 st4 => ?_⟩
  obtain ⟨d,rfl⟩:∃k:Nat,d=k:=⟨d.toNat,by omega⟩
  refine .inr (.inr ⟨_,_,_,rfl,rfl,by rw [show (Str.ofString "abcdefghijklmnopqrstuvwxyz")=sSmall from rfl,sl];decide,small_at (by omega),ny _ _ ⟨zs++[⟨#[97+d]⟩],_,by rw [List.map_append];rfl,by rw [List.length_append,hzl];rfl,fun x hx => ?_,(st2.trans st4).more (by omega)⟩⟩)
  rcases List.mem_append.mp hx with h|h
  ·exact hz x h
  ·exact ⟨_,List.mem_singleton.mp h,by omega,by omega⟩
 ·intro ys H2
  refine Elim.go ?_
  rintro zs t2 rfl hzl hz st2
  refine ⟨Nat.le_refl _,fun p hp=>⟨_,p,zs,rfl,rfl,SqL.of upd_same,?_,?_⟩⟩
  ·rw [(ones_len fun x hx=>by obtain ⟨k,e,_⟩:=hz x hx;exact ⟨k,e⟩).2]
   show zs.length+zs.length*0≤16777216
   omega
  ·have hn:New H2 p (.lst (zs.map V.str)) (upd H2 p (.lst (zs.map V.str))):=⟨hp,rfl⟩
   have hjl:(Txt.join "" zs).length=zs.length:=by
    rw [str_len,join_list0]
    exact (ones_len fun x hx=>by obtain ⟨k,e,_⟩:=hz x hx;exact ⟨k,e⟩).1
   refine q _ _ t2 (by rw [hjl];omega) (by rw [hjl];omega) (fun ch hc => ?_) ((st2.newN hn).more (by omega))
   rw [join_list0] at hc
   obtain ⟨x,hx,hc⟩:=List.mem_flatMap.mp hc
   obtain ⟨k,rfl,h1,h2⟩:=hz x hx
   have hc:ch∈[k]:=hc
   rw [List.mem_singleton.mp hc]
   exact ⟨h1,h2⟩
theorem sc_law_sheet:FnScope ["_law_state", "_law_program_here", "_law_empty", "_law_names", "_law_letters", "_law_labels", "_law_words", "_law_turn", "_law_rows", "_law_place", "_law_row"] ["_law_state", "_law_program_here", "_law_empty"] (defScope (top i_law_sheet)):=⟨rfl,rfl,rfl,by decide +kernel,rfl,by decide +kernel,by decide +kernel⟩
theorem ok_sht (F:Fun K "_law_sheet" "_law_sheet" (top i_law_sheet) f fd) (T:Nm mg) (f_law_take:Fn P w K mg base 1 "_law_take" ["_law_state", "_law_many_here"] spTk) (f_law_word:Fn P w K mg base 2 "_law_word" ["_law_state", "_law_most"] spWrd):FnOk P w K mg base CX0 3 f fd ["_law_state", "_law_program_here", "_law_empty"] (spSht K):=by
 refine F.ok sc_law_sheet (fun vs H Q E h => ?_) (fun cdv A outer s H vs Q E hr h => ?_)
 ·obtain ⟨b,c,t,p,us,rows,e,rfl,_⟩:=h
  rfl
 obtain ⟨b,c,t,p,us,rows,em,rfl,bx,t0,t1,hp,pb,pc,hT,hn,ok,q⟩:=h
 have hu:=hu_of hr
 have hu6:=hr.units
 have hu66:=hu66_of hr
 have small:∀{n:Nat},n≤10000→n<sizeLine:=fun h=>Nat.lt_of_le_of_lt h (by decide)
 have ud:us.length=rows.length:=hT.1
 have sl:sRev.length=26:=by decide +kernel
 refine ⟨_,(pss_cons (ps_set (i:=3) sc_law_sheet.nd rfl (Or.inl rfl) dnewN)
  (pss_cons (ps_set (i:=4) sc_law_sheet.nd rfl (Or.inl rfl) pe_str)
  (pss_cons (ps_while PassesOwn.never (pt_cmpR op_lt (pe_callB call_lenD rfl T.n_len (by rfl) (pa_cons (pv 3) pa_nil)) (pe_op addN (pe_callB (lenK K) rfl T.n_len (by rfl) (pa_cons (pv 1) pa_nil)) pe_int) (nomark _)) (pss_one (ps_dput hu (pv 3) (pe_op addN (pe_op addN (pe_fn (f_law_word.mono (by decide)) hr rfl (pa_cons (pv 0) (pa_cons pe_int pa_nil))) (pe_ix (ixK K) (pv 4) (pe_op op_fdiv (pe_callB call_lenD rfl T.n_len (by rfl) (pa_cons (pv 3) pa_nil)) pe_int) (fun _ _=>rfl))) (pe_ix (ixK K) (pv 4) (pe_op op_mod (pe_callB call_lenD rfl T.n_len (by rfl) (pa_cons (pv 3) pa_nil)) pe_int) (fun _ _=>rfl))) pe_bl rfl)))
  (pss_cons (ps_par (i:=5) (j:=6) rfl sc_law_sheet.nd rfl rfl (by decide) rfl rfl (pa_cons (pe_callTy (listD rfl) rfl T.n_list (by rfl) (pa_cons (pv 3) pa_nil)) (pa_cons (lstN (pa_cons pe_str (pa_cons pe_str (pa_cons pe_str (pa_cons pe_str (pa_cons pe_str (pa_cons pe_str (pa_cons pe_str (pa_cons pe_str (pa_cons pe_str (pa_cons pe_str pa_nil))))))))))) pa_nil)) rfl)
  (pss_cons (ps_for PassesOwn.never rfl (pi_range1 rfl T.n_range (pa_cons (pe_fn (f_law_take.mono (by decide)) hr rfl (pa_cons (pv 0) (pa_cons pe_int pa_nil))) pa_nil)) (pg_name (i:=7) sc_law_sheet.nd rfl (Or.inl rfl)) (pss_one (ps_asg (bmK K PySem.F.plainAttrs_list PySem.F.slot_list_pop PySem.F.type_list_pop popAtN (pv 6) (pa_cons (pe_fn (f_law_take.mono (by decide)) hr rfl (pa_cons (pv 0) (pa_cons (pe_callB (lenK K) rfl T.n_len (by rfl) (pa_cons (pv 6) pa_nil)) pa_nil))) pa_nil)) (pg_sub (pv 5) (pe_fn (f_law_take.mono (by decide)) hr rfl (pa_cons (pv 0) (pa_cons (pe_callB (lenK K) rfl T.n_len (by rfl) (pa_cons (pv 5) pa_nil)) pa_nil))) set_list))))
  (pss_cons (ps_set (i:=8) sc_law_sheet.nd rfl (Or.inl rfl) (lstN pa_nil))
  (pss_cons (ps_for PassesOwn.never rfl (pi_range1 rfl T.n_range (pa_cons (pe_op addN (pe_callB (lenK K) rfl T.n_len (by rfl) (pa_cons (pv 1) pa_nil)) pe_int) pa_nil)) (pg_name (i:=9) sc_law_sheet.nd rfl (Or.inl rfl)) (pss_cons (ps_if (PW.pt (pw_or (pt_cmpR (inK K) (pv 9) (pe_lcomp rfl (comp_ok (Nc:=["_law_row"]) (Fc:=[]) (js:=[])) (piK K (pv 1)) (gk_name (i:=0) (n:=1) (by decide)) (fun _ _ _ _ _=>(pg_name (i:=0) (ndS ["_law_row"]) rfl (Or.inl rfl))) (fun _ _ _ _ _=>(pts_one (pt_cmpR (inK K) (pe_ix (ixK K) (pv 0) pe_int (fun _ _=>rfl)) (tupN (pa_cons pe_str (pa_cons pe_str pa_nil))) (by with_unfolding_all rfl)))) (fun _ _ _ _ _=>(pe_ix (ixK K) (pv 0) (pe_un un_neg pe_int) (fun _ _=>rfl)))) (by with_unfolding_all rfl)) (pw_or1 (pt_cmpR (eqK K hu6) (pe_fn (f_law_take.mono (by decide)) hr rfl (pa_cons (pv 0) (pa_cons pe_int pa_nil))) pe_int (nomark _))))) (pss_one (ps_expr (bmK K PySem.F.plainAttrs_list PySem.F.slot_list_append PySem.F.type_list_append appendN (pv 8) (pa_cons (pe_op addN (pe_ix (ixK K) (pv 5) (pv 9) (fun _ _=>rfl)) pe_str) pa_nil)))) pss_nil)
  (pss_cons (ps_if (PW.pt (pw_and (pt_cmpR op_lt (pv 9) pe_int (nomark _)) (pw_and1 (pt_cmpR (eqK K hu6) (pe_fn (f_law_take.mono (by decide)) hr rfl (pa_cons (pv 0) (pa_cons pe_int pa_nil))) pe_int (nomark _))))) (pss_one (ps_expr (bmK K PySem.F.plainAttrs_list PySem.F.slot_list_append PySem.F.type_list_append appendN (pv 8) (pa_cons (pe_op addN (pe_ix (ixK K) (pv 5) (pe_op addN (pe_op addN (pe_callB (lenK K) rfl T.n_len (by rfl) (pa_cons (pv 1) pa_nil)) pe_int) (pv 9)) (fun _ _=>rfl)) pe_str) pa_nil)))) pss_nil)
  (pss_cons (ps_if (PW.pt (pw_and (pt_val (pv 2)) (pw_and1 (pt_cmpR (eqK K hu6) (pe_fn (f_law_take.mono (by decide)) hr rfl (pa_cons (pv 0) (pa_cons pe_int pa_nil))) pe_int (nomark _))))) (pss_one (ps_expr (bmK K PySem.F.plainAttrs_list PySem.F.slot_list_append PySem.F.type_list_append appendN (pv 8) (pa_cons pe_str pa_nil)))) pss_nil)
  (pss_one (ps_if (pt_cmpR op_lt (pv 9) (pe_callB (lenK K) rfl T.n_len (by rfl) (pa_cons (pv 1) pa_nil)) (nomark _)) (pss_cons (ps_set (i:=10) sc_law_sheet.nd rfl (Or.inl rfl) (pe_ix (ixK K) (pv 1) (pv 9) (fun _ _=>rfl)))
  (pss_cons (ps_if (pt_cmpR (inK K) (pe_ix (ixK K) (pv 10) pe_int (fun _ _=>rfl)) (tupN (pa_cons pe_str (pa_cons pe_str pa_nil))) (by with_unfolding_all rfl)) (pss_one (ps_set (i:=10) sc_law_sheet.nd rfl (Or.inl rfl) (pe_op (addT K) (pe_slice (slTN K) (pv 10) po_none (po_some (pe_un un_neg pe_int))) (tupN (pa_cons (pe_ix (ixK K) (pv 5) (pe_ix (ixK K) (pv 10) (pe_un un_neg pe_int) (fun _ _=>rfl)) (fun _ _=>rfl)) pa_nil))))) pss_nil)
  (pss_one (ps_expr (bmK K PySem.F.plainAttrs_list PySem.F.slot_list_append PySem.F.type_list_append appendN (pv 8) (pa_cons (bmK K PySem.F.plainAttrs_str PySem.F.slot_str_join PySem.F.type_str_join (joinK K) pe_str (pa_cons (pe_lcomp rfl (comp_ok (Nc:=["_law_part"]) (Fc:=[]) (js:=[])) (pi_tupK K (pv 10)) (gk_name (i:=0) (n:=1) (by decide)) (fun _ _ _ _ _=>(pg_name (i:=0) (ndS ["_law_part"]) rfl (Or.inl rfl))) (fun _ _ _ _ _=>pts_nil) (fun _ _ _ _ _=>(pe_callTy (strK K hr.gd hu6) rfl T.n_str (by rfl) (pa_cons (pv 0) pa_nil)))) pa_nil)) pa_nil)))))) pss_nil))))))
  (pss_one (ps_ret (bmK K PySem.F.plainAttrs_str PySem.F.slot_str_join PySem.F.type_str_join (joinK K) pe_str (pa_cons (pv 8) pa_nil))))))))))),?_⟩
 refine fun d H1 n1=>gn ?_
 obtain ⟨db,dc⟩:=bx.ne_new n1.nn
 have st1:=(Step.refl bx).newN n1
 dsimp only
 refine asgCut (te:=tC _) (fun v H'=>v = .str sRev∧H1=H') (fun Qn qn=>qn _ _ ⟨rfl,rfl⟩) ?_
 rintro _ _ ⟨rfl,rfl⟩
 refine gn ?_
 refine seqCut (t:=tWhile _ _) (fun σ H'=>Ex2 fun (ks:List Str) (t':Int) => σ=[some (.ref b),some (.ref p),some (.bl em),some (.ref d),some (.str sRev),none,none,none,none,none,none]∧ks.length=rows.length+4∧Ns80 ks∧(lbD ks).map (fun q=>kV q.1)=ks.map V.str∧H' d=some (.dK (lbD ks))∧Step b c H H' t t' 400) (fun Nx nx => ?_) ?_
 ·refine whileGo (fun m σ H'=>Ex2 fun (ks:List Str) (t':Int) => σ=[some (.ref b),some (.ref p),some (.bl em),some (.ref d),some (.str sRev),none,none,none,none,none,none]∧ks.length+m=rows.length+4∧Ns80 ks∧(lbD ks).map (fun q=>kV q.1)=ks.map V.str∧H' d=some (.dK (lbD ks))∧Step b c H H' t t' (8*ks.length)) ⟨rows.length+4,[],t,rfl,by simp,(fun i x e=>nomatch e),rfl,n1.at,st1.more (by simp)⟩ ?_
  intro m σ H2
  refine Elim.go ?_
  rintro ks t2 rfl hm hN hk hd2 st2
  have ub2:=st2.ub
  have lo2:=st2.le
  have kl:(lbD ks).length=ks.length:=by have:=congrArg List.length hk;simpa using this
  refine ⟨_,rfl,d,_,rfl,hd2,_,rfl,_,_,rfl, .inl ⟨_,SqL.of (st2.old hp pb pc),rfl⟩, .inl ⟨_,_,rfl,rfl,_,_,rfl,rfl,_,rfl,ite2 (fun e => ?_) (fun e => ?_)⟩⟩
  ·have e:((lbD ks).length:Int)<(us.length:Int)+4:=of_decide_eq_true e
   refine ⟨fun σ' H'=>Ex2 fun (ks:List Str) (t':Int) => σ'=[some (.ref b),some (.ref p),some (.bl em),some (.ref d),some (.str sRev),none,none,none,none,none,none]∧ks.length+(m-1)=rows.length+4∧Ns80 ks∧(lbD ks).map (fun q=>kV q.1)=ks.map V.str∧H' d=some (.dK (lbD ks))∧Step b c H H' t t' (8*ks.length),fun σ' H' h=>⟨m-1,by omega,h⟩,?_⟩
   refine ⟨_,rfl,_,rfl,b,c,t2,6,rfl,st2.bx,by omega,by omega,by decide,by decide,fun y H3 t3 y1 y2 y3 st3 => ?_⟩
   have hd3:=st3.old hd2 db dc
   have e1:(((lbD ks).length:Nat):Int) / 26=((ks.length / 26:Nat):Int):=by rw [kl];omega
   have e2:(((lbD ks).length:Nat):Int) % 26=((ks.length % 26:Nat):Int):=by rw [kl];omega
   refine ⟨_,rfl,_,rfl,d,_,rfl,hd3,_,_,rfl,rfl,⟨by decide,by decide⟩,?_⟩
   dsimp only
   rw [e1]
   refine .inr (.inr ⟨_,_,_,rfl,rfl,by rw [sl];decide,rev_at (by omega), .inr (.inl ⟨_,_,rfl,rfl,?_,_,rfl,_,rfl,d,_,rfl,hd3,_,_,rfl,rfl,(by decide:(0:Int)<26),?_⟩)⟩)
   ·show y.length+1≤sizeLine
    exact Nat.le_of_lt (small (by omega))
   dsimp only
   rw [e2]
   refine .inr (.inr ⟨_,_,_,rfl,rfl,by rw [sl];decide,rev_at (by omega), .inr (.inl ⟨_,_,rfl,rfl,?_,?_⟩)⟩)
   ·rw [len_append]
    show y.length+1+1≤sizeLine
    exact Nat.le_of_lt (small (by omega))
   have nx80:N80 ks.length (y++(⟨#[122-ks.length / 26]⟩:Str)++(⟨#[122-ks.length % 26]⟩:Str)):=by
    refine ⟨y.cps.toList,?_,by rw [←str_len];exact y1,by rw [←str_len];exact y2,y3⟩
    rw [str_append_list,str_append_list,List.append_assoc]
    rfl
   generalize y++(⟨#[122-ks.length / 26]⟩:Str)++(⟨#[122-ks.length % 26]⟩:Str)=x at nx80
   have hx:=hN.new (by omega) nx80
   have hv:valV (lbD ks) (.inr x)=none:=lbD_none ks [] hx rfl
   refine ⟨d,_,rfl,DPut.k (k:=Sum.inr x) hd3 (small (by omega)),ks++[x],t3,rfl,by rw [List.length_append];show ks.length+1+(m-1)=_;omega,hN.snoc nx80,?_,?_,?_⟩
   ·rw [lbD_snoc,putK_new _ hv,List.map_append,hk,List.map_append];rfl
   ·rw [lbD_snoc];exact upd_same
   ·have c4:Chg H3 d (.dK (putK (lbD ks) (.inr x) (.bl true))) (upd H3 d (.dK (putK (lbD ks) (.inr x) (.bl true)))):=⟨rfl⟩
    exact ((st2.trans st3).chgN c4 n1.nn db dc).more (by rw [List.length_append];show _≤8*((ks.length+1:Nat):Int);omega)
  ·have e:¬((lbD ks).length:Int)<(us.length:Int)+4:=fun z=>e (decide_eq_true z)
   exact nx _ _ ⟨ks,t2,rfl,by omega,hN,hk,hd2,st2.more (by omega)⟩
 intro σ H2
 refine Elim.go ?_
 rintro ks t2 rfl hkl hN hk hd2 st2
 have ub2:=st2.ub
 have lo2:=st2.le
 refine ⟨_,rfl,d,_,rfl,hd2,fun lp H3 n3=>⟨by show 10≤sizeLine;decide,fun wp H4 n4=>⟨_,_,rfl,?_⟩⟩⟩
 rw [hk] at n3
 have st4:=(st2.newN n3).newN n4
 have l0:H lp=none:=st2.fresh bx n3.nn
 have w0:H wp=none:=st2.fresh bx (n3.back n4.nn)
 obtain ⟨lpb,lpc⟩:=bx.ne_new l0
 obtain ⟨wpb,wpc⟩:=bx.ne_new w0
 have lw:lp≠wp:=fun z=>by have:=n4.nn;rw [←z,n3.at] at this;cases this
 have lb4:=hN.lb (by omega)
 rw [hkl] at lb4
 dsimp only
 refine seqCut (t:=tFor _ _ _) (fun σ H'=>Ex4 fun (x7:Option V) (labs ws:List Str) (t':Int) => σ=[some (.ref b),some (.ref p),some (.bl em),some (.ref d),some (.str sRev),some (.ref lp),some (.ref wp),x7,none,none,none]∧Lb80 (rows.length+4) labs ws∧H' lp=some (.lst (labs.map V.str))∧Step b c H H' t t' 420) (fun Nx nx => ?_) ?_
 ·refine ⟨_,rfl,b,c,t2,4,rfl,st4.bx,by omega,by omega,by decide,by decide,fun r H5 r0 r1 st5=>⟨r,rfl,by omega,by omega,?_⟩⟩
  refine for_go (N:=r.toNat) (fun i σ H'=>Ex4 fun (x7:Option V) (labs ws:List Str) (t':Int) => σ=[some (.ref b),some (.ref p),some (.bl em),some (.ref d),some (.str sRev),some (.ref lp),some (.ref wp),x7,none,none,none]∧Lb80 (rows.length+4) labs ws∧ws.length+i=10∧H' lp=some (.lst (labs.map V.str))∧H' wp=some (.lst (ws.map V.str))∧Step b c H H' t t' (401+2*i)) ⟨none,ks,ws10,_,rfl,lb4,rfl,st5.old (n4.same _ _ n3.at) lpb lpc,st5.old n4.at wpb wpc,(st4.trans st5).more (by omega)⟩ ?_ ?_
  ·intro i σ H6 hi
   refine Elim.go ?_
   rintro x7 labs ws t6 rfl lb hwl hl6 hw6 st6
   have ub6:=st6.ub
   have lo6:=st6.le
   refine ⟨hi,?_⟩
   rintro x H7 ⟨rfl,rfl⟩
   refine gn ?_
   have wl:(ws.map V.str).length=ws.length:=List.length_map _
   have ll:(labs.map V.str).length=rows.length+4:=by rw [List.length_map];exact lb.len
   refine ⟨_,rfl, .inl ⟨rfl,_,SqL.of hw6⟩,_,rfl,_,rfl,_,_,rfl, .inl ⟨_,SqL.of hw6,rfl⟩,b,c,t6,_,rfl,st6.bx,by omega,by omega,by rw [wl];omega,by rw [wl];omega,fun j H8 j0 j1 st8 => ?_⟩
   rw [wl] at j1
   obtain ⟨j,rfl⟩:∃k:Nat,j=k:=⟨j.toNat,by omega⟩
   have hj:j<ws.length:=by omega
   have hl8:=st8.old hl6 lpb lpc
   have hw8:=st8.old hw6 wpb wpc
   refine ⟨wp,_,_, .str ws[j],rfl,rfl,hw8,by omega,Int.lt_trans (show (j:Int)<100 by omega) (by decide),by rw [Int.toNat_natCast,List.getElem?_map,List.getElem?_eq_getElem hj];rfl,fun H9 c9 => ?_⟩
   have st9:=(st6.trans st8).chgN c9 w0 wpb wpc
   have hl9:H9 lp=some (.lst (labs.map V.str)):=by rw [c9.ne lw];exact hl8
   refine ⟨_,rfl,_,rfl,_,rfl,_,_,rfl, .inl ⟨_,SqL.of hl9,rfl⟩,b,c,_,_,rfl,st9.bx,by omega,by omega,by rw [ll];omega,by rw [ll];omega,fun k H10 k0 k1 st10 => ?_⟩
   rw [ll] at k1
   obtain ⟨k,rfl⟩:∃z:Nat,k=z:=⟨k.toNat,by omega⟩
   have hl10:=st10.old hl9 lpb lpc
   refine ⟨lp,_,k,k,rfl,rfl,hl10,?_,?_⟩
   ·unfold ixN
    rw [ll,if_pos (by omega),if_pos (by omega),Int.toNat_natCast]
   have c11:Chg H10 lp (.lst ((labs.map V.str).set k (.str ws[j]))) (upd H10 lp (.lst ((labs.map V.str).set k (.str ws[j])))):=⟨rfl⟩
   refine ⟨_,labs.set k ws[j],ws.eraseIdx j,_,rfl,lb.step (List.getElem?_eq_getElem hj),?_,?_,?_,((st9.trans st10).chgN c11 l0 lpb lpc).more (by omega)⟩
   ·rw [List.length_eraseIdx,if_pos hj];omega
   ·rw [c11.at,List.map_set]
   ·rw [c11.ne (Ne.symm lw),st10.old c9.at wpb wpc,Int.toNat_natCast]
    congr 2
    exact er_map _ _ _
  ·intro σ H6
   refine Elim.go ?_
   rintro x7 labs ws t6 rfl lb hwl hl6 hw6 st6
   exact ⟨Nat.le_refl _,nx _ _ ⟨x7,labs,ws,t6,rfl,lb,hl6,st6.more (by omega)⟩⟩
 intro σ H5
 refine Elim.go ?_
 rintro x7 labs ws t5 rfl lb hl5 st5
 have ub5:=st5.ub
 have lo5:=st5.le
 refine ⟨by show 0≤sizeLine;decide,fun rl H6 n6=>gn ?_⟩
 have rl0:H rl=none:=st5.fresh bx n6.nn
 obtain ⟨rlb,rlc⟩:=bx.ne_new rl0
 have lr:lp≠rl:=fun z=>by have:=n6.nn;rw [←z,hl5] at this;cases this
 have pr:p≠rl:=fun z=>by rw [←z,hp] at rl0;cases rl0
 have g6:G80 b c H H6 t t5 lp rl labs [] 420:=⟨n6.same _ _ hl5,n6.at,st5.newN n6⟩
 have rat:∀{Hx:Hp} {tx N:Int},Step b c H Hx t tx N→∀{i:Nat} (hi:i<rows.length),∃rp:Addr,us[i]? = some (.ref rp)∧Hx rp=some (.tup (rows[i].ds.map fV)):=fun st i hi=>by
  obtain ⟨rp,h1,h2⟩:=hT.2 _ _ (List.getElem?_eq_getElem hi)
  exact ⟨rp,h1,TP.step bx st _ _ h2⟩
 have ll:labs.length=rows.length+4:=lb.len
 have lat:∀{t:Nat},t<rows.length+4→atI (labs.map V.str) (t:Int)=some (.str (Lf labs t)):=fun h=>by
  refine at_nat (by omega) ?_
  show (labs.map V.str)[_]? = _
  rw [Int.toNat_natCast,List.getElem?_map,Lf_at (by omega)];rfl
 have lnm:∀{t:Nat},t<rows.length+4→(Lf labs t).length≤8:=fun h=>(lb.nam h).hi
 have room:∀{ls:List Ln},ls.length≤1000→((ls.map (lnT (Lf labs))).map V.str).length<sizeLine:=fun h=>by
  rw [List.length_map,List.length_map];exact small (by omega)
 dsimp only
 refine seqCut (t:=tFor _ _ _) (fun σ H'=>Ex4 fun (x9 x10:Option V) (ls:List Ln) (t':Int) => σ=[some (.ref b),some (.ref p),some (.bl em),some (.ref d),some (.str sRev),some (.ref lp),some (.ref wp),x7,some (.ref rl),x9,x10]∧Sh80 rows labs (rows.length+1) ls∧G80 b c H H' t t' lp rl labs ls 1000) (fun Nx nx => ?_) ?_
 ·refine ⟨_,rfl,_,_,rfl, .inl ⟨_,SqL.of (g6.st.old hp pb pc),rfl⟩, .inl ⟨_,_,rfl,rfl,_,rfl,by omega,by omega,?_⟩⟩
  refine for_go (N:=rows.length+1) (fun i σ H'=>Ex4 fun (x9 x10:Option V) (ls:List Ln) (t':Int) => σ=[some (.ref b),some (.ref p),some (.bl em),some (.ref d),some (.str sRev),some (.ref lp),some (.ref wp),x7,some (.ref rl),x9,x10]∧Sh80 rows labs i ls∧G80 b c H H' t t' lp rl labs ls (420+3*i)) ⟨none,none,[],t5,rfl,Sh80.zero rows labs,by simpa using g6⟩ ?_ ?_
  ·intro i σ H7 hi
   refine Elim.go ?_
   rintro x9 x10 ls t7 rfl sh g7
   have ub7:=g7.st.ub
   have lo7:=g7.st.le
   have lsl:=sh.len
   refine ⟨by rw [ud];show i<((rows.length:Int)+1).toNat;omega,?_⟩
   rintro x H8 ⟨rfl,rfl⟩
   refine gn ?_
   rw [Int.zero_add]
   refine seqCut (t:=tIfS _ _ _) (fun σ H'=>Ex3 fun (c1:Bool) (t':Int) (ls1:List Ln) => σ=[some (.ref b),some (.ref p),some (.bl em),some (.ref d),some (.str sRev),some (.ref lp),some (.ref wp),x7,some (.ref rl),some (.int (i:Nat)),x10]∧ls1=ls++(if c1 then [.lb (Lf labs i)] else [])∧(i∈plcs rows→c1=true)∧G80 b c H H' t t' lp rl labs ls1 (420+3*i+1)) (fun Nx nx => ?_) ?_
   ·have app1:∀{Hx:Hp} {tx:Int},G80 b c H Hx t tx lp rl labs ls (420+3*i+1)→∀Hy,Chg Hx rl (.lst ((ls.map (lnT (Lf labs))).map V.str++[.str (Lf labs i++sCo)])) Hy→Nx [some (.ref b),some (.ref p),some (.bl em),some (.ref d),some (.str sRev),some (.ref lp),some (.ref wp),x7,some (.ref rl),some (.int (i:Nat)),x10] Hy:=fun g Hy cy=>nx _ _ ⟨true,_,_,rfl,rfl,fun _=>rfl,g.app (l := .lb (Lf labs i)) rl0 bx lr cy⟩
    have put1:∀{Hx:Hp} {tx:Int},G80 b c H Hx t tx lp rl labs ls (420+3*i+1)→_:=fun {Hx tx} g=>app1 g
    refine ⟨_,rfl,_,rfl,p,rfl,⟨_,SqL.of (g7.st.old hp pb pc)⟩,?_⟩
    refine comp_go (N:=rows.length) (fun j ys H'=>Same H8 H'∧ys=((plcs (rows.take j)).map fun t:Nat=>(t:Int)).map V.int) ⟨Same.refl _,rfl⟩ ?_ ?_
    ·rintro j ys H2 Ny hj ⟨sm,rfl⟩ ny
     obtain ⟨rp,h1,h2⟩:=rat g7.st hj
     have hp8:=g7.st.old hp pb pc
     have pll:(plcs (rows.take j)).length≤200:=by
      have:=List.length_filterMap_le plc (rows.take j)
      rw [List.length_take] at this
      unfold plcs
      omega
     refine ⟨⟨_,_,SqL.of (sm _ _ hp8),h1⟩,small (by rw [List.length_map,List.length_map];omega),?_⟩
     rintro x H3 ⟨rfl,hy⟩
     have e:=hy _ (SqL.of (sm _ _ hp8))
     rw [h1] at e;cases e
     have hr2:=sm _ _ h2
     have ept:plcs (rows.take (j+1))=plcs (rows.take j)++plcs [rows[j]]:=by rw [take_next hj];exact List.filterMap_append
     refine ⟨_,rfl, .inr (.inl ⟨rp,_,0,_,rfl,rfl,SqT.of hr2,kind_at _,by show 2≤sizeLine;decide,fun tp H4 n4=>⟨tp,_,rfl, .inr (SqT.of n4.at),rfl,rfl,_,rfl,?_⟩⟩)⟩
     rw [if_neg (show ¬(false=true) from fun z=>nomatch z),jump_inV]
     cases hpl:plc rows[j] with
     | none=>
      refine iteF (ny _ _ ⟨sm.trans n4.same,?_⟩)
      rw [ept,show plcs [rows[j]]=[] by unfold plcs;rw [List.filterMap_cons,hpl];rfl,List.append_nil]
     | some t=>
      refine iteT ⟨_,rfl,_,rfl, .inr (.inl ⟨rp,_,_,_,rfl,rfl,SqT.of (n4.same _ _ hr2),last_at hpl,ny _ _ ⟨sm.trans n4.same,?_⟩⟩)⟩
      rw [ept,show plcs [rows[j]]=[t] by unfold plcs;rw [List.filterMap_cons,hpl];rfl,List.map_append,List.map_append]
      rfl
    ·rintro ys H2 ⟨sm,rfl⟩
     rw [List.take_length]
     refine ⟨⟨_,SqL.of (sm _ _ (g7.st.old hp pb pc)),by rw [ud];exact Nat.le_refl _⟩,fun lq hlq => ?_⟩
     have nl:New H2 lq (.lst (((plcs rows).map fun t:Nat=>(t:Int)).map V.int)) (upd H2 lq (.lst (((plcs rows).map fun t:Nat=>(t:Int)).map V.int))):=⟨hlq,rfl⟩
     generalize upd H2 lq (.lst (((plcs rows).map fun t:Nat=>(t:Int)).map V.int))=H3 at nl
     have g3:=g7.same (sm.trans nl.same)
     refine ⟨lq,_,rfl, .inl (SqL.of nl.at),rfl,by rw [List.all_map];exact List.all_eq_true.mpr fun _ _=>rfl,_,rfl,?_⟩
     rw [if_neg (show ¬(false=true) from fun z=>nomatch z)]
     refine ite2 (fun _ => ?_) (fun e => ?_)
     ·refine iteT ?_
      have g4:G80 b c H H3 t t7 lp rl labs ls (420+3*i+1):=⟨g3.lb,g3.rl,g3.st.more (by omega)⟩
      exact ⟨_,rfl, .inl ⟨rfl,_,SqL.of g4.rl⟩,_,rfl,_,rfl, .inl ⟨lp,_,_,_,rfl,rfl,SqL.of g4.lb,lat (by omega), .inr (.inl ⟨_,_,rfl,rfl,by have:=lnm (t:=i) (by omega);show _+1≤sizeLine;exact sizeOk (by omega),rl,_,_,rfl,rfl,g4.rl,room (by omega),fun Hy cy=>app1 g4 Hy cy⟩)⟩⟩
     ·have hni:i ∉ plcs rows:=fun z=>e (inV_nats.mpr z)
      refine ⟨_,rfl,b,c,t7,6,rfl,g3.st.bx,by omega,by omega,by decide,by decide,fun r H4 r0 r1 s4 => .inl ⟨rfl,_,rfl,ite2 (fun _ => ?_) (fun _ => ?_)⟩⟩
      ·have g4:=g3.step s4 l0 rl0 bx
       exact ⟨_,rfl, .inl ⟨rfl,_,SqL.of g4.rl⟩,_,rfl,_,rfl, .inl ⟨lp,_,_,_,rfl,rfl,SqL.of g4.lb,lat (by omega), .inr (.inl ⟨_,_,rfl,rfl,by have:=lnm (t:=i) (by omega);show _+1≤sizeLine;exact sizeOk (by omega),rl,_,_,rfl,rfl,g4.rl,room (by omega),fun Hy cy=>app1 g4 Hy cy⟩)⟩⟩
      ·exact nx _ _ ⟨false,_,_,rfl,rfl,fun z=>absurd z hni,by rw [if_neg (fun z=>nomatch z),List.append_nil];exact g3.step s4 l0 rl0 bx⟩
   intro σ Ha
   refine Elim.go ?_
   rintro c1 ta ls1 rfl e1 hc1 ga
   have uba:=ga.st.ub
   have loa:=ga.st.le
   have l1l:ls1.length≤4*i+1:=by
    rw [e1,List.length_append]
    have:(if c1 then [Ln.lb (Lf labs i)] else []).length≤1:=by cases c1 <;> exact Nat.le_of_ble_eq_true rfl
    omega
   refine seqCut (t:=tIfS _ _ _) (fun σ H'=>Ex3 fun (c2:Bool) (t':Int) (ls2:List Ln) => σ=[some (.ref b),some (.ref p),some (.bl em),some (.ref d),some (.str sRev),some (.ref lp),some (.ref wp),x7,some (.ref rl),some (.int (i:Nat)),x10]∧ls2=ls1++(if c2 then [.lb (Lf labs (rows.length+1+i))] else [])∧(c2=true→i<3)∧G80 b c H H' t t' lp rl labs ls2 (420+3*i+2)) (fun Nx nx => ?_) ?_
   ·refine ⟨_,rfl,_,_,rfl,rfl,_,rfl,?_⟩
    refine ite2 (fun e3 => ?_) (fun _ => ?_)
    ·have e3:(i:Int)<3:=of_decide_eq_true e3
     refine ⟨_,rfl,b,c,ta,8,rfl,ga.st.bx,by omega,by omega,by decide,by decide,fun r H4 r0 r1 s4 => .inl ⟨rfl,_,rfl,ite2 (fun _ => ?_) (fun _ => ?_)⟩⟩
     ·have g4:=ga.step s4 l0 rl0 bx
      refine ⟨_,rfl, .inl ⟨rfl,_,SqL.of g4.rl⟩,_,rfl,_,rfl,_,_,rfl, .inl ⟨_,SqL.of (g4.st.old hp pb pc),rfl⟩, .inl ⟨_,_,rfl,rfl,_,rfl, .inl ⟨_,_,rfl,rfl,?_⟩⟩⟩
      rw [show ((us.length:Nat):Int)+1+(i:Int)=((rows.length+1+i:Nat):Int) by omega]
      refine .inl ⟨lp,_,_,_,rfl,rfl,SqL.of g4.lb,lat (by omega), .inr (.inl ⟨_,_,rfl,rfl,by have:=lnm (t:=rows.length+1+i) (by omega);show _+1≤sizeLine;exact sizeOk (by omega),rl,_,_,rfl,rfl,g4.rl,room (by omega),fun Hy cy => ?_⟩)⟩
      have g5:=g4.app (l := .lb (Lf labs (rows.length+1+i))) rl0 bx lr cy
      exact nx _ _ ⟨true,_,_,rfl,rfl,fun _=>by omega,g5.lb,g5.rl,g5.st.more (by omega)⟩
     ·have g4:=ga.step s4 l0 rl0 bx
      refine nx _ _ ⟨false,ta+1,_,rfl,rfl,(fun z=>nomatch z),?_⟩
      rw [if_neg (fun z=>nomatch z),List.append_nil]
      exact ⟨g4.lb,g4.rl,g4.st.more (by omega)⟩
    ·refine nx _ _ ⟨false,ta,_,rfl,rfl,(fun z=>nomatch z),?_⟩
     rw [if_neg (fun z=>nomatch z),List.append_nil]
     exact ⟨ga.lb,ga.rl,ga.st.more (by omega)⟩
   intro σ Hb
   refine Elim.go ?_
   rintro c2 tb ls2 rfl e2 hc2 gb
   have ubb:=gb.st.ub
   have lob:=gb.st.le
   have l2l:ls2.length≤4*i+2:=by
    rw [e2,List.length_append]
    have:(if c2 then [Ln.lb (Lf labs (rows.length+1+i))] else []).length≤1:=by cases c2 <;> exact Nat.le_of_ble_eq_true rfl
    omega
   refine seqCut (t:=tIfS _ _ _) (fun σ H'=>Ex3 fun (c3:Bool) (t':Int) (ls3:List Ln) => σ=[some (.ref b),some (.ref p),some (.bl em),some (.ref d),some (.str sRev),some (.ref lp),some (.ref wp),x7,some (.ref rl),some (.int (i:Nat)),x10]∧ls3=ls2++(if c3 then [.em] else [])∧G80 b c H H' t t' lp rl labs ls3 (420+3*i+3)) (fun Nx nx => ?_) ?_
   ·refine ⟨_,rfl,em,rfl,?_⟩
    refine ite2 (fun _ => ?_) (fun _ => ?_)
    ·refine ⟨_,rfl,b,c,tb,5,rfl,gb.st.bx,by omega,by omega,by decide,by decide,fun r H4 r0 r1 s4 => .inl ⟨rfl,_,rfl,ite2 (fun _ => ?_) (fun _ => ?_)⟩⟩
     ·have g4:=gb.step s4 l0 rl0 bx
      refine ⟨_,rfl, .inl ⟨rfl,_,SqL.of g4.rl⟩,rl,_,_,rfl,rfl,g4.rl,room (by omega),fun Hy cy => ?_⟩
      rw [show V.str (Str.ofString "")=V.str (lnT (Lf labs) .em) by rw [show (Str.ofString "")=(⟨#[]⟩:Str) by decide +kernel];rfl] at cy
      have g5:=g4.app (l := .em) rl0 bx lr cy
      exact nx _ _ ⟨true,_,_,rfl,rfl,g5.lb,g5.rl,g5.st.more (by omega)⟩
     ·have g4:=gb.step s4 l0 rl0 bx
      refine nx _ _ ⟨false,tb+1,_,rfl,rfl,?_⟩
      rw [if_neg (fun z=>nomatch z),List.append_nil]
      exact ⟨g4.lb,g4.rl,g4.st.more (by omega)⟩
    ·refine nx _ _ ⟨false,tb,_,rfl,rfl,?_⟩
     rw [if_neg (fun z=>nomatch z),List.append_nil]
     exact ⟨gb.lb,gb.rl,gb.st.more (by omega)⟩
   intro σ Hc
   refine Elim.go ?_
   rintro c3 tc ls3 rfl e3 gc
   have l3l:ls3.length≤4*i+3:=by
    rw [e3,List.length_append]
    have:(if c3 then [Ln.em] else []).length≤1:=by cases c3 <;> exact Nat.le_of_ble_eq_true rfl
    omega
   have sh2:=sh.step (c1:=c1) (c2:=c2) (c3:=c3) lb (by omega) ok (by omega) hc1 hc2
   have es:ls++(lns80 rows labs i c1 c2 c3++lrw rows i)=ls3++lrw rows i:=by
    rw [e3,e2,e1]
    unfold lns80
    simp only [List.append_assoc]
   rw [es] at sh2
   have hpc:=gc.st.old hp pb pc
   refine ⟨_,rfl,_,rfl,_,_,rfl, .inl ⟨_,SqL.of hpc,rfl⟩,_,_,rfl,rfl,_,rfl,ite2 (fun e4 => ?_) (fun e4 => ?_)⟩
   ·have e4:(i:Int)<us.length:=of_decide_eq_true e4
    have hi2:i<rows.length:=by omega
    have hin:=List.getElem_mem hi2
    obtain ⟨rp,h1,h2⟩:=rat gc.st hi2
    refine ⟨_,rfl,_,rfl, .inl ⟨p,_,_, .ref rp,rfl,rfl,SqL.of hpc,at_nat (by omega) (by rw [Int.toNat_natCast];exact h1),gn ?_⟩⟩
    dsimp only
    have hLn:∀t,plc rows[i]=some t→Nam (Lf labs t):=fun t ht=>lb.nam (by have:=plc_le (ok _ hin) ht;omega)
    refine seqCut (t:=tIfS _ _ _) (fun σ H'=>∃rq:Addr, σ=[some (.ref b),some (.ref p),some (.bl em),some (.ref d),some (.str sRev),some (.ref lp),some (.ref wp),x7,some (.ref rl),some (.int (i:Nat)),some (.ref rq)]∧H' rq=some (.tup ((ds2 (Lf labs) rows[i]).map fV))∧Same Hc H') (fun Nx nx => ?_) ?_
    ·refine ⟨_,rfl, .inr (.inl ⟨rp,_,0,_,rfl,rfl,SqT.of h2,kind_at _,by show 2≤sizeLine;decide,fun tp Hd nc=>⟨tp,_,rfl, .inr (SqT.of nc.at),rfl,rfl,_,rfl,?_⟩⟩)⟩
     rw [if_neg (show ¬(false=true) from fun z=>nomatch z),jump_inV]
     have h2c:=nc.same _ _ h2
     cases hpl:plc rows[i] with
     | none=>exact iteF (nx _ _ ⟨rp,rfl,by rw [ds2_none hpl];exact h2c,nc.same⟩)
     | some t=>
      obtain ⟨c1',c2',c3'⟩:=ds2_cut hpl
      have htn:=plc_le (ok _ hin) hpl
      refine iteT ⟨_,rfl,_,rfl,_,rfl,rp,_,rfl,SqT.of h2c,c1',fun cp He nd' => ?_⟩
      have sd:=nc.same.trans nd'.same
      refine ⟨_,rfl,_,rfl,_,rfl, .inr (.inl ⟨rp,_,_,_,rfl,rfl,SqT.of (sd _ _ h2),last_at hpl, .inl ⟨lp,_,_,_,rfl,rfl,SqL.of (sd _ _ gc.lb),lat (by omega),by show 1≤sizeLine;decide,fun tq Hf ne=>⟨cp,tq,_,_,rfl,rfl,SqT.of (ne.same _ _ nd'.at),SqT.of ne.at,?_,c2',(fun z=>nomatch z),fun _ rq Hg nf=>gn (nx _ _ ⟨rq,rfl,?_,sd.trans (ne.same.trans nf.same)⟩)⟩⟩⟩)⟩
      ·show _+1≤100000
       omega
      ·rw [nf.at,ds2_some hpl]
    rintro σ Hd ⟨rq,rfl,hrq,sc⟩
    have hgs:=ds2_gs (ok _ hin) hLn
    have hflat:=ds2_flat (Lf labs) rows[i]
    have gd:=gc.same sc
    refine ⟨_,rfl, .inl ⟨rfl,_,SqL.of gd.rl⟩,rfl,_,rfl,rq,rfl,⟨_,SqT.of hrq⟩,?_⟩
    have dat:∀{j:Nat} (hj:j<(ds2 (Lf labs) rows[i]).length),((ds2 (Lf labs) rows[i]).map fV)[j]? = some (fV (ds2 (Lf labs) rows[i])[j]):=fun hj=>by rw [List.getElem?_map,List.getElem?_eq_getElem hj];rfl
    have dl:(ds2 (Lf labs) rows[i]).length≤3:=by
     have:=wds_len (Lf labs) rows[i]
     rw [←ds2_wds (ok _ hin),List.length_map] at this
     exact this
    refine comp_go (N:=(ds2 (Lf labs) rows[i]).length) (fun j ys H'=>H'=Hd∧ys=(((ds2 (Lf labs) rows[i]).take j).map strD).map V.str) ⟨rfl,rfl⟩ ?_ ?_
    ·rintro j ys He Ny hj ⟨rfl,rfl⟩ ny
     refine ⟨⟨_,_,SqT.of hrq,dat hj⟩,small (by rw [List.length_map,List.length_map,List.length_take];omega),?_⟩
     rintro x Hf ⟨rfl,hy⟩
     have e:=hy _ (SqT.of hrq)
     rw [dat hj] at e;cases e
     dsimp only [tYes]
     refine gn ?_
     rw [if_pos rfl]
     have hm:=List.getElem_mem hj
     have gd':=hgs.at hm
     obtain ⟨z1,z2,z3⟩:=pz_shown _ gd'.pz
     have zw:=gd'.wt
     refine ⟨_,rfl,_,(ds2 (Lf labs) rows[i])[j],rfl,?_,z2,Nat.le_trans gd'.dp (by decide),sizeOk (by omega),ny _ _ ⟨rfl,?_⟩⟩
     ·have hf:flatD (ds2 (Lf labs) rows[i])[j]=true:=List.all_eq_true.mp hflat _ hm
      obtain ⟨v,r',ev,h1,_⟩:=fV_dens (K:=K) (H:=Hf) (ds:=[(ds2 (Lf labs) rows[i])[j]]) (by rw [List.all_cons,hf];rfl)
      injection ev with ev _
      rw [ev];exact h1
     ·rw [take_next hj,List.map_append,List.map_append];rfl
    ·rintro ys He ⟨rfl,rfl⟩
     rw [List.take_length,ds2_wds (ok _ hin)]
     refine ⟨⟨_,SqT.of hrq,by rw [List.length_map];exact Nat.le_refl _⟩,fun wq hwq => ?_⟩
     have nw:New He wq (.lst ((wds (Lf labs) rows[i]).map V.str)) (upd He wq (.lst ((wds (Lf labs) rows[i]).map V.str))):=⟨hwq,rfl⟩
     have ge:=gd.same nw.same
     refine ⟨_,wq,_,rfl,rfl,SqL.of nw.at,?_,rl,_,_,rfl,rfl,ge.rl,room (by omega),fun Hg cg => ?_⟩
     ·have h1:=sum_len (m:=8) (xs:=wds (Lf labs) rows[i]) fun x hx=>(wds_wd (ok _ hin) hLn x hx).2.1
      have h2:=wds_len (Lf labs) rows[i]
      show _+_*1≤_
      omega
     ·rw [show (Str.ofString " ")=sBl by decide +kernel] at cg
      have g5:=ge.app (l := .rw rows[i]) rl0 bx lr cg
      have el:lrw rows i=[.rw rows[i]]:=by unfold lrw;rw [List.getElem?_eq_getElem hi2]
      rw [el] at sh2
      exact ⟨_,_,_,_,rfl,sh2,g5.lb,g5.rl,g5.st.more (by omega)⟩
   ·have e4:¬(i:Int)<us.length:=fun z=>e4 (decide_eq_true z)
    have el:lrw rows i=[]:=by unfold lrw;rw [List.getElem?_eq_none (by omega)]
    rw [el,List.append_nil] at sh2
    exact ⟨_,_,_,_,rfl,sh2,gc.lb,gc.rl,gc.st.more (by omega)⟩
  ·intro σ H7
   refine Elim.go ?_
   rintro x9 x10 ls t7 rfl sh g7
   exact ⟨by rw [ud];show ((rows.length:Int)+1).toNat≤_;omega,nx _ _ ⟨x9,x10,ls,t7,rfl,sh,g7.lb,g7.rl,g7.st.more (by omega)⟩⟩
 intro σ H7
 refine Elim.go ?_
 rintro x9 x10 ls t7 rfl sh g7
 have shl:=sh.len
 refine ⟨rfl,_,rfl,_,rl,_,rfl,rfl,SqL.of g7.rl,?_,?_⟩
 ·have h1:=sum_len (m:=27) (xs:=ls.map (lnT (Lf labs))) fun x hx=>by
   obtain ⟨l,hl',rfl⟩:=List.mem_map.mp hx
   exact ln_len (sh.ok l hl')
  rw [List.length_map] at h1 ⊢
  show _+_*1≤_
  omega
 ·rw [show (Str.ofString "\n")=sNl by decide +kernel]
  refine Elim.el (sh.sheet (ws:=ws) hn ok) _ ?_
  rintro L ls' e1 e2 e3
  show Q (.str (shT (Lf labs) ls)) _
  rw [e1]
  exact q L ls' _ t7 e2 e3 g7.st
end
end Z
namespace Z
open PySem L2 PyProof.Rows
noncomputable def spLaw (K:PySem.W.Frag):Sp:=fun vs H Q _=>Ex2 fun (a:Addr) (ns:List Int)=>vs=[.ref a]∧SqL K H a (ns.map V.int)∧ns.length≤63∧∀H',Q (.bl true) H'
theorem row_gd {n:Nat} {r:Rw} (hn:n≤200) (h:r.ok n):Gd 910 1 r.d:=by
 have k:Gd 300 0 (.str (kindS r)):=wd_gd (kind_wd r)
 have s:∀p,Gd 300 0 (.str (sp p)):=fun p=>wd_gd (sp_wd p)
 have o:∀{d:PyData},Gd 300 0 d→Gs 301 0 [d]:=fun h=>Gs.one h
 have i:∀t:Nat,t≤n→Gd 300 0 (.int (t:Nat)):=fun t ht=>Gd.int (Nat.lt_of_lt_of_le (show (t:Int).natAbs<1000 by omega) (by decide)) (by decide)
 cases r with
 | set p m=>exact (Gs.cons k (Gs.cons (s p) (o (Gd.int (by have:=h.2;exact Nat.lt_of_lt_of_le (show m.natAbs<1000 by omega) (by decide)) (by decide))))).tuple.mono (by decide) (Nat.le_refl _)
 | add p q=>exact (Gs.cons k (Gs.cons (s p) (o (s q)))).tuple.mono (by decide) (Nat.le_refl _)
 | take p q=>exact (Gs.cons k (Gs.cons (s p) (o (s q)))).tuple.mono (by decide) (Nat.le_refl _)
 | tell p=>exact (Gs.cons k (o (s p))).tuple.mono (by decide) (Nat.le_refl _)
 | ask p=>exact (Gs.cons k (o (s p))).tuple.mono (by decide) (Nat.le_refl _)
 | jump t=>exact (Gs.cons k (o (i t h))).tuple.mono (by decide) (Nat.le_refl _)
 | zero p t=>exact (Gs.cons k (Gs.cons (s p) (o (i t h.2)))).tuple.mono (by decide) (Nat.le_refl _)
 | stop=>exact (o k).tuple.mono (by decide) (Nat.le_refl _)
theorem rows_gs {n:Nat} (hn:n≤200):∀{rows:List Rw},(∀r∈rows,r.ok n)→Gs (911*rows.length) 1 (rows.map Rw.d)
 | [],_=>Gs.nil
 | r :: rows,h=>by
  have:=Gs.cons (row_gd hn (h r List.mem_cons_self)) (rows_gs hn (rows:=rows) fun q hq=>h q (List.mem_cons_of_mem _ hq))
  exact this.mono (by rw [List.length_cons];omega) (Nat.le_refl _)
structure PgL (H:Hp) (p:Addr) (n:Nat) (rows:List Rw) (vs:List V):Prop where
 l:H p=some (.lst vs)
 t:Tups H rows vs
 ln:rows.length=n
 ok:∀r∈rows,r.ok n
theorem PgL.gd {H:Hp} {p:Addr} {n:Nat} {rows:List Rw} {vs:List V} (h:PgL H p n rows vs) (hn:n≤200):Gd 182200 2 (.list (rows.map Rw.d)):=((rows_gs hn h.ok).list).mono (by have:=h.ln;omega) (by decide)
theorem PgL.den {K:PySem.W.Frag} {H:Hp} {p:Addr} {n:Nat} {rows:List Rw} {vs:List V} (h:PgL H p n rows vs):Den K H (.list (rows.map Rw.d)) (.ref p):=dlstN h.l h.t.dens
theorem PgL.same {H H':Hp} {p:Addr} {n:Nat} {rows:List Rw} {vs:List V} (h:PgL H p n rows vs) (s:Same H H'):PgL H' p n rows vs:=⟨s _ _ h.l,h.t.tp (TP.same s),h.ln,h.ok⟩
section
variable {P:Program} {w:World} {K:PySem.W.Frag} {mg:Str→Option Value} {base:Heap} {f:Addr} {fd:FuncData} {t1:Tok}
theorem sc_law:FnScope ["_law_script", "_law_state", "_law_turn", "_law_empty", "_law_program_here", "_law_text", "_law_again", "_law_found", "_law_sheet_here"] ["_law_script"] (defScope (top i_law)):=⟨rfl,rfl,rfl,by decide +kernel,rfl,by decide +kernel,by decide +kernel⟩
theorem ok_law (F:Fun K "law" "law" (top i_law) f fd) (T:Nm mg) (f_law_begin:Fn P w K mg base 1 "_law_begin" ["_law_script"] (spBegin K)) (f_law_take:Fn P w K mg base 1 "_law_take" ["_law_state", "_law_many_here"] spTk) (f_law_program:Fn P w K mg base 2 "_law_program" ["_law_state", "_law_many_here"] (spProg K)) (f_law_many:Fn P w K mg base 2 "_law_many" ["_law_state"] spMn) (f_law_sheet:Fn P w K mg base 3 "_law_sheet" ["_law_state", "_law_program_here", "_law_empty"] (spSht K)) (f_law_written:Fn P w K mg base 1 "_law_written" ["_law_program_here"] (spWpr K)) (f_written_program:Fn P w K mg base 2 "written_program" ["program"] (spWpr K)) (f_read_program:Fn P w K mg base 5 "read_program" ["text"] (spRdp K)) (f_law_same:Fn P w K mg base 3 "_law_same" ["_law_found", "_law_due"] (spSame K 3)):FnOk P w K mg base CX0 6 f fd ["_law_script"] (spLaw K):=by
 refine F.ok sc_law (fun vs H Q E h => ?_) (fun cdv A outer s H vs Q E hr h => ?_)
 ·obtain ⟨a,ns,rfl,_⟩:=h
  rfl
 obtain ⟨a,ns,rfl,hS,hlen,q⟩:=h
 have hu6:=hr.units
 refine ⟨_,(pss_cons (ps_set (i:=1) sc_law.nd rfl (Or.inl rfl) (pe_fn (f_law_begin.mono (by decide)) hr rfl (pa_cons (pv 0) pa_nil)))
  (pss_cons (ps_for PassesOwn.never rfl (pi_range1 rfl T.n_range (pa_cons pe_int pa_nil)) (pg_name (i:=2) sc_law.nd rfl (Or.inl rfl)) (pss_cons (ps_set (i:=3) sc_law.nd rfl (Or.inl rfl) (pe_cmpR (eqK K hu6) (pe_fn (f_law_take.mono (by decide)) hr rfl (pa_cons (pv 1) (pa_cons pe_int pa_nil))) pe_int (nomark _)))
  (pss_cons (ps_set (i:=4) sc_law.nd rfl (Or.inl rfl) (pe_fn (f_law_program.mono (by decide)) hr rfl (pa_cons (pv 1) (pa_cons (pe_fn (f_law_many.mono (by decide)) hr rfl (pa_cons (pv 1) pa_nil)) pa_nil))))
  (pss_cons (ps_set (i:=5) sc_law.nd rfl (Or.inl rfl) (pe_fn (f_law_sheet.mono (by decide)) hr rfl (pa_cons (pv 1) (pa_cons (pv 4) (pa_cons (pv 3) pa_nil)))))
  (pss_cons (ps_for PassesOwn.never rfl (pi_range1 rfl T.n_range (pa_cons pe_int pa_nil)) (pg_name (i:=6) sc_law.nd rfl (Or.inl rfl)) (pss_cons (ps_set (i:=7) sc_law.nd rfl (Or.inl rfl) (pe_fn (f_read_program.mono (by decide)) hr rfl (pa_cons (pv 5) pa_nil)))
  (pss_cons (ps_if (pt_not (pt_val (pe_fn (f_law_same.mono (by decide)) hr rfl (pa_cons (pv 7) (pa_cons (pv 4) pa_nil))))) (pss_one (ps_ret pe_bl)) pss_nil)
  (pss_one (ps_expr (bmK K PySem.F.plainAttrs_list PySem.F.slot_list_append PySem.F.type_list_append appendN (pv 7) (pa_cons (tupN (pa_cons pe_str pa_nil)) pa_nil)))))))
  (pss_cons (ps_set (i:=8) sc_law.nd rfl (Or.inl rfl) (pe_fn (f_written_program.mono (by decide)) hr rfl (pa_cons (pv 4) pa_nil)))
  (pss_one (ps_if (PW.pt (pw_or (pt_not (pt_val (pe_fn (f_law_same.mono (by decide)) hr rfl (pa_cons (pv 8) (pa_cons (pe_fn (f_law_written.mono (by decide)) hr rfl (pa_cons (pv 4) pa_nil)) pa_nil))))) (pw_or1 (pt_not (pt_val (pe_fn (f_law_same.mono (by decide)) hr rfl (pa_cons (pe_fn (f_read_program.mono (by decide)) hr rfl (pa_cons (pv 8) pa_nil)) (pa_cons (pv 4) pa_nil)))))))) (pss_one (ps_ret pe_bl)) pss_nil))))))))
  (pss_one (ps_ret pe_bl)))),?_⟩
 refine ⟨_,rfl,a,ns,rfl,hS,hlen,fun b c H1 bx1 hb hc sm1=>gn ?_⟩
 dsimp only
 refine seqCut (t:=tFor _ _ _) (fun σ H'=>True) (fun Nx nx => ?_) (fun σ H' _=>q _)
 refine ⟨3,rfl,by decide,by decide,?_⟩
 refine for_go (N:=3) (fun i σ H'=>Ex9 fun (x2 x3 x4 x5 x6 x7 x8:Option V) (t':Int) (_:Unit) => σ=[some (.ref a),some (.ref b),x2,x3,x4,x5,x6,x7,x8]∧Step b c H1 H' 0 t' (5000*i)) ⟨none,none,none,none,none,none,none,0,(),rfl,(Step.refl bx1).more (by omega)⟩ ?_ (fun σ H' _=>⟨Nat.le_refl _,nx _ _ trivial⟩)
 intro i σ H2 hi
 refine Elim.go ?_
 rintro x2 x3 x4 x5 x6 x7 x8 t2 _ rfl st2
 have ub2:=st2.ub
 have lo2:=st2.le
 refine ⟨hi,?_⟩
 rintro x H3 ⟨rfl,rfl⟩
 refine gn ?_
 refine ⟨_,rfl,b,c,t2,2,rfl,st2.bx,by omega,by omega,by decide,by decide,fun r H4 r0 r1 st4 => .inl ⟨rfl,gn ?_⟩⟩
 generalize decide (V.int r=V.int 0)=em
 refine ⟨_,rfl,_,rfl,b,c,_,rfl,st4.bx,by omega,by omega,fun n H5 t5 hn st5 => ?_⟩
 have ub5:=st5.ub
 have lo5:=st5.le
 refine ⟨b,c,t5,n,rfl,st5.bx,by omega,by omega,hn,fun rows p vs H6 t6 hl hok hp pb pc _ hT st6=>gn ?_⟩
 have ub6:=st6.ub
 have lo6:=st6.le
 have okr:∀r∈rows,r.ok rows.length:=by rw [hl];exact hok
 refine ⟨_,rfl,_,rfl,_,rfl,b,c,t6,p,vs,rows,em,rfl,st6.bx,by omega,by omega,hp,pb,pc,hT,by omega,okr,fun L ls H7 t7 sheet er st7=>gn ?_⟩
 have st07:=(st2.trans (st4.trans (st5.trans (st6.trans st7)))).more (show _≤5000*((i+1:Nat):Int) by omega)
 have pg7:PgL H7 p n rows vs:=⟨st7.old hp pb pc,hT.tp (TP.step st6.bx st7),hl,hok⟩
 have hn2:n≤200:=by omega
 dsimp only
 refine seqCut (t:=tFor _ _ _) (fun σ H'=>Ex2 fun (y6 y7:Option V) => σ=[some (.ref a),some (.ref b),some (.int (0+i)),some (.bl em),some (.ref p),some (.str (shT L ls)),y6,y7,x8]∧Same H7 H') (fun Nx nx => ?_) ?_
 ·refine ⟨2,rfl,by decide,by decide,?_⟩
  refine for_go (N:=2) (fun j σ H'=>Ex2 fun (y6 y7:Option V) => σ=[some (.ref a),some (.ref b),some (.int (0+i)),some (.bl em),some (.ref p),some (.str (shT L ls)),y6,y7,x8]∧Same H7 H') ⟨_,_,rfl,Same.refl _⟩ ?_ ?_
  ·intro j σ H8 hj
   refine Elim.go ?_
   rintro y6 y7 rfl s8
   refine ⟨hj,?_⟩
   rintro x H9 ⟨rfl,rfl⟩
   refine gn ⟨_,rfl,L,ls,rfl,sheet,fun rq us2 H10 s10 rq0 hrq htq=>gn ?_⟩
   rw [er] at htq
   have pg10:=pg7.same (s8.trans s10)
   have g10:=pg10.gd hn2
   have gw:=g10.wt
   have gdp:=g10.dp
   refine ⟨_,rfl,_,rfl,_,_, .list (rows.map Rw.d),rfl,dlstN hrq htq.dens,pg10.den,by omega,by omega,fun H11 s11=>⟨_,rfl,iteF ?_⟩⟩
   have hrq11:=s11 _ _ hrq
   refine ⟨_,rfl, .inl ⟨rfl,_,SqL.of hrq11⟩,by show 1≤sizeLine;decide,fun tp H12 n12=>⟨rq,us2,_,rfl,rfl,n12.same _ _ hrq11,?_,fun H13 c13=>⟨_,_,rfl,fun bb o e => ?_⟩⟩⟩
   ·have:=htq.1
    exact Nat.lt_of_le_of_lt (show us2.length≤1000 by omega) (by decide)
   ·have e9:=s8 bb o e
    rw [c13.ne (ne_of_none e9 rq0)]
    exact n12.same _ _ (s11 _ _ (s10 _ _ e9))
  ·intro σ H8
   refine Elim.go ?_
   rintro y6 y7 rfl s8
   exact ⟨Nat.le_refl _,nx _ _ ⟨y6,y7,rfl,s8⟩⟩
 intro σ H8
 refine Elim.go ?_
 rintro y6 y7 rfl s8
 have pg8:=pg7.same s8
 refine ⟨_,rfl,p,vs,rows,n,rfl,pg8.l,pg8.t,hn2,pg8.ln,pg8.ok,fun H9 s9=>gn ?_⟩
 refine Elim.el (sheet_of hn2 pg8.ln pg8.ok) _ ?_
 rintro L2 ls2 ew sheet2 er2
 have wl:(wpT rows).length≤28000:=by rw [ew];exact sheet2.len
 have pg9:=pg8.same s9
 refine ⟨_,rfl,_,rfl,p,vs,rows,n,rfl,pg9.l,pg9.t,hn2,pg9.ln,pg9.ok,fun H10 s10 => ?_⟩
 refine ⟨_,_, .str (wpT rows),rfl,(by unfold Den;rfl),(by unfold Den;rfl),by simp [PyData.depth],Nat.le_trans (m:=28000) (by simp only [PyData.weight];exact wl) (by decide),fun H11 s11=>⟨_,rfl,?_⟩⟩
 refine iteF ?_
 have pg11:=pg9.same (s10.trans s11)
 refine ⟨_,rfl,L2,ls2,congrArg (fun z=>[V.str z]) ew,sheet2,fun rq us2 H12 s12 _ hrq htq=>⟨_,rfl,?_⟩⟩
 rw [er2] at htq
 have pg12:=pg11.same s12
 have g12:=pg12.gd hn2
 have gw:=g12.wt
 have gdp:=g12.dp
 refine ⟨_,_, .list (rows.map Rw.d),rfl,dlstN hrq htq.dens,pg12.den,by omega,by omega,fun H13 s13=>⟨_,rfl,?_⟩⟩
 exact iteF ⟨_,_,_,_,_,_,_,t7,(),rfl,(st07.trans (Step.same st07.bx (s8.trans (s9.trans (s10.trans (s11.trans (s12.trans s13))))))).more (by omega)⟩
end
end Z
namespace Z
open PySem L2
theorem lenZ {α:Type} {P:List α→Prop} (h:P []):∀us:List α,us.length=0→P us:=fun us e=>List.eq_nil_of_length_eq_zero e ▸ h
theorem lenS {α:Type} {P:List α→Prop} {n:Nat} (h:∀a (us:List α),us.length=n→P (a :: us)) (us:List α) (e:us.length=n+1):P us:=by
 cases us with|nil=>cases e|cons a us=>exact h a us (Nat.succ.inj e)
theorem all_mk {l:PySem.W.OpenLaw} {w:World} {K:PySem.W.Frag} {h:Heap} {mg:Str→Option Value} {fa f1 f2 f3 f4 f5 f6 f7 f8 f9 f10 f11 f12 f13 f14 f15 f16 f17 f18 f19 f20 f21:Addr} (X:K.In h) (G:h.Ns mainGlobals mg) (hfa:mg "law" = some (.ref fa))
  {fd1:FuncData}
  {fd2:FuncData}
  {fd3:FuncData}
  {fd4:FuncData}
  {fd5:FuncData}
  {fd6:FuncData}
  {fd7:FuncData}
  {fd8:FuncData}
  {fd9:FuncData}
  {fd10:FuncData}
  {fd11:FuncData}
  {fd12:FuncData}
  {fd13:FuncData}
  {fd14:FuncData}
  {fd15:FuncData}
  {fd16:FuncData}
  {fd17:FuncData}
  {fd18:FuncData}
  {fd19:FuncData}
  {fd20:FuncData}
  {od21 an21:Option Addr} {sl21:Array (Option Value)} {oc21 kV21 dc21 pm21 cd21 ct21:Value}
  {tkc0:Tok}
  {tkc1:Tok}
  {tkc2:Tok}
  {tkc3:Tok}
  {tkc4:Tok}
  {aS:Addr} {aSd:Option Addr} {aSi:List Value} {aSn:Nat} {aSs:Array (Option Value)}
  {aR:Addr} {aRd:Option Addr} {aRi:List Value} {aRn:Nat} {aRs:Array (Option Value)}
  {aJ:Addr} {aJd:Option Addr} {aJi:List Value} {aJn:Nat} {aJs:Array (Option Value)}
  {aP:Addr} {aPe:Array DictEntry} {aPn:Nat}
  {q_set:Addr} {q_setd:Option Addr} {q_seti:List Value} {q_setn:Nat} {q_sets:Array (Option Value)}
  {q_add:Addr} {q_addd:Option Addr} {q_addi:List Value} {q_addn:Nat} {q_adds:Array (Option Value)}
  {q_take:Addr} {q_taked:Option Addr} {q_takei:List Value} {q_taken:Nat} {q_takes:Array (Option Value)}
  {q_tell:Addr} {q_telld:Option Addr} {q_telli:List Value} {q_telln:Nat} {q_tells:Array (Option Value)}
  {q_ask:Addr} {q_askd:Option Addr} {q_aski:List Value} {q_askn:Nat} {q_asks:Array (Option Value)}
  {q_jump:Addr} {q_jumpd:Option Addr} {q_jumpi:List Value} {q_jumpn:Nat} {q_jumps:Array (Option Value)}
  {q_zero:Addr} {q_zerod:Option Addr} {q_zeroi:List Value} {q_zeron:Nat} {q_zeros:Array (Option Value)}
  {q_stop:Addr} {q_stopd:Option Addr} {q_stopi:List Value} {q_stopn:Nat} {q_stops:Array (Option Value)}
  (a1:PySem.W.nsIn K mainGlobals "made_of" = some (some (.ref f1))) (F1:Fun K "made_of" "made_of" (top i_made_of) f1 fd1)
  (a2:PySem.W.nsIn K mainGlobals "is_name" = some (some (.ref f2))) (F2:Fun K "is_name" "is_name" (top i_is_name) f2 fd2)
  (a3:PySem.W.nsIn K mainGlobals "label_in" = some (some (.ref f3))) (F3:Fun K "label_in" "label_in" (top i_label_in) f3 fd3)
  (a4:PySem.W.nsIn K mainGlobals "number_in" = some (some (.ref f4))) (F4:Fun K "number_in" "number_in" (top i_number_in) f4 fd4)
  (a5:PySem.W.nsIn K mainGlobals "value_in" = some (some (.ref f5))) (F5:Fun K "value_in" "value_in" (top i_value_in) f5 fd5)
  (a6:PySem.W.nsIn K mainGlobals "row_in" = some (some (.ref f6))) (F6:Fun K "row_in" "row_in" (top i_row_in) f6 fd6)
  (a7:PySem.W.nsIn K mainGlobals "label_places" = some (some (.ref f7))) (F7:Fun K "label_places" "label_places" (top i_label_places) f7 fd7)
  (a8:PySem.W.nsIn K mainGlobals "read_program" = some (some (.ref f8))) (F8:Fun K "read_program" "read_program" (top i_read_program) f8 fd8)
  (a9:PySem.W.nsIn K mainGlobals "label_name" = some (some (.ref f9))) (F9:Fun K "label_name" "label_name" (top i_label_name) f9 fd9)
  (a10:PySem.W.nsIn K mainGlobals "label_rows" = some (some (.ref f10))) (F10:Fun K "label_rows" "label_rows" (top i_label_rows) f10 fd10)
  (a11:PySem.W.nsIn K mainGlobals "row_text" = some (some (.ref f11))) (F11:Fun K "row_text" "row_text" (top i_row_text) f11 fd11)
  (a12:PySem.W.nsIn K mainGlobals "written_program" = some (some (.ref f12))) (F12:Fun K "written_program" "written_program" (top i_written_program) f12 fd12)
  (a13:PySem.W.nsIn K mainGlobals "_law_begin" = some (some (.ref f13))) (F13:Fun K "_law_begin" "_law_begin" (top i_law_begin) f13 fd13)
  (a14:PySem.W.nsIn K mainGlobals "_law_take" = some (some (.ref f14))) (F14:Fun K "_law_take" "_law_take" (top i_law_take) f14 fd14)
  (a15:PySem.W.nsIn K mainGlobals "_law_program" = some (some (.ref f15))) (F15:Fun K "_law_program" "_law_program" (top i_law_program) f15 fd15)
  (a16:PySem.W.nsIn K mainGlobals "_law_written" = some (some (.ref f16))) (F16:Fun K "_law_written" "_law_written" (top i_law_written) f16 fd16)
  (a17:PySem.W.nsIn K mainGlobals "_law_same" = some (some (.ref f17))) (F17:Fun K "_law_same" "_law_same" (top i_law_same) f17 fd17)
  (a18:PySem.W.nsIn K mainGlobals "_law_many" = some (some (.ref f18))) (F18:Fun K "_law_many" "_law_many" (top i_law_many) f18 fd18)
  (a19:PySem.W.nsIn K mainGlobals "_law_word" = some (some (.ref f19))) (F19:Fun K "_law_word" "_law_word" (top i_law_word) f19 fd19)
  (a20:PySem.W.nsIn K mainGlobals "_law_sheet" = some (some (.ref f20))) (F20:Fun K "_law_sheet" "_law_sheet" (top i_law_sheet) f20 fd20)
  (a21:PySem.W.nsIn K mainGlobals "law" = some (some (.ref f21))) (l21:K.lookup f21=some ⟨oc21,od21, .func (PySem.W.fnOf "law" "law" (defArgs (top i_law)) (defBody (top i_law)) (defScope (top i_law)) .none kV21 dc21 pm21 an21 cd21 ct21),sl21⟩) (c21:PySem.W.codeIn K cd21 "law" = true) (k21:PySem.W.keepIn K (.ref f21)=true)
  (vc0:PySem.W.nsIn K mainGlobals "GREATEST_NUMBER" = some (some (.int 255 tkc0)))
  (vc1:PySem.W.nsIn K mainGlobals "LONGEST_NAME" = some (some (.int 8 tkc1)))
  (vc2:PySem.W.nsIn K mainGlobals "MOST_ROWS" = some (some (.int 200 tkc2)))
  (vc3:PySem.W.nsIn K mainGlobals "SMALL_LETTERS" = some (some (.str sSmall tkc3)))
  (vc4:PySem.W.nsIn K mainGlobals "FIGURES" = some (some (.str sFig tkc4)))
  (gaS:PySem.W.nsIn K mainGlobals "SPOT_NAMES" = some (some (.ref aS)))
  (laS:K.lookup aS=some ⟨.type "tuple",aSd, .seq aSi.toArray aSn,aSs⟩)
  (waS:Vals [V.str "a",V.str "b",V.str "c",V.str "d"] aSi)
  (gaR:PySem.W.nsIn K mainGlobals "ROW_KINDS" = some (some (.ref aR)))
  (laR:K.lookup aR=some ⟨.type "tuple",aRd, .seq aRi.toArray aRn,aRs⟩)
  (waR:Vals [V.str "set",V.str "add",V.str "take",V.str "tell",V.str "ask",V.str "jump",V.str "zero",V.str "stop"] aRi)
  (gaJ:PySem.W.nsIn K mainGlobals "JUMPS" = some (some (.ref aJ)))
  (laJ:K.lookup aJ=some ⟨.type "tuple",aJd, .seq aJi.toArray aJn,aJs⟩)
  (waJ:Vals [V.str "jump",V.str "zero"] aJi)
  (gaP:PySem.W.nsIn K mainGlobals "PARTS" = some (some (.ref aP)))
  (laP:K.lookup aP=some ⟨.type "dict",none, .dict aPe aPn, #[]⟩)
  (kaP:PySem.W.KeysLit w.params aPe.toList)
  (g_q_set:PySem.W.nsIn K aP "set" = some (some (.ref q_set)))
  (lq_set:K.lookup q_set=some ⟨.type "tuple",q_setd, .seq q_seti.toArray q_setn,q_sets⟩)
  (wq_set:Vals [V.str "spot",V.str "number"] q_seti)
  (g_q_add:PySem.W.nsIn K aP "add" = some (some (.ref q_add)))
  (lq_add:K.lookup q_add=some ⟨.type "tuple",q_addd, .seq q_addi.toArray q_addn,q_adds⟩)
  (wq_add:Vals [V.str "spot",V.str "spot"] q_addi)
  (g_q_take:PySem.W.nsIn K aP "take" = some (some (.ref q_take)))
  (lq_take:K.lookup q_take=some ⟨.type "tuple",q_taked, .seq q_takei.toArray q_taken,q_takes⟩)
  (wq_take:Vals [V.str "spot",V.str "spot"] q_takei)
  (g_q_tell:PySem.W.nsIn K aP "tell" = some (some (.ref q_tell)))
  (lq_tell:K.lookup q_tell=some ⟨.type "tuple",q_telld, .seq q_telli.toArray q_telln,q_tells⟩)
  (wq_tell:Vals [V.str "spot"] q_telli)
  (g_q_ask:PySem.W.nsIn K aP "ask" = some (some (.ref q_ask)))
  (lq_ask:K.lookup q_ask=some ⟨.type "tuple",q_askd, .seq q_aski.toArray q_askn,q_asks⟩)
  (wq_ask:Vals [V.str "spot"] q_aski)
  (g_q_jump:PySem.W.nsIn K aP "jump" = some (some (.ref q_jump)))
  (lq_jump:K.lookup q_jump=some ⟨.type "tuple",q_jumpd, .seq q_jumpi.toArray q_jumpn,q_jumps⟩)
  (wq_jump:Vals [V.str "near"] q_jumpi)
  (g_q_zero:PySem.W.nsIn K aP "zero" = some (some (.ref q_zero)))
  (lq_zero:K.lookup q_zero=some ⟨.type "tuple",q_zerod, .seq q_zeroi.toArray q_zeron,q_zeros⟩)
  (wq_zero:Vals [V.str "spot",V.str "near"] q_zeroi)
  (g_q_stop:PySem.W.nsIn K aP "stop" = some (some (.ref q_stop)))
  (lq_stop:K.lookup q_stop=some ⟨.type "tuple",q_stopd, .seq q_stopi.toArray q_stopn,q_stops⟩)
  (wq_stop:Vals [] q_stopi)
  (y0:PySem.W.nsIn K mainGlobals "sorted" = some none)
  (y1:PySem.W.nsIn K mainGlobals "set" = some none)
  (y2:PySem.W.nsIn K mainGlobals "dict" = some none)
  (z0:PySem.W.nsIn K mainGlobals "len" = some none) (z1:PySem.W.nsIn K mainGlobals "range" = some none) (z2:PySem.W.nsIn K mainGlobals "max" = some none) (z3:PySem.W.nsIn K mainGlobals "min" = some none) (z4:PySem.W.nsIn K mainGlobals "sum" = some none) (z5:PySem.W.nsIn K mainGlobals "all" = some none) (z6:PySem.W.nsIn K mainGlobals "any" = some none) (z7:PySem.W.nsIn K mainGlobals "list" = some none) (z8:PySem.W.nsIn K mainGlobals "tuple" = some none) (z9:PySem.W.nsIn K mainGlobals "int" = some none) (z10:PySem.W.nsIn K mainGlobals "str" = some none) (z11:PySem.W.nsIn K mainGlobals "bool" = some none) (z12:PySem.W.nsIn K mainGlobals "zip" = some none) (z13:PySem.W.nsIn K mainGlobals "enumerate" = some none) (z14:PySem.W.nsIn K mainGlobals "isinstance" = some none) (z15:PySem.W.nsIn K mainGlobals "divmod" = some none) :
  ∃fd:FuncData,(∀(s:Shared) (v:Value),BindsTo s fd ⟨[v],[]⟩ [("_law_script",v)])∧∀base:Heap,K.In base→base.Ns mainGlobals mg→FnOk l.prog w K mg base CX0 6 fa fd ["_law_script"] (spLaw K):=by
 have e:=hfa.symm.trans (PySem.W.mg_of X G a21)
 cases e
 have T:Nm mg:=⟨PySem.W.mg_none_of X G z0,PySem.W.mg_none_of X G z1,PySem.W.mg_none_of X G z2,PySem.W.mg_none_of X G z3,PySem.W.mg_none_of X G z4,PySem.W.mg_none_of X G z5,PySem.W.mg_none_of X G z6,PySem.W.mg_none_of X G z7,PySem.W.mg_none_of X G z8,PySem.W.mg_none_of X G z9,PySem.W.mg_none_of X G z10,PySem.W.mg_none_of X G z11,PySem.W.mg_none_of X G z12,PySem.W.mg_none_of X G z13,PySem.W.mg_none_of X G z14,PySem.W.mg_none_of X G z15⟩
 have n_sorted:=PySem.W.mg_none_of X G y0
 have n_set:=PySem.W.mg_none_of X G y1
 have n_dict:=PySem.W.mg_none_of X G y2
 have v_GREATEST_NUMBER:=PySem.W.mg_of X G vc0
 have v_LONGEST_NAME:=PySem.W.mg_of X G vc1
 have v_MOST_ROWS:=PySem.W.mg_of X G vc2
 have v_SMALL_LETTERS:=PySem.W.mg_of X G vc3
 have v_FIGURES:=PySem.W.mg_of X G vc4
 have C83:Cs83 K w mg aS aR aP aJ:=⟨PySem.W.mg_of X G gaS,PySem.W.mg_of X G gaR,PySem.W.mg_of X G gaP,PySem.W.mg_of X G gaJ,sqt_mk laS waS (by decide),sqt_mk laR waR (by decide),sqt_mk laJ waJ (by decide),⟨_,_,laP,kaP⟩,fun r=>by
  cases r
  ·exact ⟨_,g_q_set,sqt_mk (xs:=[V.str "spot",V.str "number"]) lq_set wq_set (by decide)⟩
  ·exact ⟨_,g_q_add,sqt_mk (xs:=[V.str "spot",V.str "spot"]) lq_add wq_add (by decide)⟩
  ·exact ⟨_,g_q_take,sqt_mk (xs:=[V.str "spot",V.str "spot"]) lq_take wq_take (by decide)⟩
  ·exact ⟨_,g_q_tell,sqt_mk (xs:=[V.str "spot"]) lq_tell wq_tell (by decide)⟩
  ·exact ⟨_,g_q_ask,sqt_mk (xs:=[V.str "spot"]) lq_ask wq_ask (by decide)⟩
  ·exact ⟨_,g_q_jump,sqt_mk (xs:=[V.str "near"]) lq_jump wq_jump (by decide)⟩
  ·exact ⟨_,g_q_zero,sqt_mk (xs:=[V.str "spot",V.str "near"]) lq_zero wq_zero (by decide)⟩
  ·exact ⟨_,g_q_stop,sqt_mk (xs:=[]) lq_stop wq_stop (by decide)⟩⟩
 have k1:=F1.kp
 have b1:=F1.binds (ps:=["text", "signs"]) fun _ _ _ _ _ _=>lenS fun _=>lenS fun _=>lenZ rfl
 have k2:=F2.kp
 have b2:=F2.binds (ps:=["thing"]) fun _ _ _ _ _ _=>lenS fun _=>lenZ rfl
 have k3:=F3.kp
 have b3:=F3.binds (ps:=["row"]) fun _ _ _ _ _ _=>lenS fun _=>lenZ rfl
 have k4:=F4.kp
 have b4:=F4.binds (ps:=["word"]) fun _ _ _ _ _ _=>lenS fun _=>lenZ rfl
 have k5:=F5.kp
 have b5:=F5.binds (ps:=["part", "word", "places"]) fun _ _ _ _ _ _=>lenS fun _=>lenS fun _=>lenS fun _=>lenZ rfl
 have k6:=F6.kp
 have b6:=F6.binds (ps:=["row", "places"]) fun _ _ _ _ _ _=>lenS fun _=>lenS fun _=>lenZ rfl
 have k7:=F7.kp
 have b7:=F7.binds (ps:=["rows"]) fun _ _ _ _ _ _=>lenS fun _=>lenZ rfl
 have k8:=F8.kp
 have b8:=F8.binds (ps:=["text"]) fun _ _ _ _ _ _=>lenS fun _=>lenZ rfl
 have k9:=F9.kp
 have b9:=F9.binds (ps:=["at"]) fun _ _ _ _ _ _=>lenS fun _=>lenZ rfl
 have k10:=F10.kp
 have b10:=F10.binds (ps:=["labels", "place"]) fun _ _ _ _ _ _=>lenS fun _=>lenS fun _=>lenZ rfl
 have k11:=F11.kp
 have b11:=F11.binds (ps:=["row", "labels"]) fun _ _ _ _ _ _=>lenS fun _=>lenS fun _=>lenZ rfl
 have k12:=F12.kp
 have b12:=F12.binds (ps:=["program"]) fun _ _ _ _ _ _=>lenS fun _=>lenZ rfl
 have k13:=F13.kp
 have b13:=F13.binds (ps:=["_law_script"]) fun _ _ _ _ _ _=>lenS fun _=>lenZ rfl
 have k14:=F14.kp
 have b14:=F14.binds (ps:=["_law_state", "_law_many_here"]) fun _ _ _ _ _ _=>lenS fun _=>lenS fun _=>lenZ rfl
 have k15:=F15.kp
 have b15:=F15.binds (ps:=["_law_state", "_law_many_here"]) fun _ _ _ _ _ _=>lenS fun _=>lenS fun _=>lenZ rfl
 have k16:=F16.kp
 have b16:=F16.binds (ps:=["_law_program_here"]) fun _ _ _ _ _ _=>lenS fun _=>lenZ rfl
 have k17:=F17.kp
 have b17:=F17.binds (ps:=["_law_found", "_law_due"]) fun _ _ _ _ _ _=>lenS fun _=>lenS fun _=>lenZ rfl
 have k18:=F18.kp
 have b18:=F18.binds (ps:=["_law_state"]) fun _ _ _ _ _ _=>lenS fun _=>lenZ rfl
 have k19:=F19.kp
 have b19:=F19.binds (ps:=["_law_state", "_law_most"]) fun _ _ _ _ _ _=>lenS fun _=>lenS fun _=>lenZ rfl
 have k20:=F20.kp
 have b20:=F20.binds (ps:=["_law_state", "_law_program_here", "_law_empty"]) fun _ _ _ _ _ _=>lenS fun _=>lenS fun _=>lenS fun _=>lenZ rfl
 have F21:=fun_mk (st:=top i_law) l21 c21 k21
 refine ⟨PySem.W.fnOf "law" "law" (defArgs (top i_law)) (defBody (top i_law)) (defScope (top i_law)) .none kV21 dc21 pm21 an21 cd21 ct21,fun s v => .of_eq rfl,fun base hB hG => ?_⟩
 have fMade:Fn l.prog w K mg base 1 "made_of" ["text", "signs"] (spMade):=⟨f1,_,ok_made F1 T,b1,k1,PySem.W.mg_of X G a1⟩
 have fNam:Fn l.prog w K mg base 2 "is_name" ["thing"] (spNam K):=⟨f2,_,ok_nam F2 T v_LONGEST_NAME v_SMALL_LETTERS fMade,b2,k2,PySem.W.mg_of X G a2⟩
 have fLin:Fn l.prog w K mg base 3 "label_in" ["row"] (spLin K):=⟨f3,_,ok_lin F3 T fNam,b3,k3,PySem.W.mg_of X G a3⟩
 have fNum:Fn l.prog w K mg base 2 "number_in" ["word"] (spNum K):=⟨f4,_,ok_num F4 T v_GREATEST_NUMBER v_FIGURES fMade,b4,k4,PySem.W.mg_of X G a4⟩
 have fVal:Fn l.prog w K mg base 3 "value_in" ["part", "word", "places"] (spVal K):=⟨f5,_,ok_val F5 T C83 fNum,b5,k5,PySem.W.mg_of X G a5⟩
 have fRin:Fn l.prog w K mg base 4 "row_in" ["row", "places"] (spRin K):=⟨f6,_,ok_rin F6 T C83 fVal,b6,k6,PySem.W.mg_of X G a6⟩
 have fLpl:Fn l.prog w K mg base 4 "label_places" ["rows"] (spLpl K):=⟨f7,_,ok_lpl F7 T fLin,b7,k7,PySem.W.mg_of X G a7⟩
 have fRdp:Fn l.prog w K mg base 5 "read_program" ["text"] (spRdp K):=⟨f8,_,ok_rdp F8 T v_MOST_ROWS fLpl fLin fRin,b8,k8,PySem.W.mg_of X G a8⟩
 have fLnm:Fn l.prog w K mg base 1 "label_name" ["at"] (spLnm):=⟨f9,_,ok_lnm F9 T v_SMALL_LETTERS,b9,k9,PySem.W.mg_of X G a9⟩
 have fLrw:Fn l.prog w K mg base 1 "label_rows" ["labels", "place"] (spLrw):=⟨f10,_,ok_lrw F10 T,b10,k10,PySem.W.mg_of X G a10⟩
 have fRtx:Fn l.prog w K mg base 1 "row_text" ["row", "labels"] (spRtx K):=⟨f11,_,ok_rtx F11 T C83,b11,k11,PySem.W.mg_of X G a11⟩
 have fWpr:Fn l.prog w K mg base 2 "written_program" ["program"] (spWpr K):=⟨f12,_,ok_wpr F12 T n_sorted C83 fLnm fLrw fRtx,b12,k12,PySem.W.mg_of X G a12⟩
 have fBegin:Fn l.prog w K mg base 1 "_law_begin" ["_law_script"] (spBegin K):=⟨f13,_,ok_begin F13 T,b13,k13,PySem.W.mg_of X G a13⟩
 have fTake:Fn l.prog w K mg base 1 "_law_take" ["_law_state", "_law_many_here"] (spTake):=⟨f14,_,ok_take F14 T,b14,k14,PySem.W.mg_of X G a14⟩
 have fTk:Fn l.prog w K mg base 1 "_law_take" ["_law_state", "_law_many_here"] (spTk):=Fn.imp fTake (fun _ _ _ _ h=>spTk_of h)
 have fProg:Fn l.prog w K mg base 2 "_law_program" ["_law_state", "_law_many_here"] (spProg K):=⟨f15,_,ok_prog F15 T fTk,b15,k15,PySem.W.mg_of X G a15⟩
 have fLwr:Fn l.prog w K mg base 1 "_law_written" ["_law_program_here"] (spWpr K):=⟨f16,_,ok_lwr F16 T n_sorted n_set n_dict,b16,k16,PySem.W.mg_of X G a16⟩
 have fSame:∀n:Nat,Fn l.prog w K mg base (n+0) "_law_same" ["_law_found", "_law_due"] (spSame K n):=fun n=>by
  induction n with
  | zero=>exact ⟨f17,_,⟨fun vs H Q E h=>absurd h (by rintro ⟨_,_,_,_,_,_,z,_⟩;exact absurd z (Nat.not_lt_zero _)),fun A outer s H args us vs Q E _ _ _ _ h=>absurd h (by rintro ⟨_,_,_,_,_,_,z,_⟩;exact absurd z (Nat.not_lt_zero _))⟩,b17,k17,PySem.W.mg_of X G a17⟩
  | succ n ih=>exact ⟨f17,_,ok_same F17 T ih,b17,k17,PySem.W.mg_of X G a17⟩
 have fMany:Fn l.prog w K mg base 2 "_law_many" ["_law_state"] (spMn):=⟨f18,_,ok_many F18 T fTk,b18,k18,PySem.W.mg_of X G a18⟩
 have fWrd:Fn l.prog w K mg base 2 "_law_word" ["_law_state", "_law_most"] (spWrd):=⟨f19,_,ok_wrd F19 T fTk,b19,k19,PySem.W.mg_of X G a19⟩
 have fSht:Fn l.prog w K mg base 3 "_law_sheet" ["_law_state", "_law_program_here", "_law_empty"] (spSht K):=⟨f20,_,ok_sht F20 T fTk fWrd,b20,k20,PySem.W.mg_of X G a20⟩
 exact ok_law F21 T fBegin fTk fProg fMany fSht fLwr fWpr fRdp (fSame 3)
theorem walk {l:PySem.W.OpenLaw} {q:Program} {loose:List Str} {XP:(Str→Option Value)→Heap→Prop} {YP:World→Heap→Prop} {d:DefRec} {K:Params→PySem.W.Frag} (hn:l.most=some 63) (hdf:d.params.defaults=[])
  (hY:∀(w:World) (h:Heap),YP w h→(K w.params).In h)
  (F:∀(w:World) (mg:Str→Option Value) (fa:Addr) (h:Heap),(K w.params).In h→h.Ns mainGlobals mg→mg d.name=some (.ref fa) →
   ∃fd:FuncData,(∀(s:Shared) (u:Value),BindsTo s fd ⟨[u],[]⟩ [("_law_script",u)])∧∀base:Heap,(K w.params).In base→base.Ns mainGlobals mg→FnOk l.prog w (K w.params) mg base CX0 6 fa fd ["_law_script"] (spLaw (K w.params))) :
  PySem.W.WalkO q loose XP YP l.row.toRowW d [] (fun f vs=>PySem.call f vs):=
 L2.walk_of (n:=63) (k:=6) (x := "_law_script") (CX:=fun _=>CX0) (sp:=fun w=>spLaw (K w.params)) hn (by decide) hdf ⟨rfl,by decide,by decide,rfl⟩ hY F (fun _ _ a ns hl _ hS=>⟨a,ns,rfl,hS,hl,fun _=>rfl⟩) fun _ _ _ _ _ z=>z
end Z
open PySem PySem.W PyProof.Rows L2
set_option maxRecDepth 100000 in
set_option maxHeartbeats 0 in
theorem PySem.Challenge.cw_oddlong_k80_sheets_read_holds : PySem.Challenge.rw_oddlong_k80_sheets_read.Holds := by
  w_on; o_law; k_head; (case hw => w_witness2)
  k_fill
  refine Z.walk (l := PySem.Challenge.rw_oddlong_k80_sheets_read) rfl rfl (fun w h Y => PySem.W.kIn_of Y) ?F
  case F =>
    intro w mg fa h KX G hmg
    refine' Z.all_mk KX G hmg ?a1 ?F1 ?a2 ?F2 ?a3 ?F3 ?a4 ?F4 ?a5 ?F5 ?a6 ?F6 ?a7 ?F7 ?a8 ?F8 ?a9 ?F9 ?a10 ?F10 ?a11 ?F11 ?a12 ?F12 ?a13 ?F13 ?a14 ?F14 ?a15 ?F15 ?a16 ?F16 ?a17 ?F17 ?a18 ?F18 ?a19 ?F19 ?a20 ?F20 ?a21 ?l21 ?c21 ?k21 ?vc0 ?vc1 ?vc2 ?vc3 ?vc4 ?gaS ?laS ?waS ?gaR ?laR ?waR ?gaJ ?laJ ?waJ ?gaP ?laP ?kaP ?g_q_set ?lq_set ?wq_set ?g_q_add ?lq_add ?wq_add ?g_q_take ?lq_take ?wq_take ?g_q_tell ?lq_tell ?wq_tell ?g_q_ask ?lq_ask ?wq_ask ?g_q_jump ?lq_jump ?wq_jump ?g_q_zero ?lq_zero ?wq_zero ?g_q_stop ?lq_stop ?wq_stop ?y0 ?y1 ?y2 ?z0 ?z1 ?z2 ?z3 ?z4 ?z5 ?z6 ?z7 ?z8 ?z9 ?z10 ?z11 ?z12 ?z13 ?z14 ?z15
    (case a1 => k_is); (case F1 => (refine' fun_mk ?l ?c ?k; (case l => k_is); (case c => k_is); (case k => k_is))); (case a2 => k_is); (case F2 => (refine' fun_mk ?l ?c ?k; (case l => k_is); (case c => k_is); (case k => k_is))); (case a3 => k_is); (case F3 => (refine' fun_mk ?l ?c ?k; (case l => k_is); (case c => k_is); (case k => k_is))); (case a4 => k_is); (case F4 => (refine' fun_mk ?l ?c ?k; (case l => k_is); (case c => k_is); (case k => k_is)))
    (case a5 => k_is); (case F5 => (refine' fun_mk ?l ?c ?k; (case l => k_is); (case c => k_is); (case k => k_is))); (case a6 => k_is); (case F6 => (refine' fun_mk ?l ?c ?k; (case l => k_is); (case c => k_is); (case k => k_is))); (case a7 => k_is); (case F7 => (refine' fun_mk ?l ?c ?k; (case l => k_is); (case c => k_is); (case k => k_is))); (case a8 => k_is); (case F8 => (refine' fun_mk ?l ?c ?k; (case l => k_is); (case c => k_is); (case k => k_is)))
    (case a9 => k_is); (case F9 => (refine' fun_mk ?l ?c ?k; (case l => k_is); (case c => k_is); (case k => k_is))); (case a10 => k_is); (case F10 => (refine' fun_mk ?l ?c ?k; (case l => k_is); (case c => k_is); (case k => k_is))); (case a11 => k_is); (case F11 => (refine' fun_mk ?l ?c ?k; (case l => k_is); (case c => k_is); (case k => k_is))); (case a12 => k_is); (case F12 => (refine' fun_mk ?l ?c ?k; (case l => k_is); (case c => k_is); (case k => k_is)))
    (case a13 => k_is); (case F13 => (refine' fun_mk ?l ?c ?k; (case l => k_is); (case c => k_is); (case k => k_is))); (case a14 => k_is); (case F14 => (refine' fun_mk ?l ?c ?k; (case l => k_is); (case c => k_is); (case k => k_is))); (case a15 => k_is); (case F15 => (refine' fun_mk ?l ?c ?k; (case l => k_is); (case c => k_is); (case k => k_is))); (case a16 => k_is); (case F16 => (refine' fun_mk ?l ?c ?k; (case l => k_is); (case c => k_is); (case k => k_is)))
    (case a17 => k_is); (case F17 => (refine' fun_mk ?l ?c ?k; (case l => k_is); (case c => k_is); (case k => k_is))); (case a18 => k_is); (case F18 => (refine' fun_mk ?l ?c ?k; (case l => k_is); (case c => k_is); (case k => k_is))); (case a19 => k_is); (case F19 => (refine' fun_mk ?l ?c ?k; (case l => k_is); (case c => k_is); (case k => k_is))); (case a20 => k_is); (case F20 => (refine' fun_mk ?l ?c ?k; (case l => k_is); (case c => k_is); (case k => k_is)))
    (case a21 => k_is); (case l21 => k_is); (case c21 => k_is); (case k21 => k_is); (case vc0 => k_is); (case vc1 => k_is); (case vc2 => k_is); (case vc3 => k_is)
    (case vc4 => k_is); (case gaS => k_is); (case laS => k_is); (case waS => repeat (first | exact Paired.nil | refine Paired.cons ⟨_, rfl⟩ ?_)); (case gaR => k_is); (case laR => k_is); (case waR => repeat (first | exact Paired.nil | refine Paired.cons ⟨_, rfl⟩ ?_)); (case gaJ => k_is)
    (case laJ => k_is); (case waJ => repeat (first | exact Paired.nil | refine Paired.cons ⟨_, rfl⟩ ?_)); (case gaP => k_is); (case laP => k_is); (case kaP => repeat (first | exact trivial | refine ⟨⟨_, _, rfl, rfl⟩, ?_⟩)); (case g_q_set => k_is); (case lq_set => k_is); (case wq_set => repeat (first | exact Paired.nil | refine Paired.cons ⟨_, rfl⟩ ?_))
    (case g_q_add => k_is); (case lq_add => k_is); (case wq_add => repeat (first | exact Paired.nil | refine Paired.cons ⟨_, rfl⟩ ?_)); (case g_q_take => k_is); (case lq_take => k_is); (case wq_take => repeat (first | exact Paired.nil | refine Paired.cons ⟨_, rfl⟩ ?_)); (case g_q_tell => k_is); (case lq_tell => k_is)
    (case wq_tell => repeat (first | exact Paired.nil | refine Paired.cons ⟨_, rfl⟩ ?_)); (case g_q_ask => k_is); (case lq_ask => k_is); (case wq_ask => repeat (first | exact Paired.nil | refine Paired.cons ⟨_, rfl⟩ ?_)); (case g_q_jump => k_is); (case lq_jump => k_is); (case wq_jump => repeat (first | exact Paired.nil | refine Paired.cons ⟨_, rfl⟩ ?_)); (case g_q_zero => k_is)
    (case lq_zero => k_is); (case wq_zero => repeat (first | exact Paired.nil | refine Paired.cons ⟨_, rfl⟩ ?_)); (case g_q_stop => k_is); (case lq_stop => k_is); (case wq_stop => repeat (first | exact Paired.nil | refine Paired.cons ⟨_, rfl⟩ ?_)); (case y0 => k_is); (case y1 => k_is); (case y2 => k_is)
    (case z0 => k_is); (case z1 => k_is); (case z2 => k_is); (case z3 => k_is); (case z4 => k_is); (case z5 => k_is); (case z6 => k_is); (case z7 => k_is)
    (case z8 => k_is); (case z9 => k_is); (case z10 => k_is); (case z11 => k_is); (case z12 => k_is); (case z13 => k_is); (case z14 => k_is); (case z15 => k_is)
