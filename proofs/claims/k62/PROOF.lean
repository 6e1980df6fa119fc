import PyProof.Rows.All
import Wide.All
import OpenK.AllK
import Wide.FinOn
import PyProof.EqAt
import PyProof.EqKinds
import PyProof.TupleCall
import PyProof.DictCompW
import PyProof.Rows.SortWalk
import OpenK.KRaise
import PyProof.ExcClass2
import KE.KTryMore
import KE.KSortTup
import KE.KIsAll
import PyProof.ListRange
import PyProof.StrBlock2
import PyProof.Rows.SetFrom
import PyProof.SetRoads
import PyProof.ReprRoads
import PyProof.CallStr
import PyProof.Rows.SortStr
import KE.KSortKey
import KE.KMinKey
import PyProof.Rows.Range3
import PyProof.Rows.IntBool
import KE.KRevIter
import PyProof.MeetsSeq
import PyProof.MinMaxWalk
import PyProof.SliceStr2
import PyProof.P3Eq
import PyProof.Rows.StrLen
import PyProof.Rows.StrCase
import PyProof.InstStoreFacts
import PyProof.ExcInit
import PyProof.StrCalls
import PyProof.DictIter
import PyProof.DictWalks
import PyProof.AutoIntG2
import PyProof.Rows.TupDisplay
import KE.KDictList
import PyProof.DictItems
import PyProof.RulesTry
import PyProof.EnumMake
import PyProof.Draws
import PyProof.FactsAll.set_1
import PyProof.IsiH_list
import KE.KDictOf
import PyProof.DictUpdate
import Lean
import PySem.Challenge.RW_oddlong_k62_greatest_delay
set_option Elab.async false
set_option linter.all false
set_option maxRecDepth 100000
namespace L2
set_option genSizeOf false
set_option genInjectivity false
inductive Ex2 {α0 α1:Type} (P : α0 → α1→Prop):Prop|mk (x0 : α0) (x1 : α1) (h:P x0 x1):Ex2 P
inductive Ex3 {α0 α1 α2:Type} (P : α0 → α1 → α2→Prop):Prop|mk (x0 : α0) (x1 : α1) (x2 : α2) (h:P x0 x1 x2):Ex3 P
inductive Ex4 {α0 α1 α2 α3:Type} (P : α0 → α1 → α2 → α3→Prop):Prop|mk (x0 : α0) (x1 : α1) (x2 : α2) (x3 : α3) (h:P x0 x1 x2 x3):Ex4 P
inductive Ex5 {α0 α1 α2 α3 α4:Type} (P : α0 → α1 → α2 → α3 → α4→Prop):Prop|mk (x0 : α0) (x1 : α1) (x2 : α2) (x3 : α3) (x4 : α4) (h:P x0 x1 x2 x3 x4):Ex5 P
inductive Ex6 {α0 α1 α2 α3 α4 α5:Type} (P : α0 → α1 → α2 → α3 → α4 → α5→Prop):Prop|mk (x0 : α0) (x1 : α1) (x2 : α2) (x3 : α3) (x4 : α4) (x5 : α5) (h:P x0 x1 x2 x3 x4 x5):Ex6 P
set_option genSizeOf true
set_option genInjectivity true
class Elim (P:Prop) (F:outParam (Prop→Prop)):Prop where
 el:P→∀G:Prop,F G→G
noncomputable instance (priority:=low) elimBase {P:Prop} : Elim P (fun G=>P→G):=⟨fun h _ k=>k h⟩
noncomputable instance elimEx {α:Sort u} {P : α→Prop} {F : α→Prop→Prop} [h:∀x,Elim (P x) (F x)]:Elim (∃x,P x) (fun G=>∀x,F x G):=⟨fun ⟨x,hx⟩ G k=>(h x).el hx G (k x)⟩
noncomputable instance elimAnd {A B:Prop} {F:Prop→Prop} [h:Elim B F]:Elim (A∧B) (fun G=>A→F G):=⟨fun ⟨a,b⟩ G k=>h.el b G (k a)⟩
noncomputable instance elimEx2 {α0 α1:Type} {P : α0 → α1→Prop} {F : α0 → α1→Prop→Prop} [i:∀x0 x1,Elim (P x0 x1) (F x0 x1)]:Elim (Ex2 P) (fun G=>∀x0 x1,F x0 x1 G):=⟨fun ⟨x0,x1,h⟩ G k=>(i x0 x1).el h G (k x0 x1)⟩
noncomputable instance elimEx3 {α0 α1 α2:Type} {P : α0 → α1 → α2→Prop} {F : α0 → α1 → α2→Prop→Prop} [i:∀x0 x1 x2,Elim (P x0 x1 x2) (F x0 x1 x2)]:Elim (Ex3 P) (fun G=>∀x0 x1 x2,F x0 x1 x2 G):=⟨fun ⟨x0,x1,x2,h⟩ G k=>(i x0 x1 x2).el h G (k x0 x1 x2)⟩
noncomputable instance elimEx4 {α0 α1 α2 α3:Type} {P : α0 → α1 → α2 → α3→Prop} {F : α0 → α1 → α2 → α3→Prop→Prop} [i:∀x0 x1 x2 x3,Elim (P x0 x1 x2 x3) (F x0 x1 x2 x3)]:Elim (Ex4 P) (fun G=>∀x0 x1 x2 x3,F x0 x1 x2 x3 G):=⟨fun ⟨x0,x1,x2,x3,h⟩ G k=>(i x0 x1 x2 x3).el h G (k x0 x1 x2 x3)⟩
noncomputable instance elimEx5 {α0 α1 α2 α3 α4:Type} {P : α0 → α1 → α2 → α3 → α4→Prop} {F : α0 → α1 → α2 → α3 → α4→Prop→Prop} [i:∀x0 x1 x2 x3 x4,Elim (P x0 x1 x2 x3 x4) (F x0 x1 x2 x3 x4)]:Elim (Ex5 P) (fun G=>∀x0 x1 x2 x3 x4,F x0 x1 x2 x3 x4 G):=⟨fun ⟨x0,x1,x2,x3,x4,h⟩ G k=>(i x0 x1 x2 x3 x4).el h G (k x0 x1 x2 x3 x4)⟩
noncomputable instance elimEx6 {α0 α1 α2 α3 α4 α5:Type} {P : α0 → α1 → α2 → α3 → α4 → α5→Prop} {F : α0 → α1 → α2 → α3 → α4 → α5→Prop→Prop} [i:∀x0 x1 x2 x3 x4 x5,Elim (P x0 x1 x2 x3 x4 x5) (F x0 x1 x2 x3 x4 x5)]:Elim (Ex6 P) (fun G=>∀x0 x1 x2 x3 x4 x5,F x0 x1 x2 x3 x4 x5 G):=⟨fun ⟨x0,x1,x2,x3,x4,x5,h⟩ G k=>(i x0 x1 x2 x3 x4 x5).el h G (k x0 x1 x2 x3 x4 x5)⟩
end L2
namespace L2
open PySem PySem.Spec PyProof.Rows
noncomputable abbrev Key:=Sum Int Str
noncomputable def keyIs:Key→Value→Bool
 | .inl k,v=>Value.isInt k v
 | .inr x,v=>Value.isStrOf x v
noncomputable def keyH (w:World):Key→Int
 | .inl k=>hashInt k
 | .inr x=>hashStr w x
theorem keyIs_shape:∀{k:Key} {v:Value},keyIs k v=true→(∃i t,k=Sum.inl i∧v=Value.int i t)∨(∃x t,k=Sum.inr x∧v=Value.str x t)
 | .inl i,v,h=>by
  obtain ⟨t,e⟩:=Value.isInt_shape (k:=i) (v:=v) h
  exact .inl ⟨i,t,rfl,e⟩
 | .inr x,v,h=>by
  obtain ⟨t,e⟩:=Value.isStrOf_shape (x:=x) (v:=v) h
  exact .inr ⟨x,t,rfl,e⟩
theorem keyIs_int (i:Int) (t:Tok):keyIs (.inl i) (.int i t)=true:=by simp [keyIs,Value.isInt]
theorem keyIs_str (x:Str) (t:Tok):keyIs (.inr x) (.str x t)=true:=by simp [keyIs,Value.isStrOf]
theorem key_ll (a b:Int):decide ((Sum.inl a:Key)=Sum.inl b)=(a == b):=by
 by_cases e:a=b
 ·subst e;simp
 ·have h:¬(Sum.inl a:Key)=Sum.inl b:=fun q=>e (Sum.inl.inj q)
  rw [decide_eq_false h]
  exact (beq_eq_false_iff_ne.mpr e).symm
theorem key_rr (a b:Str):decide ((Sum.inr a:Key)=Sum.inr b)=decide (a=b):=by
 by_cases e:a=b
 ·subst e;simp
 ·have h:¬(Sum.inr a:Key)=Sum.inr b:=fun q=>e (Sum.inr.inj q)
  rw [decide_eq_false h,decide_eq_false e]
theorem key_lr (a:Int) (b:Str):decide ((Sum.inl a:Key)=Sum.inr b)=false:=decide_eq_false (fun q=>nomatch q)
theorem key_rl (a:Str) (b:Int):decide ((Sum.inr a:Key)=Sum.inl b)=false:=decide_eq_false (fun q=>nomatch q)
noncomputable def mixKind (prog:Program) (w:World):PySem.KeyKind prog w Key where
 is:=keyIs
 hash:=keyH w
 inj:=fun v a b ha hb=>by
  rcases keyIs_shape ha with ⟨i,t,rfl,rfl⟩|⟨x,t,rfl,rfl⟩
  ·rcases keyIs_shape hb with ⟨j,u,rfl,e⟩|⟨y,u,rfl,e⟩
   ·injection e with e1 _;rw [e1]
   ·exact nomatch e
  ·rcases keyIs_shape hb with ⟨j,u,rfl,e⟩|⟨y,u,rfl,e⟩
   ·exact nomatch e
   ·injection e with e1 _;rw [e1]
 byValue:=fun k v h=>by
  rcases keyIs_shape h with ⟨i,t,rfl,rfl⟩|⟨x,t,rfl,rfl⟩ <;> rfl
 pyHash:=fun hv h=>by
  rcases keyIs_shape hv with ⟨i,t,rfl,rfl⟩|⟨x,t,rfl,rfl⟩
  ·exact wpAny_pyHash_int h
  ·exact wpAny_pyHash_str h
 eqBool:=fun hu hv h=>by
  rcases keyIs_shape hu with ⟨i,t,rfl,rfl⟩|⟨x,t,rfl,rfl⟩
  ·rcases keyIs_shape hv with ⟨j,u,rfl,rfl⟩|⟨y,u,rfl,rfl⟩
   ·rw [key_ll] at h;exact wpAny_eqBool_int h
   ·rw [key_lr] at h;exact SeqAt.EqAt.int_str i t y u _ _ _ _ h
  ·rcases keyIs_shape hv with ⟨j,u,rfl,rfl⟩|⟨y,u,rfl,rfl⟩
   ·rw [key_rl] at h;exact SeqAt.EqAt.str_int x t j u _ _ _ _ h
   ·rw [key_rr] at h;exact wpAny_eqBool_str h
 «strs»:=fun k x t v h=>by
  rcases keyIs_shape h with ⟨i,u,rfl,e⟩|⟨y,u,rfl,e⟩
  ·exact nomatch e
  ·injection e with e1 _
   subst e1
   cases v <;> rfl
theorem mixKind_int (prog:Program) (w:World) (i:Int) (t:Tok):(mixKind prog w).is (.inl i) (.int i t)=true:=keyIs_int i t
theorem mixKind_str (prog:Program) (w:World) (x:Str) (t:Tok):(mixKind prog w).is (.inr x) (.str x t)=true:=keyIs_str x t
end L2
namespace L2
open PySem PySem.Spec PyProof.Rows
inductive V where
 | non|bl (b:Bool)|int (i:Int)|str (x:Str)|byt (b:Array UInt8)|flt (b:UInt64)|ref (a:Addr)|ty (n:String)
 deriving DecidableEq
noncomputable def RelV:V→Value→Prop
 | .non,u=>u=Value.none
 | .bl b,u=>u=Value.bool b
 | .int i,u=>∃t,u=Value.int i t
 | .str x,u=>∃t,u=Value.str x t
 | .byt b,u=>∃t,u=Value.bytes b t
 | .flt b,u=>∃t,u=Value.float b t
 | .ref a,u=>u=Value.ref a
 | .ty n,u=>u=Value.type n
noncomputable abbrev Vals:List V→List Value→Prop:=Paired RelV
theorem Vals.length {xs:List V} {us:List Value} (r:Vals xs us):xs.length=us.length:=Paired.length r
theorem Vals.get:∀{xs:List V} {us:List Value} {i:Nat} {x:V},Vals xs us→xs[i]? = some x→∃u,us[i]? = some u∧RelV x u
 | _,_,_,_, .nil,e=>by simp at e
 | _,_,0,_, .cons r _,e=>by simp at e;subst e;exact ⟨_,rfl,r⟩
 | _,_,i+1,x, .cons _ t,e=>by
  obtain ⟨u,h1,h2⟩:=Vals.get (i:=i) (x:=x) t (by simpa using e)
  exact ⟨u,by simpa using h1,h2⟩
theorem Vals.set {x:V} {u:Value} (r:RelV x u):∀{xs:List V} {us:List Value} (i:Nat),Vals xs us→Vals (xs.set i x) (us.set i u)
 | _,_,_, .nil => .nil
 | _,_,0, .cons _ t => .cons r t
 | _,_,i+1, .cons q t => .cons q (Vals.set r i t)
theorem Vals.append {xs ys:List V} {us ws:List Value} (h:Vals xs us) (s:Vals ys ws):Vals (xs++ys) (us++ws):=by
 induction h with
 | nil=>exact s
 | cons r t ih=>exact .cons r ih
theorem Vals.take:∀{xs:List V} {us:List Value} (n:Nat),Vals xs us→Vals (xs.take n) (us.take n)
 | _,_,0,_ => .nil
 | _,_,_+1, .nil => .nil
 | _,_,n+1, .cons r t => .cons r (Vals.take n t)
theorem Vals.drop:∀{xs:List V} {us:List Value} (n:Nat),Vals xs us→Vals (xs.drop n) (us.drop n)
 | _,_,0,r=>r
 | _,_,_+1, .nil => .nil
 | _,_,n+1, .cons _ t=>Vals.drop n t
noncomputable def RelO:Option V→Option Value→Prop
 | some v,some u=>RelV v u
 | none,none=>True
 | _,_=>False
noncomputable def KV {κ:Type} : List (κ×V)→List (κ×Value)→Prop:=Paired fun (p : κ×V) (q : κ×Value)=>p.1=q.1∧RelV p.2 q.2
noncomputable def kV:Key→V
 | .inl i => .int i
 | .inr x => .str x
inductive HO where
 | lst (xs:List V)
 | tup (xs:List V)
 | dK (kvs:List (Key×V))|dT (kvs:List (List Key×V))
 | set (S:Int→Bool) (n:Nat)
 | ins (C dx:Addr) (fs:List (Str×V))
 | own (x:Addr)
 | xd (fs:List (Str×V))
 | met (f x:Addr)
 | rng (lo hi:Int)
 | frz (o:Obj) (u:HO)
 | tbl (ps:Array Value)
 | ext (φ:Heap→Prop)
noncomputable abbrev Hp:=Addr→Option HO
noncomputable def upd (H:Hp) (a:Addr) (o:HO):Hp:=fun b=>if b=a then some o else H b
theorem upd_same {H:Hp} {a:Addr} {o:HO} : upd H a o a=some o:=by unfold upd;rw [if_pos rfl]
theorem upd_ne {H:Hp} {a b:Addr} {o:HO} (h:b≠a):upd H a o b=H b:=by unfold upd;rw [if_neg h]
theorem ne_of {H:Hp} {a b:Addr} {o u:HO} (h:H a=some o) (h':H b=some u) (d:o≠u):a≠b:=by
 intro e;subst e;rw [h] at h';exact d (Option.some.inj h')
theorem ne_of_none {H:Hp} {a b:Addr} {o:HO} (h:H a=some o) (h':H b=none):a≠b:=by
 intro e;subst e;rw [h] at h';cases h'
section
variable (P:Program) (w:World)
noncomputable def ObjOk (H:Hp) (h:Heap) (a:Addr):HO→Prop
 | .lst xs=>xs.length≤sizeLine∧Ex2 fun (its:List Value) (n:Nat)=>Vals xs its∧h.get? a=some { cls := .type "list",data := .seq its.toArray n }
 | .tup xs=>xs.length≤sizeLine∧∃its:List Value,Vals xs its∧IsTup h a its.toArray
 | .dK kvs=>kvs.length≤sizeLine∧(a == sysModules)=false∧∃vs,KV kvs vs∧h.DictOf (mixKind P w) a vs
 | .dT kvs=>kvs.length≤sizeLine∧(a == sysModules)=false∧∃xs:List (List Key×Addr×Value),
   Paired (fun (p:List Key×V) (q:List Key×Addr×Value)=>p.1=q.1∧H q.2.1=some (.tup (p.1.map kV))∧RelV p.2 q.2.2) kvs xs ∧
   Ex3 fun o es ep=>h.get? a=some o∧o.ExactDict∧o.data = .dict es ep∧es.toList=xs.map (entryOfKey (tupleKind (mixKind P w)))∧(xs.map (·.1)).Nodup
 | .set S n=>h.SetOf (intKind P w) a S n
 | .ins C dx fs=>H dx=some (.own a)∧fs.length≤1000∧dx≠a∧h.get? a=some (PySem.W.instObj C dx) ∧
   ∃mA,h.Ns1 dx mA∧(∀f,RelO (fs.lookup f) (mA f))∧PySem.Within mA (fs.map (·.1))
 | .own _=>∃o,h.get? a=some o
 | .xd fs=>∃mA,h.Ns1 a mA∧∀f,RelO (fs.lookup f) (mA f)
 | .rng lo hi=>Ex3 fun t u v=>h.get? a=some { cls := .type "range",data := .fields #[.int lo t, .int hi u, .int 1 v] }
 | .frz o u=>h.get? a=some o∧ObjOk H h a u
 | .tbl ps=>h.get? a=some { cls := .none,data := .fields ps }
 | .met f x=>h.get? a=some (PySem.W.methodObj (.ref f) (.ref x))
 | .ext φ => φ h∧(∃o,h.get? a=some o)∧∀h1 h2:Heap, φ h1→(∀o,h1.get? a=some o→h2.get? a=some o) → φ h2
noncomputable def HOk (H:Hp) (h:Heap):Prop:=∀a o,H a=some o→ObjOk P w H h a o
end
section
variable {P:Program} {w:World} {H H':Hp} {h h':Heap} {a:Addr} {o:HO}
theorem ObjOk.lt (x:ObjOk P w H h a o):a<h.objs.size:=by
 cases o with
 | lst xs=>obtain ⟨_,_,_,_,e⟩:=x;exact Heap.lt_size e
 | tup xs=>obtain ⟨_,_,_,p⟩:=x;exact p.lt
 | dK kvs=>obtain ⟨_,_,_,_,o,_,_,e,_⟩:=x;exact Heap.lt_size e
 | dT kvs=>obtain ⟨_,_,_,_,o,_,_,e,_⟩:=x;exact Heap.lt_size e
 | set S n=>obtain ⟨o,_,_,_,e,_⟩:=x;exact Heap.lt_size e
 | ins C dx fs=>obtain ⟨_,_,_,e,_⟩:=x;exact Heap.lt_size e
 | own y=>obtain ⟨_,e⟩:=x;exact Heap.lt_size e
 | xd fs=>obtain ⟨_,⟨_,_,_,e,_⟩,_⟩:=x;exact Heap.lt_size e
 | rng lo hi=>obtain ⟨_,_,_,e⟩:=x;exact Heap.lt_size e
 | frz ob u=>obtain ⟨e,_⟩:=x;exact Heap.lt_size e
 | tbl ps=>exact Heap.lt_size (show h.get? a=some _ from x)
 | met f y=>exact Heap.lt_size (show h.get? a=some _ from x)
 | ext φ=>obtain ⟨_,⟨_,e⟩,_⟩:=x;exact Heap.lt_size e
theorem Paired.mapP {α β:Type} {F G : α → β→Prop} {l₁:List α} {l₂:List β} (h:Paired F l₁ l₂) (f:∀a b,F a b→G a b):Paired G l₁ l₂:=by
 induction h with
 | nil=>exact .nil
 | cons r t ih=>exact .cons (f _ _ r) ih
theorem Paired.imp' {α β:Type} {F G : α → β→Prop} (f:∀a b,F a b→G a b) {l₁:List α} {l₂:List β} (r:Paired F l₁ l₂):Paired G l₁ l₂:=Paired.mapP r f
theorem ObjOk.stay (x:ObjOk P w H h a o) (k:∀b u,(b=a∨H b=some (.own a))→h.get? b=some u→h'.get? b=some u)
  (ho:∀b,H b=some (.own a)→H' b=some (.own a)) (ht:∀b xs,H b=some (.tup xs)→H' b=some (.tup xs)):ObjOk P w H' h' a o:=by
 induction o with
 | lst xs=>obtain ⟨z,its,n,r,e⟩:=x;exact ⟨z,its,n,r,k _ _ (.inl rfl) e⟩
 | tup xs=>obtain ⟨z,its,r,ob,e,c⟩:=x;exact ⟨z,its,r,ob,k _ _ (.inl rfl) e,c⟩
 | dK kvs=>obtain ⟨z,y,vs,r,ob,es,ep,e,c⟩:=x;exact ⟨z,y,vs,r,ob,es,ep,k _ _ (.inl rfl) e,c⟩
 | dT kvs=>
  obtain ⟨z,y,xs,r,ob,es,ep,e,c⟩:=x
  exact ⟨z,y,xs,Paired.mapP r fun p q z=>⟨z.1,ht _ _ z.2.1,z.2.2⟩,ob,es,ep,k _ _ (.inl rfl) e,c⟩
 | set S n=>obtain ⟨ob,es,ep,t,e,c⟩:=x;exact ⟨ob,es,ep,t,k _ _ (.inl rfl) e,c⟩
 | ins C dx fs=>
  obtain ⟨d,z,ne,e,mA,⟨od,es,ep,e2,c⟩,r⟩:=x
  exact ⟨ho _ d,z,ne,k _ _ (.inl rfl) e,mA,⟨od,es,ep,k _ _ (.inr d) e2,c⟩,r⟩
 | own y=>obtain ⟨ob,e⟩:=x;exact ⟨ob,k _ _ (.inl rfl) e⟩
 | xd fs=>obtain ⟨mA,⟨od,es,ep,e,c⟩,r⟩:=x;exact ⟨mA,⟨od,es,ep,k _ _ (.inl rfl) e,c⟩,r⟩
 | rng lo hi=>obtain ⟨t,u,v,e⟩:=x;exact ⟨t,u,v,k _ _ (.inl rfl) e⟩
 | frz ob u ih=>obtain ⟨e,q⟩:=x;exact ⟨k _ _ (.inl rfl) e,ih q⟩
 | tbl ps=>
  have e:h.get? a=some { cls := .none,data := .fields ps }:=x
  show h'.get? a=some { cls := .none,data := .fields ps }
  exact k a _ (.inl rfl) e
 | met f y=>
  have e:h.get? a=some (PySem.W.methodObj (.ref f) (.ref y)):=x
  show h'.get? a=some (PySem.W.methodObj (.ref f) (.ref y))
  exact k a _ (.inl rfl) e
 | ext φ=>obtain ⟨p,⟨o,e⟩,st⟩:=x;exact ⟨st _ _ p fun o q=>k _ _ (.inl rfl) q,⟨o,k _ _ (.inl rfl) e⟩,st⟩
theorem HOk.lt (x:HOk P w H h) (e:H a=some o):a<h.objs.size:=(x a o e).lt
theorem HOk.fresh (x:HOk P w H h) (e:h.objs.size≤a):H a=none:=by
 cases q:H a with
 | none=>rfl
 | some u=>exact absurd (Nat.lt_of_lt_of_le (x.lt q) e) (Nat.lt_irrefl _)
theorem HOk.kept (x:HOk P w H h) (k:∀b u,h.get? b=some u→h'.get? b=some u):HOk P w H h':=fun a o e=>
 (x a o e).stay (fun b u _ q=>k b u q) (fun _ q=>q) fun _ _ q=>q
theorem HOk.laid (x:HOk P w H h) (k:∀b u,h.get? b=some u→h'.get? b=some u) (hp:h.objs.size≤a) (new:ObjOk P w (upd H a o) h' a o):HOk P w (upd H a o) h':=fun b u e=>by
 have hn:=x.fresh hp
 by_cases hb:b=a
 ·subst hb;rw [upd_same] at e;cases e;exact new
 ·rw [upd_ne hb] at e
  exact (x b u e).stay (fun c v _ q=>k c v q) (fun c q=>by rw [upd_ne (ne_of_none q hn)];exact q) fun c xs q=>by rw [upd_ne (ne_of_none q hn)];exact q
end
noncomputable def Rd (H:Hp) (a:Addr) (u:HO):Prop:=H a=some u∨∃o,H a=some (.frz o u)
theorem Rd.ok {P:Program} {w:World} {H:Hp} {h:Heap} {a:Addr} {u:HO} (r:Rd H a u) (x:HOk P w H h):ObjOk P w H h a u:=by
 rcases r with r|⟨o,r⟩
 ·exact x a u r
 ·obtain ⟨_,q⟩:=x a _ r
  exact q
noncomputable def Mut:Option HO→Prop
 | some (.lst _)=>True
 | some (.dK _)=>True
 | some (.dT _)=>True
 | some (.set _ _)=>True
 | some (.ins _ _ _)=>True
 | some (.ext _)=>True
 | _=>False
section
variable {P:Program} {w:World} {H:Hp} {h h':Heap} {x e:Addr} {o':HO}
theorem HOk.write (ok:HOk P w H h) (mu:Mut (H x)) (he:e=x∨H e=some (.own x)) (k:∀b u,b≠e→h.get? b=some u→h'.get? b=some u) (heo:∃u,h'.get? e=some u)
  (new:ObjOk P w (upd H x o') h' x o'):HOk P w (upd H x o') h':=fun b u q=>by
 have nown:∀c y,H c=some (.own y)→c≠x:=fun c y r z=>by subst z;rw [r] at mu;exact mu
 have ntup:∀c xs,H c=some (.tup xs)→c≠x:=fun c xs r z=>by subst z;rw [r] at mu;exact mu
 by_cases hb:b=x
 ·subst hb;rw [upd_same] at q;cases q;exact new
 ·rw [upd_ne hb] at q
  by_cases hbe:b=e
  ·have q':H b=some (.own x):=by
    rcases he with z|z
    ·exact absurd (hbe.trans z) hb
    ·rw [hbe];exact z
   rw [q] at q';cases q'
   obtain ⟨v,hv⟩:=heo
   exact ⟨v,by rw [hbe];exact hv⟩
  ·refine (ok b u q).stay (fun c v hc r=>k c v ?_ r) (fun c r=>by rw [upd_ne (nown c b r)];exact r) fun c xs r=>by rw [upd_ne (ntup c xs r)];exact r
   rcases hc with rfl|hc
   ·exact hbe
   ·rintro rfl
    rcases he with z|z
    ·exact nown c b hc z
    ·rw [hc] at z;cases z;exact hb rfl
end
structure Un (fs ex:List Addr) (H H':Hp) (h h':Heap):Prop where
 keep:∀b o,h.get? b=some o→H b=none→b ∉ fs→b ∉ ex→h'.get? b=some o
 slot:∀b o,h.get? b=some o→H b=none→b∈fs→b ∉ ex→∃sl,h'.get? b=some { o with slots:=sl }
 free:∀b o,h.get? b=some o→H b=none→b ∉ ex→H' b=none
 there:∀b o,h.get? b=some o→b ∉ ex→∃o',h'.get? b=some o'
 tups:∀b xs,H b=some (.tup xs)→H' b=some (.tup xs)
 frzs:∀b o u,H b=some (.frz o u)→H' b=some (.frz o u)
 tbls:∀b ps,H b=some (.tbl ps)→∃more,H' b=some (.tbl (ps++more))
section
variable {fs fs' ex ex':List Addr} {H H1 H2:Hp} {h h1 h2 h':Heap} {a x e:Addr} {o:HO}
theorem Un.any (u:Un fs ex H H1 h h1) {b:Addr} {ob:Obj} (q:h.get? b=some ob) (n:H b=none) (hx:b ∉ ex):∃sl,h1.get? b=some { ob with slots:=sl }:=by
 by_cases hb:b∈fs
 ·exact u.slot b ob q n hb hx
 ·exact ⟨ob.slots,u.keep b ob q n hb hx⟩
theorem Un.trans (a:Un fs ex H H1 h h1) (b:Un fs ex H1 H2 h1 h2):Un fs ex H H2 h h2 where
 keep:=fun c ob q n hc hx=>b.keep c ob (a.keep c ob q n hc hx) (a.free c ob q n hx) hc hx
 slot:=fun c ob q n hc hx=>by
  obtain ⟨sl,e1⟩:=a.slot c ob q n hc hx
  obtain ⟨sl',e2⟩:=b.slot c _ e1 (a.free c ob q n hx) hc hx
  exact ⟨sl',e2⟩
 free:=fun c ob q n hx=>by
  obtain ⟨o',e1⟩:=a.there c ob q hx
  exact b.free c o' e1 (a.free c ob q n hx) hx
 there:=fun c ob q hx=>by
  obtain ⟨o',e1⟩:=a.there c ob q hx
  exact b.there c o' e1 hx
 tups:=fun c xs q=>b.tups c xs (a.tups c xs q)
 frzs:=fun c ob xs q=>b.frzs c ob xs (a.frzs c ob xs q)
 tbls:=fun c ps q=>by
  obtain ⟨m1,e1⟩:=a.tbls c ps q
  obtain ⟨m2,e2⟩:=b.tbls c _ e1
  exact ⟨m1++m2,by rw [e2,Array.append_assoc]⟩
theorem Un.kept (k:∀b u,h.get? b=some u→h'.get? b=some u):Un fs ex H H h h':=
 ⟨fun b ob q _ _ _=>k b ob q,fun b ob q _ _ _=>⟨ob.slots,k b ob q⟩,fun _ _ _ n _=>n,fun b ob q _=>⟨ob,k b ob q⟩,fun _ _ q=>q,fun _ _ _ q=>q,fun _ ps q=>⟨#[],by rw [q];simp⟩⟩
theorem Un.refl:Un fs ex H H h h:=Un.kept fun _ _ q=>q
theorem Un.laid (k:∀b u,h.get? b=some u→h'.get? b=some u) (hp:h.objs.size≤a) (hn:H a=none):Un fs ex H (upd H a o) h h' where
 keep:=fun b u q _ _ _=>k b u q
 slot:=fun b u q _ _ _=>⟨u.slots,k b u q⟩
 free:=fun b u q n _=>by rw [upd_ne (Nat.ne_of_lt (Nat.lt_of_lt_of_le (Heap.lt_size q) hp))];exact n
 there:=fun b u q _=>⟨u,k b u q⟩
 tups:=fun b xs q=>by rw [upd_ne (ne_of_none q hn)];exact q
 frzs:=fun b u xs q=>by rw [upd_ne (ne_of_none q hn)];exact q
 tbls:=fun b ps q=>⟨#[],by rw [upd_ne (ne_of_none q hn),q];simp⟩
theorem Un.write (mu:Mut (H x)) (he:e=x∨H e=some (.own x)) (k:∀b u,b≠e→h.get? b=some u→h'.get? b=some u) (heo:∃u,h'.get? e=some u):Un fs ex H (upd H x o) h h':=by
 have hx:∀b,H b=none→b≠x:=fun b n z=>by subst z;rw [n] at mu;exact mu
 have hb:∀b,H b=none→b≠e:=fun b n z=>by
  subst z
  rcases he with r|r
  ·exact hx b n r
  ·rw [n] at r;cases r
 have hm:∀b u,H b=some u→¬Mut (some u)→b≠x:=fun b u q nm z=>by subst z;rw [q] at mu;exact nm mu
 refine ⟨fun b u q n _ _=>k b u (hb b n) q,fun b u q n _ _=>⟨u.slots,k b u (hb b n) q⟩,fun b u q n _=>by rw [upd_ne (hx b n)];exact n,fun b u q _ => ?_,
  fun b xs q=>by rw [upd_ne (hm b _ q fun z=>z)];exact q,fun b u xs q=>by rw [upd_ne (hm b _ q fun z=>z)];exact q,fun b ps q=>⟨#[],by rw [upd_ne (hm b _ q fun z=>z),q];simp⟩⟩
 by_cases hbe:b=e
 ·subst hbe;exact heo
 ·exact ⟨u,k b u hbe q⟩
end
noncomputable def trk (h:Heap) (H:Hp):List Addr:=(List.range h.objs.size).filter fun a=>(H a).isSome
noncomputable def hidT (h:Heap) (H:Hp):Heap:=PySem.W.hideAll h (trk h H)
theorem hidT_size (h:Heap) (H:Hp):(hidT h H).objs.size=h.objs.size:=PySem.W.hideAll_size _ _
theorem hidT_get {h:Heap} {H:Hp} {b:Addr} {o:Obj} (e:h.get? b=some o) (n:H b=none):(hidT h H).get? b=some o:=
 PySem.W.hideAll_get _ e fun hm=>by
  have q:(H b).isSome=true:=(List.mem_filter.mp hm).2
  rw [n] at q;simp at q
theorem of_hidT {h:Heap} {H:Hp} {b:Addr} {o:Obj} (e:(hidT h H).get? b=some o):h.get? b=some o∧H b=none:=by
 have e':h.get? b=some o:=PySem.W.of_hideAll (trk h H) e
 refine ⟨e',?_⟩
 cases q:H b with
 | none=>rfl
 | some x=>
  have hm:b∈trk h H:=List.mem_filter.mpr ⟨List.mem_range.mpr (Heap.lt_size e'),by simp [q]⟩
  have z:(hidT h H).get? b=none:=PySem.W.hideAll_none (trk h H) hm
  rw [z] at e;cases e
end L2
namespace L2
open PySem PySem.Spec PyProof.Rows
structure Mod (K:PySem.W.Frag) (mg:Str→Option Value) (base:Heap):Prop where
 kin:K.In base
 glob:base.Ns mainGlobals mg
 blt:∃mb,base.Ns builtinsNs mb∧∀x:Str,x ≠ "__name__" → mb x=bootBuiltins x
 nolimit:base.NoLimit
structure Cx where
 prog:Program
 w:World
 K:PySem.W.Frag
 mg:Str→Option Value
 base:Heap
 A:Around
 N:List Str
 s₀:Shared
 H₀:Hp
 env:Env
 outer:List Env
 stack:List Env
 ex:List Addr
 fn:Str→Bool
 calm:Bool
 pn:List (Addr×Obj)
 xe:Value→Shared→Prop
noncomputable def frs (l:List Env):List Addr:=l.filterMap (·.frame)
noncomputable abbrev Cx.fs (X:Cx):List Addr:=frs X.outer
noncomputable def Vis (sc:Scope) (x:Str):Prop:=sc.names.lookup x=some .local∨sc.names.lookup x=some .cell∨sc.names.lookup x=some .free
noncomputable def Loc (sc:Scope) (x:Str):Prop:=sc.names.lookup x=some .local∨sc.names.lookup x=some .cell
noncomputable def Look (env:Env) (h:Heap) (m:Str→Option Value) (x:Str) (u:Value):Prop:=
 (env.kindOf x=some .local∧m x=some u)∨((env.kindOf x=some .cell∨env.kindOf x=some .free)∧∃c,env.cells.lookup x=some c∧h.IsCell c (some u))
structure Cx.Ok (X:Cx):Prop where
 mod:Mod X.K X.mg X.base
 kind:X.env.scope.kind = .function
 glob:X.env.globals=mainGlobals
 blt:X.env.builtins=builtinsNs
 above:X.s₀.heap.objs.size≤X.env.locals
 inj:∀x y c,X.env.cells.lookup x=some c→X.env.cells.lookup y=some c→x=y
 has:∀x,(X.env.kindOf x=some .cell∨X.env.kindOf x=some .free)→∃c,X.env.cells.lookup x=some c
 cab:∀x c,X.fn x=true→X.env.cells.lookup x=some c→X.s₀.heap.objs.size≤c
 hd:X.calm=true→X.A.handled=none
 frames:X.A.frames=some X.stack
 stk:X.stack=X.outer∨(X.stack=X.env :: X.outer∧X.env.frame=some X.env.locals)
 exf:∀b∈X.ex,b≠X.env.locals∧∀x c,X.env.cells.lookup x=some c→c≠b
 bs:∀b o,X.base.get? b=some o→X.s₀.heap.get? b=some o∧X.H₀ b=none
 bsz:X.base.objs.size≤X.s₀.heap.objs.size
 noex:∀b o,X.base.get? b=some o→b ∉ X.ex
 exfs:∀b∈X.ex,b ∉ X.fs
 funs:X.s₀.heap.FunFrames X.base X.outer
 frf:∀b∈X.fs,X.H₀ b=none
structure Inv (X:Cx) (pins:List (Addr×Obj)) (σ:List (Option V)) (H:Hp) (s:Shared):Prop where
 ok:X.Ok
 os:s.os=X.s₀.os
 bare:AllBare s.gens
 base:Un X.fs X.ex X.H₀ H X.s₀.heap s.heap
 loc:∃m,s.heap.Ns X.env.locals m∧∀(i:Nat) (x:Str) (v:V),X.N[i]? = some x → σ[i]? = some (some v)→Vis X.env.scope x→∃u,RelV v u∧Look X.env s.heap m x u
 cell:∀x c,X.env.cells.lookup x=some c→∃v,s.heap.IsCell c v
 free:H X.env.locals=none
 freeC:∀x c,X.env.cells.lookup x=some c→H c=none
 pin:∀p∈X.pn++pins,s.heap.get? p.1=some p.2∧H p.1=none∧p.1≠X.env.locals∧p.1 ∉ X.fs∧∀v,p.2.data ≠ .cell v
 hok:HOk X.prog X.w H s.heap
 len : σ.length=X.N.length
section
variable {X:Cx} {pins:List (Addr×Obj)} {σ:List (Option V)} {H H':Hp} {s:Shared} {h':Heap}
theorem Cx.Ok.nofr (ok:X.Ok) {b:Addr} {o:Obj} (e:X.base.get? b=some o):b ∉ X.fs:=fun hb=>by
 have:=(ok.funs.mem hb).1
 rw [e] at this;cases this
theorem Inv.bs (I:Inv X pins σ H s):∀b o,X.base.get? b=some o→s.heap.get? b=some o∧H b=none:=fun b o e=>
 ⟨I.base.keep b o (I.ok.bs b o e).1 (I.ok.bs b o e).2 (I.ok.nofr e) (I.ok.noex b o e),I.base.free b o (I.ok.bs b o e).1 (I.ok.bs b o e).2 (I.ok.noex b o e)⟩
theorem Inv.bk (I:Inv X pins σ H s):∀b o,X.base.get? b=some o→s.heap.get? b=some o:=fun b o e=>(I.bs b o e).1
theorem Inv.mod (I:Inv X pins σ H s):Mod X.K X.mg X.base:=I.ok.mod
theorem Inv.kIn (I:Inv X pins σ H s):X.K.In s.heap:=I.ok.mod.kin.keeps I.bk
theorem Inv.lt (I:Inv X pins σ H s):X.env.locals<s.heap.objs.size:=let ⟨_,hn,_⟩:=I.loc;hn.lt
theorem Inv.sz (I:Inv X pins σ H s):X.s₀.heap.objs.size≤s.heap.objs.size:=Nat.le_trans I.ok.above (Nat.le_of_lt I.lt)
theorem Inv.nofs (I:Inv X pins σ H s) {a:Addr} (h:s.heap.objs.size≤a):a ∉ X.fs:=fun hb=>by
 obtain ⟨_,o,ho,_⟩:=I.ok.funs.mem hb
 exact absurd (Nat.lt_of_lt_of_le (Heap.lt_size ho) (Nat.le_trans I.sz h)) (Nat.lt_irrefl _)
theorem Inv.cne (I:Inv X pins σ H s):∀x c,X.env.cells.lookup x=some c→c≠X.env.locals:=fun x c e z=>by
 obtain ⟨v,o,ho,hd⟩:=I.cell x c e
 obtain ⟨m,⟨o',es,ep,ho',hd',_⟩,_⟩:=I.loc
 rw [z,ho'] at ho;cases ho;rw [hd'] at hd;cases hd
theorem Inv.funs (I:Inv X pins σ H s):s.heap.FunFrames X.base X.outer:=by
 have all:∀(l:List Env),(∀b∈frs l,b∈X.fs)→X.s₀.heap.FunFrames X.base l→s.heap.FunFrames X.base l:=by
  intro l
  induction l with
  | nil=>intro _ _;trivial
  | cons env r ih=>
   intro hs hl
   obtain ⟨hk,⟨L,o,hf,hn,ho,hd⟩,hr⟩:=hl
   have hL:L∈X.fs:=hs L (by unfold frs;rw [List.filterMap_cons,hf];exact List.mem_cons_self)
   obtain ⟨sl,e⟩:=I.base.slot L o ho (I.ok.frf L hL) hL fun z=>I.ok.exfs L z hL
   exact ⟨hk,⟨L,_,hf,hn,e,hd⟩,ih (fun b hb=>hs b (by unfold frs;rw [List.filterMap_cons,hf];exact List.mem_cons_of_mem _ hb)) hr⟩
 exact all X.outer (fun _ hb=>hb) I.ok.funs
theorem Inv.stack (I:Inv X pins σ H s):s.heap.FunFrames X.base X.stack:=by
 rcases I.ok.stk with e|⟨e,hf⟩
 ·rw [e];exact I.funs
 ·rw [e]
  obtain ⟨m,hn,_⟩:=I.loc
  refine .cons (by rw [I.ok.kind];decide) hf hn ?_ I.funs
  exact Heap.get?_none_of_le (Nat.le_trans I.ok.bsz I.ok.above)
theorem Inv.stkSub (I:Inv X pins σ H s):∀b∈frs X.stack,b∈X.env.locals :: X.fs:=fun b hb=>by
 rcases I.ok.stk with e|⟨e,hf⟩
 ·rw [e] at hb;exact List.mem_cons_of_mem _ hb
 ·rw [e] at hb
  unfold frs at hb
  rw [List.filterMap_cons,hf] at hb
  exact hb
theorem Inv.stkFree (I:Inv X pins σ H s):∀b∈frs X.stack,H b=none:=fun b hb=>by
 rcases List.mem_cons.mp (I.stkSub b hb) with e|hb
 ·rw [e];exact I.free
 ·obtain ⟨_,o,ho,_⟩:=I.ok.funs.mem hb
  exact I.base.free b o ho (I.ok.frf b hb) fun z=>I.ok.exfs b z hb
theorem Inv.step {g':Array GenState} {t':Nat} {d':Drawn} {ch:List Addr} (I:Inv X pins σ H s)
  (hch:∀b∈ch,(b∈X.ex∨X.s₀.heap.objs.size≤b)∧b≠X.env.locals∧(∀x c,X.env.cells.lookup x=some c→c≠b)∧∀p∈X.pn++pins,p.1≠b)
  (keep:∀b o,b≠X.env.locals→b ∉ X.fs→b ∉ ch→s.heap.get? b=some o→H b=none→h'.get? b=some o)
  (slot:∀b o,b≠X.env.locals→b∈X.fs→b ∉ ch→s.heap.get? b=some o→H b=none→∃sl,h'.get? b=some { o with slots:=sl }) (free:∀b o,b ∉ ch→s.heap.get? b=some o→H b=none→H' b=none)
  (there:∀b o,b ∉ ch→s.heap.get? b=some o→∃o',h'.get? b=some o')
  (tups:∀b xs,H b=some (.tup xs)→H' b=some (.tup xs)) (frzs:∀b o u,H b=some (.frz o u)→H' b=some (.frz o u)) (tbls:∀b ps,H b=some (.tbl ps)→∃more,H' b=some (.tbl (ps++more)))
  (ns:∀m,s.heap.Ns X.env.locals m→h'.Ns X.env.locals m) (hok:HOk X.prog X.w H' h') (hg:AllBare g') :
  Inv X pins σ H' { s with heap:=h',gens:=g',drawn:=d',toks:=t' }:=by
 have neL:∀b o,X.s₀.heap.get? b=some o→b≠X.env.locals:=fun b o e=>Nat.ne_of_lt (Nat.lt_of_lt_of_le (Heap.lt_size e) I.ok.above)
 have neC:∀b o,X.s₀.heap.get? b=some o→b ∉ X.ex→b ∉ ch:=fun b o e hx hb=>by
  rcases (hch b hb).1 with z|z
  ·exact hx z
  ·exact absurd (Nat.lt_of_lt_of_le (Heap.lt_size e) z) (Nat.lt_irrefl _)
 have cellK:∀x c,X.env.cells.lookup x=some c→∀v,s.heap.IsCell c v→h'.IsCell c v:=fun x c e v ⟨o,ho,hd⟩=>by
  have nch:c ∉ ch:=fun z=>(hch c z).2.2.1 x c e rfl
  by_cases hc:c∈X.fs
  ·obtain ⟨sl,q⟩:=slot c o (I.cne x c e) hc nch ho (I.freeC x c e)
   exact ⟨_,q,hd⟩
  ·exact ⟨o,keep c o (I.cne x c e) hc nch ho (I.freeC x c e),hd⟩
 refine ⟨I.ok,I.os,hg,⟨fun b o e n hb hx => ?_,fun b o e n hb hx => ?_,fun b o e n hx => ?_,fun b o e hx => ?_,fun b xs e=>tups b xs (I.base.tups b xs e),fun b o xs e=>frzs b o xs (I.base.frzs b o xs e),fun b ps e => ?_⟩,?_,fun x c e => ?_,?_,fun x c e => ?_,fun p hp => ?_,hok,I.len⟩
 ·exact keep b o (neL b o e) hb (neC b o e hx) (I.base.keep b o e n hb hx) (I.base.free b o e n hx)
 ·obtain ⟨sl,e1⟩:=I.base.slot b o e n hb hx
  obtain ⟨sl',e2⟩:=slot b _ (neL b o e) hb (neC b o e hx) e1 (I.base.free b o e n hx)
  exact ⟨sl',e2⟩
 ·obtain ⟨o',e1⟩:=I.base.there b o e hx
  exact free b o' (neC b o e hx) e1 (I.base.free b o e n hx)
 ·obtain ⟨o',e1⟩:=I.base.there b o e hx
  exact there b o' (neC b o e hx) e1
 ·obtain ⟨m1,e1⟩:=I.base.tbls b ps e
  obtain ⟨m2,e2⟩:=tbls b _ e1
  exact ⟨m1++m2,by rw [e2,Array.append_assoc]⟩
 ·obtain ⟨m,hn,hl⟩:=I.loc
  refine ⟨m,ns m hn,fun i x v e1 e2 e3 => ?_⟩
  obtain ⟨u,r,l⟩:=hl i x v e1 e2 e3
  refine ⟨u,r,?_⟩
  rcases l with l|⟨k,c,e,z⟩
  ·exact .inl l
  ·exact .inr ⟨k,c,e,cellK x c e _ z⟩
 ·obtain ⟨v,z⟩:=I.cell x c e
  exact ⟨v,cellK x c e v z⟩
 ·obtain ⟨m,⟨o,_,_,ho,_⟩,_⟩:=I.loc
  exact free _ o (fun z=>(hch _ z).2.1 rfl) ho I.free
 ·obtain ⟨v,o,ho,hd⟩:=I.cell x c e
  exact free c o (fun z=>(hch c z).2.2.1 x c e rfl) ho (I.freeC x c e)
 ·obtain ⟨e,n,ne,nf,d⟩:=I.pin p hp
  have nch:p.1 ∉ ch:=fun z=>(hch p.1 z).2.2.2 p hp rfl
  exact ⟨keep p.1 p.2 ne nf nch e n,free p.1 p.2 nch e n,ne,nf,d⟩
theorem Inv.un {t':Nat} (I:Inv X pins σ H s) (u:Un X.fs [] H H' s.heap h') (hok:HOk X.prog X.w H' h'):Inv X pins σ H' { s with heap:=h',toks:=t' }:=by
 obtain ⟨m,⟨o,es,ep,ho,r⟩,_⟩:=id I.loc
 obtain ⟨sl,hL⟩:=u.any ho I.free (by simp)
 exact I.step (g':=s.gens) (d':=s.drawn) (ch:=[]) (fun _ z=>nomatch z) (fun b o _ hb _ e n=>u.keep b o e n hb (by simp)) (fun b o _ hb _ e n=>u.slot b o e n hb (by simp)) (fun b o _ e n=>u.free b o e n (by simp)) (fun b o _ e=>u.there b o e (by simp)) u.tups u.frzs u.tbls (fun m' hm=>by
  obtain ⟨o',es',ep',ho',r'⟩:=hm
  rw [ho] at ho';cases ho'
  exact ⟨_,es',ep',hL,r'⟩) hok I.bare
theorem Inv.call {g':Array GenState} {t':Nat} {d':Drawn} {ch:List Addr} (I:Inv X pins σ H s) (u:Un (frs X.stack) ch H H' s.heap h') (hok:HOk X.prog X.w H' h') (hg:AllBare g')
  (hch:∀b∈ch,(b∈X.ex∨X.s₀.heap.objs.size≤b)∧b≠X.env.locals∧(∀x c,X.env.cells.lookup x=some c→c≠b)∧∀p∈X.pn++pins,p.1≠b) :
  Inv X pins σ H' { s with heap:=h',gens:=g',drawn:=d',toks:=t' }:=by
 obtain ⟨m,⟨o,es,ep,ho,r⟩,_⟩:=id I.loc
 obtain ⟨sl,hL⟩:=u.any ho I.free fun z=>(hch _ z).2.1 rfl
 exact I.step (ch:=ch) hch (fun b o hL hb hc e n=>u.keep b o e n (fun z=>(List.mem_cons.mp (I.stkSub b z)).elim hL hb) hc) (fun b o _ _ hc e n=>u.any e n hc) (fun b o hc e n=>u.free b o e n hc) (fun b o hc e=>u.there b o e hc) u.tups u.frzs u.tbls (fun m' hm=>by
  obtain ⟨o',es',ep',ho',r'⟩:=hm
  rw [ho] at ho';cases ho'
  exact ⟨_,es',ep',hL,r'⟩) hok hg
theorem Inv.turned {t':Nat} {it:Addr} (I:Inv X pins σ H s) (k:∀b o,b≠it→s.heap.get? b=some o→h'.get? b=some o) (hn:H it=none) (hL:it≠X.env.locals)
  (h1:it∈X.ex∨X.s₀.heap.objs.size≤it) (h2:∀x c,X.env.cells.lookup x=some c→c≠it) (h3:∀p∈X.pn++pins,p.1≠it):Inv X pins σ H { s with heap:=h',toks:=t' }:=by
 have nit:∀b u,H b=some u→b≠it:=fun b u e z=>by rw [z,hn] at e;cases e
 refine I.step (g':=s.gens) (d':=s.drawn) (ch:=[it]) (fun b hb => ?_) (fun b o _ _ hc e _=>k b o (fun z=>hc (by simp [z])) e) (fun b o _ _ hc e _=>⟨o.slots,k b o (fun z=>hc (by simp [z])) e⟩) (fun _ _ _ _ n=>n)
  (fun b o hc e=>⟨o,k b o (fun z=>hc (by simp [z])) e⟩) (fun _ _ e=>e) (fun _ _ _ e=>e) (fun b ps e=>⟨#[],by rw [e];simp⟩) (fun m hm => ?_) (fun b u e => ?_) I.bare
 ·have e:b=it:=by simpa using hb
  subst e
  exact ⟨h1,hL,h2,h3⟩
 ·obtain ⟨o,es,ep,ho,r⟩:=hm
  exact ⟨o,es,ep,k _ o (Ne.symm hL) ho,r⟩
 ·refine (I.hok b u e).stay (fun c v hc q=>k c v ?_ q) (fun _ q=>q) fun _ _ q=>q
  rcases hc with z|z
  ·rw [z];exact nit b u e
  ·exact nit c _ z
theorem Inv.tok (I:Inv X pins σ H s) (t:Nat):Inv X pins σ H { s with toks:=t }:=I.un (h':=s.heap) (t':=t) Un.refl I.hok
theorem Inv.kept {t':Nat} (I:Inv X pins σ H s) (k:∀b u,s.heap.get? b=some u→h'.get? b=some u):Inv X pins σ H { s with heap:=h',toks:=t' }:=I.un (Un.kept k) (I.hok.kept k)
theorem Inv.laid {a:Addr} {o:HO} {t':Nat} (I:Inv X pins σ H s) (k:∀b u,s.heap.get? b=some u→h'.get? b=some u) (hp:s.heap.objs.size≤a) (new:ObjOk X.prog X.w (upd H a o) h' a o) :
  Inv X pins σ (upd H a o) { s with heap:=h',toks:=t' }:=I.un (Un.laid k hp (I.hok.fresh hp)) (I.hok.laid k hp new)
theorem Inv.write {x e:Addr} {o:HO} {t':Nat} (I:Inv X pins σ H s) (mu:Mut (H x)) (he:e=x∨H e=some (.own x)) (k:∀b u,b≠e→s.heap.get? b=some u→h'.get? b=some u) (heo:∃u,h'.get? e=some u)
  (new:ObjOk X.prog X.w (upd H x o) h' x o):Inv X pins σ (upd H x o) { s with heap:=h',toks:=t' }:=I.un (Un.write mu he k heo) (I.hok.write mu he k heo new)
theorem Inv.weak {σ':List (Option V)} (I:Inv X pins σ H s) (hl : σ'.length = σ.length) (w:∀(i:Nat) v, σ'[i]? = some (some v) → σ[i]? = some (some v)):Inv X pins σ' H s:=
 ⟨I.ok,I.os,I.bare,I.base,let ⟨m,hn,hl'⟩:=I.loc; ⟨m,hn,fun i x v e1 e2 e3=>hl' i x v e1 (w i v e2) e3⟩,I.cell,I.free,I.freeC,I.pin,I.hok,hl.trans I.len⟩
theorem Inv.pins_of {pins':List (Addr×Obj)} (I:Inv X pins σ H s) (h:∀p∈pins',s.heap.get? p.1=some p.2∧H p.1=none∧p.1≠X.env.locals∧p.1 ∉ X.fs∧∀v,p.2.data ≠ .cell v):Inv X pins' σ H s:=
 ⟨I.ok,I.os,I.bare,I.base,I.loc,I.cell,I.free,I.freeC,fun p hp=>(List.mem_append.mp hp).elim (fun z=>I.pin p (List.mem_append_left _ z)) (h p),I.hok,I.len⟩
theorem nodup_ix {N:List Str} (hN:N.Nodup) {i j:Nat} {x:Str} (a:N[i]? = some x) (b:N[j]? = some x):i=j:=by
 obtain ⟨h1,e1⟩:=List.getElem?_eq_some_iff.mp a
 obtain ⟨h2,e2⟩:=List.getElem?_eq_some_iff.mp b
 exact (List.getElem_inj hN).mp (e1.trans e2.symm)
theorem store_ok2 {M:Model} {A:Around} {E:Value→Shared→Prop} {i:Nat} {x:Str} {v:V} {u:Value} {Q:Unit→Shared→Prop} (I:Inv X pins σ H s) (hN:X.N.Nodup) (hi:X.N[i]? = some x) (hx:Loc X.env.scope x) (r:RelV v u)
  (h:∀s',Inv X pins (σ.set i (some v)) H s'→(∃a,Heap.SameBut a s.heap s'.heap∧(a=X.env.locals∨X.env.cells.lookup x=some a))→Q () s') (hf:X.fn x=true∨X.env.scope.names.lookup x=some .local:=by first|exact .inl rfl|exact .inr rfl|assumption):wpAny M A (storeName X.env x u) Q E s:=by
 obtain ⟨m,hn,hl⟩:=id I.loc
 have hcls:(X.env.scope.kind == .class||(X.env.scope.kind == .module&&X.env.locals != X.env.globals))=false:=by rw [I.ok.kind];rfl
 have hiσ:i < σ.length:=by rw [I.len];exact (List.getElem?_eq_some_iff.mp hi).1
 have cne:=I.cne
 have tracked:∀{a:Addr} {h':Heap},(∃o,s.heap.get? a=some o∧H a=none)→Heap.SameBut a s.heap h'→HOk X.prog X.w H h':=fun {a h'} ha hs b ob e=>by
  obtain ⟨_,_,hfree⟩:=ha
  refine (I.hok b ob e).stay (fun c w' hc q=>(hs.2 c ?_).trans q) (fun _ q=>q) fun _ _ q=>q
  rintro rfl
  rcases hc with rfl|hc
  ·rw [hfree] at e;cases e
  ·rw [hfree] at hc;cases hc
 rcases hx with hk|hk
 ·refine wpAny_storeName_local hk hn (fun h' hn' hs => ?_) hcls
  obtain ⟨oL,_,_,hoL,_⟩:=id hn
  refine h _ ⟨I.ok,I.os,I.bare,⟨fun b o e n hb hx => ?_,fun b o e n hb hx => ?_,I.base.free,fun b o e hx => ?_,I.base.tups,I.base.frzs,I.base.tbls⟩,⟨_,hn',fun j y v' e1 e2 e3 => ?_⟩,fun y c e => ?_,I.free,I.freeC,fun p hp => ?_,tracked ⟨oL,hoL,I.free⟩ hs,by simpa using I.len⟩ ⟨_,hs, .inl rfl⟩
  ·exact (hs.2 b (Nat.ne_of_lt (Nat.lt_of_lt_of_le (Heap.lt_size e) I.ok.above))).trans (I.base.keep b o e n hb hx)
  ·obtain ⟨sl,e1⟩:=I.base.slot b o e n hb hx
   exact ⟨sl,(hs.2 b (Nat.ne_of_lt (Nat.lt_of_lt_of_le (Heap.lt_size e) I.ok.above))).trans e1⟩
  ·obtain ⟨o',e1⟩:=I.base.there b o e hx
   exact ⟨o',(hs.2 b (Nat.ne_of_lt (Nat.lt_of_lt_of_le (Heap.lt_size e) I.ok.above))).trans e1⟩
  ·by_cases hj:j=i
   ·subst hj
    rw [hi] at e1;cases e1
    rw [List.getElem?_set_self hiσ] at e2
    cases e2
    exact ⟨u,r, .inl ⟨hk,by simp⟩⟩
   ·rw [List.getElem?_set_ne (Ne.symm hj)] at e2
    obtain ⟨u',r',q⟩:=hl j y v' e1 e2 e3
    refine ⟨u',r',?_⟩
    rcases q with ⟨k,e⟩|⟨k,c,e,z⟩
    ·refine .inl ⟨k,?_⟩
     have:y≠x:=fun e=>hj (nodup_ix hN e1 (e ▸ hi))
     simp [this,e]
    ·exact .inr ⟨k,c,e,z.sameBut hs (cne y c e)⟩
  ·obtain ⟨w',z⟩:=I.cell y c e
   exact ⟨w',z.sameBut hs (cne y c e)⟩
  ·obtain ⟨e,n,ne,nf,d⟩:=I.pin p hp
   exact ⟨(hs.2 p.1 ne).trans e,n,ne,nf,d⟩
 ·have hfn:X.fn x=true:=by
   rcases hf with z|z
   ·exact z
   ·rw [z] at hk;cases hk
  obtain ⟨c,hc⟩:=I.ok.has x (.inl hk)
  obtain ⟨w',z⟩:=I.cell x c hc
  refine wpAny_storeName_cell I.ok.kind hk hc z (fun h' hc' hs => ?_)
  obtain ⟨oc,hoc,hocd⟩:=id z
  refine h { s with heap:=h' } ⟨I.ok,I.os,I.bare,⟨fun b o e n hb hx => ?_,fun b o e n hb hx => ?_,I.base.free,fun b o e hx => ?_,I.base.tups,I.base.frzs,I.base.tbls⟩,⟨m,hn.sameBut hs (Ne.symm (cne x c hc)),fun j y v' e1 e2 e3 => ?_⟩,fun y c' e => ?_,I.free,I.freeC,fun p hp => ?_,tracked ⟨oc,hoc,I.freeC x c hc⟩ hs,by simpa using I.len⟩ ⟨c,hs, .inr hc⟩
  ·exact (hs.2 b (Nat.ne_of_lt (Nat.lt_of_lt_of_le (Heap.lt_size e) (I.ok.cab x c hfn hc)))).trans (I.base.keep b o e n hb hx)
  ·obtain ⟨sl,e1⟩:=I.base.slot b o e n hb hx
   exact ⟨sl,(hs.2 b (Nat.ne_of_lt (Nat.lt_of_lt_of_le (Heap.lt_size e) (I.ok.cab x c hfn hc)))).trans e1⟩
  ·obtain ⟨o',e1⟩:=I.base.there b o e hx
   exact ⟨o',(hs.2 b (Nat.ne_of_lt (Nat.lt_of_lt_of_le (Heap.lt_size e) (I.ok.cab x c hfn hc)))).trans e1⟩
  ·by_cases hj:j=i
   ·subst hj
    rw [hi] at e1;cases e1
    rw [List.getElem?_set_self hiσ] at e2
    cases e2
    exact ⟨u,r, .inr ⟨.inl hk,c,hc,hc'⟩⟩
   ·rw [List.getElem?_set_ne (Ne.symm hj)] at e2
    obtain ⟨u',r',q⟩:=hl j y v' e1 e2 e3
    refine ⟨u',r',?_⟩
    rcases q with q|⟨k,c',e,z'⟩
    ·exact .inl q
    ·refine .inr ⟨k,c',e,z'.sameBut hs ?_⟩
     rintro rfl
     exact hj (nodup_ix hN e1 (I.ok.inj _ _ _ e hc ▸ hi))
  ·by_cases hcc:c'=c
   ·subst hcc;exact ⟨_,hc'⟩
   ·obtain ⟨w2,z2⟩:=I.cell y c' e
    exact ⟨w2,z2.sameBut hs hcc⟩
  ·obtain ⟨e,n,ne,nf,d⟩:=I.pin p hp
   refine ⟨(hs.2 p.1 ?_).trans e,n,ne,nf,d⟩
   intro q
   rw [q,hoc] at e
   have q':oc=p.2:=Option.some.inj e
   exact d w' (by rw [←q'];exact hocd)
theorem store_ok {M:Model} {A:Around} {E:Value→Shared→Prop} {i:Nat} {x:Str} {v:V} {u:Value} {Q:Unit→Shared→Prop} (I:Inv X pins σ H s) (hN:X.N.Nodup) (hi:X.N[i]? = some x) (hx:Loc X.env.scope x) (r:RelV v u)
  (h:∀s',Inv X pins (σ.set i (some v)) H s'→Q () s') (hf:X.fn x=true∨X.env.scope.names.lookup x=some .local:=by first|exact .inl rfl|exact .inr rfl|assumption):wpAny M A (storeName X.env x u) Q E s:=
 store_ok2 I hN hi hx r (fun s' I' _=>h s' I') hf
theorem Inv.call' {s':Shared} {ch:List Addr} (I:Inv X pins σ H s) (ho:s'.os=s.os) (u:Un (frs X.stack) ch H H' s.heap s'.heap) (hok:HOk X.prog X.w H' s'.heap) (hg:AllBare s'.gens)
  (hch:∀b∈ch,(b∈X.ex∨X.s₀.heap.objs.size≤b)∧b≠X.env.locals∧(∀x c,X.env.cells.lookup x=some c→c≠b)∧∀p∈X.pn++pins,p.1≠b):Inv X pins σ H' s':=by
 obtain ⟨h',g',d',t',o'⟩:=s'
 have e:o'=s.os:=ho
 subst e
 exact I.call (g':=g') (t':=t') (d':=d') u hok hg hch
end
noncomputable abbrev XK:=Value→Option Addr→Hp→Prop
noncomputable abbrev St:=List (Option V)
noncomputable abbrev VK:=V→Hp→Prop
noncomputable abbrev TE:=St→Hp→VK→Prop
noncomputable abbrev TT:=St→Hp→(Bool→Hp→Prop)→Prop
noncomputable abbrev TA:=St→Hp→(List V→Hp→Prop)→Prop
structure Ends where
 nx:St→Hp→Prop
 rt:VK
 bk:St→Hp→Prop:=fun _ _=>False
 ct:St→Hp→Prop:=fun _ _=>False
noncomputable abbrev TS:=Ends→St→Hp→Prop
noncomputable def EP (X:Cx) (pins:List (Addr×Obj)) (σ:St) (Q:VK) (u:Value) (s':Shared):Prop:=Ex2 fun v H'=>Inv X pins σ H' s'∧RelV v u∧Q v H'
noncomputable def TP (X:Cx) (pins:List (Addr×Obj)) (σ:St) (Q:Bool→Hp→Prop) (b:Bool) (s':Shared):Prop:=∃H',Inv X pins σ H' s'∧Q b H'
noncomputable def AP (X:Cx) (pins:List (Addr×Obj)) (σ:St) (Q:List V→Hp→Prop) (us:List Value) (s':Shared):Prop:=Ex2 fun vs H'=>Inv X pins σ H' s'∧Vals vs us∧Q vs H'
noncomputable instance elimEP {X:Cx} {pins:List (Addr×Obj)} {σ:St} {Q:VK} {u:Value} {s':Shared} : Elim (EP X pins σ Q u s') (fun G=>∀v H',Inv X pins σ H' s'→RelV v u→Q v H'→G):=⟨fun ⟨v,H',a,b,c⟩ _ k=>k v H' a b c⟩
noncomputable instance elimTP {X:Cx} {pins:List (Addr×Obj)} {σ:St} {Q:Bool→Hp→Prop} {b:Bool} {s':Shared} : Elim (TP X pins σ Q b s') (fun G=>∀H',Inv X pins σ H' s'→Q b H'→G):=⟨fun ⟨H',a,c⟩ _ k=>k H' a c⟩
noncomputable instance elimAP {X:Cx} {pins:List (Addr×Obj)} {σ:St} {Q:List V→Hp→Prop} {us:List Value} {s':Shared} : Elim (AP X pins σ Q us s') (fun G=>∀vs H',Inv X pins σ H' s'→Vals vs us→Q vs H'→G):=⟨fun ⟨v,H',a,b,c⟩ _ k=>k v H' a b c⟩
noncomputable def SP (X:Cx) (pins:List (Addr×Obj)) (D:Ends) (f:Flow) (s':Shared):Prop:=
 match f with
 | .next=>Ex2 fun σ' H'=>Inv X pins σ' H' s'∧D.nx σ' H'
 | .brk=>Ex2 fun σ' H'=>Inv X pins σ' H' s'∧D.bk σ' H'
 | .cont=>Ex2 fun σ' H'=>Inv X pins σ' H' s'∧D.ct σ' H'
 | .ret u=>Ex3 fun v σ' H'=>Inv X pins σ' H' s'∧RelV v u∧D.rt v H'
noncomputable def PE (X:Cx) (e:Expr) (t:TE):Prop:=
 ∀ ⦃pins:List (Addr×Obj)⦄ (s:Shared) (σ:St) (H:Hp) (Q:VK),Inv X pins σ H s→t σ H Q→wpAny (model X.prog X.w) X.A (eval e X.env) (EP X pins σ Q) X.xe s
noncomputable def PT (X:Cx) (e:Expr) (t:TT):Prop:=
 ∀ ⦃pins:List (Addr×Obj)⦄ (s:Shared) (σ:St) (H:Hp) (Q:Bool→Hp→Prop),Inv X pins σ H s→t σ H Q→wpAny (model X.prog X.w) X.A (isTrue e X.env (eval e X.env)) (TP X pins σ Q) X.xe s
noncomputable def PW (X:Cx) (e:Expr) (t:TT):Prop:=
 ∀ ⦃whole:Sem Value⦄ ⦃pins:List (Addr×Obj)⦄ (s:Shared) (σ:St) (H:Hp) (Q:Bool→Hp→Prop),Inv X pins σ H s→t σ H Q→wpAny (model X.prog X.w) X.A (isTrue e X.env whole) (TP X pins σ Q) X.xe s
theorem PW.pt {X:Cx} {e:Expr} {t:TT} (h:PW X e t):PT X e t:=fun pins s σ H Q I q=>h s σ H Q I q
noncomputable def PA (X:Cx) (es:List Expr) (t:TA):Prop:=
 ∀ ⦃pos:Pos⦄ ⦃pins:List (Addr×Obj)⦄ (s:Shared) (σ:St) (H:Hp) (Q:List V→Hp→Prop),Inv X pins σ H s→t σ H Q→wpAny (model X.prog X.w) X.A (spliced (backTo pos (starEach es X.env))) (AP X pins σ Q) X.xe s
noncomputable def PS (X:Cx) (st:Stmt) (t:TS):Prop:=
 ∀ ⦃pins:List (Addr×Obj)⦄ (s:Shared) (σ:St) (H:Hp) (D:Ends),Inv X pins σ H s→t D σ H→wpAny (model X.prog X.w) X.A (exec st X.env) (SP X pins D) X.xe s
noncomputable def PSs (X:Cx) (st:List Stmt) (t:TS):Prop:=
 ∀ ⦃pins:List (Addr×Obj)⦄ (s:Shared) (σ:St) (H:Hp) (D:Ends),Inv X pins σ H s→t D σ H→wpAny (model X.prog X.w) X.A (execs st X.env) (SP X pins D) X.xe s
theorem thn {α:Type} {t:Sem α} {Q Q' : α→Shared→Prop} {M:Model} {A:Around} {E:Value→Shared→Prop} {s:Shared} (h:wpAny M A t Q E s) (hQ:∀a s,Q a s→Q' a s):wpAny M A t Q' E s:=wpAny_mono h hQ fun _ _ x=>x
end L2
namespace L2
open PySem PySem.Spec PyProof.Rows
section
variable {X:Cx}
noncomputable def tVar (i:Nat):TE:=fun σ H Q=>∃v, σ[i]? = some (some v)∧Q v H
noncomputable def tC (v:V):TE:=fun _ H Q=>Q v H
theorem pe_var {i:Nat} {x:Str} {pos:Pos} (hN:X.N[i]? = some x) (hv:Vis X.env.scope x) (hd:(x == ("__debug__" : Str))=false:=by decide) (hcd:(x == ("__classdict__" : Str))=false:=by decide):PE X (.Name x pos) (tVar i):=by
 intro pins s σ H Q I h
 obtain ⟨v,e,h⟩:=h
 obtain ⟨m,hn,hl⟩:=I.loc
 obtain ⟨u,r,l⟩:=hl i x v hN e hv
 have fin:EP X pins σ Q u s:=⟨v,H,I,r,h⟩
 rcases l with ⟨hk,hm⟩|⟨hk,c,hc,hcell⟩
 ·exact wpAny_Name (wpAny_loadName_local I.ok.kind hk hn hm fin) hd
 ·rcases hk with hk|hk
  ·exact wpAny_Name (wpAny_loadName_cell I.ok.kind hk hc hcell fin) hd
  ·exact wpAny_Name (wpAny_loadName_free I.ok.kind hk hc hcell fin hcd) hd
theorem pe_int {i j pos} : PE X (.Constant (.int i) j pos) (tC (.int i)):=fun _ _ _ H _ I h=>wpAny_Constant_int ⟨.int i,H,I.tok _,⟨_,rfl⟩,h⟩
theorem pe_bl {b j pos} : PE X (.Constant (.bool b) j pos) (tC (.bl b)):=fun _ _ _ H _ I h=>Constant_bool ⟨.bl b,H,I,rfl,h⟩
theorem pe_non {j pos} : PE X (.Constant .none j pos) (tC .non):=fun _ _ _ H _ I h=>Constant_none ⟨.non,H,I,rfl,h⟩
theorem pe_str {x j pos} : PE X (.Constant (.str x) j pos) (tC (.str x)):=fun _ _ _ H _ I h=>Calls.Constant_str ⟨.str x,H,I.tok _,⟨_,rfl⟩,h⟩
noncomputable def Gl (X:Cx) (x:Str):Prop:=X.env.kindOf x=some .globalImplicit
theorem ld_glob {E:Value→Shared→Prop} {pins:List (Addr×Obj)} {s:Shared} {σ:St} {H:Hp} {x:Str} {u:Value} {pos:Pos} {Q:Value→Shared→Prop} (I:Inv X pins σ H s) (hg:Gl X x) (hm:X.mg x=some u) (h:Q u s)
  (hd:(x == ("__debug__" : Str))=false:=by decide):wpAny (model X.prog X.w) X.A (eval (.Name x pos) X.env) Q E s:=
 Calls.Name_function_global I.ok.kind hg (Calls.loadGlobal_global (by rw [I.ok.glob];exact I.mod.glob.keeps I.bk) hm h) hd
theorem ld_blt {E:Value→Shared→Prop} {pins:List (Addr×Obj)} {s:Shared} {σ:St} {H:Hp} {x:Str} {u:Value} {pos:Pos} {Q:Value→Shared→Prop} (I:Inv X pins σ H s) (hg:Gl X x) (hm:X.mg x=none) (hv:bootBuiltins x=some u) (h:Q u s)
  (hn:x ≠ "__name__":=by decide) (hd:(x == ("__debug__" : Str))=false:=by decide):wpAny (model X.prog X.w) X.A (eval (.Name x pos) X.env) Q E s:=by
 obtain ⟨mb,h1,h2⟩:=I.mod.blt
 exact Calls.Name_function_global I.ok.kind hg (Calls.loadGlobal_builtin (by rw [I.ok.glob];exact I.mod.glob.keeps I.bk) hm (by rw [I.ok.blt];exact h1.keeps I.bk) ((h2 x hn).trans hv) h) hd
theorem pe_glob {x:Str} {v:V} {u:Value} {pos:Pos} (hg:Gl X x) (hm:X.mg x=some u) (r:RelV v u) (hd:(x == ("__debug__" : Str))=false:=by decide):PE X (.Name x pos) (tC v):=
 fun _ _ _ H _ I h=>ld_glob I hg hm ⟨v,H,I,r,h⟩ hd
theorem pe_bltn {x:Str} {v:V} {u:Value} {pos:Pos} (hg:Gl X x) (hm:X.mg x=none) (hv:bootBuiltins x=some u) (r:RelV v u) (hn:x ≠ "__name__":=by decide) (hd:(x == ("__debug__" : Str))=false:=by decide):PE X (.Name x pos) (tC v):=
 fun _ _ _ H _ I h=>ld_blt I hg hm hv ⟨v,H,I,r,h⟩ hn hd
variable {a b:Expr} {ta tb:TE} {pos:Pos}
noncomputable def PC (X:Cx) (op:CmpOp) (a b:Expr) (t:TE):Prop:=
 ∀ ⦃pins:List (Addr×Obj)⦄ (s:Shared) (σ:St) (H:Hp) (Q:VK),Inv X pins σ H s→t σ H Q →
  wpAny (model X.prog X.w) X.A (eval a X.env) (fun v s₁=>wpAny (model X.prog X.w) X.A (eval b X.env) (fun u s₂=>wpAny (model X.prog X.w) X.A (compareOp op v u) (EP X pins σ Q) X.xe s₂) X.xe s₁) X.xe s
noncomputable def tB (t:TE):TT:=fun σ H Q=>t σ H fun x H1=>∃c,x = .bl c∧Q c H1
theorem pe_cmp {op:CmpOp} {t:TE} (h:PC X op a b t) (h1:behindInMarks op b=false:=by first|exact nobehind _ (by decide) (by decide)|rfl):PE X (.Compare a [op] [b] pos) t:=fun pins s σ H Q I hw=>wpAny_Compare1 (h s σ H Q I hw) h1
theorem pt_cmp {op:CmpOp} {t:TE} (h:PC X op a b t) (h1:behindInMarks op b=false:=by first|exact nobehind _ (by decide) (by decide)|rfl):PT X (.Compare a [op] [b] pos) (tB t):=by
 intro pins s σ H Q I hw
 refine wpAny_isTrue_Compare1 (thn (h s σ H _ I hw) fun v s1 h1=>thn h1 fun u s2 h2=>thn h2 fun c s3 hz_=>Elim.el hz_ _ fun x H1 I1 r1 q1 => ?_) h1
 obtain ⟨d,rfl,q⟩:=q1
 cases r1
 exact wpAny_truthy_bool ⟨H1,I1,q⟩
theorem pt_val {e:Expr} {t:TE} (h:PE X e t) (he:∀whole,isTrue e X.env whole=(do let v ←whole;standAt e.pos;holding [v] (truthy v)):=by intro _;rfl):PT X e (tB t):=by
 intro pins s σ H Q I hw
 refine isTrue_plain (thn (h s σ H _ I hw) fun v s1 hz_=>Elim.el hz_ _ fun x H1 I1 r1 q1 => ?_) (he _)
 obtain ⟨d,rfl,q⟩:=q1
 cases r1
 exact wpAny_truthy_bool ⟨H1,I1,q⟩
variable {tA tB':TT} {rest:List Expr}
noncomputable def tAnd (t u:TT):TT:=fun σ H Q=>t σ H fun c H1=>if c=true then u σ H1 Q else Q false H1
noncomputable def tOr (t u:TT):TT:=fun σ H Q=>t σ H fun c H1=>if c=true then Q true H1 else u σ H1 Q
theorem pw_and1 (ha:PT X a tA):PW X (.BoolOp .And [a] pos) tA:=by
 intro wh pins s σ H Q I h
 refine isTrue_and (thn (ha s σ H Q I h) fun c s1 e => ?_)
 cases c with
 | true=>exact isTrue_and_nil e
 | false=>exact e
theorem pw_or1 (ha:PT X a tA):PW X (.BoolOp .Or [a] pos) tA:=by
 intro wh pins s σ H Q I h
 refine isTrue_or (thn (ha s σ H Q I h) fun c s1 e => ?_)
 cases c with
 | false=>exact isTrue_or_nil e
 | true=>exact e
theorem pw_and (ha:PT X a tA) (hb:PW X (.BoolOp .And (b :: rest) pos) tB'):PW X (.BoolOp .And (a :: b :: rest) pos) (tAnd tA tB'):=by
 intro wh pins s σ H Q I h
 refine isTrue_and (thn (ha s σ H _ I h) fun c s1 hz_ => ?_)
 refine Elim.el hz_ _ ?_
 clear hz_
 rintro H1 I1 q1
 cases c with
 | true=>exact hb s1 σ H1 Q I1 q1
 | false=>exact ⟨H1,I1,q1⟩
theorem pw_or (ha:PT X a tA) (hb:PW X (.BoolOp .Or (b :: rest) pos) tB'):PW X (.BoolOp .Or (a :: b :: rest) pos) (tOr tA tB'):=by
 intro wh pins s σ H Q I h
 refine isTrue_or (thn (ha s σ H _ I h) fun c s1 hz_ => ?_)
 refine Elim.el hz_ _ ?_
 clear hz_
 rintro H1 I1 q1
 cases c with
 | true=>exact ⟨H1,I1,q1⟩
 | false=>exact hb s1 σ H1 Q I1 q1
noncomputable def tIf (t:TT) (ta tb:TE):TE:=fun σ H Q=>t σ H fun c H1=>if c=true then ta σ H1 Q else tb σ H1 Q
theorem pe_ifExp {c:Expr} (hc:PT X c tA) (ha:PE X a ta) (hb:PE X b tb):PE X (.IfExp c a b pos) (tIf tA ta tb):=by
 intro pins s σ H Q I h
 refine wpAny_IfExp (thn (hc s σ H _ I h) fun d s1 hz_ => ?_)
 refine Elim.el hz_ _ ?_
 clear hz_
 rintro H1 I1 q1
 cases d with
 | true=>exact ha s1 σ H1 Q I1 q1
 | false=>exact hb s1 σ H1 Q I1 q1
end
end L2
namespace L2
open PySem PySem.Spec PyProof.Rows
noncomputable def SqL (K:PySem.W.Frag) (H:Hp) (a:Addr) (xs:List V):Prop:=
 Rd H a (.lst xs) ∨
  Ex3 fun (o:Obj) (its:Array Value) (n:Nat)=>K.lookup a=some o∧o.cls = .type "list" ∧ o.dict=none∧o.data = .seq its n∧its.size≤sizeLine∧Vals xs its.toList
noncomputable def SqT (K:PySem.W.Frag) (H:Hp) (a:Addr) (xs:List V):Prop:=
 Rd H a (.tup xs) ∨
  Ex3 fun (o:Obj) (its:Array Value) (n:Nat)=>K.lookup a=some o∧o.cls = .type "tuple" ∧ o.data = .seq its n∧its.size≤sizeLine∧Vals xs its.toList
noncomputable def absV:Value→Option V
 | .none=>some .non
 | .bool b=>some (.bl b)
 | .int i _=>some (.int i)
 | .str x _=>some (.str x)
 | .bytes b _=>some (.byt b)
 | .float b _=>some (.flt b)
 | .ref a=>some (.ref a)
 | .type n=>some (.ty n)
 | _=>none
theorem RelV.abs {x:V} {u:Value} (r:RelV x u):absV u=some x:=by
 cases x with
 | non=>cases r;rfl
 | bl _=>cases r;rfl
 | int _=>obtain ⟨t,rfl⟩:=r;rfl
 | str _=>obtain ⟨t,rfl⟩:=r;rfl
 | byt _=>obtain ⟨t,rfl⟩:=r;rfl
 | flt _=>obtain ⟨t,rfl⟩:=r;rfl
 | ref _=>cases r;rfl
 | ty _=>cases r;rfl
theorem RelV.inj {x y:V} {u:Value} (r:RelV x u) (q:RelV y u):x=y:=Option.some.inj (r.abs.symm.trans q.abs)
theorem Vals.inj {xs ys:List V} {us:List Value} (h:Vals xs us) (h':Vals ys us):xs=ys:=by
 induction h generalizing ys with
 | nil=>cases h';rfl
 | cons r t ih=>cases h' with|cons r' t'=>rw [RelV.inj r r',ih t']
section
variable {X:Cx} {pins:List (Addr×Obj)} {σ:St} {H:Hp} {s:Shared} {a:Addr} {xs ys:List V}
theorem SqL.of {K:PySem.W.Frag} (h:H a=some (.lst xs)):SqL K H a xs := .inl (.inl h)
theorem SqT.of {K:PySem.W.Frag} (h:H a=some (.tup xs)):SqT K H a xs := .inl (.inl h)
theorem Inv.list (I:Inv X pins σ H s) (h:SqL X.K H a xs):∃its:List Value,Vals xs its∧PlainL s.heap a its.toArray∧xs.length≤sizeLine:=by
 rcases h with h|⟨o,its,n,hk,hc,hd,hs,hz,r⟩
 ·obtain ⟨z,its,n,r,e⟩:=h.ok I.hok
  exact ⟨its,r,⟨_,n,e,rfl,rfl,rfl⟩,z⟩
 ·refine ⟨its.toList,r,⟨o,n,I.kIn a o hk,hc,hd,by simpa using hs⟩,?_⟩
  have e:=r.length
  simp only [Array.length_toList] at e
  (first|lia|omega)
theorem Inv.tuple (I:Inv X pins σ H s) (h:SqT X.K H a xs):∃its:List Value,Vals xs its∧IsTup s.heap a its.toArray∧xs.length≤sizeLine:=by
 rcases h with h|⟨o,its,n,hk,hc,hs,hz,r⟩
 ·obtain ⟨z,its,r,p⟩:=h.ok I.hok
  exact ⟨its,r,p,z⟩
 ·refine ⟨its.toList,r,⟨o,I.kIn a o hk,hc,n,by simpa using hs⟩,?_⟩
  have e:=r.length
  simp only [Array.length_toList] at e
  (first|lia|omega)
theorem Inv.list_inj (I:Inv X pins σ H s) (h:SqL X.K H a xs) (h':SqL X.K H a ys):xs=ys:=by
 obtain ⟨its,r,⟨o,n,e,_,_,d⟩,_⟩:=I.list h
 obtain ⟨its',r',⟨o',n',e',_,_,d'⟩,_⟩:=I.list h'
 rw [e] at e';cases e'
 rw [d] at d'
 injection d' with d1 _
 have:its=its':=by simpa using congrArg Array.toList d1
 subst this
 exact r.inj r'
end
noncomputable abbrev Cx.wish (X:Cx) (E:Value→Shared→Prop):Cx:={ X with xe:=E }
noncomputable abbrev Cx.nox (X:Cx):Cx:=X.wish fun _ _=>False
theorem Cx.Ok.wish {X:Cx} (ok:X.Ok) (E:Value→Shared→Prop):(X.wish E).Ok:=
 ⟨ok.mod,ok.kind,ok.glob,ok.blt,ok.above,ok.inj,ok.has,ok.cab,ok.hd,ok.frames,ok.stk,ok.exf,ok.bs,ok.bsz,ok.noex,ok.exfs,ok.funs,ok.frf⟩
theorem Cx.Ok.unwish {X:Cx} {E:Value→Shared→Prop} (ok:(X.wish E).Ok):X.Ok:=
 ⟨ok.mod,ok.kind,ok.glob,ok.blt,ok.above,ok.inj,ok.has,ok.cab,ok.hd,ok.frames,ok.stk,ok.exf,ok.bs,ok.bsz,ok.noex,ok.exfs,ok.funs,ok.frf⟩
section
variable {X:Cx} {pins:List (Addr×Obj)} {σ:St} {H:Hp} {s:Shared} {E:Value→Shared→Prop}
theorem Inv.wish (I:Inv X pins σ H s) (E:Value→Shared→Prop):Inv (X.wish E) pins σ H s:=⟨I.ok.wish E,I.os,I.bare,I.base,I.loc,I.cell,I.free,I.freeC,I.pin,I.hok,I.len⟩
theorem Inv.unwish (I:Inv (X.wish E) pins σ H s):Inv X pins σ H s:=⟨I.ok.unwish,I.os,I.bare,I.base,I.loc,I.cell,I.free,I.freeC,I.pin,I.hok,I.len⟩
theorem SP.unwish {D:Ends} {f:Flow} {s':Shared} (h:SP (X.wish E) pins D f s'):SP X pins D f s':=by
 cases f with
 | next=>obtain ⟨σ',H',I,q⟩:=h;exact ⟨σ',H',I.unwish,q⟩
 | brk=>obtain ⟨σ',H',I,q⟩:=h;exact ⟨σ',H',I.unwish,q⟩
 | cont=>obtain ⟨σ',H',I,q⟩:=h;exact ⟨σ',H',I.unwish,q⟩
 | ret u=>obtain ⟨v, σ',H',I,r,q⟩:=h;exact ⟨v, σ',H',I.unwish,r,q⟩
theorem PSs.nox {st:List Stmt} {t:TS} (h:PSs X.nox st t):PSs X st t:=fun pins s σ H D I hw=>
 wpAny_mono (h s σ H D (I.wish _) hw) (fun _ _ q=>q.unwish) fun _ _ z=>False.elim z
end
section
variable {X:Cx} {st:Stmt} {rest:List Stmt} {t u:TS} {e:Expr} {te:TE} {pos:Pos}
noncomputable def tNext:TS:=fun D σ H=>D.nx σ H
noncomputable def tSeq (t u:TS):TS:=fun D σ H=>t { D with nx:=u D } σ H
theorem pss_nil:PSs X [] tNext:=fun _ _ σ H _ I h=>wpAny_execs_nil ⟨σ,H,I,h⟩
theorem pss_cons (h1:PS X st t) (h2:PSs X rest u):PSs X (st :: rest) (tSeq t u):=by
 intro pins s σ H D I h
 refine wpAny_execs_cons (thn (h1 s σ H { D with nx:=u D } I h) fun f s1 q => ?_)
 cases f with
 | next=>
  obtain ⟨σ',H',I',q⟩:=q
  exact h2 s1 σ' H' D I' q
 | ret v=>exact q
 | brk=>exact q
 | cont=>exact q
theorem pss_one (h1:PS X st t):PSs X [st] t:=by
 intro pins s σ H D I h
 refine wpAny_execs_cons (thn (h1 s σ H D I h) fun f s1 q => ?_)
 cases f with
 | next=>exact wpAny_execs_nil q
 | ret v=>exact q
 | brk=>exact q
 | cont=>exact q
theorem Inv.quiet {pins:List (Addr×Obj)} {σ:St} {H:Hp} {s:Shared} (I:Inv X pins σ H s):interactive X.env=false:=by simp [interactive,I.ok.kind]
noncomputable def tDrop (te:TE):TS:=fun D σ H=>te σ H fun _ H1=>D.nx σ H1
theorem ps_expr (he:PE X e te) (hs:swapsWith e none pos.line X.env=pure false:=by rfl):PS X (.Expr e pos) (tDrop te):=by
 intro pins s σ H D I h
 exact wpAny_Expr_any (thn (he s σ H _ I h) fun v s1 hz_=>Elim.el hz_ _ fun x H1 I1 r1 q1=>⟨σ,H1,I1,q1⟩) I.quiet hs
noncomputable def tRet (te:TE):TS:=fun D σ H=>te σ H D.rt
theorem ps_ret (he:PE X e te):PS X (.Return (some e) pos) (tRet te):=by
 intro pins s σ H D I h
 exact wpAny_Return_some (thn (he s σ H _ I h) fun v s1 hz_=>Elim.el hz_ _ fun x H1 I1 r1 q1=>⟨x, σ,H1,I1,r1,q1⟩)
noncomputable def tIfS (c:TT) (t u:TS):TS:=fun D σ H=>c σ H fun b H1=>if b=true then t D σ H1 else u D σ H1
theorem ps_if {c:Expr} {a b:List Stmt} {tc:TT} (hc:PT X c tc) (ha:PSs X a t) (hb:PSs X b u):PS X (.If c a b pos) (tIfS tc t u):=by
 intro pins s σ H D I h
 refine wpAny_If (thn (hc s σ H _ I h) fun d s1 hz_ => ?_)
 refine Elim.el hz_ _ ?_
 clear hz_
 rintro H1 I1 q1
 cases d with
 | true=>exact ha s1 σ H1 D I1 q1
 | false=>exact hb s1 σ H1 D I1 q1
end
noncomputable abbrev TG:=V→St→Hp→(St→Hp→Prop)→Prop
noncomputable abbrev TGs:=List V→St→Hp→(St→Hp→Prop)→Prop
noncomputable def PG (X:Cx) (target:Expr) (t:TG):Prop:=
 ∀ ⦃pins:List (Addr×Obj)⦄ (s:Shared) (σ:St) (H:Hp) (v:V) (u:Value) (Q:St→Hp→Prop),Inv X pins σ H s→RelV v u→t v σ H Q →
  wpAny (model X.prog X.w) X.A (assign target X.env u) (fun _ s'=>Ex2 fun σ' H'=>Inv X pins σ' H' s'∧Q σ' H') X.xe s
noncomputable def PGs (X:Cx) (ts:List Expr) (t:TGs):Prop:=
 ∀ ⦃pins:List (Addr×Obj)⦄ (s:Shared) (σ:St) (H:Hp) (vs:List V) (us:List Value) (Q:St→Hp→Prop),Inv X pins σ H s→Vals vs us→t vs σ H Q →
  wpAny (model X.prog X.w) X.A (assignInOrder ((assignEach ts X.env).map (·.2)) us) (fun _ s'=>Ex2 fun σ' H'=>Inv X pins σ' H' s'∧Q σ' H') X.xe s
noncomputable abbrev TSet:=V→V→V→Hp→(Hp→Prop)→Prop
noncomputable def PSet (X:Cx) (t:TSet):Prop:=
 ∀ ⦃pins:List (Addr×Obj)⦄ (s:Shared) (σ:St) (H:Hp) (o i v:V) (ov iv u:Value) (Q:Hp→Prop),Inv X pins σ H s→RelV o ov→RelV i iv→RelV v u→t o i v H Q →
  wpAny (model X.prog X.w) X.A (setItem ov iv u) (fun _ s'=>∃H',Inv X pins σ H' s'∧Q H') X.xe s
section
variable {X:Cx} {pos:Pos}
noncomputable def gName (i:Nat):TG:=fun v σ H Q=>Q (σ.set i (some v)) H
theorem pg_name {i:Nat} {x:Str} (hN:X.N.Nodup) (hi:X.N[i]? = some x) (hx:Loc X.env.scope x) (hf:X.fn x=true∨X.env.scope.names.lookup x=some .local:=by first|exact .inl rfl|exact .inr rfl|assumption):PG X (.Name x pos) (gName i):=by
 intro pins s σ H v u Q I r h
 exact wpAny_assign_Name (store_ok I hN hi hx r (fun s' I'=>⟨_,H,I',h⟩) hf)
noncomputable def gNil:TGs:=fun vs σ H Q=>vs=[]∧Q σ H
noncomputable def gCons (t:TG) (u:TGs):TGs:=fun vs σ H Q=>Ex2 fun v r=>vs=v :: r∧t v σ H fun σ' H'=>u r σ' H' Q
theorem pgs_nil:PGs X [] gNil:=by
 intro pins s σ H vs us Q I r h
 obtain ⟨e,h⟩:=h
 subst e
 cases r
 exact assignInOrder_nil ⟨σ,H,I,h⟩
theorem pgs_cons {e:Expr} {es:List Expr} {t:TG} {u:TGs} (h1:PG X e t) (h2:PGs X es u)
  (hs:(assignEach (e :: es) X.env).map (·.2)=assign e X.env :: (assignEach es X.env).map (·.2):=by rfl):PGs X (e :: es) (gCons t u):=by
 intro pins s σ H vs us Q I r h
 obtain ⟨v,vr,e1,h⟩:=h
 subst e1
 cases r with
 | cons r rr=>
  rw [hs]
  refine assignInOrder_cons (thn (h1 s σ H _ _ _ I r h) fun _ s1 hz_ => ?_)
  refine Elim.el hz_ _ ?_
  clear hz_
  rintro σ1 H1 I1 q1
  exact h2 s1 σ1 H1 _ _ Q I1 rr q1
noncomputable def gTup (K:PySem.W.Frag) (n:Nat) (t:TGs):TG:=fun v σ H Q=>Ex2 fun a xs=>v = .ref a∧SqT K H a xs∧xs.length=n∧t xs σ H Q
theorem pg_tup {es:List Expr} {k:Nat} {t:TGs} {n:Nat} (hc:X.calm=true) (h:PGs X es t)
  (hn:(assignEach es X.env).length=n:=by rfl) (hst:(assignEach es X.env).findIdx? (·.1)=none:=by rfl):PG X (.Tuple es k pos) (gTup X.K n t):=by
 intro pins s σ H v u Q I r hw
 obtain ⟨a,xs,e1,hq,hl,hw⟩:=hw
 subst e1
 cases r
 obtain ⟨its,rv,ht,hz⟩:=I.tuple hq
 refine assign_Tuple_tuple (I.ok.hd hc) ht (by simp [hn, ←hl,rv.length]) hst fun h' hx => ?_
 have I1:Inv X pins σ H { s with heap:=h' }:=I.kept (t':=s.toks) fun b o e=>hx b o (Nat.ne_of_lt (Heap.lt_size e)) e
 exact h _ σ H xs _ Q I1 (by simpa using rv) hw
noncomputable def gSub (to ti:TE) (t:TSet):TG:=fun v σ H Q=>to σ H fun o H1=>ti σ H1 fun i H2=>t o i v H2 fun H3=>Q σ H3
theorem pg_sub {o i:Expr} {to ti:TE} {t:TSet} (ho:PE X o to) (hi:PE X i ti) (hs:PSet X t)
  (ha:∀v,assign (.Subscript o i pos) X.env v=(do
   let ov ←holding [v] (eval o X.env)
   let iv ←holding [v,ov] (eval i X.env)
   standAt pos
   holding [v,ov,iv] (setItem ov iv v)
   release [v,ov,iv] []):=by intro _;rfl):PG X (.Subscript o i pos) (gSub to ti t):=by
 intro pins s σ H v u Q I r h
 rw [ha]
 refine wpAny_bind (wpAny_holding (thn (ho s σ H _ I h) fun ov s1 hz_ => ?_))
 refine Elim.el hz_ _ ?_
 clear hz_
 rintro x H1 I1 r1 q1
 refine wpAny_bind (wpAny_holding (thn (hi s1 σ H1 _ I1 q1) fun iv s2 hz_ => ?_))
 refine Elim.el hz_ _ ?_
 clear hz_
 rintro y H2 I2 r2 q2
 refine wpAny_bind (wpAny_standAt (wpAny_bind (wpAny_holding (thn (hs s2 σ H2 x y v ov iv u _ I2 r1 r2 r q2) fun _ s3 hz_ => ?_))))
 refine Elim.el hz_ _ ?_
 clear hz_
 rintro H3 I3 q3
 exact wpAny_release ⟨σ,H3,I3,q3⟩
noncomputable def tAsg (te:TE) (g:TG):TS:=fun D σ H=>te σ H fun x H1=>g x σ H1 D.nx
theorem ps_asg {tg e:Expr} {te:TE} {g:TG} (he:PE X e te) (hg:PG X tg g) (hs:swapsWithSole [tg] e pos.line X.env=pure false:=by rfl) (hw:swappedStores [tg] e X.env=pure none:=by rfl)
  (h1:(assignEach [tg] X.env).map (·.2)=[assign tg X.env]:=by rfl):PS X (.Assign [tg] e pos) (tAsg te g):=by
 intro pins s σ H D I h
 refine wpAny_Assign_stores (thn (he s σ H _ I h) fun v s1 hz_=>Elim.el hz_ _ fun x H1 I1 r1 q1 => ?_) hs hw
 rw [h1]
 exact thn (hg s1 σ H1 x v _ I1 r1 q1) fun _ s2 q=>q
theorem ps_set {i:Nat} {x:Str} {e:Expr} {te:TE} {pos':Pos} (hN:X.N.Nodup) (hi:X.N[i]? = some x) (hx:Loc X.env.scope x) (he:PE X e te) (hs:swapsWith e (some (.Name x pos')) pos.line X.env=pure false:=by rfl) (hf:X.fn x=true∨X.env.scope.names.lookup x=some .local:=by first|exact .inl rfl|exact .inr rfl|assumption) :
  PS X (.Assign [.Name x pos'] e pos) (tAsg te (gName i)):=by
 intro pins s σ H D I h
 refine wpAny_Assign_Name (thn (he s σ H _ I h) fun v s1 hz_=>Elim.el hz_ _ fun y H1 I1 r1 q1 => ?_) hs
 exact store_ok I1 hN hi hx r1 (fun s2 I2=>⟨_,H1,I2,q1⟩) hf
end
section
variable {X:Cx} {pos:Pos}
noncomputable def tWhile (c:TT) (tb:TS):TS:=fun D σ H=>∃W:Nat→St→Hp→Prop,(∃m,W m σ H)∧∀m σ H,W m σ H →
 c σ H fun b H1=>if b=true then ∃N:St→Hp→Prop,(∀ σ' H',N σ' H'→∃m',m'<m∧W m' σ' H')∧tb { D with nx:=N,ct:=N,bk:=D.nx } σ H1 else D.nx σ H1
theorem ps_while {c:Expr} {body:List Stmt} {tc:TT} {tb:TS} (hp:PassesOwn (model X.prog X.w) X.A X.env X.xe) (hc:PT X c tc) (hb:PSs X body tb):PS X (.While c body [] pos) (tWhile tc tb):=by
 intro pins s σ H D I h
 obtain ⟨W,⟨m0,w0⟩,turn⟩:=h
 refine wpAny_While (codeAny_whileLoop (fun n s'=>∃ σ' H',Inv X pins σ' H' s'∧W n σ' H') ?_ m0 ⟨σ,H,I,w0⟩)
 rintro n s1 ⟨σ1,H1,I1,w1⟩
 refine wpAny_passesOwn hp (thn (hc s1 σ1 H1 _ I1 (turn n σ1 H1 w1)) fun b s2 hz_ => ?_)
 refine Elim.el hz_ _ ?_
 clear hz_
 rintro H2 I2 q2
 cases b with
 | true=>
  obtain ⟨N,hN,q2⟩:=q2
  rw [if_pos rfl]
  refine wpAny_passesOwn hp (thn (hb s2 σ1 H2 _ I2 q2) fun f s3 q3 => ?_)
  cases f with
  | next=>
   obtain ⟨σ3,H3,I3,n3⟩:=q3
   obtain ⟨m',hm,w3⟩:=hN σ3 H3 n3
   exact ⟨m',hm, σ3,H3,I3,w3⟩
  | cont=>
   obtain ⟨σ3,H3,I3,n3⟩:=q3
   obtain ⟨m',hm,w3⟩:=hN σ3 H3 n3
   exact ⟨m',hm, σ3,H3,I3,w3⟩
  | brk=>exact q3
  | ret v=>exact q3
 | false=>
  rw [if_neg Bool.false_ne_true]
  exact wpAny_execs_nil ⟨σ1,H2,I2,q2⟩
end
structure It where
 go:Nat→Hp→Prop
 yld:Nat→Hp→V→Hp→Prop
 stop:Nat→Hp→Prop
noncomputable def FpOk (X:Cx) (pins:List (Addr×Obj)) (H:Hp) (b:Addr):Prop:=
 H b=none∧b≠X.env.locals∧b ∉ X.fs∧(b∈X.ex∨X.s₀.heap.objs.size≤b)∧(∀x c,X.env.cells.lookup x=some c→c≠b)∧∀p∈X.pn++pins,p.1≠b
theorem Inv.fpOk {X:Cx} {pins:List (Addr×Obj)} {σ:St} {H H':Hp} {s:Shared} {b:Addr} (I:Inv X pins σ H s) (hb:s.heap.objs.size≤b) (hn:H' b=none):FpOk X pins H' b:=by
 refine ⟨hn,Nat.ne_of_gt (Nat.lt_of_lt_of_le I.lt hb),I.nofs hb, .inr (Nat.le_trans I.sz hb),fun x c e z => ?_,fun p hp z => ?_⟩
 ·obtain ⟨v,q⟩:=I.cell x c e
  exact absurd (Nat.lt_of_lt_of_le q.lt (by rw [z];exact hb)) (Nat.lt_irrefl _)
 ·exact absurd (Nat.lt_of_lt_of_le (Heap.lt_size (I.pin p hp).1) (by rw [z];exact hb)) (Nat.lt_irrefl _)
structure Turn (P:Program) (w:World) (K:PySem.W.Frag) (tg:Expr) (J:It) (fp:List Addr) (it:Addr) (tn:Nat→Heap→Prop):Prop where
 mem:it∈fp
 obj:∀i h,tn i h→∀b∈fp,∃o,h.get? b=some o∧∀v,o.data ≠ .cell v
 keep:∀i h h',tn i h→(∀b∈fp,∀o,h.get? b=some o→h'.get? b=some o)→tn i h'
 item:∀(X:Cx),X.prog=P→X.w=w→X.K=K→X.calm=true→∀(i:Nat) (pins:List (Addr×Obj)) (s:Shared) (σ:St) (H:Hp) (E:Value→Shared→Prop),Inv X pins σ H s→(∀b∈fp,FpOk X pins H b)→tn i s.heap→J.go i H →
  wpAny (model P w) X.A (pyNext (.ref it)) (fun r s1=>∃u,r=some u ∧
   wpAny (model P w) X.A (letOwnedTupleGo tg (.ref it) u) (fun _ s2=>∃x H',Inv X pins σ H' s2∧RelV x u∧J.yld i H x H'∧tn (i+1) s2.heap∧∀b∈fp,H' b=none) E s1) E s
 done:∀(X:Cx),X.prog=P→X.w=w→X.K=K→X.calm=true→∀(i:Nat) (pins:List (Addr×Obj)) (s:Shared) (σ:St) (H:Hp) (E:Value→Shared→Prop),Inv X pins σ H s→(∀b∈fp,FpOk X pins H b)→tn i s.heap→J.stop i H →
  wpAny (model P w) X.A (pyNext (.ref it)) (fun r s1=>r=none∧Inv X pins σ H s1) E s
 self:∀(A:Around) (i:Nat) (s:Shared) (Q:Value→Shared→Prop) (E:Value→Shared→Prop),tn i s.heap→Q (.ref it) s→wpAny (model P w) A (pyIter (.ref it)) Q E s
noncomputable abbrev TI:=St→Hp→(It→Hp→Prop)→Prop
noncomputable def PIE (X:Cx) (pins:List (Addr×Obj)) (σ:St) (tg:Expr) (R:It→Hp→Prop) (itv:Value) (s2:Shared):Prop:=
 Ex5 fun (it:Addr) (fp:List Addr) (tn:Nat→Heap→Prop) (J:It) (H':Hp)=>itv = .ref it∧Inv X pins σ H' s2∧Turn X.prog X.w X.K tg J fp it tn∧tn 0 s2.heap∧(∀b∈fp,FpOk X pins H' b)∧R J H'
noncomputable def PI (X:Cx) (tg iter:Expr) (wi:TI):Prop:=
 ∀ ⦃pins:List (Addr×Obj)⦄ (s:Shared) (σ:St) (H:Hp) (R:It→Hp→Prop),Inv X pins σ H s→wi σ H R →
  wpAny (model X.prog X.w) X.A (eval iter X.env) (fun v s1=>wpAny (model X.prog X.w) X.A (pyIter v) (PIE X pins σ tg R) X.xe s1) X.xe s
theorem go_of {M:Model} {A:Around} {E:Value→Shared→Prop} {s:Shared} {tg:Expr} {it:Addr} {u:Value} {o:Obj} {n:String} {vs:Array Value} {Q:Unit→Shared→Prop} (ho:s.heap.get? it=some o) (hc:o.cls = .type n) (hd:o.data = .fields vs)
  (hn:["enumerate", "zip", "dict_itemiterator", "dict_reverseitemiterator", "odict_iterator", "itertools.zip_longest", "itertools.pairwise"].contains n=false) (hQ:Q () s):wpAny M A (letOwnedTupleGo tg (.ref it) u) Q E s:=by
 unfold letOwnedTupleGo
 cases tg <;> first
  | exact wpAny_pure hQ
  | (cases u <;> first
    | exact wpAny_pure hQ
    | (refine wpAny_bind (wpAny_load ho ?_)
       rw [hc,hd]
       show wpAny M A (if (["enumerate", "zip", "dict_itemiterator", "dict_reverseitemiterator", "odict_iterator", "itertools.zip_longest", "itertools.pairwise"].contains n&&vs[0]? == some (rawInt _))=true then _ else _) Q E s
       rw [if_neg (by intro h;rw [hn,Bool.false_and] at h;cases h)]
       exact wpAny_pure hQ))
noncomputable def Itl (K:PySem.W.Frag) (a:Addr):It:=
 ⟨fun i H=>Ex2 fun xs x=>SqL K H a xs∧xs[i]? = some x,fun i H x H'=>H'=H∧∀xs,SqL K H a xs→xs[i]? = some x,fun i H=>∃xs,SqL K H a xs∧xs.length≤i⟩
noncomputable def Itr (lo:Int) (n:Nat):It:=⟨fun i _=>i<n,fun i H x H'=>H'=H∧x = .int (lo+i),fun i _=>n≤i⟩
theorem turn_list {P:Program} {w:World} {K:PySem.W.Frag} {tg:Expr} (a it:Addr):Turn P w K tg (Itl K a) [it] it (fun i h=>h.IsListIter it a i) where
 mem:=by simp
 obj:=fun i h st b hb=>by
  have e:b=it:=by simpa using hb
  subst e
  obtain ⟨o,e,c,d⟩:=st
  exact ⟨o,e,fun v z=>by rw [d] at z;cases z⟩
 keep:=fun i h h' st k=>st.at fun o e=>k it (by simp) o e
 item:=by
  intro X hP hw hK hc i pins s σ H E I hf st hg
  subst hP hw hK
  obtain ⟨xs,x,hq,hx⟩:=hg
  obtain ⟨its,rv,p,hz⟩:=I.list hq
  obtain ⟨u,hu,ru⟩:=rv.get hx
  obtain ⟨f0,f1,f2,f3,f4,f5⟩:=hf it (by simp)
  refine wpAny_pyNext_list_item st p.isList (x:=u) (by simpa using hu) fun h' st' sb => ?_
  have I1:Inv X pins σ H { s with heap:=h' }:=I.turned (t':=s.toks) (fun b o hb e=>(sb.2 b hb).trans e) f0 f1 f3 f4 f5
  obtain ⟨o,e,c,d⟩:=id st'
  exact ⟨u,rfl,go_of (s:={ s with heap:=h' }) e c d (by decide) ⟨x,H,I1,ru,⟨rfl,fun ys hy=>by rw [I.list_inj hy hq];exact hx⟩,st',fun b hb=>(hf b hb).1⟩⟩
 done:=by
  intro X hP hw hK hc i pins s σ H E I hf st hg
  subst hP hw hK
  obtain ⟨xs,hq,hx⟩:=hg
  obtain ⟨its,rv,p,hz⟩:=I.list hq
  obtain ⟨f0,f1,f2,f3,f4,f5⟩:=hf it (by simp)
  have hl:=rv.length
  exact wpAny_pyNext_list_end (I.ok.hd hc) st p.isList (by simp; (first|lia|omega)) fun h' eb=>⟨rfl,I.turned (t':=s.toks) (fun b o hb e=>eb b o hb e) f0 f1 f3 f4 f5⟩
 self:=fun _ _ _ _ _ st h=>wpAny_pyIter_listiter st h
theorem turn_range {P:Program} {w:World} {K:PySem.W.Frag} {tg:Expr} (it:Addr) (lo:Int) (n:Nat):Turn P w K tg (Itr lo n) [it] it (fun i h=>IsRangeIter h it (lo+(i:Nat)*1) ((n:Int)-(i:Nat)) 1) where
 mem:=by simp
 obj:=fun i h st b hb=>by
  have e:b=it:=by simpa using hb
  subst e
  exact ⟨_,st,fun v z=>by
   have z':Data.fields _=Data.cell v:=z
   cases z'⟩
 keep:=fun i h h' st k=>k it (by simp) _ st
 item:=by
  intro X hP hw hK hc i pins s σ H E I hf st hg
  subst hP hw hK
  obtain ⟨f0,f1,f2,f3,f4,f5⟩:=hf it (by simp)
  have W:=Walks.range (prog:=X.prog) (w:=X.w) (I.ok.hd hc) it lo 1 n
  refine W.item i s _ _ hg st fun v h' tk hv st' kk => ?_
  obtain ⟨t,rfl⟩:=hv
  have I1:Inv X pins σ H { s with heap:=h',toks:=tk }:=I.turned (fun b o hb e=>kk b o (by simpa using hb) e) f0 f1 f3 f4 f5
  refine ⟨_,rfl,go_of (s:={ s with heap:=h',toks:=tk }) (n := "range_iterator") st' rfl rfl (by decide) ⟨.int (lo+i),H,I1,⟨t,?_⟩,⟨rfl,rfl⟩,st',fun b hb=>(hf b hb).1⟩⟩
  rw [Int.mul_one]
 done:=by
  intro X hP hw hK hc i pins s σ H E I hf st hg
  subst hP hw hK
  obtain ⟨f0,f1,f2,f3,f4,f5⟩:=hf it (by simp)
  exact wpAny_pyNext_range_end (I.ok.hd hc) st (by have:n≤i:=hg; (first|lia|omega)) fun h' eb=>⟨rfl,I.turned (t':=s.toks) (fun b o hb e=>eb b o hb e) f0 f1 f3 f4 f5⟩
 self:=fun _ _ _ _ _ st h=>wpAny_pyIter_rangeiter st h
end L2
namespace L2
open PySem PySem.Spec PyProof.Rows
section
variable {X:Cx} {tg:Expr}
noncomputable def iList (K:PySem.W.Frag) (tl:TE):TI:=fun σ H R=>tl σ H fun x H1=>∃a,x = .ref a∧(∃xs,SqL K H1 a xs)∧R (Itl K a) H1
theorem pi_list {l:Expr} {tl:TE} (hl:PE X l tl):PI X tg l (iList X.K tl):=by
 intro pins s σ H R I h
 refine thn (hl s σ H _ I h) fun v s1 hz_ => ?_
 refine Elim.el hz_ _ ?_
 clear hz_
 rintro x H1 I1 r1 q1
 obtain ⟨a,e,⟨xs,hq⟩,q⟩:=q1
 subst e
 cases r1
 obtain ⟨its,rv,p,hz⟩:=I1.list hq
 refine wpAny_pyIter_list p.isList ?_
 refine ⟨s1.heap.objs.size,[s1.heap.objs.size],_,_,H1,rfl,I1.kept (t':=s1.toks) fun b o e=>Heap.get?_push_of_some _ e,turn_list a _,⟨_,Heap.get?_push_size _ rfl,rfl,rfl⟩,fun b hb => ?_,q⟩
 have e:b=s1.heap.objs.size:=by simpa using hb
 subst e
 exact I1.fpOk (Nat.le_refl _) (I1.hok.fresh (Nat.le_refl _))
theorem range_it {pins:List (Addr×Obj)} {σ:St} {H:Hp} {s:Shared} {R:It→Hp→Prop} {E:Value→Shared→Prop} {lo hi:Int} {t u v:Tok} {tk:Nat} (I:Inv X pins σ H s) (h1 : -(2 ^ 62)≤lo) (h2:lo<2 ^ 62) (h3 : -(2 ^ 62)≤hi) (h4:hi<2 ^ 62)
  (q:R (Itr lo (hi-lo).toNat) H):wpAny (model X.prog X.w) X.A (pyIter (.ref s.heap.objs.size)) (PIE X pins σ tg R) E { s with heap:=s.heap.push { cls := .type "range",data := .fields #[.int lo t, .int hi u, .int 1 v] },toks:=tk }:=by
 refine wpAny_pyIter_range (IsRange.new ..) (small_one h1 h2 h3 h4) ?_
 have I1:Inv X pins σ H { s with heap:=s.heap.push { cls := .type "range",data := .fields #[.int lo t, .int hi u, .int 1 v] },toks:=tk }:=I.kept fun b o e=>Heap.get?_push_of_some _ e
 refine ⟨(s.heap.push { cls := .type "range",data := .fields #[.int lo t, .int hi u, .int 1 v] }).objs.size,[(s.heap.push { cls := .type "range",data := .fields #[.int lo t, .int hi u, .int 1 v] }).objs.size],_,_,H,rfl,
  I1.kept (t':=tk) fun b o e=>Heap.get?_push_of_some _ e,turn_range _ lo (hi-lo).toNat,?_,fun b hb => ?_,q⟩
 ·have e1:lo+((0:Nat):Int)*1=lo:=by simp
  have e2:(((hi-lo).toNat:Nat):Int)-((0:Nat):Int)=Builtin.Range.rangeSize lo hi 1:=by rw [rangeSize_one];split <;> (first|lia|omega)
  show IsRangeIter _ _ (lo+((0:Nat):Int)*1) ((((hi-lo).toNat:Nat):Int)-((0:Nat):Int)) 1
  rw [e1,e2]
  exact Heap.get?_push_size _ rfl
 ·have e:b=(s.heap.push { cls := .type "range",data := .fields #[.int lo t, .int hi u, .int 1 v] }).objs.size:=by simpa using hb
  subst e
  exact I1.fpOk (Nat.le_refl _) (I1.hok.fresh (Nat.le_refl _))
noncomputable def iRng1 (ta:TA):TI:=fun σ H R=>ta σ H fun vs H1=>∃j:Int,vs=[.int j] ∧ -(2 ^ 62)≤j∧j<2 ^ 62∧R (Itr 0 j.toNat) H1
noncomputable def iRng2 (ta:TA):TI:=fun σ H R=>ta σ H fun vs H1=>∃i j:Int,vs=[.int i, .int j]∧(-(2 ^ 62)≤i∧i<2 ^ 62 ∧ -(2 ^ 62)≤j∧j<2 ^ 62)∧R (Itr i (j-i).toNat) H1
theorem pi_range1 {a:Expr} {ta:TA} {p pos:Pos} (hg:Gl X "range") (hm:X.mg "range" = none) (ha:PA X [a] ta) (hs:starEach [a] X.env=[(false,eval a X.env)]:=by rfl):PI X tg (.Call (.Name "range" p) [a] [] pos) (iRng1 ta):=by
 intro pins s σ H R I h
 refine Call_ (ld_blt I hg hm boot_range (PyProof.Rows.callWith_type1 (thn (ha s σ H _ I h) fun us s1 hz_=>Elim.el hz_ _ fun vs H1 I1 r1 q1 => ?_) hs rfl))
 obtain ⟨j,e,q1,q2,q⟩:=q1
 subst e
 cases r1 with
 | cons r rr=>
  cases rr
  obtain ⟨t,rfl⟩:=r
  exact call_range_1 (range_it I1 (by first|lia|omega) (by first|lia|omega) q1 q2 (by simpa using q))
theorem pi_range2 {a b:Expr} {ta:TA} {p pos:Pos} (hg:Gl X "range") (hm:X.mg "range" = none) (ha:PA X [a,b] ta) (hs:starEach [a,b] X.env=[(false,eval a X.env),(false,eval b X.env)]:=by rfl) (hs2:starEach [b] X.env=[(false,eval b X.env)]:=by rfl) :
  PI X tg (.Call (.Name "range" p) [a,b] [] pos) (iRng2 ta):=by
 intro pins s σ H R I h
 refine Call_ (ld_blt I hg hm boot_range (PyProof.Rows.callWith_type1 (thn (ha s σ H _ I h) fun us s1 hz_=>Elim.el hz_ _ fun vs H1 I1 r1 q1 => ?_) (by rw [hs,hs2]) (by rw [hs2];rfl)))
 obtain ⟨i,j,e,⟨q1,q2,q3,q4⟩,q⟩:=q1
 subst e
 cases r1 with
 | cons r rr=>
  cases rr with
  | cons r' rr=>
   cases rr
   obtain ⟨t,rfl⟩:=r
   obtain ⟨t',rfl⟩:=r'
   exact call_range_2 (range_it I1 q1 q2 q3 q4 q)
noncomputable def tFor (wi:TI) (g:TG) (tb:TS):TS:=fun D σ H=>wi σ H fun J H1=>∃W:Nat→Nat→St→Hp→Prop,(∃m,W 0 m σ H1)∧∀i m σ H,W i m σ H →
 (J.stop i H∧D.nx σ H)∨(J.go i H∧∃N:St→Hp→Prop,(∀ σ' H',N σ' H'→∃m',m'<m∧W (i+1) m' σ' H')∧∀x H',J.yld i H x H'→g x σ H' fun σ2 H2=>tb { D with nx:=N,ct:=N,bk:=D.nx } σ2 H2)
noncomputable def pinsAt (fp:List Addr) (h:Heap):List (Addr×Obj):=fp.filterMap fun b=>(h.get? b).map fun o=>(b,o)
theorem mem_pinsAt {fp:List Addr} {h:Heap} {b:Addr} {o:Obj} (hb:b∈fp) (e:h.get? b=some o):(b,o)∈pinsAt fp h:=List.mem_filterMap.mpr ⟨b,hb,by rw [e];rfl⟩
theorem of_pinsAt {fp:List Addr} {h:Heap} {p:Addr×Obj} (hp:p∈pinsAt fp h):p.1∈fp∧h.get? p.1=some p.2:=by
 obtain ⟨b,hb,e⟩:=List.mem_filterMap.mp hp
 cases q:h.get? b with
 | none=>rw [q] at e;cases e
 | some o=>
  rw [q] at e
  have e':(b,o)=p:=Option.some.inj e
  subst e'
  exact ⟨hb,q⟩
theorem Inv.pinned {pins:List (Addr×Obj)} {σ:St} {H:Hp} {s:Shared} {fp:List Addr} (I:Inv X pins σ H s) (hf:∀b∈fp,FpOk X pins H b) (ho:∀b∈fp,∃o,s.heap.get? b=some o∧∀v,o.data ≠ .cell v):Inv X (pins++pinsAt fp s.heap) σ H s:=
 I.pins_of fun p hp=>(List.mem_append.mp hp).elim (fun z=>I.pin p (List.mem_append_right _ z)) fun z=>by
  obtain ⟨hb,e⟩:=of_pinsAt z
  obtain ⟨f0,f1,f2,_⟩:=hf p.1 hb
  obtain ⟨o,e',d⟩:=ho p.1 hb
  rw [e] at e';cases e'
  exact ⟨e,f0,f1,f2,d⟩
theorem Inv.unpinned {pins pl:List (Addr×Obj)} {σ:St} {H:Hp} {s:Shared} (I:Inv X (pins++pl) σ H s):Inv X pins σ H s:=I.pins_of fun p hp=>I.pin p (List.mem_append_right _ (List.mem_append_left _ hp))
theorem ps_for {iter:Expr} {body:List Stmt} {wi:TI} {g:TG} {tb:TS} {pos:Pos} (hp:PassesOwn (model X.prog X.w) X.A X.env X.xe) (hc:X.calm=true) (hi:PI X tg iter wi) (hg:PG X tg g) (hb:PSs X body tb)
  (hs:∀x,foldedSetIterable iter X.env x=pure x:=by intro _;rfl):PS X (.For tg iter body [] pos) (tFor wi g tb):=by
 intro pins s σ H D I h
 refine wpAny_For (thn (hi s σ H _ I h) fun v s1 h1=>thn h1 fun itv s2 h2 => ?_) hs
 obtain ⟨it,fp,tn,J,H2,e,I2,T,st2,f2,W,⟨m0,w0⟩,turn⟩:=h2
 subst e
 have stat:∀{H':Hp},(∀b∈fp,H' b=none)→∀b∈fp,FpOk X pins H' b:=fun hn b hb=>⟨hn b hb,(f2 b hb).2⟩
 refine codeAny_forLoop_any (fun n s'=>∃i σ' H',Inv X pins σ' H' s'∧tn i s'.heap∧(∀b∈fp,H' b=none)∧W i n σ' H') ?_ m0 ⟨0, σ,H2,I2,st2,fun b hb=>(f2 b hb).1,w0⟩
 rintro n s3 ⟨i, σ3,H3,I3,st3,fr3,w3⟩
 rcases turn i n σ3 H3 w3 with ⟨stop,qn⟩|⟨go,N,hN,step⟩
 ·refine wpAny_passesOwn hp (thn (T.done X rfl rfl rfl hc i pins s3 σ3 H3 X.xe I3 (stat fr3) st3 stop) fun r s4 hz_ => ?_)
  refine Elim.el hz_ _ ?_
  clear hz_
  rintro hr I4
  subst hr
  exact wpAny_execs_nil ⟨σ3,H3,I4,qn⟩
 ·refine wpAny_passesOwn hp (thn (T.item X rfl rfl rfl hc i pins s3 σ3 H3 X.xe I3 (stat fr3) st3 go) fun r s4 hz_ => ?_)
  refine Elim.el hz_ _ ?_
  clear hz_
  rintro u hr h4
  subst hr
  refine wpAny_passesOwn hp (thn h4 fun _ s5 hz_=>Elim.el hz_ _ fun x H5 I5 r5 y5 st5 fr5 => ?_)
  have I5':=I5.pinned (stat fr5) (T.obj _ _ st5)
  refine wpAny_passesOwn hp (thn (hg s5 σ3 H5 x u _ I5' r5 (step x H5 y5)) fun _ s6 hz_ => ?_)
  refine Elim.el hz_ _ ?_
  clear hz_
  rintro σ6 H6 I6 q6
  refine wpAny_passesOwn hp (thn (hb s6 σ6 H6 _ I6 q6) fun f s7 q7 => ?_)
  have again:∀{σ7:St} {H7:Hp},Inv X (pins++pinsAt fp s5.heap) σ7 H7 s7→N σ7 H7→∃m,m<n∧∃i σ' H',Inv X pins σ' H' s7∧tn i s7.heap∧(∀b∈fp,H' b=none)∧W i m σ' H':=fun {σ7 H7} I7 n7=>by
   obtain ⟨m',hm,w7⟩:=hN σ7 H7 n7
   refine ⟨m',hm,i+1, σ7,H7,I7.unpinned,T.keep _ _ _ st5 fun b hb o e=>(I7.pin (b,o) (List.mem_append_right _ (List.mem_append_right _ (mem_pinsAt hb e)))).1,fun b hb => ?_,w7⟩
   obtain ⟨o,e,d⟩:=T.obj _ _ st5 b hb
   exact (I7.pin (b,o) (List.mem_append_right _ (List.mem_append_right _ (mem_pinsAt hb e)))).2.1
  cases f with
  | next=>obtain ⟨σ7,H7,I7,n7⟩:=q7;exact again I7 n7
  | cont=>obtain ⟨σ7,H7,I7,n7⟩:=q7;exact again I7 n7
  | brk=>obtain ⟨σ7,H7,I7,q7⟩:=q7;exact ⟨σ7,H7,I7.unpinned,q7⟩
  | ret v=>obtain ⟨x7, σ7,H7,I7,r7,q7⟩:=q7;exact ⟨x7, σ7,H7,I7.unpinned,r7,q7⟩
end
theorem for_range {lo:Int} {n:Nat} {g:TG} {tb:TS} {D:Ends} {σ:St} {H:Hp} (Pv:Nat→St→Hp→Prop) (h0:Pv 0 σ H)
  (hs:∀i σ H,i<n→Pv i σ H→g (.int (lo+i)) σ H fun σ2 H2=>tb { D with nx:=Pv (i+1),ct:=Pv (i+1),bk:=D.nx } σ2 H2) (hd:∀ σ H,Pv n σ H→D.nx σ H) :
  ∃W:Nat→Nat→St→Hp→Prop,(∃m,W 0 m σ H)∧∀i m σ H,W i m σ H →
   ((Itr lo n).stop i H∧D.nx σ H)∨((Itr lo n).go i H∧∃N:St→Hp→Prop,(∀ σ' H',N σ' H'→∃m',m'<m∧W (i+1) m' σ' H')∧∀x H',(Itr lo n).yld i H x H'→g x σ H' fun σ2 H2=>tb { D with nx:=N,ct:=N,bk:=D.nx } σ2 H2):=by
 refine ⟨fun i m σ H=>m=n-i∧i≤n∧Pv i σ H,⟨n,by simp,Nat.zero_le _,h0⟩,?_⟩
 rintro i m σ H ⟨rfl,hi,p⟩
 by_cases hlt:i<n
 ·refine .inr ⟨hlt,Pv (i+1),fun σ' H' p'=>⟨n-(i+1),by first|lia|omega,rfl,hlt,p'⟩,fun x H' y => ?_⟩
  obtain ⟨e,y⟩:=y
  subst e y
  exact hs i σ _ hlt p
 ·have e:i=n:=by (first|lia|omega)
  subst e
  exact .inl ⟨Nat.le_refl _,hd σ H p⟩
end L2
namespace L2
open PySem PySem.Spec PyProof.Rows
noncomputable abbrev R2:=V→V→Hp→VK→Prop
noncomputable def OpR (X:Cx) (f:Value→Value→Sem Value) (r:R2):Prop:=
 ∀ ⦃pins:List (Addr×Obj)⦄ (s:Shared) (σ:St) (H:Hp) (x y:V) (v u:Value) (Q:VK),Inv X pins σ H s→RelV x v→RelV y u→r x y H Q →
  wpAny (model X.prog X.w) X.A (f v u) (EP X pins σ Q) X.xe s
noncomputable def CallR (X:Cx) (f:Value) (r:List V→Hp→VK→Prop):Prop:=
 ∀ ⦃pins:List (Addr×Obj)⦄ (s:Shared) (σ:St) (H:Hp) (xs:List V) (us:List Value) (Q:VK),Inv X pins σ H s→Vals xs us→r xs H Q →
  wpAny (model X.prog X.w) X.A (call f us) (EP X pins σ Q) X.xe s
noncomputable def TruR (X:Cx) (r:V→Hp→(Bool→Hp→Prop)→Prop):Prop:=
 ∀ ⦃pins:List (Addr×Obj)⦄ (s:Shared) (σ:St) (H:Hp) (x:V) (v:Value) (Q:Bool→Hp→Prop),Inv X pins σ H s→RelV x v→r x H Q →
  wpAny (model X.prog X.w) X.A (truthy v) (TP X pins σ Q) X.xe s
noncomputable def tOp (r:R2) (ta tb:TE):TE:=fun σ H Q=>ta σ H fun x H1=>tb σ H1 fun y H2=>r x y H2 Q
noncomputable def rI (C:Int→Int→Prop) (g:Int→Int→V):R2:=fun x y H Q=>Ex2 fun i j=>x = .int i∧y = .int j∧C i j∧Q (g i j) H
noncomputable def rI0 (g:Int→Int→V):R2:=fun x y H Q=>Ex2 fun i j=>x = .int i∧y = .int j∧Q (g i j) H
section
variable {X:Cx} {a b c:Expr} {ta tb tc:TE} {pos:Pos}
theorem binT (ha:PE X a ta) (hb:PE X b tb) {pins:List (Addr×Obj)} {s:Shared} {σ:St} {H:Hp} {R:V→V→Hp→Prop} (I:Inv X pins σ H s)
  (h:ta σ H fun x H1=>tb σ H1 fun y H2=>R x y H2) {Q:Value→Shared→Prop} {f:Value→Value→Sem Value}
  (hf:∀v u s2 x y H2,Inv X pins σ H2 s2→RelV x v→RelV y u→R x y H2→wpAny (model X.prog X.w) X.A (f v u) Q X.xe s2) :
  wpAny (model X.prog X.w) X.A (eval a X.env) (fun v s₁=>wpAny (model X.prog X.w) X.A (eval b X.env) (fun u s₂=>wpAny (model X.prog X.w) X.A (f v u) Q X.xe s₂) X.xe s₁) X.xe s:=by
 refine thn (ha s σ H _ I h) fun v s1 hz_ => ?_
 refine Elim.el hz_ _ ?_
 clear hz_
 rintro x H1 I1 r1 q1
 refine thn (hb s1 σ H1 _ I1 q1) fun u s2 hz_ => ?_
 refine Elim.el hz_ _ ?_
 clear hz_
 rintro y H2 I2 r2 q2
 exact hf v u s2 x y H2 I2 r1 r2 q2
theorem pe_op {op:Operator} {r:R2} (ho:OpR X (binaryOp op) r) (ha:PE X a ta) (hb:PE X b tb):PE X (.BinOp a op b pos) (tOp r ta tb):=by
 intro pins s σ H Q I h
 exact wpAny_BinOp (binT ha hb I h fun v u s2 x y H2 I2 rx ry q=>ho s2 σ H2 x y v u Q I2 rx ry q)
theorem opI {f:Value→Value→Sem Value} {C:Int→Int→Prop} {g:Int→Int→Int}
  (rule:∀(i j:Int) (t u:Tok) (s:Shared) (Q:Value→Shared→Prop) (E:Value→Shared→Prop),C i j→Q (.int (g i j) s.toks) { s with toks:=s.toks+1 } → wpAny (model X.prog X.w) X.A (f (.int i t) (.int j u)) Q E s) :
  OpR X f (rI C fun i j => .int (g i j)):=by
 intro pins s σ H x y v u Q I rx ry h
 obtain ⟨i,j,rfl,rfl,hc,q⟩:=h
 obtain ⟨t,rfl⟩:=rx
 obtain ⟨t',rfl⟩:=ry
 exact rule i j t t' s _ _ hc ⟨.int (g i j),H,I.tok _,⟨_,rfl⟩,q⟩
theorem opI0 {f:Value→Value→Sem Value} {g:Int→Int→Int}
  (rule:∀(i j:Int) (t u:Tok) (s:Shared) (Q:Value→Shared→Prop) (E:Value→Shared→Prop),Q (.int (g i j) s.toks) { s with toks:=s.toks+1 } → wpAny (model X.prog X.w) X.A (f (.int i t) (.int j u)) Q E s) :
  OpR X f (rI0 fun i j => .int (g i j)):=by
 intro pins s σ H x y v u Q I rx ry h
 obtain ⟨i,j,rfl,rfl,q⟩:=h
 obtain ⟨t,rfl⟩:=rx
 obtain ⟨t',rfl⟩:=ry
 exact rule i j t t' s _ _ ⟨.int (g i j),H,I.tok _,⟨_,rfl⟩,q⟩
theorem opB0 {f:Value→Value→Sem Value} {g:Int→Int→Bool}
  (rule:∀(i j:Int) (t u:Tok) (s:Shared) (Q:Value→Shared→Prop) (E:Value→Shared→Prop),Q (.bool (g i j)) s→wpAny (model X.prog X.w) X.A (f (.int i t) (.int j u)) Q E s) :
  OpR X f (rI0 fun i j => .bl (g i j)):=by
 intro pins s σ H x y v u Q I rx ry h
 obtain ⟨i,j,rfl,rfl,q⟩:=h
 obtain ⟨t,rfl⟩:=rx
 obtain ⟨t',rfl⟩:=ry
 exact rule i j t t' s _ _ ⟨.bl (g i j),H,I,rfl,q⟩
noncomputable def CDiv (i j:Int):Prop:=0<j∧j<1073741824
noncomputable def CPow (i j:Int):Prop:=0≤j∧j≤1000000∧i.natAbs<2 ^ 64
noncomputable def CMul (i j:Int):Prop:=(-(2 ^ 64)<i∧i<2 ^ 64)∨(-(2 ^ 64)<j∧j<2 ^ 64)
theorem CMul.ok {i j:Int} (h:CMul i j):IntMulOk i j:=by
 rcases h with ⟨h1,h2⟩|⟨h1,h2⟩
 ·exact .of_left (intBits_le_64 h1 h2)
 ·exact .of_right (intBits_le_64 h1 h2)
theorem op_add:OpR X (binaryOp .Add) (rI0 fun i j => .int (i+j)):=opI0 fun _ _ _ _ _ _ _ q=>add_int q
theorem op_mul:OpR X (binaryOp .Mult) (rI CMul fun i j => .int (i*j)):=opI fun _ _ _ _ _ _ _ hc q=>mul_int q hc.ok
theorem op_fdiv:OpR X (binaryOp .FloorDiv) (rI CDiv fun i j => .int (i / j)):=opI fun i j _ _ _ _ _ hc q=>by
 have h1:(0:Int)<j:=hc.1
 have h2:j<1073741824:=hc.2
 exact floordiv_int (by first|lia|omega) (by rw [Int.fdiv_eq_ediv_of_nonneg i (by first|lia|omega)];exact q) (.inl (PyProof.noPylong_small (by first|lia|omega)))
theorem op_mod:OpR X (binaryOp .Mod) (rI (fun _ j=>0<j) fun i j => .int (i % j)):=opI fun i j _ _ _ _ _ hc q=>by
 have h1:(0:Int)<j:=hc
 exact mod_int' (by first|lia|omega) (by rw [Int.fmod_eq_emod_of_nonneg i (by first|lia|omega)];exact q)
theorem op_pow:OpR X (binaryOp .Pow) (rI CPow fun i j => .int (i ^ j.toNat)):=opI fun _ _ _ _ _ _ _ hc q=>pow_int_small hc.1 hc.2.1 hc.2.2 q
end
noncomputable def scal:V→V→Bool
 | .non, .non=>true | .non, .int _=>true | .int _, .non=>true | .non, .bl _=>true | .bl _, .non=>true | .non, .str _=>true | .str _, .non=>true
 | .int _, .int _=>true | .bl _, .bl _=>true | .str _, .str _=>true | .byt _, .byt _=>true
 | .int _, .str _=>true | .str _, .int _=>true | .bl _, .str _=>true | .str _, .bl _=>true
 | _,_=>false
noncomputable def rEq:R2:=fun x y H Q=>scal x y=true∧Q (.bl (decide (x=y))) H
noncomputable def rNe:R2:=fun x y H Q=>scal x y=true∧Q (.bl (!decide (x=y))) H
theorem dec_int {i j:Int} : decide (V.int i=V.int j)=(i == j):=by
 rw [Bool.eq_iff_iff]
 simp
theorem dec_bl {i j:Bool} : decide (V.bl i=V.bl j)=(i == j):=by
 rw [Bool.eq_iff_iff]
 simp
theorem dec_str {i j:Str} : decide (V.str i=V.str j)=(i == j):=by
 rw [Bool.eq_iff_iff]
 simp
theorem dec_byt {i j:Array UInt8} : decide (V.byt i=V.byt j)=(i.toList == j.toList):=by
 rw [Bool.eq_iff_iff]
 cases i
 cases j
 simp
section
variable {X:Cx} {a b c:Expr} {ta tb tc:TE} {pos:Pos}
theorem fin_bl {pins:List (Addr×Obj)} {σ:St} {H:Hp} {s:Shared} {Q:VK} {k k':Bool} (I:Inv X pins σ H s) (q:Q (.bl k) H) (e:k=k'):EP X pins σ Q (.bool k') s:=by
 subst e
 exact ⟨.bl k,H,I,rfl,q⟩
theorem op_eq:OpR X (compareOp .Eq) rEq:=by
 intro pins s σ H x y v u Q I rx ry h
 obtain ⟨hs,q⟩:=h
 cases x with
 | non=>
  cases rx
  cases y with
  | non=>cases ry;exact PySem.EqNone.eq_none_none (fin_bl I q (by simp))
  | bl j=>cases ry;exact PySem.EqNone.eq_none_bool (fin_bl I q (by simp))
  | int j=>obtain ⟨t',rfl⟩:=ry;exact PySem.EqNone.eq_none_int (fin_bl I q (by simp))
  | str j=>obtain ⟨t',rfl⟩:=ry;exact PySem.EqNone.eq_none_str (fin_bl I q (by simp))
  | _=>exact absurd (show false=true from hs) Bool.false_ne_true
 | bl i=>
  cases rx
  cases y with
  | non=>cases ry;exact PySem.EqNone.eq_bool_none (fin_bl I q (by simp))
  | bl j=>cases ry;exact eq_bool (fin_bl I q dec_bl)
  | str j=>obtain ⟨t',rfl⟩:=ry;exact PySem.EqMixed.eq_bool_str (fin_bl I q (by simp))
  | _=>exact absurd (show false=true from hs) Bool.false_ne_true
 | int i=>
  obtain ⟨t,rfl⟩:=rx
  cases y with
  | non=>cases ry;exact PySem.EqNone.eq_int_none (fin_bl I q (by simp))
  | int j=>obtain ⟨t',rfl⟩:=ry;exact eq_int (fin_bl I q dec_int)
  | str j=>obtain ⟨t',rfl⟩:=ry;exact PySem.EqMixed.eq_int_str (fin_bl I q (by simp))
  | _=>exact absurd (show false=true from hs) Bool.false_ne_true
 | str i=>
  obtain ⟨t,rfl⟩:=rx
  cases y with
  | non=>cases ry;exact PySem.EqNone.eq_str_none (fin_bl I q (by simp))
  | bl j=>cases ry;exact PySem.EqMixed.eq_str_bool (fin_bl I q (by simp))
  | int j=>obtain ⟨t',rfl⟩:=ry;exact PySem.EqMixed.eq_str_int (fin_bl I q (by simp))
  | str j=>obtain ⟨t',rfl⟩:=ry;exact eq_str (fin_bl I q dec_str)
  | _=>exact absurd (show false=true from hs) Bool.false_ne_true
 | byt i=>
  obtain ⟨t,rfl⟩:=rx
  cases y with
  | byt j=>obtain ⟨t',rfl⟩:=ry;exact PySem.W.eq_bytes (fin_bl I q dec_byt)
  | _=>exact absurd (show false=true from hs) Bool.false_ne_true
 | _=>cases y <;> exact absurd (show false=true from hs) Bool.false_ne_true
theorem op_ne:OpR X (compareOp .NotEq) rNe:=by
 intro pins s σ H x y v u Q I rx ry h
 obtain ⟨hs,q⟩:=h
 cases x with
 | non=>
  cases rx
  cases y with
  | non=>cases ry;exact PySem.EqNone.ne_none_none (fin_bl I q (by simp))
  | bl j=>cases ry;exact PySem.EqNone.ne_none_bool (fin_bl I q (by simp))
  | int j=>obtain ⟨t',rfl⟩:=ry;exact PySem.EqNone.ne_none_int (fin_bl I q (by simp))
  | str j=>obtain ⟨t',rfl⟩:=ry;exact PySem.EqNone.ne_none_str (fin_bl I q (by simp))
  | _=>exact absurd (show false=true from hs) Bool.false_ne_true
 | bl i=>
  cases rx
  cases y with
  | non=>cases ry;exact PySem.EqNone.ne_bool_none (fin_bl I q (by simp))
  | bl j=>cases ry;exact ne_bool (fin_bl I q (congrArg not dec_bl))
  | str j=>obtain ⟨t',rfl⟩:=ry;exact PySem.EqMixed.ne_bool_str (fin_bl I q (by simp))
  | _=>exact absurd (show false=true from hs) Bool.false_ne_true
 | int i=>
  obtain ⟨t,rfl⟩:=rx
  cases y with
  | non=>cases ry;exact PySem.EqNone.ne_int_none (fin_bl I q (by simp))
  | int j=>obtain ⟨t',rfl⟩:=ry;exact ne_int (fin_bl I q (congrArg not dec_int))
  | str j=>obtain ⟨t',rfl⟩:=ry;exact PySem.EqMixed.ne_int_str (fin_bl I q (by simp))
  | _=>exact absurd (show false=true from hs) Bool.false_ne_true
 | str i=>
  obtain ⟨t,rfl⟩:=rx
  cases y with
  | non=>cases ry;exact PySem.EqNone.ne_str_none (fin_bl I q (by simp))
  | bl j=>cases ry;exact PySem.EqMixed.ne_str_bool (fin_bl I q (by simp))
  | int j=>obtain ⟨t',rfl⟩:=ry;exact PySem.EqMixed.ne_str_int (fin_bl I q (by simp))
  | str j=>obtain ⟨t',rfl⟩:=ry;exact ne_str (fin_bl I q (congrArg not dec_str))
  | _=>exact absurd (show false=true from hs) Bool.false_ne_true
 | byt i=>
  obtain ⟨t,rfl⟩:=rx
  cases y with
  | byt j=>obtain ⟨t',rfl⟩:=ry;exact PySem.W.ne_bytes (fin_bl I q (congrArg not dec_byt))
  | _=>exact absurd (show false=true from hs) Bool.false_ne_true
 | _=>cases y <;> exact absurd (show false=true from hs) Bool.false_ne_true
theorem op_lt:OpR X (compareOp .Lt) (rI0 fun i j => .bl (decide (i<j))):=opB0 fun _ _ _ _ _ _ _ q=>lt_int q
theorem op_gt:OpR X (compareOp .Gt) (rI0 fun i j => .bl (decide (j<i))):=opB0 fun _ _ _ _ _ _ _ q=>gt_int q
theorem op_ge:OpR X (compareOp .GtE) (rI0 fun i j => .bl (decide (j≤i))):=opB0 fun _ _ _ _ _ _ _ q=>ge_int q
theorem op_isN:OpR X (compareOp .Is) (fun x y H Q=>y = .non∧Q (.bl (decide (x = .non))) H):=by
 intro pins s σ H x y v u Q I rx ry h
 obtain ⟨rfl,q⟩:=h
 cases ry
 refine is_none_gen (fin_bl I q ?_)
 cases x <;> first
  | (cases rx;rfl)
  | (obtain ⟨t,rfl⟩:=rx;rfl)
theorem op_notN:OpR X (compareOp .IsNot) (fun x y H Q=>y = .non∧Q (.bl (!decide (x = .non))) H):=by
 intro pins s σ H x y v u Q I rx ry h
 obtain ⟨rfl,q⟩:=h
 cases ry
 refine isnot_none_gen (fin_bl I q ?_)
 cases x <;> first
  | (cases rx;rfl)
  | (obtain ⟨t,rfl⟩:=rx;rfl)
theorem OpR.or {f:Value→Value→Sem Value} {r r':R2} (h:OpR X f r) (h':OpR X f r'):OpR X f (fun x y H Q=>r x y H Q∨r' x y H Q):=by
 intro pins s σ H x y v u Q I rx ry q
 rcases q with q|q
 ·exact h s σ H x y v u Q I rx ry q
 ·exact h' s σ H x y v u Q I rx ry q
theorem nomark (b:Expr) {op:CmpOp} (h:op ≠ .In:=by decide) (h2:op ≠ .NotIn:=by decide):behindInMarks op b=false:=by
 have e1:(op == CmpOp.In)=false:=by cases op <;> first|rfl|exact absurd rfl h
 have e2:(op == CmpOp.NotIn)=false:=by cases op <;> first|rfl|exact absurd rfl h2
 cases b <;> simp [behindInMarks,e1,e2]
theorem pe_cmpR {op:CmpOp} {r:R2} (ho:OpR X (compareOp op) r) (ha:PE X a ta) (hb:PE X b tb) (hm:behindInMarks op b=false):PE X (.Compare a [op] [b] pos) (tOp r ta tb):=by
 intro pins s σ H Q I h
 exact wpAny_Compare1 (binT ha hb I h fun v u s2 x y H2 I2 rx ry q=>ho s2 σ H2 x y v u Q I2 rx ry q) hm
noncomputable def tTest (t:TE):TT:=fun σ H Q=>t σ H fun x H'=>∃k,x = .bl k∧Q k H'
theorem pt_cmpR {op:CmpOp} {r:R2} (ho:OpR X (compareOp op) r) (ha:PE X a ta) (hb:PE X b tb) (hm:behindInMarks op b=false):PT X (.Compare a [op] [b] pos) (tTest (tOp r ta tb)):=by
 intro pins s σ H Q I h
 refine wpAny_isTrue_Compare1 (thn (ha s σ H _ I h) fun v s1 hz_=>Elim.el hz_ _ fun x H1 I1 r1 q1=>thn (hb s1 σ H1 _ I1 q1) fun u s2 ⟨y,H2,I2,r2,q2⟩=>
  thn (ho s2 σ H2 x y v u _ I2 r1 r2 q2) fun c s3 ⟨z,H3,I3,r3,k,e,q3⟩ => ?_) hm
 subst e
 cases r3
 exact wpAny_truthy_bool ⟨H3,I3,q3⟩
noncomputable def TruV (K:PySem.W.Frag) (x:V) (H:Hp) (k:Bool):Prop:=
 match x with
 | .non=>k=false
 | .bl b=>k=b
 | .int i=>k=(i != 0)
 | .str y=>y.length≤sizeLine∧k=((y.length:Int) != 0)
 | .byt y=>y.size≤sizeLine∧k=((y.size:Int) != 0)
 | .ref p=>(∃xs,SqL K H p xs∧k = !xs.isEmpty)∨(∃xs,SqT K H p xs∧k = !xs.isEmpty)∨∃kvs,H p=some (.dK kvs)∧k = !kvs.isEmpty
 | _=>False
theorem isEmpty_kv {κ:Type} {kvs:List (κ×V)} {vs:List (κ×Value)} (r:KV kvs vs):(!vs.isEmpty) = !kvs.isEmpty:=by
 cases r <;> rfl
theorem isEmpty_of {xs:List V} {its:List Value} (r:Vals xs its):(!its.toArray.isEmpty) = !xs.isEmpty:=by
 cases r <;> simp
theorem line63:(sizeLine:Nat)<2 ^ 63:=by rw [sizeLine_eq];decide
theorem tru_ok:TruR X (fun x H Q=>∃k,TruV X.K x H k∧Q k H):=by
 intro pins s σ H x v Q I rx h
 obtain ⟨k,e,q⟩:=h
 have hl:=line63
 have hs:sizeLine=16777216:=sizeLine_eq
 cases x with
 | non=>
  cases rx
  have e':k=false:=e
  subst e'
  exact truthy_none ⟨H,I,q⟩
 | bl b=>
  cases rx
  have e':k=b:=e
  subst e'
  exact wpAny_truthy_bool ⟨H,I,q⟩
 | int i=>
  obtain ⟨t,rfl⟩:=rx
  have e':k=(i != 0):=e
  subst e'
  exact PySem.P.truthy_int ⟨H,I,q⟩
 | str y=>
  obtain ⟨t,rfl⟩:=rx
  obtain ⟨hy,e'⟩:y.length≤sizeLine∧k=((y.length:Int) != 0):=e
  subst e'
  exact PySem.P.truthy_str (by first|lia|omega) ⟨H,I.tok _,q⟩
 | byt y=>
  obtain ⟨t,rfl⟩:=rx
  obtain ⟨hy,e'⟩:y.size≤sizeLine∧k=((y.size:Int) != 0):=e
  subst e'
  exact PySem.W.truthy_bytes (by first|lia|omega) ⟨H,I.tok _,q⟩
 | ref p=>
  cases rx
  have e':(∃xs,SqL X.K H p xs∧k = !xs.isEmpty)∨(∃xs,SqT X.K H p xs∧k = !xs.isEmpty)∨∃kvs,H p=some (.dK kvs)∧k = !kvs.isEmpty:=e
  rcases e' with ⟨xs,hx,e'⟩|⟨xs,hx,e'⟩|⟨kvs,hx,e'⟩
  ·subst e'
   obtain ⟨its,r,pl,hz⟩:=I.list hx
   have hlen:=r.length
   exact wpAny_truthy_list pl.isList (by simp only [List.size_toArray]; (first|lia|omega)) ⟨H,I.tok _,by rw [isEmpty_of r];exact q⟩
  ·subst e'
   obtain ⟨its,r,pl,hz⟩:=I.tuple hx
   have hlen:=r.length
   exact truthy_tuple pl (by simp only [List.size_toArray]; (first|lia|omega)) ⟨H,I.tok _,by rw [isEmpty_of r];exact q⟩
  ·subst e'
   obtain ⟨hz,hS,vs,r,m⟩:kvs.length≤sizeLine∧(p == sysModules)=false∧∃vs,KV kvs vs∧s.heap.DictOf (mixKind X.prog X.w) p vs:=I.hok p _ hx
   have hlen:kvs.length=vs.length:=Paired.length r
   exact wpAny_truthy_dict hS m (by first|lia|omega) ⟨H,I.tok _,by rw [isEmpty_kv r];exact q⟩
 | _=>exact (show False from e).elim
theorem pt_truth (ha:PE X a ta) (he:∀whole,isTrue a X.env whole=(do let v ←whole;standAt a.pos;holding [v] (truthy v))) :
  PT X a (fun σ H Q=>ta σ H fun x H'=>∃k,TruV X.K x H' k∧Q k H'):=by
 intro pins s σ H Q I h
 exact isTrue_plain (thn (ha s σ H _ I h) fun v s1 hz_=>Elim.el hz_ _ fun x H1 I1 r1 q1=>tru_ok s1 σ H1 x v Q I1 r1 q1) (he _)
theorem op_add_str:OpR X (binaryOp .Add) (fun x y H Q=>∃i j,x = .str i∧y = .str j∧i.length+j.length≤sizeLine∧Q (.str (i++j)) H):=by
 intro pins s σ H x y v u Q I rx ry h
 obtain ⟨i,j,rfl,rfl,hz,q⟩:=h
 obtain ⟨t,rfl⟩:=rx
 obtain ⟨t',rfl⟩:=ry
 exact add_str (fun t' tk=>⟨.str (i++j),H,I.tok _,⟨_,rfl⟩,q⟩) hz
theorem vals1 {x:V} {us:List Value} (r:Vals [x] us):∃u,us=[u]∧RelV x u:=by
 cases r with
 | cons r1 r2=>cases r2;exact ⟨_,rfl,r1⟩
theorem vals2 {x y:V} {us:List Value} (r:Vals [x,y] us):∃u w',us=[u,w']∧RelV x u∧RelV y w':=by
 cases r with
 | cons r1 r2=>
  cases r2 with
  | cons r3 r4=>cases r4;exact ⟨_,_,rfl,r1,r3⟩
theorem call_min2 (hc:X.calm=true):CallR X (.builtin "min") (fun xs H Q=>∃i j,xs=[.int i, .int j]∧Q (.int (if j<i then j else i)) H):=by
 intro pins s σ H xs us Q I r h
 obtain ⟨i,j,rfl,q⟩:=h
 obtain ⟨u,w',rfl,⟨t,rfl⟩,⟨t',rfl⟩⟩:=vals2 r
 refine min_two_ints (I.ok.hd hc) fun h' tk k=>⟨_,H,I.kept k,?_,q⟩
 by_cases hj:j<i
 ·rw [if_pos hj,if_pos hj];exact ⟨_,rfl⟩
 ·rw [if_neg hj,if_neg hj];exact ⟨_,rfl⟩
theorem call_int1:CallR X (.type "int") (fun xs H Q=>(∃i,xs=[.int i]∧Q (.int i) H)∨∃k,xs=[.bl k]∧Q (.int (if k then 1 else 0)) H):=by
 intro pins s σ H xs us Q I r h
 rcases h with ⟨i,rfl,q⟩|⟨k,rfl,q⟩
 ·obtain ⟨u,rfl,t,rfl⟩:=vals1 r
  exact call_int_int ⟨.int i,H,I,⟨_,rfl⟩,q⟩
 ·obtain ⟨u,rfl,r1⟩:=vals1 r
  cases r1
  exact call_int_bool ⟨.int (if k then 1 else 0),H,I.tok _,⟨_,rfl⟩,q⟩
noncomputable def LenV (K:PySem.W.Frag) (x:V) (H:Hp) (n:Nat):Prop:=
 match x with
 | .str y=>y.length≤sizeLine∧n=y.length
 | .byt y=>y.size≤sizeLine∧n=y.size
 | .ref p=>(∃xs,SqL K H p xs∧n=xs.length)∨∃xs,SqT K H p xs∧n=xs.length
 | _=>False
theorem call_len:CallR X (.builtin "len") (fun xs H Q=>∃x n,xs=[x]∧LenV X.K x H n∧Q (.int n) H):=by
 intro pins s σ H xs us Q I r h
 obtain ⟨x,n,rfl,e,q⟩:=h
 obtain ⟨u,rfl,rx⟩:=vals1 r
 have hl:=line63
 have hs:sizeLine=16777216:=sizeLine_eq
 cases x with
 | str y=>
  obtain ⟨t,rfl⟩:=rx
  obtain ⟨hy,e'⟩:y.length≤sizeLine∧n=y.length:=e
  subst e'
  exact len_str (by first|lia|omega) ⟨.int _,H,I.tok _,⟨_,rfl⟩,q⟩
 | byt y=>
  obtain ⟨t,rfl⟩:=rx
  obtain ⟨hy,e'⟩:y.size≤sizeLine∧n=y.size:=e
  subst e'
  exact PySem.W.len_bytes (by first|lia|omega) ⟨.int _,H,I.tok _,⟨_,rfl⟩,q⟩
 | ref p=>
  cases rx
  have e':(∃xs,SqL X.K H p xs∧n=xs.length)∨∃xs,SqT X.K H p xs∧n=xs.length:=e
  rcases e' with ⟨xs,hx,e'⟩|⟨xs,hx,e'⟩
  ·subst e'
   obtain ⟨its,r',pl,hz⟩:=I.list hx
   have hlen:=r'.length
   exact Calls.call_len_list pl.isList (by simp only [List.size_toArray]; (first|lia|omega)) ⟨.int xs.length,H,I.tok _,⟨_,by simp only [List.size_toArray];rw [hlen]⟩,q⟩
  ·subst e'
   obtain ⟨its,r',pl,hz⟩:=I.tuple hx
   have hlen:=r'.length
   exact len_tuple pl (by simp only [List.size_toArray]; (first|lia|omega)) ⟨.int xs.length,H,I.tok _,⟨_,by simp only [List.size_toArray];rw [hlen]⟩,q⟩
 | _=>exact (show False from e).elim
theorem call_divmod:CallR X (.builtin "divmod") (fun xs H Q=>∃i j,xs=[.int i, .int j]∧CDiv i j∧∀p,H p=none→Q (.ref p) (upd H p (.tup [.int (i / j), .int (i % j)]))):=by
 intro pins s σ H xs us Q I r h
 obtain ⟨i,j,rfl,⟨h1,h2⟩,q⟩:=h
 obtain ⟨u,w',rfl,⟨t,rfl⟩,⟨t',rfl⟩⟩:=vals2 r
 refine divmod_int (by first|lia|omega) ?_ (.inl (PyProof.noPylong_small (by first|lia|omega)))
 rw [Int.fdiv_eq_ediv_of_nonneg i (by first|lia|omega),Int.fmod_eq_emod_of_nonneg i (by first|lia|omega)]
 have hn:H s.heap.objs.size=none:=I.hok.fresh (Nat.le_refl _)
 refine ⟨.ref s.heap.objs.size,_,?_,rfl,q _ hn⟩
 refine I.laid (fun b o e=>Heap.get?_push_of_some _ e) (Nat.le_refl _) ⟨by simp only [List.length_cons,List.length_nil];rw [sizeLine_eq];decide,[.int (i / j) s.toks, .int (i % j) (s.toks+1)], .cons ⟨_,rfl⟩ (.cons ⟨_,rfl⟩ .nil),?_⟩
 exact ⟨_,Heap.get?_push_size s.heap rfl,rfl,0,rfl⟩
end
end L2
namespace L2
open PySem PySem.Spec PyProof.Rows
structure ObjM (h:Heap) (x dx C:Addr) (mA:Str→Option Value):Prop where
 obj:h.get? x=some (PySem.W.instObj C dx)
 ns:h.Ns1 dx mA
 ne:dx≠x
theorem lookIn_ns {h:Heap} {dx:Addr} {mA:Str→Option Value} (n:h.Ns1 dx mA):∃od,h.get? dx=some od∧∀name,PySem.W.lookIn name od=some (mA name):=by
 obtain ⟨o,es,ep,ho,hd,hk,_,hm⟩:=n
 refine ⟨o,ho,fun name => ?_⟩
 have e:=hm name
 unfold nsFind findBy at e
 rw [←Array.find?_toList] at e
 unfold PySem.W.lookIn
 rw [hd]
 dsimp only
 split
 ·rename_i y q
  rw [q] at e
  exact congrArg some e
 ·rename_i q
  rw [q] at e
  have a:es.toList.any (·.refKey)=false:=by
   rw [List.any_eq_false]
   intro y hy
   obtain ⟨z,t,hkey⟩:=hk y (Array.mem_toList_iff.mp hy)
   simp [DictEntry.refKey,hkey]
  have a':¬es.toList.any (·.refKey)=true:=by rw [a];exact Bool.false_ne_true
  rw [if_neg a']
  exact congrArg some e
theorem ObjM.look {h:Heap} {x dx C:Addr} {mA:Str→Option Value} (I:ObjM h x dx C mA):∃od,PySem.W.InstAt h x (PySem.W.instObj C dx) C (some od)∧∀name,PySem.W.lookIn name od=some (mA name):=
 let ⟨od,ho,hl⟩:=lookIn_ns I.ns
 ⟨od,⟨I.obj,rfl,rfl,ho⟩,hl⟩
section
variable {prog:Program} {w:World} {A:Around} {E:Value→Shared→Prop} {s:Shared} {K:PySem.W.Frag} {x dx C f:Addr} {mA:Str→Option Value} {name:Str} {v:Value}
end
theorem RelO.some_of {v:V} {o:Option Value} (r:RelO (some v) o):∃u,o=some u∧RelV v u:=by
 cases o with
 | none=>exact (show False from r).elim
 | some u=>exact ⟨u,rfl,r⟩
section
variable {P:Program} {w:World} {H H':Hp} {h h':Heap} {a C dx:Addr} {fs fs':List (Str×V)}
theorem ins_get (hok:HOk P w H h) (e:H a=some (.ins C dx fs)):∃mA,ObjM h a dx C mA∧(∀f,RelO (fs.lookup f) (mA f))∧PySem.Within mA (fs.map (·.1))∧fs.length≤1000∧H dx=some (.own a):=by
 obtain ⟨d,z,ne,ob,mA,n,r,q⟩:=(show ObjOk P w H h a (.ins C dx fs) from hok a _ e)
 exact ⟨mA,⟨ob,n,ne⟩,r,q,z,d⟩
end
structure Cls (K:PySem.W.Frag) (C:Addr):Prop where
 pg:PySem.W.plainGet K C Str.empty=true
 hd:PySem.W.hasDictIn K C=true
 po:PySem.W.plainOver K C=true
 sa:PySem.W.findIn K (.ref C) "__setattr__" = some (some (.builtin "object.__setattr__"))
theorem Cls.get {K:PySem.W.Frag} {C:Addr} (c:Cls K C) (f:Str):PySem.W.plainGet K C f=true:=c.pg
section
variable {X:Cx} {pins:List (Addr×Obj)} {σ:St} {H:Hp} {s:Shared} {a C dx:Addr} {fs:List (Str×V)} {f:Str} {v:V} {A:Around} {E:Value→Shared→Prop}
end
section
variable {X:Cx} {o e value:Expr} {f:Str} {pos pos' tpos:Pos} {ta tv:TE}
end
section
variable {X:Cx} {pins:List (Addr×Obj)} {σ:St} {H:Hp} {s:Shared} {A:Around} {E:Value→Shared→Prop} {Q:Value→Shared→Prop} {c:Value} {b:Bool}
inductive TyOf (K:PySem.W.Frag) (H:Hp):V→Value→Prop where
 | non:TyOf K H .non (.type "NoneType")
 | bl (x:Bool):TyOf K H (.bl x) (.type "bool")
 | int (i:Int):TyOf K H (.int i) (.type "int")
 | str (x:Str):TyOf K H (.str x) (.type "str")
 | flt (x:UInt64):TyOf K H (.flt x) (.type "float")
 | lst {a:Addr} {xs:List V} (e:H a=some (.lst xs)):TyOf K H (.ref a) (.type "list")
 | frz {a:Addr} {o:Obj} {xs:List V} (e:H a=some (.frz o (.lst xs))):TyOf K H (.ref a) (.type "list")
 | tup {a:Addr} {xs:List V} (e:H a=some (.tup xs)):TyOf K H (.ref a) (.type "tuple")
 | dK {a:Addr} {kvs:List (Key×V)} (e:H a=some (.dK kvs)):TyOf K H (.ref a) (.type "dict")
 | dT {a:Addr} {kvs:List (List Key×V)} (e:H a=some (.dT kvs)):TyOf K H (.ref a) (.type "dict")
 | ins {a C dx:Addr} {fs:List (Str×V)} (e:H a=some (.ins C dx fs)) (cl:Cls K C) (ha:PySem.W.findIn K (.ref C) "__class__" = some (some (.builtin "object.__class__")))
   (hn:PySem.W.specialIn K (.builtin "object.__class__") "__get__" = some (some (.builtin "getset_descriptor.__get__"))) (htk:PySem.W.takesIn K (.builtin "object.__class__")=some true)
   (hm:PySem.W.mroIn K C (.type "object")=some true):TyOf K H (.ref a) (.ref C)
theorem isinst_ok {x:V} {u t:Value} (I:Inv X pins σ H s) (rx:RelV x u) (ty:TyOf X.K H x t) (e:PySem.W.kitOne X.K t c=some b) (h:∀tk,Q (.bool b) { s with toks:=tk }) :
  wpAny (model X.prog X.w) A (call (.builtin "isinstance") [u,c]) Q E s:=by
 cases ty with
 | non=>cases (show u=Value.none from rx);exact PySem.W.kia_one PySem.W.kitx_none I.kIn True.intro e (fun z=>nomatch z) h
 | bl y=>cases (show u=Value.bool y from rx);exact PySem.W.kia_one PySem.W.kitx_bool I.kIn True.intro e (fun z=>nomatch z) h
 | int i=>obtain ⟨t,q⟩:=(show ∃t,u=Value.int i t from rx);cases q;exact PySem.W.kia_one PySem.W.kitx_int I.kIn True.intro e (fun z=>nomatch z) h
 | str y=>obtain ⟨t,q⟩:=(show ∃t,u=Value.str y t from rx);cases q;exact PySem.W.kia_one PySem.W.kitx_str I.kIn True.intro e (fun z=>nomatch z) h
 | flt y=>obtain ⟨t,q⟩:=(show ∃t,u=Value.float y t from rx);cases q;exact PySem.W.kia_one PySem.W.kitx_float I.kIn True.intro e (fun z=>nomatch z) h
 | @lst a xs ea=>
  cases (show u=Value.ref a from rx)
  obtain ⟨_,_,n,_,h1⟩:=(show ObjOk X.prog X.w H s.heap a (.lst xs) from I.hok a _ ea)
  exact PySem.W.kia_one PySem.W.kitx_list I.kIn ⟨_,h1,rfl⟩ e (fun z=>nomatch z) h
 | @frz a ob xs ea=>
  cases (show u=Value.ref a from rx)
  obtain ⟨_,_,_,n,_,h1⟩:=(show ObjOk X.prog X.w H s.heap a (.frz ob (.lst xs)) from I.hok a _ ea)
  exact PySem.W.kia_one PySem.W.kitx_list I.kIn ⟨_,h1,rfl⟩ e (fun z=>nomatch z) h
 | @tup a xs ea=>
  cases (show u=Value.ref a from rx)
  obtain ⟨_,_,_,p⟩:=(show ObjOk X.prog X.w H s.heap a (.tup xs) from I.hok a _ ea)
  obtain ⟨o,h1,h2,_⟩:=p
  exact PySem.W.kia_one PySem.W.kitx_tuple I.kIn ⟨o,h1,h2⟩ e (fun z=>nomatch z) h
 | @dK a kvs ea=>
  cases (show u=Value.ref a from rx)
  obtain ⟨_,_,vs,_,p⟩:=(show ObjOk X.prog X.w H s.heap a (.dK kvs) from I.hok a _ ea)
  obtain ⟨o,es,ep,h1,h2,_⟩:=p
  exact PySem.W.kia_one PySem.W.kitx_dict I.kIn ⟨o,h1,h2.1⟩ e (fun z=>nomatch z) h
 | @dT a kvs ea=>
  cases (show u=Value.ref a from rx)
  obtain ⟨_,_,xs,_,o,es,ep,h1,h2,_⟩:=(show ObjOk X.prog X.w H s.heap a (.dT kvs) from I.hok a _ ea)
  exact PySem.W.kia_one PySem.W.kitx_dict I.kIn ⟨o,h1,h2.1⟩ e (fun z=>nomatch z) h
 | @ins a C dx fs ea cl ha hn htk hm=>
  cases (show u=Value.ref a from rx)
  obtain ⟨mA,O,_⟩:=ins_get I.hok ea
  obtain ⟨od,J,_⟩:=O.look
  exact PySem.W.kia_one (PySem.W.kitx_own (cl.get _) cl.hd ha hn htk hm) I.kIn J e (fun z=>nomatch z) h
end
end L2
namespace L2
open PySem PySem.Spec PyProof.Rows
structure Room (k:Nat) (A:Around):Prop where
 hd:A.handled=none
 dp:A.depth+3*k+5<recursionLimit
 un:A.units+16*k+200<cLine
 gd:A.guards=some []
theorem Room.mono {j k:Nat} {A:Around} (r:Room k A) (h:j≤k):Room j A:=⟨r.hd,by have:=r.dp; (first|lia|omega),by have:=r.un; (first|lia|omega),r.gd⟩
theorem Room.deeper {k:Nat} {A:Around} (r:Room (k+1) A) (env:Env):Room k (A.deeper env):=
 ⟨r.hd,by have:=r.dp;show A.depth+1+3*k+5<_; (first|lia|omega),by have:=r.un;show A.units+3+16*k+200<_; (first|lia|omega),r.gd⟩
theorem Room.in1 {k:Nat} {A:Around} (r:Room (k+1) A):Room k A.in1:=
 ⟨r.hd,by have:=r.dp;show A.depth+3*k+5<_; (first|lia|omega),by have:=r.un;show A.units+1+16*k+200<_; (first|lia|omega),r.gd⟩
theorem Room.depth {k:Nat} {A:Around} (r:Room k A):A.depth<recursionLimit:=by have:=r.dp; (first|lia|omega)
theorem Room.units {k:Nat} {A:Around} (r:Room k A):A.units+64<cLine:=by have:=r.un; (first|lia|omega)
noncomputable def tNil:TA:=fun _ H Q=>Q [] H
noncomputable def tCons (ta:TE) (tr:TA):TA:=fun σ H Q=>ta σ H fun x H1=>tr σ H1 fun xs H2=>Q (x :: xs) H2
section
variable {X:Cx} {e:Expr} {es:List Expr} {te:TE} {t:TA} {pos:Pos}
theorem pa_nil:PA X [] tNil:=fun _ _ _ _ H Q I h=>Calls.spliced_nil ⟨[],H,I, .nil,h⟩
theorem pa_cons (ha:PE X e te) (hr:PA X es t) (hs:starEach (e :: es) X.env=(false,eval e X.env) :: starEach es X.env:=by rfl):PA X (e :: es) (tCons te t):=by
 intro pos pins s σ H Q I h
 rw [hs]
 show wpAny _ _ (spliced ((false,eval e X.env) :: backTo pos (starEach es X.env))) _ _ s
 refine Calls.spliced_cons (thn (ha s σ H _ I h) fun u s1 hz_ => ?_)
 refine Elim.el hz_ _ ?_
 clear hz_
 rintro x H1 I1 r1 q1
 exact thn (hr s1 σ H1 _ I1 q1) fun us s2 hz_=>Elim.el hz_ _ fun xs H2 I2 r2 q2=>⟨x :: xs,H2,I2, .cons r1 r2,q2⟩
noncomputable def tTup (t:TA):TE:=fun σ H Q=>t σ H fun xs H1=>xs.length≤sizeLine∧∀p,H1 p=none→Q (.ref p) (upd H1 p (.tup xs))
noncomputable def tLst (t:TA):TE:=fun σ H Q=>t σ H fun xs H1=>xs.length≤sizeLine∧∀p,H1 p=none→Q (.ref p) (upd H1 p (.lst xs))
theorem pe_tup {x1} (h:PA X es t):PE X (.Tuple es x1 pos) (tTup t):=by
 intro pins s σ H Q I hq
 refine wpAny_Tuple_spliced (thn (h s σ H _ I hq) fun us s1 ⟨xs,H1,I1,r,z,q⟩=>⟨by rw [←r.length];exact z,?_⟩)
 have hf:H1 s1.heap.objs.size=none:=I1.hok.fresh (Nat.le_refl _)
 refine ⟨.ref s1.heap.objs.size,upd H1 s1.heap.objs.size (.tup xs),I1.laid (t':=s1.toks) (fun b u e=>Heap.get?_push_of_some _ e) (Nat.le_refl _) ?_,rfl,q _ hf⟩
 exact ⟨z,us,r,⟨_,Heap.get?_push_size _ rfl,rfl,_,rfl⟩⟩
theorem pe_lst (h:PA X es t):PE X (.List es pos) (tLst t):=by
 intro pins s σ H Q I hq
 refine wpAny_List_spliced (thn (h s σ H _ I hq) fun us s1 ⟨xs,H1,I1,r,z,q⟩=>⟨by rw [←r.length];exact z,?_⟩)
 have hf:H1 s1.heap.objs.size=none:=I1.hok.fresh (Nat.le_refl _)
 refine ⟨.ref s1.heap.objs.size,upd H1 s1.heap.objs.size (.lst xs),I1.laid (t':=s1.toks) (fun b u e=>Heap.get?_push_of_some _ e) (Nat.le_refl _) ?_,rfl,q _ hf⟩
 exact ⟨z,us,0,r,Heap.get?_push_size _ rfl⟩
end
noncomputable abbrev Sp:=List V→Hp→VK→XK→Prop
noncomputable abbrev CXT:=List Env→Hp→Shared→XK→Value→Shared→Prop
structure Env0 (P:Program) (w:World) (K:PySem.W.Frag) (mg:Str→Option Value) (base:Heap) (A:Around) (outer:List Env) (s:Shared) (H:Hp):Prop where
 frames:A.frames=some outer
 mod:Mod K mg base
 bs:∀b o,base.get? b=some o→s.heap.get? b=some o∧H b=none
 bsz:base.objs.size≤s.heap.objs.size
 funs:s.heap.FunFrames base outer
 frf:∀b∈frs outer,H b=none
 hok:HOk P w H s.heap
 bare:AllBare s.gens
noncomputable def CE (outer:List Env) (P:Program) (w:World) (H:Hp) (s:Shared) (Q:VK) (u:Value) (s':Shared):Prop:=
 Ex2 fun v H'=>s'.os=s.os∧AllBare s'.gens∧Un (frs outer) [] H H' s.heap s'.heap∧HOk P w H' s'.heap∧RelV v u∧Q v H'
noncomputable def CR (CX:CXT) (outer:List Env) (P:Program) (w:World) (H:Hp) (s:Shared) (Q:VK) (E:XK) (r:Result) (s':Shared):Prop:=
 match r with
 | .ok (.ret u)=>CE outer P w H s Q u s'
 | .ok _=>False
 | .error e=>CX outer H s E e s'
structure FnOk (P:Program) (w:World) (K:PySem.W.Frag) (mg:Str→Option Value) (base:Heap) (CX:CXT) (k:Nat) (f:Addr) (fd:FuncData) (ps:List Str) (sp:Sp):Prop where
 len:∀vs H Q E,sp vs H Q E→vs.length=ps.length
 run:∀(A:Around) (outer:List Env) (s:Shared) (H:Hp) (args:Args) (us:List Value) (vs:List V) (Q:VK) (E:XK),Room k A→Env0 P w K mg base A outer s H→BindsTo s fd args (ps.zip us)→Vals vs us→sp vs H Q E →
  codeAny (model P w) A (.call (.ref f) args) (CR CX outer P w H s Q E) s
theorem FnOk.mono {P:Program} {w:World} {K:PySem.W.Frag} {mg:Str→Option Value} {base:Heap} {CX:CXT} {j k:Nat} {f:Addr} {fd:FuncData} {ps:List Str} {sp:Sp} (F:FnOk P w K mg base CX j f fd ps sp) (h:j≤k) :
  FnOk P w K mg base CX k f fd ps sp:=⟨F.len,fun A outer s H args us vs Q E hr=>F.run A outer s H args us vs Q E (hr.mono h)⟩
theorem FnOk.imp {P:Program} {w:World} {K:PySem.W.Frag} {mg:Str→Option Value} {base:Heap} {CX:CXT} {k:Nat} {f:Addr} {fd:FuncData} {ps:List Str} {sp sp':Sp} (F:FnOk P w K mg base CX k f fd ps sp)
  (h:∀vs H Q E,sp' vs H Q E→sp vs H Q E):FnOk P w K mg base CX k f fd ps sp':=
 ⟨fun vs H Q E q=>F.len vs H Q E (h _ _ _ _ q),fun A outer s H args us vs Q E hr he hb hv hs=>F.run A outer s H args us vs Q E hr he hb hv (h _ _ _ _ hs)⟩
theorem Env0.in1 {P:Program} {w:World} {K:PySem.W.Frag} {mg:Str→Option Value} {base:Heap} {A:Around} {outer:List Env} {s:Shared} {H:Hp} (e:Env0 P w K mg base A outer s H) :
  Env0 P w K mg base A.in1 outer s H:=⟨e.frames,e.mod,e.bs,e.bsz,e.funs,e.frf,e.hok,e.bare⟩
section
variable {X:Cx} {pins:List (Addr×Obj)} {σ:St} {H:Hp} {s s':Shared}
theorem Inv.env0 (I:Inv X pins σ H s):Env0 X.prog X.w X.K X.mg X.base X.A X.stack s H:=
 ⟨I.ok.frames,I.ok.mod,I.bs,Nat.le_trans I.ok.bsz I.sz,I.stack,I.stkFree,I.hok,I.bare⟩
theorem Inv.after {Q:VK} {u:Value} (I:Inv X pins σ H s) (h:CE X.stack X.prog X.w H s Q u s'):EP X pins σ Q u s':=by
 obtain ⟨v,H',os,bare,un,hok,r,q⟩:=h
 obtain ⟨hh,g,d,t,os'⟩:=s'
 obtain rfl:os'=s.os:=os
 exact ⟨v,H',I.call (h':=hh) (g':=g) (d':=d) (t':=t) (ch:=[]) un hok bare (fun b z=>absurd z (by simp)),r,q⟩
end
noncomputable def tCall (sp:Sp) (dvs:List V) (E:XK) (t:TA):TE:=fun σ H Q=>t σ H fun vs H1=>sp (vs++dvs) H1 Q E
noncomputable def Binds (K:PySem.W.Frag) (fd:FuncData) (ps:List Str) (ds:List Value):Prop:=
 ∀(s:Shared) (us:List Value),K.In s.heap→(us++ds).length=ps.length→BindsTo s fd ⟨us,[]⟩ (ps.zip (us++ds))
theorem Binds.all {K:PySem.W.Frag} {fd:FuncData} {ps:List Str} (h:∀us:List Value,us.length=ps.length→bindArgs fd ⟨us,[]⟩=pure (ps.zip us)):Binds K fd ps []:=fun s us _ hl=>by
 rw [List.append_nil] at hl ⊢
 exact .of_eq (h us hl)
noncomputable def Passes (CX:CXT) (X:Cx) (E:XK):Prop:=∀(pins:List (Addr×Obj)) (σ:St) (H:Hp) (s:Shared) (e:Value) (s':Shared),Inv X pins σ H s→CX X.stack H s E e s'→X.xe e s'
section
variable {X:Cx} {CX:CXT} {k:Nat} {f C:Addr} {fd:FuncData} {ps:List Str} {sp:Sp} {dvs:List V} {ds:List Value} {E:XK} {x m:Str} {p pos apos:Pos} {e o:Expr} {es:List Expr} {ta:TE} {t:TA}
theorem run_fn {pins:List (Addr×Obj)} {σ:St} {H:Hp} {s:Shared} {Q:VK} {us:List Value} {vs:List V} (F:FnOk X.prog X.w X.K X.mg X.base CX k f fd ps sp) (hr:Room k X.A) (hb:Binds X.K fd ps ds) (hd:Vals dvs ds) (hx:Passes CX X E)
  (I:Inv X pins σ H s) (r:Vals vs us) (h:sp (vs++dvs) H Q E):wpAny (model X.prog X.w) X.A (call (.ref f) us) (EP X pins σ Q) X.xe s:=by
 have r2:Vals (vs++dvs) (us++ds):=r.append hd
 have hl:(us++ds).length=ps.length:=by rw [←r2.length];exact F.len _ _ _ _ h
 refine wpAny_call (codeAny_mono (F.run X.A X.stack s H ⟨us,[]⟩ (us++ds) (vs++dvs) Q E hr I.env0 (hb s us I.kIn hl) r2 h) fun r s' hq => ?_)
 cases r with
 | error e=>exact hx pins σ H s e s' I hq
 | ok fl=>
  cases fl with
  | ret u=>exact I.after hq
  | next=>exact False.elim hq
  | brk=>exact False.elim hq
  | cont=>exact False.elim hq
theorem pe_call (F:FnOk X.prog X.w X.K X.mg X.base CX k f fd ps sp) (hr:Room k X.A) (hg:Gl X x) (hm:X.mg x=some (.ref f)) (hk:PySem.W.keepIn X.K (.ref f)=true) (hb:Binds X.K fd ps ds) (hd:Vals dvs ds) (hx:Passes CX X E)
  (ha:PA X (e :: es) t) (hdb:(x == ("__debug__" : Str))=false:=by decide) (he:starEach (e :: es) X.env=(false,eval e X.env) :: starEach es X.env:=by rfl) (hpl:(backTo pos (starEach es X.env)).any (·.1)=false:=by rfl) :
  PE X (.Call (.Name x p) (e :: es) [] pos) (tCall sp dvs E t):=by
 intro pins s σ H Q I h
 refine wpAny_Call_Name_kw (ld_glob I hg hm ?_ hdb)
 refine PySem.W.callWith_K (h₀:=X.base) I.ok.mod.kin hk (thn (ha s σ H _ I h) fun us s1 hz_=>Elim.el hz_ _ fun vs H1 I1 r q=>⟨I1.kIn,?_⟩) he hpl
 exact run_fn F hr hb hd hx I1 r q
end
noncomputable def PK (X:Cx) (kws:List Keyword) (t:TA):Prop:=
 ∀ ⦃pos:Pos⦄ ⦃pins:List (Addr×Obj)⦄ (s:Shared) (σ:St) (H:Hp) (Q:List V→Hp→Prop),Inv X pins σ H s→t σ H Q→wpAny (model X.prog X.w) X.A (evalAll ((backToKw pos (keywordEach kws X.env)).map (·.2))) (AP X pins σ Q) X.xe s
section
variable {X:Cx} {CX:CXT} {k:Nat} {f C:Addr} {fd:FuncData} {ps ks:List Str} {sp:Sp} {E:XK} {x m:Str} {p pos apos kpos:Pos} {e o:Expr} {es:List Expr} {kws:List Keyword} {te ta:TE} {t tk:TA} {nm:Option Str}
theorem pk_nil:PK X [] tNil:=fun _ _ _ _ H Q I h=>wpAny_evalAll_nil ⟨[],H,I, .nil,h⟩
theorem pk_cons (ha:PE X e te) (hr:PK X kws t):PK X (⟨nm,e,kpos⟩ :: kws) (tCons te t):=by
 intro pos pins s σ H Q I h
 show wpAny _ _ (evalAll ((do let v ←eval e X.env;standAt pos;pure v) :: (backToKw pos (keywordEach kws X.env)).map (·.2))) _ _ s
 refine wpAny_evalAll_cons (wpAny_bind (thn (ha s σ H _ I h) fun u s1 hz_=>Elim.el hz_ _ fun x H1 I1 r1 q1=>wpAny_bind (wpAny_standAt (wpAny_pure ?_))))
 exact thn (hr s1 σ H1 _ I1 q1) fun us s2 hz_=>Elim.el hz_ _ fun xs H2 I2 r2 q2=>⟨x :: xs,H2,I2, .cons r1 r2,q2⟩
variable {g:List Value→List Value→List Value} {gV:List V→List V→List V}
end
structure FnScope (N P:List Str) (sc:Scope):Prop where
 kind:sc.kind = .function
 co:sc.isCoroutine=false
 gen:sc.isGenerator=false
 nd:N.Nodup
 pre:N.take P.length=P
 par:∀x∈P,sc.names.lookup x=some .local∨sc.names.lookup x=some .cell
 nofree:∀y∈sc.names,y.2 ≠ .free
theorem bindL_out {kindOf:Str→Option NameKind} {x:Str} : ∀{binds:List (Str×Value)} {m:Str→Option Value},(∀v,(x,v) ∉ binds)→bindL kindOf binds m x=m x
 | [],_,_=>rfl
 | (n,v) :: r,m,h=>by
  unfold bindL
  rw [bindL_out fun w hw=>h w (List.mem_cons_of_mem _ hw)]
  split
  ·have:x≠n:=by rintro rfl;exact h v List.mem_cons_self
   simp [this]
  ·rfl
theorem bindC_out {kindOf:Str→Option NameKind} {x:Str} : ∀{binds:List (Str×Value)} {m:Str→Option Value},(∀v,(x,v) ∉ binds)→bindC kindOf binds m x=m x
 | [],_,_=>rfl
 | (n,v) :: r,m,h=>by
  unfold bindC
  rw [bindC_out fun w hw=>h w (List.mem_cons_of_mem _ hw)]
  split
  ·rfl
  ·have:x≠n:=by rintro rfl;exact h v List.mem_cons_self
   simp [this]
theorem bindL_get {kindOf:Str→Option NameKind} {x:Str} {v:Value} : ∀{P:List Str} {vs:List Value} {i:Nat} {m:Str→Option Value},P.Nodup→P[i]? = some x→vs[i]? = some v→kindOf x=some .local →
  bindL kindOf (P.zip vs) m x=some v
 | [],_,_,_,_,h,_,_=>by simp at h
 | _ :: _,[],_,_,_,_,h,_=>by simp at h
 | p :: P,w :: vs,0,m,nd,h1,h2,hk=>by
  simp at h1 h2;subst h1;subst h2
  show bindL kindOf ((p,w) :: P.zip vs) m p=_
  unfold bindL
  rw [bindL_out fun v hv=>(List.nodup_cons.mp nd).1 (List.of_mem_zip hv).1,if_pos hk]
  simp
 | p :: P,w :: vs,i+1,m,nd,h1,h2,hk=>by
  show bindL kindOf ((p,w) :: P.zip vs) m x=_
  unfold bindL
  exact bindL_get (i:=i) (List.nodup_cons.mp nd).2 (by simpa using h1) (by simpa using h2) hk
theorem bindC_get {kindOf:Str→Option NameKind} {x:Str} {v:Value} : ∀{P:List Str} {vs:List Value} {i:Nat} {m:Str→Option Value},P.Nodup→P[i]? = some x→vs[i]? = some v→kindOf x≠some .local →
  bindC kindOf (P.zip vs) m x=some v
 | [],_,_,_,_,h,_,_=>by simp at h
 | _ :: _,[],_,_,_,_,h,_=>by simp at h
 | p :: P,w :: vs,0,m,nd,h1,h2,hk=>by
  simp at h1 h2;subst h1;subst h2
  show bindC kindOf ((p,w) :: P.zip vs) m p=_
  unfold bindC
  rw [bindC_out fun v hv=>(List.nodup_cons.mp nd).1 (List.of_mem_zip hv).1,if_neg hk]
  simp
 | p :: P,w :: vs,i+1,m,nd,h1,h2,hk=>by
  show bindC kindOf ((p,w) :: P.zip vs) m x=_
  unfold bindC
  exact bindC_get (i:=i) (List.nodup_cons.mp nd).2 (by simpa using h1) (by simpa using h2) hk
noncomputable def start (N:List Str) (vs:List V):St:=vs.map some++List.replicate (N.length-vs.length) none
noncomputable def cxOf (CX:CXT) (P:Program) (w:World) (K:PySem.W.Frag) (mg:Str→Option Value) (base:Heap) (N:List Str) (qual:Str) (scope:Scope) (f:Addr) (cd:Value) (A:Around) (outer:List Env) (s:Shared) (H:Hp) (E:XK):Cx where
 prog:=P
 w:=w
 K:=K
 mg:=mg
 base:=base
 A:=A.deeper (envOfC qual scope s.heap.objs.size f cd)
 N:=N
 s₀:=s
 H₀:=H
 env:=envOfC qual scope s.heap.objs.size f cd
 outer:=outer
 stack:=envOfC qual scope s.heap.objs.size f cd :: outer
 ex:=[]
 calm:=true
 fn:=fun _=>true
 pn:=[]
 xe:=fun e s'=>wpAny (model P w) (A.deeper (envOfC qual scope s.heap.objs.size f cd)) (leaving (envOfC qual scope s.heap.objs.size f cd) e) (fun _ s''=>CX outer H s E e s'') (fun e' s''=>CX outer H s E e' s'') s'
theorem cell_has {sc:Scope} {n:Nat} {x:Str} (h:sc.names.lookup x=some .cell):∃c,(cellsFrom n sc.names []).lookup x=some c:=by
 have q:=PySem.W.cellsFrom_some sc.names n [] (.inl h)
 exact Option.isSome_iff_exists.mp q
theorem inv_start {CX:CXT} {P:Program} {w:World} {K:PySem.W.Frag} {mg:Str→Option Value} {base:Heap} {N ps:List Str} {qual:Str} {scope:Scope} {f:Addr} {cd:Value} {A:Around} {outer:List Env} {s s1:Shared} {H:Hp} {E:XK} {us:List Value} {vs:List V}
  (S:FnScope N ps scope) (hd:A.handled=none) (e0:Env0 P w K mg base A outer s H) (hl:vs.length=ps.length) (r:Vals vs us)
  (x:InCallC s s.heap.objs.size (bindL (envOfC qual scope s.heap.objs.size f cd).kindOf (ps.zip us) fun _=>none) (cellsFrom (s.heap.objs.size+1) scope.names []) (bindC (envOfC qual scope s.heap.objs.size f cd).kindOf (ps.zip us) fun _=>none) s1) :
  Inv (cxOf CX P w K mg base N qual scope f cd A outer s H E) [] (start N vs) H s1:=by
 have hpl:ps.length≤N.length:=by have:=congrArg List.length S.pre;rw [List.length_take] at this; (first|lia|omega)
 obtain ⟨h1,tk,rfl,hk⟩:=x.done
 have noA:∀b:Addr,b ∉ (cxOf CX P w K mg base N qual scope f cd A outer s H E).ex:=fun b z=>absurd (show b∈([]:List Addr) from z) (by simp)
 refine ⟨⟨e0.mod,S.kind,rfl,rfl,Nat.le_refl _,fun y z c h1 h2 => ?_,fun y hy => ?_,fun y c _ h => ?_,fun _=>hd,Around.frames_deeper e0.frames, .inr ⟨rfl,rfl⟩,fun b z=>absurd z (noA b),e0.bs,e0.bsz,fun b _ _=>noA b,fun b z=>absurd z (noA b),e0.funs,e0.frf⟩,
  rfl,e0.bare,Un.kept hk,⟨_,x.toInCall.ns,fun i y v h1 h2 h3 => ?_⟩,fun y c h=>⟨_,x.cell y c h⟩,e0.hok.fresh (Nat.le_refl _),fun y c h => ?_,fun p hp=>absurd (show p∈([]:List (Addr×Obj)) from hp) (by simp),e0.hok.kept hk,?_⟩
 ·exact name_of_addr x.apart (PySem.mem_of_lookup h1) (PySem.mem_of_lookup h2)
 ·have hy:scope.names.lookup y=some .cell∨scope.names.lookup y=some .free:=hy
  rcases hy with hy|hy
  ·exact cell_has hy
  ·exact absurd rfl (S.nofree _ (PySem.mem_of_lookup hy))
 ·exact Nat.le_of_lt (x.above y c (PySem.mem_of_lookup h))
 ·have hi:i<vs.length:=by
   unfold start at h2
   by_cases hi:i<vs.length
   ·exact hi
   ·rw [List.getElem?_append_right (by simpa using hi)] at h2
    rw [List.getElem?_replicate] at h2
    split at h2 <;> cases h2
  have ha:vs[i]? = some v:=by
   unfold start at h2
   rw [List.getElem?_append_left (by simpa using hi),List.getElem?_map] at h2
   cases e:vs[i]? with
   | none=>rw [e] at h2;cases h2
   | some a=>rw [e] at h2;cases h2;rfl
  obtain ⟨u,hu,rv⟩:=r.get ha
  have hp:ps[i]? = some y:=by
   rw [←S.pre,List.getElem?_take_of_lt (by first|lia|omega)];exact h1
  have ndP:ps.Nodup:=by rw [←S.pre];exact S.nd.sublist (List.take_sublist _ _)
  refine ⟨u,rv,?_⟩
  rcases S.par y (List.mem_of_getElem? hp) with k|k
  ·exact .inl ⟨k,bindL_get ndP hp hu k⟩
  ·obtain ⟨c,e⟩:=cell_has (n:=s.heap.objs.size+1) k
   refine .inr ⟨.inl k,c,e,?_⟩
   have q:=x.cell y c e
   rw [bindC_get ndP hp hu (by show scope.names.lookup y≠_;rw [k];decide)] at q
   exact q
 ·exact e0.hok.fresh (Nat.le_of_lt (x.above y c (PySem.mem_of_lookup h)))
 ·unfold start
  show _=N.length
  rw [List.length_append,List.length_map,List.length_replicate]
  (first|lia|omega)
theorem fn_of {CX:CXT} {P:Program} {w:World} {K:PySem.W.Frag} {mg:Str→Option Value} {base:Heap} {k:Nat} {f:Addr} {name qual:Str} {params:Arguments} {body:List Stmt} {scope:Scope} {dV kV doc pm cdv ct oc:Value} {an od:Option Addr}
  {osl:Array (Option Value)} {N ps:List Str} {sp:Sp} (lk:K.lookup f=some ⟨oc,od, .func (PySem.W.fnOf name qual params body scope dV kV doc pm an cdv ct),osl⟩) (hcd:PySem.W.codeIn K cdv qual=true) (S:FnScope N ps scope)
  (len:∀vs H Q E,sp vs H Q E→vs.length=ps.length)
  (hbody:∀(A:Around) (outer:List Env) (s:Shared) (H:Hp) (vs:List V) (Q:VK) (E:XK),Room k (A.deeper (envOfC qual scope s.heap.objs.size f cdv))→sp vs H Q E →
   ∃t,PSs (cxOf CX P w K mg base N qual scope f cdv A outer s H E) body t∧t { nx:=fun _ H'=>Q .non H',rt:=Q } (start N vs) H) :
  FnOk P w K mg base CX (k+1) f (PySem.W.fnOf name qual params body scope dV kV doc pm an cdv ct) ps sp:=by
 refine ⟨len,fun A outer s H args us vs Q E hr e0 hb r hsp => ?_⟩
 have hl:=len _ _ _ _ hsp
 have KX:K.In s.heap:=e0.mod.kin.keeps fun b o e=>(e0.bs b o e).1
 have lim:s.heap.NoLimit:=e0.mod.nolimit.keeps fun b o e=>(e0.bs b o e).1
 have hkind:∀y∈ps.zip us,scope.names.lookup y.1=some .local∨(scope.names.lookup y.1=some .cell∧((cellsFrom (s.heap.objs.size+1) scope.names []).lookup y.1).isSome=true):=fun ⟨n,v⟩ hy=>by
  rcases S.par n (List.of_mem_zip hy).1 with q|q
  ·exact .inl q
  ·exact .inr ⟨q,PySem.W.cellsFrom_some _ _ _ (.inl q)⟩
 refine codeAny_call_function hr.depth (KX _ _ lk) rfl S.co S.gen rfl (PySem.W.codeRec_of KX hcd) (hb _ _ _ _ ?_)
 refine wpAny_newFunctionEnv_cells S.kind hkind fun env he s1 x => ?_
 subst he
 refine ⟨lim.keeps x.toInCall.keep,codeAny_func ?_⟩
 obtain ⟨t,ht,hq⟩:=hbody A outer s H vs Q E (hr.deeper _) hsp
 have I:Inv (cxOf CX P w K mg base N qual scope f cdv A outer s H E) [] (start N vs) H s1:=inv_start S hr.hd e0 hl r x
 refine wpAny_mono (ht s1 (start N vs) H _ I hq) (fun fl s' hs => ?_) fun e s' hs=>hs
 have fin:∀{σ':St} {H':Hp} {v:V} {u:Value},Inv (cxOf CX P w K mg base N qual scope f cdv A outer s H E) [] σ' H' s'→RelV v u→Q v H'→CE outer P w H s Q u s':=
  fun {σ' H' v u} J rv q=>⟨v,H',J.os,J.bare,J.base,J.hok,rv,q⟩
 cases fl with
 | ret u=>
  obtain ⟨v, σ',H',J,rv,q⟩:=hs
  exact fin J rv q
 | next=>
  obtain ⟨σ',H',J,q⟩:=hs
  exact fin (v:=V.non) (u:=Value.none) J rfl q
 | brk=>
  obtain ⟨_,_,_,q⟩:=hs
  exact False.elim q
 | cont=>
  obtain ⟨_,_,_,q⟩:=hs
  exact False.elim q
end L2
namespace L2
open PySem PySem.Spec PyProof.Rows
section
variable {X:Cx} {x:Str} {p pos:Pos} {e:Expr} {es:List Expr} {t:TA} {id T:String} {r:List V→Hp→VK→Prop}
noncomputable def tCB (r:List V→Hp→VK→Prop) (t:TA):TE:=fun σ H Q=>t σ H fun vs H1=>r vs H1 Q
theorem pe_callB (hc:CallR X (.builtin id) r) (hg:Gl X x) (hm:X.mg x=none) (hv:bootBuiltins x=some (.builtin id)) (ha:PA X (e :: es) t) (hn:x ≠ "__name__":=by decide) (hdb:(x == ("__debug__" : Str))=false:=by decide)
  (he:starEach (e :: es) X.env=(false,eval e X.env) :: starEach es X.env:=by rfl) (hpl:(backTo pos (starEach es X.env)).any (·.1)=false:=by rfl):PE X (.Call (.Name x p) (e :: es) [] pos) (tCB r t):=by
 intro pins s σ H Q I h
 refine wpAny_Call_Name_kw (ld_blt I hg hm hv ?_ hn hdb)
 exact PyProof.Rows.callWith_builtin1 (thn (ha s σ H _ I h) fun us s1 hz_=>Elim.el hz_ _ fun vs H1 I1 r1 q1=>hc s1 σ H1 vs us Q I1 r1 q1) he hpl
theorem pe_callTy (hc:CallR X (.type T) r) (hg:Gl X x) (hm:X.mg x=none) (hv:bootBuiltins x=some (.type T)) (ha:PA X (e :: es) t) (hn:x ≠ "__name__":=by decide) (hdb:(x == ("__debug__" : Str))=false:=by decide)
  (he:starEach (e :: es) X.env=(false,eval e X.env) :: starEach es X.env:=by rfl) (hpl:(backTo pos (starEach es X.env)).any (·.1)=false:=by rfl):PE X (.Call (.Name x p) (e :: es) [] pos) (tCB r t):=by
 intro pins s σ H Q I h
 refine wpAny_Call_Name_kw (ld_blt I hg hm hv ?_ hn hdb)
 exact PyProof.Rows.callWith_type1 (thn (ha s σ H _ I h) fun us s1 hz_=>Elim.el hz_ _ fun vs H1 I1 r1 q1=>hc s1 σ H1 vs us Q I1 r1 q1) he hpl
end
end L2
namespace L2
open PySem PySem.Spec PyProof.Rows
section
variable {κ:Type} [DecidableEq κ]
noncomputable def valV (kvs:List (κ×V)) (k : κ):Option V:=(kvs.find? fun kv=>decide (kv.1=k)).map (·.2)
noncomputable def putK (kvs:List (κ×V)) (k : κ) (v:V):List (κ×V):=
 if (kvs.any fun kv=>decide (kv.1=k))=true then kvs.map (fun kv=>if kv.1=k then (kv.1,v) else kv) else kvs++[(k,v)]
theorem valV_pos {p : κ×V} {r:List (κ×V)} {k : κ} (e:p.1=k):valV (p :: r) k=some p.2:=by simp [valV,List.find?_cons,e]
theorem valV_neg {p : κ×V} {r:List (κ×V)} {k : κ} (e:¬p.1=k):valV (p :: r) k=valV r k:=by simp [valV,List.find?_cons,e]
theorem valV_any (k : κ):∀kvs:List (κ×V),(kvs.any fun kv=>decide (kv.1=k))=(valV kvs k).isSome
 | []=>rfl
 | p :: r=>by
  rw [List.any_cons]
  by_cases e:p.1=k
  ·simp only [valV_pos e,decide_eq_true e,Bool.true_or,Option.isSome_some]
  ·rw [valV_neg e,decide_eq_false e,Bool.false_or];exact valV_any k r
theorem valV_map (k j : κ) (y:V):∀kvs:List (κ×V),valV (kvs.map fun kv=>if kv.1=k then (kv.1,y) else kv) j=(valV kvs j).map fun x=>if j=k then y else x
 | []=>rfl
 | p :: r=>by
  have ih:=valV_map k j y r
  rw [List.map_cons]
  by_cases h:p.1=k
  ·rw [if_pos h]
   by_cases e:p.1=j
   ·rw [valV_pos (p:=(p.1,y)) e,valV_pos e,Option.map_some,if_pos (e.symm.trans h)]
   ·rw [valV_neg (p:=(p.1,y)) e,valV_neg e,ih]
  ·rw [if_neg h]
   by_cases e:p.1=j
   ·rw [valV_pos (p:=p) e,valV_pos e,Option.map_some,if_neg (fun z=>h (e.trans z))]
   ·rw [valV_neg (p:=p) e,valV_neg e,ih]
theorem valV_snoc (k j : κ) (y:V):∀kvs:List (κ×V),valV kvs k=none→valV (kvs++[(k,y)]) j=if j=k then some y else valV kvs j
 | [],_=>by
  by_cases e:k=j
  ·rw [if_pos e.symm];exact valV_pos (p:=(k,y)) e
  ·rw [if_neg (fun z=>e z.symm)];exact valV_neg (p:=(k,y)) e
 | p :: r,hn=>by
  rw [List.cons_append]
  have hk:¬p.1=k:=fun z=>by rw [valV_pos z] at hn;cases hn
  rw [valV_neg hk] at hn
  have ih:=valV_snoc k j y r hn
  by_cases e:p.1=j
  ·rw [valV_pos e,valV_pos e,if_neg (fun z=>hk (e.trans z))]
  ·rw [valV_neg e,valV_neg e,ih]
theorem valV_put (kvs:List (κ×V)) (k j : κ) (y:V):valV (putK kvs k y) j=if j=k then some y else valV kvs j:=by
 unfold putK
 by_cases a:(kvs.any fun kv=>decide (kv.1=k))=true
 ·rw [if_pos a,valV_map]
  rw [valV_any] at a
  by_cases e:j=k
  ·obtain ⟨x,hx⟩:=Option.isSome_iff_exists.mp a
   rw [if_pos e,e,hx,Option.map_some,if_pos rfl]
  ·rw [if_neg e]
   cases valV kvs j with
   | none=>rfl
   | some x=>rw [Option.map_some,if_neg e]
 ·rw [if_neg a]
  refine valV_snoc k j y kvs ?_
  rw [valV_any] at a
  cases q:valV kvs k with
  | none=>rfl
  | some x=>rw [q] at a;exact (a rfl).elim
theorem length_putK (kvs:List (κ×V)) (k : κ) (v:V):(putK kvs k v).length≤kvs.length+1:=by
 unfold putK
 split
 ·rw [List.length_map]; (first|lia|omega)
 ·rw [List.length_append,List.length_cons,List.length_nil]; (first|lia|omega)
theorem putK_new {kvs:List (κ×V)} {k : κ} (v:V) (h:valV kvs k=none):putK kvs k v=kvs++[(k,v)]:=by
 unfold putK
 rw [valV_any,h]
 exact if_neg (by decide)
theorem RelO.isSome_eq {o:Option V} {u:Option Value} (r:RelO o u):o.isSome=u.isSome:=by
 cases o with
 | none=>cases u with
  | none=>rfl
  | some _=>exact (show False from r).elim
 | some _=>cases u with
  | none=>exact (show False from r).elim
  | some _=>rfl
theorem KV.val {kvs:List (κ×V)} {vs:List (κ×Value)} (r:KV kvs vs) (k : κ):RelO (valV kvs k) (valueAt vs k):=by
 unfold KV at r
 induction r with
 | nil=>exact True.intro
 | @cons p q ps qs h t ih=>
  obtain ⟨h1,h2⟩:=h
  by_cases e:p.1=k
  ·have e':q.1=k:=h1.symm.trans e
   have b:valueAt (q :: qs) k=some q.2:=by simp [valueAt,List.find?_cons,e']
   rw [valV_pos e,b];exact h2
  ·have e':¬q.1=k:=fun z=>e (h1.trans z)
   have b:valueAt (q :: qs) k=valueAt qs k:=by simp [valueAt,List.find?_cons,e']
   rw [valV_neg e,b];exact ih
theorem KV.any {kvs:List (κ×V)} {vs:List (κ×Value)} (r:KV kvs vs) (k : κ):(kvs.any fun kv=>decide (kv.1=k))=vs.any fun kv=>decide (kv.1=k):=by
 unfold KV at r
 induction r with
 | nil=>rfl
 | cons h t ih=>rw [List.any_cons,List.any_cons,ih,h.1]
theorem KV.repl {kvs:List (κ×V)} {vs:List (κ×Value)} (r:KV kvs vs) (k : κ) {y:V} {u:Value} (ry:RelV y u) :
  KV (kvs.map fun kv=>if kv.1=k then (kv.1,y) else kv) (vs.map fun kv=>if kv.1=k then (kv.1,u) else kv):=by
 unfold KV at r ⊢
 induction r with
 | nil=>exact .nil
 | @cons p q ps qs h t ih=>
  rw [List.map_cons,List.map_cons]
  refine .cons ?_ ih
  obtain ⟨h1,h2⟩:=h
  by_cases e:p.1=k
  ·rw [if_pos e,if_pos (h1.symm.trans e)];exact ⟨h1,ry⟩
  ·rw [if_neg e,if_neg (fun z=>e (h1.trans z))];exact ⟨h1,h2⟩
theorem KV.put {kvs:List (κ×V)} {vs:List (κ×Value)} (r:KV kvs vs) (k : κ) {y:V} {u:Value} (ry:RelV y u):KV (putK kvs k y) (stored vs k u):=by
 unfold putK stored
 rw [r.any k]
 by_cases e:(vs.any fun kv=>decide (kv.1=k))=true
 ·rw [if_pos e,if_pos e];exact r.repl k ry
 ·rw [if_neg e,if_neg e];exact Paired.snoc r ⟨rfl,ry⟩
theorem KV.length {kvs:List (κ×V)} {vs:List (κ×Value)} (r:KV kvs vs):kvs.length=vs.length:=Paired.length r
end
theorem kV_is {P:Program} {w:World} {k:Key} {u:Value} (r:RelV (kV k) u):(mixKind P w).is k u=true:=by
 cases k with
 | inl i=>obtain ⟨t,e⟩:=(show ∃t,u=Value.int i t from r);subst e;exact mixKind_int P w i t
 | inr x=>obtain ⟨t,e⟩:=(show ∃t,u=Value.str x t from r);subst e;exact mixKind_str P w x t
theorem items_are {P:Program} {w:World} : ∀{ks:List Key} {us:List Value},Vals (ks.map kV) us→ItemsAre (mixKind P w) ks us
 | [],_,r=>by rw [List.map_nil] at r;cases r;exact .nil
 | k :: ks,_,r=>by
  rw [List.map_cons] at r
  cases r with
  | cons h t=>exact .cons (kV_is h) (items_are t)
noncomputable abbrev KT (H:Hp):List (List Key×V)→List (List Key×Addr×Value)→Prop:=Paired fun p q=>p.1=q.1∧H q.2.1=some (.tup (p.1.map kV))∧RelV p.2 q.2.2
theorem KT.val {H:Hp} {kvs:List (List Key×V)} {xs:List (List Key×Addr×Value)} (r:KT H kvs xs) (k:List Key):RelO (valV kvs k) ((atKey xs k).map (·.2)):=by
 induction r with
 | nil=>exact True.intro
 | @cons p q ps qs h t ih=>
  obtain ⟨h1,_,h2⟩:=h
  by_cases e:p.1=k
  ·have e':q.1=k:=h1.symm.trans e
   have b:atKey (q :: qs) k=some q.2:=by simp [atKey,List.find?_cons,e']
   rw [valV_pos e,b];exact h2
  ·have e':¬q.1=k:=fun z=>e (h1.trans z)
   have b:atKey (q :: qs) k=atKey qs k:=by simp [atKey,List.find?_cons,e']
   rw [valV_neg e,b];exact ih
theorem KT.repl {H:Hp} {kvs:List (List Key×V)} {xs:List (List Key×Addr×Value)} (r:KT H kvs xs) (k:List Key) {y:V} {u:Value} (ry:RelV y u) :
  KT H (kvs.map fun kv=>if kv.1=k then (kv.1,y) else kv) (xs.map (putAt k u)):=by
 induction r with
 | nil=>exact .nil
 | @cons p q ps qs h t ih=>
  rw [List.map_cons,List.map_cons]
  refine .cons ?_ ih
  obtain ⟨h1,h2,h3⟩:=h
  unfold putAt
  by_cases e:p.1=k
  ·rw [if_pos e,if_pos (h1.symm.trans e)];exact ⟨h1,h2,ry⟩
  ·rw [if_neg e,if_neg (fun z=>e (h1.trans z))];exact ⟨h1,h2,h3⟩
theorem KT.put {H:Hp} {kvs:List (List Key×V)} {xs:List (List Key×Addr×Value)} (r:KT H kvs xs) (k:List Key) {b:Addr} {y:V} {u:Value} (hb:H b=some (.tup (k.map kV))) (ry:RelV y u) :
  KT H (putK kvs k y) (storedH xs k b u):=by
 have e:(kvs.any fun kv=>decide (kv.1=k))=(atKey xs k).isSome:=by
  rw [valV_any,(r.val k).isSome_eq,Option.isSome_map]
 unfold putK storedH
 rw [e]
 by_cases q:(atKey xs k).isSome=true
 ·rw [if_pos q,if_pos q];exact r.repl k ry
 ·rw [if_neg q,if_neg q];exact Paired.snoc r ⟨rfl,hb,ry⟩
theorem KT.keeps {H H':Hp} {kvs:List (List Key×V)} {xs:List (List Key×Addr×Value)} (r:KT H kvs xs) (ht:∀b ys,H b=some (.tup ys)→H' b=some (.tup ys)):KT H' kvs xs:=
 Paired.mapP r fun _ _ z=>⟨z.1,ht _ _ z.2.1,z.2.2⟩
section
variable {P:Program} {w:World} {H:Hp} {h:Heap} {a:Addr}
theorem rd_of {u:HO} (ok:HOk P w H h) (e:Rd H a u):ObjOk P w H h a u:=e.ok ok
theorem dk_rd {kvs:List (Key×V)} (ok:HOk P w H h) (e:Rd H a (.dK kvs)):kvs.length≤sizeLine∧(a == sysModules)=false∧∃vs,KV kvs vs∧h.DictOf (mixKind P w) a vs:=
 show ObjOk P w H h a (.dK kvs) from rd_of ok e
theorem dk_of {kvs:List (Key×V)} (ok:HOk P w H h) (e:H a=some (.dK kvs)):kvs.length≤sizeLine∧(a == sysModules)=false∧∃vs,KV kvs vs∧h.DictOf (mixKind P w) a vs:=dk_rd ok (.inl e)
theorem key_of {ks:List Key} (ok:HOk P w H h) (e:H a=some (.tup (ks.map kV))):(tupleKind (mixKind P w)).is h ks a:=by
 obtain ⟨_,its,r,o,h1,h2,n,h3⟩:=(show ObjOk P w H h a (.tup (ks.map kV)) from ok a _ e)
 exact ⟨o,its.toArray,n,h1,h2,h3,by simpa using items_are r⟩
theorem dt_rd {kvs:List (List Key×V)} (ok:HOk P w H h) (e:Rd H a (.dT kvs)):kvs.length≤sizeLine∧(a == sysModules)=false ∧
  ∃xs,KT H kvs xs∧h.DictOfH (tupleKind (mixKind P w)) a xs:=by
 obtain ⟨z,y,xs,r,o,es,ep,h1,h2,h3,h4,h5⟩:=(show ObjOk P w H h a (.dT kvs) from rd_of ok e)
 refine ⟨z,y,xs,r,o,es,ep,h1,h2,h3,h4,fun x hx => ?_,h5⟩
 have all:∀{l:List (List Key×V)} {m:List (List Key×Addr×Value)},KT H l m→∀x∈m,(tupleKind (mixKind P w)).is h x.1 x.2.1:=by
  intro l m q
  induction q with
  | nil=>intro x hx;exact nomatch hx
  | @cons p q ps qs hq t ih=>
   intro x hx
   rcases List.mem_cons.mp hx with e|hx
   ·subst e
    exact key_of ok (by rw [←hq.1];exact hq.2.1)
   ·exact ih x hx
 exact all r x hx
theorem dt_of {kvs:List (List Key×V)} (ok:HOk P w H h) (e:H a=some (.dT kvs)):kvs.length≤sizeLine∧(a == sysModules)=false ∧
  ∃xs,KT H kvs xs∧h.DictOfH (tupleKind (mixKind P w)) a xs:=dt_rd ok (.inl e)
end
noncomputable def DGet (H:Hp) (a:Addr) (y:V) (r:Option V):Prop:=
 (Ex2 fun kvs k=>Rd H a (.dK kvs)∧y=kV k∧r=valV kvs k)∨Ex3 fun kvs k b=>Rd H a (.dT kvs)∧y = .ref b∧H b=some (.tup (k.map kV))∧r=valV kvs k
noncomputable def DPut (H:Hp) (a:Addr) (y v:V) (H':Hp):Prop:=
 (Ex2 fun kvs k=>H a=some (.dK kvs)∧y=kV k∧kvs.length<sizeLine∧H'=upd H a (.dK (putK kvs k v))) ∨
 Ex3 fun kvs k b=>H a=some (.dT kvs)∧y = .ref b∧H b=some (.tup (k.map kV))∧kvs.length<sizeLine∧H'=upd H a (.dT (putK kvs k v))
theorem DGet.k {H:Hp} {a:Addr} {kvs:List (Key×V)} {k:Key} (e:H a=some (.dK kvs)):DGet H a (kV k) (valV kvs k) := .inl ⟨kvs,k, .inl e,rfl,rfl⟩
theorem DGet.t {H:Hp} {a b:Addr} {kvs:List (List Key×V)} {k:List Key} (e:H a=some (.dT kvs)) (eb:H b=some (.tup (k.map kV))):DGet H a (.ref b) (valV kvs k) := .inr ⟨kvs,k,b, .inl e,rfl,eb,rfl⟩
theorem DPut.k {H:Hp} {a:Addr} {kvs:List (Key×V)} {k:Key} {v:V} (e:H a=some (.dK kvs)) (hl:kvs.length<sizeLine):DPut H a (kV k) v (upd H a (.dK (putK kvs k v))) := .inl ⟨kvs,k,e,rfl,hl,rfl⟩
theorem DPut.t {H:Hp} {a b:Addr} {kvs:List (List Key×V)} {k:List Key} {v:V} (e:H a=some (.dT kvs)) (eb:H b=some (.tup (k.map kV))) (hl:kvs.length<sizeLine) :
  DPut H a (.ref b) v (upd H a (.dT (putK kvs k v))) := .inr ⟨kvs,k,b,e,rfl,eb,hl,rfl⟩
section
variable {X:Cx} {pins:List (Addr×Obj)} {σ:St} {H:Hp} {s:Shared} {a:Addr} {y v:V} {u r:Value} {o:Option V} {A:Around} {E:Value→Shared→Prop}
theorem Inv.big (I:Inv X pins σ H s):sysModules<s.heap.objs.size:=by
 have h:mainGlobals<s.heap.objs.size:=(I.mod.glob.keeps I.bk).lt
 exact Nat.lt_trans (by decide) h
theorem d_getItem {Q:Value→Shared→Prop} (hu:A.units+1<cLine) (I:Inv X pins σ H s) (g:DGet H a y (some v)) (ry:RelV y u) (h:∀w' s',Inv X pins σ H s'→RelV v w'→Q w' s') :
  wpAny (model X.prog X.w) A (getItem (.ref a) u) Q E s:=by
 rcases g with ⟨kvs,k,e,ey,l⟩|⟨kvs,k,b,e,ey,eb,l⟩
 ·subst ey
  obtain ⟨z,hd,vs,rel,dd⟩:=dk_rd I.hok e
  obtain ⟨w',hw,rw'⟩:=RelO.some_of (v:=v) (o:=valueAt vs k) (by rw [l];exact rel.val k)
  exact wpAny_getItem_of (kV_is ry) dd.mapOf hw (h w' _ (I.tok _) rw')
 ·subst ey
  cases (show u=Value.ref b from ry)
  obtain ⟨z,hd,xs,rel,dd⟩:=dt_rd I.hok e
  obtain ⟨w',hw,rw'⟩:=RelO.some_of (v:=v) (o:=(atKey xs k).map (·.2)) (by rw [l];exact rel.val k)
  obtain ⟨p,hp,hp2⟩:=Option.map_eq_some_iff.mp hw
  refine wpAny_getItem_heap (tupleKind_room_in1 hu) (key_of I.hok eb) dd hp ?_
  rw [hp2]
  exact h w' _ (I.tok _) rw'
theorem d_in {Q:Value→Shared→Prop} (hu:A.units+1<cLine) (I:Inv X pins σ H s) (g:DGet H a y o) (ry:RelV y u) (h:∀s',Inv X pins σ H s'→Q (.bool o.isSome) s') :
  wpAny (model X.prog X.w) A (compareOp .In u (.ref a)) Q E s:=by
 rcases g with ⟨kvs,k,e,ey,l⟩|⟨kvs,k,b,e,ey,eb,l⟩
 ·subst ey
  obtain ⟨z,hd,vs,rel,dd⟩:=dk_rd I.hok e
  refine wpAny_in_of (kV_is ry) hd dd.mapOf ?_
  rw [←(rel.val k).isSome_eq, ←l]
  exact h _ (I.tok _)
 ·subst ey
  cases (show u=Value.ref b from ry)
  obtain ⟨z,hd,xs,rel,dd⟩:=dt_rd I.hok e
  refine wpAny_in_heap (tupleKind_room_in1 hu) (key_of I.hok eb) hd dd ?_
  have q:=(rel.val k).isSome_eq
  rw [Option.isSome_map] at q
  rw [←q, ←l]
  exact h _ (I.tok _)
theorem d_notIn {Q:Value→Shared→Prop} (hu:A.units+1<cLine) (I:Inv X pins σ H s) (g:DGet H a y o) (ry:RelV y u) (h:∀s',Inv X pins σ H s'→Q (.bool (!o.isSome)) s') :
  wpAny (model X.prog X.w) A (compareOp .NotIn u (.ref a)) Q E s:=by
 rcases g with ⟨kvs,k,e,ey,l⟩|⟨kvs,k,b,e,ey,eb,l⟩
 ·subst ey
  obtain ⟨z,hd,vs,rel,dd⟩:=dk_rd I.hok e
  refine wpAny_notIn_of (kV_is ry) hd dd.mapOf ?_
  rw [←(rel.val k).isSome_eq, ←l]
  exact h _ (I.tok _)
 ·subst ey
  cases (show u=Value.ref b from ry)
  obtain ⟨z,hd,xs,rel,dd⟩:=dt_rd I.hok e
  refine wpAny_notIn_heap (tupleKind_room_in1 hu) (key_of I.hok eb) hd dd ?_
  have q:=(rel.val k).isSome_eq
  rw [Option.isSome_map] at q
  rw [←q, ←l]
  exact h _ (I.tok _)
theorem d_write {h':Heap} {t':Nat} {ob:HO} (I:Inv X pins σ H s) (mu:Mut (H a)) (hs:Heap.SameBut a s.heap h') (he:∃q,h'.get? a=some q) (new:ObjOk X.prog X.w (upd H a ob) h' a ob) :
  Inv X pins σ (upd H a ob) { s with heap:=h',toks:=t' }:=
 I.write (x:=a) (e:=a) mu (.inl rfl) (fun b q hb z=>(hs.2 b hb).trans z) he new
theorem dk_new {P:Program} {w:World} {H':Hp} {h':Heap} {kvs:List (Key×V)} {vs:List (Key×Value)} (z:kvs.length≤sizeLine) (hd:(a == sysModules)=false) (rel:KV kvs vs) (dd:h'.DictOf (mixKind P w) a vs) :
  ObjOk P w H' h' a (.dK kvs):=⟨z,hd,vs,rel,dd⟩
theorem d_setItem {H':Hp} {Q:Unit→Shared→Prop} (hu:A.units+1<cLine) (I:Inv X pins σ H s) (g:DPut H a y v H') (ry:RelV y u) (rv:RelV v r) (h:∀s',Inv X pins σ H' s'→Q () s') :
  wpAny (model X.prog X.w) A (setItem (.ref a) u r) Q E s:=by
 rcases g with ⟨kvs,k,e,ey,l,eH⟩|⟨kvs,k,b,e,ey,eb,l,eH⟩
 ·subst ey eH
  obtain ⟨z,hd,vs,rel,dd⟩:=dk_of I.hok e
  have hz:vs.length≤sizeLine:=by rw [←rel.length];exact z
  have hl:(putK kvs k v).length≤sizeLine:=by have:=length_putK kvs k v; (first|lia|omega)
  refine wpAny_setItem_pairs (hsz:=hz) (kV_is ry) dd fun h' dd' hs=>h _ ?_
  have he:∃q,h'.get? a=some q:=let ⟨q,_,_,hq,_⟩:=dd'; ⟨q,hq⟩
  exact d_write I (by rw [e];exact True.intro) hs he (dk_new hl hd (rel.put k rv) dd')
 ·subst ey eH
  cases (show u=Value.ref b from ry)
  obtain ⟨z,hd,xs,rel,dd⟩:=dt_of I.hok e
  have hz:xs.length≤sizeLine:=by rw [←Paired.length rel];exact z
  have hl:(putK kvs k v).length≤sizeLine:=by have:=length_putK kvs k v; (first|lia|omega)
  refine wpAny_setItem_heap (hsz:=hz) (tupleKind_room_in1 hu) (key_of I.hok eb) dd fun h' dd' hs=>h _ ?_
  obtain ⟨q,es,ep,hq,h2,h3,h4,_,h5⟩:=dd'
  refine d_write I (by rw [e];exact True.intro) hs ⟨q,hq⟩ ⟨hl,hd,_,(rel.put k eb rv).keeps fun c ys ec => ?_,q,es,ep,hq,h2,h3,h4,h5⟩
  rw [upd_ne (ne_of ec e (fun z=>nomatch z))]
  exact ec
end
section
variable {X:Cx} {pins:List (Addr×Obj)} {σ:St} {H:Hp} {s:Shared} {a:Addr} {kvs:List (Key×V)} {k:Key} {u:Value} {A:Around} {E:Value→Shared→Prop}
theorem d_len {Q:Value→Shared→Prop} (I:Inv X pins σ H s) (e:Rd H a (.dK kvs)) (h:∀t s',Inv X pins σ H s'→Q (.int kvs.length t) s'):wpAny (model X.prog X.w) A (call (.builtin "len") [.ref a]) Q E s:=by
 obtain ⟨z,hd,vs,rel,dd⟩:=dk_rd I.hok e
 refine call_len_dict hd dd (by rw [←rel.length];rw [sizeLine_eq] at z; (first|lia|omega)) ?_
 rw [←rel.length]
 exact h _ _ (I.tok _)
end
noncomputable def NoSl (i:Expr):Prop:=∀ov iv,subscripted i false ov iv=operate [ov,iv] (getItem ov iv)
theorem subD_of {prog:Program} {w:World} {A:Around} {E:Value→Shared→Prop} {s:Shared} {env:Env} {value slice:Expr} {pos:Pos} {T id:String} {Q:Value→Shared→Prop}
  (hl:typeLookup (.type T) "__getitem__" = pure (some (.builtin id))) (hs:NoSl slice)
  (h:wpAny (model prog w) A (eval value env) (fun o s₁=>wpAny (model prog w) A (eval slice env) (fun i s₂=>s₂.TypeIs o T∧wpAny (model prog w) A (getItem o i) Q E s₂) E s₁) E s) :
  wpAny (model prog w) A (eval (.Subscript value slice pos) env) Q E s:=by
 refine Subscript_ (wpAny_mono h (fun o s₁ h₁=>wpAny_mono h₁ (fun i s₂ h₂ => ?_) fun _ _ x=>x) fun _ _ x=>x)
 obtain ⟨hT,h₂⟩:=h₂
 unfold subscriptTail
 refine wpAny_bind ?_
 rw [getitemInPython_of_ne hT.not_modules]
 refine wpAny_bind (wpAny_specialOf hT hl ?_)
 have fin:wpAny (model prog w) A (subscripted slice false o i) (fun r s₃=>wpAny (model prog w) A (letTemporaryGo value o r >>= fun _=>pure r) Q E s₃) E s₂:=by
  rw [hs o i]
  exact wpAny_operating (wpAny_mono h₂ (fun r s₃ h₃=>wpAny_bind (wpAny_letTemporaryGo (wpAny_pure h₃))) fun _ _ x=>x)
 first
  | exact wpAny_pure (wpAny_bind fin)
  | exact wpAny_bind (wpAny_pure (wpAny_bind fin))
  | exact wpAny_bind fin
theorem dict_typeIs {X:Cx} {pins:List (Addr×Obj)} {σ:St} {H:Hp} {s:Shared} {a:Addr} {y:V} {o:Option V} (I:Inv X pins σ H s) (g:DGet H a y o):s.TypeIs (.ref a) "dict":=by
 rcases g with ⟨kvs,k,e,_,_⟩|⟨kvs,k,b,e,_,_,_⟩
 ·obtain ⟨_,_,vs,_,dd⟩:=dk_rd I.hok e
  exact dd.typeIs
 ·obtain ⟨_,_,xs,_,dd⟩:=dt_rd I.hok e
  exact dd.typeIs
noncomputable def tDGet (td ty:TE):TE:=fun σ H Q=>td σ H fun x H1=>ty σ H1 fun y H2=>Ex2 fun a v=>x = .ref a∧DGet H2 a y (some v)∧Q v H2
noncomputable def tDIn (ty td:TE):TE:=fun σ H Q=>ty σ H fun y H1=>td σ H1 fun x H2=>Ex2 fun a o=>x = .ref a∧DGet H2 a y o∧Q (.bl o.isSome) H2
noncomputable def tDNotIn (ty td:TE):TE:=fun σ H Q=>ty σ H fun y H1=>td σ H1 fun x H2=>Ex2 fun a o=>x = .ref a∧DGet H2 a y o∧Q (.bl (!o.isSome)) H2
noncomputable def sDPut (td ty tv:TE):TS:=fun D σ H=>tv σ H fun v H1=>td σ H1 fun x H2=>ty σ H2 fun y H3=>Ex2 fun a H4=>x = .ref a∧DPut H3 a y v H4∧D.nx σ H4
section
variable {X:Cx} {o i e value:Expr} {pos pos' tpos:Pos} {td ty tv:TE}
theorem pe_dget (hu:X.A.units+1<cLine) (ho:PE X o td) (hi:PE X i ty) (hs:NoSl i):PE X (.Subscript o i pos) (tDGet td ty):=by
 intro pins s σ H Q I h
 refine subD_of PySem.F.slot_dict_getitem.lookup hs (thn (ho s σ H _ I h) fun u s1 hz_=>Elim.el hz_ _ fun x H1 I1 rx q1=>thn (hi s1 σ H1 _ I1 q1) fun iv s2 hz_ => ?_)
 refine Elim.el hz_ _ ?_
 clear hz_
 rintro y H2 I2 ry ⟨a,v,ex,g,q2⟩
 subst ex
 obtain rfl:u=Value.ref a:=rx
 exact ⟨dict_typeIs I2 g,d_getItem hu I2 g ry fun w' s3 I3 rw'=>⟨v,H2,I3,rw',q2⟩⟩
theorem pc_din (hu:X.A.units+1<cLine) (hi:PE X i ty) (ho:PE X o td):PC X .In i o (tDIn ty td):=by
 intro pins s σ H Q I h
 refine thn (hi s σ H _ I h) fun iv s1 hz_=>Elim.el hz_ _ fun y H1 I1 ry q1=>thn (ho s1 σ H1 _ I1 q1) fun u s2 hz_ => ?_
 refine Elim.el hz_ _ ?_
 clear hz_
 rintro x H2 I2 rx ⟨a,ov,ex,g,q2⟩
 subst ex
 obtain rfl:u=Value.ref a:=rx
 exact d_in hu I2 g ry fun s3 I3=>⟨.bl ov.isSome,H2,I3,rfl,q2⟩
theorem pc_dnotin (hu:X.A.units+1<cLine) (hi:PE X i ty) (ho:PE X o td):PC X .NotIn i o (tDNotIn ty td):=by
 intro pins s σ H Q I h
 refine thn (hi s σ H _ I h) fun iv s1 hz_=>Elim.el hz_ _ fun y H1 I1 ry q1=>thn (ho s1 σ H1 _ I1 q1) fun u s2 hz_ => ?_
 refine Elim.el hz_ _ ?_
 clear hz_
 rintro x H2 I2 rx ⟨a,ov,ex,g,q2⟩
 subst ex
 obtain rfl:u=Value.ref a:=rx
 exact d_notIn hu I2 g ry fun s3 I3=>⟨.bl (!ov.isSome),H2,I3,rfl,q2⟩
theorem ps_dput (hu:X.A.units+1<cLine) (ho:PE X o td) (hi:PE X i ty) (hv:PE X value tv) (hs:swapsWith value (some (.Subscript o i pos')) pos.line X.env=pure false) :
  PS X (.Assign [.Subscript o i pos'] value pos) (sDPut td ty tv):=by
 intro pins s σ H D I h
 refine wpAny_Assign_Subscript (thn (hv s σ H _ I h) fun r s1 ⟨v,H1,I1,rv,q1⟩=>thn (ho s1 σ H1 _ I1 q1) fun u s2 ⟨x,H2,I2,rx,q2⟩=>thn (hi s2 σ H2 _ I2 q2) fun iv s3 ⟨y,H3,I3,ry,a,H4,ex,g,q3⟩ => ?_) hs
 subst ex
 obtain rfl:u=Value.ref a:=rx
 exact d_setItem hu I3 g ry rv fun s4 I4=>⟨σ,H4,I4,q3⟩
end
theorem dk_empty {P:Program} {w:World} {H:Hp} (h:Heap) (hb:sysModules<h.objs.size):ObjOk P w H (h.push { cls := .type "dict",data := .dict #[] }) h.objs.size (.dK []):=
 ⟨Nat.zero_le _,beq_eq_false_iff_ne.mpr (Ne.symm (Nat.ne_of_lt hb)),[], .nil,Heap.DictOf.new h⟩
theorem dt_empty {P:Program} {w:World} {H:Hp} (h:Heap) (hb:sysModules<h.objs.size):ObjOk P w H (h.push { cls := .type "dict",data := .dict #[] }) h.objs.size (.dT []):=
 ⟨Nat.zero_le _,beq_eq_false_iff_ne.mpr (Ne.symm (Nat.ne_of_lt hb)),[], .nil,_, #[],0,Heap.get?_push_size _ rfl,⟨rfl,rfl,rfl⟩,rfl,rfl,List.nodup_nil⟩
noncomputable def tDNewK:TE:=fun _ H Q=>∀p,H p=none→Q (.ref p) (upd H p (.dK []))
section
variable {X:Cx} {pos:Pos}
theorem pe_dnewK:PE X (.Dict [] [] pos) tDNewK:=fun pins s σ H Q I h=>
 wpAny_Dict_empty ⟨.ref s.heap.objs.size,_,I.laid (a:=s.heap.objs.size) (o := .dK []) (t':=s.toks) (fun _ _ q=>Heap.get?_push_of_some _ q) (Nat.le_refl _) (dk_empty s.heap I.big),rfl,h _ (I.hok.fresh (Nat.le_refl _))⟩
end
noncomputable def tPairs:List (TE×TE)→St→Hp→(List (V×V)→Hp→Prop)→Prop
 | [],_,H,Q=>Q [] H
 | (tk,tv) :: r, σ,H,Q=>tk σ H fun x H1=>tv σ H1 fun y H2=>tPairs r σ H2 fun ps H3=>Q ((x,y) :: ps) H3
noncomputable abbrev VV:List (V×V)→List (Value×Value)→Prop:=Paired fun p q=>RelV p.1 q.1∧RelV p.2 q.2
noncomputable def PPs (X:Cx) (pos:Pos) (keys:List (Option Expr)) (values:List Expr) (trs:List (TE×TE)):Prop:=
 ∀ ⦃pins:List (Addr×Obj)⦄ (s:Shared) (σ:St) (H:Hp) (Q:List (V×V)→Hp→Prop),Inv X pins σ H s→tPairs trs σ H Q →
  wpAny (model X.prog X.w) X.A (evalPairs (pairTrees keys values X.env pos)) (fun vs s'=>Ex2 fun ps H'=>Inv X pins σ H' s'∧VV ps vs∧Q ps H') X.xe s
theorem pps_nil {X:Cx} {pos:Pos} : PPs X pos [] [] []:=fun pins s σ H Q I h=>pairTrees_nil_walk ⟨[],H,I, .nil,h⟩
theorem pps_cons {X:Cx} {pos:Pos} {k v:Expr} {ks:List (Option Expr)} {vs:List Expr} {tk tv:TE} {trs:List (TE×TE)} (hk:PE X k tk) (hv:PE X v tv) (hr:PPs X pos ks vs trs) :
  PPs X pos (some k :: ks) (v :: vs) ((tk,tv) :: trs):=fun pins s σ H Q I h=>
 pairTrees_cons_walk (thn (hk s σ H _ I h) fun u s1 hz_=>Elim.el hz_ _ fun x H1 I1 rx q1=>thn (hv s1 σ H1 _ I1 q1) fun w2 s2 ⟨y,H2,I2,ry,q2⟩=>
  thn (hr s2 σ H2 _ I2 q2) fun ws s3 hz_=>Elim.el hz_ _ fun ps H3 I3 rel q3=>⟨(x,y) :: ps,H3,I3, .cons ⟨rx,ry⟩ rel,q3⟩)
noncomputable def mergeK (kvs more:List (Key×V)):List (Key×V):=more.foldl (fun acc kv=>putK acc kv.1 kv.2) kvs
theorem KV.merge:∀{more:List (Key×V)} {rs:List (Key×Value)} {kvs:List (Key×V)} {vs:List (Key×Value)},KV more rs→KV kvs vs→KV (mergeK kvs more) (merged vs rs):=by
 intro more rs kvs vs r
 unfold KV at r
 induction r generalizing kvs vs with
 | nil=>intro q;exact q
 | @cons p q ps qs h t ih=>
  intro r0
  have e:KV (putK kvs p.1 p.2) (stored vs q.1 q.2):=by
   have:=r0.put p.1 h.2
   rw [←h.1];exact this
  exact ih e
theorem length_mergeK:∀(more kvs:List (Key×V)),(mergeK kvs more).length≤kvs.length+more.length
 | [],kvs=>by show kvs.length≤kvs.length+0; (first|lia|omega)
 | p :: r,kvs=>by
  have h1:=length_mergeK r (putK kvs p.1 p.2)
  have h2:=length_putK kvs p.1 p.2
  show (mergeK (putK kvs p.1 p.2) r).length≤_
  rw [List.length_cons]; (first|lia|omega)
theorem carries_of {P:Program} {w:World} : ∀{kvs:List (Key×V)} {ws:List (Value×Value)},VV (kvs.map fun kv=>(kV kv.1,kv.2)) ws→∃rs,Carries (mixKind P w) ws rs∧KV kvs rs
 | [],_,r=>by rw [List.map_nil] at r;cases r;exact ⟨[],True.intro, .nil⟩
 | p :: kvs,_,r=>by
  rw [List.map_cons] at r
  cases r with
  | @cons a b as bs h t=>
   obtain ⟨rs,c,q⟩:=carries_of (P:=P) (w:=w) t
   obtain ⟨b1,b2⟩:=b
   exact ⟨(p.1,b2) :: rs,⟨kV_is h.1,rfl,c⟩, .cons ⟨rfl,h.2⟩ q⟩
noncomputable def tDisp (trs:List (TE×TE)):TE:=fun σ H Q=>∀p,H p=none→tPairs trs σ (upd H p (.dK [])) fun ps H2=>H2 p=some (.dK [])∧∃kvs:List (Key×V),ps=kvs.map (fun kv=>(kV kv.1,kv.2))∧kvs.length≤15∧Q (.ref p) (upd H2 p (.dK (mergeK [] kvs)))
theorem pe_disp {X:Cx} {pos:Pos} {keys:List (Option Expr)} {values:List Expr} {trs:List (TE×TE)} (h:PPs X pos keys values trs) (hall:keys.all (·.isSome)=true) (hl:keys.length=values.length) (h0:keys≠[])
  (h15:keys.length≤15):PE X (.Dict keys values pos) (tDisp trs):=by
 intro pins s σ H Q I q
 have hn:=I.hok.fresh (Nat.le_refl s.heap.objs.size)
 have I1:=I.laid (a:=s.heap.objs.size) (o := .dK []) (h':=s.heap.push { cls := .type "dict",data := .dict #[] }) (t':=s.toks) (fun _ _ q=>Heap.get?_push_of_some _ q) (Nat.le_refl _) (dk_empty s.heap I.big)
 refine wpAny_Dict_walk (knd:=mixKind X.prog X.w) hall hl h0 h15 (thn (h _ σ _ _ I1 (q _ hn)) fun ws s2 hz_=>Elim.el hz_ _ fun ps H2 I2 rel e kvs ep lk q2 => ?_)
 subst ep
 obtain ⟨rs,c,rk⟩:=carries_of (P:=X.prog) (w:=X.w) rel
 obtain ⟨z,hd,vs0,r0,dd⟩:=dk_of I2.hok e
 cases r0
 refine ⟨rs,c,dd,fun h' dd' hs=>⟨.ref s.heap.objs.size,_,?_,rfl,q2⟩⟩
 have hz:(mergeK [] kvs).length≤sizeLine:=by
  have h1:=length_mergeK kvs []
  rw [List.length_nil] at h1
  rw [sizeLine_eq]; (first|lia|omega)
 have he:∃q,h'.get? s.heap.objs.size=some q:=let ⟨q,_,_,hq,_⟩:=dd'; ⟨q,hq⟩
 exact d_write I2 (by rw [e];exact True.intro) hs he (dk_new hz hd (rk.merge .nil) dd')
section
variable {X:Cx} {pins:List (Addr×Obj)} {σ:St} {H:Hp} {s:Shared} {a:Addr} {y d:V} {u r:Value} {o:Option V} {A:Around} {E:Value→Shared→Prop}
end
section
variable {X:Cx} {o e f:Expr} {apos cpos:Pos} {td ty tx:TE}
end
section
variable {X:Cx} {pins:List (Addr×Obj)} {σ:St} {H:Hp} {s:Shared} {a:Addr} {kvs:List (Key×V)} {A:Around} {E:Value→Shared→Prop}
end
section
variable {X:Cx} {pins:List (Addr×Obj)} {σ:St} {H:Hp} {s:Shared} {a:Addr} {y:V} {u:Value} {A:Around} {E:Value→Shared→Prop}
end
end L2
namespace HT
open PySem PyProof.Rows
section
open PySem.SeqAt
open PySem.AutoSeq1 (wpAny_loadPart')
open PySem.MeetsSeq PySem.MeetsSeq2 PySem.MeetsSeq3
end
section
variable {prog:Program} {w:World} {A:Around} {E:Value→Shared→Prop} {s:Shared}
noncomputable def sIx (n d:Nat):Option Int→Nat
 | none=>d
 | some v=>if v<0 then (v+(n:Int)).toNat else min v.toNat n
theorem sIx_none (n d:Nat):sIx n d none=d:=rfl
theorem sIx_nat (n d k:Nat):sIx n d (some (k:Int))=min k n:=by
 show (if (k:Int)<0 then ((k:Int)+(n:Int)).toNat else min (k:Int).toNat n)=min k n
 rw [if_neg (by first|lia|omega),Int.toNat_natCast]
end
end HT
namespace L2
open PySem PySem.Spec PyProof.Rows
noncomputable abbrev TO:=St→Hp→(Option Int→Hp→Prop)→Prop
noncomputable def PO (X:Cx) (e:Option Expr) (t:TO):Prop:=
 ∀ ⦃pins:List (Addr×Obj)⦄ (s:Shared) (σ:St) (H:Hp) (Q:Option Int→Hp→Prop),Inv X pins σ H s→t σ H Q →
  wpAny (model X.prog X.w) X.A (evalPart e X.env) (fun u s'=>Ex2 fun o H'=>Inv X pins σ H' s'∧IsPart u o∧Q o H') X.xe s
noncomputable def tNoPart:TO:=fun _ H Q=>Q none H
noncomputable def tPart (t:TE):TO:=fun σ H Q=>t σ H fun x H1=>∃i,x = .int i∧Q (some i) H1
section
variable {X:Cx} {e:Expr} {te:TE} {lo hi:Option Expr} {tl th:TO} {pos p2:Pos}
theorem po_none:PO X none tNoPart:=by
 intro pins s σ H Q I h
 rw [evalPart_none]
 exact wpAny_pure ⟨none,H,I, .none,h⟩
theorem po_some (h:PE X e te):PO X (some e) (tPart te):=by
 intro pins s σ H Q I hw
 rw [evalPart_some]
 refine thn (h s σ H _ I hw) fun u s1 hz_ => ?_
 refine Elim.el hz_ _ ?_
 clear hz_
 rintro x H1 I1 r1 q1
 obtain ⟨i,rfl,q⟩:=q1
 obtain ⟨t,rfl⟩:=r1
 exact ⟨some i,H1,I1, .int i t,q⟩
noncomputable def SlR (X:Cx) (r:V→Option Int→Option Int→Hp→VK→Prop):Prop:=
 ∀ ⦃pins:List (Addr×Obj)⦄ (s:Shared) (σ:St) (H:Hp) (x:V) (v vl vu:Value) (lo hi:Option Int) (sl:Addr) (Q:VK),Inv X pins σ H s→RelV x v→s.heap.IsSliceOf sl vl vu .none→IsPart vl lo→IsPart vu hi→r x lo hi H Q →
  Ex2 fun T id=>typeLookup (.type T) "__getitem__" = pure (some (.builtin id))∧s.TypeIs v T∧wpAny (model X.prog X.w) X.A (getItem v (.ref sl)) (EP X pins σ Q) X.xe s
theorem SlR.or {r r':V→Option Int→Option Int→Hp→VK→Prop} (h:SlR X r) (h':SlR X r'):SlR X (fun x lo hi H Q=>r x lo hi H Q∨r' x lo hi H Q):=by
 intro pins s σ H x v vl vu lo hi sl Q I rx hs pl pu q
 rcases q with q|q
 ·exact h s σ H x v vl vu lo hi sl Q I rx hs pl pu q
 ·exact h' s σ H x v vl vu lo hi sl Q I rx hs pl pu q
noncomputable def tSl (r:V→Option Int→Option Int→Hp→VK→Prop) (te:TE) (tl th:TO):TE:=fun σ H Q=>te σ H fun x H1=>tl σ H1 fun l H2=>th σ H2 fun u H3=>r x l u H3 Q
theorem pe_slice {r:V→Option Int→Option Int→Hp→VK→Prop} (hr:SlR X r) (he:PE X e te) (hl:PO X lo tl) (hu:PO X hi th):PE X (.Subscript e (.Slice lo hi none p2) pos) (tSl r te tl th):=by
 intro pins s σ H Q I h
 refine Subscript_ (thn (he s σ H _ I h) fun v s1 hz_ => ?_)
 refine Elim.el hz_ _ ?_
 clear hz_
 rintro x H1 I1 r1 q1
 refine wpAny_Slice (thn (hl s1 σ H1 _ I1 q1) fun vl s2 hz_=>Elim.el hz_ _ fun l H2 I2 pl q2=>thn (hu s2 σ H2 _ I2 q2) fun vu s3 hz_ => ?_)
 refine Elim.el hz_ _ ?_
 clear hz_
 rintro u H3 I3 pu q3
 rw [evalPart_none]
 refine wpAny_pure ?_
 have I4:Inv X pins σ H3 { s3 with heap:=s3.heap.push { cls := .type "slice",data := .fields #[vl,vu, .none] } }:=I3.kept (t':=s3.toks) fun b ob q=>Heap.get?_push_of_some _ q
 obtain ⟨T,id,hT,ht,hg⟩:=hr { s3 with heap:=s3.heap.push { cls := .type "slice",data := .fields #[vl,vu, .none] } } σ H3 x v vl vu l u s3.heap.objs.size Q I4 r1 (Heap.IsSliceOf.new ..) pl pu q3
 show wpAny (model X.prog X.w) X.A (subscriptTail e (.Slice lo hi none p2) v (.ref s3.heap.objs.size)) (EP X pins σ Q) X.xe { s3 with heap:=s3.heap.push { cls := .type "slice",data := .fields #[vl,vu, .none] } }
 exact tail_any (ops:=[.ref s3.heap.objs.size,v]) ht hT hg (by with_unfolding_all rfl)
noncomputable def cutV (xs:List V) (lo hi:Option Int):List V:=(xs.drop (HT.sIx xs.length 0 lo)).take (HT.sIx xs.length xs.length hi-HT.sIx xs.length 0 lo)
theorem cutV_length (xs:List V) (lo hi:Option Int):(cutV xs lo hi).length≤xs.length:=by
 unfold cutV
 rw [List.length_take,List.length_drop]
 (first|lia|omega)
end
end L2
namespace L2
open PySem PySem.Spec PyProof.Rows
noncomputable def ixN (n:Nat) (i:Int):Option Nat:=if 0≤i then (if i<n then some i.toNat else none) else if -(n:Int)≤i then some (i+n).toNat else none
noncomputable def atI {α:Type} (xs:List α) (i:Int):Option α:=(ixN xs.length i).bind fun j=>xs[j]?
theorem ixN_seq {n:Nat} {i:Int} {j:Nat} (h:ixN n i=some j):seqIndex? i n=some j∧j<n ∧ -(n:Int)≤i∧i<n:=by
 unfold ixN at h
 by_cases h0:0≤i
 ·rw [if_pos h0] at h
  by_cases h1:i<n
  ·rw [if_pos h1] at h
   have e:i.toNat=j:=Option.some.inj h
   exact ⟨by rw [seqIndex_of h0 h1,e],by first|lia|omega,by first|lia|omega,h1⟩
  ·rw [if_neg h1] at h;cases h
 ·rw [if_neg h0] at h
  by_cases h1 : -(n:Int)≤i
  ·rw [if_pos h1] at h
   have e:(i+n).toNat=j:=Option.some.inj h
   exact ⟨by rw [seqIndex_neg (by first|lia|omega) h1,e],by first|lia|omega,h1,by first|lia|omega⟩
  ·rw [if_neg h1] at h;cases h
theorem atI_get {α:Type} {xs:List α} {i:Int} {v : α} (h:atI xs i=some v):∃j,seqIndex? i xs.length=some j∧xs[j]? = some v∧j<xs.length ∧ -(xs.length:Int)≤i∧i<xs.length:=by
 unfold atI at h
 cases e:ixN xs.length i with
 | none=>rw [e] at h;cases h
 | some j=>
  rw [e] at h
  obtain ⟨h1,h2,h3,h4⟩:=ixN_seq e
  exact ⟨j,h1,h,h2,h3,h4⟩
theorem atI_nat {α:Type} {xs:List α} {j:Nat} {v : α} (h:xs[j]? = some v):atI xs (j:Int)=some v:=by
 have hj:j<xs.length:=(List.getElem?_eq_some_iff.mp h).1
 have e:ixN xs.length (j:Int)=some j:=by
  unfold ixN
  rw [if_pos (by first|lia|omega),if_pos (by first|lia|omega)];simp
 unfold atI;rw [e];exact h
noncomputable def PlainIx (b:Expr):Prop:=∀o i,subscripted b false o i=operate [o,i] (getItem o i)
noncomputable def IxR (X:Cx) (r:R2):Prop:=
 ∀ ⦃value slice:Expr⦄ ⦃pins:List (Addr×Obj)⦄ (s:Shared) (σ:St) (H:Hp) (x y:V) (v u:Value) (Q:VK),Inv X pins σ H s→RelV x v→RelV y u→r x y H Q →
  subscripted slice false v u=operate [v,u] (getItem v u)→wpAny (model X.prog X.w) X.A (subscriptTail value slice v u) (EP X pins σ Q) X.xe s
noncomputable def MtR (X:Cx) (id:String) (r:V→List V→Hp→VK→Prop):Prop:=
 ∀ ⦃pins:List (Addr×Obj)⦄ (s:Shared) (σ:St) (H:Hp) (x:V) (xs:List V) (v:Value) (us:List Value) (Q:VK),Inv X pins σ H s→RelV x v→Vals xs us→r x xs H Q →
  wpAny (model X.prog X.w) X.A (call (.builtin id) (v :: us)) (EP X pins σ Q) X.xe s
section
variable {X:Cx} {a b:Expr} {ta tb:TE} {pos:Pos}
theorem IxR.or {r r':R2} (h:IxR X r) (h':IxR X r'):IxR X (fun x y H Q=>r x y H Q∨r' x y H Q):=by
 intro value slice pins s σ H x y v u Q I rx ry q hs
 rcases q with q|q
 ·exact h s σ H x y v u Q I rx ry q hs
 ·exact h' s σ H x y v u Q I rx ry q hs
theorem pe_ix {r:R2} (hr:IxR X r) (ha:PE X a ta) (hb:PE X b tb) (hs:PlainIx b):PE X (.Subscript a b pos) (tOp r ta tb):=by
 intro pins s σ H Q I h
 exact Subscript_ (binT ha hb I h fun v u s2 x y H2 I2 rx ry q=>hr s2 σ H2 x y v u Q I2 rx ry q (hs _ _))
noncomputable def rIxL (K:PySem.W.Frag):R2:=fun x y H Q=>Ex4 fun p xs i v=>x = .ref p∧y = .int i∧SqL K H p xs∧atI xs i=some v∧Q v H
noncomputable def rIxT (K:PySem.W.Frag):R2:=fun x y H Q=>Ex4 fun p xs i v=>x = .ref p∧y = .int i∧SqT K H p xs∧atI xs i=some v∧Q v H
noncomputable def rIxS:R2:=fun x y H Q=>Ex3 fun z i c=>x = .str z∧y = .int i∧z.length≤sizeLine∧atI z.cps.toList i=some c∧Q (.str ⟨#[c]⟩) H
theorem ix_list:IxR X (rIxL X.K):=by
 intro value slice pins s σ H x y v u Q I rx ry h hs
 obtain ⟨p,xs,i,z,rfl,rfl,hq,he,q⟩:=h
 cases rx
 obtain ⟨t,rfl⟩:=ry
 obtain ⟨its,r,pl,hz⟩:=I.list hq
 obtain ⟨j,h1,h2,h3,h4,h5⟩:=atI_get he
 obtain ⟨w,ew,rw'⟩:=r.get h2
 have hl:=r.length
 have hn:=line63
 have fin:EP X pins σ Q w s:=⟨z,H,I,rw',q⟩
 by_cases h0:0≤i
 ·have hj:i.toNat=j:=by
   rw [seqIndex_of h0 h5] at h1
   exact Option.some.inj h1
  exact item_listR pl.isList h0 (by first|lia|omega) (by rw [hj];simpa using ew) fin hs
 ·have hj:(i+(its.toArray.size:Int)).toNat=j:=by
   rw [seqIndex_neg (by first|lia|omega) h4] at h1
   rw [List.size_toArray, ←hl]
   exact Option.some.inj h1
  exact subscriptTail_builtinR (x:=w) pl.isList.typeIs slot_list_getitem.lookup
   (wpAny_getItem_list_neg (Q:=fun r s'=>r=w∧EP X pins σ Q r s') pl.isList (by first|lia|omega) (by rw [List.size_toArray] <;> (first|lia|omega)) (by first|lia|omega) (by rw [hj];simpa using ew) ⟨rfl,fin⟩) hs
theorem ix_tup:IxR X (rIxT X.K):=by
 intro value slice pins s σ H x y v u Q I rx ry h hs
 obtain ⟨p,xs,i,z,rfl,rfl,hq,he,q⟩:=h
 cases rx
 obtain ⟨t,rfl⟩:=ry
 obtain ⟨its,r,pl,hz⟩:=I.tuple hq
 obtain ⟨j,h1,h2,h3,h4,h5⟩:=atI_get he
 obtain ⟨w,ew,rw'⟩:=r.get h2
 have hl:=r.length
 have hn:=line63
 have fin:EP X pins σ Q w s:=⟨z,H,I,rw',q⟩
 exact subscriptTail_builtinR (x:=w) pl.typeIs slot_tuple_getitem.lookup
  (getItem_tuple (j:=j) (Q:=fun r s'=>r=w∧EP X pins σ Q r s') pl (by first|lia|omega) (by first|lia|omega) (by rw [List.size_toArray, ←hl];exact h1) (by simpa using ew) ⟨rfl,fin⟩) hs
theorem ix_str:IxR X rIxS:=by
 intro value slice pins s σ H x y v u Q I rx ry h hs
 obtain ⟨z,i,c,rfl,rfl,hz,he,q⟩:=h
 obtain ⟨t,rfl⟩:=rx
 obtain ⟨t',rfl⟩:=ry
 obtain ⟨j,h1,h2,h3,h4,h5⟩:=atI_get he
 have hl:z.cps.toList.length=z.length:=by simp [Str.length]
 rw [hl] at h1 h4 h5
 have hn:=line63
 exact tail_any (typeIs_str s z t) slot_str_getitem.lookup (getItem_str (c:=c) (by
  have e1:decide (i < -(2 ^ 63:Int))=false:=decide_eq_false (by first|lia|omega)
  have e2:decide (i≥2 ^ 63)=false:=decide_eq_false (by first|lia|omega)
  rw [e1,e2,Bool.or_false]) (by rw [h1];simpa using h2) ⟨.str ⟨#[c]⟩,H,I.tok _,⟨_,rfl⟩,q⟩) hs
noncomputable def rIx (K:PySem.W.Frag):R2:=fun x y H Q=>rIxL K x y H Q∨rIxT K x y H Q∨rIxS x y H Q
theorem ix_seq:IxR X (rIx X.K):=ix_list.or (ix_tup.or ix_str)
theorem mapSeq_set (its:List Value) (n j:Nat) (u:Value):Obj.mapSeq (·.setIfInBounds j u) { cls := .type "list",data := .seq its.toArray n } = { cls := .type "list",data := .seq (its.set j u).toArray n }:=by
 simp [Obj.mapSeq]
theorem Inv.lst {pins:List (Addr×Obj)} {σ:St} {H:Hp} {s:Shared} {p:Addr} {xs:List V} (I:Inv X pins σ H s) (h:H p=some (.lst xs)) :
  ∃(its:List Value) (n:Nat),Vals xs its∧s.heap.get? p=some { cls := .type "list",data := .seq its.toArray n } ∧ xs.length≤sizeLine:=by
 obtain ⟨z,its,n,r,e⟩:=I.hok p _ h
 exact ⟨its,n,r,e,z⟩
theorem Inv.lstUpd {pins:List (Addr×Obj)} {σ:St} {H:Hp} {s:Shared} {p:Addr} {xs ys:List V} {its its':List Value} {n n':Nat} {f:Obj→Obj} (I:Inv X pins σ H s) (h:H p=some (.lst xs))
  (ho:s.heap.get? p=some { cls := .type "list",data := .seq its.toArray n }) (hf:f { cls := .type "list",data := .seq its.toArray n } = { cls := .type "list",data := .seq its'.toArray n' }) (r:Vals ys its') (hz:ys.length≤sizeLine) (t:Nat) :
  Inv X pins σ (upd H p (.lst ys)) { s with heap:=s.heap.update p f,toks:=t }:=by
 have e:(s.heap.update p f).get? p=some { cls := .type "list",data := .seq its'.toArray n' }:=by
  rw [Heap.get?_update_self f ho (by rw [hf] <;> rfl),hf]
 refine I.write (x:=p) (e:=p) (by rw [h];trivial) (.inl rfl) (fun b u hb q=>(Heap.get?_update_other _ _ (Ne.symm hb)).trans q) ⟨_,e⟩ ?_
 exact ⟨hz,its',n',r,e⟩
noncomputable def rSetL:V→V→V→Hp→(Hp→Prop)→Prop:=fun o i v H Q=>Ex4 fun p xs k j=>o = .ref p∧i = .int k∧H p=some (.lst xs)∧ixN xs.length k=some j∧Q (upd H p (.lst (xs.set j v)))
theorem set_list:PSet X rSetL:=by
 intro pins s σ H o i v ov iv u Q I ro ri rv h
 obtain ⟨p,xs,k,j,rfl,rfl,hp,hj,q⟩:=h
 cases ro
 obtain ⟨t,rfl⟩:=ri
 obtain ⟨its,n,r,ho,hz⟩:=I.lst hp
 obtain ⟨h1,h2,h3,h4⟩:=ixN_seq hj
 have hl:=r.length
 have hn:=line63
 have I':Inv X pins σ (upd H p (.lst (xs.set j v))) { s with heap:=s.heap.update p (Obj.mapSeq (·.setIfInBounds j u)) }:=
  I.lstUpd hp ho (mapSeq_set its n j u) (r.set rv j) (by rw [List.length_set];exact hz) s.toks
 by_cases h0:0≤k
 ·have hk:k.toNat=j:=by
   rw [seqIndex_of h0 h4] at h1
   exact Option.some.inj h1
  exact PySem.W.ki_setAt ho h0 (by first|lia|omega) (by rw [List.size_toArray, ←hl];exact h4) (by rw [hk];exact ⟨_,I',q⟩)
 ·have hk:(k+(its.toArray.size:Int)).toNat=j:=by
   rw [seqIndex_neg (by first|lia|omega) h3] at h1
   rw [List.size_toArray, ←hl]
   exact Option.some.inj h1
  exact PySem.W.ki_setBack ho (by first|lia|omega) (by rw [List.size_toArray, ←hl];exact h3) (by first|lia|omega) (by rw [hk];exact ⟨_,I',q⟩)
theorem slice_bounds (lo hi:Option Int) (n:Nat):(sliceBounds lo hi none n).1=((HT.sIx n 0 lo:Nat):Int)∧(sliceBounds lo hi none n).2.1=((HT.sIx n n hi:Nat):Int)∧(sliceBounds lo hi none n).2.2=1:=by
 refine ⟨?_,?_,rfl⟩
 ·cases lo with
  | none=>simp [sliceBounds,HT.sIx]
  | some i=>
   simp only [sliceBounds,HT.sIx,Option.getD_none,show (1:Int)>0 by decide,if_true]
   by_cases h:i<0
   ·simp only [h,if_true] <;> (first|lia|omega)
   ·simp only [h,if_false] <;> (first|lia|omega)
 ·cases hi with
  | none=>simp [sliceBounds,HT.sIx]
  | some i=>
   simp only [sliceBounds,HT.sIx,Option.getD_none,show (1:Int)>0 by decide,if_true]
   by_cases h:i<0
   ·simp only [h,if_true] <;> (first|lia|omega)
   ·simp only [h,if_false] <;> (first|lia|omega)
theorem slicePick_cut (its:List Value) (lo hi:Option Int):slicePick its.toArray lo hi none=((its.drop (HT.sIx its.length 0 lo)).take (HT.sIx its.length its.length hi-HT.sIx its.length 0 lo)).toArray:=by
 obtain ⟨h1,h2,h3⟩:=slice_bounds lo hi its.toArray.size
 unfold slicePick
 rw [h1,h2,h3]
 simp only [sliceRange_one,pick_run,List.size_toArray] <;> rfl
noncomputable def rSlL (K:PySem.W.Frag):V→Option Int→Option Int→Hp→VK→Prop:=fun x lo hi H Q=>Ex2 fun a xs=>x = .ref a∧SqL K H a xs∧∀p,H p=none→Q (.ref p) (upd H p (.lst (cutV xs lo hi)))
theorem sl_list:SlR X (rSlL X.K):=by
 intro pins s σ H x v vl vu lo hi sl Q I rx hs pl pu h
 obtain ⟨a,xs,rfl,hx,q⟩:=h
 cases rx
 obtain ⟨its,r,ht,hz⟩:=I.list hx
 have hlen:=r.length
 refine ⟨"list",_,slot_list_getitem.lookup,ht.isList.typeIs,?_⟩
 refine wpAny_getItem_list_slice ht.isList hs pl pu .none (by simp) ?_ (by rw [List.size_toArray] <;> (first|lia|omega))
 rw [slicePick_cut, ←hlen]
 refine ⟨.ref s.heap.objs.size,_,I.laid (t':=s.toks) (o := .lst (cutV xs lo hi)) (fun b ob q=>Heap.get?_push_of_some _ q) (Nat.le_refl _) ?_,rfl,q _ (I.hok.fresh (Nat.le_refl _))⟩
 exact ⟨Nat.le_trans (cutV_length xs lo hi) hz,_,0,(r.drop (HT.sIx xs.length 0 lo)).take (HT.sIx xs.length xs.length hi-HT.sIx xs.length 0 lo),Heap.get?_push_size _ rfl⟩
noncomputable def flatV:V→Bool
 | .non=>true
 | .bl _=>true
 | .int _=>true
 | .str _=>true
 | _=>false
noncomputable def eqV:V→V→Bool
 | .non, .non=>true
 | .bl a, .bl b=>a == b
 | .bl a, .int b=>(if a then 1 else 0) == b
 | .int a, .bl b=>a == (if b then 1 else 0)
 | .int a, .int b=>a == b
 | .str a, .str b=>a == b
 | _,_=>false
theorem eqAt_V {A:Around} {s:Shared} {y x:V} {u v:Value} (ry:RelV y u) (rx:RelV x v) (fy:flatV y=true) (fx:flatV x=true):SeqAt.EqAt A s u v (eqV y x):=by
 cases y with
 | non=>
  cases ry
  cases x with
  | non=>cases rx;exact SeqAt.EqAt.same _
  | bl b=>cases rx;exact SeqAt.EqAt.none_bool b
  | int b=>obtain ⟨t,rfl⟩:=rx;exact SeqAt.EqAt.none_int b t
  | str b=>obtain ⟨t,rfl⟩:=rx;exact SeqAt.EqAt.none_str b t
  | _=>exact absurd (show false=true from fx) Bool.false_ne_true
 | bl a=>
  cases ry
  cases x with
  | non=>cases rx;exact SeqAt.EqAt.bool_none a
  | bl b=>cases rx;exact SeqAt.EqAt.bool_bool a b
  | int b=>obtain ⟨t,rfl⟩:=rx;exact SeqAt.EqAt.bool_int a b t
  | str b=>obtain ⟨t,rfl⟩:=rx;exact SeqAt.EqAt.bool_str a b t
  | _=>exact absurd (show false=true from fx) Bool.false_ne_true
 | int a=>
  obtain ⟨t',rfl⟩:=ry
  cases x with
  | non=>cases rx;exact SeqAt.EqAt.int_none a t'
  | bl b=>cases rx;exact SeqAt.EqAt.int_bool a t' b
  | int b=>obtain ⟨t,rfl⟩:=rx;exact SeqAt.EqAt.int_int a t' b t
  | str b=>obtain ⟨t,rfl⟩:=rx;exact SeqAt.EqAt.int_str a t' b t
  | _=>exact absurd (show false=true from fx) Bool.false_ne_true
 | str a=>
  obtain ⟨t',rfl⟩:=ry
  cases x with
  | non=>cases rx;exact SeqAt.EqAt.str_none a t'
  | bl b=>cases rx;exact SeqAt.EqAt.str_bool a t' b
  | int b=>obtain ⟨t,rfl⟩:=rx;exact SeqAt.EqAt.str_int a t' b t
  | str b=>obtain ⟨t,rfl⟩:=rx;exact SeqAt.EqAt.str_str a t' b t
  | _=>exact absurd (show false=true from fx) Bool.false_ne_true
 | _=>exact absurd (show false=true from fy) Bool.false_ne_true
noncomputable def eqU (x:V) (u:Value):Bool:=match u with
 | .none=>eqV .non x
 | .bool b=>eqV (.bl b) x
 | .int i _=>eqV (.int i) x
 | .str z _=>eqV (.str z) x
 | _=>false
theorem eqU_of {x y:V} {u:Value} (r:RelV y u) (f:flatV y=true):eqU x u=eqV y x:=by
 cases y with
 | non=>cases r;rfl
 | bl b=>cases r;rfl
 | int i=>obtain ⟨t,rfl⟩:=r;rfl
 | str z=>obtain ⟨t,rfl⟩:=r;rfl
 | _=>exact absurd (show false=true from f) Bool.false_ne_true
theorem any_eqU {x:V} : ∀{xs:List V} {us:List Value},Vals xs us→xs.all flatV=true→us.any (eqU x)=xs.any fun y=>eqV y x
 | _,_, .nil,_=>rfl
 | y :: xs,u :: us, .cons r t,f=>by
  rw [List.all_cons,Bool.and_eq_true] at f
  rw [List.any_cons,List.any_cons,eqU_of r f.1,any_eqU t f.2]
theorem mem_eqAt {A:Around} {s:Shared} {x:V} {v:Value} (rx:RelV x v) (fx:flatV x=true):∀{xs:List V} {us:List Value},Vals xs us→xs.all flatV=true→∀u∈us,SeqAt.EqAt A s u v (eqU x u)
 | _,_, .nil,_=>fun u hu=>by cases hu
 | y :: xs,u :: us, .cons r t,f=>fun u' hu=>by
  rw [List.all_cons,Bool.and_eq_true] at f
  rcases List.mem_cons.mp hu with rfl|hu
  ·rw [eqU_of r f.1];exact eqAt_V r rx f.1 fx
  ·exact mem_eqAt rx fx t f.2 u' hu
noncomputable def inV (x:V) (xs:List V):Bool:=xs.any fun y=>eqV y x
noncomputable def rIn (K:PySem.W.Frag) (neg:Bool):R2:=fun x y H Q=>Ex2 fun p xs=>y = .ref p∧(SqL K H p xs∨SqT K H p xs)∧flatV x=true∧xs.all flatV=true∧Q (.bl (if neg then !inV x xs else inV x xs)) H
theorem op_in_seq:OpR X (compareOp .In) (rIn X.K false):=by
 intro pins s σ H x y v u Q I rx ry h
 obtain ⟨p,xs,rfl,hq,fx,fs,q⟩:=h
 cases ry
 rcases hq with hq|hq
 ·obtain ⟨its,r,pl,hz⟩:=I.list hq
  refine SeqAt.in_listAt (eqU x) pl.isList (fun w hw=>mem_eqAt rx fx r fs w (by simpa using hw)) ⟨.bl _,H,I,rfl,?_⟩
  rw [show its.toArray.any (eqU x)=its.any (eqU x) by simp,any_eqU r fs]
  exact q
 ·obtain ⟨its,r,pl,hz⟩:=I.tuple hq
  refine SeqAt.in_tupleAt (eqU x) pl (fun w hw=>mem_eqAt rx fx r fs w (by simpa using hw)) ⟨.bl _,H,I,rfl,?_⟩
  rw [show its.toArray.any (eqU x)=its.any (eqU x) by simp,any_eqU r fs]
  exact q
theorem CallR.or {f:Value} {r r':List V→Hp→VK→Prop} (h:CallR X f r) (h':CallR X f r'):CallR X f (fun xs H Q=>r xs H Q∨r' xs H Q):=by
 intro pins s σ H xs us Q I rs q
 rcases q with q|q
 ·exact h s σ H xs us Q I rs q
 ·exact h' s σ H xs us Q I rs q
theorem call_list_of:CallR X (.type "list") (fun xs H Q=>∃p ys,xs=[.ref p]∧(SqL X.K H p ys∨SqT X.K H p ys)∧∀l,H l=none→Q (.ref l) (upd H l (.lst ys))):=by
 intro pins s σ H xs us Q I r h
 obtain ⟨p,ys,rfl,hq,q⟩:=h
 obtain ⟨u,rfl,rx⟩:=vals1 r
 cases rx
 have fin:∀(its:List Value),Vals ys its→ys.length≤sizeLine→∀(h':Heap) (c':Nat),(∀b o',s.heap.get? b=some o'→h'.get? b=some o') →
   h'.get? s.heap.objs.size=some { cls := .type "list",dict:=none,data := .seq its.toArray c',slots := #[] } → EP X pins σ Q (.ref s.heap.objs.size) { s with heap:=h' }:=fun its r' hz h' c' kp e=>
  ⟨.ref s.heap.objs.size,_,I.laid (t':=s.toks) kp (Nat.le_refl _) (show ObjOk X.prog X.w _ h' _ (.lst ys) from ⟨hz,its,c',r',e⟩),rfl,q _ (I.hok.fresh (Nat.le_refl _))⟩
 rcases hq with hq|hq
 ·obtain ⟨its,r',pl,hz⟩:=I.list hq
  have hlen:=r'.length
  obtain ⟨o,ho,hc,n,hd⟩:=pl.isList
  exact call_list_seq p (.inl rfl) ho hc hd (fun h' c' kp e=>fin its r' hz h' c' kp e) (by simp only [List.size_toArray] <;> (first|lia|omega))
 ·obtain ⟨its,r',pl,hz⟩:=I.tuple hq
  have hlen:=r'.length
  obtain ⟨o,ho,hc,n,hd⟩:=pl
  exact call_list_seq p (.inr rfl) ho hc hd (fun h' c' kp e=>fin its r' hz h' c' kp e) (by simp only [List.size_toArray] <;> (first|lia|omega))
noncomputable def tyV (K:PySem.W.Frag) (T:String) (x:V) (H:Hp):Prop:=match x with
 | .str _=>T = "str"
 | .int _=>T = "int"
 | .ref p=>(T = "list" ∧ ∃xs,SqL K H p xs)∨(T = "tuple" ∧ ∃o,K.lookup p=some o∧o.cls = .type "tuple" ∧ o.dict=none) ∨
   (T = "dict" ∧ ((∃kvs,H p=some (.dK kvs))∨∃kvs,H p=some (.dT kvs)))∨(T = "set" ∧ Ex2 fun S n=>H p=some (.set S n))
 | _=>False
theorem tyV_is {pins:List (Addr×Obj)} {σ:St} {H:Hp} {s:Shared} {T:String} {x:V} {v:Value} (I:Inv X pins σ H s) (r:RelV x v) (ty:tyV X.K T x H) :
  s.TypeIs v T∧∀a,v = .ref a→∃ob,s.heap.get? a=some ob∧ob.dict=none:=by
 cases x with
 | str z=>
  obtain ⟨t,rfl⟩:=r
  cases (show T = "str" from ty)
  exact ⟨typeIs_str s z t,fun _ e=>nomatch e⟩
 | int i=>
  obtain ⟨t,rfl⟩:=r
  cases (show T = "int" from ty)
  exact ⟨typeIs_int s i t,fun _ e=>nomatch e⟩
 | ref p=>
  cases r
  rcases ty with ⟨rfl,xs,hq⟩|⟨rfl,o,hk,hc,hd⟩|⟨rfl,hk⟩|⟨rfl,S,n,hk⟩
  ·obtain ⟨its,_,pl,_⟩:=I.list hq
   refine ⟨pl.isList.typeIs,fun a e => ?_⟩
   cases e
   obtain ⟨o,n,e,c,hd,_⟩:=pl
   exact ⟨o,e,hd⟩
  ·refine ⟨⟨o,I.kIn p o hk,hc⟩,fun a e => ?_⟩
   cases e
   exact ⟨o,I.kIn _ o hk,hd⟩
  ·have z:∃o,s.heap.get? p=some o∧o.ExactDict:=by
    rcases hk with ⟨kvs,hk⟩|⟨kvs,hk⟩
    ·obtain ⟨_,_,_,_,o,_,_,e,ex,_⟩:=I.hok p _ hk
     exact ⟨o,e,ex⟩
    ·obtain ⟨_,_,_,_,o,_,_,e,ex,_⟩:=I.hok p _ hk
     exact ⟨o,e,ex⟩
   obtain ⟨o,e,ex⟩:=z
   refine ⟨⟨o,e,ex.1⟩,fun a e2 => ?_⟩
   cases e2
   exact ⟨o,e,ex.2.1⟩
  ·obtain ⟨o,_,_,_,e,ex,_⟩:=I.hok p _ hk
   refine ⟨⟨o,e,ex.1⟩,fun a e2 => ?_⟩
   cases e2
   exact ⟨o,e,ex.2.1⟩
 | _=>exact False.elim ty
noncomputable def tBM0 (K:PySem.W.Frag) (T:String) (r:V→List V→Hp→VK→Prop) (to:TE):TE:=fun σ H Q=>to σ H fun x H1=>tyV K T x H1∧r x [] H1 Q
noncomputable def tBM (K:PySem.W.Frag) (T:String) (r:V→List V→Hp→VK→Prop) (to:TE) (t:TA):TE:=fun σ H Q=>to σ H fun x H1=>tyV K T x H1∧t σ H1 fun xs H2=>r x xs H2 Q
variable {o e:Expr} {es:List Expr} {to:TE} {t:TA} {name:Str} {apos cpos:Pos} {T id:String} {r:V→List V→Hp→VK→Prop}
theorem pe_bm0 (pa:PlainAttrs T) (slot:Slot T name id) (hty:typeOf (.builtin id)=pure (.type "method_descriptor")) (hm:MtR X id r) (ho:PE X o to)
  (hbase:attributeBase o name X.env (eval o X.env)=eval o X.env:=by rfl) (hline:(apos.endLine == cpos.line)=true:=by rfl):PE X (.Call (.Attribute o name apos) [] [] cpos) (tBM0 X.K T r to):=by
 intro pins s σ H Q I h
 refine wpAny_Call_method0_late hbase hline (thn (ho s σ H _ I h) fun v s1 hz_ => ?_)
 refine Elim.el hz_ _ ?_
 clear hz_
 rintro x H1 I1 r1 ⟨ty,q1⟩
 obtain ⟨h1,h2⟩:=tyV_is I1 r1 ty
 exact ⟨T,id,pa,slot,hty,h1,h2,Calls.callWith_builtin rfl (PySem.evalArgs_none (hm s1 σ H1 x [] v [] Q I1 r1 .nil q1))⟩
theorem pe_bm (pa:PlainAttrs T) (slot:Slot T name id) (hty:typeOf (.builtin id)=pure (.type "method_descriptor")) (hm:MtR X id r) (ho:PE X o to) (ha:PA X (e :: es) t)
  (hbase:attributeBase o name X.env (eval o X.env)=eval o X.env:=by rfl)
  (hfew:((backTo cpos (starEach (e :: es) X.env)).all (fun x => !x.1)&&(backToKw cpos (keywordEach [] X.env)).all (fun x=>x.1.isSome)
   && decide ((e :: es).length+([]:List Keyword).length+(if ([]:List Keyword).isEmpty then 0 else 1)<30))=true:=by rfl)
  (hline:(apos.endLine == cpos.line)=true:=by rfl) (hs:starEach (e :: es) X.env=(false,eval e X.env) :: starEach es X.env:=by rfl) (hplain:(backTo cpos (starEach es X.env)).any (·.1)=false:=by rfl) :
  PE X (.Call (.Attribute o name apos) (e :: es) [] cpos) (tBM X.K T r to t):=by
 intro pins s σ H Q I h
 refine wpAny_Call_method_late hbase hfew hline rfl (thn (ho s σ H _ I h) fun v s1 hz_ => ?_)
 refine Elim.el hz_ _ ?_
 clear hz_
 rintro x H1 I1 r1 ⟨ty,q1⟩
 obtain ⟨h1,h2⟩:=tyV_is I1 r1 ty
 refine ⟨T,id,pa,slot,hty,h1,h2,?_⟩
 have hA:=ha (pos:=cpos) s1 σ H1 _ I1 q1
 rw [hs] at hA ⊢
 refine Calls.callWith_builtin (by show (false||(backTo cpos (starEach es X.env)).any (·.1))=false;rw [hplain] <;> rfl) (Calls.evalArgs_plain ?_)
 exact thn hA fun us s2 hz_=>Elim.el hz_ _ fun vs H2 I2 r2 q2=>hm s2 σ H2 x vs v us Q I2 r1 r2 q2
end
end L2
namespace L2
open PySem PySem.Spec PyProof.Rows
noncomputable def MtM (X:Cx) (id:String) (r:V→List V→Hp→VK→Prop):Prop:=
 ∀ ⦃pins:List (Addr×Obj)⦄ (s:Shared) (σ:St) (H:Hp) (x:V) (xs:List V) (v:Value) (us:List Value) (Q:VK),Inv X pins σ H s→RelV x v→Vals xs us→r x xs H Q →
  wpAny (model X.prog X.w) X.A (call (.builtin id) (v :: us)) (EP X pins σ Q) X.xe s
theorem Vals.hd {x:V} {xs:List V} {us:List Value} (h:Vals (x :: xs) us):∃u r,us=u :: r∧RelV x u∧Vals xs r:=by
 cases h with|cons a b=>exact ⟨_,_,rfl,a,b⟩
theorem Vals.one {x:V} {us:List Value} (h:Vals [x] us):∃u,us=[u]∧RelV x u:=by
 obtain ⟨u,r,rfl,a,h⟩:=h.hd
 cases h
 exact ⟨_,rfl,a⟩
theorem Vals.zero:∀{us:List Value},Vals [] us→us=[]
 | _, .nil=>rfl
theorem Vals.dropLast {xs:List V} {us:List Value} (h:Vals xs us):Vals xs.dropLast us.dropLast:=by
 induction h with
 | nil=>exact .nil
 | cons r t ih=>
  cases t with
  | nil=>exact .nil
  | cons q t'=>exact .cons r ih
theorem Vals.eraseIdx:∀{xs:List V} {us:List Value} (i:Nat),Vals xs us→Vals (xs.eraseIdx i) (us.eraseIdx i)
 | _,_,_, .nil => .nil
 | _,_,0, .cons _ t=>t
 | _,_,i+1, .cons r t => .cons r (Vals.eraseIdx i t)
theorem Vals.rep {xs:List V} {us:List Value} (h:Vals xs us):∀k:Nat,Vals (List.replicate k xs).flatten (List.replicate k us).flatten
 | 0 => .nil
 | k+1=>by
  rw [List.replicate_succ,List.replicate_succ,List.flatten_cons,List.flatten_cons]
  exact Vals.append h (Vals.rep h k)
theorem erase_last {α:Type} (l:List α):l.eraseIdx (l.length-1)=l.dropLast:=by
 induction l with
 | nil=>rfl
 | cons a r ih=>
  cases r with
  | nil=>rfl
  | cons b r=>
   have e:(a :: b :: r).length-1=((b :: r).length-1)+1:=by
    have h1:(a :: b :: r).length=r.length+2:=rfl
    have h2:(b :: r).length=r.length+1:=rfl
    (first|lia|omega)
   rw [e,List.eraseIdx_cons_succ,ih]
   all_goals rfl
theorem len_erase {α:Type} : ∀(l:List α) (i:Nat),(l.eraseIdx i).length≤l.length
 | [],_=>Nat.le_refl _
 | _ :: _,0=>Nat.le_succ _
 | _ :: r,i+1=>Nat.succ_le_succ (len_erase r i)
theorem foldl_rep (its:List Value):∀(k:Nat) (acc:List Value),
  List.foldl (fun x1 x2=>x1++x2) acc.toArray (List.replicate k its.toArray)=(acc++(List.replicate k its).flatten).toArray
 | 0,acc=>by simp
 | k+1,acc=>by
  have e:acc.toArray++its.toArray=(acc++its).toArray:=by simp
  have e2:(acc++its)++(List.replicate k its).flatten=acc++(List.replicate (k+1) its).flatten:=by
   rw [List.replicate_succ,List.flatten_cons,List.append_assoc]
  rw [←e2, ←foldl_rep its k (acc++its), ←e,List.replicate_succ,List.foldl_cons]
section
variable {X:Cx} {pins:List (Addr×Obj)} {σ:St} {H:Hp} {s:Shared} {l b:Addr} {xs ys zs:List V}
theorem Inv.lset {its its':List Value} {n:Nat} {f:Array Value→Array Value} {t':Nat} (I:Inv X pins σ H s) (hH:H l=some (.lst xs))
  (e:s.heap.get? l=some { cls := .type "list",data := .seq its.toArray n }) (hf:f its.toArray=its'.toArray) (hv:Vals ys its') (hz:ys.length≤sizeLine) :
  Inv X pins σ (upd H l (.lst ys)) { s with heap:=s.heap.update l (Obj.mapSeq f),toks:=t' }:=by
 have q:=PySem.IsL.update e f
 rw [hf] at q
 refine I.write (x:=l) (e:=l) (by rw [hH];exact trivial) (.inl rfl) (fun b' u hb hu=>(Heap.get?_update_other s.heap (Obj.mapSeq f) (Ne.symm hb)).trans hu) ⟨_,q⟩ ?_
 exact ⟨hz,its',_,hv,q⟩
theorem Inv.lnew {its:List Value} {t':Nat} (I:Inv X pins σ H s) (hv:Vals ys its) (hz:ys.length≤sizeLine) :
  Inv X pins σ (upd H s.heap.objs.size (.lst ys)) { s with heap:=s.heap.push { cls := .type "list",data := .seq its.toArray },toks:=t' }:=
 I.laid (fun _ _ q=>Heap.get?_push_of_some _ q) (Nat.le_refl _) ⟨hz,its,0,hv,Heap.get?_push_size _ rfl⟩
theorem Inv.fresh (I:Inv X pins σ H s):H s.heap.objs.size=none:=I.hok.fresh (Nat.le_refl _)
theorem Inv.lstM (I:Inv X pins σ H s) (hH:H l=some (.lst xs)):xs.length≤sizeLine∧∃(its:List Value) (n:Nat),Vals xs its∧xs.length=its.length∧s.heap.get? l=some { cls := .type "list",data := .seq its.toArray n }:=by
 obtain ⟨z,its,n,r,e⟩:=I.hok l _ hH
 exact ⟨z,its,n,r,r.length,e⟩
theorem notLongL {n:Nat} (h:n≤sizeLine):Builtin.List.listTooLong n=false:=by
 unfold Builtin.List.listTooLong
 exact decide_eq_false (by first|lia|omega)
end
section
variable {X:Cx}
noncomputable def rAppend:V→List V→Hp→VK→Prop:=fun x vs H Q=>Ex3 fun l xs y=>x = .ref l∧vs=[y]∧H l=some (.lst xs)∧xs.length<sizeLine∧Q .non (upd H l (.lst (xs++[y])))
theorem mt_append:MtM X "list.append" rAppend:=by
 intro pins s σ H x vs v us Q I rx rv h
 obtain ⟨l,xs,y,rfl,rfl,hH,hz,q⟩:=h
 cases rx
 obtain ⟨u,rfl,ru⟩:=rv.one
 obtain ⟨z,its,n,r,hl,e⟩:=I.lstM hH
 refine call_meets F.slot_list_append ⟨_,e,rfl⟩ F.entry_list_append (F.args_list_append_2 _ _) (PySem.list_append l its.toArray n u (by rw [List.size_toArray]; (first|lia|omega))) ⟨e,?_⟩
 refine ⟨.non,_,I.lset (its':=its++[u]) hH e (by simp) (r.append (.cons ru .nil)) ?_,rfl,q⟩
 rw [List.length_append,List.length_singleton]
 (first|lia|omega)
noncomputable def rExtend:V→List V→Hp→VK→Prop:=fun x vs H Q=>Ex4 fun l b xs zs=>x = .ref l∧vs=[.ref b]∧H l=some (.lst xs)∧H b=some (.lst zs)∧xs.length+zs.length≤sizeLine∧Q .non (upd H l (.lst (xs++zs)))
theorem mt_extend:MtM X "list.extend" rExtend:=by
 intro pins s σ H x vs v us Q I rx rv h
 obtain ⟨l,b,xs,zs,rfl,rfl,hH,hB,hz,q⟩:=h
 cases rx
 obtain ⟨u,rfl,ru⟩:=rv.one
 cases ru
 obtain ⟨z,its,n,r,hl,e⟩:=I.lstM hH
 obtain ⟨z2,its2,n2,r2,hl2,e2⟩:=I.lstM hB
 have hsz:its.toArray.size+its2.toArray.size≤sizeLine:=by rw [List.size_toArray,List.size_toArray]; (first|lia|omega)
 have hlong:¬(!its.toArray.isEmpty&&Builtin.List.listTooLong (its.toArray.size+its2.toArray.size))=true:=by
  rw [notLongL hsz,Bool.and_false]
  exact Bool.false_ne_true
 refine call_meets F.slot_list_extend ⟨_,e,rfl⟩ F.entry_list_extend (F.args_list_extend_2 _ _)
  (AutoSeq1.list_extend_list_list_0 l its.toArray n b its2.toArray n2 hlong (by rw [List.size_toArray]; (first|lia|omega)) (by first|lia|omega)) ⟨e,e2,?_⟩
 refine ⟨.non,_,I.lset (its':=its++its2) hH e (by simp) (r.append r2) ?_,rfl,q⟩
 rw [List.length_append]
 (first|lia|omega)
noncomputable def rPop:V→List V→Hp→VK→Prop:=fun x vs H Q=>Ex3 fun l xs y=>x = .ref l∧vs=[]∧H l=some (.lst xs)∧xs[xs.length-1]? = some y∧Q y (upd H l (.lst xs.dropLast))
theorem mt_pop:MtM X "list.pop" rPop:=by
 intro pins s σ H x vs v us Q I rx rv h
 obtain ⟨l,xs,y,rfl,rfl,hH,hy,q⟩:=h
 cases rx
 have hus:=rv.zero
 subst hus
 obtain ⟨z,its,n,r,hl,e⟩:=I.lstM hH
 obtain ⟨u,hu,ru⟩:=r.get hy
 have hy':its.toArray[its.toArray.size-1]? = some u:=by
  show its.toArray[its.length-1]? = some u
  rw [←Array.getElem?_toList, ←hl]
  exact hu
 refine call_meets F.slot_list_pop ⟨_,e,rfl⟩ F.entry_list_pop (F.args_list_pop_1 _) (MeetsSeq.list_pop_last l its.toArray n u hy' (by rw [List.size_toArray]; (first|lia|omega))) ⟨e,?_⟩
 refine ⟨y,_,I.lset (its':=its.dropLast) hH e ?_ r.dropLast ?_,ru,q⟩
 ·show its.toArray.eraseIdxIfInBounds (its.toArray.size-1)=its.dropLast.toArray
  rw [List.size_toArray,List.eraseIdxIfInBounds_toArray,erase_last]
 ·rw [List.length_dropLast]
  (first|lia|omega)
noncomputable def rPopAt:V→List V→Hp→VK→Prop:=fun x vs H Q=>Ex5 fun l xs i k y=>x = .ref l∧vs=[.int i]∧H l=some (.lst xs) ∧ -(2 ^ 63)≤i∧i<2 ^ 63∧seqIndex? i xs.length=some k∧xs[k]? = some y∧Q y (upd H l (.lst (xs.eraseIdx k)))
theorem mt_popAt:MtM X "list.pop" rPopAt:=by
 intro pins s σ H x vs v us Q I rx rv h
 obtain ⟨l,xs,i,k,y,rfl,rfl,hH,h1,h2,hk,hy,q⟩:=h
 cases rx
 obtain ⟨u,rfl,ru⟩:=rv.one
 obtain ⟨t,rfl⟩:=ru
 obtain ⟨z,its,n,r,hl,e⟩:=I.lstM hH
 obtain ⟨w,hw,rw'⟩:=r.get hy
 refine call_meets F.slot_list_pop ⟨_,e,rfl⟩ F.entry_list_pop (F.args_list_pop_2 _ _)
  (MeetsSeq.list_pop_at l its.toArray n i t k w (fitsIndex_both h1 h2) (by rw [List.size_toArray, ←hl];exact hk) (by rw [←Array.getElem?_toList];exact hw) (by rw [List.size_toArray]; (first|lia|omega))) ⟨e,?_⟩
 refine ⟨y,_,I.lset (its':=its.eraseIdx k) hH e ?_ (r.eraseIdx k) ?_,rw',q⟩
 ·show its.toArray.eraseIdxIfInBounds k=(its.eraseIdx k).toArray
  rw [List.eraseIdxIfInBounds_toArray]
 ·have:=len_erase xs k
  (first|lia|omega)
noncomputable def rCat:R2:=fun x y H Q=>Ex4 fun l b xs zs=>x = .ref l∧y = .ref b∧H l=some (.lst xs)∧H b=some (.lst zs)∧xs.length+zs.length≤sizeLine∧∀p,H p=none→Q (.ref p) (upd H p (.lst (xs++zs)))
theorem op_cat:OpR X (binaryOp .Add) rCat:=by
 intro pins s σ H x y v u Q I rx ry h
 obtain ⟨l,b,xs,zs,rfl,rfl,hH,hB,hz,q⟩:=h
 cases rx
 cases ry
 obtain ⟨z,its,n,r,hl,e⟩:=I.lstM hH
 obtain ⟨z2,its2,n2,r2,hl2,e2⟩:=I.lstM hB
 refine PySem.P.add_list e e2 ?_ (by rw [List.size_toArray,List.size_toArray]; (first|lia|omega))
 have ea:its.toArray++its2.toArray=(its++its2).toArray:=by simp
 rw [ea]
 exact ⟨.ref _,_,I.lnew (t':=s.toks) (r.append r2) (by rw [List.length_append]; (first|lia|omega)),rfl,q _ I.fresh⟩
noncomputable def rRep:R2:=fun x y H Q=>Ex3 fun l k xs=>x = .ref l∧y = .int k∧H l=some (.lst xs) ∧ -(2 ^ 63)≤k∧k<2 ^ 63∧xs.length*k.toNat≤sizeLine ∧
 ∀p,H p=none→Q (.ref p) (upd H p (.lst (List.replicate k.toNat xs).flatten))
theorem len_rep {α:Type} (xs:List α) (k:Nat):(List.replicate k xs).flatten.length=k*xs.length:=by
 induction k with
 | zero=>simp
 | succ k ih=>rw [List.replicate_succ,List.flatten_cons,List.length_append,ih,Nat.succ_mul,Nat.add_comm]
theorem op_rep:OpR X (binaryOp .Mult) rRep:=by
 intro pins s σ H x y v u Q I rx ry h
 obtain ⟨l,k,xs,rfl,rfl,hH,h1,h2,hz,q⟩:=h
 cases rx
 obtain ⟨t,rfl⟩:=ry
 obtain ⟨z,its,n,r,hl,e⟩:=I.lstM hH
 have hlen:its.toArray.size*k.toNat≤sizeLine:=by rw [List.size_toArray, ←hl];exact hz
 have hcap:¬its.toArray.size*k.toNat>(2 ^ 63-1) / 8:=by
  have:(sizeLine:Nat)≤(2 ^ 63-1) / 8:=by decide
  (first|lia|omega)
 have hfit:¬(!Builtin.List.listFitsIndex k)=true:=by
  rw [fitsIndex_both h1 h2]
  exact Bool.false_ne_true
 have hlong:¬Builtin.List.listTooLong (its.toArray.size*k.toNat)=true:=by
  rw [notLongL hlen]
  exact Bool.false_ne_true
 have hnew:List.foldl (fun x1 x2=>x1++x2) #[] (List.replicate (if its.toArray.isEmpty=true then 0 else k.toNat) its.toArray)=(List.replicate k.toNat its).flatten.toArray:=by
  have f0:∀m:Nat,List.foldl (fun x1 x2=>x1++x2) #[] (List.replicate m its.toArray)=(List.replicate m its).flatten.toArray:=fun m=>by
   have:=foldl_rep its m []
   rw [List.nil_append] at this
   exact this
  rw [f0]
  cases its with
  | nil=>simp
  | cons a r'=>rw [if_neg (by simp)]
 refine wpAny_binaryOp_repeat_ref (T := "list") (U := "int") (by decide) ⟨_,e,rfl⟩ (fun s'=>typeIs_int s' k t) noFill_list_mul F.fills_int_mul F.slot_int_rmul repeat_list F.slot_int_index.lookup
  (call_meets F.slot_int_rmul (typeIs_int s k t) F.entry_int_rmul (F.args_int_rmul_2 _ _) (int___rmul___int_list k t l its.toArray n)
   ⟨e,rfl,⟨_,e,rfl⟩,call_meets F.slot_list_mul ⟨_,e,rfl⟩ F.entry_list_mul (F.args_list_mul_2 _ _) (AutoListH.list___mul___list_int_3 l its.toArray n k t hfit hcap hlong) ⟨e,?_⟩⟩)
 rw [hnew]
 exact ⟨.ref _,_,I.lnew (t':=s.toks) (r.rep k.toNat) (by rw [len_rep,Nat.mul_comm];exact hz),rfl,q _ I.fresh⟩
end
section
variable {prog:Program} {w:World} {A:Around} {E:Value→Shared→Prop} {s:Shared}
set_option maxRecDepth 100000 in
end
section
variable {X:Cx}
end
end L2
namespace Att
open PySem PySem.W PySem.Calls PyProof.Rows
theorem ints_of_wellAll {P:Params} {h:Heap} : ∀(ns:List Int) (vs:List Value),WellAll P h vs (ns.map WData.int)→IntsAre vs ns:=by
 intro ns
 induction ns with
 | nil=>
  intro vs w
  rw [List.map_nil] at w
  cases w
  exact .nil
 | cons n ns ih=>
  intro vs w
  rw [List.map_cons] at w
  cases w with
  | cons a b=>
   cases a
   exact .cons _ _ (ih _ b)
theorem script_of {l:OpenLaw} {n:Nat} (hn:l.most=some n) {P:Params} {h:Heap} {args:List WData} {vals:List Value}
  (hpre:l.row.toRowW.claim.pre args=true) (hwl:WellAll P h vals args) :
  ∃a vs ns,vals=[Value.ref a]∧args=[WData.list (ns.map WData.int)]∧h.get? a=some { cls := .type "list",data := .seq vs.toArray } ∧ IntsAre vs ns∧ns.length≤n:=by
 have hsh:WShape.hasAll [] args [.list .int]=true:=(pre_splitW hpre).1
 have hc:l.pre.holds [] { args:=args } = true:=(pre_splitW hpre).2
 obtain ⟨d,r,rfl,h1,h2⟩:=hasAllW_cons hsh
 obtain rfl:=hasAllW_nil h2
 obtain ⟨xs,rfl,h3⟩:=hasW_list h1
 obtain ⟨ns,rfl⟩:=items_int h3
 have hlen:ns.length≤n:=by
  unfold OpenLaw.pre at hc
  have h4:(WTm.not (.lt (.lit (.int (n:Int))) (.len (.arg 0)))).holds [] { args:=[.list (ns.map .int)] } = true:=by
   have h4:=(holds_andW hc).1
   rw [hn] at h4
   exact h4
  have h5:=condW_of h4 (w_not (w_lt w_lit (w_len_list (w_arg rfl))))
  rw [List.length_map] at h5
  refine Nat.le_of_not_lt fun q => ?_
  have q':(n:Int)<((ns.length:Nat):Int):=by (first|lia|omega)
  first
   | (rw [decide_eq_true q'] at h5;exact absurd h5 (by decide))
   | (simp at h5; (first|lia|omega))
 cases hwl with
 | cons w1 w2=>
  cases w2
  cases w1 with
  | list ho hall=>exact ⟨_,_,ns,rfl,rfl,ho,ints_of_wellAll ns _ hall,hlen⟩
theorem post_true (l:OpenLaw) (args:List WData):l.row.toRowW.claim.post args (.bool true) args=true:=
 postW_of (r:=l.row.toRowW) (X:=(true == true))
  (show WShape.has [] (.bool true) .bool=true by first|rfl|decide|simp [WShape.has,WShape.arms,WShape.armsAll])
  (show (WTm.eq .res (.lit (.bool true))).value [] { args:=args,res:=some (.bool true),after:=args } = some (.bool (true == true)) from w_eq_bool (w_res rfl) w_lit) rfl
theorem attach_call {l:OpenLaw} {n:Nat} {q:Program} {loose:List Str} {XP:(Str→Option Value)→Heap→Prop} {YP:World→Heap→Prop} {d:DefRec}
  (hn:l.most=some n) (hdf:d.params.defaults=[])
  (call:∀(w:World) (s₀ s₁:Shared) (mg mb:Str→Option Value) (fa:Addr) (o:Obj) (pm cd doc:Value) (a:Addr) (vs:List Value) (ns:List Int),
   Ground q loose [] XP w s₀ mg mb s₁.heap→YP w s₁.heap →
   s₁.heap.get? fa=some o→o.data = .func (docDef d.name d.params d.body d.scope pm cd doc)→s₁.heap.CodeRec cd d.name→mg d.name=some (.ref fa) →
   s₁.heap.get? a=some { cls := .type "list",data := .seq vs.toArray } → IntsAre vs ns→ns.length≤n→s₁.gens = #[] →
   codeAny (model l.prog w) callerA (.call (.ref fa) ⟨[.ref a],[]⟩) (fun r s'=>r = .ok (.ret (.bool true))∧OldK s₁.heap s'.heap∧s'.os=s₁.os∧AllBare s'.gens) s₁) :
  WalkO q loose XP YP l.row.toRowW d [] (fun f vs=>PySem.call f vs):=by
 intro w s₀ s₁ mg mb G Y fa o pm cd doc dV kV ho hd hcd hD hmg hg args vals as hpre hlay hrd hwl hlo
 obtain rfl:dV = .none:=Dflts.none hD hdf
 obtain rfl:kV = .none:=Dflts.noKw hD
 obtain ⟨a,vs,ns,rfl,rfl,hobj,hints,hlen⟩:=script_of hn hpre hwl
 refine enter_call (codeAny_mono (call w s₀ s₁ mg mb fa o pm cd doc a vs ns G Y ho (fd_plain hd) hcd hmg hobj hints hlen hg) fun r s' hq => ?_)
 obtain ⟨rfl,h2,h3,h4⟩:=hq
 exact ⟨.inl ⟨.bool true, .bool true,[],rfl,fun _=>rfl, .bool true,post_true l _,fun _=>⟨List.Pairwise.nil,fun _ hm=>(nomatch hm)⟩⟩,h2,h3,h4⟩
section
variable {prog:Program} {w:World} {A:Around} {E:Value→Shared→Prop} {s:Shared} {K:Frag}
end
end Att
namespace L2
open PySem PySem.Spec PyProof.Rows
theorem vals_ints {vs:List Value} {ns:List Int} (h:IntsAre vs ns):Vals (ns.map V.int) vs:=by
 induction h with
 | nil=>exact .nil
 | cons n t h ih=>exact .cons ⟨t,rfl⟩ ih
noncomputable def Only (H:Hp):Prop:=∀b,H b=none∨Ex2 fun o xs=>H b=some (.frz o (.lst xs))
theorem law_call {P:Program} {w:World} {K:PySem.W.Frag} {mg mb:Str→Option Value} {CX:CXT} {k:Nat} {fa a:Addr} {fd:FuncData} {x:Str} {sp:Sp} {s₁:Shared} {vs:List Value} {ns:List Int}
  (KX:K.In s₁.heap) (hns:s₁.heap.Ns mainGlobals mg) (hb:s₁.heap.Ns builtinsNs mb) (hbb:∀x:Str,x ≠ "__name__" → mb x=bootBuiltins x) (hlim:s₁.heap.NoLimit) (hg:s₁.gens = #[])
  (ha:s₁.heap.get? a=some { cls := .type "list",data := .seq vs.toArray }) (hi:IntsAre vs ns) (hl:ns.length≤sizeLine) (hr:Room k callerA)
  (F:∀base:Heap,K.In base→base.Ns mainGlobals mg→FnOk P w K mg base CX k fa fd [x] sp) (hbind:∀(s:Shared) (u:Value),BindsTo s fd ⟨[u],[]⟩ [(x,u)])
  (hsp:∀H:Hp,Only H→SqL K H a (ns.map V.int)→sp [.ref a] H (fun v _=>v = .bl true) fun _ _ _=>False)
  (hCX:∀H e s',CX [] H s₁ (fun _ _ _=>False) e s'→False) :
  codeAny (model P w) callerA (.call (.ref fa) ⟨[.ref a],[]⟩) (fun r s'=>r = .ok (.ret (.bool true))∧OldK s₁.heap s'.heap∧s'.os=s₁.os∧AllBare s'.gens) s₁:=by
 have rv:=vals_ints hi
 have lenV:=hi.length
 have core:∀H:Hp,Only H→SqL K H a (ns.map V.int)→HOk P w H s₁.heap→(∀b,H b≠none→b=a)→(H a≠none→K.lookup a=none) →
   codeAny (model P w) callerA (.call (.ref fa) ⟨[.ref a],[]⟩) (fun r s'=>r = .ok (.ret (.bool true))∧OldK s₁.heap s'.heap∧s'.os=s₁.os∧AllBare s'.gens) s₁:=by
  intro H hO hS hok hA hK
  have base_of:∀{b:Addr} {o:Obj},s₁.heap.get? b=some o→H b=none→(hidT s₁.heap H).get? b=some o:=fun e n=>hidT_get e n
  have noA:∀{b:Addr} {o:Obj} {es:Array DictEntry} {ep:Nat},s₁.heap.get? b=some o→o.data = .dict es ep→H b=none:=fun {b o es ep} e d=>by
   cases q:H b with
   | none=>rfl
   | some u=>
    have e':b=a:=hA b (by rw [q];simp)
    subst e'
    rw [ha] at e;cases e
    have d':Data.seq vs.toArray _=Data.dict es ep:=d
    cases d'
  have nsK:∀{b:Addr} {m:Str→Option Value},s₁.heap.Ns b m→(hidT s₁.heap H).Ns b m:=fun {b m} ⟨o,es,ep,e,d,r⟩=>⟨o,es,ep,base_of e (noA e d),d,r⟩
  have hKb:K.In (hidT s₁.heap H):=fun b o e=>base_of (KX b o e) (by
   cases q:H b with
   | none=>rfl
   | some u=>
    have e':b=a:=hA b (by rw [q];simp)
    subst e'
    rw [hK (by rw [q];simp)] at e;cases e)
  have hM:Mod K mg (hidT s₁.heap H):=⟨hKb,nsK hns,⟨mb,nsK hb,hbb⟩,let ⟨mc,h1,h2⟩:=hlim; ⟨mc,nsK h1,h2⟩⟩
  have e0:Env0 P w K mg (hidT s₁.heap H) callerA [] s₁ H:=⟨rfl,hM,fun b o e=>of_hidT e,Nat.le_of_eq (hidT_size _ _),trivial,fun b hb=>absurd (show b∈([]:List Addr) from hb) (by simp),hok, .of_eq hg⟩
  refine codeAny_mono ((F _ hKb (nsK hns)).run callerA [] s₁ H ⟨[.ref a],[]⟩ [.ref a] [.ref a] _ _ hr e0 (hbind s₁ (.ref a)) (.cons rfl .nil) (hsp H hO hS)) fun r s' h => ?_
  cases r with
  | error e=>exact (hCX H e s' h).elim
  | ok fl=>
   cases fl with
   | next=>exact False.elim h
   | brk=>exact False.elim h
   | cont=>exact False.elim h
   | ret u=>
    obtain ⟨v,H',os,bare,un,hok',r',q⟩:=h
    have q':v = .bl true:=q
    subst q'
    obtain rfl:u=Value.bool true:=r'
    refine ⟨rfl,OldK.of_keep fun b o e => ?_,os,bare⟩
    cases q:H b with
    | none=>exact un.keep b o e q (by intro z;exact absurd (show b∈([]:List Addr) from z) (by simp)) (by simp)
    | some u=>
     rcases hO b with z|⟨ob,xs,z⟩
     ·rw [q] at z;cases z
     ·have z2:=un.frzs b ob _ z
      obtain ⟨e1,_⟩:=hok b _ z
      obtain ⟨e2,_⟩:=hok' b _ z2
      rw [e] at e1;cases e1
      exact e2
 cases hk:K.lookup a with
 | some o=>
  have e:=KX a o hk
  rw [ha] at e
  cases e
  refine core (fun _=>none) (fun _ => .inl rfl) (.inr ⟨_,vs.toArray,_,hk,rfl,rfl,rfl,by rw [List.size_toArray,lenV];exact hl,by simpa using rv⟩) (fun b u z=>by have z':(none:Option HO)=some u:=z;cases z') (fun b z=>absurd rfl z) fun z=>absurd rfl z
 | none=>
  refine core (fun b=>if b=a then some (.frz { cls := .type "list",data := .seq vs.toArray } (.lst (ns.map V.int))) else none) (fun b => ?_) (.inl (.inr ⟨{ cls := .type "list",data := .seq vs.toArray },if_pos rfl⟩)) (fun b u z => ?_) (fun b z => ?_) fun _=>hk
  ·by_cases hb:b=a
   ·exact .inr ⟨_,_,if_pos hb⟩
   ·exact .inl (if_neg hb)
  ·by_cases hb:b=a
   ·have z':=(if_pos hb).symm.trans z
    cases z'
    subst hb
    exact ⟨ha,by rw [List.length_map];exact hl,vs,_,rv,ha⟩
   ·have z':=(if_neg hb).symm.trans z
    cases z'
  ·by_cases hb:b=a
   ·exact hb
   ·exact absurd (if_neg hb) z
end L2
namespace L2
open PySem PySem.Spec PyProof.Rows
theorem walk_of {l:PySem.W.OpenLaw} {n k:Nat} {q:Program} {loose:List Str} {XP:(Str→Option Value)→Heap→Prop} {YP:World→Heap→Prop} {d:DefRec} {K:Params→PySem.W.Frag} {CX:World→CXT} {sp:World→Sp} {x:Str}
  (hn:l.most=some n) (hn2:n≤sizeLine) (hdf:d.params.defaults=[]) (hr:Room k callerA)
  (hY:∀(w:World) (h:Heap),YP w h→(K w.params).In h)
  (F:∀(w:World) (mg:Str→Option Value) (fa:Addr) (h:Heap),(K w.params).In h→h.Ns mainGlobals mg→mg d.name=some (.ref fa) →
   ∃fd:FuncData,(∀(s:Shared) (u:Value),BindsTo s fd ⟨[u],[]⟩ [(x,u)]) ∧
    ∀base:Heap,(K w.params).In base→base.Ns mainGlobals mg→FnOk l.prog w (K w.params) mg base (CX w) k fa fd [x] (sp w))
  (hsp:∀(w:World) (H:Hp) (a:Addr) (ns:List Int),ns.length≤n→Only H→SqL (K w.params) H a (ns.map V.int)→sp w [.ref a] H (fun v _=>v = .bl true) fun _ _ _=>False)
  (hCX:∀(w:World) (H:Hp) (s:Shared) (e:Value) (s':Shared),CX w [] H s (fun _ _ _=>False) e s'→False) :
  PySem.W.WalkO q loose XP YP l.row.toRowW d [] (fun f vs=>PySem.call f vs):=by
 refine Att.attach_call hn hdf fun w s₀ s₁ mg mb fa o pm cd doc a vs ns G Y ho hd hcd hmg hobj hints hlen hg => ?_
 have KX:=hY w _ Y
 obtain ⟨fd,hb,hF⟩:=F w mg fa _ KX G.T.g hmg
 exact law_call KX G.T.g G.T.b G.T.builtins G.T.nolimit hg hobj hints (Nat.le_trans hlen hn2) hr hF hb (fun H hO hS=>hsp w H a ns hlen hO hS) fun H e s'=>hCX w H s₁ e s'
end L2
namespace L2
open PySem PySem.Spec PyProof.Rows
noncomputable def defArgs (s:Stmt):Arguments:=match s with
 | .FunctionDef _ a _ _ _ _ _ _ _ _=>a
 | _=>{ posonlyargs:=[],args:=[],vararg:=none,kwonlyargs:=[],kw_defaults:=[],kwarg:=none,defaults:=[] }
noncomputable def defBody (s:Stmt):List Stmt:=match s with
 | .FunctionDef _ _ b _ _ _ _ _ _ _=>b
 | _=>[]
noncomputable def defScope (s:Stmt):Scope:=match s with
 | .FunctionDef _ _ _ _ _ _ sc _ _ _=>sc
 | _=>{ kind := .function,names:=[],isGenerator:=false,isCoroutine:=false }
noncomputable abbrev CX0:CXT:=fun _ _ _ _ _ _=>False
noncomputable abbrev E0:XK:=fun _ _ _=>False
theorem pass0 {X:Cx} : Passes CX0 X E0:=fun _ _ _ _ _ _ _ h=>h.elim
structure Fun (K:PySem.W.Frag) (x qual:Str) (st:Stmt) (f:Addr) (fd:FuncData):Prop where
 ex:∃(oc:Value) (od:Option Addr) (kV doc pm:Value) (an:Option Addr) (cdv ct:Value) (osl:Array (Option Value)),
  fd=PySem.W.fnOf x qual (defArgs st) (defBody st) (defScope st) .none kV doc pm an cdv ct∧K.lookup f=some ⟨oc,od, .func fd,osl⟩∧PySem.W.codeIn K cdv qual=true
 kp:PySem.W.keepIn K (.ref f)=true
section
variable {P:Program} {w:World} {K:PySem.W.Frag} {mg:Str→Option Value} {base:Heap}
theorem Fun.ok {x qual:Str} {st:Stmt} {f:Addr} {fd:FuncData} {N ps:List Str} {k:Nat} {sp:Sp} (F:Fun K x qual st f fd) (S:FnScope N ps (defScope st)) (len:∀vs H Q E,sp vs H Q E→vs.length=ps.length)
  (hbody:∀(cdv:Value) (A:Around) (outer:List Env) (s:Shared) (H:Hp) (vs:List V) (Q:VK) (E:XK),Room k (A.deeper (envOfC qual (defScope st) s.heap.objs.size f cdv))→sp vs H Q E →
   ∃t,PSs (cxOf CX0 P w K mg base N qual (defScope st) f cdv A outer s H E).nox (defBody st) t∧t { nx:=fun _ H'=>Q .non H',rt:=Q } (start N vs) H):FnOk P w K mg base CX0 (k+1) f fd ps sp:=by
 obtain ⟨oc,od,kV,doc,pm,an,cdv,ct,osl,rfl,lk,hcd⟩:=F.ex
 refine fn_of lk hcd S len fun A outer s H vs Q E hr hsp => ?_
 obtain ⟨t,h,q⟩:=hbody cdv A outer s H vs Q E hr hsp
 exact ⟨t,h.nox,q⟩
theorem Fun.binds {x qual:Str} {st:Stmt} {f:Addr} {fd:FuncData} {ps:List Str} (F:Fun K x qual st f fd)
  (h:∀(kV doc pm:Value) (an:Option Addr) (cdv ct:Value) (us:List Value),us.length=ps.length→bindArgs (PySem.W.fnOf x qual (defArgs st) (defBody st) (defScope st) .none kV doc pm an cdv ct) ⟨us,[]⟩=pure (ps.zip us)):Binds K fd ps []:=by
 obtain ⟨oc,od,kV,doc,pm,an,cdv,ct,osl,rfl,lk,hcd⟩:=F.ex
 exact .all (h kV doc pm an cdv ct)
theorem fun_mk {x qual:Str} {st:Stmt} {f:Addr} {oc:Value} {od an:Option Addr} {osl:Array (Option Value)} {kV doc pm cdv ct:Value} (l:K.lookup f=some ⟨oc,od, .func (PySem.W.fnOf x qual (defArgs st) (defBody st) (defScope st) .none kV doc pm an cdv ct),osl⟩)
  (c:PySem.W.codeIn K cdv qual=true) (k:PySem.W.keepIn K (.ref f)=true):Fun K x qual st f (PySem.W.fnOf x qual (defArgs st) (defBody st) (defScope st) .none kV doc pm an cdv ct):=⟨⟨oc,od,kV,doc,pm,an,cdv,ct,osl,rfl,l,c⟩,k⟩
end
theorem hu_of {A:Around} {k:Nat} (hr:Room k A):A.units+1<cLine:=Nat.lt_of_le_of_lt (Nat.add_le_add_left (by decide:1≤64) _) hr.units
section
variable {X:Cx}
theorem pv (i:Nat) {x:Str} {pos:Pos} (hN:X.N[i]? = some x:=by rfl) (hv:Vis X.env.scope x:=by first|exact Or.inl rfl|exact Or.inr (Or.inl rfl)|exact Or.inr (Or.inr rfl)) (hd:(x == ("__debug__" : Str))=false:=by decide)
  (hcd:(x == ("__classdict__" : Str))=false:=by decide):PE X (.Name x pos) (tVar i):=pe_var hN hv hd hcd
end
theorem iteF {A B:Prop} (h:B):if false=true then A else B:=by
 rw [if_neg Bool.false_ne_true]
 exact h
theorem iteT {A B:Prop} (h:A):if true=true then A else B:=by
 rw [if_pos rfl]
 exact h
theorem ite2 {c A B:Prop} [Decidable c] (h1:c→A) (h2:¬c→B):if c then A else B:=by
 by_cases h:c
 ·rw [if_pos h]
  exact h1 h
 ·rw [if_neg h]
  exact h2 h
noncomputable def Same (H H':Hp):Prop:=∀b o,H b=some o→H' b=some o
theorem Same.refl (H:Hp):Same H H:=fun _ _ h=>h
theorem Same.trans {H H1 H2:Hp} (a:Same H H1) (b:Same H1 H2):Same H H2:=fun c o h=>b c o (a c o h)
theorem Same.free {H H':Hp} (e:Same H H') {l:Addr} (h:H' l=Option.none):H l=Option.none:=by
 cases q:H l with
 | none=>rfl
 | some o=>
  rw [e l o q] at h
  cases h
theorem Same.seq {K:PySem.W.Frag} {H H':Hp} {a:Addr} {xs:List V} (e:Same H H') (h:SqL K H a xs):SqL K H' a xs:=by
 rcases h with (h|⟨o,h⟩)|h
 ·exact .inl (.inl (e _ _ h))
 ·exact .inl (.inr ⟨o,e _ _ h⟩)
 ·exact .inr h
end L2
namespace L2
open PySem PySem.Spec PyProof.Rows
section
variable {X:Cx}
theorem call_lenD:CallR X (.builtin "len") (fun xs H Q=>∃a kvs,xs=[V.ref a]∧H a=some (.dK kvs)∧Q (.int kvs.length) H):=by
 intro pins s σ H xs us Q I r h
 obtain ⟨a,kvs,rfl,ha,q⟩:=h
 obtain ⟨u,rfl,ru⟩:=vals1 r
 cases ru
 exact d_len I (.inl ha) fun t s' I'=>⟨.int kvs.length,H,I',⟨t,rfl⟩,q⟩
end
end L2
namespace L2
open PySem PySem.Spec PyProof.Rows
section
variable {κ:Type} [DecidableEq κ]
theorem valV_not {kvs:List (κ×V)} {k : κ} (h:valV kvs k=none):¬k∈kvs.map (·.1):=by
 intro m
 obtain ⟨p,hp,e⟩:=List.mem_map.mp m
 have q:(kvs.any fun kv=>decide (kv.1=k))=true:=List.any_eq_true.mpr ⟨p,hp,decide_eq_true e⟩
 rw [valV_any,h] at q
 exact absurd q (by simp)
theorem valV_in {kvs:List (κ×V)} {k : κ} {v:V} (h:valV kvs k=some v):k∈kvs.map (·.1):=by
 have q:(kvs.any fun kv=>decide (kv.1=k))=true:=by
  rw [valV_any,h]
  all_goals rfl
 obtain ⟨p,hp,e⟩:=List.any_eq_true.mp q
 exact List.mem_map.mpr ⟨p,hp,of_decide_eq_true e⟩
theorem nd_snoc:∀{l:List κ} {k : κ},l.Nodup→¬k∈l→(l++[k]).Nodup
 | [],k,_,_=>by simp
 | a :: r,k,h,hk=>by
  obtain ⟨h1,h2⟩:=List.nodup_cons.mp h
  show (a :: (r++[k])).Nodup
  refine List.nodup_cons.mpr ⟨fun m => ?_,nd_snoc h2 fun m=>hk (List.mem_cons.mpr (Or.inr m))⟩
  rcases List.mem_append.mp m with q|q
  ·exact h1 q
  ·exact hk (List.mem_cons.mpr (Or.inl (List.mem_singleton.mp q).symm))
end
end L2
set_option maxHeartbeats 4000000
namespace L2
open PySem PySem.Spec PyProof.Rows
noncomputable abbrev noE:Value→Shared→Prop:=fun _ _=>False
theorem noE_to {α:Type} {M:Model} {A:Around} {t:Sem α} {Q : α→Shared→Prop} {E:Value→Shared→Prop} {s:Shared} (h:wpAny M A t Q noE s):wpAny M A t Q E s:=
 wpAny_mono h (fun _ _ q=>q) fun _ _ z=>z.elim
theorem addr_ne {a b:Addr} {n:Nat} (h:a<n) (h':n≤b):a≠b:=fun e=>absurd (Nat.lt_of_lt_of_le h h') (by rw [e];exact Nat.lt_irrefl _)
theorem addr_ne' {a b:Addr} {n:Nat} (h:a<n) (h':n≤b):b≠a:=fun e=>addr_ne h h' e.symm
theorem closure_go (env:Env):∀(names:List (Str×NameKind)) (acc:List (Str×Addr)),
  (∀y∈names,y.2 = .free→∃c,env.cells.lookup y.1=some c)→(∀n c,acc.lookup n=some c→env.cells.lookup n=some c) →
  ∃cl,(forIn names acc fun (x:Str×NameKind) (cs:List (Str×Addr))=>(if (x.2 == NameKind.free)=true then do
    let a ←cellOf env x.1
    pure (ForInStep.yield ((x.1,a) :: cs)) else pure (ForInStep.yield cs):Sem (ForInStep (List (Str×Addr)))))=pure cl ∧
   (∀n c,cl.lookup n=some c→env.cells.lookup n=some c)∧(∀n c,acc.lookup n=some c→∃c',cl.lookup n=some c')∧∀y∈names,y.2 = .free→∃c,cl.lookup y.1=some c
 | [],acc,_,h2=>⟨acc,rfl,h2,fun _ c h=>⟨c,h⟩,fun _ h=>nomatch h⟩
 | (n,k) :: r,acc,h1,h2=>by
  have hr:∀y∈r,y.2 = .free→∃c,env.cells.lookup y.1=some c:=fun y hy=>h1 y (List.mem_cons_of_mem _ hy)
  by_cases hk:k = .free
  ·subst hk
   obtain ⟨c,hc⟩:=h1 (n, .free) List.mem_cons_self rfl
   obtain ⟨cl,e,p1,p2,p3⟩:=closure_go env r ((n,c) :: acc) hr (fun m d hm=>by
    rw [List.lookup_cons] at hm
    by_cases q:m == n
    ·rw [q] at hm
     have:m=n:=by simpa using q
     subst this
     cases hm
     exact hc
    ·have q':(m == n)=false:=by simpa using q
     rw [q'] at hm
     exact h2 m d hm)
   refine ⟨cl,?_,p1,fun m d hm => ?_,fun y hy hf => ?_⟩
   ·rw [List.forIn_cons]
    rw [←e]
    show (cellOf env n >>= fun a=>_) >>= _=_
    unfold cellOf
    rw [hc]
    rfl
   ·by_cases q:m=n
    ·subst q
     exact p2 m c (by rw [List.lookup_cons];simp)
    ·exact p2 m d (by rw [List.lookup_cons];simp -iota only [beq_eq_false_iff_ne.mpr q];exact hm)
   ·rcases List.mem_cons.mp hy with rfl|hy
    ·exact p2 n c (by rw [List.lookup_cons];simp)
    ·exact p3 y hy hf
  ·refine Elim.el (closure_go env r acc hr h2) _ ?_
   rintro cl e p1 p2 p3
   refine ⟨cl,?_,p1,p2,fun y hy hf => ?_⟩
   ·rw [List.forIn_cons, ←e]
    have hb:(k == NameKind.free)=false:=by simpa using hk
    simp -iota only [hb,Bool.false_eq_true,if_false]
    rfl
   ·rcases List.mem_cons.mp hy with rfl|hy
    ·exact absurd hf hk
    ·exact p3 y hy hf
theorem closure_of {scope:Scope} {env:Env} (h:∀y∈scope.names,y.2 = .free→∃c,env.cells.lookup y.1=some c) :
  ∃cl,closureFor scope env=pure cl∧(∀n c,cl.lookup n=some c→env.cells.lookup n=some c)∧∀y∈scope.names,y.2 = .free→∃c,cl.lookup y.1=some c:=by
 obtain ⟨cl,e,p1,_,p3⟩:=closure_go env scope.names [] h (fun n c h=>by simp at h)
 refine ⟨cl,?_,p1,p3⟩
 unfold closureFor
 refine Eq.trans ?_ (congrArg (fun m=>m >>= fun (cs:List (Str×Addr))=>(pure cs:Sem _)) e)
 rfl
noncomputable def testsOf (ifs:List Expr) (env:Env):Sem Bool:=forIn ifs true fun c r=>if r=true then do let ok ←isTrue c env (eval c env);pure (ForInStep.yield ok) else pure (ForInStep.yield r)
section
variable {prog:Program} {w:World} {A:Around} {R:Result→Shared→Prop} {s:Shared}
theorem comp_turns {elt target iter:Expr} {ifs:List Expr} {scope:Scope} {pos:Pos} {it acc:Value} {env:Env} (I:Nat→Shared→Prop)
  (turn:∀n s,I n s→wpAny (model prog w) A (pyNext it) (fun r s1=>match r with
   | none=>R (.ok .next) s1
   | some v=>wpAny (model prog w) A (letOwnedTupleGo target it v) (fun _ s1'=>wpAny (model prog w) A (assign target env v) (fun _ s2=>
     wpAny (model prog w) A (testsOf ifs env) (fun ok s3=>
      if ok=true then wpAny (model prog w) A (eval elt env) (fun x s4=>
       wpAny (model prog w) A (call (.builtin "list.append") [acc,x]) (fun _ s5=>∃m,m<n∧I m s5) noE s4) noE s3
      else ∃m,m<n∧I m s3) noE s2) noE s1') noE s1) noE s)
  (n:Nat) (h:I n s):codeAny (model prog w) A (.compLoop (.ListComp elt [⟨target,iter,ifs,0⟩] scope pos) 0 it acc env) R s:=by
 refine codeAny_loop rfl I (fun n s hI=>(show wpAny _ A (Sem.onRaise (compTurn (.ListComp elt [⟨target,iter,ifs,0⟩] scope pos) 0 it acc env) (fun x=>do noteFrame x env;theTreesLotGoes x)) _ _ s from wpAny_noted ?_)) n h
 rw [compTurn_list]
 refine wpAny_bind (wpAny_standAt (wpAny_bind (noE_to (thn (turn n s hI) fun r s1 h1 => ?_))))
 cases r with
 | none=>exact wpAny_pure h1
 | some v=>
  refine wpAny_bind (noE_to (thn h1 fun _ s1' h1' => ?_))
  refine wpAny_bind (noE_to (thn h1' fun _ s2 h2=>wpAny_bind (noE_to (thn h2 fun ok s3 h3 => ?_))))
  cases ok with
  | false=>exact wpAny_pure ⟨rfl,h3⟩
  | true=>exact wpAny_bind (wpAny_bind (noE_to (thn h3 fun x s4 h4=>wpAny_bind (noE_to (thn h4 fun _ s5 h5=>wpAny_pure (wpAny_pure ⟨rfl,h5⟩))))))
end
theorem HOk.adopt {P:Program} {w:World} {H:Hp} {h:Heap} {a:Addr} {o:HO} (x:HOk P w H h) (hn:H a=none) (new:ObjOk P w (upd H a o) h a o):HOk P w (upd H a o) h:=fun b u e=>by
 by_cases hb:b=a
 ·subst hb;rw [upd_same] at e;cases e;exact new
 ·rw [upd_ne hb] at e
  exact (x b u e).stay (fun c v _ q=>q) (fun c q=>by rw [upd_ne (ne_of_none q hn)];exact q) fun c xs q=>by rw [upd_ne (ne_of_none q hn)];exact q
structure CompOk (X:Cx) (scope:Scope) (Nc Fc:List Str) (js:List Nat):Prop where
 kind:scope.kind = .function
 nocell:∀y∈scope.names,y.2 ≠ .cell
 names:∀y∈scope.names,y.2 = .local→scope.names.lookup y.1=some .local
 free:∀y∈scope.names,y.2 = .free→X.env.kindOf y.1=some .cell∨X.env.kindOf y.1=some .free
 frees:∀(k:Nat) (x:Str),Fc[k]? = some x→scope.names.lookup x=some .free∧∃j,js[k]? = some j∧X.N[j]? = some x
 lens:js.length=Fc.length
noncomputable def cvals (σ:St) (js:List Nat):St:=js.map fun j=>(σ[j]?).join
noncomputable def cxC (X:Cx) (Nc Fc:List Str) (scope:Scope) (cl:List (Str×Addr)) (C:Addr) (s:Shared) (H:Hp) (fp:List Addr):Cx:=
 { X with N:=Nc++Fc,s₀:=s,H₀:=H,env:=compEnvC scope cl C X.env,outer:=X.stack,stack:=X.stack,ex:=fp,fn:=fun _=>false,pn:=[],xe:=noE }
theorem relabel_free {env:Env} : ∀{names:List (Str×NameKind)} {x:Str} {k:NameKind},(names.map fun (n,k)=>if (k == NameKind.free&&env.scope.kind == .function&&env.kindOf n == some .cell) then (n,NameKind.cell) else (n,k)).lookup x=some k →
  names.lookup x=some k∨(k = .cell∧names.lookup x=some .free)
 | [],_,_,h=>by simp at h
 | (n,k0) :: r,x,k,h=>by
  have ih := @relabel_free env r x k
  rw [List.map_cons] at h
  dsimp only at h
  by_cases hx:x=n
  ·subst hx
   by_cases hc:(k0 == NameKind.free&&env.scope.kind == .function&&env.kindOf x == some .cell)=true
   ·rw [if_pos hc] at h
    simp -iota only [List.lookup_cons,beq_self_eq_true] at h
    have hk:k0 = .free:=by
     have:=(Bool.and_eq_true _ _).mp ((Bool.and_eq_true _ _).mp hc).1
     simpa using this.1
    subst hk
    cases h
    exact .inr ⟨rfl,by simp only [List.lookup_cons,beq_self_eq_true]⟩
   ·rw [if_neg hc] at h
    simp -iota only [List.lookup_cons,beq_self_eq_true] at h ⊢
    exact .inl h
  ·have hb:(x == n)=false:=beq_eq_false_iff_ne.mpr hx
   have e:List.lookup x ((if (k0 == NameKind.free&&env.scope.kind == .function&&env.kindOf n == some .cell)=true then (n,NameKind.cell) else (n,k0)) :: (r.map fun (n,k)=>if (k == NameKind.free&&env.scope.kind == .function&&env.kindOf n == some .cell) then (n,NameKind.cell) else (n,k)))=some k:=h
   have e2:List.lookup x (r.map fun (n,k)=>if (k == NameKind.free&&env.scope.kind == .function&&env.kindOf n == some .cell) then (n,NameKind.cell) else (n,k))=some k:=by
    by_cases hc:(k0 == NameKind.free&&env.scope.kind == .function&&env.kindOf n == some .cell)=true
    ·rw [if_pos hc] at e;simp -iota only [List.lookup_cons,hb] at e;exact e
    ·rw [if_neg hc] at e;simp -iota only [List.lookup_cons,hb] at e;exact e
   simp -iota only [List.lookup_cons,hb]
   exact ih e2
theorem relabel_of_free {env:Env} : ∀{names:List (Str×NameKind)} {x:Str},names.lookup x=some .free →
  (names.map fun (n,k)=>if (k == NameKind.free&&env.scope.kind == .function&&env.kindOf n == some .cell) then (n,NameKind.cell) else (n,k)).lookup x=some .cell ∨
  (names.map fun (n,k)=>if (k == NameKind.free&&env.scope.kind == .function&&env.kindOf n == some .cell) then (n,NameKind.cell) else (n,k)).lookup x=some .free
 | [],_,h=>by simp at h
 | (n,k0) :: r,x,h=>by
  have ih := @relabel_of_free env r x
  rw [List.map_cons]
  dsimp only
  by_cases hx:x=n
  ·subst hx
   simp -iota only [List.lookup_cons,beq_self_eq_true] at h
   cases h
   by_cases hc:(NameKind.free == NameKind.free&&env.scope.kind == .function&&env.kindOf x == some .cell)=true
   ·rw [if_pos hc];left;simp only [List.lookup_cons,beq_self_eq_true]
   ·rw [if_neg hc];right;simp only [List.lookup_cons,beq_self_eq_true]
  ·have hb:(x == n)=false:=beq_eq_false_iff_ne.mpr hx
   simp -iota only [List.lookup_cons,hb] at h
   by_cases hc:(k0 == NameKind.free&&env.scope.kind == .function&&env.kindOf n == some .cell)=true
   ·rw [if_pos hc];simp -iota only [List.lookup_cons,hb];exact ih h
   ·rw [if_neg hc];simp -iota only [List.lookup_cons,hb];exact ih h
theorem mem_of_lookup':∀{l:List (Str×NameKind)} {x:Str} {k:NameKind},l.lookup x=some k→(x,k)∈l:=fun h=>PySem.mem_of_lookup h
section
variable {X:Cx} {pins:List (Addr×Obj)} {σ:St} {H:Hp} {s:Shared} {scope:Scope} {Nc Fc:List Str} {js:List Nat} {cl:List (Str×Addr)} {C D:Addr} {fp:List Addr}
theorem cxC_kind {x:Str} : (cxC X Nc Fc scope cl C s H fp).env.kindOf x=(scope.names.map fun (n,k)=>if (k == NameKind.free&&X.env.scope.kind == .function&&X.env.kindOf n == some .cell) then (n,NameKind.cell) else (n,k)).lookup x:=rfl
theorem cxC_ok (I:Inv X pins σ H s) (c:CompOk X scope Nc Fc js) (hsub:∀n c,cl.lookup n=some c→X.env.cells.lookup n=some c) (hhas:∀y∈scope.names,y.2 = .free→∃c,cl.lookup y.1=some c)
  (hC:s.heap.objs.size≤C) (hf:∀b∈fp,FpOk X pins H b) (ho:∀b∈fp,∃o,s.heap.get? b=some o):(cxC X Nc Fc scope cl C s H fp).Ok where
 mod:=I.ok.mod
 kind:=c.kind
 glob:=I.ok.glob
 blt:=I.ok.blt
 above:=hC
 inj:=fun x y a h1 h2=>I.ok.inj x y a (hsub _ _ h1) (hsub _ _ h2)
 has:=fun x hx=>by
  have key:scope.names.lookup x=some .free:=by
   rw [cxC_kind] at hx
   rcases hx with h|h
   ·rcases relabel_free h with q|⟨_,q⟩
    ·exact absurd rfl (c.nocell _ (mem_of_lookup' q))
    ·exact q
   ·rcases relabel_free h with q|⟨q,_⟩
    ·exact q
    ·cases q
  exact hhas _ (mem_of_lookup' key) rfl
 cab:=fun _ _ h=>nomatch h
 hd:=I.ok.hd
 frames:=I.ok.frames
 stk := .inl rfl
 exf:=fun b hb=>⟨fun z=>by
   obtain ⟨o,e⟩:=ho b hb
   exact addr_ne (Heap.lt_size e) hC z,fun x a e z=>(hf b hb).2.2.2.2.1 x a (hsub _ _ e) z⟩
 bs:=fun b o e=>I.bs b o e
 bsz:=Nat.le_trans I.ok.bsz I.sz
 noex:=fun b o e hb=>by
  rcases (hf b hb).2.2.2.1 with z|z
  ·exact I.ok.noex b o e z
  ·exact absurd (Nat.lt_of_lt_of_le (Heap.lt_size (I.ok.bs b o e).1) z) (Nat.lt_irrefl _)
 exfs:=fun b hb z=>by
  rcases List.mem_cons.mp (I.stkSub b z) with q|q
  ·exact (hf b hb).2.1 q
  ·exact (hf b hb).2.2.1 q
 funs:=I.stack
 frf:=I.stkFree
theorem cxC_inv (I:Inv X pins σ H s) (c:CompOk X scope Nc Fc js) (hsub:∀n c,cl.lookup n=some c→X.env.cells.lookup n=some c) (hhas:∀y∈scope.names,y.2 = .free→∃c,cl.lookup y.1=some c)
  (hC:s.heap.objs.size≤C) (hD:s.heap.objs.size≤D) (hDC:D≠C) (hf:∀b∈fp,FpOk X pins H b) (ho:∀b∈fp,∃o,s.heap.get? b=some o) {h1:Heap} {t1:Nat} {m:Str→Option Value} {ob:Obj}
  (hk:∀b o,s.heap.get? b=some o→h1.get? b=some o) (hm:h1.Ns C m) (hob:h1.get? D=some ob) (hnc:∀v,ob.data ≠ .cell v) :
  Inv (cxC X Nc Fc scope cl C s H fp) [(D,ob)] (List.replicate Nc.length none++cvals σ js) H { s with heap:=h1,toks:=t1 }:=by
 refine ⟨cxC_ok I c hsub hhas hC hf ho,rfl,I.bare,Un.kept hk,⟨m,hm,fun i x v e1 e2 e3 => ?_⟩,fun x a e => ?_,I.hok.fresh hC,fun x a e=>I.freeC x a (hsub x a e),fun p hp => ?_,I.hok.kept hk,?_⟩
 ·have e1:(Nc++Fc)[i]? = some x:=e1
  have e2:(List.replicate Nc.length none++cvals σ js)[i]? = some (some v):=e2
  by_cases hi:i<Nc.length
  ·rw [List.getElem?_append_left (by simpa using hi),List.getElem?_replicate] at e2
   split at e2 <;> cases e2
  ·rw [List.getElem?_append_right (by first|lia|omega)] at e1
   rw [List.getElem?_append_right (by rw [List.length_replicate]; (first|lia|omega)),List.length_replicate] at e2
   refine Elim.el (c.frees _ _ e1) _ ?_
   rintro hfr j hj hN
   have hv : σ[j]? = some (some v):=by
    unfold cvals at e2
    rw [List.getElem?_map,hj] at e2
    have e2:some ((σ[j]?).join)=some (some v):=e2
    cases q : σ[j]? with
    | none=>rw [q] at e2;cases e2
    | some z=>rw [q] at e2;cases e2;rfl
   have kx:=c.free _ (mem_of_lookup' hfr) rfl
   refine Elim.el (I.loc) _ ?_
   rintro m0 hn0 hl0
   have vis:Vis X.env.scope x:=by
    rcases kx with k|k
    ·exact .inr (.inl k)
    ·exact .inr (.inr k)
   refine Elim.el (hl0 j x v hN hv vis) _ ?_
   rintro u ru lk
   refine ⟨u,ru, .inr ⟨?_,?_⟩⟩
   ·rw [cxC_kind];exact relabel_of_free hfr
   ·obtain ⟨a,ha⟩:=hhas _ (mem_of_lookup' hfr) rfl
    refine ⟨a,ha,?_⟩
    rcases lk with ⟨k,_⟩|⟨_,a',ha',hcell⟩
    ·rcases kx with q|q <;> (rw [k] at q;cases q)
    ·have e:=hsub _ _ ha
     dsimp only at e
     rw [ha'] at e;cases e
     exact hcell.keeps hk
 ·obtain ⟨v,z⟩:=I.cell x a (hsub x a e)
  exact ⟨v,z.keeps hk⟩
 ·have hp:p=(D,ob):=by
   have:p∈[(D,ob)]:=hp
   simpa using this
  subst hp
  refine ⟨hob,I.hok.fresh hD,hDC,fun z => ?_,hnc⟩
  have z:D∈frs X.stack:=z
  rcases List.mem_cons.mp (I.stkSub D z) with q|q
  ·exact addr_ne' I.lt hD q
  ·exact I.nofs hD q
 ·show (List.replicate Nc.length none++cvals σ js).length=(Nc++Fc).length
  unfold cvals
  rw [List.length_append,List.length_append,List.length_replicate,List.length_map,c.lens]
end
noncomputable def PTs (X:Cx) (ifs:List Expr) (t:TT):Prop:=
 ∀ ⦃pins:List (Addr×Obj)⦄ (s:Shared) (σ:St) (H:Hp) (Q:Bool→Hp→Prop),Inv X pins σ H s→t σ H Q→wpAny (model X.prog X.w) X.A (testsOf ifs X.env) (TP X pins σ Q) X.xe s
noncomputable def tYes:TT:=fun _ H Q=>Q true H
theorem pts_nil {X:Cx} : PTs X [] tYes:=fun _ _ _ H _ I h=>wpAny_tests_nil ⟨H,I,h⟩
theorem pts_one {X:Cx} {c:Expr} {t:TT} (h:PT X c t):PTs X [c] t:=fun pins s σ H Q I hw=>wpAny_tests_one (h s σ H Q I hw)
noncomputable def CompW (J:It) (n:Nat) (js:List Nat) (g:TG) (tc:TT) (te:TE) (σ:St) (H1:Hp) (fin:List V→Hp→Prop):Prop:=
 ∃W:Nat→Nat→List V→Hp→Prop,(∃m,W 0 m [] H1)∧∀i m ys H,W i m ys H →
  (J.stop i H∧fin ys H) ∨
  (J.go i H∧ys.length<sizeLine∧∀x H',J.yld i H x H'→g x (List.replicate n none++cvals σ js) H' fun σ2 H2=>tc σ2 H2 fun b H3=>
   if b=true then te σ2 H3 fun y H4=>∃m',m'<m∧W (i+1) m' (ys++[y]) H4 else ∃m',m'<m∧W (i+1) m' ys H3)
noncomputable def tComp (wi:TI) (n:Nat) (js:List Nat) (g:TG) (tc:TT) (te:TE):TE:=fun σ H Q=>wi σ H fun J H1=>
 CompW J n js g tc te σ H1 fun ys H2=>∀p,H2 p=none→Q (.ref p) (upd H2 p (.lst ys))
noncomputable def Gk (n:Nat) (g:TG):Prop:=∀x σ H Q,g x σ H Q→g x σ H fun σ' H'=>Q σ' H'∧(∀j,n≤j → σ'[j]? = σ[j]?) ∧ σ'.length = σ.length
noncomputable def Gks (n:Nat) (g:TGs):Prop:=∀x σ H Q,g x σ H Q→g x σ H fun σ' H'=>Q σ' H'∧(∀j,n≤j → σ'[j]? = σ[j]?) ∧ σ'.length = σ.length
theorem gk_name {n i:Nat} (h:i<n:=by decide):Gk n (gName i):=fun x σ H Q q=>⟨q,fun j hj=>List.getElem?_set_ne (by first|lia|omega),List.length_set⟩
theorem gks_nil {n:Nat} : Gks n gNil:=fun x σ H Q q=>⟨q.1,q.2,fun _ _=>rfl,rfl⟩
theorem gks_cons {n:Nat} {t:TG} {u:TGs} (h1:Gk n t) (h2:Gks n u) (mt:∀x σ H Q Q',(∀a b,Q a b→Q' a b)→t x σ H Q→t x σ H Q') (mu:∀x σ H Q Q',(∀a b,Q a b→Q' a b)→u x σ H Q→u x σ H Q'):Gks n (gCons t u):=fun x σ H Q q=>by
 obtain ⟨v,r,e,q⟩:=q
 refine ⟨v,r,e,mt _ _ _ _ _ (fun σ1 H1 z => ?_) (h1 _ _ _ _ q)⟩
 refine Elim.el (z) _ ?_
 rintro z k1 l1
 exact mu _ _ _ _ _ (fun σ2 H2 ⟨z2,k2,l2⟩=>⟨z2,fun j hj=>(k2 j hj).trans (k1 j hj),l2.trans l1⟩) (h2 _ _ _ _ z)
theorem gk_tup {K:PySem.W.Frag} {n m:Nat} {t:TGs} (h:Gks n t):Gk n (gTup K m t):=fun x σ H Q q=>by
 obtain ⟨a,xs,e,h1,h2,q⟩:=q
 exact ⟨a,xs,e,h1,h2,h _ _ _ _ q⟩
theorem comp_core {X:Cx} {elt tg iter:Expr} {ifs:List Expr} {scope:Scope} {pos:Pos} {Nc Fc:List Str} {js:List Nat} {wi:TI} {g:TG} {tc:TT} {te:TE} {use:Option (Value→Sem Unit)} {QV:Value→Shared→Prop}
  (hcalm:X.calm=true) (c:CompOk X scope Nc Fc js) (hi:PI X tg iter wi)
  (hg:∀cl C s H fp,PG (cxC X Nc Fc scope cl C s H fp) tg g) (htc:∀cl C s H fp,PTs (cxC X Nc Fc scope cl C s H fp) ifs tc) (hte:∀cl C s H fp,PE (cxC X Nc Fc scope cl C s H fp) elt te) (gk:Gk Nc.length g)
  {pins:List (Addr×Obj)} {s:Shared} {σ:St} {H:Hp} {fin:List V→Hp→Prop} (I:Inv X pins σ H s)
  (h:wi σ H fun J H1=>CompW J Nc.length js g tc te σ H1 fin)
  (behind:∀(C D:Addr) (m:Str→Option Value) (ys:List V) (H2:Hp) (s2:Shared),Inv X pins σ (upd H2 D (.lst ys)) s2→s2.heap.Ns C m→FpOk X pins (upd H2 D (.lst ys)) C→H2 D=none→fin ys H2→compPost (model X.prog X.w) X.A X.xe use QV (.ref D) C (.ok .next) s2)
  (hs:∀x,foldedSetIterable iter X.env x=pure x) :
  wpAny (model X.prog X.w) X.A (comprehension (.ListComp elt [⟨tg,iter,ifs,0⟩] scope pos) scope X.env (firstIterPos [⟨tg,iter,ifs,0⟩] pos) (newList []) false (eval iter X.env) use) QV X.xe s:=by
 obtain ⟨cl,hclos,hsub,hhas⟩:=closure_of (scope:=scope) (env:=X.env) fun y hy hf=>I.ok.has y.1 (c.free y hy hf)
 refine wpAny_comprehension_free (use:=use) rfl hs hclos c.kind c.names ?_
 refine thn (hi s σ H _ I h) fun v s1 h1=>thn h1 fun itv s2 h2 => ?_
 obtain ⟨it,fp,tn,J,H2,e,I2,T,st2,f2,W,⟨m0,w0⟩,turn⟩:=h2
 subst e
 refine wpAny_newObj_type (wpAny_newFunctionEnv c.nocell (by intro y hy;simp at hy) (fun h1 hns1 hsb1 => ?_) c.kind)
 dsimp only at hns1 hsb1 ⊢
 generalize hG:s2.heap.push { cls := .type "list",dict:=none,data := .seq ([]:List Value).toArray } = G at hns1 hsb1 ⊢
 have hC:G.objs.size=s2.heap.objs.size+1:=by rw [←hG,Heap.size_push]
 have hDC:s2.heap.objs.size≠G.objs.size:=by rw [hC];exact Nat.ne_of_lt (Nat.lt_succ_self _)
 have hle:s2.heap.objs.size≤G.objs.size:=by rw [hC];exact Nat.le_succ _
 have old:∀b o,s2.heap.get? b=some o→h1.get? b=some o:=fun b o e=>
  hsb1.extBut b o (addr_ne (Heap.lt_size e) hle) (Heap.get?_push_of_some _ (hG ▸ Heap.get?_push_of_some _ e))
 have hacc:h1.PlainList s2.heap.objs.size #[]:=⟨_,hsb1.extBut _ _ hDC (Heap.get?_push_of_some _ (hG ▸ Heap.get?_push_size _ rfl))⟩
 obtain ⟨n0,hacc⟩:=hacc
 have fo:∀b∈fp,∃o,s2.heap.get? b=some o:=fun b hb=>let ⟨o,e,_⟩:=T.obj 0 _ st2 b hb; ⟨o,e⟩
 have hDfp:∀b∈fp,b<s2.heap.objs.size:=fun b hb=>let ⟨o,e⟩:=fo b hb;Heap.lt_size e
 let Xc:Cx:=cxC X Nc Fc scope cl G.objs.size s2 H2 fp
 let D:Addr:=s2.heap.objs.size
 have stat:∀{pl:List (Addr×Obj)} {H':Hp},(∀p∈pl,p.1=D)→(∀b∈fp,H' b=none)→∀b∈fp,FpOk Xc pl H' b:=fun {pl H'} hp hn b hb=>by
  refine ⟨hn b hb,?_,?_, .inl hb,fun x a e => ?_,fun p hq => ?_⟩
  ·exact addr_ne (hDfp b hb) hle
  ·exact (cxC_ok I2 c hsub hhas hle f2 fo).exfs b hb
  ·exact (f2 b hb).2.2.2.2.1 x a (hsub _ _ e)
  ·have q:p∈([]:List (Addr×Obj))++pl:=hq
   rw [hp p (by simpa using q)]
   exact addr_ne' (hDfp b hb) (Nat.le_refl _)
 have loop:∀t1,codeAny (model X.prog X.w) X.A (.compLoop (.ListComp elt [⟨tg,iter,ifs,0⟩] scope pos) 0 (.ref it) (.ref s2.heap.objs.size) (compEnvC scope cl G.objs.size X.env))
   (compPost (model X.prog X.w) X.A X.xe use QV (.ref s2.heap.objs.size) G.objs.size) { s2 with heap:=h1,toks:=t1 }:=by
  intro t1
  refine comp_turns (fun n s'=>∃i ys H' its k,Inv Xc [(D,{ cls := .type "list",data := .seq its k })] (List.replicate Nc.length none++cvals σ js) H' s'∧Vals ys its.toList∧ys.length≤sizeLine∧tn i s'.heap∧(∀b∈fp,H' b=none)∧W i n ys H') ?_ m0
   ⟨0,[],H2, #[],n0,cxC_inv I2 c hsub hhas hle (Nat.le_refl _) hDC f2 fo old hns1 hacc (fun _ z=>nomatch z), .nil,Nat.zero_le _,T.keep _ _ _ st2 (fun b hb o e=>old b o e),fun b hb=>(f2 b hb).1,w0⟩
  intro n s3 hz_
  refine Elim.el hz_ _ ?_
  clear hz_
  rintro i ys H3 its k I3 rv hz st3 fr3 w3
  have onlyD:∀p∈[(D,({ cls := .type "list",data := .seq its k } : Obj))],p.1=D:=fun p hp=>congrArg Prod.fst (List.mem_singleton.mp hp)
  rcases turn i n ys H3 w3 with ⟨stop,qn⟩|⟨go,hlt,step⟩
  ·refine thn (T.done Xc rfl rfl rfl hcalm i _ s3 _ H3 noE I3 (stat onlyD fr3) st3 stop) fun r s4 hz_ => ?_
   refine Elim.el hz_ _ ?_
   clear hz_
   rintro hr I4
   subst hr
   show compPost _ _ _ _ _ _ _ _ _
   obtain ⟨hDo,hDn,hDne,hDfs,_⟩:=I4.pin (D,_) (List.mem_append_right _ List.mem_cons_self)
   have hDC':D≠G.objs.size:=hDC
   refine Elim.el (I4.loc) _ ?_
   rintro mC hmC _
   have hCn:H3 G.objs.size=none:=I4.free
   have neD:∀b o,s2.heap.get? b=some o→b≠D:=fun b o e=>Nat.ne_of_lt (Heap.lt_size e)
   have u:Un (frs X.stack) fp H2 H3 s2.heap s4.heap:=I4.base
   have hdn2:H2 D=none:=I2.hok.fresh (Nat.le_refl _)
   have u':Un (frs X.stack) fp H2 (upd H3 D (.lst ys)) s2.heap s4.heap:=
    ⟨u.keep,u.slot,fun b o e n hx=>by rw [upd_ne (neD b o e)];exact u.free b o e n hx,u.there,
      fun b xs e=>by rw [upd_ne (ne_of_none e hdn2)];exact u.tups b xs e,fun b o xs e=>by rw [upd_ne (ne_of_none e hdn2)];exact u.frzs b o xs e,
      fun b ps e=>by rw [upd_ne (ne_of_none e hdn2)];exact u.tbls b ps e⟩
   have hok':HOk X.prog X.w (upd H3 D (.lst ys)) s4.heap:=I4.hok.adopt hDn ⟨hz,its.toList,k,rv,by simpa using hDo⟩
   have hch:∀b∈fp,(b∈X.ex∨X.s₀.heap.objs.size≤b)∧b≠X.env.locals∧(∀x c,X.env.cells.lookup x=some c→c≠b)∧∀p∈X.pn++pins,p.1≠b:=fun b hb=>
    ⟨(f2 b hb).2.2.2.1,(f2 b hb).2.1,(f2 b hb).2.2.2.2.1,(f2 b hb).2.2.2.2.2⟩
   have os4:s4.os=s2.os:=I4.os
   have J4:Inv X pins σ (upd H3 D (.lst ys)) s4:=I2.call' (H':=upd H3 D (.lst ys)) os4 u' hok' I4.bare hch
   refine behind G.objs.size D mC ys H3 s4 J4 hmC (I2.fpOk hle ?_) hDn qn
   rw [upd_ne (Ne.symm hDC')]
   exact hCn
  ·refine thn (T.item Xc rfl rfl rfl hcalm i _ s3 _ H3 noE I3 (stat onlyD fr3) st3 go) fun r s4 hz_ => ?_
   refine Elim.el hz_ _ ?_
   clear hz_
   rintro u hr h4
   subst hr
   show wpAny _ _ (letOwnedTupleGo tg (.ref it) u) _ _ _
   refine thn h4 fun _ s5 hz_ => ?_
   refine Elim.el hz_ _ ?_
   clear hz_
   rintro x H5 I5 r5 y5 st5 fr5
   have I5':=I5.pinned (stat onlyD fr5) (T.obj _ _ st5)
   refine thn (hg cl G.objs.size s2 H2 fp s5 _ H5 x u _ I5' r5 (gk _ _ _ _ (step x H5 y5))) fun _ s6 hz_ => ?_
   refine Elim.el hz_ _ ?_
   clear hz_
   rintro σ6 H6 I6 q6 kσ kl
   refine thn (htc cl G.objs.size s2 H2 fp s6 σ6 H6 _ I6 q6) fun b s7 hz_ => ?_
   refine Elim.el hz_ _ ?_
   clear hz_
   rintro H7 I7 q7
   have later:∀{σ':St} {H':Hp} {s':Shared},Inv Xc ([(D,({ cls := .type "list",data := .seq its k } : Obj))]++pinsAt fp s5.heap) σ' H' s'→tn (i+1) s'.heap∧∀b∈fp,H' b=none:=fun {σ' H' s'} Iz=>by
    refine ⟨T.keep _ _ _ st5 fun b hb o e=>(Iz.pin (b,o) (List.mem_append_right _ (List.mem_append_right _ (mem_pinsAt hb e)))).1,fun b hb => ?_⟩
    refine Elim.el (T.obj _ _ st5 b hb) _ ?_
    rintro o e d
    exact (Iz.pin (b,o) (List.mem_append_right _ (List.mem_append_right _ (mem_pinsAt hb e)))).2.1
   have back:∀{pl:List (Addr×Obj)} {H':Hp} {s':Shared},Inv Xc pl σ6 H' s'→Inv Xc pl (List.replicate Nc.length none++cvals σ js) H' s':=fun {pl H' s'} Iz=>by
    refine Iz.weak (by rw [←kl]) fun j v hj => ?_
    by_cases hn:j<Nc.length
    ·rw [List.getElem?_append_left (by simpa using hn),List.getElem?_replicate] at hj
     split at hj <;> cases hj
    ·rw [kσ j (by first|lia|omega)];exact hj
   cases b with
   | false=>
    rw [if_neg Bool.false_ne_true] at q7 ⊢
    refine Elim.el (q7) _ ?_
    rintro m' hm' w7
    obtain ⟨l1,l2⟩:=later I7
    exact ⟨m',hm',i+1,ys,H7,its,k,back I7.unpinned,rv,hz,l1,l2,w7⟩
   | true=>
    rw [if_pos rfl] at q7 ⊢
    refine thn (hte cl G.objs.size s2 H2 fp s7 σ6 H7 _ I7 q7) fun yv s8 hz_ => ?_
    refine Elim.el hz_ _ ?_
    clear hz_
    rintro y H8 I8 r8 q8
    refine Elim.el (q8) _ ?_
    rintro m' hm' w8
    obtain ⟨hDo,hDn,hDne,hDfs,_⟩:=I8.pin (D,_) (List.mem_append_right _ (List.mem_append_left _ List.mem_cons_self))
    obtain ⟨l1,l2⟩:=later I8
    have hits:its.size=ys.length:=by
     have e1:=rv.length
     simp -iota only [Array.length_toList] at e1
     (first|lia|omega)
    refine wpAny_list_append_plain (hsz:=by first|lia|omega) ⟨k,hDo⟩ fun h9 hl9 hs9 => ?_
    obtain ⟨k9,hD9⟩:=hl9
    have pinF:∀p∈pinsAt fp s5.heap,p.1≠D:=fun p hp=>by
     obtain ⟨hb,_⟩:=of_pinsAt hp
     exact addr_ne (hDfp _ hb) (Nat.le_refl _)
    have I8':Inv Xc (pinsAt fp s5.heap) σ6 H8 s8:=I8.pins_of fun p hp=>I8.pin p (List.mem_append_right _ (List.mem_append_right _ hp))
    have I9:Inv Xc (pinsAt fp s5.heap) σ6 H8 { s8 with heap:=h9,toks:=s8.toks }:=I8'.turned (it:=D) (fun b o hb e=>hs9.extBut b o hb e) hDn hDC (.inr (Nat.le_refl _))
     (fun x a e z=>by
      obtain ⟨v,q⟩:=I2.cell x a (hsub _ _ e)
      exact addr_ne q.lt (Nat.le_refl _) z) (fun p hp=>pinF p (by
       have hp:p∈([]:List (Addr×Obj))++pinsAt fp s5.heap:=hp
       simpa using hp))
    obtain ⟨st9,fr9⟩:tn (i+1) h9∧∀b∈fp,H8 b=none:=by
     refine ⟨T.keep _ _ _ l1 fun b hb o e=>hs9.extBut b o ?_ e,l2⟩
     exact addr_ne (hDfp _ hb) (Nat.le_refl _)
    refine ⟨m',hm',i+1,ys++[y],H8,its.push yv,k9,back (I9.pins_of fun p hp => ?_),?_,?_,st9,fr9,w8⟩
    ·cases List.mem_singleton.mp hp
     exact ⟨hD9,hDn,hDne,hDfs,fun _ z=>nomatch z⟩
    ·rw [Array.toList_push]
     exact rv.append (.cons r8 .nil)
    ·rw [List.length_append,List.length_singleton]; (first|lia|omega)
 exact codeAny_compStart_list (loop _) (T.self _ 0 _ _ _ (T.keep _ _ _ st2 fun b hb o e=>old b o e) (loop _))
theorem pe_lcomp {X:Cx} {elt tg iter:Expr} {ifs:List Expr} {scope:Scope} {pos:Pos} {Nc Fc:List Str} {js:List Nat} {wi:TI} {g:TG} {tc:TT} {te:TE}
  (hcalm:X.calm=true) (c:CompOk X scope Nc Fc js) (hi:PI X tg iter wi) (gk:Gk Nc.length g)
  (hg:∀cl C s H fp,PG (cxC X Nc Fc scope cl C s H fp) tg g) (htc:∀cl C s H fp,PTs (cxC X Nc Fc scope cl C s H fp) ifs tc) (hte:∀cl C s H fp,PE (cxC X Nc Fc scope cl C s H fp) elt te)
  (hs:∀x,foldedSetIterable iter X.env x=pure x:=by intro _;rfl) :
  PE X (.ListComp elt [⟨tg,iter,ifs,0⟩] scope pos) (tComp wi Nc.length js g tc te):=by
 intro pins s σ H Q I h
 rw [eval_ListComp]
 refine comp_core (use:=none) hcalm c hi hg htc hte gk I h (fun C D m ys H2 s2 I2 hm hC hD q => ?_) hs
 refine ⟨m,hm,fun h' hs' => ?_⟩
 refine ⟨.ref D,_,I2.turned (it:=C) (t':=s2.toks) (fun b o hb e=>hs'.extBut b o hb e) hC.1 (hC.2.1) hC.2.2.2.1 hC.2.2.2.2.1 hC.2.2.2.2.2,rfl,q D hD⟩
theorem ps_setcomp {X:Cx} {i:Nat} {y:Str} {elt tg iter:Expr} {ifs:List Expr} {scope:Scope} {pos pos' py:Pos} {Nc Fc:List Str} {js:List Nat} {wi:TI} {g:TG} {tc:TT} {te:TE} (hN:X.N.Nodup) (hy:X.N[i]? = some y) (hl:Loc X.env.scope y)
  (hcalm:X.calm=true) (c:CompOk X scope Nc Fc js) (hi:PI X tg iter wi) (gk:Gk Nc.length g)
  (hg:∀cl C s H fp,PG (cxC X Nc Fc scope cl C s H fp) tg g) (htc:∀cl C s H fp,PTs (cxC X Nc Fc scope cl C s H fp) ifs tc) (hte:∀cl C s H fp,PE (cxC X Nc Fc scope cl C s H fp) elt te)
  (hsw:swapsWith (.ListComp elt [⟨tg,iter,ifs,0⟩] scope pos) (some (.Name y py)) pos'.line X.env=pure true:=by rfl)
  (hs:∀x,foldedSetIterable iter X.env x=pure x:=by intro _;rfl)
  (hf:X.fn y=true∨X.env.scope.names.lookup y=some .local:=by first|exact .inl rfl|exact .inr rfl|assumption) :
  PS X (.Assign [.Name y py] (.ListComp elt [⟨tg,iter,ifs,0⟩] scope pos) pos') (tAsg (tComp wi Nc.length js g tc te) (gName i)):=by
 intro pins s σ H E I h
 rw [exec_Assign_Name_used _ _ _ _ hsw]
 refine wpAny_bind (wpAny_standAt (wpAny_bind ?_))
 show wpAny _ X.A (do let _ ←comprehension (.ListComp elt [⟨tg,iter,ifs,0⟩] scope pos) scope X.env _ (newList []) false (eval iter X.env) (some (assign (.Name y py) X.env))) _ _ s
 refine wpAny_bind (thn (comp_core (use:=some (assign (.Name y py) X.env)) (QV:=fun _ s'=>SP X pins E .next s') hcalm c hi hg htc hte gk I h (fun C D m ys H2 s2 I2 hm hC hD q => ?_) hs) fun _ s' hq=>wpAny_pure (wpAny_pure hq))
 show wpAny _ _ (assign (.Name y py) X.env (.ref D)) _ _ s2
 refine wpAny_assign_Name (store_ok2 I2 hN hy hl (v := .ref D) rfl (fun s3 I3 ⟨a,hsa,ha⟩ => ?_) hf)
 have hne:C≠a:=by
  rcases ha with e|e
  ·rw [e];exact hC.2.1
  ·exact fun z=>hC.2.2.2.2.1 _ _ e z.symm
 refine ⟨m,hm.at' fun o e=>hsa.extBut _ o hne e,fun h' hs' => ?_⟩
 exact ⟨_,_,I3.turned (it:=C) (t':=s3.toks) (fun b o hb e=>hs'.extBut b o hb e) hC.1 hC.2.1 hC.2.2.2.1 hC.2.2.2.2.1 hC.2.2.2.2.2,q D hD⟩
end L2
namespace L2
open PySem PySem.Spec PyProof.Rows
section
variable {X:Cx} {pins:List (Addr×Obj)} {σ:St} {H:Hp} {s:Shared} {p:Addr} {ys:List V}
theorem walk_list {A:Around} (hh:A.handled=none) (I:Inv X pins σ H s) (hq:SqL X.K H p ys) {R:Value→Shared→Prop} {E:Value→Shared→Prop}
  (h:∀(its:List Value) (it:Addr) (s2:Shared),Vals ys its→its.length≤sizeLine →
   Walks X.prog X.w A it [it,p] [it] its.toArray.size (fun i v=>its.toArray[i]? = some v) (fun i h=>h.IsListIter it p i∧h.IsList p its.toArray)→(s2.heap.IsListIter it p 0∧s2.heap.IsList p its.toArray)→(∀b∈[it,p],b<s2.heap.objs.size) →
   (∀h' tk,(∀b o,b ∉ [it]→s2.heap.get? b=some o→h'.get? b=some o)→Inv X pins σ H { s2 with heap:=h',toks:=tk })→R (.ref it) s2) :
  wpAny (model X.prog X.w) A (pyIter (.ref p)) R E s:=by
 obtain ⟨its,rv,pl,hz⟩:=I.list hq
 have hl:=pl.isList
 have hp:p<s.heap.objs.size:=by obtain ⟨o,e,_⟩:=hl;exact Heap.lt_size e
 refine wpAny_pyIter_list hl ?_
 refine h its s.heap.objs.size _ rv (by have:=rv.length; (first|lia|omega)) (Walks.list hh _ p (Nat.ne_of_lt hp) its.toArray) ⟨⟨_,Heap.get?_push_size _ rfl,rfl,rfl⟩,hl.push _⟩ (fun b hb => ?_) fun h' tk hk => ?_
 ·show b<(s.heap.push _).objs.size
  rw [Heap.size_push]
  rcases List.mem_cons.mp hb with rfl|hb
  ·exact Nat.lt_succ_self _
  ·rw [List.mem_singleton.mp hb];exact Nat.lt_succ_of_lt hp
 ·exact I.kept (t':=tk) fun b o e=>hk b o (fun z=>addr_ne (Heap.lt_size e) (Nat.le_refl _) (List.mem_singleton.mp z)) (Heap.get?_push_of_some _ e)
theorem vals_at {ys:List V} {its:List Value} (r:Vals ys its) {i:Nat} {v:Value} (e:its.toArray[i]? = some v):∃y,ys[i]? = some y∧RelV y v:=by
 have e':its[i]? = some v:=by simpa using e
 have hi:i<its.length:=(List.getElem?_eq_some_iff.mp e').1
 have hl:=r.length
 obtain ⟨u,h1,h2⟩:=r.get (i:=i) (x:=ys[i]'(by first|lia|omega)) (by simp)
 rw [e'] at h1;cases h1
 exact ⟨_,by simp,h2⟩
theorem range_all (bs:List Bool):(List.range bs.length).all (fun i=>bs.getD i false)=bs.all id:=by
 induction bs with
 | nil=>rfl
 | cons b r ih=>
  rw [List.length_cons,List.range_succ_eq_map,List.all_cons,List.all_map,List.all_cons, ←ih]
  rfl
theorem truth_bl {A:Around} {bs:List Bool} {its:List Value} (r:Vals (bs.map V.bl) its):TruthOf X.prog X.w A (fun i v=>its.toArray[i]? = some v) (fun i=>bs.getD i false):=by
 intro i v s Q E e hQ
 obtain ⟨y,h1,h2⟩:=vals_at r e
 rw [List.getElem?_map] at h1
 cases q:bs[i]? with
 | none=>rw [q] at h1;cases h1
 | some b=>
  rw [q] at h1;cases h1
  cases h2
  have:bs.getD i false=b:=by simp [List.getD,q]
  have hQ:Q (bs.getD i false) s:=hQ
  rw [this] at hQ
  exact wpAny_pure hQ
theorem call_all_bl (hc:X.calm=true):CallR X (.builtin "all") (fun xs H Q=>∃(p:Addr) (bs:List Bool),xs=[.ref p]∧SqL X.K H p (bs.map V.bl)∧Q (.bl (bs.all id)) H):=by
 intro pins s σ H xs us Q I r h
 obtain ⟨p,bs,rfl,hq,q⟩:=h
 obtain ⟨u,rfl,ru⟩:=vals1 r
 cases ru
 refine call_all_walk (walk_list (A:=X.A.in1) (I.ok.hd hc) I hq fun its it s2 rv hz W st hlt hI => ?_)
 refine ⟨it,_,_,_,_,_,fun i=>bs.getD i false,rfl,W,st,truth_bl rv,fun h' tk hk => ?_⟩
 have hl:its.toArray.size=bs.length:=by have:=rv.length;simp at this ⊢; (first|lia|omega)
 rw [hl,range_all]
 exact ⟨.bl _,H,hI h' tk hk,rfl,q⟩
theorem int_at {ns:List Int} {its:List Value} (r:Vals (ns.map V.int) its) {i:Nat} {v:Value} (e:its.toArray[i]? = some v):∃n t,ns[i]? = some n∧v = .int n t:=by
 obtain ⟨y,h1,h2⟩:=vals_at r e
 rw [List.getElem?_map] at h1
 cases q:ns[i]? with
 | none=>rw [q] at h1;cases h1
 | some b=>
  rw [q] at h1;cases h1
  obtain ⟨t,rfl⟩:=h2
  exact ⟨b,t,rfl,rfl⟩
theorem call_max_ints (hc:X.calm=true):CallR X (.builtin "max") (fun xs H Q=>∃(p:Addr) (ns:List Int),xs=[.ref p]∧SqL X.K H p (ns.map V.int)∧ns≠[]∧∀M,M∈ns→(∀a∈ns,a≤M)→Q (.int M) H):=by
 intro pins s σ H xs us Q I r h
 obtain ⟨p,ns,rfl,hq,hne,q⟩:=h
 obtain ⟨u,rfl,ru⟩:=vals1 r
 cases ru
 have hn0:0<ns.length:=List.length_pos_iff.mpr hne
 refine call_max_walk (walk_list (A:=X.A.in1) (I.ok.hd hc) I hq fun its it s2 rv hz W st hlt hI => ?_)
 have hl:its.toArray.size=ns.length:=by have:=rv.length;simp at this ⊢; (first|lia|omega)
 refine ⟨it,_,_,_,_,_,fun i j=>decide (ns.getD i 0>ns.getD j 0),rfl,W,st,hlt,by first|lia|omega,?_,fun v h' tk e hk => ?_⟩
 ·refine CmpOf.ints_gt (fun i=>ns.getD i 0) fun {i v} e => ?_
  obtain ⟨n,t,h1,rfl⟩:=int_at rv e
  exact ⟨t,by simp [List.getD,h1]⟩
 ·obtain ⟨n,t,h1,rfl⟩:=int_at rv e
  obtain ⟨b1,b2⟩:=argBest_gt (fun i=>ns.getD i 0) (its.toArray.size-1)
  refine ⟨.int n,H,hI h' tk hk,⟨_,rfl⟩,q n (List.mem_of_getElem? h1) fun a ha => ?_⟩
  obtain ⟨j,hj⟩:=List.getElem?_of_mem ha
  have hjl:j<ns.length:=(List.getElem?_eq_some_iff.mp hj).1
  have z:=b2 j (by first|lia|omega)
  have e1:ns.getD j 0=a:=by simp [List.getD,hj]
  have e2:ns.getD (argBest (fun i j=>decide (ns.getD i 0>ns.getD j 0)) (its.toArray.size-1)) 0=n:=by rw [List.getD_eq_getElem?_getD,h1];rfl
  rw [←e1, ←e2]
  exact z
theorem maxK (K:PySem.W.Frag) (hc:X.calm=true) (hK:X.K=K:=by rfl):CallR X (.builtin "max") (fun xs H Q=>∃(p:Addr) (ns:List Int),xs=[.ref p]∧SqL K H p (ns.map V.int)∧ns≠[]∧∀M,M∈ns→(∀a∈ns,a≤M)→Q (.int M) H):=by subst hK;exact call_max_ints hc
theorem allK (K:PySem.W.Frag) (hc:X.calm=true) (hK:X.K=K:=by rfl):CallR X (.builtin "all") (fun xs H Q=>∃(p:Addr) (bs:List Bool),xs=[.ref p]∧SqL K H p (bs.map V.bl)∧Q (.bl (bs.all id)) H):=by subst hK;exact call_all_bl hc
theorem mt_startswith:MtR X "str.startswith" (fun x vs H Q=>∃a b,x = .str a∧vs=[.str b]∧Q (.bl (Txt.startswith a b)) H):=by
 intro pins s σ H x vs v us Q I rx rv h
 obtain ⟨a,b,rfl,rfl,q⟩:=h
 obtain ⟨t,rfl⟩:=rx
 obtain ⟨u,rfl,t',rfl⟩:=rv.one
 exact SC.startswith ⟨.bl _,H,I,rfl,q⟩
theorem strs_are:∀{xs:List Str} {its:List Value},Vals (xs.map V.str) its→StrsAre its xs:=by
 intro xs its r
 induction xs generalizing its with
 | nil=>cases r;exact StrsAre.nil
 | cons x xs ih=>
  cases r with
  | cons r1 r2=>
   obtain ⟨t,rfl⟩:=r1
   exact StrsAre.cons x t (ih r2)
theorem mt_join:MtR X "str.join" (fun x vs H Q=>∃(sep:Str) (p:Addr) (xs:List Str),x = .str sep∧vs=[.ref p]∧SqL X.K H p (xs.map V.str)∧(xs.map (·.length)).sum+xs.length*sep.length≤16777216∧Q (.str (Txt.join sep xs)) H):=by
 intro pins s σ H x vs v us Q I rx rv h
 obtain ⟨sep,p,xs,rfl,rfl,hq,hz,q⟩:=h
 obtain ⟨t,rfl⟩:=rx
 obtain ⟨u,rfl,ru⟩:=rv.one
 cases ru
 obtain ⟨its,r',pl,_⟩:=I.list hq
 exact join_list pl.isList (strs_are r') hz fun t' k=>⟨.str _,H,I.tok _,⟨_,rfl⟩,q⟩
end
end L2
namespace L2
open PySem PySem.Spec PyProof.Rows
mutual
noncomputable def Den (K:PySem.W.Frag) (H:Hp):PyData→V→Prop
 | .none,v=>v = .non
 | .bool b,v=>v = .bl b
 | .int i,v=>v = .int i
 | .str x,v=>v = .str x
 | .list ds,v=>Ex2 fun a vs=>v = .ref a∧SqL K H a vs∧Dens K H ds vs
 | .tuple ds,v=>Ex2 fun a vs=>v = .ref a∧SqT K H a vs∧Dens K H ds vs
 | .dict _,_=>False
noncomputable def Dens (K:PySem.W.Frag) (H:Hp):List PyData→List V→Prop
 | [],vs=>vs=[]
 | d :: ds,vs=>Ex2 fun v r=>vs=v :: r∧Den K H d v∧Dens K H ds r
end
theorem Same.seqT {K:PySem.W.Frag} {H H':Hp} {a:Addr} {xs:List V} (e:Same H H') (h:SqT K H a xs):SqT K H' a xs:=by
 rcases h with (h|⟨o,h⟩)|h
 ·exact .inl (.inl (e _ _ h))
 ·exact .inl (.inr ⟨o,e _ _ h⟩)
 ·exact .inr h
mutual
theorem Den.same {K:PySem.W.Frag} {H H':Hp} (e:Same H H'):∀{d:PyData} {v:V},Den K H d v→Den K H' d v
 | .none,_,h=>by unfold Den at h ⊢;exact h
 | .bool _,_,h=>by unfold Den at h ⊢;exact h
 | .int _,_,h=>by unfold Den at h ⊢;exact h
 | .str _,_,h=>by unfold Den at h ⊢;exact h
 | .list ds,_,h=>by
  unfold Den at h ⊢
  obtain ⟨a,vs,h1,h2,h3⟩:=h
  exact ⟨a,vs,h1,e.seq h2,Dens.same e h3⟩
 | .tuple ds,_,h=>by
  unfold Den at h ⊢
  obtain ⟨a,vs,h1,h2,h3⟩:=h
  exact ⟨a,vs,h1,e.seqT h2,Dens.same e h3⟩
 | .dict _,_,h=>by unfold Den at h;exact h.elim
theorem Dens.same {K:PySem.W.Frag} {H H':Hp} (e:Same H H'):∀{ds:List PyData} {vs:List V},Dens K H ds vs→Dens K H' ds vs
 | [],_,h=>by unfold Dens at h ⊢;exact h
 | d :: ds,_,h=>by
  unfold Dens at h ⊢
  obtain ⟨v,r,h1,h2,h3⟩:=h
  exact ⟨v,r,h1,Den.same e h2,Dens.same e h3⟩
end
mutual
theorem Den.reads {X:Cx} {pins:List (Addr×Obj)} {σ:St} {H:Hp} {s:Shared} (I:Inv X pins σ H s):∀{d:PyData} {v:V} {u:Value},Den X.K H d v→RelV v u→∃as,Reads s.heap u d as
 | .none,_,_,h,r=>by unfold Den at h;subst h;cases r;exact ⟨_, .none⟩
 | .bool _,_,_,h,r=>by unfold Den at h;subst h;cases r;exact ⟨_, .bool _⟩
 | .int _,_,_,h,r=>by unfold Den at h;subst h;obtain ⟨t,rfl⟩:=r;exact ⟨_, .int _ _⟩
 | .str _,_,_,h,r=>by unfold Den at h;subst h;obtain ⟨t,rfl⟩:=r;exact ⟨_, .str _ _⟩
 | .list ds,_,_,h,r=>by
  unfold Den at h
  obtain ⟨a,vs,rfl,h2,h3⟩:=h
  cases r
  obtain ⟨its,rv,⟨o,n,e1,e2,_,e4⟩,_⟩:=I.list h2
  obtain ⟨as,q⟩:=Dens.reads I h3 rv
  exact ⟨_, .list e1 e2 e4 (by simpa using q)⟩
 | .tuple ds,_,_,h,r=>by
  unfold Den at h
  obtain ⟨a,vs,rfl,h2,h3⟩:=h
  cases r
  obtain ⟨its,rv,⟨o,e1,e2,n,e4⟩,_⟩:=I.tuple h2
  obtain ⟨as,q⟩:=Dens.reads I h3 rv
  exact ⟨_, .tuple e1 e2 e4 (by simpa using q)⟩
 | .dict _,_,_,h,_=>by unfold Den at h;exact h.elim
theorem Dens.reads {X:Cx} {pins:List (Addr×Obj)} {σ:St} {H:Hp} {s:Shared} (I:Inv X pins σ H s):∀{ds:List PyData} {vs:List V} {us:List Value},Dens X.K H ds vs→Vals vs us→∃as,ReadsAll s.heap us ds as
 | [],_,_,h,r=>by unfold Dens at h;subst h;cases r;exact ⟨_, .nil⟩
 | d :: ds,_,_,h,r=>by
  unfold Dens at h
  obtain ⟨v,q,rfl,h2,h3⟩:=h
  cases r with
  | cons r1 r2=>
   obtain ⟨as,q1⟩:=Den.reads I h2 r1
   obtain ⟨bs,q2⟩:=Dens.reads I h3 r2
   exact ⟨_, .cons q1 q2⟩
end
section
variable {X:Cx}
open PySem.SeqAt in
theorem op_eqD (hu:X.A.units+64<cLine):OpR X (compareOp .Eq) (fun x y H Q=>∃d e,Den X.K H d x∧Den X.K H e y∧shaped d=true∧shaped e=true∧Q (.bl (PyData.eqv d e)) H):=by
 intro pins s σ H x y v u Q I rx ry h
 obtain ⟨d,e,hd,he,sd,se,q⟩:=h
 obtain ⟨as,r1⟩:=hd.reads I rx
 obtain ⟨bs,r2⟩:=he.reads I ry
 exact eq_dataH r1 r2 sd se hu ⟨.bl _,H,I,rfl,q⟩
open PySem.SeqAt in
theorem op_neD (hu:X.A.units+64<cLine):OpR X (compareOp .NotEq) (fun x y H Q=>∃d e,Den X.K H d x∧Den X.K H e y∧shaped d=true∧shaped e=true∧Q (.bl (!PyData.eqv d e)) H):=by
 intro pins s σ H x y v u Q I rx ry h
 obtain ⟨d,e,hd,he,sd,se,q⟩:=h
 obtain ⟨as,r1⟩:=hd.reads I rx
 obtain ⟨bs,r2⟩:=he.reads I ry
 exact ne_dataH r1 r2 sd se hu ⟨.bl _,H,I,rfl,q⟩
theorem op_isB:OpR X (compareOp .Is) (fun x y H Q=>∃a b,x = .bl a∧y = .bl b∧Q (.bl (decide (a=b))) H):=by
 intro pins s σ H x y v u Q I rx ry h
 obtain ⟨a,b,rfl,rfl,q⟩:=h
 cases rx;cases ry
 refine wpAny_is_plain rfl (fin_bl I q ?_)
 cases a <;> cases b <;> rfl
theorem op_isnotB:OpR X (compareOp .IsNot) (fun x y H Q=>∃a b,x = .bl a∧y = .bl b∧Q (.bl (!decide (a=b))) H):=by
 intro pins s σ H x y v u Q I rx ry h
 obtain ⟨a,b,rfl,rfl,q⟩:=h
 cases rx;cases ry
 refine wpAny_isNot_plain rfl (fin_bl I q ?_)
 cases a <;> cases b <;> rfl
theorem call_isi:CallR X (.builtin "isinstance") (fun xs H Q=>∃x T t b,xs=[x, .ty T]∧TyOf X.K H x t∧PySem.W.kitOne X.K t (.type T)=some b∧Q (.bl b) H):=by
 intro pins s σ H xs us Q I r h
 obtain ⟨x,T,t,b,rfl,ty,e,q⟩:=h
 obtain ⟨u,w',rfl,r1,r2⟩:=vals2 r
 cases r2
 exact isinst_ok I r1 ty e fun tk=>⟨.bl b,H,I.tok _,rfl,q⟩
theorem sl_str:SlR X (fun x lo hi H Q=>∃z,x = .str z∧z.length≤sizeLine∧Q (.str (Txt.slice z lo hi)) H):=by
 intro pins s σ H x v vl vu lo hi sl Q I rx hs pl pu q
 obtain ⟨z,rfl,hz,q⟩:=q
 obtain ⟨t,rfl⟩:=rx
 refine ⟨"str",_,F.slot_str_getitem.lookup,typeIs_str _ _ _,?_⟩
 have fin:∀t' k,EP X pins σ Q (.str (Txt.slice z lo hi) t') { s with toks:=k }:=fun t' k=>⟨.str _,H,I.tok _,⟨_,rfl⟩,q⟩
 cases pl with
 | none=>
  cases pu with
  | none=>exact wpAny_getItem_str_slice (l:=none) (u:=none) (st:=none) hs rfl (post_val_or_str ⟨Nat.le_trans (Txt.slice_le z _ _) hz,fin⟩)
  | int j uj=>exact wpAny_getItem_str_slice (l:=none) (u:=some (j,uj)) (st:=none) hs rfl (post_val_or_str ⟨Nat.le_trans (Txt.slice_le z _ _) hz,fin⟩)
 | int i ui=>
  cases pu with
  | none=>exact wpAny_getItem_str_slice (l:=some (i,ui)) (u:=none) (st:=none) hs rfl (post_val_or_str ⟨Nat.le_trans (Txt.slice_le z _ _) hz,fin⟩)
  | int j uj=>exact wpAny_getItem_str_slice (l:=some (i,ui)) (u:=some (j,uj)) (st:=none) hs rfl (post_val_or_str ⟨Nat.le_trans (Txt.slice_le z _ _) hz,fin⟩)
end
end L2
namespace L2
open PySem PySem.Spec PyProof.Rows
section
variable {X:Cx} {pins:List (Addr×Obj)} {σ:St} {H:Hp} {s:Shared} {h':Heap}
theorem Inv.adopt {T:Addr} {o:HO} (I:Inv X pins σ H s) (hT:FpOk X pins H T) (hex:X.s₀.heap.objs.size≤T) (new:ObjOk X.prog X.w (upd H T o) s.heap T o):Inv X pins σ (upd H T o) s:=
 ⟨I.ok,I.os,I.bare,⟨I.base.keep,I.base.slot,fun b ob e n hx=>by rw [upd_ne (addr_ne (Heap.lt_size e) hex)];exact I.base.free b ob e n hx,I.base.there,
   fun b xs e=>by rw [upd_ne (ne_of_none (I.base.tups b xs e) hT.1)];exact I.base.tups b xs e,fun b ob xs e=>by rw [upd_ne (ne_of_none (I.base.frzs b ob xs e) hT.1)];exact I.base.frzs b ob xs e,
   fun b ps e=>by
    obtain ⟨m,q⟩:=I.base.tbls b ps e
    exact ⟨m,by rw [upd_ne (ne_of_none q hT.1)];exact q⟩⟩,
  I.loc,I.cell,by rw [upd_ne (Ne.symm hT.2.1)];exact I.free,fun x c e=>by rw [upd_ne (hT.2.2.2.2.1 x c e)];exact I.freeC x c e,
  fun p hp=>by
   refine Elim.el (I.pin p hp) _ ?_
   rintro a b c d f
   exact ⟨a,by rw [upd_ne (hT.2.2.2.2.2 p hp)];exact b,c,d,f⟩,I.hok.adopt hT.1 new,I.len⟩
end
section
variable {X:Cx}
end
end L2
namespace L2
open PySem PySem.Spec PyProof.Rows
section
variable {X:Cx}
end
end L2
namespace L2
open PySem PySem.Spec PyProof.Rows
section
variable {X:Cx}
noncomputable def rAddA:R2:=fun x y H Q=>(Ex2 fun i j=>x = .int i∧y = .int j∧Q (.int (i+j)) H)∨(∃i j,x = .str i∧y = .str j∧i.length+j.length≤sizeLine∧Q (.str (i++j)) H)∨rCat x y H Q
theorem g_add:OpR X (binaryOp .Add) rAddA:=op_add.or (op_add_str.or op_cat)
noncomputable def rMulA:R2:=fun x y H Q=>(Ex2 fun i j=>x = .int i∧y = .int j∧CMul i j∧Q (.int (i*j)) H)∨rRep x y H Q
theorem g_mul:OpR X (binaryOp .Mult) rMulA:=op_mul.or op_rep
structure Fn (P:Program) (w:World) (K:PySem.W.Frag) (mg:Str→Option Value) (base:Heap) (k:Nat) (x:Str) (ps:List Str) (sp:Sp):Prop where
 ex:∃f fd,FnOk P w K mg base CX0 k f fd ps sp∧Binds K fd ps []∧PySem.W.keepIn K (.ref f)=true∧mg x=some (.ref f)
theorem Fn.mono {P:Program} {w:World} {K:PySem.W.Frag} {mg:Str→Option Value} {base:Heap} {j k:Nat} {x:Str} {ps:List Str} {sp:Sp} (F:Fn P w K mg base j x ps sp) (h:j≤k):Fn P w K mg base k x ps sp:=by
 refine Elim.el (F.ex) _ ?_
 rintro f fd a b c d
 exact ⟨f,fd,a.mono h,b,c,d⟩
theorem pe_fn {k:Nat} {x:Str} {ps:List Str} {sp:Sp} {p pos:Pos} {e:Expr} {es:List Expr} {t:TA} (F:Fn X.prog X.w X.K X.mg X.base k x ps sp) (hr:Room k X.A) (hg:Gl X x)
  (ha:PA X (e :: es) t) (hdb:(x == ("__debug__" : Str))=false:=by decide) (he:starEach (e :: es) X.env=(false,eval e X.env) :: starEach es X.env:=by rfl) (hpl:(backTo pos (starEach es X.env)).any (·.1)=false:=by rfl) :
  PE X (.Call (.Name x p) (e :: es) [] pos) (tCall sp [] E0 t):=by
 refine Elim.el (F.ex) _ ?_
 rintro f fd a b c d
 exact pe_call a hr hg d c b .nil pass0 ha hdb he hpl
end
noncomputable def compChk (pn sn:List (Str×NameKind)) (N Fc:List Str) (js:List Nat):Bool:=
 sn.all (fun y=>y.2 != .cell)&&sn.all (fun y=>y.2 != .local||sn.lookup y.1 == some .local)&&sn.all (fun y=>y.2 != .free||pn.lookup y.1 == some .cell||pn.lookup y.1 == some .free)&&js.length == Fc.length &&
 (List.range Fc.length).all fun k=>match Fc[k]?,js[k]? with
  | some x,some j=>sn.lookup x == some .free&&N[j]? == some x
  | _,_=>false
theorem comp_ok {X:Cx} {scope:Scope} {Nc Fc:List Str} {js:List Nat} (hk:scope.kind = .function:=by rfl) (h:compChk X.env.scope.names scope.names X.N Fc js=true:=by rfl):CompOk X scope Nc Fc js:=by
 unfold compChk at h
 simp -iota only [Bool.and_eq_true,List.all_eq_true,Bool.or_eq_true,bne_iff_ne,beq_iff_eq,ne_eq] at h
 obtain ⟨⟨⟨⟨h1,h2⟩,h3⟩,h4⟩,h5⟩:=h
 refine ⟨hk,h1,fun y hy hl=>(h2 y hy).resolve_left (fun z=>z hl),fun y hy hf => ?_,fun k x hx => ?_,h4⟩
 ·rcases h3 y hy with (z|z)|z
  ·exact absurd hf z
  ·exact .inl z
  ·exact .inr z
 ·have hk':k<Fc.length:=(List.getElem?_eq_some_iff.mp hx).1
  have q:=h5 k (List.mem_range.mpr hk')
  have hj:k<js.length:=by (first|lia|omega)
  rw [hx,List.getElem?_eq_getElem hj] at q
  simp only [Bool.and_eq_true,beq_iff_eq] at q
  exact ⟨q.1,_,List.getElem?_eq_getElem hj,q.2⟩
end L2
namespace L2
open PySem PySem.Spec PyProof.Rows
section
variable {X:Cx}
theorem g_eq (hu:X.A.units+64<cLine):OpR X (compareOp .Eq) (fun x y H Q=>rEq x y H Q∨(∃d e,Den X.K H d x∧Den X.K H e y∧SeqAt.shaped d=true∧SeqAt.shaped e=true∧Q (.bl (PyData.eqv d e)) H)):=op_eq.or (op_eqD hu)
theorem g_ne (hu:X.A.units+64<cLine):OpR X (compareOp .NotEq) (fun x y H Q=>rNe x y H Q∨(∃d e,Den X.K H d x∧Den X.K H e y∧SeqAt.shaped d=true∧SeqAt.shaped e=true∧Q (.bl (!PyData.eqv d e)) H)):=op_ne.or (op_neD hu)
theorem g_is:OpR X (compareOp .Is) (fun x y H Q=>(y = .non∧Q (.bl (decide (x = .non))) H)∨(∃a b,x = .bl a∧y = .bl b∧Q (.bl (decide (a=b))) H)):=op_isN.or op_isB
theorem g_isnot:OpR X (compareOp .IsNot) (fun x y H Q=>(y = .non∧Q (.bl (!decide (x = .non))) H)∨(∃a b,x = .bl a∧y = .bl b∧Q (.bl (!decide (a=b))) H)):=op_notN.or op_isnotB
theorem g_sl:SlR X (fun x lo hi H Q=>rSlL X.K x lo hi H Q∨(∃z,x = .str z∧z.length≤sizeLine∧Q (.str (Txt.slice z lo hi)) H)):=sl_list.or sl_str
structure Nm (mg:Str→Option Value):Prop where
 n_len:mg "len" = none
 n_range:mg "range" = none
 n_max:mg "max" = none
 n_min:mg "min" = none
 n_sum:mg "sum" = none
 n_all:mg "all" = none
 n_any:mg "any" = none
 n_list:mg "list" = none
 n_tuple:mg "tuple" = none
 n_int:mg "int" = none
 n_str:mg "str" = none
 n_bool:mg "bool" = none
 n_zip:mg "zip" = none
 n_enumerate:mg "enumerate" = none
 n_isinstance:mg "isinstance" = none
 n_divmod:mg "divmod" = none
end
end L2
namespace L2
open PySem PySem.Spec PyProof.Rows
theorem comp_go {J:It} {n:Nat} {js:List Nat} {g:TG} {tc:TT} {te:TE} {σ:St} {H1:Hp} {fin:List V→Hp→Prop} (N:Nat) (Pv:Nat→List V→Hp→Prop) (h0:Pv 0 [] H1)
  (go:∀i ys H (Nx:List V→Hp→Prop),i<N→Pv i ys H→(∀ys' H',Pv (i+1) ys' H'→Nx ys' H')→J.go i H∧ys.length<sizeLine ∧
   ∀x H',J.yld i H x H'→g x (List.replicate n none++cvals σ js) H' fun σ2 H2=>tc σ2 H2 fun b H3=>if b=true then te σ2 H3 fun y H4=>Nx (ys++[y]) H4 else Nx ys H3)
  (stop:∀ys H,Pv N ys H→J.stop N H∧fin ys H):CompW J n js g tc te σ H1 fin:=by
 refine ⟨fun i m ys H=>m=N-i∧i≤N∧Pv i ys H,⟨N,by simp,Nat.zero_le _,h0⟩,?_⟩
 intro i m ys H hz_
 refine Elim.el hz_ _ ?_
 clear hz_
 rintro rfl hi p
 by_cases hlt:i<N
 ·exact .inr (go i ys H (fun ys' H'=>∃m',m'<N-i∧(m'=N-(i+1)∧i+1≤N∧Pv (i+1) ys' H')) hlt p fun ys' H' q=>⟨_,by first|lia|omega,rfl,hlt,q⟩)
 ·have e:i=N:=by (first|lia|omega)
  subst e
  exact .inl (stop ys H p)
section
variable {X:Cx} (K:PySem.W.Frag)
theorem ixK (hK:X.K=K:=by rfl):IxR X (rIx K):=by subst hK;exact ix_seq
theorem slK (hK:X.K=K:=by rfl):SlR X (fun x lo hi H Q=>rSlL K x lo hi H Q∨(∃z,x = .str z∧z.length≤sizeLine∧Q (.str (Txt.slice z lo hi)) H)):=by subst hK;exact g_sl
theorem lenK (hK:X.K=K:=by rfl):CallR X (.builtin "len") (fun xs H Q=>∃x n,xs=[x]∧LenV K x H n∧Q (.int n) H):=by subst hK;exact call_len
theorem joinK (hK:X.K=K:=by rfl):MtR X "str.join" (fun x vs H Q=>∃(sep:Str) (p:Addr) (xs:List Str),x = .str sep∧vs=[.ref p]∧SqL K H p (xs.map V.str)∧(xs.map (·.length)).sum+xs.length*sep.length≤16777216∧Q (.str (Txt.join sep xs)) H):=by subst hK;exact mt_join
theorem piK {tg l:Expr} {tl:TE} (hl:PE X l tl) (hK:X.K=K:=by rfl):PI X tg l (iList K tl):=by subst hK;exact pi_list hl
theorem tupK {pos:Pos} {es:List Expr} {k:Nat} {t:TGs} (n:Nat) (hc:X.calm=true) (h:PGs X es t) (hn:(assignEach es X.env).length=n:=by rfl) (hst:(assignEach es X.env).findIdx? (·.1)=none:=by rfl) (hK:X.K=K:=by rfl):PG X (.Tuple es k pos) (gTup K n t):=by subst hK;exact pg_tup hc h hn hst
theorem bmK {o e:Expr} {es:List Expr} {to:TE} {t:TA} {name:Str} {apos cpos:Pos} {T id:String} {r:V→List V→Hp→VK→Prop} (pa:PlainAttrs T) (slot:Slot T name id) (hty:typeOf (.builtin id)=pure (.type "method_descriptor")) (hm:MtR X id r) (ho:PE X o to) (ha:PA X (e :: es) t)
  (hbase:attributeBase o name X.env (eval o X.env)=eval o X.env:=by rfl)
  (hfew:((backTo cpos (starEach (e :: es) X.env)).all (fun x => !x.1)&&(backToKw cpos (keywordEach [] X.env)).all (fun x=>x.1.isSome)
   && decide ((e :: es).length+([]:List Keyword).length+(if ([]:List Keyword).isEmpty then 0 else 1)<30))=true:=by rfl)
  (hline:(apos.endLine == cpos.line)=true:=by rfl) (hs:starEach (e :: es) X.env=(false,eval e X.env) :: starEach es X.env:=by rfl) (hplain:(backTo cpos (starEach es X.env)).any (·.1)=false:=by rfl) (hK:X.K=K:=by rfl) :
  PE X (.Call (.Attribute o name apos) (e :: es) [] cpos) (tBM K T r to t):=by subst hK;exact pe_bm pa slot hty hm ho ha hbase hfew hline hs hplain
theorem bm0K {o:Expr} {to:TE} {name:Str} {apos cpos:Pos} {T id:String} {r:V→List V→Hp→VK→Prop} (pa:PlainAttrs T) (slot:Slot T name id) (hty:typeOf (.builtin id)=pure (.type "method_descriptor")) (hm:MtR X id r) (ho:PE X o to)
  (hbase:attributeBase o name X.env (eval o X.env)=eval o X.env:=by rfl) (hline:(apos.endLine == cpos.line)=true:=by rfl) (hK:X.K=K:=by rfl):PE X (.Call (.Attribute o name apos) [] [] cpos) (tBM0 K T r to):=by subst hK;exact pe_bm0 pa slot hty hm ho hbase hline
theorem eqK (hu:X.A.units+64<cLine) (hK:X.K=K:=by rfl):OpR X (compareOp .Eq) (fun x y H Q=>rEq x y H Q∨(∃d e,Den K H d x∧Den K H e y∧SeqAt.shaped d=true∧SeqAt.shaped e=true∧Q (.bl (PyData.eqv d e)) H)):=by subst hK;exact g_eq hu
theorem neK (hu:X.A.units+64<cLine) (hK:X.K=K:=by rfl):OpR X (compareOp .NotEq) (fun x y H Q=>rNe x y H Q∨(∃d e,Den K H d x∧Den K H e y∧SeqAt.shaped d=true∧SeqAt.shaped e=true∧Q (.bl (!PyData.eqv d e)) H)):=by subst hK;exact g_ne hu
end
end L2
namespace L2
open PySem PySem.Spec PyProof.Rows
noncomputable abbrev Keeps (g h:Heap) (c:Addr→Prop):Prop:=∀b o, ¬c b→g.get? b=some o→h.get? b=some o
structure Feed (prog:Program) (w:World) (A:Around) (it S:Addr) (T:String) (fp:Addr→Prop) (n:Nat) (P:Nat→Value→Heap→Prop) (R:Value→Value→Prop) (St:Nat→Heap→Prop):Prop where
 sfp:¬fp S
 ne:it≠S
 ty:∀i h,St i h→∃o,h.get? it=some o∧o.cls = .type T
 self:∀(s:Shared) (Q:Value→Shared→Prop) (E:Value→Shared→Prop),St 0 s.heap→Q (.ref it) s→wpAny (model prog w) A (pyIter (.ref it)) Q E s
 item:∀i (s:Shared) (Q:Option Value→Shared→Prop) (E:Value→Shared→Prop),i<n→St i s.heap→S<s.heap.objs.size →
  (∀v h' tk,Keeps s.heap h' fp→St (i+1) h'→P i v h'→(∀j u,P j u s.heap→R u v)→Q (some v) { s with heap:=h',toks:=tk })→wpAny (model prog w) A (pyNext (.ref it)) Q E s
 stop:∀(s:Shared) (Q:Option Value→Shared→Prop) (E:Value→Shared→Prop),St n s.heap→S<s.heap.objs.size→(∀h' tk,Keeps s.heap h' fp→Q none { s with heap:=h',toks:=tk })→wpAny (model prog w) A (pyNext (.ref it)) Q E s
 keepS:∀i h h',St i h→Keeps h h' (· = S)→St i h'
 keepP:∀j v h h',P j v h→Keeps h h' (fun b=>fp b∨b=S)→P j v h'
 nolen:typeLookup (.type T) "__len__" = pure none
 nohint:typeLookup (.type T) "__length_hint__" = pure none
 nl:(Value.type T == Value.type "list")=false
 nt:(Value.type T == Value.type "tuple")=false
structure Grown (h:Heap) (S:Addr) (i:Nat) (P:Nat→Value→Heap→Prop) (R:Value→Value→Prop) (acc:Array Value) (c:Nat):Prop where
 ob:h.get? S=some { cls := .type "list",data := .seq acc c }
 sz:acc.size=i
 pw:acc.toList.Pairwise R
 all:∀(j:Nat) v,acc[j]? = some v→P j v h
noncomputable abbrev RunsTo (prog:Program) (w:World) (A:Around) (R:Result→Shared→Prop):Fin→Shared→Prop:=fun fin s'=>match fin with
 | .done f=>R (.ok f) s'
 | .again c'=>c'.quiet=true∧codeAny (model prog w) A c' R s'
section
variable {prog:Program} {w:World} {A:Around} {it S:Addr} {T:String} {fp:Addr→Prop} {n:Nat} {P:Nat→Value→Heap→Prop} {R:Value→Value→Prop} {St:Nat→Heap→Prop}
noncomputable abbrev FeedEnd (g:Heap) (S:Addr) (fp:Addr→Prop) (n:Nat) (P:Nat→Value→Heap→Prop) (R:Value→Value→Prop) (s:Shared) (Z:Shared→Prop):Prop:=
 ∀h' tk acc c,Keeps g h' (fun b=>fp b∨b=S)→Grown h' S n P R acc c→Z { s with heap:=h',toks:=tk }
theorem feed_loop (Fd:Feed prog w A.in1 it S T fp n P R St) (hn:n≤sizeLine) {s:Shared} {Z:Result→Shared→Prop} {res:Value} {g:Heap} (fin:FeedEnd g S fp n P R s (Z (.ok (.ret res)))) :
  ∀(k i:Nat) (h:Heap) (tk:Nat) (acc:Array Value) (c:Nat),i+k=n→St i h→Grown h S i P R acc c→Keeps g h (fun b=>fp b∨b=S) →
   codeAny (model prog w) A (.builtin "list.extend.loop" ⟨[.ref S, .ref it,res],[]⟩) Z { s with heap:=h,toks:=tk }
 | 0,i,h,tk,acc,c,hk,hst,G,kp=>by
  have e:i=n:=by (first|lia|omega)
  subst e
  refine codeAny_builtin PySem.F.entry_extend_loop ?_
  rw [Around.under_plainId PySem.F.plain_extend_loop _]
  refine wpAny_bind (Fd.stop { s with heap:=h,toks:=tk } _ _ hst (Heap.lt_size G.ob) fun h' tk' k'=>wpAny_pure ?_)
  exact fin h' tk' acc c (fun b o nb q=>k' b o (fun z=>nb (.inl z)) (kp b o nb q)) ⟨k' _ _ Fd.sfp G.ob,G.sz,G.pw,fun j v e=>Fd.keepP _ _ _ _ (G.all j v e) fun b o nb q=>k' b o (fun z=>nb (.inl z)) q⟩
 | k+1,i,h,tk,acc,c,hk,hst,G,kp=>by
  refine codeAny_builtin PySem.F.entry_extend_loop ?_
  rw [Around.under_plainId PySem.F.plain_extend_loop _]
  refine wpAny_bind (Fd.item i { s with heap:=h,toks:=tk } _ _ (by first|lia|omega) hst (Heap.lt_size G.ob) fun v h' tk' k' st' pv rv => ?_)
  have ob':=k' _ _ Fd.sfp G.ob
  have other:Keeps h' (h'.update S (Obj.mapSeq (·.push v))) (· = S):=fun b o nb q=>(Heap.get?_update_other _ _ (Ne.symm nb)).trans q
  have k2:Keeps h (h'.update S (Obj.mapSeq (·.push v))) (fun b=>fp b∨b=S):=fun b o nb q=>other b o (fun z=>nb (.inr z)) (k' b o (fun z=>nb (.inl z)) q)
  have sz:=G.sz
  refine wpAny_bind (wpAny_updateSeq ob' rfl (wpAny_pure ⟨plainId_quiet PySem.F.plain_extend_loop _,?_⟩) (by rw [sz]; (first|lia|omega)) (by show (acc.push v).size≤sizeLine+1;rw [Array.size_push,sz]; (first|lia|omega)))
  refine feed_loop Fd hn fin k (i+1) _ tk' (acc.push v) _ (by first|lia|omega) (Fd.keepS _ _ _ st' other) ⟨Heap.get?_update_self _ ob' rfl,by rw [Array.size_push,sz],?_,fun j u e => ?_⟩ (fun b o nb q=>k2 b o nb (kp b o nb q))
  ·rw [Array.toList_push]
   refine List.pairwise_append.mpr ⟨G.pw,List.pairwise_singleton _ _,fun a ha b hb => ?_⟩
   obtain ⟨j,hj⟩:=List.mem_iff_getElem?.mp ha
   rw [List.mem_singleton.mp hb]
   exact rv j a (G.all j a (by simpa using hj))
  ·by_cases hj:j<i
   ·rw [Array.getElem?_push_lt (by first|lia|omega)] at e
    exact Fd.keepP _ _ _ _ (G.all j u (by rw [Array.getElem?_eq_getElem (by first|lia|omega)];exact e)) k2
   ·have hj':j=i:=by
     have:=(Array.getElem?_eq_some_iff.mp e).1
     rw [Array.size_push] at this
     (first|lia|omega)
    subst hj'
    have e':(acc.push v)[acc.size]? = some u:=by rw [sz];exact e
    rw [Array.getElem?_push_size] at e'
    cases e'
    exact Fd.keepP _ _ _ _ pv fun b o nb q=>other b o (fun z=>nb (.inr z)) q
theorem feed_extend (Fd:Feed prog w A.in1 it S T fp n P R St) (hn:n≤sizeLine) {s:Shared} {Z:Result→Shared→Prop} {res:Value} {c₀:Nat} (hst:St 0 s.heap) (hS:s.heap.get? S=some { cls := .type "list",data := .seq #[] c₀ })
  (fin:FeedEnd s.heap S fp n P R s (Z (.ok (.ret res)))) :
  wpAny (model prog w) A.in1 (Builtin.List.listExtendWith (.ref S) (.ref it) res) (RunsTo prog w A Z) (fun e s'=>Z (.error e) s') s:=by
 have go:∀(h:Heap) (c tk:Nat),Keeps s.heap h (· = S)→h.get? S=some { cls := .type "list",data := .seq #[] c } → codeAny (model prog w) A (.builtin "list.extend.loop" ⟨[.ref S, .ref it,res],[]⟩) Z { s with heap:=h,toks:=tk }:=
  fun h c tk k o=>feed_loop Fd hn fin n 0 h tk #[] c (by first|lia|omega) (Fd.keepS _ _ _ hst k) ⟨o,rfl, .nil,fun j v e=>by simp at e⟩ fun b o nb q=>k b o (fun z=>nb (.inr z)) q
 obtain ⟨oi,hoi,hci⟩:=Fd.ty 0 _ hst
 have hT:s.TypeIs (.ref it) T:=⟨oi,hoi,hci⟩
 have nsame:Builtin.List.listSameRef (.ref S) (.ref it)=false:=by simp [Builtin.List.listSameRef,Ne.symm Fd.ne]
 unfold Builtin.List.listExtendWith
 refine wpAny_bind (wpAny_typeOf hT ?_)
 simp only [nsame,Fd.nl,Fd.nt,Bool.or_false,Bool.false_eq_true,if_false]
 refine wpAny_bind (Fd.self s _ _ hst ?_)
 have hint:∀(Q:Bool→Shared→Prop),Q true s→wpAny (model prog w) A.in1 (Builtin.List.listLengthHint (.ref it)) Q (fun e s'=>Z (.error e) s') s:=fun Q q=>by
  unfold Builtin.List.listLengthHint
  refine wpAny_bind (wpAny_specialOf hT Fd.nolen ?_)
  refine wpAny_ite_split (fun z=>absurd z (by decide)) fun _=>wpAny_ite_split (fun z=>absurd z (by decide)) fun _ => ?_
  exact wpAny_bind (wpAny_specialOf hT Fd.nohint (wpAny_pure q))
 refine wpAny_bind (wpAny_holding (hint _ ?_))
 refine wpAny_ite_split (fun _ => ?_) fun _=>wpAny_pure ⟨plainId_quiet PySem.F.plain_extend_loop _,go _ c₀ _ (fun _ _ _ q=>q) hS⟩
 refine wpAny_bind (wpAny_rule (wpAny_bind ?_))
 have o1:=Heap.get?_update_self (Obj.mapSeq (·.push Value.none)) hS rfl
 have o2:=Heap.get?_update_self (Obj.mapSeq (·.pop)) o1 rfl
 refine wpAny_bind (wpAny_updateSeq hS rfl (wpAny_updateSeq (hz:=by seq_fits) o1 rfl (wpAny_pure ⟨plainId_quiet PySem.F.plain_extend_loop _,go _ _ _ (fun b o nb q => ?_) o2⟩)))
 exact (Heap.get?_update_other _ _ (Ne.symm nb)).trans ((Heap.get?_update_other _ _ (Ne.symm nb)).trans q)
theorem feed_init (Fd:Feed prog w A.in1 it S T fp n P R St) (hn:n≤sizeLine) {s:Shared} {Z:Result→Shared→Prop} (hst:St 0 s.heap) (hS:s.heap.get? S=some { cls := .type "list",data := .seq #[] })
  (fin:FeedEnd s.heap S fp n P R s (Z (.ok (.ret .none)))) :
  wpAny (model prog w) A.in1 (Builtin.«list.__init__» ⟨[.ref S, .ref it],[]⟩) (RunsTo prog w A Z) (fun e s'=>Z (.error e) s') s:=by
 refine wpAny_bind ?_
 unfold Builtin.List.listItems
 refine wpAny_bind (wpAny_seqItems hS rfl (wpAny_pure ?_))
 have o1:=Heap.get?_update_self (Obj.mapSeq (fun _=>(#[]:Array Value))) hS rfl
 have k1:Keeps s.heap (s.heap.update S (Obj.mapSeq (fun _=>(#[]:Array Value)))) (· = S):=fun b o nb q=>(Heap.get?_update_other _ _ (Ne.symm nb)).trans q
 refine wpAny_bind (wpAny_updateSeq hS rfl (wpAny_bind (wpAny_letGo ?_)))
 refine feed_extend (s:={ s with heap:=_ }) Fd hn (Fd.keepS _ _ _ hst k1) o1 fun h' tk acc c k G => ?_
 exact fin h' tk acc c (fun b o nb q=>k b o nb (k1 b o (fun z=>nb (.inr z)) q)) G
theorem feed_call {s:Shared} {Q:Value→Shared→Prop} {E:Value→Shared→Prop} (Fd:Feed prog w A.in1.in1 it s.heap.objs.size T fp n P R St) (hn:n≤sizeLine) (hst:∀o,St 0 (s.heap.push o))
  (fin:∀h' tk acc c,Keeps s.heap h' fp→Grown h' s.heap.objs.size n P R acc c→Q (.ref s.heap.objs.size) { s with heap:=h',toks:=tk }) :
  wpAny (model prog w) A (call (.type "list") [.ref it]) Q E s:=by
 refine callType_codes (Q₁:=fun obj s₁=>obj = .ref s.heap.objs.size∧s₁={ s with heap:=s.heap.push { cls := .type "list",data := .seq #[] } }) F.called_list (F.typeCall_list_1 _) F.entry_list_init
  (code_list_new _ ⟨rfl,rfl⟩) fun obj s₁ h₁ => ?_
 obtain ⟨rfl,rfl⟩:=h₁
 have hS:(s.heap.push { cls := .type "list",data := .seq #[] }).get? s.heap.objs.size=some { cls := .type "list",data := .seq #[] }:=Heap.get?_push_size _ rfl
 refine ⟨⟨_,hS,rfl⟩,F.args_list_init_2 _ _,feed_init (s:={ s with heap:=_ }) (A:=A.in1) Fd hn (hst _) hS fun h' tk acc c k G=>⟨rfl,fin h' tk acc c (fun b o nb q => ?_) G⟩⟩
 exact k b o (fun z=>z.elim nb fun z=>addr_ne (Heap.lt_size q) (Nat.le_refl _) z) (Heap.get?_push_of_some _ q)
end
end L2
namespace L2
open PySem PySem.Spec PyProof.Rows
noncomputable abbrev ZipOut (h:Heap) (z TI TO a:Addr) (f:Bool):Prop:=
 h.get? z=some { cls := .type "zip",dict:=none,data := .fields #[rawInt a, .bool f, .bool false, .ref TI, .ref TO],slots := #[] }
section
variable {prog:Program} {w:World} {A:Around} {E:Value→Shared→Prop} {s:Shared} {z TI TO i1 i2 l1 l2 a:Addr} {f:Bool} {oa:Obj}
theorem zip_busy {Q:Bool→Shared→Prop} (hz:ZipOut s.heap z TI TO a f) (ha:s.heap.get? a=some oa)
  (q:∀h,ZipOut h z TI TO a true→Heap.SameBut z s.heap h→Q false { s with heap:=h }):wpAny (model prog w) A (Builtin.SmallTypes.ownedTupleIsFree (.ref z)) Q E s:=by
 unfold Builtin.SmallTypes.ownedTupleIsFree
 refine wpAny_bind (wpAny_field hz rfl (x:=rawInt a) rfl ?_)
 show wpAny _ _ (loadIfAlive ((a:Int).toNat) >>= _) _ _ _
 rw [Int.toNat_natCast]
 refine wpAny_bind (PySem.W.kdx_alive ha ?_)
 simp -iota only [Option.isNone_some,Bool.false_eq_true,if_false]
 refine wpAny_bind (wpAny_field hz rfl (x := .bool f) rfl ?_)
 cases f
 ·exact wpAny_bind (wpAny_setField_rec hz (by simp) fun h e k=>wpAny_pure (q h e k))
 ·exact wpAny_pure (q s.heap hz (Heap.SameBut.refl _ _))
theorem zip_out_item {k:Nat} {xs ys:Array Value} {x y:Value} {Q:Option Value→Shared→Prop} (D:ZipApart z TI TO i1 i2 l1 l2) (hz:ZipOut s.heap z TI TO a f) (ha:s.heap.get? a=some oa) (hTI:IsPair s.heap TI (.ref i1) (.ref i2))
  (h1:s.heap.IsListIter i1 l1 k) (h2:s.heap.IsListIter i2 l2 k) (hl1:s.heap.IsList l1 xs) (hl2:s.heap.IsList l2 ys) (hx:xs[k]? = some x) (hy:ys[k]? = some y)
  (q:∀h',ZipOut h' z TI TO a true→h'.IsListIter i1 l1 (k+1)→h'.IsListIter i2 l2 (k+1)→IsPair h' s.heap.objs.size x y→Keeps s.heap h' (fun b=>b=z∨b=i1∨b=i2)→Q (some (.ref s.heap.objs.size)) { s with heap:=h' }) :
  wpAny (model prog w) A (pyNext (.ref z)) Q E s:=by
 have hT:s.TypeIs (.ref z) "zip":=⟨_,hz,rfl⟩
 unfold pyNext
 refine wpAny_bind (wpAny_attempt (wpAny_callSpecial?_slot (name:=Str.ofString "__next__") hT F.slot_zip_next (wpAny_call_entry F.slot_zip_next hT F.entry_zip_next ?_ (F.args_zip_next_1 _))))
 change wpAny _ _ (Bind.bind (field (.ref z) 2) _) _ _ _
 refine wpAny_bind (wpAny_field hz rfl (x := .bool false) rfl ?_)
 change wpAny _ _ (Bind.bind (field (.ref z) 3) _) _ _ _
 refine wpAny_bind (wpAny_field hz rfl (x := .ref TI) rfl (wpAny_bind (wpAny_seqItems hTI rfl ?_)))
 change wpAny _ _ (Bind.bind (Builtin.SmallTypes.ownedTupleIsFree (.ref z)) _) _ _ _
 refine wpAny_bind (zip_busy hz ha fun h0 z0 k0 => ?_)
 simp -iota only [Bool.false_eq_true,if_false, ←Array.forIn_toList,List.forIn_cons,List.forIn_nil]
 refine wpAny_bind (wpAny_bind (wpAny_bind (wpAny_holding (wpAny_bind (wpAny_nextOf_list_item (h1.extBut k0.extBut D.i1z) (hl1.extBut k0.extBut D.l1z) hx fun h4 e4 k4=>wpAny_pure (wpAny_pure ?_))))))
 refine wpAny_bind (wpAny_bind (wpAny_holding (wpAny_bind (wpAny_nextOf_list_item ((h2.extBut k0.extBut D.i2z).extBut k4.extBut D.i12.symm) ((hl2.extBut k0.extBut D.l2z).extBut k4.extBut D.l2i1) hy fun h5 e5 k5=>wpAny_pure (wpAny_pure (wpAny_pure ?_))))))
 refine wpAny_bind (wpAny_newTuple (hsz:=by show 2≤sizeLine;decide) (wpAny_pure ⟨_,rfl,wpAny_pure ?_⟩))
 have hsz:h5.objs.size=s.heap.objs.size:=by rw [k5.1,k4.1,k0.1]
 show Q (some (.ref h5.objs.size)) _
 rw [hsz]
 refine q (h5.push { cls := .type "tuple",data := .seq #[x,y] }) (Heap.get?_push_of_some _ (k5.extBut _ _ D.i2z.symm (k4.extBut _ _ D.i1z.symm z0))) ((e4.extBut k5.extBut D.i12).at fun o e=>Heap.get?_push_of_some _ e) (e5.at fun o e=>Heap.get?_push_of_some _ e) (by rw [←hsz];exact Heap.get?_push_size _ rfl) fun b o nb e => ?_
 exact Heap.get?_push_of_some _ (k5.extBut _ _ (fun z=>nb (.inr (.inr z))) (k4.extBut _ _ (fun z=>nb (.inr (.inl z))) (k0.extBut _ _ (fun z=>nb (.inl z)) e)))
theorem zip_out_stop {k:Nat} {xs ys:Array Value} {Q:Option Value→Shared→Prop} (hh:A.handled=none) (D:ZipApart z TI TO i1 i2 l1 l2) (hz:ZipOut s.heap z TI TO a f) (ha:s.heap.get? a=some oa) (hTI:IsPair s.heap TI (.ref i1) (.ref i2))
  (h1:s.heap.IsListIter i1 l1 k) (h2:s.heap.IsListIter i2 l2 k) (hl1:s.heap.IsList l1 xs) (hl2:s.heap.IsList l2 ys) (he:xs[k]? = none∨ys[k]? = none)
  (q:∀h',Keeps s.heap h' (fun b=>b=z∨b=i1∨b=i2)→Q none { s with heap:=h' }) :
  wpAny (model prog w) A (pyNext (.ref z)) Q E s:=by
 have hT:s.TypeIs (.ref z) "zip":=⟨_,hz,rfl⟩
 unfold pyNext
 refine wpAny_bind (wpAny_attempt (wpAny_callSpecial?_slot (name:=Str.ofString "__next__") hT F.slot_zip_next (wpAny_call_entry F.slot_zip_next hT F.entry_zip_next ?_ (F.args_zip_next_1 _))))
 change wpAny _ _ (Bind.bind (field (.ref z) 2) _) _ _ _
 refine wpAny_bind (wpAny_field hz rfl (x := .bool false) rfl ?_)
 change wpAny _ _ (Bind.bind (field (.ref z) 3) _) _ _ _
 refine wpAny_bind (wpAny_field hz rfl (x := .ref TI) rfl (wpAny_bind (wpAny_seqItems hTI rfl ?_)))
 change wpAny _ _ (Bind.bind (Builtin.SmallTypes.ownedTupleIsFree (.ref z)) _) _ _ _
 refine wpAny_bind (zip_busy hz ha fun h0 z0 k0 => ?_)
 simp -iota only [Bool.false_eq_true,if_false, ←Array.forIn_toList,List.forIn_cons,List.forIn_nil]
 refine wpAny_bind (wpAny_bind (wpAny_bind (wpAny_holding ?_)))
 cases hx:xs[k]? with
 | none=>
  refine wpAny_bind (wpAny_nextOf_list_end hh (h1.extBut k0.extBut D.i1z) (hl1.extBut k0.extBut D.l1z) hx fun h4 e k4 oe => ?_)
  refine Elim.el (oe) _ ?_
  rintro o ho hc
  exact wpAny_bind (wpAny_isInstance (T := "StopIteration") (b:=true) ⟨o,ho,hc⟩ isSubtype_stop (wpAny_pure (q h4 fun b o nb x=>k4 _ _ (fun z=>nb (.inr (.inl z))) (k0.extBut _ _ (fun z=>nb (.inl z)) x))))
 | some x=>
  have hy:ys[k]? = none:=he.resolve_left (by rw [hx];exact fun z=>nomatch z)
  refine wpAny_bind (wpAny_nextOf_list_item (h1.extBut k0.extBut D.i1z) (hl1.extBut k0.extBut D.l1z) hx fun h4 e4 k4=>wpAny_pure (wpAny_pure ?_))
  refine wpAny_bind (wpAny_bind (wpAny_holding (wpAny_bind (wpAny_nextOf_list_end hh ((h2.extBut k0.extBut D.i2z).extBut k4.extBut D.i12.symm) ((hl2.extBut k0.extBut D.l2z).extBut k4.extBut D.l2i1) hy fun h5 e k5 oe => ?_))))
  refine Elim.el (oe) _ ?_
  rintro o ho hc
  exact wpAny_bind (wpAny_isInstance (T := "StopIteration") (b:=true) ⟨o,ho,hc⟩ isSubtype_stop (wpAny_pure (q h5 fun b o nb x=>k5 _ _ (fun z=>nb (.inr (.inr z))) (k4.extBut _ _ (fun z=>nb (.inr (.inl z))) (k0.extBut _ _ (fun z=>nb (.inl z)) x)))))
end
structure ZipFeeds (z TI TO i1 i2 l1 l2 S:Addr) (xs ys:Array Value) (i:Nat) (h:Heap):Prop where
 ti:IsPair h TI (.ref i1) (.ref i2)
 to:∃a b,IsPair h TO a b
 it1:h.IsListIter i1 l1 i
 it2:h.IsListIter i2 l2 i
 a1:h.IsList l1 xs
 a2:h.IsList l2 ys
 zp:IsZip h z TI TO .none∨0<i∧∃a f oa,ZipOut h z TI TO a f∧h.get? a=some oa∧S<a
noncomputable abbrev zipFp (z TO i1 i2:Addr) (b:Addr):Prop:=b=z∨b=TO∨b=i1∨b=i2
noncomputable abbrev ZipPair (S:Addr) (xs ys:Array Value) (j:Nat) (v:Value) (h:Heap):Prop:=Ex3 fun a x y=>v = .ref a∧S<a∧xs[j]? = some x∧ys[j]? = some y∧IsPair h a x y
noncomputable abbrev Rising (u v:Value):Prop:=∃a b:Addr,u = .ref a∧v = .ref b∧a<b
theorem zip_feed {prog:Program} {w:World} {A:Around} {z TI TO i1 i2 l1 l2 S:Addr} {xs ys:Array Value} (hh:A.handled=none) (D:ZipApart z TI TO i1 i2 l1 l2) (b1:z<S) (b2:TI<S) (b3:TO<S) (b4:i1<S) (b5:i2<S) (b6:l1<S) (b7:l2<S) :
  Feed prog w A z S "zip" (zipFp z TO i1 i2) (min xs.size ys.size) (ZipPair S xs ys) Rising (ZipFeeds z TI TO i1 i2 l1 l2 S xs ys) where
 sfp:=fun q=>by
  rcases q with q|q|q|q <;> (rw [q] at b1 b3 b4 b5;first|exact absurd b1 (Nat.lt_irrefl _)|exact absurd b3 (Nat.lt_irrefl _)|exact absurd b4 (Nat.lt_irrefl _)|exact absurd b5 (Nat.lt_irrefl _))
 ne:=Nat.ne_of_lt b1
 ty:=fun i h st=>by
  rcases st.zp with q|⟨_,a,f,oa,q,_⟩
  ·exact ⟨_,q,rfl⟩
  ·exact ⟨_,q,rfl⟩
 self:=fun s Q E st q=>by
  rcases st.zp with r|⟨r,_⟩
  ·exact wpAny_pyIter_zip r q
  ·exact absurd r (Nat.lt_irrefl _)
 item:=fun i s Q E hi st hS q=>by
  obtain ⟨ti,⟨a,b,to⟩,it1,it2,a1,a2,zp⟩:=st
  have hx:xs[i]? = some (xs[i]'(by first|lia|omega)):=Array.getElem?_eq_getElem (by first|lia|omega)
  have hy:ys[i]? = some (ys[i]'(by first|lia|omega)):=Array.getElem?_eq_getElem (by first|lia|omega)
  have old:∀j u,ZipPair S xs ys j u s.heap→Rising u (.ref s.heap.objs.size):=fun j u hz_=>Elim.el hz_ _ fun a x y e _ _ _ p=>⟨a,_,e,rfl,Heap.lt_size p⟩
  rcases zp with r|⟨hi0,c,f,oc,r,oc',hc⟩
  ·refine wpAny_pyNext_zip_item D r ti to it1 it2 a1 a2 hx hy fun h' r1 r2 r3 r4 r5 r6 r7 => ?_
   have kp:Keeps s.heap h' (zipFp z TO i1 i2):=fun b o nb e=>r7 b o (fun z=>nb (.inl z)) (fun z=>nb (.inr (.inl z))) (fun z=>nb (.inr (.inr (.inl z)))) (fun z=>nb (.inr (.inr (.inr z)))) e
   refine q _ h' s.toks kp ⟨r7 _ _ D.TIz D.TITO D.TIi1 D.TIi2 ti,⟨_,_,r2⟩,r3,r4,a1.at fun o e=>r7 _ _ D.l1z D.l1TO D.l1i1 D.l1i2 e,a2.at fun o e=>r7 _ _ D.l2z D.l2TO D.l2i1 D.l2i2 e, .inr ⟨Nat.succ_pos _,_,_,_,r1,r5,hS⟩⟩ ⟨_,_,_,rfl,hS,hx,hy,r5⟩ old
  ·have ne:∀{b:Addr},b<S→c≠b:=fun hb=>Nat.ne_of_gt (Nat.lt_trans hb hc)
   refine zip_out_item D r oc' ti it1 it2 a1 a2 hx hy fun h' r1 r2 r3 r4 r5 => ?_
   have kp:Keeps s.heap h' (zipFp z TO i1 i2):=fun b o nb e=>r5 b o (fun z=>z.elim (fun z=>nb (.inl z)) fun z=>nb (.inr (.inr z))) e
   refine q _ h' s.toks kp ⟨r5 _ _ (fun z=>z.elim D.TIz fun z=>z.elim D.TIi1 D.TIi2) ti,⟨_,_,r5 _ _ (fun z=>z.elim D.TOz fun z=>z.elim D.TOi1 D.TOi2) to⟩,r2,r3,a1.at fun o e=>r5 _ _ (fun z=>z.elim D.l1z fun z=>z.elim D.l1i1 D.l1i2) e,a2.at fun o e=>r5 _ _ (fun z=>z.elim D.l2z fun z=>z.elim D.l2i1 D.l2i2) e,
    .inr ⟨Nat.succ_pos _,_,_,_,r1,r5 _ _ (fun z=>z.elim (ne b1) fun z=>z.elim (ne b4) (ne b5)) oc',hc⟩⟩ ⟨_,_,_,rfl,hS,hx,hy,r4⟩ old
 stop:=fun s Q E st hS q=>by
  obtain ⟨ti,⟨a,b,to⟩,it1,it2,a1,a2,zp⟩:=st
  have he:xs[min xs.size ys.size]? = none∨ys[min xs.size ys.size]? = none:=by
   rcases Nat.le_total xs.size ys.size with h|h
   ·exact .inl (Array.getElem?_eq_none (by first|lia|omega))
   ·exact .inr (Array.getElem?_eq_none (by first|lia|omega))
  rcases zp with r|⟨hi0,c,f,oc,r,oc',hc⟩
  ·exact wpAny_pyNext_zip_end hh D r ti to it1 it2 a1 a2 he fun h' k=>q h' s.toks fun b o nb e=>k b o (fun z=>nb (.inl z)) (fun z=>nb (.inr (.inl z))) (fun z=>nb (.inr (.inr (.inl z)))) (fun z=>nb (.inr (.inr (.inr z)))) e
  ·exact zip_out_stop hh D r oc' ti it1 it2 a1 a2 he fun h' k=>q h' s.toks fun b o nb e=>k b o (fun z=>z.elim (fun z=>nb (.inl z)) fun z=>nb (.inr (.inr z))) e
 keepS:=fun i h h' st k=>by
  obtain ⟨ti,⟨a,b,to⟩,it1,it2,a1,a2,zp⟩:=st
  refine ⟨k _ _ (Nat.ne_of_lt b2) ti,⟨a,b,k _ _ (Nat.ne_of_lt b3) to⟩,it1.at fun o e=>k _ o (Nat.ne_of_lt b4) e,it2.at fun o e=>k _ o (Nat.ne_of_lt b5) e,a1.at fun o e=>k _ o (Nat.ne_of_lt b6) e,a2.at fun o e=>k _ o (Nat.ne_of_lt b7) e,?_⟩
  rcases zp with r|⟨hi0,c,f,oc,r,oc',hc⟩
  ·exact .inl (k _ _ (Nat.ne_of_lt b1) r)
  ·exact .inr ⟨hi0,c,f,oc,k _ _ (Nat.ne_of_lt b1) r,k _ _ (Nat.ne_of_gt hc) oc',hc⟩
 keepP:=fun j v h h' ⟨a,x,y,e,ha,h1,h2,p⟩ k=>by
  have ne:∀{b:Addr},b<S→a≠b:=fun hb=>Nat.ne_of_gt (Nat.lt_trans hb ha)
  exact ⟨a,x,y,e,ha,h1,h2,k _ _ (fun z=>z.elim (fun z=>z.elim (ne b1) fun z=>z.elim (ne b3) fun z=>z.elim (ne b4) (ne b5)) (Nat.ne_of_gt ha)) p⟩
 nolen:=by rw [typeLookup_type,builtinLookup_eq_fast];kernel_rfl
 nohint:=by rw [typeLookup_type,builtinLookup_eq_fast];kernel_rfl
 nl:=by decide
 nt:=by decide
end L2
namespace L2
open PySem PySem.Spec PyProof.Rows
theorem Inv.adoptAll {X:Cx} {pins:List (Addr×Obj)} {σ:St} : ∀(as:List Addr) (ps:List (List V)) {H:Hp} {s:Shared},Inv X pins σ H s→as.Nodup→as.length=ps.length→(∀a∈as,FpOk X pins H a∧X.s₀.heap.objs.size≤a) →
  (∀(j:Nat) a p,as[j]? = some a→ps[j]? = some p→p.length≤sizeLine∧∃its:List Value,Vals p its∧IsTup s.heap a its.toArray) →
  ∃H',Inv X pins σ H' s∧Same H H'∧(∀b,b ∉ as→H' b=H b)∧∀(j:Nat) a p,as[j]? = some a→ps[j]? = some p→H' a=some (.tup p)
 | [],ps,H,s,I,_,_,_,_=>⟨H,I,Same.refl H,fun _ _=>rfl,fun j a p h _=>by simp at h⟩
 | a :: as,[],H,s,I,_,hl,_,_=>by simp at hl
 | a :: as,p :: ps,H,s,I,nd,hl,hf,ho=>by
  obtain ⟨na,nd'⟩:=List.nodup_cons.mp nd
  obtain ⟨fa,sa⟩:=hf a List.mem_cons_self
  obtain ⟨hz,its,rv,ht⟩:=ho 0 a p rfl rfl
  have I1:=I.adopt (T:=a) (o := .tup p) fa sa ⟨hz,its,rv,ht⟩
  obtain ⟨H',I',sm,same,all⟩:=Inv.adoptAll as ps I1 nd' (by simpa using hl) (fun b hb=>by
   obtain ⟨fb,sb⟩:=hf b (List.mem_cons_of_mem _ hb)
   exact ⟨⟨by rw [upd_ne (fun (e:b=a)=>na (by rw [←e];exact hb))];exact fb.1,fb.2⟩,sb⟩) (fun j b q h1 h2=>ho (j+1) b q h1 h2)
  refine ⟨H',I',fun b o e=>sm b o (by rw [upd_ne (ne_of_none e fa.1)];exact e),fun b hb => ?_,fun j b q h1 h2 => ?_⟩
  ·rw [same b fun z=>hb (List.mem_cons_of_mem _ z),upd_ne (fun (z:b=a)=>hb (by rw [z];exact List.mem_cons_self))]
  ·cases j with
   | zero=>
    cases h1;cases h2
    rw [same a na];exact upd_same
   | succ j=>exact all j b q h1 h2
theorem refs_of:∀{l:List Value},(∀v∈l,∃a:Addr,v = .ref a)→∃as:List Addr,l=as.map Value.ref
 | [],_=>⟨[],rfl⟩
 | v :: r,h=>by
  obtain ⟨a,rfl⟩:=h v List.mem_cons_self
  obtain ⟨as,rfl⟩:=refs_of fun u hu=>h u (List.mem_cons_of_mem _ hu)
  exact ⟨a :: as,rfl⟩
section
variable {X:Cx}
noncomputable def tLZ (K:PySem.W.Frag) (ta:TA):TE:=fun σ H Q=>ta σ H fun vs H1=>Ex4 fun l1 l2 xs ys=>vs=[.ref l1, .ref l2]∧SqL K H1 l1 xs∧SqL K H1 l2 ys ∧
 ∀H' p (as:List Addr),Same H1 H'→H1 p=none→H' p=some (.lst (as.map V.ref))→as.length=min xs.length ys.length →
  (∀(j:Nat) a x y,as[j]? = some a→xs[j]? = some x→ys[j]? = some y→H1 a=none∧H' a=some (.tup [x,y]))→Q (.ref p) H'
theorem zip_pairs {xs ys:List V} (j:Nat) (x y:V) (hx:xs[j]? = some x) (hy:ys[j]? = some y):((xs.zip ys).map fun q=>[q.1,q.2])[j]? = some [x,y]:=by
 rw [List.getElem?_map,(List.getElem?_zip_eq_some (z:=(x,y))).mpr ⟨hx,hy⟩]
 rfl
theorem pe_listzip {a b:Expr} {ta:TA} {p p2 pos pos2:Pos} (hc:X.calm=true) (hgl:Gl X "list") (hml:X.mg "list" = none) (hgz:Gl X "zip") (hmz:X.mg "zip" = none) (ha:PA X [a,b] ta)
  (hbl:bootBuiltins "list" = some (.type "list"):=by first|rfl|decide) (hbz:bootBuiltins "zip" = some (.type "zip"):=by first|rfl|decide)
  (hs0:starEach [.Call (.Name "zip" p2) [a,b] [] pos2] X.env=[(false,eval (.Call (.Name "zip" p2) [a,b] [] pos2) X.env)]:=by rfl)
  (hs:starEach [a,b] X.env=[(false,eval a X.env),(false,eval b X.env)]:=by rfl) (hs2:starEach [b] X.env=[(false,eval b X.env)]:=by rfl) :
  PE X (.Call (.Name "list" p) [.Call (.Name "zip" p2) [a,b] [] pos2] [] pos) (tLZ X.K ta):=by
 intro pins s σ H Q I h
 refine wpAny_Call_Name_kw (ld_blt I hgl hml hbl ?_)
 refine PyProof.Rows.callWith_type1 ?_ hs0 rfl
 rw [hs0]
 show wpAny _ _ (spliced ((false,eval (.Call (.Name "zip" p2) [a,b] [] pos2) X.env) :: [])) _ _ _
 refine Calls.spliced_cons ?_
 refine Call_ (ld_blt I hgz hmz hbz (PyProof.Rows.callWith_type1 (thn (ha s σ H _ I h) fun us s1 hz_=>Elim.el hz_ _ fun vs H1 I1 r1 q1 => ?_) (by rw [hs,hs2]) (by rw [hs2];rfl)))
 obtain ⟨l1,l2,xs,ys,e,q1,q2,q⟩:=q1
 subst e
 obtain ⟨u,w',rfl,r1,r2⟩:=vals2 r1
 cases r1;cases r2
 obtain ⟨its1,rv1,p1,hz1⟩:=I1.list q1
 refine Elim.el (I1.list q2) _ ?_
 rintro its2 rv2 p2 hz2
 have e1:=rv1.length
 have e2:=rv2.length
 have a1:l1<s1.heap.objs.size:=by obtain ⟨_,e,_⟩:=p1.isList;exact Heap.lt_size e
 have a2:l2<s1.heap.objs.size:=by obtain ⟨_,e,_⟩:=p2.isList;exact Heap.lt_size e
 refine call_zip_2 p1.isList p2.isList fun h' hz hTI hTO hi1 hi2 hsz hk => ?_
 refine Calls.spliced_nil ?_
 have hSz:s1.heap.objs.size≤h'.objs.size:=by rw [hsz];exact Nat.le_add_right _ _
 have hin:∀n,n<5→s1.heap.objs.size+n<h'.objs.size:=fun n hn=>by rw [hsz];exact Nat.add_lt_add_left hn _
 have zs:∀o,ZipFeeds (s1.heap.objs.size+4) (s1.heap.objs.size+2) (s1.heap.objs.size+3) s1.heap.objs.size (s1.heap.objs.size+1) l1 l2 h'.objs.size its1.toArray its2.toArray 0 (h'.push o):=fun o=>
  ⟨Heap.get?_push_of_some _ hTI,⟨_,_,Heap.get?_push_of_some _ hTO⟩,hi1.at fun o e=>Heap.get?_push_of_some _ e,hi2.at fun o e=>Heap.get?_push_of_some _ e,(p1.isList.at fun o e=>hk _ o e).push _,(p2.isList.at fun o e=>hk _ o e).push _, .inl (Heap.get?_push_of_some _ hz)⟩
 refine feed_call (s:={ s1 with heap:=h' }) (zip_feed (I.ok.hd hc) (zipApart_new a1 a2) (hin 4 (by decide)) (hin 2 (by decide)) (hin 3 (by decide)) (hin 0 (by decide)) (hin 1 (by decide)) (Nat.lt_of_lt_of_le a1 hSz) (Nat.lt_of_lt_of_le a2 hSz)) (by simp; (first|lia|omega)) zs fun h2 tk acc c hk2 G => ?_
 obtain ⟨hS2,hsz2,hpw,hall⟩:=G
 obtain ⟨as,hacc⟩:=refs_of (l:=acc.toList) fun v hv=>by
  obtain ⟨j,hj⟩:=List.mem_iff_getElem?.mp hv
  obtain ⟨a,_,_,e,_⟩:=hall j v (by simpa using hj)
  exact ⟨a,e⟩
 have at_as:∀(j:Nat) a,as[j]? = some a→∃x y,h'.objs.size<a∧its1.toArray[j]? = some x∧its2.toArray[j]? = some y∧IsPair h2 a x y:=fun j a h=>by
  obtain ⟨a',x,y,e,g⟩:=hall j (.ref a) (by
   have:acc.toList[j]? = some (.ref a):=by rw [hacc,List.getElem?_map,h];rfl
   simpa using this)
  cases e
  exact ⟨x,y,g⟩
 have above:∀a∈as,h'.objs.size<a:=fun a ha=>by
  obtain ⟨j,hj⟩:=List.mem_iff_getElem?.mp ha
  obtain ⟨_,_,g,_⟩:=at_as j a hj
  exact g
 have old:∀b o,s1.heap.get? b=some o→h2.get? b=some o:=fun b o e=>by
  have hb:=Heap.lt_size e
  have gt:∀n,b≠s1.heap.objs.size+n:=fun n=>Nat.ne_of_lt (Nat.lt_of_lt_of_le hb (Nat.le_add_right _ _))
  exact hk2 b o (fun z=>z.elim (gt 4) fun z=>z.elim (gt 3) fun z=>z.elim (gt 0) (gt 1)) (hk b o e)
 have I2:Inv X pins σ H1 { s1 with heap:=h2,toks:=tk }:=I1.kept old
 have hab:∀a∈as,s1.heap.objs.size≤a:=fun a ha=>Nat.le_of_lt (Nat.lt_of_le_of_lt hSz (above a ha))
 have nd:as.Nodup:=by
  rw [hacc,List.pairwise_map] at hpw
  exact hpw.imp fun hz_=>Elim.el hz_ _ fun a b e1 e2 h=>by cases e1;cases e2;exact Nat.ne_of_lt h
 have fpOk:∀a,s1.heap.objs.size≤a→FpOk X pins H1 a∧X.s₀.heap.objs.size≤a:=fun a ha=>⟨I1.fpOk ha (I1.hok.fresh ha),Nat.le_trans I1.sz ha⟩
 have hal:as.length=min xs.length ys.length:=by
  have z:acc.toList.length=as.length:=by rw [hacc,List.length_map]
  simp at z hsz2
  (first|lia|omega)
 obtain ⟨H',I',sm,same,all⟩:=I2.adoptAll as ((xs.zip ys).map fun q=>[q.1,q.2]) nd (by rw [List.length_map,List.length_zip]; (first|lia|omega)) (fun a ha=>fpOk a (hab a ha)) (fun j a pp h1 h2'=>by
  refine Elim.el (at_as j a h1) _ ?_
  rintro x y _ g1 g2 g3
  refine Elim.el (vals_at rv1 g1) _ ?_
  rintro vx gx rx
  refine Elim.el (vals_at rv2 g2) _ ?_
  rintro vy gy ry
  have z:=zip_pairs j vx vy gx gy
  rw [z] at h2';cases h2'
  exact ⟨by show 2≤sizeLine;decide,[x,y], .cons rx (.cons ry .nil),⟨_,g3,rfl,_,rfl⟩⟩)
 have hSn:h'.objs.size ∉ as:=fun hm=>Nat.lt_irrefl _ (above _ hm)
 have hS1:H1 h'.objs.size=none:=I1.hok.fresh hSz
 obtain ⟨fS,sS⟩:=fpOk h'.objs.size hSz
 have fS':FpOk X pins H' h'.objs.size:=⟨by rw [same _ hSn];exact hS1,fS.2⟩
 have I3:=I'.adopt (T:=h'.objs.size) (o := .lst (as.map V.ref)) fS' sS ⟨by rw [List.length_map]; (first|lia|omega),acc.toList,c,by
  rw [hacc]
  clear hS2 hacc all same I' sm hab nd hal hSn above at_as
  induction as with
  | nil=>exact .nil
  | cons a r ih=>exact .cons rfl ih,by simpa using hS2⟩
 refine ⟨.ref h'.objs.size,_,I3,rfl,q _ _ as (fun b o e => ?_) hS1 upd_same hal fun j a x y h1 h2' h3'=>⟨(fpOk a (hab a (List.mem_of_getElem? h1))).1.1,?_⟩⟩
 ·rw [upd_ne (ne_of_none e hS1)];exact sm b o e
 ·rw [upd_ne (fun (z:a=h'.objs.size)=>hSn (by rw [←z];exact List.mem_of_getElem? h1))]
  exact all j a [x,y] h1 (zip_pairs j x y h2' h3')
end
end L2
namespace L2
open PySem PySem.Spec PyProof.Rows
structure New (H:Hp) (p:Addr) (o:HO) (H':Hp):Prop where
 nn:H p=none
 eq:H'=upd H p o
theorem New.at {H H':Hp} {p:Addr} {o:HO} (n:New H p o H'):H' p=some o:=by rw [n.eq];exact upd_same
theorem New.ne {H H':Hp} {p a:Addr} {o:HO} (n:New H p o H') (h:a≠p):H' a=H a:=by rw [n.eq];exact upd_ne h
theorem New.same {H H':Hp} {p:Addr} {o:HO} (n:New H p o H'):Same H H':=fun a u e=>by rw [n.ne (ne_of_none e n.nn)];exact e
theorem New.back {H H':Hp} {p a:Addr} {o:HO} (n:New H p o H') (h:H' a=none):H a=none:=by
 cases e:H a with
 | none=>rfl
 | some u=>rw [n.same a u e] at h;cases h
structure Chg (H:Hp) (p:Addr) (o:HO) (H':Hp):Prop where
 eq:H'=upd H p o
theorem Chg.at {H H':Hp} {p:Addr} {o:HO} (n:Chg H p o H'):H' p=some o:=by rw [n.eq];exact upd_same
theorem Chg.ne {H H':Hp} {p a:Addr} {o:HO} (n:Chg H p o H') (h:a≠p):H' a=H a:=by rw [n.eq];exact upd_ne h
theorem new_all {H:Hp} {o:HO} {F:Addr→Hp→Prop} : (∀p,H p=none→F p (upd H p o)) = ∀p H',New H p o H'→F p H':=
 propext ⟨fun h p H' n=>by rw [n.eq];exact h p n.nn,fun h p hp=>h p _ ⟨hp,rfl⟩⟩
theorem chg_all {H:Hp} {p:Addr} {o:HO} {F:Hp→Prop} : F (upd H p o) = ∀H',Chg H p o H'→F H':=
 propext ⟨fun h H' n=>by rw [n.eq];exact h,fun h=>h _ ⟨rfl⟩⟩
section
variable {X:Cx} {pos:Pos} {es:List Expr} {t:TA}
noncomputable def tTupN (t:TA):TE:=fun σ H Q=>t σ H fun xs H1=>xs.length≤sizeLine∧∀p H',New H1 p (.tup xs) H'→Q (.ref p) H'
noncomputable def tLstN (t:TA):TE:=fun σ H Q=>t σ H fun xs H1=>xs.length≤sizeLine∧∀p H',New H1 p (.lst xs) H'→Q (.ref p) H'
theorem tupN {x1} (h:PA X es t):PE X (.Tuple es x1 pos) (tTupN t):=by
 have e:tTupN t=tTup t:=by
  funext σ H Q
  show t σ H _=t σ H _
  congr 1;funext xs H1
  exact congrArg (_ ∧ ·) (new_all (F:=fun p H'=>Q (.ref p) H')).symm
 rw [e];exact pe_tup h
theorem lstN (h:PA X es t):PE X (.List es pos) (tLstN t):=by
 have e:tLstN t=tLst t:=by
  funext σ H Q
  show t σ H _=t σ H _
  congr 1;funext xs H1
  exact congrArg (_ ∧ ·) (new_all (F:=fun p H'=>Q (.ref p) H')).symm
 rw [e];exact pe_lst h
noncomputable def tDispN (trs:List (TE×TE)):TE:=fun σ H Q=>∀p H0,New H p (.dK []) H0→tPairs trs σ H0 fun ps H2=>H2 p=some (.dK [])∧∃kvs:List (Key×V),ps=kvs.map (fun kv=>(kV kv.1,kv.2))∧kvs.length≤15∧∀H3,Chg H2 p (.dK (mergeK [] kvs)) H3→Q (.ref p) H3
theorem dispN {keys:List (Option Expr)} {values:List Expr} {trs:List (TE×TE)} (h:PPs X pos keys values trs) (hall:keys.all (·.isSome)=true) (hl:keys.length=values.length) (h0:keys≠[])
  (h15:keys.length≤15):PE X (.Dict keys values pos) (tDispN trs):=by
 have e:tDispN trs=tDisp trs:=by
  funext σ H Q
  unfold tDispN tDisp
  rw [new_all (F:=fun p H0=>tPairs trs σ H0 fun ps H2=>H2 p=some (.dK [])∧∃kvs:List (Key×V),ps=kvs.map (fun kv=>(kV kv.1,kv.2))∧kvs.length≤15∧Q (.ref p) (upd H2 p (.dK (mergeK [] kvs))))]
  simp only [←chg_all (F:=fun H3=>Q (.ref _) H3)]
 rw [e];exact pe_disp h hall hl h0 h15
end
section
variable {X:Cx} (K:PySem.W.Frag)
noncomputable def rSlN (K:PySem.W.Frag):V→Option Int→Option Int→Hp→VK→Prop:=fun x lo hi H Q=>(Ex2 fun a xs=>x = .ref a∧SqL K H a xs∧∀p H',New H p (.lst (cutV xs lo hi)) H'→Q (.ref p) H')∨(∃z,x = .str z∧z.length≤sizeLine∧Q (.str (Txt.slice z lo hi)) H)
theorem slN (hK:X.K=K:=by rfl):SlR X (rSlN K):=by
 subst hK
 intro pins s σ H x v vl vu lo hi sl Q I rx hs pl pu q
 refine g_sl s σ H x v vl vu lo hi sl Q I rx hs pl pu ?_
 rcases q with ⟨a,xs,e,h,q⟩|q
 ·exact .inl ⟨a,xs,e,h,fun p hp=>q p _ ⟨hp,rfl⟩⟩
 ·exact .inr q
theorem listN (hK:X.K=K:=by rfl):CallR X (.type "list") (fun xs H Q=>∃p ys,xs=[.ref p]∧(SqL K H p ys∨SqT K H p ys)∧∀l H',New H l (.lst ys) H'→Q (.ref l) H'):=by
 subst hK
 intro pins s σ H xs us Q I r h
 refine Elim.el (h) _ ?_
 rintro p ys e h q
 exact call_list_of s σ H xs us Q I r ⟨p,ys,e,h,fun l hl=>q l _ ⟨hl,rfl⟩⟩
end
section
variable {X:Cx}
noncomputable def rAddN:R2:=fun x y H Q=>(Ex2 fun i j=>x = .int i∧y = .int j∧Q (.int (i+j)) H)∨(∃i j,x = .str i∧y = .str j∧i.length+j.length≤sizeLine∧Q (.str (i++j)) H) ∨
 Ex4 fun l b xs zs=>x = .ref l∧y = .ref b∧H l=some (.lst xs)∧H b=some (.lst zs)∧xs.length+zs.length≤sizeLine∧∀p H',New H p (.lst (xs++zs)) H'→Q (.ref p) H'
theorem addN:OpR X (binaryOp .Add) rAddN:=by
 intro pins s σ H x y v u Q I rx ry h
 refine g_add s σ H x y v u Q I rx ry ?_
 rcases h with h|h|⟨l,b,xs,zs,e1,e2,h1,h2,h3,q⟩
 ·exact .inl h
 ·exact .inr (.inl h)
 ·exact .inr (.inr ⟨l,b,xs,zs,e1,e2,h1,h2,h3,fun p hp=>q p _ ⟨hp,rfl⟩⟩)
noncomputable def rMulN:R2:=fun x y H Q=>(Ex2 fun i j=>x = .int i∧y = .int j∧CMul i j∧Q (.int (i*j)) H) ∨
 Ex3 fun l k xs=>x = .ref l∧y = .int k∧H l=some (.lst xs) ∧ -(2 ^ 63)≤k∧k<2 ^ 63∧xs.length*k.toNat≤sizeLine∧∀p H',New H p (.lst (List.replicate k.toNat xs).flatten) H'→Q (.ref p) H'
theorem mulN:OpR X (binaryOp .Mult) rMulN:=by
 intro pins s σ H x y v u Q I rx ry h
 refine g_mul s σ H x y v u Q I rx ry ?_
 rcases h with h|⟨l,k,xs,e1,e2,h1,h2,h3,h4,q⟩
 ·exact .inl h
 ·exact .inr ⟨l,k,xs,e1,e2,h1,h2,h3,h4,fun p hp=>q p _ ⟨hp,rfl⟩⟩
theorem divmodN:CallR X (.builtin "divmod") (fun xs H Q=>∃i j,xs=[.int i, .int j]∧CDiv i j∧∀p H',New H p (.tup [.int (i / j), .int (i % j)]) H'→Q (.ref p) H'):=by
 intro pins s σ H xs us Q I r h
 refine Elim.el (h) _ ?_
 rintro i j e c q
 exact call_divmod s σ H xs us Q I r ⟨i,j,e,c,fun p hp=>q p _ ⟨hp,rfl⟩⟩
theorem appendN:MtM X "list.append" (fun x vs H Q=>∃l xs y,x = .ref l∧vs=[y]∧H l=some (.lst xs)∧xs.length<sizeLine∧∀H',Chg H l (.lst (xs++[y])) H'→Q .non H'):=by
 intro pins s σ H x xs v us Q I rx rv h
 refine Elim.el (h) _ ?_
 rintro l ys y e1 e2 h1 h2 q
 exact mt_append s σ H x xs v us Q I rx rv ⟨l,ys,y,e1,e2,h1,h2,q _ ⟨rfl⟩⟩
theorem extendN:MtM X "list.extend" (fun x vs H Q=>∃l b xs zs,x = .ref l∧vs=[.ref b]∧H l=some (.lst xs)∧H b=some (.lst zs)∧xs.length+zs.length≤sizeLine∧∀H',Chg H l (.lst (xs++zs)) H'→Q .non H'):=by
 intro pins s σ H x xs v us Q I rx rv h
 refine Elim.el (h) _ ?_
 rintro l b ys zs e1 e2 h1 h2 h3 q
 exact mt_extend s σ H x xs v us Q I rx rv ⟨l,b,ys,zs,e1,e2,h1,h2,h3,q _ ⟨rfl⟩⟩
theorem popN:MtM X "list.pop" (fun x vs H Q=>∃l xs y,x = .ref l∧vs=[]∧H l=some (.lst xs)∧xs[xs.length-1]? = some y∧∀H',Chg H l (.lst xs.dropLast) H'→Q y H'):=by
 intro pins s σ H x xs v us Q I rx rv h
 refine Elim.el (h) _ ?_
 rintro l ys y e1 e2 h1 h2 q
 exact mt_pop s σ H x xs v us Q I rx rv ⟨l,ys,y,e1,e2,h1,h2,q _ ⟨rfl⟩⟩
theorem popAtN:MtM X "list.pop" (fun x vs H Q=>∃l xs i y,x = .ref l∧vs=[.int i]∧H l=some (.lst xs)∧0≤i∧i<2 ^ 63∧xs[i.toNat]? = some y∧∀H',Chg H l (.lst (xs.eraseIdx i.toNat)) H'→Q y H'):=by
 intro pins s σ H x xs v us Q I rx rv h
 refine Elim.el (h) _ ?_
 rintro l ys i y e1 e2 h1 h2 h3 h4 q
 refine mt_popAt s σ H x xs v us Q I rx rv ⟨l,ys,i,i.toNat,y,e1,e2,h1,by first|lia|omega,h3,?_,h4,q _ ⟨rfl⟩⟩
 have hl:=(List.getElem?_eq_some_iff.mp h4).1
 have q:atI ys ((i.toNat:Nat):Int)=some y:=atI_nat h4
 have ei:((i.toNat:Nat):Int)=i:=by omega
 rw [ei] at q
 obtain ⟨j,hj,hj2,_⟩:=atI_get q
 have:ixN ys.length i=some i.toNat:=by unfold ixN;rw [if_pos h2,if_pos (by first|lia|omega)]
 exact (ixN_seq this).1
end
theorem comp_goN {J:It} {n:Nat} {js:List Nat} {g:TG} {tc:TT} {te:TE} {σ:St} {H1:Hp} {Q:V→Hp→Prop} (N:Nat) (Pv:Nat→List V→Hp→Prop) (h0:Pv 0 [] H1)
  (go:∀i ys H (Nx:List V→Hp→Prop),i<N→Pv i ys H→(∀ys' H',Pv (i+1) ys' H'→Nx ys' H')→J.go i H∧ys.length<sizeLine ∧
   ∀x H',J.yld i H x H'→g x (List.replicate n none++cvals σ js) H' fun σ2 H2=>tc σ2 H2 fun b H3=>if b=true then te σ2 H3 fun y H4=>Nx (ys++[y]) H4 else Nx ys H3)
  (stop:∀ys H,Pv N ys H→J.stop N H∧∀p H',New H p (.lst ys) H'→Q (.ref p) H'):CompW J n js g tc te σ H1 fun ys H2=>∀p,H2 p=none→Q (.ref p) (upd H2 p (.lst ys)):=
 comp_go N Pv h0 go fun ys H h=>⟨(stop ys H h).1,fun p hp=>(stop ys H h).2 p _ ⟨hp,rfl⟩⟩
theorem at_nat {α:Type} {xs:List α} {i:Int} {v : α} (h0:0≤i) (h:xs[i.toNat]? = some v):atI xs i=some v:=by
 have q:=atI_nat h
 have e:((i.toNat:Nat):Int)=i:=by (first|lia|omega)
 rw [e] at q
 exact q
end L2
namespace L2
open PySem PySem.Spec PyProof.Rows
noncomputable def tyD:PyData→String
 | .none => "NoneType"
 | .bool _ => "bool"
 | .int _ => "int"
 | .str _ => "str"
 | .list _ => "list"
 | .tuple _ => "tuple"
 | .dict _ => "dict"
section
variable {X:Cx}
theorem den_kit {pins:List (Addr×Obj)} {σ:St} {H:Hp} {s:Shared} {x:V} {u:Value} {d:PyData} (I:Inv X pins σ H s) (rx:RelV x u) (h:Den X.K H d x):∃HH:Heap→Prop,PySem.W.KitX X.K u (.type (tyD d)) HH∧HH s.heap∧u ≠ .builtin "__main__.__loader__#opaque":=by
 cases d with
 | none=>unfold Den at h;subst h;cases rx;exact ⟨_,PySem.W.kitx_none,True.intro,fun z=>nomatch z⟩
 | bool b=>unfold Den at h;subst h;cases rx;exact ⟨_,PySem.W.kitx_bool,True.intro,fun z=>nomatch z⟩
 | int i=>unfold Den at h;subst h;obtain ⟨t,rfl⟩:=rx;exact ⟨_,PySem.W.kitx_int,True.intro,fun z=>nomatch z⟩
 | str y=>unfold Den at h;subst h;obtain ⟨t,rfl⟩:=rx;exact ⟨_,PySem.W.kitx_str,True.intro,fun z=>nomatch z⟩
 | list ds=>
  unfold Den at h
  refine Elim.el (h) _ ?_
  rintro a vs rfl h2 _
  cases rx
  obtain ⟨its,_,⟨o,n,e1,e2,_⟩,_⟩:=I.list h2
  exact ⟨_,PySem.W.kitx_list,⟨o,e1,e2⟩,fun z=>nomatch z⟩
 | tuple ds=>
  unfold Den at h
  refine Elim.el (h) _ ?_
  rintro a vs rfl h2 _
  cases rx
  obtain ⟨its,_,⟨o,e1,e2,_⟩,_⟩:=I.tuple h2
  exact ⟨_,PySem.W.kitx_tuple,⟨o,e1,e2⟩,fun z=>nomatch z⟩
 | dict _=>unfold Den at h;exact h.elim
theorem call_isiD:CallR X (.builtin "isinstance") (fun xs H Q=>∃(x:V) (T:String) (d:PyData) (b:Bool),xs=[x, .ty T]∧Den X.K H d x∧PySem.W.kitOne X.K (.type (tyD d)) (.type T)=some b∧Q (.bl b) H):=by
 intro pins s σ H xs us Q I r h
 refine Elim.el (h) _ ?_
 rintro x T d b rfl hd e q
 refine Elim.el (vals2 r) _ ?_
 rintro u w' rfl r1 r2
 cases r2
 refine Elim.el (den_kit I r1 hd) _ ?_
 rintro HH Z hh hx
 exact PySem.W.kia_one Z I.kIn hh e hx fun tk=>⟨.bl b,H,I.tok _,rfl,q⟩
noncomputable def rIsi (K:PySem.W.Frag):List V→Hp→VK→Prop:=fun xs H Q=>(∃(x:V) (T:String) (d:PyData) (b:Bool),xs=[x, .ty T]∧Den K H d x∧PySem.W.kitOne K (.type (tyD d)) (.type T)=some b∧Q (.bl b) H) ∨
 ∃x T t b,xs=[x, .ty T]∧TyOf K H x t∧PySem.W.kitOne K t (.type T)=some b∧Q (.bl b) H
theorem isiK (K:PySem.W.Frag) (hK:X.K=K:=by rfl):CallR X (.builtin "isinstance") (rIsi K):=by subst hK;exact call_isiD.or call_isi
end
end L2
namespace L2
open PySem PySem.Spec PyProof.Rows
section
variable {prog:Program} {w:World} {A:Around} {E:Value→Shared→Prop} {s:Shared} {k:Bool} {it a:Addr} {i:Nat} {its:Array Value}
end
section
variable {prog:Program} {w:World} {A:Around} {E:Value→Shared→Prop} {s:Shared} {k1 k2:Bool} {z TI TO i1 i2 l1 l2:Addr} {i:Nat} {xs ys:Array Value}
end
end L2
namespace L2
open PySem PySem.Spec PyProof.Rows
section
variable {prog:Program} {w:World} {A:Around} {E:Value→Shared→Prop} {s:Shared}
end
section
variable {X:Cx}
end
end L2
namespace L2
open PySem PySem.Spec PyProof.Rows
section
variable {X:Cx}
end
section
variable {X:Cx} {tg:Expr}
end
section
variable {X:Cx} {e:Expr} {te:TE} {pos p2 p3 p4:Pos} {j:Nat}
end
end L2
namespace L2
open PySem PySem.Spec PyProof.Rows
section
variable {prog:Program} {w:World} {A:Around} {R:Result→Shared→Prop} {I S:Addr} {fp wr:List Addr} {n:Nat} {P:Nat→Value→Prop} {St:Nat→Heap→Prop}
end
section
variable {X:Cx} (K:PySem.W.Frag)
end
end L2
namespace L2
open PySem
section
variable {X:Cx} (K:PySem.W.Frag)
theorem inK (hK:X.K=K:=by rfl):OpR X (compareOp .In) (rIn K false):=by subst hK;exact op_in_seq
end
end L2
namespace L2
open PySem PySem.Spec PyProof.Rows
section
variable {prog:Program} {w:World} {A:Around} {R:Result→Shared→Prop} {s:Shared}
theorem dcomp_turns {kx vx target iter:Expr} {ifs:List Expr} {scope:Scope} {pos:Pos} {it:Value} {D:Addr} {env:Env} (I:Nat→Shared→Prop)
  (turn:∀n s,I n s→wpAny (model prog w) A (pyNext it) (fun r s1=>match r with
   | none=>R (.ok .next) s1
   | some v=>wpAny (model prog w) A (letOwnedTupleGo target it v) (fun _ s1'=>wpAny (model prog w) A (assign target env v) (fun _ s2=>
     wpAny (model prog w) A (testsOf ifs env) (fun ok s3=>
      if ok=true then wpAny (model prog w) A (eval kx env) (fun kv s4=>wpAny (model prog w) A (eval vx env) (fun vv s5=>
       wpAny (model prog w) A (dictSet D kv vv) (fun _ s6=>∃m,m<n∧I m s6) noE s5) noE s4) noE s3
      else ∃m,m<n∧I m s3) noE s2) noE s1') noE s1) noE s)
  (n:Nat) (h:I n s):codeAny (model prog w) A (.compLoop (.DictComp kx vx [⟨target,iter,ifs,0⟩] scope pos) 0 it (.ref D) env) R s:=by
 refine codeAny_loop rfl I (fun n s hI=>(show wpAny _ A (Sem.onRaise (compTurn (.DictComp kx vx [⟨target,iter,ifs,0⟩] scope pos) 0 it (.ref D) env) (fun x=>do noteFrame x env;theTreesLotGoes x)) _ _ s from wpAny_noted ?_)) n h
 rw [compTurn_dict]
 refine wpAny_bind (wpAny_standAt (wpAny_bind (noE_to (thn (turn n s hI) fun r s1 h1 => ?_))))
 cases r with
 | none=>exact wpAny_pure h1
 | some v=>
  refine wpAny_bind (noE_to (thn h1 fun _ s1' h1' => ?_))
  refine wpAny_bind (noE_to (thn h1' fun _ s2 h2=>wpAny_bind (noE_to (thn h2 fun ok s3 h3 => ?_))))
  cases ok with
  | false=>exact wpAny_pure ⟨rfl,h3⟩
  | true=>
   exact wpAny_bind (wpAny_bind (noE_to (thn h3 fun kv s4 h4=>wpAny_bind (wpAny_holding (noE_to (thn h4 fun vv s5 h5=>wpAny_bind (wpAny_standAt (wpAny_holding (noE_to (thn h5 fun _ s6 h6=>wpAny_pure ⟨rfl,h6⟩))))))))))
end
section
variable {X:Cx} {pins:List (Addr×Obj)} {σ:St} {H:Hp} {s:Shared} {a:Addr} {y v:V} {u r:Value} {A:Around} {E:Value→Shared→Prop}
theorem d_dictSet {kvs:List (Key×V)} {k:Key} {Q:Unit→Shared→Prop} (I:Inv X pins σ H s) (e:H a=some (.dK kvs)) (l:kvs.length<sizeLine) (ry:RelV (kV k) u) (rv:RelV v r)
  (h:∀s',Inv X pins σ (upd H a (.dK (putK kvs k v))) s'→Q () s'):wpAny (model X.prog X.w) A (dictSet a u r) Q E s:=by
 refine Elim.el (dk_of I.hok e) _ ?_
 rintro z hd vs rel dd
 have hz:vs.length≤sizeLine:=by rw [←rel.length];exact z
 have hl:(putK kvs k v).length≤sizeLine:=by have:=length_putK kvs k v; (first|lia|omega)
 refine wpAny_dictSet_pairs (hsz:=hz) (kV_is ry) dd fun h' dd' hs=>h _ ?_
 have he:∃q,h'.get? a=some q:=let ⟨q,_,_,hq,_⟩:=dd'; ⟨q,hq⟩
 exact d_write I (by rw [e];exact True.intro) hs he (dk_new hl hd (rel.put k rv) dd')
end
section
variable {X:Cx} {pins:List (Addr×Obj)} {σ:St} {H:Hp} {s:Shared} {scope:Scope} {Nc Fc:List Str} {js:List Nat} {cl:List (Str×Addr)} {C:Addr} {fp:List Addr}
theorem cxC_inv0 (I:Inv X pins σ H s) (c:CompOk X scope Nc Fc js) (hsub:∀n c,cl.lookup n=some c→X.env.cells.lookup n=some c) (hhas:∀y∈scope.names,y.2 = .free→∃c,cl.lookup y.1=some c)
  (hC:s.heap.objs.size≤C) (hf:∀b∈fp,FpOk X pins H b) (ho:∀b∈fp,∃o,s.heap.get? b=some o) {h1:Heap} {t1:Nat} {m:Str→Option Value}
  (hk:∀b o,s.heap.get? b=some o→h1.get? b=some o) (hm:h1.Ns C m) :
  Inv (cxC X Nc Fc scope cl C s H fp) [] (List.replicate Nc.length none++cvals σ js) H { s with heap:=h1,toks:=t1 }:=by
 refine ⟨cxC_ok I c hsub hhas hC hf ho,rfl,I.bare,Un.kept hk,⟨m,hm,fun i x v e1 e2 e3 => ?_⟩,fun x a e => ?_,I.hok.fresh hC,fun x a e=>I.freeC x a (hsub x a e),fun p hp => ?_,I.hok.kept hk,?_⟩
 ·have e1:(Nc++Fc)[i]? = some x:=e1
  have e2:(List.replicate Nc.length none++cvals σ js)[i]? = some (some v):=e2
  by_cases hi:i<Nc.length
  ·rw [List.getElem?_append_left (by simpa using hi),List.getElem?_replicate] at e2
   split at e2 <;> cases e2
  ·rw [List.getElem?_append_right (by first|lia|omega)] at e1
   rw [List.getElem?_append_right (by rw [List.length_replicate]; (first|lia|omega)),List.length_replicate] at e2
   refine Elim.el (c.frees _ _ e1) _ ?_
   rintro hfr j hj hN
   have hv : σ[j]? = some (some v):=by
    unfold cvals at e2
    rw [List.getElem?_map,hj] at e2
    have e2:some ((σ[j]?).join)=some (some v):=e2
    cases q : σ[j]? with
    | none=>rw [q] at e2;cases e2
    | some z=>rw [q] at e2;cases e2;rfl
   have kx:=c.free _ (mem_of_lookup' hfr) rfl
   refine Elim.el (I.loc) _ ?_
   rintro m0 hn0 hl0
   have vis:Vis X.env.scope x:=by
    rcases kx with k|k
    ·exact .inr (.inl k)
    ·exact .inr (.inr k)
   refine Elim.el (hl0 j x v hN hv vis) _ ?_
   rintro u ru lk
   refine ⟨u,ru, .inr ⟨?_,?_⟩⟩
   ·rw [cxC_kind];exact relabel_of_free hfr
   ·obtain ⟨a,ha⟩:=hhas _ (mem_of_lookup' hfr) rfl
    refine ⟨a,ha,?_⟩
    rcases lk with ⟨k,_⟩|⟨_,a',ha',hcell⟩
    ·rcases kx with q|q <;> (rw [k] at q;cases q)
    ·have e:=hsub _ _ ha
     dsimp only at e
     rw [ha'] at e;cases e
     exact hcell.keeps hk
 ·obtain ⟨v,z⟩:=I.cell x a (hsub x a e)
  exact ⟨v,z.keeps hk⟩
 ·have hp:p∈([]:List (Addr×Obj)):=hp
  cases hp
 ·show (List.replicate Nc.length none++cvals σ js).length=(Nc++Fc).length
  unfold cvals
  rw [List.length_append,List.length_append,List.length_replicate,List.length_map,c.lens]
end
noncomputable def CompD (J:It) (n:Nat) (js:List Nat) (g:TG) (tc:TT) (tk tv:TE) (σ:St) (D:Addr) (H1:Hp) (fin:Hp→Prop):Prop:=
 ∃W:Nat→Nat→Hp→Prop,(∃m,W 0 m H1)∧∀i m H,W i m H →
  (J.stop i H∧fin H) ∨
  (J.go i H∧∀x H',J.yld i H x H'→g x (List.replicate n none++cvals σ js) H' fun σ2 H2=>tc σ2 H2 fun b H3=>
   if b=true then tk σ2 H3 fun y H4=>tv σ2 H4 fun z H5=>Ex2 fun kvs k=>H5 D=some (.dK kvs)∧y=kV k∧kvs.length<sizeLine∧∃m',m'<m∧W (i+1) m' (upd H5 D (.dK (putK kvs k z))) else ∃m',m'<m∧W (i+1) m' H3)
noncomputable def tDComp (wi:TI) (n:Nat) (js:List Nat) (g:TG) (tc:TT) (tk tv:TE):TE:=fun σ H Q=>wi σ H fun J H1=>∀D,H1 D=none→CompD J n js g tc tk tv σ D (upd H1 D (.dK [])) fun H2=>Q (.ref D) H2
theorem dcomp_core {X:Cx} {kx vx tg iter:Expr} {ifs:List Expr} {scope:Scope} {pos:Pos} {Nc Fc:List Str} {js:List Nat} {wi:TI} {g:TG} {tc:TT} {tk tv:TE} {use:Option (Value→Sem Unit)} {QV:Value→Shared→Prop}
  (hcalm:X.calm=true) (c:CompOk X scope Nc Fc js) (hi:PI X tg iter wi)
  (hg:∀cl C s H fp,PG (cxC X Nc Fc scope cl C s H fp) tg g) (htc:∀cl C s H fp,PTs (cxC X Nc Fc scope cl C s H fp) ifs tc) (htk:∀cl C s H fp,PE (cxC X Nc Fc scope cl C s H fp) kx tk) (htv:∀cl C s H fp,PE (cxC X Nc Fc scope cl C s H fp) vx tv) (gk:Gk Nc.length g)
  {pins:List (Addr×Obj)} {s:Shared} {σ:St} {H:Hp} {fin:Addr→Hp→Prop} (I:Inv X pins σ H s)
  (h:wi σ H fun J H1=>∀D,H1 D=none→CompD J Nc.length js g tc tk tv σ D (upd H1 D (.dK [])) (fin D))
  (behind:∀(C D:Addr) (m:Str→Option Value) (H2:Hp) (s2:Shared),Inv X pins σ H2 s2→s2.heap.Ns C m→FpOk X pins H2 C→fin D H2→compPost (model X.prog X.w) X.A X.xe use QV (.ref D) C (.ok .next) s2)
  (hs:∀x,foldedSetIterable iter X.env x=pure x) :
  wpAny (model X.prog X.w) X.A (comprehension (.DictComp kx vx [⟨tg,iter,ifs,0⟩] scope pos) scope X.env (firstIterPos [⟨tg,iter,ifs,0⟩] pos) newDict false (eval iter X.env) use) QV X.xe s:=by
 obtain ⟨cl,hclos,hsub,hhas⟩:=closure_of (scope:=scope) (env:=X.env) fun y hy hf=>I.ok.has y.1 (c.free y hy hf)
 refine wpAny_comprehension_free (use:=use) rfl hs hclos c.kind c.names ?_
 refine thn (hi s σ H _ I h) fun v s1 h1=>thn h1 fun itv s2 h2 => ?_
 obtain ⟨it,fp,tn,J,H2,e,I2,T,st2,f2,all⟩:=h2
 subst e
 refine wpAny_newObj_type (wpAny_newFunctionEnv c.nocell (by intro y hy;simp at hy) (fun h1 hns1 hsb1 => ?_) c.kind)
 dsimp only at hns1 hsb1 ⊢
 have hDn:H2 s2.heap.objs.size=none:=I2.hok.fresh (Nat.le_refl _)
 have I2':=I2.laid (a:=s2.heap.objs.size) (o := .dK []) (h':=s2.heap.push { cls := .type "dict",data := .dict #[] }) (t':=s2.toks) (fun _ _ q=>Heap.get?_push_of_some _ q) (Nat.le_refl _) (dk_empty s2.heap I2.big)
 obtain ⟨W,⟨m0,w0⟩,turn⟩:=all _ hDn
 have fo2:∀b∈fp,∃o,s2.heap.get? b=some o:=fun b hb=>let ⟨o,e,_⟩:=T.obj 0 _ st2 b hb; ⟨o,e⟩
 have hDfp:∀b∈fp,b<s2.heap.objs.size:=fun b hb=>let ⟨o,e⟩:=fo2 b hb;Heap.lt_size e
 generalize hG:s2.heap.push { cls := .type "dict",dict:=none,data := .dict #[] } = G at hns1 hsb1 I2' ⊢
 have toG:∀b o,s2.heap.get? b=some o→G.get? b=some o:=fun b o e=>hG ▸ Heap.get?_push_of_some _ e
 have hC:G.objs.size=s2.heap.objs.size+1:=by rw [←hG,Heap.size_push]
 have old:∀b o,G.get? b=some o→h1.get? b=some o:=fun b o e=>
  hsb1.extBut b o (addr_ne (Heap.lt_size e) (Nat.le_refl _)) (Heap.get?_push_of_some _ e)
 let D:Addr:=s2.heap.objs.size
 let s2':Shared:={ s2 with heap:=G,toks:=s2.toks }
 let H2':Hp:=upd H2 D (.dK [])
 have f2':∀b∈fp,FpOk X pins H2' b:=fun b hb=>by
  obtain ⟨a1,a2⟩:=f2 b hb
  refine ⟨?_,a2⟩
  show upd H2 D (.dK []) b=none
  rw [upd_ne (Nat.ne_of_lt (hDfp b hb))];exact a1
 have fo:∀b∈fp,∃o,s2'.heap.get? b=some o:=fun b hb=>let ⟨o,e⟩:=fo2 b hb; ⟨o,toG b o e⟩
 have hfG:∀b∈fp,b<G.objs.size:=fun b hb=>by have:=hDfp b hb;rw [hC];exact Nat.lt_succ_of_lt this
 let Xc:Cx:=cxC X Nc Fc scope cl G.objs.size s2' H2' fp
 have stat:∀{H':Hp},(∀b∈fp,H' b=none)→∀b∈fp,FpOk Xc [] H' b:=fun {H'} hn b hb=>by
  refine ⟨hn b hb,?_,?_, .inl hb,fun x a e => ?_,fun p hq => ?_⟩
  ·exact addr_ne (hfG b hb) (Nat.le_refl _)
  ·exact (cxC_ok I2' c hsub hhas (Nat.le_refl _) f2' fo).exfs b hb
  ·exact (f2 b hb).2.2.2.2.1 x a (hsub _ _ e)
  ·have q:p∈([]:List (Addr×Obj))++[]:=hq
   simp at q
 have loop:∀t1,codeAny (model X.prog X.w) X.A (.compLoop (.DictComp kx vx [⟨tg,iter,ifs,0⟩] scope pos) 0 (.ref it) (.ref s2.heap.objs.size) (compEnvC scope cl G.objs.size X.env))
   (compPost (model X.prog X.w) X.A X.xe use QV (.ref s2.heap.objs.size) G.objs.size) { s2 with heap:=h1,toks:=t1 }:=by
  intro t1
  refine dcomp_turns (fun n s'=>∃i H',Inv Xc [] (List.replicate Nc.length none++cvals σ js) H' s'∧tn i s'.heap∧(∀b∈fp,H' b=none)∧W i n H') ?_ m0
   ⟨0,H2',cxC_inv0 I2' c hsub hhas (Nat.le_refl _) f2' fo old hns1,T.keep _ _ _ st2 (fun b hb o e=>old b o (toG b o e)),fun b hb=>(f2' b hb).1,w0⟩
  intro n s3 hz_
  refine Elim.el hz_ _ ?_
  clear hz_
  rintro i H3 I3 st3 fr3 w3
  rcases turn i n H3 w3 with ⟨stop,qn⟩|⟨go,step⟩
  ·refine thn (T.done Xc rfl rfl rfl hcalm i _ s3 _ H3 noE I3 (stat fr3) st3 stop) fun r s4 hz_ => ?_
   refine Elim.el hz_ _ ?_
   clear hz_
   rintro hr I4
   subst hr
   show compPost _ _ _ _ _ _ _ _ _
   refine Elim.el (I4.loc) _ ?_
   rintro mC hmC _
   have hCn:H3 G.objs.size=none:=I4.free
   have u:Un (frs X.stack) fp H2' H3 G s4.heap:=I4.base
   have hch:∀b∈fp,(b∈X.ex∨X.s₀.heap.objs.size≤b)∧b≠X.env.locals∧(∀x c,X.env.cells.lookup x=some c→c≠b)∧∀p∈X.pn++pins,p.1≠b:=fun b hb=>
    ⟨(f2 b hb).2.2.2.1,(f2 b hb).2.1,(f2 b hb).2.2.2.2.1,(f2 b hb).2.2.2.2.2⟩
   have os4:s4.os=s2'.os:=I4.os
   have J4:Inv X pins σ H3 s4:=I2'.call' (H':=H3) os4 u I4.hok I4.bare hch
   exact behind G.objs.size D mC H3 s4 J4 hmC (I2'.fpOk (Nat.le_refl _) hCn) qn
  ·refine thn (T.item Xc rfl rfl rfl hcalm i _ s3 _ H3 noE I3 (stat fr3) st3 go) fun r s4 hz_ => ?_
   refine Elim.el hz_ _ ?_
   clear hz_
   rintro u hr h4
   subst hr
   show wpAny _ _ (letOwnedTupleGo tg (.ref it) u) _ _ _
   refine thn h4 fun _ s5 hz_ => ?_
   refine Elim.el hz_ _ ?_
   clear hz_
   rintro x H5 I5 r5 y5 st5 fr5
   have I5':=I5.pinned (stat fr5) (T.obj _ _ st5)
   refine thn (hg cl G.objs.size s2' H2' fp s5 _ H5 x u _ I5' r5 (gk _ _ _ _ (step x H5 y5))) fun _ s6 hz_ => ?_
   refine Elim.el hz_ _ ?_
   clear hz_
   rintro σ6 H6 I6 q6 kσ kl
   refine thn (htc cl G.objs.size s2' H2' fp s6 σ6 H6 _ I6 q6) fun b s7 hz_ => ?_
   refine Elim.el hz_ _ ?_
   clear hz_
   rintro H7 I7 q7
   have later:∀{σ':St} {H':Hp} {s':Shared},Inv Xc ([]++pinsAt fp s5.heap) σ' H' s'→tn (i+1) s'.heap∧∀b∈fp,H' b=none:=fun {σ' H' s'} Iz=>by
    refine ⟨T.keep _ _ _ st5 fun b hb o e=>(Iz.pin (b,o) (List.mem_append_right _ (List.mem_append_right _ (mem_pinsAt hb e)))).1,fun b hb => ?_⟩
    refine Elim.el (T.obj _ _ st5 b hb) _ ?_
    rintro o e d
    exact (Iz.pin (b,o) (List.mem_append_right _ (List.mem_append_right _ (mem_pinsAt hb e)))).2.1
   have back:∀{pl:List (Addr×Obj)} {H':Hp} {s':Shared},Inv Xc pl σ6 H' s'→Inv Xc pl (List.replicate Nc.length none++cvals σ js) H' s':=fun {pl H' s'} Iz=>by
    refine Iz.weak (by rw [←kl]) fun j v hj => ?_
    by_cases hn:j<Nc.length
    ·rw [List.getElem?_append_left (by simpa using hn),List.getElem?_replicate] at hj
     split at hj <;> cases hj
    ·rw [kσ j (by first|lia|omega)];exact hj
   cases b with
   | false=>
    rw [if_neg Bool.false_ne_true] at q7 ⊢
    refine Elim.el (q7) _ ?_
    rintro m' hm' w7
    obtain ⟨l1,l2⟩:=later I7
    exact ⟨m',hm',i+1,H7,back I7.unpinned,l1,l2,w7⟩
   | true=>
    rw [if_pos rfl] at q7 ⊢
    refine thn (htk cl G.objs.size s2' H2' fp s7 σ6 H7 _ I7 q7) fun yv s8 hz_ => ?_
    refine Elim.el hz_ _ ?_
    clear hz_
    rintro y H8 I8 r8 q8
    refine thn (htv cl G.objs.size s2' H2' fp s8 σ6 H8 _ I8 q8) fun zv s9 hz_ => ?_
    refine Elim.el hz_ _ ?_
    clear hz_
    rintro z H9 I9 r9 q9
    refine Elim.el (q9) _ ?_
    rintro kvs k eD ey hl m' hm' w9
    subst ey
    refine d_dictSet (X:=Xc) I9 eD hl r8 r9 fun s10 I10 => ?_
    obtain ⟨l1,l2⟩:=later I10
    exact ⟨m',hm',i+1,_,back I10.unpinned,l1,l2,w9⟩
 exact codeAny_compStart_dict (loop _) (T.self _ 0 _ _ _ (T.keep _ _ _ st2 fun b hb o e=>old b o (toG b o e)) (loop _))
theorem pe_dcomp {X:Cx} {kx vx tg iter:Expr} {ifs:List Expr} {scope:Scope} {pos:Pos} {Nc Fc:List Str} {js:List Nat} {wi:TI} {g:TG} {tc:TT} {tk tv:TE}
  (hcalm:X.calm=true) (c:CompOk X scope Nc Fc js) (hi:PI X tg iter wi) (gk:Gk Nc.length g)
  (hg:∀cl C s H fp,PG (cxC X Nc Fc scope cl C s H fp) tg g) (htc:∀cl C s H fp,PTs (cxC X Nc Fc scope cl C s H fp) ifs tc) (htk:∀cl C s H fp,PE (cxC X Nc Fc scope cl C s H fp) kx tk) (htv:∀cl C s H fp,PE (cxC X Nc Fc scope cl C s H fp) vx tv)
  (hs:∀x,foldedSetIterable iter X.env x=pure x:=by intro _;rfl) :
  PE X (.DictComp kx vx [⟨tg,iter,ifs,0⟩] scope pos) (tDComp wi Nc.length js g tc tk tv):=by
 intro pins s σ H Q I h
 rw [arm_eval_DictComp]
 refine dcomp_core (use:=none) (fin:=fun D H2=>Q (.ref D) H2) hcalm c hi hg htc htk htv gk I h (fun C D m H2 s2 I2 hm hC q => ?_) hs
 refine ⟨m,hm,fun h' hs' => ?_⟩
 exact ⟨.ref D,_,I2.turned (it:=C) (t':=s2.toks) (fun b o hb e=>hs'.extBut b o hb e) hC.1 (hC.2.1) hC.2.2.2.1 hC.2.2.2.2.1 hC.2.2.2.2.2,rfl,q⟩
theorem ps_setdcomp {X:Cx} {i:Nat} {y:Str} {kx vx tg iter:Expr} {ifs:List Expr} {scope:Scope} {pos pos' py:Pos} {Nc Fc:List Str} {js:List Nat} {wi:TI} {g:TG} {tc:TT} {tk tv:TE} (hN:X.N.Nodup) (hy:X.N[i]? = some y) (hl:Loc X.env.scope y)
  (hcalm:X.calm=true) (c:CompOk X scope Nc Fc js) (hi:PI X tg iter wi) (gk:Gk Nc.length g)
  (hg:∀cl C s H fp,PG (cxC X Nc Fc scope cl C s H fp) tg g) (htc:∀cl C s H fp,PTs (cxC X Nc Fc scope cl C s H fp) ifs tc) (htk:∀cl C s H fp,PE (cxC X Nc Fc scope cl C s H fp) kx tk) (htv:∀cl C s H fp,PE (cxC X Nc Fc scope cl C s H fp) vx tv)
  (hsw:swapsWith (.DictComp kx vx [⟨tg,iter,ifs,0⟩] scope pos) (some (.Name y py)) pos'.line X.env=pure true:=by rfl)
  (hs:∀x,foldedSetIterable iter X.env x=pure x:=by intro _;rfl)
  (hf:X.fn y=true∨X.env.scope.names.lookup y=some .local:=by first|exact .inl rfl|exact .inr rfl|assumption) :
  PS X (.Assign [.Name y py] (.DictComp kx vx [⟨tg,iter,ifs,0⟩] scope pos) pos') (tAsg (tDComp wi Nc.length js g tc tk tv) (gName i)):=by
 intro pins s σ H E I h
 rw [exec_Assign_Name_used _ _ _ _ hsw]
 refine wpAny_bind (wpAny_standAt (wpAny_bind ?_))
 show wpAny _ X.A (do let _ ←comprehension (.DictComp kx vx [⟨tg,iter,ifs,0⟩] scope pos) scope X.env _ newDict false (eval iter X.env) (some (assign (.Name y py) X.env))) _ _ s
 refine wpAny_bind (thn (dcomp_core (use:=some (assign (.Name y py) X.env)) (fin:=fun D H2=>gName i (.ref D) σ H2 E.nx) (QV:=fun _ s'=>SP X pins E .next s') hcalm c hi hg htc htk htv gk I h (fun C D m H2 s2 I2 hm hC q => ?_) hs) fun _ s' hq=>wpAny_pure (wpAny_pure hq))
 show wpAny _ _ (assign (.Name y py) X.env (.ref D)) _ _ s2
 refine wpAny_assign_Name (store_ok2 I2 hN hy hl (v := .ref D) rfl (fun s3 I3 hz_=>Elim.el hz_ _ fun a hsa ha => ?_) hf)
 have hne:C≠a:=by
  rcases ha with e|e
  ·rw [e];exact hC.2.1
  ·exact fun z=>hC.2.2.2.2.1 _ _ e z.symm
 refine ⟨m,hm.at' fun o e=>hsa.extBut _ o hne e,fun h' hs' => ?_⟩
 exact ⟨_,_,I3.turned (it:=C) (t':=s3.toks) (fun b o hb e=>hs'.extBut b o hb e) hC.1 hC.2.1 hC.2.2.2.1 hC.2.2.2.2.1 hC.2.2.2.2.2,q⟩
end L2
namespace L2
open PySem PySem.Spec PyProof.Rows
section
variable {X:Cx} (K:PySem.W.Frag)
end
end L2
namespace L2
open PySem PySem.Spec PyProof.Rows
section
variable {prog:Program} {w:World} {A:Around} {E:Value→Shared→Prop} {s:Shared} {a₀:Array Keyed} {key:Keyed→Int} {kd:SortKind}
noncomputable def Lts (prog:Program) (w:World) (A:Around) (E:Value→Shared→Prop) (s:Shared) (a₀:Array Keyed) (key:Keyed→Int) (kd:SortKind):Prop:=
 ∀(st:SortSt) (x y:Keyed) (Q:Option Bool→SortSt→Prop),x∈a₀.toList→y∈a₀.toList→kindOf st=kd→Q (some (decide (key x<key y))) st→wpS (model prog w) A E s (lt' x y) Q st
noncomputable def ky (key:Keyed→Int) (xs:Array Keyed) (i:Nat):Int:=match xs[i]? with
 | some p=>key p
 | none=>0
theorem ky_congr {xs ys:Array Keyed} {i j:Nat} (h:xs[i]? = ys[j]?):ky key xs i=ky key ys j:=by unfold ky;rw [h]
theorem ky_of {xs:Array Keyed} {i:Nat} {p:Keyed} (h:xs[i]? = some p):ky key xs i=key p:=by unfold ky;rw [h]
structure Af (a₀:Array Keyed) (kd:SortKind) (lo:Nat) (st0 st:SortSt):Prop where
 perm:(arrOf st).Perm a₀
 kind:kindOf st=kd
 failed:failedOf st=none
 pend:pendingOf st=pendingOf st0
 low:∀i,i<lo→(arrOf st)[i]? = (arrOf st0)[i]?
theorem Af.size {lo:Nat} {st0 st:SortSt} (h:Af a₀ kd lo st0 st):(arrOf st).size=a₀.size:=h.perm.size_eq
theorem Af.set {lo:Nat} {st0 st:SortSt} (h:Af a₀ kd lo st0 st) {xs:Array Keyed} (hp:xs.Perm (arrOf st)) (hl:∀i,i<lo→xs[i]? = (arrOf st)[i]?):Af a₀ kd lo st0 (setArr st xs):=
 ⟨hp.trans h.perm,h.kind,h.failed,h.pend,fun i hi=>(hl i hi).trans (h.low i hi)⟩
theorem mem_at {xs:Array Keyed} (hp:xs.Perm a₀) {i:Nat} {p:Keyed} (h:xs[i]? = some p):p∈a₀.toList:=by
 refine (Array.perm_iff_toList_perm.mp hp).mem_iff.mp ?_
 exact Array.mem_toList_iff.mpr (Array.mem_of_getElem? h)
theorem tm_elem {xs:Array Keyed} {i:Nat} {st:SortSt} {Q:Keyed→SortSt→Prop} (hi:i<xs.size) (h:∀p,xs[i]? = some p→Q p st):wpS (model prog w) A E s (elem' xs i) Q st:=by
 rw [elem'_eq,getElem?_pos xs i hi]
 exact wpS_pure (h _ (getElem?_pos xs i hi))
theorem tm_ltAt {st:SortSt} {i j:Nat} {Q:Option Bool→SortSt→Prop} (hL:Lts prog w A E s a₀ key kd) (hp:(arrOf st).Perm a₀) (hk:kindOf st=kd) (hi:i<a₀.size) (hj:j<a₀.size)
  (h:Q (some (decide (ky key (arrOf st) i<ky key (arrOf st) j))) st):wpS (model prog w) A E s (ltAt' i j) Q st:=by
 rw [ltAt'_eq]
 refine wpS_bind (wpS_get ?_)
 show wpS _ _ _ _ (do let x ←elem' (arrOf st) i;let y ←elem' (arrOf st) j;lt' x y) Q st
 have hs:=hp.size_eq
 refine wpS_bind (tm_elem (by first|lia|omega) fun p e1=>wpS_bind (tm_elem (by first|lia|omega) fun q e2 => ?_))
 refine hL _ _ _ _ (mem_at hp e1) (mem_at hp e2) hk ?_
 rw [ky_of e1,ky_of e2] at h
 exact h
theorem Af.lt {lo:Nat} {st0 st:SortSt} {i j:Nat} {Q:Option Bool→SortSt→Prop} (h:Af a₀ kd lo st0 st) (hL:Lts prog w A E s a₀ key kd) (hi:i<a₀.size) (hj:j<a₀.size)
  (q:Q (some (decide (ky key (arrOf st) i<ky key (arrOf st) j))) st):wpS (model prog w) A E s (ltAt' i j) Q st:=tm_ltAt hL h.perm h.kind hi hj q
noncomputable def Sg (key:Keyed→Int) (xs:Array Keyed) (i j:Nat):Prop:=∀p q,i≤p→p≤q→q<j→ky key xs p≤ky key xs q
noncomputable def Ng (key:Keyed→Int) (xs:Array Keyed) (i j:Nat):Prop:=∀p q,i≤p→p≤q→q<j→ky key xs q≤ky key xs p
theorem ky_mirror {xs:Array Keyed} {i j:Nat} (hj:j≤xs.size) (k:Nat) :
  ky key (mirror xs i j ((j-i) / 2)) k=if i≤k∧k<j then ky key xs (i+j-1-k) else ky key xs k:=by
 have e:=getElem?_mirror_all (i:=i) hj k
 by_cases h1:i≤k∧k<j
 ·rw [if_pos h1] at e ⊢;exact ky_congr e
 ·rw [if_neg h1] at e ⊢;exact ky_congr e
theorem mirror_low {xs:Array Keyed} {i j lo:Nat} (hj:j≤xs.size) (hi:lo≤i):∀k,k<lo→(mirror xs i j ((j-i) / 2))[k]? = xs[k]?:=fun k hk=>by
 rw [getElem?_mirror_all hj,if_neg (by first|lia|omega)]
theorem ky_mirror_equal {xs:Array Keyed} {i j:Nat} (hj:j≤xs.size) (heq:∀k,i≤k→k<j→ky key xs k=ky key xs (j-1)) (k:Nat) :
  ky key (mirror xs i j ((j-i) / 2)) k=ky key xs k:=by
 rw [ky_mirror hj]
 split
 ·rw [heq _ (by first|lia|omega) (by first|lia|omega),heq k (by first|lia|omega) (by first|lia|omega)]
 ·rfl
theorem Af.rev {lo i j:Nat} {st0 st:SortSt} (h:Af a₀ kd lo st0 st) (hi:lo≤i) (hj:j≤a₀.size):Af a₀ kd lo st0 (setArr st (mirror (arrOf st) i j ((j-i) / 2))):=
 h.set (mirror_perm _ _ _ _) (mirror_low (by rw [h.size];exact hj) hi)
noncomputable def ascL (lo a nrem:Nat):StateT SortSt Sem AscSt:=
 forIn [a:nrem] ((none,a):AscSt) fun _ c=>do
  let x ←ltAt' (lo+c.snd) (lo+c.snd-1)
  match x with
  | some smaller=>if smaller=true then pure (ForInStep.done (none,c.snd)) else pure (ForInStep.yield (none,c.snd+1))
  | _=>pure (ForInStep.done (some none,c.snd))
noncomputable def tailL (lo n nrem:Nat):StateT SortSt Sem (Option Nat):=do
 reverseSlice' lo (lo+n)
 let c ←ascL lo n nrem
 match c.fst with
 | some r=>pure r
 | none=>pure (some c.snd)
noncomputable def descL (lo n nrem:Nat):StateT SortSt Sem DescSt:=
 forIn [n:nrem] ((none,n,0):DescSt) fun _ c=>do
  let x ←ltAt' (lo+c.snd.fst) (lo+c.snd.fst-1)
  match x with
  | some smaller=>
   if smaller=true then
    if c.snd.snd>0 then do
     reverseSlice' (lo+c.snd.fst-(c.snd.snd+1)) (lo+c.snd.fst)
     pure (ForInStep.yield (none,c.snd.fst+1,0))
    else pure (ForInStep.yield (none,c.snd.fst+1,0))
   else do
    let x ←ltAt' (lo+c.snd.fst-1) (lo+c.snd.fst)
    match x with
    | some larger=>
     if larger=true then pure (ForInStep.done (none,c.snd.fst,c.snd.snd))
     else pure (ForInStep.yield (none,c.snd.fst+1,c.snd.snd+1))
    | _=>pure (ForInStep.done (some none,c.snd.fst,c.snd.snd))
  | _=>pure (ForInStep.done (some none,c.snd.fst,c.snd.snd))
noncomputable def descP (lo n nrem:Nat):StateT SortSt Sem (Option Nat):=do
 liftM (rule "list.sort.descending-run")
 let c ←descL lo (n+1) nrem
 match c.fst with
 | some r=>pure r
 | none=>
  if c.snd.snd>0 then do
   reverseSlice' (lo+c.snd.fst-(c.snd.snd+1)) (lo+c.snd.fst)
   tailL lo c.snd.fst nrem
  else tailL lo c.snd.fst nrem
theorem countL_eq (lo nrem:Nat):countRun' lo nrem=(do
  let c ←ascL lo 1 nrem
  match c.fst with
  | some r=>pure r
  | none=>
   if (c.snd == nrem)=true then pure (some c.snd)
   else if c.snd>1 then do
    let x ←ltAt' lo (lo+c.snd-1)
    match x with
    | some rose=>if rose=true then pure (some c.snd) else do
      reverseSlice' lo (lo+c.snd)
      descP lo c.snd nrem
    | _=>pure none
   else descP lo c.snd nrem):=by
 rw [countRun'_eq]
 dsimp only
 unfold descP tailL descL ascL
 congr 1
 funext c
 obtain ⟨r,n⟩:=c
 cases r with
 | some r=>rfl
 | none=>
  dsimp only
  split
  ·rfl
  ·split
   ·congr 1
    funext x
    cases x with
    | none=>rfl
    | some rose=>
     dsimp only
     split
     ·rfl
     ·congr 1
      funext _r
      congr 1;funext _u;congr 1;congr 1;funext s2;obtain ⟨r2,n2,q2⟩:=s2
      cases r2 with
      | some r2=>rfl
      | none=>(dsimp only;split; (congr 1;funext _v; (congr 1;funext _w;congr 1; (funext s3;obtain ⟨r3,n3⟩:=s3;cases r3 <;> rfl))); (congr 1;funext _w;congr 1; (funext s3;obtain ⟨r3,n3⟩:=s3;cases r3 <;> rfl)))
   ·congr 1;funext _u;congr 1;congr 1;funext s2;obtain ⟨r2,n2,q2⟩:=s2
    cases r2 with
    | some r2=>rfl
    | none=>(dsimp only;split; (congr 1;funext _v; (congr 1;funext _w;congr 1; (funext s3;obtain ⟨r3,n3⟩:=s3;cases r3 <;> rfl))); (congr 1;funext _w;congr 1; (funext s3;obtain ⟨r3,n3⟩:=s3;cases r3 <;> rfl)))
theorem tm_asc {st0 st:SortSt} {lo a nrem:Nat} {Q:AscSt→SortSt→Prop} (hL:Lts prog w A E s a₀ key kd) (hn:lo+nrem≤a₀.size) (ha:1≤a) (han:a≤nrem) (hB:Af a₀ kd lo st0 st)
  (hs:Sg key (arrOf st) lo (lo+a))
  (h:∀n,a≤n→n≤nrem→Sg key (arrOf st) lo (lo+n)→(n=nrem∨ky key (arrOf st) (lo+n)<ky key (arrOf st) (lo+n-1))→Q (none,n) st) :
  wpS (model prog w) A E s (ascL lo a nrem) Q st:=by
 unfold ascL
 refine wpS_forRange (I:=fun x c st'=>st'=st∧c=(none,x)∧Sg key (arrOf st) lo (lo+x)) ?step ?fin ⟨rfl,rfl,hs⟩
 case fin=>
  intro c st' hz_
  refine Elim.el hz_ _ ?_
  clear hz_
  rintro rfl rfl hs'
  rw [Nat.max_eq_right (by first|lia|omega)] at hs' ⊢
  exact h nrem han (Nat.le_refl _) hs' (.inl rfl)
 case step=>
  intro x c st' hax hxn hz_
  refine Elim.el hz_ _ ?_
  clear hz_
  rintro rfl rfl hs'
  dsimp only
  refine wpS_bind (hB.lt hL (by first|lia|omega) (by first|lia|omega) ?_)
  by_cases hless:ky key (arrOf st') (lo+x)<ky key (arrOf st') (lo+x-1)
  ·simp -iota only [hless,decide_true,if_true]
   exact wpS_pure (h x hax (by first|lia|omega) hs' (.inr hless))
  ·simp -iota only [hless,decide_false,Bool.false_eq_true,if_false]
   refine wpS_pure ⟨rfl,rfl,fun i j hl hij hj => ?_⟩
   by_cases hjx:j<lo+x
   ·exact hs' i j hl hij hjx
   ·have hj':j=lo+x:=by (first|lia|omega)
    subst hj'
    by_cases hi':i=lo+x
    ·subst hi';exact Int.le_refl _
    ·exact Int.le_trans (hs' i (lo+x-1) hl (Nat.le_sub_one_of_lt (Nat.lt_of_le_of_ne hij hi')) (by first|lia|omega)) (Int.not_lt.mp hless)
theorem tm_tail {st0 st:SortSt} {lo n nrem:Nat} {Q:Option Nat→SortSt→Prop} (hL:Lts prog w A E s a₀ key kd) (hn:lo+nrem≤a₀.size) (h1:1≤n) (hnn:n≤nrem) (hB:Af a₀ kd lo st0 st)
  (hs:Ng key (arrOf st) lo (lo+n)) (h:∀m st',Af a₀ kd lo st0 st'→1≤m→m≤nrem→Sg key (arrOf st') lo (lo+m)→Q (some m) st') :
  wpS (model prog w) A E s (tailL lo n nrem) Q st:=by
 unfold tailL
 have hsz:lo+n≤(arrOf st).size:=by rw [hB.size]; (first|lia|omega)
 refine wpS_bind (wpS_reverse ?_)
 have hB':=hB.rev (i:=lo) (j:=lo+n) (Nat.le_refl _) (by first|lia|omega)
 refine wpS_bind (tm_asc hL hn h1 hnn hB' ?_ fun m hm1 hm2 hsm _=>wpS_pure (h m _ hB' (by first|lia|omega) hm2 hsm))
 intro i j hl hij hj
 show ky key (mirror (arrOf st) lo (lo+n) ((lo+n-lo) / 2)) i≤ky key (mirror (arrOf st) lo (lo+n) ((lo+n-lo) / 2)) j
 rw [ky_mirror hsz,ky_mirror hsz,if_pos (by first|lia|omega),if_pos (by first|lia|omega)]
 exact hs _ _ (by first|lia|omega) (Nat.sub_le_sub_left hij _) (by first|lia|omega)
theorem tm_desc {st0 st:SortSt} {lo n nrem:Nat} {Q:DescSt→SortSt→Prop} (hL:Lts prog w A E s a₀ key kd) (hn:lo+nrem≤a₀.size) (h1:1≤n) (hnn:n≤nrem) (hB:Af a₀ kd lo st0 st)
  (hs:Ng key (arrOf st) lo (lo+n))
  (h:∀m neq st',Af a₀ kd lo st0 st'→n≤m→m≤nrem→Ng key (arrOf st') lo (lo+m)→neq+1≤m→(∀i,lo+m-(neq+1)≤i→i<lo+m→ky key (arrOf st') i=ky key (arrOf st') (lo+m-1))→Q (none,m,neq) st') :
  wpS (model prog w) A E s (descL lo n nrem) Q st:=by
 unfold descL
 refine wpS_forRange (I:=fun x c st'=>∃neq,c=(none,x,neq)∧Af a₀ kd lo st0 st'∧Ng key (arrOf st') lo (lo+x)∧neq+1≤x ∧
   (∀i,lo+x-(neq+1)≤i→i<lo+x→ky key (arrOf st') i=ky key (arrOf st') (lo+x-1))) ?step ?fin ⟨0,rfl,hB,hs,by first|lia|omega,fun i h1 h2=>congrArg (ky key _) (Nat.le_antisymm (Nat.le_sub_one_of_lt h2) h1)⟩
 case fin=>
  intro c st' hz_
  refine Elim.el hz_ _ ?_
  clear hz_
  rintro neq rfl hB' hs' hq he
  rw [Nat.max_eq_right hnn] at hs' hq he ⊢
  exact h nrem neq st' hB' hnn (Nat.le_refl _) hs' hq he
 case step=>
  intro x c st' hax hxn hz_
  refine Elim.el hz_ _ ?_
  clear hz_
  rintro neq rfl hB' hs' hq he
  dsimp only
  have hsz:lo+x≤(arrOf st').size:=by rw [hB'.size]; (first|lia|omega)
  have lx:lo+x-1<lo+x:=by (first|lia|omega)
  refine wpS_bind (hB'.lt hL (by first|lia|omega) (by first|lia|omega) ?_)
  by_cases hless:ky key (arrOf st') (lo+x)<ky key (arrOf st') (lo+x-1)
  ·simp -iota only [hless,decide_true,if_true]
   have step1:∀xs:Array Keyed,(∀k,ky key xs k=ky key (arrOf st') k)→Ng key xs lo (lo+(x+1)):=by
    intro xs hk i j hl hij hj
    rw [hk,hk]
    by_cases hjx:j<lo+x
    ·exact hs' i j hl hij hjx
    ·have hj':j=lo+x:=by (first|lia|omega)
     subst hj'
     by_cases hi':i=lo+x
     ·subst hi';exact Int.le_refl _
     ·exact Int.le_trans (Int.le_of_lt hless) (hs' i (lo+x-1) hl (Nat.le_sub_one_of_lt (Nat.lt_of_le_of_ne hij hi')) lx)
   by_cases hneq:neq>0
   ·rw [if_pos hneq]
    refine wpS_bind (wpS_reverse (wpS_pure ⟨0,rfl,hB'.rev (by first|lia|omega) (by first|lia|omega),step1 _ (ky_mirror_equal hsz he),by first|lia|omega,fun i h1 h2=>congrArg (ky key _) (Nat.le_antisymm (Nat.le_sub_one_of_lt h2) h1)⟩))
   ·rw [if_neg hneq]
    exact wpS_pure ⟨0,rfl,hB',step1 _ (fun _=>rfl),by first|lia|omega,fun i h1 h2=>congrArg (ky key _) (Nat.le_antisymm (Nat.le_sub_one_of_lt h2) h1)⟩
  ·simp -iota only [hless,decide_false,Bool.false_eq_true,if_false]
   refine wpS_bind (hB'.lt hL (by first|lia|omega) (by first|lia|omega) ?_)
   by_cases hlarger:ky key (arrOf st') (lo+x-1)<ky key (arrOf st') (lo+x)
   ·simp -iota only [hlarger,decide_true,if_true]
    exact wpS_pure (h x neq st' hB' hax (by first|lia|omega) hs' hq he)
   ·simp -iota only [hlarger,decide_false,Bool.false_eq_true,if_false]
    have heqx:ky key (arrOf st') (lo+x)=ky key (arrOf st') (lo+x-1):=by (first|lia|omega)
    refine wpS_pure ⟨neq+1,rfl,hB',fun i j hl hij hj => ?_,by first|lia|omega,fun i h1 h2 => ?_⟩
    ·by_cases hjx:j<lo+x
     ·exact hs' i j hl hij hjx
     ·have hj':j=lo+x:=by (first|lia|omega)
      subst hj'
      by_cases hi':i=lo+x
      ·subst hi';exact Int.le_refl _
      ·rw [heqx];exact hs' i (lo+x-1) hl (Nat.le_sub_one_of_lt (Nat.lt_of_le_of_ne hij hi')) lx
    ·rw [show lo+(x+1)-1=lo+x from Nat.add_sub_cancel (lo+x) 1]
     by_cases hix:i=lo+x
     ·subst hix;rfl
     ·rw [heqx];exact he i (Nat.le_trans (Nat.le_of_eq (Nat.succ_sub_succ (lo+x) (neq+1)).symm) h1) (Nat.lt_of_le_of_ne (Nat.le_of_lt_succ h2) hix)
theorem tm_descP {st0 st:SortSt} {lo n nrem:Nat} {Q:Option Nat→SortSt→Prop} (hL:Lts prog w A E s a₀ key kd) (hn:lo+nrem≤a₀.size) (hnn:n+1≤nrem) (hB:Af a₀ kd lo st0 st)
  (hs:Ng key (arrOf st) lo (lo+(n+1))) (h:∀m st',Af a₀ kd lo st0 st'→1≤m→m≤nrem→Sg key (arrOf st') lo (lo+m)→Q (some m) st') :
  wpS (model prog w) A E s (descP lo n nrem) Q st:=by
 unfold descP
 refine wpS_bind (wpS_lift (wpAny_rule ⟨rfl,?_⟩))
 refine wpS_bind (tm_desc hL hn (by first|lia|omega) hnn hB hs fun m neq st' hB' hm1 hm2 hs' hq he => ?_)
 dsimp only
 have hsz:lo+m≤(arrOf st').size:=by rw [hB'.size]; (first|lia|omega)
 by_cases hneq:neq>0
 ·rw [if_pos hneq]
  refine wpS_bind (wpS_reverse (tm_tail hL hn (by first|lia|omega) hm2 (hB'.rev (by first|lia|omega) (by first|lia|omega)) ?_ h))
  intro i j hl hij hj
  show ky key (mirror (arrOf st') _ _ _) j≤ky key (mirror (arrOf st') _ _ _) i
  rw [ky_mirror_equal hsz he,ky_mirror_equal hsz he]
  exact hs' i j hl hij hj
 ·rw [if_neg hneq]
  exact tm_tail hL hn (by first|lia|omega) hm2 hB' hs' h
theorem tm_count {st0 st:SortSt} {lo nrem:Nat} {Q:Option Nat→SortSt→Prop} (hL:Lts prog w A E s a₀ key kd) (hn:lo+nrem≤a₀.size) (h1:1≤nrem) (hB:Af a₀ kd lo st0 st)
  (h:∀m st',Af a₀ kd lo st0 st'→1≤m→m≤nrem→Sg key (arrOf st') lo (lo+m)→Q (some m) st') :
  wpS (model prog w) A E s (countRun' lo nrem) Q st:=by
 rw [countL_eq]
 refine wpS_bind (tm_asc hL hn (Nat.le_refl 1) h1 hB (fun i j hl hij hj=>by rw [show i=j by first|lia|omega];exact Int.le_refl _) fun n hn1 hn2 hsn hor => ?_)
 dsimp only
 by_cases hnn:n=nrem
 ·rw [if_pos (by simpa using hnn)]
  exact wpS_pure (h n st hB hn1 hn2 hsn)
 ·rw [if_neg (by simpa using hnn)]
  have hlt:ky key (arrOf st) (lo+n)<ky key (arrOf st) (lo+n-1):=hor.resolve_left hnn
  by_cases hgt:n>1
  ·rw [if_pos hgt]
   refine wpS_bind (hB.lt hL (by first|lia|omega) (by first|lia|omega) ?_)
   by_cases hrose:ky key (arrOf st) lo<ky key (arrOf st) (lo+n-1)
   ·simp -iota only [hrose,decide_true,if_true]
    exact wpS_pure (h n st hB hn1 hn2 hsn)
   ·simp -iota only [hrose,decide_false,Bool.false_eq_true,if_false]
    have hsz:lo+n≤(arrOf st).size:=by rw [hB.size]; (first|lia|omega)
    have hall:∀k,lo≤k→k<lo+n→ky key (arrOf st) k=ky key (arrOf st) (lo+n-1):=by
     intro k hl hk
     have a1:=hsn lo k (by first|lia|omega) hl hk
     have a2:=hsn k (lo+n-1) hl (by first|lia|omega) (by first|lia|omega)
     (first|lia|omega)
    refine wpS_bind (wpS_reverse (tm_descP hL hn (by first|lia|omega) (hB.rev (by first|lia|omega) (by first|lia|omega)) ?_ h))
    intro i j hl hij hj
    show ky key (mirror (arrOf st) _ _ _) j≤ky key (mirror (arrOf st) _ _ _) i
    rw [ky_mirror_equal hsz hall,ky_mirror_equal hsz hall]
    by_cases hjn:j<lo+n
    ·rw [hall i hl (by first|lia|omega),hall j (by first|lia|omega) hjn];exact Int.le_refl _
    ·have hj':j=lo+n:=by (first|lia|omega)
     subst hj'
     by_cases hi':i=lo+n
     ·subst hi';exact Int.le_refl _
     ·rw [hall i hl (by first|lia|omega)];exact Int.le_of_lt hlt
  ·rw [if_neg hgt]
   have hn1':n=1:=by (first|lia|omega)
   subst hn1'
   refine tm_descP hL hn (by first|lia|omega) hB ?_ h
   intro i j hl hij hj
   by_cases hi':i=j
   ·subst hi';exact Int.le_refl _
   ·have hi0:i=lo:=by (first|lia|omega)
    have hj1:j=lo+1:=by (first|lia|omega)
    subst hi0;subst hj1
    exact Int.le_of_lt hlt
theorem ky_bubble {xs:Array Keyed} {src d:Nat} (hs:src<xs.size) (hd:d≤src) (k:Nat) :
  ky key (bubble xs src d) k=if k=src-d then ky key xs src else if src-d<k∧k≤src then ky key xs (k-1) else ky key xs k:=by
 have e:=getElem?_bubble hs d hd k
 by_cases h1:k=src-d
 ·rw [if_pos h1] at e ⊢;exact ky_congr e
 ·rw [if_neg h1] at e ⊢
  by_cases h2:src-d<k∧k≤src
  ·rw [if_pos h2] at e ⊢;exact ky_congr e
  ·rw [if_neg h2] at e ⊢;exact ky_congr e
theorem tm_bin {st0 st:SortSt} {lo n ok:Nat} {Q:Bool→SortSt→Prop} (hL:Lts prog w A E s a₀ key kd) (hn:lo+n≤a₀.size) (hok:ok≤n) (hB:Af a₀ kd lo st0 st) (hs:Sg key (arrOf st) lo (lo+ok))
  (h:∀st',Af a₀ kd lo st0 st'→Sg key (arrOf st') lo (lo+n)→Q true st'):wpS (model prog w) A E s (binarySort' lo n ok) Q st:=by
 rw [binarySort'_eq]
 refine wpS_bind (wpS_mono (wpS_forRange (I:=fun k c st'=>c=(none,())∧Af a₀ kd lo st0 st'∧Sg key (arrOf st') lo (lo+min k n))
  (Q:=fun c st'=>c=(none,())∧Af a₀ kd lo st0 st'∧Sg key (arrOf st') lo (lo+n)) ?step ?fin ?init) ?post)
 case post=>
  intro c st' hz_
  refine Elim.el hz_ _ ?_
  clear hz_
  rintro rfl hB' hs'
  exact wpS_pure (h st' hB' hs')
 case init=>
  refine ⟨rfl,hB,fun i j hl hij hj => ?_⟩
  by_cases h1:ok=0
  ·subst h1
   have hj2:j<lo+1:=Nat.lt_of_lt_of_le hj (Nat.add_le_add_left (Nat.min_le_left _ _) _)
   have:i=j:=Nat.le_antisymm hij (Nat.le_trans (Nat.le_of_lt_succ hj2) hl)
   subst this;exact Int.le_refl _
  ·exact hs i j hl hij (Nat.lt_of_lt_of_le hj (Nat.add_le_add_left (Nat.le_trans (Nat.min_le_left _ _) (Nat.le_of_eq (Nat.max_eq_left (Nat.pos_of_ne_zero h1)))) _))
 case fin=>
  intro c st' hz_
  refine Elim.el hz_ _ ?_
  clear hz_
  rintro hc hB' hs'
  refine ⟨hc,hB',?_⟩
  rwa [Nat.min_eq_right (Nat.le_max_right _ _)] at hs'
 case step=>
  intro k c st' hak hkn hz_
  refine Elim.el hz_ _ ?_
  clear hz_
  rintro rfl hB' hs'
  rw [Nat.min_eq_left (Nat.le_of_lt hkn)] at hs'
  have hk:lo+k<a₀.size:=by (first|lia|omega)
  refine wpS_bind (wpS_mono (wpS_forRange (I:=fun x c st''=>st''=st'∧∃l r,c=(none,l,r)∧l≤r∧r≤k∧r+x≤k+l ∧
    (∀i,i<l→ky key (arrOf st') (lo+i)≤ky key (arrOf st') (lo+k))∧(∀i,r≤i→i<k→ky key (arrOf st') (lo+k)<ky key (arrOf st') (lo+i)))
   (Q:=fun c st''=>st''=st'∧∃l r,c=(none,l,r)∧l≤k ∧
    (∀i,i<l→ky key (arrOf st') (lo+i)≤ky key (arrOf st') (lo+k))∧(∀i,l≤i→i<k→ky key (arrOf st') (lo+k)<ky key (arrOf st') (lo+i))) ?istep ?ifin ?iinit) ?ipost)
  case iinit=>exact ⟨rfl,0,k,rfl,by first|lia|omega,by first|lia|omega,by first|lia|omega,fun i hi=>by first|lia|omega,fun i h1 h2=>by first|lia|omega⟩
  case ifin=>
   intro c st'' hz_
   refine Elim.el hz_ _ ?_
   clear hz_
   rintro rfl l r rfl hlr hrk hm hlo hhi
   have:l=r:=by (first|lia|omega)
   subst this
   exact ⟨rfl,l,l,rfl,hrk,hlo,hhi⟩
  case istep=>
   intro x c st'' _ hxk hz_
   refine Elim.el hz_ _ ?_
   clear hz_
   rintro rfl l r rfl hlr hrk hm hlo hhi
   dsimp only
   by_cases hge:l≥r
   ·rw [if_pos hge]
    have:l=r:=by (first|lia|omega)
    subst this
    exact wpS_pure ⟨rfl,l,l,rfl,hrk,hlo,hhi⟩
   ·rw [if_neg hge]
    have y1:l≤(l+r) / 2:=by (first|lia|omega)
    have y2:(l+r) / 2<r:=by (first|lia|omega)
    generalize (l+r) / 2=m at y1 y2 ⊢
    refine wpS_bind (hB'.lt hL hk (by first|lia|omega) ?_)
    by_cases hless:ky key (arrOf st'') (lo+k)<ky key (arrOf st'') (lo+m)
    ·simp -iota only [hless,decide_true,if_true]
     refine wpS_pure ⟨rfl,l,m,rfl,y1,by first|lia|omega,by first|lia|omega,hlo,fun i h1 h2 => ?_⟩
     exact Int.lt_of_lt_of_le hless (hs' _ _ (Nat.le_add_right _ _) (by first|lia|omega) (by first|lia|omega))
    ·simp -iota only [hless,decide_false,Bool.false_eq_true,if_false]
     refine wpS_pure ⟨rfl,m+1,r,rfl,y2,hrk,by first|lia|omega,fun i h1 => ?_,hhi⟩
     exact Int.le_trans (hs' (lo+i) (lo+m) (Nat.le_add_right _ _) (by first|lia|omega) (by first|lia|omega)) (Int.not_lt.mp hless)
  case ipost=>
   intro c st'' hz_
   refine Elim.el hz_ _ ?_
   clear hz_
   rintro rfl l r rfl hlk hlo hhi
   show wpS _ _ _ _ (do moveDown' (lo+k) (lo+l);pure (ForInStep.yield (none,()))) _ _
   rw [moveDown'_eq]
   have hks:lo+k<(arrOf st'').size:=by rw [hB'.size];exact hk
   refine wpS_bind (wpS_modify (wpS_pure ⟨rfl,hB'.set (bubble_perm _ _ _) (fun i hi => ?_),?_⟩))
   ·rw [getElem?_bubble hks _ (Nat.sub_le _ _),Nat.sub_sub_self (Nat.add_le_add_left hlk lo),if_neg (by first|lia|omega),if_neg (by first|lia|omega)]
   rw [Nat.min_eq_left hkn]
   have hlo':∀i,lo≤i→i<lo+l→ky key (arrOf st'') i≤ky key (arrOf st'') (lo+k):=fun i h1 h2=>by
    have:=hlo (i-lo) (Nat.sub_lt_left_of_lt_add h1 h2);rwa [Nat.add_sub_of_le h1] at this
   have hhi':∀i,lo+l≤i→i<lo+k→ky key (arrOf st'') (lo+k)<ky key (arrOf st'') i:=fun i h1 h2=>by
    have h0:=Nat.le_trans (Nat.le_add_right lo l) h1;have:=hhi (i-lo) (Nat.le_sub_of_add_le' h1) (Nat.sub_lt_left_of_lt_add h0 h2);rwa [Nat.add_sub_of_le h0] at this
   intro i j hl hij hj
   show ky key (bubble (arrOf st'') (lo+k) (lo+k-(lo+l))) i≤ky key (bubble (arrOf st'') (lo+k) (lo+k-(lo+l))) j
   have hj:j<lo+k+1:=hj
   have hy:lo+l≤lo+k:=Nat.add_le_add_left hlk _
   have h0:lo≤lo+l:=Nat.le_add_right _ _
   rw [ky_bubble hks (Nat.sub_le _ _),ky_bubble hks (Nat.sub_le _ _),Nat.sub_sub_self hy]
   clear hlo hhi h hB hs hn hok hak hkn hk hlk hL
   generalize lo+l=y at h0 hy hlo' hhi' ⊢
   generalize lo+k=z at hy hlo' hhi' hs' hj hks ⊢
   repeat' split
   all_goals first
    | (exfalso; (first|lia|omega))
    | exact Int.le_refl _
    | exact hlo' _ (by first|lia|omega) (by first|lia|omega)
    | exact Int.le_of_lt (hhi' _ (by first|lia|omega) (by first|lia|omega))
    | exact hs' _ _ (by first|lia|omega) (Nat.sub_le_sub_right hij 1) (by first|lia|omega)
    | exact hs' _ _ (by first|lia|omega) (by first|lia|omega) (by first|lia|omega)
end
end L2
namespace L2
open PySem PySem.Spec PyProof.Rows
noncomputable def gallop':Bool→Keyed→Array Keyed→Nat→Nat→Nat→StateT SortSt Sem (Option Nat):=sortPriv% PySem.Builtin.gallop
noncomputable def beyond' (left:Bool) (k:Keyed) (arr:Array Keyed) (base i:Nat):StateT SortSt Sem (Option Bool):=do
 let x ←elem' arr (base+i)
 if left then lt' x k else return (←lt' k x).map (!·)
section
variable {prog:Program} {w:World} {A:Around} {E:Value→Shared→Prop} {s:Shared} {a₀:Array Keyed} {key:Keyed→Int} {kd:SortKind}
noncomputable def bey (left:Bool) (k x:Int):Bool:=if left then decide (x<k) else !decide (k<x)
theorem tm_bey {left:Bool} {k:Keyed} {arr:Array Keyed} {base i:Nat} {st:SortSt} {Q:Option Bool→SortSt→Prop} (hL:Lts prog w A E s a₀ key kd) (hst:kindOf st=kd) (ha:∀p∈arr.toList,p∈a₀.toList) (hk:k∈a₀.toList)
  (hi:base+i<arr.size) (h:Q (some (bey left (key k) (ky key arr (base+i)))) st):wpS (model prog w) A E s (beyond' left k arr base i) Q st:=by
 unfold beyond'
 refine wpS_bind (tm_elem hi fun p e => ?_)
 have hp:=ha p (Array.mem_toList_iff.mpr (Array.mem_of_getElem? e))
 rw [ky_of e] at h
 cases left with
 | true=>exact hL _ _ _ _ hp hk hst h
 | false=>
  refine wpS_bind (m:=lt' k p) (hL _ _ _ _ hk hp hst ?_)
  exact wpS_pure h
theorem bey_mono {left:Bool} {k x y:Int} (h:x≤y) (hy:bey left k y=true):bey left k x=true:=by
 unfold bey at *
 cases left
 ·simp at hy ⊢; (first|lia|omega)
 ·simp at hy ⊢; (first|lia|omega)
noncomputable def Gal (left:Bool) (k:Int) (key:Keyed→Int) (arr:Array Keyed) (base n r:Nat):Prop:=
 r≤n∧(∀i,i<r→bey left k (ky key arr (base+i))=true)∧∀i,r≤i→i<n→bey left k (ky key arr (base+i))=false
theorem jpGo {α γ:Type} {m:StateT SortSt Sem α} {Q : α→SortSt→Prop} {st:SortSt} (V : γ→StateT SortSt Sem α) (G : γ→Prop) (hV:∀z,G z→wpS (model prog w) A E s (V z) Q st)
  (hm:(∀z,G z→wpS (model prog w) A E s (V z) Q st)→wpS (model prog w) A E s m Q st):wpS (model prog w) A E s m Q st:=hm hV
section
variable {α:Type} {c:Prop} [Decidable c] {m n:StateT SortSt Sem α} {Q : α→SortSt→Prop} {st:SortSt}
theorem ifP (h:c) (hm:wpS (model prog w) A E s m Q st):wpS (model prog w) A E s (if c then m else n) Q st:=by rw [if_pos h];exact hm
theorem ifN (h:¬c) (hm:wpS (model prog w) A E s n Q st):wpS (model prog w) A E s (if c then m else n) Q st:=by rw [if_neg h];exact hm
theorem ifS (h1:c→wpS (model prog w) A E s m Q st) (h2:¬c→wpS (model prog w) A E s n Q st):wpS (model prog w) A E s (if c then m else n) Q st:=by
 split
 ·exact h1 ‹_›
 ·exact h2 ‹_›
theorem ifE {x y:Nat} (h1:x=y→wpS (model prog w) A E s m Q st) (h2:¬x=y→wpS (model prog w) A E s n Q st):wpS (model prog w) A E s (if (x == y)=true then m else n) Q st:=
 ifS (fun z=>h1 (by simpa using z)) fun z=>h2 (by simpa using z)
end
theorem tm_gallop {left:Bool} {k:Keyed} {arr:Array Keyed} {base n hint:Nat} {st:SortSt} {Q:Option Nat→SortSt→Prop} (hL:Lts prog w A E s a₀ key kd) (hst:kindOf st=kd) (ha:∀p∈arr.toList,p∈a₀.toList) (hk:k∈a₀.toList)
  (hs:Sg key arr base (base+n)) (hn:base+n≤arr.size) (hh:hint<n) (h:∀r,Gal left (key k) key arr base n r→Q (some r) st):wpS (model prog w) A E s (gallop' left k arr base n hint) Q st:=by
 have up:∀i j,i≤j→j<n→bey left (key k) (ky key arr (base+j))=true→bey left (key k) (ky key arr (base+i))=true:=fun i j hij hj=>bey_mono (hs _ _ (by first|lia|omega) (by first|lia|omega) (by first|lia|omega))
 have dn:∀i j,i≤j→j<n→bey left (key k) (ky key arr (base+i))=false→bey left (key k) (ky key arr (base+j))=false:=fun i j hij hj e=>by
  cases e2:bey left (key k) (ky key arr (base+j)) with
  | false=>rfl
  | true=>rw [up i j hij hj e2] at e;cases e
 refine wpS_bind (m:=beyond' left k arr base hint) (tm_bey hL hst ha hk (by first|lia|omega) ?_)
 dsimp -zeta only
 extract_lets jp mo1 mo2
 refine jpGo (fun z:Nat×Nat×Nat×Nat=>jp () z.1 z.2.1 z.2.2.1 z.2.2.2) (fun z=>(z.2.2.1≤z.2.2.2∧z.2.2.2≤n)∧(∀i,i<z.2.2.1→bey left (key k) (ky key arr (base+i))=true)∧(∀i,z.2.2.2≤i→i<n→bey left (key k) (ky key arr (base+i))=false)) (fun z hz => ?_) fun H => ?_
 ·obtain ⟨z1,z2,lo0,hi0⟩:=z
  refine wpS_bind (wpS_mono (wpS_forRange (I:=fun x c st'=>st'=st∧∃lo hi,c=(none,lo,hi)∧lo≤hi∧hi≤n∧hi+x≤n+lo∧(∀i,i<lo→bey left (key k) (ky key arr (base+i))=true)∧(∀i,hi≤i→i<n→bey left (key k) (ky key arr (base+i))=false))
   (Q:=fun c st'=>st'=st∧∃r,c=(none,r,r)∧Gal left (key k) key arr base n r) ?stepA ?finA ⟨rfl,lo0,hi0,rfl,hz.1.1,hz.1.2,Nat.le_trans hz.1.2 (Nat.le_add_right _ _),hz.2.1,hz.2.2⟩) ?postA)
  case postA=>
   intro c st' hz_
   refine Elim.el hz_ _ ?_
   clear hz_
   rintro rfl r rfl g
   exact wpS_pure (h r g)
  case finA=>
   intro c st' hz_
   refine Elim.el hz_ _ ?_
   clear hz_
   rintro rfl lo hi rfl b1 b2 b3 b4 b5
   have:lo=hi:=by (first|lia|omega)
   subst this
   exact ⟨rfl,lo,rfl,b2,b4,b5⟩
  case stepA=>
   intro x c st' _ hx hz_
   refine Elim.el hz_ _ ?_
   clear hz_
   rintro rfl lo hi rfl b1 b2 b3 b4 b5
   dsimp only
   refine ifS (fun hge => ?_) fun hge => ?_
   ·have:lo=hi:=by (first|lia|omega)
    subst this
    exact wpS_pure ⟨rfl,lo,rfl,b2,b4,b5⟩
   ·have y1:lo≤lo+(hi-lo) / 2:=Nat.le_add_right _ _
    have y2:lo+(hi-lo) / 2<hi:=by (first|lia|omega)
    generalize lo+(hi-lo) / 2=m at y1 y2 ⊢
    refine wpS_bind (tm_bey hL hst ha hk (by first|lia|omega) ?_)
    cases e:bey left (key k) (ky key arr (base+m)) with
    | true=>
     dsimp only
     refine ifP rfl ?_
     exact wpS_pure ⟨rfl,_,_,rfl,y2,b2,by first|lia|omega,fun i hi'=>up i _ (Nat.le_of_lt_succ hi') (by first|lia|omega) e,b5⟩
    | false=>
     dsimp only
     refine ifN Bool.false_ne_true ?_
     exact wpS_pure ⟨rfl,_,_,rfl,y1,by first|lia|omega,by first|lia|omega,b4,fun i i1 i2=>dn _ i i1 i2 e⟩
 have eN:hint+(n-hint)=n:=Nat.add_sub_of_le (Nat.le_of_lt hh)
 refine ifS (fun e => ?_) fun e => ?_
 ·refine wpS_bind (wpS_mono (wpS_forRange (I:=fun x c st'=>st'=st∧∃last ofs,c=(none,last,ofs)∧last<ofs∧x+1≤ofs∧last<n-hint∧bey left (key k) (ky key arr (base+(hint+last)))=true)
   (Q:=fun c st'=>st'=st∧∃last ofs,c=(none,last,ofs)∧last<ofs∧last<n-hint∧bey left (key k) (ky key arr (base+(hint+last)))=true∧(n-hint≤ofs∨bey left (key k) (ky key arr (base+(hint+ofs)))=false)) ?step ?fin ⟨rfl,0,1,rfl,by first|lia|omega,by first|lia|omega,by first|lia|omega,e⟩) ?post)
  case post=>
   intro c st1 hz_
   refine Elim.el hz_ _ ?_
   clear hz_
   rintro rfl last ofs rfl c1 c2 c3 c4
   refine H (last,ofs,hint+last+1,hint+min ofs (n-hint)) ⟨⟨Nat.add_le_add_left (Nat.le_min.mpr ⟨c1,c2⟩) hint,Nat.le_trans (Nat.add_le_add_left (Nat.min_le_right _ _) _) (Nat.le_of_eq eN)⟩,fun i hi=>up i (hint+last) (Nat.le_of_lt_succ hi) (Nat.lt_of_lt_of_eq (Nat.add_lt_add_left c2 hint) eN) c3,fun i i1 i2 => ?_⟩
   have i1:hint+min ofs (n-hint)≤i:=i1
   rcases Nat.le_total (n-hint) ofs with t|t
   ·rw [Nat.min_eq_right t,eN] at i1
    exact absurd i2 (Nat.not_lt.mpr i1)
   ·rw [Nat.min_eq_left t] at i1
    rcases c4 with c4|c4
    ·rw [Nat.le_antisymm t c4,eN] at i1
     exact absurd i2 (Nat.not_lt.mpr i1)
    ·exact dn (hint+ofs) i i1 i2 c4
  case fin=>
   intro c st' hz_
   refine Elim.el hz_ _ ?_
   clear hz_
   rintro rfl last ofs rfl c1 c2 c3 c4
   exact ⟨rfl,last,ofs,rfl,c1,c3,c4, .inl (by first|lia|omega)⟩
  case step=>
   intro x c st' _ hx hz_
   refine Elim.el hz_ _ ?_
   clear hz_
   rintro rfl last ofs rfl c1 c2 c3 c4
   dsimp only [mo1]
   refine ifS (fun hge=>wpS_pure ⟨rfl,last,ofs,rfl,c1,c3,c4, .inl hge⟩) fun hge => ?_
   refine wpS_bind (tm_bey hL hst ha hk (by first|lia|omega) ?_)
   cases e2:bey left (key k) (ky key arr (base+(hint+ofs))) with
   | true=>
    exact wpS_pure ⟨rfl,ofs,2*ofs+1,rfl,by first|lia|omega,by first|lia|omega,by first|lia|omega,e2⟩
   | false=>
    exact wpS_pure ⟨rfl,last,ofs,rfl,c1,c3,c4, .inr e2⟩
 ·have e:=Bool.eq_false_iff.mpr e
  refine wpS_bind (wpS_mono (wpS_forRange (I:=fun x c st'=>st'=st∧∃last ofs,c=(none,last,ofs)∧last<ofs∧x+1≤ofs∧last<hint+1∧bey left (key k) (ky key arr (base+(hint-last)))=false)
   (Q:=fun c st'=>st'=st∧∃last ofs,c=(none,last,ofs)∧last<ofs∧last<hint+1∧bey left (key k) (ky key arr (base+(hint-last)))=false∧(hint+1≤ofs∨(ofs≤hint∧bey left (key k) (ky key arr (base+(hint-ofs)))=true))) ?step ?fin ⟨rfl,0,1,rfl,by first|lia|omega,by first|lia|omega,by first|lia|omega,e⟩) ?post)
  case post=>
   intro c st1 hz_
   refine Elim.el hz_ _ ?_
   clear hz_
   rintro rfl last ofs rfl c1 c2 c3 c4
   refine H (last,ofs,hint+1-min ofs (hint+1),hint-last) ⟨⟨?_,Nat.le_trans (Nat.sub_le _ _) (Nat.le_of_lt hh)⟩,fun i hi => ?_,fun i i1 i2=>dn (hint-last) i i1 i2 c3⟩
   ·show hint+1-min ofs (hint+1)≤hint-last
    rw [←Nat.succ_sub_succ hint last]
    exact Nat.sub_le_sub_left (Nat.le_min.mpr ⟨c1,c2⟩) _
   have hi:i<hint+1-min ofs (hint+1):=hi
   rcases c4 with c4|⟨c4,c5⟩
   ·rw [Nat.min_eq_right c4,Nat.sub_self] at hi
    exact absurd hi (Nat.not_lt_zero _)
   ·rw [Nat.min_eq_left (Nat.le_succ_of_le c4),Nat.succ_sub c4] at hi
    exact up i (hint-ofs) (Nat.le_of_lt_succ hi) (Nat.lt_of_le_of_lt (Nat.sub_le _ _) hh) c5
  case fin=>
   intro c st' hz_
   refine Elim.el hz_ _ ?_
   clear hz_
   rintro rfl last ofs rfl c1 c2 c3 c4
   exact ⟨rfl,last,ofs,rfl,c1,c3,c4, .inl (by first|lia|omega)⟩
  case step=>
   intro x c st' _ hx hz_
   refine Elim.el hz_ _ ?_
   clear hz_
   rintro rfl last ofs rfl c1 c2 c3 c4
   dsimp only [mo2]
   refine ifS (fun hge=>wpS_pure ⟨rfl,last,ofs,rfl,c1,c3,c4, .inl hge⟩) fun hge => ?_
   refine wpS_bind (tm_bey hL hst ha hk (by first|lia|omega) ?_)
   cases e2:bey left (key k) (ky key arr (base+(hint-ofs))) with
   | true=>
    exact wpS_pure ⟨rfl,last,ofs,rfl,c1,c3,c4, .inr ⟨by first|lia|omega,e2⟩⟩
   | false=>
    exact wpS_pure ⟨rfl,ofs,2*ofs+1,rfl,by first|lia|omega,by first|lia|omega,by first|lia|omega,e2⟩
end
end L2
namespace L2
open PySem PySem.Spec PyProof.Rows
noncomputable def setG':Nat→StateT SortSt Sem Unit:=sortPriv% PySem.Builtin.setMinGallop
noncomputable def withG (st:SortSt) (g:Nat):SortSt:=SortSt.mk' (kindOf st) (arrOf st) (pendingOf st) g (failedOf st)
noncomputable def mergeLo':Array Keyed→Array Keyed→StateT SortSt Sem (Array Keyed):=sortPriv% PySem.Builtin.mergeLo
section
variable {prog:Program} {w:World} {A:Around} {E:Value→Shared→Prop} {s:Shared} {a₀:Array Keyed} {key:Keyed→Int} {kd:SortKind}
noncomputable def Sl (key:Keyed→Int) (l:List Keyed):Prop:=l.Pairwise fun x y=>key x≤key y
structure Kp (st st':SortSt):Prop where
 kind:kindOf st'=kindOf st
 arr:arrOf st'=arrOf st
 pend:pendingOf st'=pendingOf st
 failed:failedOf st'=failedOf st
theorem Kp.refl (st:SortSt):Kp st st:=⟨rfl,rfl,rfl,rfl⟩
theorem Kp.gal {st st':SortSt} (h:Kp st st') (g:Nat):Kp st (withG st' g):=⟨h.kind,h.arr,h.pend,h.failed⟩
theorem ix {xs:Array Keyed} {i:Nat} {x:Keyed} (h:xs.toList[i]? = some x):xs[i]? = some x:=by rw [←h,Array.getElem?_toList]
theorem mem_drop {xs:Array Keyed} {i:Nat} {x:Keyed} (h:x∈xs.toList.drop i):∃j,i≤j∧j<xs.size∧ky key xs j=key x:=by
 obtain ⟨j,hj⟩:=List.mem_iff_getElem?.mp h
 rw [List.getElem?_drop] at hj
 have hl:=(List.getElem?_eq_some_iff.mp hj).1
 rw [Array.length_toList] at hl
 exact ⟨i+j,by first|lia|omega,hl,ky_of (ix hj)⟩
theorem mem_take {xs:Array Keyed} {i:Nat} {x:Keyed} (h:x∈xs.toList.take i):∃j,j<i∧j<xs.size∧ky key xs j=key x:=by
 obtain ⟨j,hj⟩:=List.mem_iff_getElem?.mp h
 have hl:=(List.getElem?_eq_some_iff.mp hj).1
 rw [List.length_take,Array.length_toList] at hl
 rw [List.getElem?_take_of_lt (by first|lia|omega)] at hj
 exact ⟨j,by first|lia|omega,by first|lia|omega,ky_of (ix hj)⟩
theorem mem_seg {xs:Array Keyed} {i k:Nat} {x:Keyed} (h:x∈(xs.toList.drop i).take k):∃j,i≤j∧j<i+k∧j<xs.size∧ky key xs j=key x:=by
 obtain ⟨j,hj⟩:=List.mem_iff_getElem?.mp h
 have hl:=(List.getElem?_eq_some_iff.mp hj).1
 rw [List.length_take,List.length_drop,Array.length_toList] at hl
 rw [List.getElem?_take_of_lt (by first|lia|omega),List.getElem?_drop] at hj
 exact ⟨i+j,by first|lia|omega,by first|lia|omega,by first|lia|omega,ky_of (ix hj)⟩
theorem seg1 {xs:Array Keyed} {i:Nat} {p:Keyed} (h:xs[i]? = some p):(xs.toList.drop i).take 1=[p]:=by
 rw [←Array.getElem?_toList] at h
 obtain ⟨hl,e⟩:=List.getElem?_eq_some_iff.mp h
 rw [List.drop_eq_getElem_cons hl,e];rfl
theorem sl_of {xs:Array Keyed} (h:Sg key xs 0 xs.size):Sl key xs.toList:=by
 refine List.pairwise_iff_getElem.mpr fun i j hi hj hij => ?_
 rw [Array.length_toList] at hi hj
 have:=h i j (by first|lia|omega) (by first|lia|omega) hj
 rwa [ky_of (getElem?_pos xs i hi),ky_of (getElem?_pos xs j hj)] at this
structure Mg (key:Keyed→Int) (a b:Array Keyed) (out:List Keyed) (ia ib:Nat):Prop where
 ha:ia≤a.size
 hb:ib≤b.size
 sa:Sg key a 0 a.size
 sb:Sg key b 0 b.size
 perm:(out++(a.toList.drop ia++b.toList.drop ib)).Perm (a.toList++b.toList)
 so:Sl key out
 la:∀x∈out,∀y∈a.toList.drop ia,key x≤key y
 lb:∀x∈out,∀y∈b.toList.drop ib,key x≤key y
theorem Mg.swap {a b:Array Keyed} {out:List Keyed} {ia ib:Nat} (h:Mg key a b out ia ib):Mg key b a out ib ia:=
 ⟨h.hb,h.ha,h.sb,h.sa,((List.perm_append_comm).append_left out).trans (h.perm.trans List.perm_append_comm),h.so,h.lb,h.la⟩
theorem Mg.tA {a b:Array Keyed} {out:List Keyed} {ia ib k:Nat} (h:Mg key a b out ia ib) (hk:ia+k≤a.size) (q:∀j,ia≤j→j<ia+k→ky key a j≤ky key b ib):Mg key a b (out++(a.toList.drop ia).take k) (ia+k) ib:=by
 have e:a.toList.drop ia=(a.toList.drop ia).take k++a.toList.drop (ia+k):=by
  rw [←List.drop_drop,List.take_append_drop]
 have sd:Sl key (a.toList.drop ia):=(sl_of h.sa).sublist (List.drop_sublist _ _)
 rw [e] at sd
 obtain ⟨s1,s2,s3⟩:=List.pairwise_append.mp sd
 refine ⟨hk,h.hb,h.sa,h.sb,?_,?_,?_,?_⟩
 ·have p:=h.perm
  rw [e] at p
  rw [List.append_assoc] at p ⊢
  exact p
 ·refine List.pairwise_append.mpr ⟨h.so,s1,fun x hx y hy=>h.la x hx y (List.mem_of_mem_take hy)⟩
 ·intro x hx y hy
  rcases List.mem_append.mp hx with hx|hx
  ·exact h.la x hx y (by rw [e];exact List.mem_append_right _ hy)
  ·exact s3 x hx y hy
 ·intro x hx y hy
  rcases List.mem_append.mp hx with hx|hx
  ·exact h.lb x hx y hy
  ·obtain ⟨j,j1,j2,j3,e1⟩:=mem_seg (key:=key) hx
   obtain ⟨i,i1,i2,e2⟩:=mem_drop (key:=key) hy
   have:=q j j1 j2
   have:=h.sb ib i (by first|lia|omega) i1 i2
   (first|lia|omega)
theorem Mg.tB {a b:Array Keyed} {out:List Keyed} {ia ib k:Nat} (h:Mg key a b out ia ib) (hk:ib+k≤b.size) (q:∀j,ib≤j→j<ib+k→ky key b j≤ky key a ia):Mg key a b (out++(b.toList.drop ib).take k) ia (ib+k):=
 (h.swap.tA hk q).swap
theorem Mg.pushA {a b out:Array Keyed} {ia ib:Nat} {p:Keyed} (h:Mg key a b out.toList ia ib) (e:a[ia]? = some p) (hk:ia<a.size) (q:ky key a ia≤ky key b ib):Mg key a b (out.push p).toList (ia+1) ib:=by
 rw [Array.toList_push, ←seg1 e]
 exact h.tA hk fun j j1 j2=>by rw [show j=ia by first|lia|omega];exact q
theorem Mg.pushB {a b out:Array Keyed} {ia ib:Nat} {p:Keyed} (h:Mg key a b out.toList ia ib) (e:b[ib]? = some p) (hk:ib<b.size) (q:ky key b ib≤ky key a ia):Mg key a b (out.push p).toList ia (ib+1):=by
 rw [Array.toList_push, ←seg1 e]
 exact h.tB hk fun j j1 j2=>by rw [show j=ib by first|lia|omega];exact q
theorem ext_toList {xs:Array Keyed} {i k:Nat} (h:i+k≤xs.size):(xs.extract i (i+k)).toList=(xs.toList.drop i).take k:=by
 rw [Array.toList_extract,List.extract_eq_take_drop]
 congr 1; (first|lia|omega)
theorem ext_end {xs:Array Keyed} {i:Nat} : (xs.extract i xs.size).toList=xs.toList.drop i:=by
 rw [Array.toList_extract,List.extract_eq_take_drop]
 refine List.take_of_length_le ?_
 rw [List.length_drop,Array.length_toList]; (first|lia|omega)
theorem Mg.exA {a b out:Array Keyed} {ia ib k:Nat} (h:Mg key a b out.toList ia ib) (hk:ia+k≤a.size) (q:∀j,ia≤j→j<ia+k→ky key a j≤ky key b ib):Mg key a b (out++a.extract ia (ia+k)).toList (ia+k) ib:=by
 rw [Array.toList_append,ext_toList hk]
 exact h.tA hk q
theorem Mg.exB {a b out:Array Keyed} {ia ib k:Nat} (h:Mg key a b out.toList ia ib) (hk:ib+k≤b.size) (q:∀j,ib≤j→j<ib+k→ky key b j≤ky key a ia):Mg key a b (out++b.extract ib (ib+k)).toList ia (ib+k):=by
 rw [Array.toList_append,ext_toList hk]
 exact h.tB hk q
noncomputable def Good (key:Keyed→Int) (a b res:Array Keyed):Prop:=res.toList.Perm (a.toList++b.toList)∧Sl key res.toList
theorem Mg.done {a b out:Array Keyed} {ia ib:Nat} (h:Mg key a b out.toList ia ib) (q:ia=a.size∨ib=b.size):Good key a b (out++a.extract ia a.size++b.extract ib b.size):=by
 unfold Good
 rw [Array.toList_append,Array.toList_append,ext_end,ext_end,List.append_assoc]
 refine ⟨h.perm,List.pairwise_append.mpr ⟨h.so,List.pairwise_append.mpr ⟨(sl_of h.sa).sublist (List.drop_sublist _ _),(sl_of h.sb).sublist (List.drop_sublist _ _),fun x hx y hy => ?_⟩,fun x hx y hy => ?_⟩⟩
 ·obtain ⟨j,j1,j2,_⟩:=mem_drop (key:=key) hx
  obtain ⟨i,i1,i2,_⟩:=mem_drop (key:=key) hy
  (first|lia|omega)
 ·rcases List.mem_append.mp hy with hy|hy
  ·exact h.la x hx y hy
  ·exact h.lb x hx y hy
theorem Mg.last {a b out:Array Keyed} {ia ib:Nat} (h:Mg key a b out.toList ia ib) (e:ia+1=a.size) (q:∀j,j<b.size→ky key b j≤ky key a (a.size-1)):Good key a b (out++b.extract ib b.size++a.extract ia a.size):=by
 unfold Good
 rw [Array.toList_append,Array.toList_append,ext_end,ext_end,List.append_assoc]
 refine ⟨(List.perm_append_comm.append_left out.toList).trans h.perm,List.pairwise_append.mpr ⟨h.so,List.pairwise_append.mpr ⟨(sl_of h.sb).sublist (List.drop_sublist _ _),(sl_of h.sa).sublist (List.drop_sublist _ _),fun x hx y hy => ?_⟩,fun x hx y hy => ?_⟩⟩
 ·obtain ⟨j,j1,j2,e1⟩:=mem_drop (key:=key) hx
  obtain ⟨i,i1,i2,e2⟩:=mem_drop (key:=key) hy
  have:=q j j2
  rw [show a.size-1=i by first|lia|omega] at this
  (first|lia|omega)
 ·rcases List.mem_append.mp hy with hy|hy
  ·exact h.lb x hx y hy
  ·exact h.la x hx y hy
theorem gal_le {k x:Int} (h:bey false k x=true):x≤k:=by unfold bey at h;simp at h;exact h
theorem gal_lt {k x:Int} (h:bey false k x=false):k<x:=by unfold bey at h;simp at h;exact h
theorem gal_le' {k x:Int} (h:bey true k x=true):x<k:=by unfold bey at h;simp at h;exact h
theorem gal_lt' {k x:Int} (h:bey true k x=false):k≤x:=by unfold bey at h;simp at h;exact h
end
end L2
namespace L2
open PySem PySem.Spec PyProof.Rows
section
variable {prog:Program} {w:World} {A:Around} {E:Value→Shared→Prop} {s:Shared} {a₀:Array Keyed} {key:Keyed→Int} {kd:SortKind}
theorem elemB {α:Type} {xs:Array Keyed} {i:Nat} {f:Keyed→StateT SortSt Sem α} {Q : α→SortSt→Prop} {st:SortSt} (hi:i<xs.size) (h:∀p,xs[i]? = some p→wpS (model prog w) A E s (f p) Q st):wpS (model prog w) A E s (elem' xs i >>= f) Q st:=wpS_bind (tm_elem hi h)
theorem ltB {α:Type} {x y:Keyed} {f:Option Bool→StateT SortSt Sem α} {Q : α→SortSt→Prop} {st:SortSt} (hL:Lts prog w A E s a₀ key kd) (hx:x∈a₀.toList) (hy:y∈a₀.toList) (hk:kindOf st=kd) (h:wpS (model prog w) A E s (f (some (decide (key x<key y)))) Q st):wpS (model prog w) A E s (lt' x y >>= f) Q st:=wpS_bind (hL _ _ _ _ hx hy hk h)
theorem gallopB {α:Type} {left:Bool} {k:Keyed} {arr:Array Keyed} {base n hint:Nat} {st:SortSt} {f:Option Nat→StateT SortSt Sem α} {Q : α→SortSt→Prop} (hL:Lts prog w A E s a₀ key kd) (hst:kindOf st=kd) (ha:∀p∈arr.toList,p∈a₀.toList) (hk:k∈a₀.toList)
  (hs:Sg key arr base (base+n)) (hn:base+n≤arr.size) (hh:hint<n) (h:∀r,Gal left (key k) key arr base n r→wpS (model prog w) A E s (f (some r)) Q st):wpS (model prog w) A E s (gallop' left k arr base n hint >>= f) Q st:=wpS_bind (tm_gallop hL hst ha hk hs hn hh h)
theorem tup6 {α β γ δ ε ζ:Type} {P : α × β × γ × δ × ε × ζ→Prop} (h:∀a b c d e f,P (a,b,c,d,e,f)):∀x,P x:=fun ⟨a,b,c,d,e,f⟩=>h a b c d e f
theorem tup7 {α β γ δ ε ζ η:Type} {P : α × β × γ × δ × ε × ζ × η→Prop} (h:∀a b c d e f g,P (a,b,c,d,e,f,g)):∀x,P x:=fun ⟨a,b,c,d,e,f,g⟩=>h a b c d e f g
theorem setGo {α:Type} {g:Nat} {f:Unit→StateT SortSt Sem α} {st st3:SortSt} {Q : α→SortSt→Prop} (kp:Kp st st3) (h:∀st4,Kp st st4→wpS (model prog w) A E s (f ()) Q st4):wpS (model prog w) A E s (setG' g >>= f) Q st3:=by
 exact wpS_bind (m:=setG' g) (wpS_modify (f:=fun s=>withG s g) (h _ (kp.gal g)))
theorem mem_of {xs:Array Keyed} {i:Nat} {p:Keyed} (h:xs[i]? = some p):p∈xs.toList:=Array.mem_toList_iff.mpr (Array.mem_of_getElem? h)
theorem sg_from {xs:Array Keyed} {i j:Nat} (h:Sg key xs 0 j):Sg key xs i j:=fun p q _ h2 h3=>h p q (Nat.zero_le _) h2 h3
noncomputable abbrev LoI0 (key:Keyed→Int) (a b:Array Keyed) (st:SortSt) (x:Nat) (c:Option (Array Keyed)×Array Keyed×Nat×Nat×Nat) (st':SortSt):Prop:=Kp st st'∧∃out ia ib g,c=(none,out,ia,ib,g)∧Mg key a b out.toList ia ib∧x+1≤ia+ib∧ia+1<a.size∧ib<b.size
noncomputable abbrev LoQ0 (key:Keyed→Int) (a b:Array Keyed) (st:SortSt) (c:Option (Array Keyed)×Array Keyed×Nat×Nat×Nat) (st':SortSt):Prop:=Kp st st'∧∃r,c.1=some r∧Good key a b r
noncomputable abbrev LoI1 (key:Keyed→Int) (a b:Array Keyed) (st1:SortSt) (x:Nat) (y:Nat) (c:Option (Array Keyed)×Array Keyed×Nat×Nat×Nat×Nat) (st':SortSt):Prop:=st'=st1∧∃out ia ib p q,c=(none,out,ia,ib,p,q)∧Mg key a b out.toList ia ib∧x+1+y≤ia+ib∧ia+1<a.size∧ib<b.size
noncomputable abbrev LoQ1 (key:Keyed→Int) (a b:Array Keyed) (st1:SortSt) (x:Nat) (c:Option (Array Keyed)×Array Keyed×Nat×Nat×Nat×Nat) (st':SortSt):Prop:=st'=st1∧((∃r,c.1=some r∧Good key a b r)∨(c.1=none∧Mg key a b c.2.1.toList c.2.2.1 c.2.2.2.1∧x+2≤c.2.2.1+c.2.2.2.1∧c.2.2.1+1<a.size∧c.2.2.2.1<b.size))
noncomputable abbrev LoI2 (key:Keyed→Int) (a b:Array Keyed) (st:SortSt) (x:Nat) (y:Nat) (c:Option (Array Keyed)×Array Keyed×Nat×Nat×Nat×Nat×Nat) (st':SortSt):Prop:=Kp st st'∧∃out ia ib g p q,c=(none,out,ia,ib,g,p,q)∧Mg key a b out.toList ia ib∧x+2≤ia+ib∧ia+1<a.size∧ib<b.size
noncomputable abbrev LoQ2 (key:Keyed→Int) (a b:Array Keyed) (st:SortSt) (x:Nat) (c:Option (Array Keyed)×Array Keyed×Nat×Nat×Nat×Nat×Nat) (st':SortSt):Prop:=Kp st st'∧((∃r,c.1=some r∧Good key a b r)∨(c.1=none∧Mg key a b c.2.1.toList c.2.2.1 c.2.2.2.1∧x+2≤c.2.2.1+c.2.2.2.1∧c.2.2.1+1<a.size∧c.2.2.2.1<b.size))
theorem tm_lo {a b:Array Keyed} {st:SortSt} {Q:Array Keyed→SortSt→Prop} (hL:Lts prog w A E s a₀ key kd) (hk:kindOf st=kd) (ham:∀p∈a.toList,p∈a₀.toList) (hbm:∀p∈b.toList,p∈a₀.toList)
  (hsa:Sg key a 0 a.size) (hsb:Sg key b 0 b.size) (ha1:1≤a.size) (hb1:1≤b.size) (h0:ky key b 0≤ky key a 0) (hl:∀j,j<b.size→ky key b j≤ky key a (a.size-1))
  (h:∀res st',Kp st st'→Good key a b res→Q res st'):wpS (model prog w) A E s (mergeLo' a b) Q st:=by
 refine wpS_bind (m:=liftM (rule "list.sort.merge-lo")) (wpS_lift (wpAny_rule ⟨rfl,?_⟩))
 refine elemB hb1 fun p e => ?_
 have mz:Mg key a b (#[]:Array Keyed).toList 0 0:=⟨Nat.zero_le _,Nat.zero_le _,hsa,hsb,by simp, .nil,(fun _ h=>by cases h),(fun _ h=>by cases h)⟩
 have m0:Mg key a b (#[p]:Array Keyed).toList 0 1:=mz.pushB e hb1 h0
 refine ifE (fun z1=>wpS_pure (h _ _ (Kp.refl _) (m0.done (.inr z1)))) fun z1 => ?_
 refine ifE (fun z2=>wpS_pure (h _ _ (Kp.refl _) (m0.last z2 hl))) fun z2 => ?_
 refine wpS_bind (wpS_get ?_)
 refine wpS_bind (wpS_mono (wpS_forRange
  (I:=LoI0 key a b st)
  (Q:=LoQ0 key a b st) ?step ?fin ⟨Kp.refl _,_,_,_,_,rfl,m0,by first|lia|omega,by first|lia|omega,by first|lia|omega⟩) ?post)
 case post=>
  rintro ⟨c1,c⟩ st' ⟨kp,r,e1,g⟩
  cases e1
  exact wpS_pure (h _ _ kp g)
 case fin=>
  intro c st' hz_
  refine Elim.el hz_ _ ?_
  clear hz_
  rintro kp out ia ib g rfl mm h1 h2 h3
  rw [Nat.zero_max] at h1
  (first|lia|omega)
 case step=>
  intro x c st1 _ hx hz_
  refine Elim.el hz_ _ ?_
  clear hz_
  rintro kp1 out ia ib g rfl mm h1 h2 h3
  dsimp -zeta only
  refine wpS_bind (wpS_mono (wpS_forRange
   (I:=LoI1 key a b st1 x)
   (Q:=LoQ1 key a b st1 x) ?step1 ?fin1 ⟨rfl,out,ia,ib,_,_,rfl,mm,by first|lia|omega,h2,h3⟩) ?post1)
  case fin1=>
   intro c st' hz_
   refine Elim.el hz_ _ ?_
   clear hz_
   rintro rfl out ia ib p q rfl mm h1 h2 h3
   exact ⟨rfl, .inr ⟨rfl,mm,by rw [Nat.zero_max] at h1;show x+2≤ia+ib; (first|lia|omega),h2,h3⟩⟩
  case step1=>
   intro y c st' _ hy hz_
   refine Elim.el hz_ _ ?_
   clear hz_
   rintro rfl out ia ib p q rfl mm h1 h2 h3
   dsimp only
   refine elemB h3 fun p1 e1=>elemB (Nat.lt_of_succ_lt h2) fun p2 e2 => ?_
   refine ltB hL (hbm _ (mem_of e1)) (ham _ (mem_of e2)) (kp1.kind.trans hk) ?_
   rw [←ky_of (key:=key) e1, ←ky_of (key:=key) e2]
   by_cases hlt:ky key b ib<ky key a ia
   ·rw [decide_eq_true hlt]
    dsimp only
    refine ifP rfl ?_
    refine elemB h3 fun p3 e3 => ?_
    have m1:=mm.pushB e3 h3 (Int.le_of_lt hlt)
    refine ifE (fun z3=>wpS_pure ⟨rfl, .inl ⟨_,rfl,m1.done (.inr z3)⟩⟩) fun z3 => ?_
    refine ifS (fun z4=>wpS_pure ⟨rfl, .inr ⟨rfl,m1,by show x+2≤ia+(ib+1); (first|lia|omega),h2,Nat.lt_of_le_of_ne h3 z3⟩⟩) fun z4 => ?_
    exact wpS_pure ⟨rfl,_,_,_,_,_,rfl,m1,by first|lia|omega,h2,Nat.lt_of_le_of_ne h3 z3⟩
   ·rw [decide_eq_false hlt]
    dsimp only
    refine ifN Bool.false_ne_true ?_
    refine elemB (Nat.lt_of_succ_lt h2) fun p3 e3 => ?_
    have m1:=mm.pushA e3 (by first|lia|omega) (Int.not_lt.mp hlt)
    refine ifE (fun z3=>wpS_pure ⟨rfl, .inl ⟨_,rfl,m1.last z3 hl⟩⟩) fun z3 => ?_
    refine ifS (fun z4=>wpS_pure ⟨rfl, .inr ⟨rfl,m1,by show x+2≤ia+1+ib; (first|lia|omega),Nat.lt_of_le_of_ne h2 z3,h3⟩⟩) fun z4 => ?_
    exact wpS_pure ⟨rfl,_,_,_,_,_,rfl,m1,by first|lia|omega,Nat.lt_of_le_of_ne h2 z3,h3⟩
  refine tup6 fun c1 out ia ib p q => ?_
  intro st2 hc
  have es:st2=st1:=hc.1
  subst es
  refine Or.elim hc.2 (fun gg => ?_) fun gg => ?_
  ·refine Elim.el gg _ ?_
   intro r e1 gd
   have e1:c1=some r:=e1
   subst e1
   exact wpS_pure ⟨kp1,r,rfl,gd⟩
  have e1:c1=none:=gg.1
  have mm:Mg key a b out.toList ia ib:=gg.2.1
  have h1:x+2≤ia+ib:=gg.2.2.1
  have h2:ia+1<a.size:=gg.2.2.2.1
  have h3:ib<b.size:=gg.2.2.2.2
  clear gg hc
  subst e1
  dsimp -zeta only
  refine wpS_bind (wpS_lift (wpAny_rule ⟨rfl,?_⟩))
  refine wpS_bind (wpS_mono (wpS_forRange
   (I:=LoI2 key a b st x)
   (Q:=LoQ2 key a b st x) ?step2 ?fin2 ⟨kp1,out,ia,ib,_,_,_,rfl,mm,by first|lia|omega,h2,h3⟩) ?post2)
  case fin2=>
   intro c st' hz_
   refine Elim.el hz_ _ ?_
   clear hz_
   rintro kp out ia ib g p q rfl mm h1 h2 h3
   exact ⟨kp, .inr ⟨rfl,mm,h1,h2,h3⟩⟩
  case post2=>
   refine tup7 fun c1 out ia ib g p q => ?_
   intro st3 hc
   have kp:Kp st st3:=hc.1
   refine Or.elim hc.2 (fun gg => ?_) fun gg => ?_
   ·refine Elim.el gg _ ?_
    intro r e1 gd
    have e1:c1=some r:=e1
    subst e1
    exact wpS_pure ⟨kp,r,rfl,gd⟩
   have e1:c1=none:=gg.1
   have mm:Mg key a b out.toList ia ib:=gg.2.1
   have h1:x+2≤ia+ib:=gg.2.2.1
   have h2:ia+1<a.size:=gg.2.2.2.1
   have h3:ib<b.size:=gg.2.2.2.2
   clear gg hc
   subst e1
   dsimp only
   exact setGo kp fun st4 kk=>wpS_pure ⟨kk,_,_,_,_,rfl,mm,by first|lia|omega,h2,h3⟩
  case step2=>
   intro y c st3 _ hy hz_
   refine Elim.el hz_ _ ?_
   clear hz_
   rintro kp out ia ib g p q rfl mm h1 h2 h3
   dsimp -zeta only
   extract_lets s1 o1 s2 i1 s3 i2 s4 mg s5 ac bc ib1 jp mg1
   refine jpGo (fun z:Nat=>jp () z) (fun _=>True) (fun g' _ => ?_) fun H => ?_
   rotate_left
   ·exact ifS (fun _=>H _ trivial) fun _=>H _ trivial
   refine setGo kp fun st4 kk => ?_
   dsimp -zeta only [s1,o1,s2,i1,s3,i2,s4,mg,s5,ac,bc,ib1]
   have hkd:kindOf st4=kd:=kk.kind.trans hk
   have eA:ia+(a.size-ia)=a.size:=Nat.add_sub_of_le (Nat.le_of_lt (Nat.lt_of_succ_lt h2))
   refine elemB h3 fun p1 e1 => ?_
   refine gallopB hL hkd ham (hbm _ (mem_of e1)) (by rw [eA];exact sg_from hsa) (Nat.le_of_eq eA) (by first|lia|omega) fun k1 g1 => ?_
   obtain ⟨g11,g12,g13⟩:=g1
   rw [←ky_of (key:=key) e1] at g12 g13
   dsimp -zeta only
   extract_lets ac2 jp2 o2 i3
   refine jpGo (fun z:Array Keyed×Nat=>jp2 () z.1 z.2) (fun z=>Mg key a b z.1.toList z.2 ib∧ia≤z.2∧z.2+1<a.size∧ky key b ib≤ky key a z.2) (fun z hz => ?_) fun H => ?_
   rotate_left
   ·refine ifS (fun ka => ?_) fun ka => ?_
    ·have ka':k1>0:=ka
     have kA:ia+k1≤a.size:=Nat.le_trans (Nat.add_le_add_left g11 ia) (Nat.le_of_eq eA)
     have m1:=mm.exA (k:=k1) kA (fun j j1 j2=>by have:=gal_le (g12 (j-ia) (Nat.sub_lt_left_of_lt_add j1 j2));rw [Nat.add_sub_of_le j1] at this;exact this)
     refine ifE (fun z1=>wpS_pure ⟨kk, .inl ⟨_,rfl,m1.last z1 hl⟩⟩) fun z1 => ?_
     refine ifE (fun z2=>wpS_pure ⟨kk, .inl ⟨_,rfl,m1.done (.inl z2)⟩⟩) fun z2 => ?_
     exact H (o2,i3) ⟨m1,Nat.le_add_right _ _,Nat.lt_of_le_of_ne (Nat.lt_of_le_of_ne kA z2) z1,Int.le_of_lt (gal_lt (g13 k1 (Nat.le_refl _) (by first|lia|omega)))⟩
    ·exact H (out,ia) ⟨mm,Nat.le_refl _,h2,Int.le_of_lt (gal_lt (g13 0 (by first|lia|omega) (by first|lia|omega)))⟩
   obtain ⟨out2,ia2⟩:=z
   have m1:Mg key a b out2.toList ia2 ib:=hz.1
   have n1:ia≤ia2:=hz.2.1
   have n2:ia2+1<a.size:=hz.2.2.1
   have n3:ky key b ib≤ky key a ia2:=hz.2.2.2
   clear hz
   refine elemB h3 fun p2 e2 => ?_
   have m2:=m1.pushB e2 h3 n3
   dsimp -zeta only [ac2]
   extract_lets o3
   refine ifE (fun z3=>wpS_pure ⟨kk, .inl ⟨_,rfl,m2.done (.inr z3)⟩⟩) fun z3 => ?_
   have eB:ib+1+(b.size-(ib+1))=b.size:=Nat.add_sub_of_le h3
   have h4:ib+1<b.size:=Nat.lt_of_le_of_ne h3 z3
   refine elemB (Nat.lt_of_succ_lt n2) fun p3 e3 => ?_
   refine gallopB hL hkd hbm (ham _ (mem_of e3)) (by rw [eB];exact sg_from hsb) (Nat.le_of_eq eB) (Nat.sub_pos_of_lt h4) fun k2 g2 => ?_
   obtain ⟨g21,g22,g23⟩:=g2
   rw [←ky_of (key:=key) e3] at g22 g23
   dsimp -zeta only
   extract_lets bc2 jp3 o4 i4
   refine jpGo (fun z:Array Keyed×Nat=>jp3 () z.1 z.2) (fun z=>Mg key a b z.1.toList ia2 z.2∧ib≤z.2∧z.2<b.size∧ky key a ia2≤ky key b z.2) (fun z hz => ?_) fun H => ?_
   rotate_left
   ·refine ifS (fun kz => ?_) fun kz => ?_
    ·have kB:ib+1+k2≤b.size:=Nat.le_trans (Nat.add_le_add_left g21 _) (Nat.le_of_eq eB)
     have m3:=m2.exB (k:=k2) kB (fun j j1 j2=>by have:=gal_le' (g22 (j-(ib+1)) (Nat.sub_lt_left_of_lt_add j1 j2));rw [Nat.add_sub_of_le j1] at this;exact Int.le_of_lt this)
     refine ifE (fun z4=>wpS_pure ⟨kk, .inl ⟨_,rfl,m3.done (.inr z4)⟩⟩) fun z4 => ?_
     exact H (o4,i4) ⟨m3,Nat.le_trans (Nat.le_succ _) (Nat.le_add_right _ _),Nat.lt_of_le_of_ne kB z4,gal_lt' (g23 k2 (Nat.le_refl _) (by first|lia|omega))⟩
    ·exact H (o3,ib+1) ⟨m2,Nat.le_succ _,h4,gal_lt' (g23 0 (by first|lia|omega) (Nat.sub_pos_of_lt h4))⟩
   obtain ⟨out3,ib3⟩:=z
   have m3:Mg key a b out3.toList ia2 ib3:=hz.1
   have n4:ib≤ib3:=hz.2.1
   have n5:ib3<b.size:=hz.2.2.1
   have n6:ky key a ia2≤ky key b ib3:=hz.2.2.2
   clear hz
   refine elemB (Nat.lt_of_succ_lt n2) fun p4 e4 => ?_
   have m4:=m3.pushA e4 (by first|lia|omega) n6
   dsimp only [bc2]
   refine ifE (fun z5=>wpS_pure ⟨kk, .inl ⟨_,rfl,m4.last z5 hl⟩⟩) fun z5 => ?_
   refine ifS (fun _ => ?_) fun _ => ?_
   ·exact wpS_pure ⟨kk, .inr ⟨rfl,m4,by dsimp only; (first|lia|omega),Nat.lt_of_le_of_ne n2 z5,n5⟩⟩
   ·exact wpS_pure ⟨kk,_,_,_,_,_,_,rfl,m4,by first|lia|omega,Nat.lt_of_le_of_ne n2 z5,n5⟩
end
end L2
namespace L2
open PySem PySem.Spec PyProof.Rows
noncomputable def mergeHi':Array Keyed→Array Keyed→StateT SortSt Sem (Array Keyed):=sortPriv% PySem.Builtin.mergeHi
section
variable {prog:Program} {w:World} {A:Around} {E:Value→Shared→Prop} {s:Shared} {a₀:Array Keyed} {key:Keyed→Int} {kd:SortKind}
theorem sg_to {xs:Array Keyed} {n:Nat} (hn:n≤xs.size) (h:Sg key xs 0 xs.size):Sg key xs 0 (0+n):=fun p q h1 h2 h3=>h p q h1 h2 (by first|lia|omega)
structure Mh (key:Keyed→Int) (a b:Array Keyed) (out:List Keyed) (na nb:Nat):Prop where
 ha:na≤a.size
 hb:nb≤b.size
 sa:Sg key a 0 a.size
 sb:Sg key b 0 b.size
 perm:(a.toList.take na++b.toList.take nb++out.reverse).Perm (a.toList++b.toList)
 so:Sl key out.reverse
 la:∀x∈a.toList.take na,∀y∈out,key x≤key y
 lb:∀x∈b.toList.take nb,∀y∈out,key x≤key y
theorem Mh.swap {a b:Array Keyed} {out:List Keyed} {na nb:Nat} (h:Mh key a b out na nb):Mh key b a out nb na:=
 ⟨h.hb,h.ha,h.sb,h.sa,((List.perm_append_comm).append_right _).trans (h.perm.trans List.perm_append_comm),h.so,h.lb,h.la⟩
theorem mem_segR {xs:Array Keyed} {t n:Nat} {x:Keyed} (h:x∈(xs.toList.take n).drop t):∃j,t≤j∧j<n∧j<xs.size∧ky key xs j=key x:=by
 rw [List.drop_take] at h
 obtain ⟨j,j1,j2,j3,e⟩:=mem_seg (key:=key) h
 exact ⟨j,j1,by first|lia|omega,j3,e⟩
theorem Mh.tA {a b:Array Keyed} {out:List Keyed} {na nb t:Nat} (h:Mh key a b out na nb) (ht:t≤na) (hn:1≤nb) (q:∀j,t≤j→j<na→ky key b (nb-1)≤ky key a j):Mh key a b (out++((a.toList.take na).drop t).reverse) t nb:=by
 have e:a.toList.take na=a.toList.take t++(a.toList.take na).drop t:=by
  have:=List.take_append_drop t (a.toList.take na)
  rw [List.take_take,Nat.min_eq_left ht] at this
  exact this.symm
 have sd:Sl key (a.toList.take na):=(sl_of h.sa).sublist (List.take_sublist _ _)
 rw [e] at sd
 refine Elim.el (List.pairwise_append.mp sd) _ ?_
 rintro s1 s2 s3
 have ha:=h.ha
 have hb:=h.hb
 refine ⟨by first|lia|omega,h.hb,h.sa,h.sb,?_,?_,?_,?_⟩
 ·have p:=h.perm
  rw [e,List.append_assoc,List.append_assoc] at p
  rw [List.reverse_append,List.reverse_reverse,List.append_assoc]
  refine List.Perm.trans (List.Perm.append_left _ ?_) p
  rw [←List.append_assoc, ←List.append_assoc]
  exact List.perm_append_comm.append_right _
 ·rw [List.reverse_append,List.reverse_reverse]
  exact List.pairwise_append.mpr ⟨s2,h.so,fun x hx y hy=>h.la x (List.mem_of_mem_drop hx) y (List.mem_reverse.mp hy)⟩
 ·intro x hx y hy
  rcases List.mem_append.mp hy with hy|hy
  ·exact h.la x (by rw [e];exact List.mem_append_left _ hx) y hy
  ·exact s3 x hx y (List.mem_reverse.mp hy)
 ·intro x hx y hy
  rcases List.mem_append.mp hy with hy|hy
  ·exact h.lb x hx y hy
  ·obtain ⟨j,j1,j2,j3,e1⟩:=mem_segR (key:=key) (List.mem_reverse.mp hy)
   obtain ⟨i,i1,i2,e2⟩:=mem_take (key:=key) hx
   have:=q j j1 j2
   have:=h.sb i (nb-1) (by first|lia|omega) (by first|lia|omega) (by first|lia|omega)
   (first|lia|omega)
theorem Mh.tB {a b:Array Keyed} {out:List Keyed} {na nb t:Nat} (h:Mh key a b out na nb) (ht:t≤nb) (hn:1≤na) (q:∀j,t≤j→j<nb→ky key a (na-1)≤ky key b j):Mh key a b (out++((b.toList.take nb).drop t).reverse) na t:=
 (h.swap.tA ht hn q).swap
theorem segR1 {xs:Array Keyed} {n:Nat} {p:Keyed} (hn:1≤n) (h:xs[n-1]? = some p):((xs.toList.take n).drop (n-1)).reverse=[p]:=by
 rw [List.drop_take,show n-(n-1)=1 by first|lia|omega,seg1 h];rfl
theorem Mh.pushA {a b out:Array Keyed} {na nb:Nat} {p:Keyed} (h:Mh key a b out.toList na nb) (hn:1≤na) (e:a[na-1]? = some p) (hb:1≤nb) (q:ky key b (nb-1)≤ky key a (na-1)):Mh key a b (out.push p).toList (na-1) nb:=by
 rw [Array.toList_push, ←segR1 hn e]
 exact h.tA (by first|lia|omega) hb fun j j1 j2=>by rw [show j=na-1 by first|lia|omega];exact q
theorem Mh.pushB {a b out:Array Keyed} {na nb:Nat} {p:Keyed} (h:Mh key a b out.toList na nb) (hn:1≤nb) (e:b[nb-1]? = some p) (hb:1≤na) (q:ky key a (na-1)≤ky key b (nb-1)):Mh key a b (out.push p).toList na (nb-1):=by
 rw [Array.toList_push, ←segR1 hn e]
 exact h.tB (by first|lia|omega) hb fun j j1 j2=>by rw [show j=nb-1 by first|lia|omega];exact q
theorem extR {xs:Array Keyed} {t n:Nat} : (xs.extract t n).toList=(xs.toList.take n).drop t:=by
 rw [Array.toList_extract,List.extract_eq_take_drop,List.drop_take]
theorem Mh.exA {a b out:Array Keyed} {na nb t:Nat} (h:Mh key a b out.toList na nb) (ht:t≤na) (hn:1≤nb) (q:∀j,t≤j→j<na→ky key b (nb-1)≤ky key a j):Mh key a b (out++(a.extract t na).reverse).toList t nb:=by
 rw [Array.toList_append,Array.toList_reverse,extR]
 exact h.tA ht hn q
theorem Mh.exB {a b out:Array Keyed} {na nb t:Nat} (h:Mh key a b out.toList na nb) (ht:t≤nb) (hn:1≤na) (q:∀j,t≤j→j<nb→ky key a (na-1)≤ky key b j):Mh key a b (out++(b.extract t nb).reverse).toList na t:=by
 rw [Array.toList_append,Array.toList_reverse,extR]
 exact h.tB ht hn q
theorem ext0 {xs:Array Keyed} {n:Nat} : (xs.extract 0 n).toList=xs.toList.take n:=by rw [extR,List.drop_zero]
theorem Mh.done {a b out:Array Keyed} {na nb:Nat} (h:Mh key a b out.toList na nb) (q:na=0∨nb=0):Good key a b (a.extract 0 na++b.extract 0 nb++out.reverse):=by
 unfold Good
 rw [Array.toList_append,Array.toList_append,ext0,ext0,Array.toList_reverse]
 refine ⟨h.perm,List.pairwise_append.mpr ⟨List.pairwise_append.mpr ⟨(sl_of h.sa).sublist (List.take_sublist _ _),(sl_of h.sb).sublist (List.take_sublist _ _),fun x hx y hy => ?_⟩,h.so,fun x hx y hy => ?_⟩⟩
 ·obtain ⟨j,j1,j2,_⟩:=mem_take (key:=key) hx
  obtain ⟨i,i1,i2,_⟩:=mem_take (key:=key) hy
  (first|lia|omega)
 ·rcases List.mem_append.mp hx with hx|hx
  ·exact h.la x hx y (List.mem_reverse.mp hy)
  ·exact h.lb x hx y (List.mem_reverse.mp hy)
theorem Mh.first {a b out:Array Keyed} {na nb:Nat} (h:Mh key a b out.toList na nb) (e:nb=1) (q:ky key b 0≤ky key a 0):Good key a b (b.extract 0 nb++a.extract 0 na++out.reverse):=by
 unfold Good
 rw [Array.toList_append,Array.toList_append,ext0,ext0,Array.toList_reverse]
 refine ⟨(List.perm_append_comm.append_right _).trans h.perm,List.pairwise_append.mpr ⟨List.pairwise_append.mpr ⟨(sl_of h.sb).sublist (List.take_sublist _ _),(sl_of h.sa).sublist (List.take_sublist _ _),fun x hx y hy => ?_⟩,h.so,fun x hx y hy => ?_⟩⟩
 ·obtain ⟨j,j1,j2,e1⟩:=mem_take (key:=key) hx
  obtain ⟨i,i1,i2,e2⟩:=mem_take (key:=key) hy
  have:=h.sa 0 i (by first|lia|omega) (by first|lia|omega) i2
  rw [show j=0 by first|lia|omega] at e1
  (first|lia|omega)
 ·rcases List.mem_append.mp hx with hx|hx
  ·exact h.lb x hx y (List.mem_reverse.mp hy)
  ·exact h.la x hx y (List.mem_reverse.mp hy)
noncomputable abbrev HiI0 (key:Keyed→Int) (a b:Array Keyed) (st:SortSt) (x:Nat) (c:Option (Array Keyed)×Nat×Nat×Array Keyed×Nat) (st':SortSt):Prop:=Kp st st'∧∃na nb out g,c=(none,na,nb,out,g)∧Mh key a b out.toList na nb∧na+nb+x+1≤a.size+b.size∧1≤na∧2≤nb
noncomputable abbrev HiQ0 (key:Keyed→Int) (a b:Array Keyed) (st:SortSt) (c:Option (Array Keyed)×Nat×Nat×Array Keyed×Nat) (st':SortSt):Prop:=Kp st st'∧∃r,c.1=some r∧Good key a b r
noncomputable abbrev HiI1 (key:Keyed→Int) (a b:Array Keyed) (st1:SortSt) (x:Nat) (y:Nat) (c:Option (Array Keyed)×Nat×Nat×Array Keyed×Nat×Nat) (st':SortSt):Prop:=st'=st1∧∃na nb out p q,c=(none,na,nb,out,p,q)∧Mh key a b out.toList na nb∧na+nb+x+1+y≤a.size+b.size∧1≤na∧2≤nb
noncomputable abbrev HiQ1 (key:Keyed→Int) (a b:Array Keyed) (st1:SortSt) (x:Nat) (c:Option (Array Keyed)×Nat×Nat×Array Keyed×Nat×Nat) (st':SortSt):Prop:=st'=st1∧((∃r,c.1=some r∧Good key a b r)∨(c.1=none∧Mh key a b c.2.2.2.1.toList c.2.1 c.2.2.1∧c.2.1+c.2.2.1+x+2≤a.size+b.size∧1≤c.2.1∧2≤c.2.2.1))
noncomputable abbrev HiI2 (key:Keyed→Int) (a b:Array Keyed) (st:SortSt) (x:Nat) (y:Nat) (c:Option (Array Keyed)×Nat×Nat×Array Keyed×Nat×Nat×Nat) (st':SortSt):Prop:=Kp st st'∧∃na nb out g p q,c=(none,na,nb,out,g,p,q)∧Mh key a b out.toList na nb∧na+nb+x+2≤a.size+b.size∧1≤na∧2≤nb
noncomputable abbrev HiQ2 (key:Keyed→Int) (a b:Array Keyed) (st:SortSt) (x:Nat) (c:Option (Array Keyed)×Nat×Nat×Array Keyed×Nat×Nat×Nat) (st':SortSt):Prop:=Kp st st'∧((∃r,c.1=some r∧Good key a b r)∨(c.1=none∧Mh key a b c.2.2.2.1.toList c.2.1 c.2.2.1∧c.2.1+c.2.2.1+x+2≤a.size+b.size∧1≤c.2.1∧2≤c.2.2.1))
theorem tm_hi {a b:Array Keyed} {st:SortSt} {Q:Array Keyed→SortSt→Prop} (hL:Lts prog w A E s a₀ key kd) (hk:kindOf st=kd) (ham:∀p∈a.toList,p∈a₀.toList) (hbm:∀p∈b.toList,p∈a₀.toList)
  (hsa:Sg key a 0 a.size) (hsb:Sg key b 0 b.size) (ha1:1≤a.size) (hb1:1≤b.size) (h0:ky key b 0≤ky key a 0) (hl:∀j,j<b.size→ky key b j≤ky key a (a.size-1))
  (h:∀res st',Kp st st'→Good key a b res→Q res st'):wpS (model prog w) A E s (mergeHi' a b) Q st:=by
 refine wpS_bind (m:=liftM (rule "list.sort.merge-hi")) (wpS_lift (wpAny_rule ⟨rfl,?_⟩))
 refine elemB (by first|lia|omega) fun p e => ?_
 have mz:Mh key a b (#[]:Array Keyed).toList a.size b.size:=⟨Nat.le_refl _,Nat.le_refl _,hsa,hsb,by rw [←Array.length_toList, ←Array.length_toList,List.take_length,List.take_length];simp, .nil,(fun _ _ _ h=>by cases h),(fun _ _ _ h=>by cases h)⟩
 have m0:Mh key a b (#[p]:Array Keyed).toList (a.size-1) b.size:=mz.pushA ha1 e hb1 (hl _ (by first|lia|omega))
 refine ifE (fun z1=>wpS_pure (h _ _ (Kp.refl _) (m0.done (.inl z1)))) fun z1 => ?_
 refine ifE (fun z2=>wpS_pure (h _ _ (Kp.refl _) (m0.first z2 h0))) fun z2 => ?_
 refine wpS_bind (wpS_get ?_)
 refine wpS_bind (wpS_mono (wpS_forRange
  (I:=HiI0 key a b st)
  (Q:=HiQ0 key a b st) ?step ?fin ⟨Kp.refl _,_,_,_,_,rfl,m0,by first|lia|omega,by first|lia|omega,by first|lia|omega⟩) ?post)
 case post=>
  rintro ⟨c1,c⟩ st' ⟨kp,r,e1,g⟩
  cases e1
  exact wpS_pure (h _ _ kp g)
 case fin=>
  intro c st' hz_
  refine Elim.el hz_ _ ?_
  clear hz_
  rintro kp na nb out g rfl mm h1 h2 h3
  rw [Nat.zero_max] at h1
  (first|lia|omega)
 case step=>
  intro x c st1 _ hx hz_
  refine Elim.el hz_ _ ?_
  clear hz_
  rintro kp1 na nb out g rfl mm h1 h2 h3
  have ua:=mm.ha
  have ub:=mm.hb
  dsimp -zeta only
  refine wpS_bind (wpS_mono (wpS_forRange
   (I:=HiI1 key a b st1 x)
   (Q:=HiQ1 key a b st1 x) ?step1 ?fin1 ⟨rfl,na,nb,out,_,_,rfl,mm,by first|lia|omega,h2,h3⟩) ?post1)
  case fin1=>
   intro c st' hz_
   refine Elim.el hz_ _ ?_
   clear hz_
   rintro rfl na nb out p q rfl mm h1 h2 h3
   exact ⟨rfl, .inr ⟨rfl,mm,by rw [Nat.zero_max] at h1;dsimp only; (first|lia|omega),h2,h3⟩⟩
  case step1=>
   intro y c st' _ hy hz_
   refine Elim.el hz_ _ ?_
   clear hz_
   rintro rfl na nb out p q rfl mm h1 h2 h3
   have ua:=mm.ha
   have ub:=mm.hb
   dsimp only
   have la:na-1<a.size:=Nat.sub_one_lt_of_le h2 mm.ha
   have nb1:1≤nb:=Nat.le_of_succ_le h3
   have lb:nb-1<b.size:=Nat.sub_one_lt_of_le nb1 mm.hb
   refine elemB (by first|assumption|(first|lia|omega)) fun p1 e1=>elemB (by first|assumption|(first|lia|omega)) fun p2 e2 => ?_
   refine ltB hL (hbm _ (mem_of e1)) (ham _ (mem_of e2)) (kp1.kind.trans hk) ?_
   rw [←ky_of (key:=key) e1, ←ky_of (key:=key) e2]
   by_cases hlt:ky key b (nb-1)<ky key a (na-1)
   ·rw [decide_eq_true hlt]
    dsimp only
    refine ifP rfl ?_
    refine elemB (by first|assumption|(first|lia|omega)) fun p3 e3 => ?_
    have m1:=mm.pushA h2 e3 nb1 (by first|exact Int.le_of_lt hlt|(first|lia|omega))
    refine ifE (fun z3=>wpS_pure ⟨rfl, .inl ⟨_,rfl,m1.done (.inl z3)⟩⟩) fun z3 => ?_
    refine ifS (fun z4=>wpS_pure ⟨rfl, .inr ⟨rfl,m1,by dsimp only; (first|lia|omega),by dsimp only; (first|lia|omega),h3⟩⟩) fun z4 => ?_
    exact wpS_pure ⟨rfl,_,_,_,_,_,rfl,m1,by first|lia|omega,by first|lia|omega,h3⟩
   ·rw [decide_eq_false hlt]
    dsimp only
    refine ifN Bool.false_ne_true ?_
    refine elemB (by first|assumption|(first|lia|omega)) fun p3 e3 => ?_
    have m1:=mm.pushB nb1 e3 h2 (Int.not_lt.mp hlt)
    refine ifE (fun z3=>wpS_pure ⟨rfl, .inl ⟨_,rfl,m1.first z3 h0⟩⟩) fun z3 => ?_
    refine ifS (fun z4=>wpS_pure ⟨rfl, .inr ⟨rfl,m1,by dsimp only; (first|lia|omega),h2,by dsimp only; (first|lia|omega)⟩⟩) fun z4 => ?_
    exact wpS_pure ⟨rfl,_,_,_,_,_,rfl,m1,by first|lia|omega,h2,by first|lia|omega⟩
  refine tup6 fun c1 na nb out p q => ?_
  intro st2 hc
  have es:st2=st1:=hc.1
  subst es
  refine Or.elim hc.2 (fun gg => ?_) fun gg => ?_
  ·refine Elim.el gg _ ?_
   intro r e1 gd
   have e1:c1=some r:=e1
   subst e1
   exact wpS_pure ⟨kp1,r,rfl,gd⟩
  have e1:c1=none:=gg.1
  have mm:Mh key a b out.toList na nb:=gg.2.1
  have h1:na+nb+x+2≤a.size+b.size:=gg.2.2.1
  have h2:1≤na:=gg.2.2.2.1
  have h3:2≤nb:=gg.2.2.2.2
  clear gg hc
  subst e1
  dsimp -zeta only
  refine wpS_bind (wpS_lift (wpAny_rule ⟨rfl,?_⟩))
  refine wpS_bind (wpS_mono (wpS_forRange
   (I:=HiI2 key a b st x)
   (Q:=HiQ2 key a b st x) ?step2 ?fin2 ⟨kp1,na,nb,out,_,_,_,rfl,mm,by first|lia|omega,h2,h3⟩) ?post2)
  case fin2=>
   intro c st' hz_
   refine Elim.el hz_ _ ?_
   clear hz_
   rintro kp na nb out g p q rfl mm h1 h2 h3
   exact ⟨kp, .inr ⟨rfl,mm,h1,h2,h3⟩⟩
  case post2=>
   refine tup7 fun c1 na nb out g p q => ?_
   intro st3 hc
   have kp:Kp st st3:=hc.1
   refine Or.elim hc.2 (fun gg => ?_) fun gg => ?_
   ·refine Elim.el gg _ ?_
    intro r e1 gd
    have e1:c1=some r:=e1
    subst e1
    exact wpS_pure ⟨kp,r,rfl,gd⟩
   have e1:c1=none:=gg.1
   have mm:Mh key a b out.toList na nb:=gg.2.1
   have h1:na+nb+x+2≤a.size+b.size:=gg.2.2.1
   have h2:1≤na:=gg.2.2.2.1
   have h3:2≤nb:=gg.2.2.2.2
   clear gg hc
   subst e1
   dsimp only
   exact setGo kp fun st4 kk=>wpS_pure ⟨kk,_,_,_,_,rfl,mm,by first|lia|omega,h2,h3⟩
  case step2=>
   intro y c st3 _ hy hz_
   refine Elim.el hz_ _ ?_
   clear hz_
   rintro kp na nb out g p q rfl mm h1 h2 h3
   have ua:=mm.ha
   have ub:=mm.hb
   dsimp -zeta only
   extract_lets s1 o1 s2 i1 s3 i2 s4 mg s5 ac bc ib1 jp mg1
   refine jpGo (fun z:Nat=>jp () z) (fun _=>True) (fun g' _ => ?_) fun H => ?_
   rotate_left
   ·exact ifS (fun _=>H _ trivial) fun _=>H _ trivial
   refine setGo kp fun st4 kk => ?_
   dsimp -zeta only [s1,o1,s2,i1,s3,i2,s4,mg,s5,ac,bc,ib1]
   have hkd:kindOf st4=kd:=kk.kind.trans hk
   have nb1:1≤nb:=Nat.le_of_succ_le h3
   have lb:nb-1<b.size:=Nat.sub_one_lt_of_le nb1 ub
   refine elemB lb fun p1 e1 => ?_
   refine gallopB hL hkd ham (hbm _ (mem_of e1)) (sg_to ua hsa) (by rw [Nat.zero_add];exact ua) (Nat.sub_one_lt (Nat.ne_of_gt h2)) fun k1 g1 => ?_
   obtain ⟨g11,g12,g13⟩:=g1
   rw [←ky_of (key:=key) e1] at g12 g13
   simp only [Nat.zero_add] at g12 g13
   dsimp -zeta only
   extract_lets kx ac2 jp2 o2 na2
   refine jpGo (fun z:Nat×Array Keyed=>jp2 () z.1 z.2) (fun z=>Mh key a b z.2.toList z.1 nb∧1≤z.1∧z.1≤na∧ky key a (z.1-1)≤ky key b (nb-1)) (fun z hz => ?_) fun H => ?_
   rotate_left
   ·refine ifS (fun ka => ?_) fun ka => ?_
    ·have ka':na-k1>0:=ka
     have m1:=mm.exA (t:=k1) g11 nb1 (fun j j1 j2=>Int.le_of_lt (gal_lt (g13 j j1 j2)))
     refine ifE (fun z1=>wpS_pure ⟨kk, .inl ⟨_,rfl,m1.done (.inl z1)⟩⟩) fun z1 => ?_
     have z2:¬k1=0:=z1
     exact H (na2,o2) ⟨m1,Nat.pos_of_ne_zero z2,g11,gal_le (g12 (k1-1) (Nat.sub_one_lt z2))⟩
    ·have ka':¬na-k1>0:=ka
     exact H (na,out) ⟨mm,h2,Nat.le_refl _,gal_le (g12 (na-1) (Nat.sub_one_lt_of_le h2 (Nat.le_of_sub_eq_zero (Nat.eq_zero_of_not_pos ka'))))⟩
   obtain ⟨na3,out2⟩:=z
   have m1:Mh key a b out2.toList na3 nb:=hz.1
   have n1:1≤na3:=hz.2.1
   have n2:na3≤na:=hz.2.2.1
   have n3:ky key a (na3-1)≤ky key b (nb-1):=hz.2.2.2
   clear hz
   refine elemB lb fun p2 e2 => ?_
   have m2:=m1.pushB nb1 e2 n1 n3
   dsimp -zeta only [ac2,kx]
   extract_lets o3
   refine ifE (fun z3=>wpS_pure ⟨kk, .inl ⟨_,rfl,m2.first z3 h0⟩⟩) fun z3 => ?_
   have la3:na3-1<a.size:=Nat.sub_one_lt_of_le n1 (Nat.le_trans n2 ua)
   have nb2:2≤nb-1:=by (first|lia|omega)
   have nb0:0<nb-1:=Nat.lt_of_lt_of_le Nat.one_pos (Nat.le_of_succ_le nb2)
   refine elemB la3 fun p3 e3 => ?_
   refine gallopB hL hkd hbm (ham _ (mem_of e3)) (sg_to (Nat.le_of_lt lb) hsb) (by rw [Nat.zero_add];exact Nat.le_of_lt lb) (Nat.sub_one_lt (Nat.ne_of_gt nb0)) fun k2 g2 => ?_
   obtain ⟨g21,g22,g23⟩:=g2
   rw [←ky_of (key:=key) e3] at g22 g23
   simp only [Nat.zero_add] at g22 g23
   dsimp -zeta only
   extract_lets ky2 bc2 jp3 o4 nb4
   refine jpGo (fun z:Nat×Array Keyed=>jp3 () z.1 z.2) (fun z=>Mh key a b z.2.toList na3 z.1∧2≤z.1∧z.1≤nb∧ky key b (z.1-1)≤ky key a (na3-1)) (fun z hz => ?_) fun H => ?_
   rotate_left
   ·refine ifS (fun kz => ?_) fun kz => ?_
    ·have kz':nb-1-k2>0:=kz
     have m3:=m2.exB (t:=k2) g21 n1 (fun j j1 j2=>gal_lt' (g23 j j1 j2))
     refine ifE (fun z4=>wpS_pure ⟨kk, .inl ⟨_,rfl,m3.first z4 h0⟩⟩) fun z4 => ?_
     refine ifE (fun z7=>wpS_pure ⟨kk, .inl ⟨_,rfl,m3.done (.inr z7)⟩⟩) fun z7 => ?_
     have y4:¬k2=1:=z4
     have y7:¬k2=0:=z7
     exact H (nb4,o4) ⟨m3,by show 2≤k2; (first|lia|omega),Nat.le_trans g21 (Nat.sub_le _ _),Int.le_of_lt (gal_le' (g22 (k2-1) (Nat.sub_one_lt y7)))⟩
    ·have kz':¬nb-1-k2>0:=kz
     exact H (nb-1,o3) ⟨m2,nb2,Nat.sub_le _ _,Int.le_of_lt (gal_le' (g22 (nb-1-1) (Nat.sub_one_lt_of_le nb0 (Nat.le_of_sub_eq_zero (Nat.eq_zero_of_not_pos kz')))))⟩
   obtain ⟨nb3,out3⟩:=z
   have m3:Mh key a b out3.toList na3 nb3:=hz.1
   have n4:2≤nb3:=hz.2.1
   have n5:nb3≤nb:=hz.2.2.1
   have n6:ky key b (nb3-1)≤ky key a (na3-1):=hz.2.2.2
   clear hz
   dsimp only [jp3]
   refine elemB la3 fun p4 e4 => ?_
   have m4:=m3.pushA n1 e4 (Nat.le_of_succ_le n4) n6
   dsimp only [bc2,ky2]
   refine ifE (fun z5=>wpS_pure ⟨kk, .inl ⟨_,rfl,m4.done (.inl z5)⟩⟩) fun z5 => ?_
   refine ifS (fun _=>wpS_pure ⟨kk, .inr ⟨rfl,m4,by dsimp only; (first|lia|omega),Nat.pos_of_ne_zero z5,n4⟩⟩) fun _ => ?_
   exact wpS_pure ⟨kk,_,_,_,_,_,_,rfl,m4,by first|lia|omega,Nat.pos_of_ne_zero z5,n4⟩
end
end L2
namespace L2
open PySem PySem.Spec PyProof.Rows
section
variable {prog:Program} {w:World} {A:Around} {E:Value→Shared→Prop} {s:Shared} {a₀:Array Keyed} {key:Keyed→Int} {kd:SortKind}
theorem wpS_set {M:Model} {σ:Type} {st st' : σ} {Q:PUnit → σ→Prop} (h:Q ⟨⟩ st'):wpS M A E s (set st':StateT σ Sem PUnit) Q st:=by
 unfold wpS
 rw [StateT.run_set];exact wpAny_pure ⟨rfl,h⟩
theorem wr_get {sa:Nat} : ∀(l:List Keyed) (n:Nat) (xs:Array Keyed),sa+n+l.length≤xs.size→∀k:Nat,
  ((l.zipIdx n).foldl (fun a (p:Keyed×Nat)=>a.setIfInBounds (sa+p.2) p.1) xs)[k]? = if sa+n≤k∧k<sa+n+l.length then l[k-(sa+n)]? else xs[k]?
 | [],n,xs,h,k=>by rw [List.zipIdx_nil,List.foldl_nil,if_neg (by simp only [List.length_nil]; (first|lia|omega))]
 | p :: l,n,xs,h,k=>by
  rw [List.length_cons] at h
  rw [List.zipIdx_cons,List.foldl_cons,wr_get l (n+1) _ (by rw [Array.size_setIfInBounds]; (first|lia|omega)),List.length_cons]
  by_cases e1:sa+(n+1)≤k∧k<sa+(n+1)+l.length
  ·rw [if_pos e1,if_pos (by first|lia|omega),show k-(sa+n)=(k-(sa+(n+1)))+1 by first|lia|omega,List.getElem?_cons_succ]
  ·rw [if_neg e1,Array.getElem?_setIfInBounds]
   by_cases e2:sa+n=k
   ·subst e2
    rw [if_pos rfl,if_pos (by first|lia|omega),if_pos (by first|lia|omega),Nat.sub_self];rfl
   ·rw [if_neg e2,if_neg (by first|lia|omega)]
noncomputable def wr (sa:Nat) (l:List Keyed) (xs:Array Keyed):Array Keyed:=l.zipIdx.foldl (fun a (p:Keyed×Nat)=>a.setIfInBounds (sa+p.2) p.1) xs
theorem wr_at {sa:Nat} {l:List Keyed} {xs:Array Keyed} (h:sa+l.length≤xs.size) (k:Nat):(wr sa l xs)[k]? = if sa≤k∧k<sa+l.length then l[k-sa]? else xs[k]?:=wr_get l 0 xs h k
theorem wr_list {sa:Nat} {l:List Keyed} {xs:Array Keyed} (h:sa+l.length≤xs.size):(wr sa l xs).toList=xs.toList.take sa++(l++xs.toList.drop (sa+l.length)):=by
 refine List.ext_getElem? fun k => ?_
 have hl:(xs.toList.take sa).length=sa:=by rw [List.length_take,Array.length_toList]; (first|lia|omega)
 rw [Array.getElem?_toList,wr_at h]
 by_cases e1:k<sa
 ·rw [if_neg (by first|lia|omega),List.getElem?_append_left (by first|lia|omega),List.getElem?_take_of_lt e1,Array.getElem?_toList]
 ·rw [List.getElem?_append_right (by first|lia|omega),hl]
  by_cases e2:k<sa+l.length
  ·rw [if_pos (by first|lia|omega),List.getElem?_append_left (by first|lia|omega)]
  ·rw [if_neg (by first|lia|omega),List.getElem?_append_right (by first|lia|omega),List.getElem?_drop, ←Array.getElem?_toList]
   congr 1; (first|lia|omega)
theorem wr_perm {sa:Nat} {l:List Keyed} {xs:Array Keyed} (h:sa+l.length≤xs.size) (hp:l.Perm ((xs.toList.drop sa).take l.length)):(wr sa l xs).Perm xs:=by
 refine Array.perm_iff_toList_perm.mpr ?_
 rw [wr_list h]
 have e:xs.toList=xs.toList.take sa++((xs.toList.drop sa).take l.length++xs.toList.drop (sa+l.length)):=by
  rw [←List.drop_drop,List.take_append_drop,List.take_append_drop]
 exact ((hp.append_right _).append_left _).trans (List.Perm.of_eq e.symm)
theorem ky_ext {xs:Array Keyed} {i j k:Nat} (hj:j≤xs.size) (hk:i+k<j):ky key (xs.extract i j) k=ky key xs (i+k):=by
 refine ky_congr ?_
 rw [Array.getElem?_extract,if_pos (by first|lia|omega)]
theorem sg_ext {xs:Array Keyed} {i j:Nat} (hj:j≤xs.size) (hij:i≤j) (h:Sg key xs i j):Sg key (xs.extract i j) 0 (xs.extract i j).size:=by
 rw [Array.size_extract,Nat.min_eq_left hj]
 intro p q _ h2 h3
 rw [ky_ext hj (by first|lia|omega),ky_ext hj (by first|lia|omega)]
 exact h _ _ (by first|lia|omega) (by first|lia|omega) (by first|lia|omega)
theorem mem_ext {xs:Array Keyed} {i j:Nat} {p:Keyed} (h:p∈(xs.extract i j).toList):p∈xs.toList:=by
 rw [extR] at h
 exact List.mem_of_mem_take (List.mem_of_mem_drop h)
structure Tb (a₀:Array Keyed) (kd:SortKind) (st:SortSt):Prop where
 perm:(arrOf st).Perm a₀
 kind:kindOf st=kd
 failed:failedOf st=none
theorem wr_sorted {xs:Array Keyed} {res:List Keyed} {sa u sb v e:Nat} (h1:sa≤u) (h2:u≤sb) (h3:sb≤v) (h4:v≤e) (h5:e≤xs.size) (h6:sa<sb) (len:u+res.length=v) (gp:res.Perm ((xs.toList.drop u).take res.length)) (gs:res.Pairwise fun a b=>key a≤key b)
  (s1:Sg key xs sa sb) (s2:Sg key xs sb e) (hA:∀p,sa≤p→p<u→ky key xs p≤ky key xs sb) (hB:∀q,v≤q→q<e→ky key xs (sb-1)≤ky key xs q):Sg key (wr u res xs) sa e:=by
 have at':=wr_at (sa:=u) (l:=res) (xs:=xs) (by first|lia|omega)
 have hout:∀p,(p<u∨v≤p)→ky key (wr u res xs) p=ky key xs p:=fun p hp'=>by
  refine ky_congr ?_
  rw [at' p,if_neg (by first|lia|omega)]
 have hin:∀p,u≤p→p<v→∃x,res[p-u]? = some x∧ky key (wr u res xs) p=key x:=fun p a1 a2=>by
  obtain ⟨x,hx⟩:∃x,res[p-u]? = some x:=⟨_,List.getElem?_eq_getElem (by first|lia|omega)⟩
  exact ⟨x,hx,ky_of ((at' p).trans ((if_pos (by first|lia|omega)).trans hx))⟩
 have hm:∀p,u≤p→p<v→∃j,u≤j∧j<v∧ky key (wr u res xs) p=ky key xs j:=fun p a1 a2=>by
  refine Elim.el (hin p a1 a2) _ ?_
  rintro x hx ex
  have hmem2:=gp.mem_iff.mp (List.mem_iff_getElem?.mpr ⟨_,hx⟩)
  obtain ⟨j,j1,j2,j3,e4⟩:=mem_seg (key:=key) hmem2
  exact ⟨j,j1,by first|lia|omega,by first|lia|omega⟩
 have sl:sb-1<sb:=by (first|lia|omega)
 intro p q g1 g2 g3
 by_cases a1:q<u
 ·have a0:=Nat.lt_of_le_of_lt g2 a1
  rw [hout p (.inl a0),hout q (.inl a1)];exact s1 p q g1 g2 (Nat.lt_of_lt_of_le a1 h2)
 have a1:=Nat.le_of_not_lt a1
 by_cases a2:q<v
 ·by_cases a3:p<u
  ·refine Elim.el (hm q a1 a2) _ ?_
   rintro j j1 j2 ej
   rw [hout p (.inl a3),ej]
   by_cases a4:j<sb
   ·exact s1 p j g1 (Nat.le_trans (Nat.le_of_lt a3) j1) a4
   ·exact Int.le_trans (hA p g1 a3) (s2 sb j (Nat.le_refl _) (Nat.le_of_not_lt a4) (Nat.lt_of_lt_of_le j2 h4))
  ·have a3:=Nat.le_of_not_lt a3
   refine Elim.el (hin p a3 (Nat.lt_of_le_of_lt g2 a2)) _ ?_
   rintro x hx ex
   refine Elim.el (hin q a1 a2) _ ?_
   rintro y hy ey
   rw [ex,ey]
   by_cases a5:p=q
   ·subst a5
    rw [hx] at hy;cases hy;exact Int.le_refl _
   ·obtain ⟨l1,e5⟩:=List.getElem?_eq_some_iff.mp hx
    obtain ⟨l2,e6⟩:=List.getElem?_eq_some_iff.mp hy
    have:=List.pairwise_iff_getElem.mp gs _ _ l1 l2 (Nat.sub_lt_sub_right a3 (Nat.lt_of_le_of_ne g2 a5))
    rw [e5,e6] at this;exact this
 ·have a2:=Nat.le_of_not_lt a2
  rw [hout q (.inr a2)]
  have hq:=hB q a2 g3
  by_cases a3:p<u
  ·rw [hout p (.inl a3)]
   exact Int.le_trans (s1 p (sb-1) g1 (by first|lia|omega) sl) hq
  ·by_cases a4:p<v
   ·refine Elim.el (hm p (Nat.le_of_not_lt a3) a4) _ ?_
    rintro j j1 j2 ej
    rw [ej]
    by_cases a5:j<sb
    ·exact Int.le_trans (s1 j (sb-1) (Nat.le_trans h1 j1) (by first|lia|omega) sl) hq
    ·exact s2 j q (Nat.le_of_not_lt a5) (Nat.le_trans (Nat.le_of_lt j2) a2) g3
   ·have a4:=Nat.le_of_not_lt a4
    rw [hout p (.inr a4)]
    exact s2 p q (Nat.le_trans h3 a4) g2 g3
theorem tm_mergeAt {st:SortSt} {i sa na sb nb p1 p2:Nat} {L R:List (Nat×Nat×Nat)} {Q:Bool→SortSt→Prop} (hL:Lts prog w A E s a₀ key kd) (hT:Tb a₀ kd st)
  (hp:(pendingOf st).toList=L++(sa,na,p1) :: (sb,nb,p2) :: R) (hi:L.length=i) (e1:sb=sa+na) (n1:1≤na) (n2:1≤nb) (hz:sb+nb≤a₀.size)
  (s1:Sg key (arrOf st) sa sb) (s2:Sg key (arrOf st) sb (sb+nb))
  (h:∀st',Tb a₀ kd st'→(pendingOf st').toList=L++(sa,na+nb,p1) :: R→(∀k,k<sa∨sb+nb≤k→(arrOf st')[k]? = (arrOf st)[k]?)→Sg key (arrOf st') sa (sb+nb)→Q true st') :
  wpS (model prog w) A E s (mergeAt' i) Q st:=by
 have hsz:=hT.perm.size_eq
 have g1:(pendingOf st)[i]? = some (sa,na,p1):=by
  rw [←Array.getElem?_toList,hp,List.getElem?_append_right (by first|lia|omega),hi,Nat.sub_self];rfl
 have g2:(pendingOf st)[i+1]? = some (sb,nb,p2):=by
  rw [←Array.getElem?_toList,hp,List.getElem?_append_right (by first|lia|omega),hi,show i+1-i=1 by first|lia|omega];rfl
 have hP:(((pendingOf st).setIfInBounds i (sa,na+nb,p1)).eraseIdxIfInBounds (i+1)).toList=L++(sa,na+nb,p1) :: R:=by
  have hlt:i+1<((pendingOf st).setIfInBounds i (sa,na+nb,p1)).size:=by
   rw [Array.size_setIfInBounds, ←Array.length_toList,hp,List.length_append,List.length_cons,List.length_cons]; (first|lia|omega)
  rw [Array.eraseIdxIfInBounds,dif_pos hlt,Array.toList_eraseIdx,Array.toList_setIfInBounds,hp]
  rw [List.set_append_right _ _ (by first|lia|omega),hi,Nat.sub_self,List.set_cons_zero,List.eraseIdx_append_of_length_le (by first|lia|omega),hi,show i+1-i=1 by first|lia|omega]
  rfl
 refine wpS_bind (m:=get) (wpS_get ?_)
 dsimp only
 rw [g1,g2]
 dsimp only
 refine wpS_bind (wpS_set ?_)
 have am:∀p∈(arrOf st).toList,p∈a₀.toList:=fun p h'=>(Array.perm_iff_toList_perm.mp hT.perm).mem_iff.mp h'
 refine wpS_bind (tm_elem (xs:=arrOf st) (by first|lia|omega) fun q1 f1 => ?_)
 refine wpS_bind (tm_gallop (arr:=arrOf st) hL (show kindOf (setPending st _)=kd from hT.kind) am (am _ (mem_of f1)) (by rw [←e1];exact s1) (by first|lia|omega) (by first|lia|omega) fun k gk => ?_)
 obtain ⟨k1,k2,k3⟩:=gk
 rw [←ky_of (key:=key) f1] at k2 k3
 obtain ⟨d,rfl⟩:∃d,na=k+d:=Nat.exists_eq_add_of_le k1
 have eD:sb=sa+k+d:=by (first|lia|omega)
 have hA:∀p,sa≤p→p<sa+k→ky key (arrOf st) p≤ky key (arrOf st) sb:=fun p h1 h2=>by
  have:=gal_le (k2 (p-sa) (by first|lia|omega));rwa [show sa+(p-sa)=p by first|lia|omega] at this
 dsimp only
 rw [Nat.add_sub_cancel_left]
 refine ifE (fun z1 => ?_) fun z1 => ?_
 ·refine wpS_pure (h _ ⟨hT.perm,hT.kind,hT.failed⟩ hP (fun _ _=>rfl) fun p q h1 h2 h3 => ?_)
  show ky key (arrOf st) p≤ky key (arrOf st) q
  by_cases c1:q<sb
  ·exact s1 p q h1 h2 c1
  ·by_cases c2:sb≤p
   ·exact s2 p q c2 h2 h3
   ·exact Int.le_trans (hA p h1 (by first|lia|omega)) (s2 sb q (Nat.le_refl _) (by first|lia|omega) h3)
 have d1:1≤d:=Nat.pos_of_ne_zero z1
 refine wpS_bind (tm_elem (xs:=arrOf st) (by first|lia|omega) fun q2 f2 => ?_)
 refine wpS_bind (tm_gallop (arr:=arrOf st) hL (show kindOf (setPending st _)=kd from hT.kind) am (am _ (mem_of f2)) s2 (by first|lia|omega) (by first|lia|omega) fun m gm => ?_)
 obtain ⟨m1,m2,m3⟩:=gm
 rw [←ky_of (key:=key) f2, ←eD] at m2 m3
 have hB:∀q,sb+m≤q→q<sb+nb→ky key (arrOf st) (sb-1)≤ky key (arrOf st) q:=fun q h1 h2=>by
  have:=gal_lt' (m3 (q-sb) (by first|lia|omega) (by first|lia|omega));rwa [show sb+(q-sb)=q by first|lia|omega] at this
 dsimp only
 have hC:=gal_lt (k3 k (Nat.le_refl _) (by first|lia|omega))
 by_cases z2:m=0
 ·have:=hB sb (by first|lia|omega) (by first|lia|omega)
  have:=s1 (sa+k) (sb-1) (by first|lia|omega) (by first|lia|omega) (by first|lia|omega)
  (first|lia|omega)
 refine ifN (by simpa using z2) ?_
 have x1:((arrOf st).extract (sa+k) sb).size=d:=by rw [Array.size_extract,Nat.min_eq_left (by first|lia|omega),eD,Nat.add_sub_cancel_left]
 have y1:((arrOf st).extract sb (sb+m)).size=m:=by rw [Array.size_extract,Nat.min_eq_left (by first|lia|omega),Nat.add_sub_cancel_left]
 have sx:=sg_ext (key:=key) (xs:=arrOf st) (i:=sa+k) (j:=sb) (by first|lia|omega) (by first|lia|omega) (fun p q h1 h2 h3=>s1 p q (by first|lia|omega) h2 h3)
 have sy:=sg_ext (key:=key) (xs:=arrOf st) (i:=sb) (j:=sb+m) (by first|lia|omega) (by first|lia|omega) (fun p q h1 h2 h3=>s2 p q h1 h2 (by first|lia|omega))
 have h0:ky key ((arrOf st).extract sb (sb+m)) 0≤ky key ((arrOf st).extract (sa+k) sb) 0:=by
  rw [ky_ext (by first|lia|omega) (by first|lia|omega),ky_ext (by first|lia|omega) (by first|lia|omega)]
  exact Int.le_of_lt hC
 have hl:∀j,j<((arrOf st).extract sb (sb+m)).size→ky key ((arrOf st).extract sb (sb+m)) j≤ky key ((arrOf st).extract (sa+k) sb) (((arrOf st).extract (sa+k) sb).size-1):=fun j hj=>by
  rw [y1] at hj
  rw [x1,ky_ext (by first|lia|omega) (by first|lia|omega),ky_ext (by first|lia|omega) (by first|lia|omega),show sa+k+(d-1)=sb-1 by rw [eD,Nat.add_sub_assoc d1]]
  have:=gal_le' (m2 j hj); (first|lia|omega)
 have wb:∀(res:Array Keyed) (st2:SortSt),Kp (setPending st (((pendingOf st).setIfInBounds i (sa,k+d+nb,p1)).eraseIdxIfInBounds (i+1))) st2→Good key ((arrOf st).extract (sa+k) sb) ((arrOf st).extract sb (sb+m)) res→Q true (setArr st2 (wr (sa+k) res.toList (arrOf st2))):=fun res st2 kp gd=>by
  have ea:arrOf st2=arrOf st:=kp.arr
  obtain ⟨gp,gs⟩:=gd
  have len:res.toList.length=d+m:=by rw [gp.length_eq,List.length_append,Array.length_toList,Array.length_toList,x1,y1]
  have hw:sa+k+res.toList.length≤(arrOf st).size:=by (first|lia|omega)
  have eM:((arrOf st).extract (sa+k) sb).toList++((arrOf st).extract sb (sb+m)).toList=((arrOf st).toList.drop (sa+k)).take res.toList.length:=by
   rw [extR,extR,List.drop_take,List.drop_take,len,Nat.add_sub_cancel_left,show sb-(sa+k)=d by rw [eD,Nat.add_sub_cancel_left],List.take_add,List.drop_drop, ←eD]
  refine h _ ⟨?_,kp.kind.trans hT.kind,kp.failed.trans hT.failed⟩ ?_ (fun p hp' => ?_) fun p q h1 h2 h3 => ?_
  ·show (wr (sa+k) res.toList (arrOf st2)).Perm a₀
   rw [ea]
   exact (wr_perm hw (gp.trans (List.Perm.of_eq eM))).trans hT.perm
  ·show (pendingOf st2).toList=_
   rw [kp.pend];exact hP
  ·show (wr (sa+k) res.toList (arrOf st2))[p]? = _
   rw [ea,wr_at hw p,if_neg (by first|lia|omega)]
  ·show ky key (wr (sa+k) res.toList (arrOf st2)) p≤ky key (wr (sa+k) res.toList (arrOf st2)) q
   rw [ea]
   exact wr_sorted (Nat.le_add_right _ _) (Nat.le_trans (Nat.le_add_right _ _) (Nat.le_of_eq eD.symm)) (Nat.le_add_right _ _) (Nat.add_le_add_left m1 _) (Nat.le_trans hz (Nat.le_of_eq hsz.symm)) (by first|lia|omega) (by first|lia|omega) (gp.trans (List.Perm.of_eq eM)) gs s1 s2 hA hB p q h1 h2 h3
 have ham:∀p∈((arrOf st).extract (sa+k) sb).toList,p∈a₀.toList:=fun p hp'=>am _ (mem_ext hp')
 have hbm:∀p∈((arrOf st).extract sb (sb+m)).toList,p∈a₀.toList:=fun p hp'=>am _ (mem_ext hp')
 have tl:∀(res:Array Keyed) (st2:SortSt),Kp (setPending st (((pendingOf st).setIfInBounds i (sa,k+d+nb,p1)).eraseIdxIfInBounds (i+1))) st2→Good key ((arrOf st).extract (sa+k) sb) ((arrOf st).extract sb (sb+m)) res →
   wpS (model prog w) A E s (do
    modify fun s=>setArr s (wr (sa+k) res.toList (arrOf s))
    return (failedOf (←get)).isNone) Q st2:=fun res st2 kp gd=>by
  refine wpS_bind (wpS_modify (wpS_bind (wpS_get (wpS_pure ?_))))
  have ef:failedOf (setArr st2 (wr (sa+k) res.toList (arrOf st2)))=none:=kp.failed.trans hT.failed
  rw [ef]
  exact wb res st2 kp gd
 refine ifS (fun _ => ?_) fun _ => ?_
 ·exact wpS_bind (tm_lo (a:=(arrOf st).extract (sa+k) sb) (b:=(arrOf st).extract sb (sb+m)) hL (show kindOf (setPending st _)=kd from hT.kind) ham hbm sx sy (by first|lia|omega) (by first|lia|omega) h0 hl fun res st2 kp gd=>tl res st2 kp gd)
 ·exact wpS_bind (tm_hi (a:=(arrOf st).extract (sa+k) sb) (b:=(arrOf st).extract sb (sb+m)) hL (show kindOf (setPending st _)=kd from hT.kind) ham hbm sx sy (by first|lia|omega) (by first|lia|omega) h0 hl fun res st2 kp gd=>tl res st2 kp gd)
end
end L2
namespace L2
open PySem PySem.Spec PyProof.Rows
section
variable {prog:Program} {w:World} {A:Around} {E:Value→Shared→Prop} {s:Shared} {a₀:Array Keyed} {key:Keyed→Int} {kd:SortKind}
noncomputable def Chn (key:Keyed→Int) (xs:Array Keyed):Nat→List (Nat×Nat×Nat)→Nat→Prop
 | lo,[],hi=>lo=hi
 | lo,(s,n,_) :: t,hi=>s=lo∧1≤n∧Sg key xs lo (lo+n)∧Chn key xs (lo+n) t hi
theorem Chn.le {xs:Array Keyed} : ∀{L:List (Nat×Nat×Nat)} {lo hi:Nat},Chn key xs lo L hi→lo+L.length≤hi
 | [],lo,hi,h=>by have h:lo=hi:=h;simp -iota only [List.length_nil]; (first|lia|omega)
 | (s,n,p) :: t,lo,hi,h=>by
  obtain ⟨_,h1,_,h2⟩:=h
  have:=h2.le
  rw [List.length_cons]; (first|lia|omega)
theorem Chn.app {xs:Array Keyed} : ∀{L R:List (Nat×Nat×Nat)} {lo mid hi:Nat},Chn key xs lo L mid→Chn key xs mid R hi→Chn key xs lo (L++R) hi
 | [],R,lo,mid,hi,h,h'=>by have h:lo=mid:=h;rw [h];exact h'
 | (s,n,p) :: t,R,lo,mid,hi,h,h'=>⟨h.1,h.2.1,h.2.2.1,h.2.2.2.app h'⟩
theorem Chn.cut {xs:Array Keyed} : ∀{L R:List (Nat×Nat×Nat)} {lo hi:Nat},Chn key xs lo (L++R) hi→∃mid,Chn key xs lo L mid∧Chn key xs mid R hi
 | [],R,lo,hi,h=>⟨lo,rfl,h⟩
 | (s,n,p) :: t,R,lo,hi,h=>by
  obtain ⟨mid,h1,h2⟩:=Chn.cut (L:=t) h.2.2.2
  exact ⟨mid,⟨h.1,h.2.1,h.2.2.1,h1⟩,h2⟩
theorem sg_same {xs ys:Array Keyed} {i j:Nat} (e:∀k,i≤k→k<j→ys[k]? = xs[k]?) (h:Sg key xs i j):Sg key ys i j:=fun p q h1 h2 h3=>by
 rw [ky_congr (e p h1 (by first|lia|omega)),ky_congr (e q (by first|lia|omega) h3)];exact h p q h1 h2 h3
theorem Chn.same {xs ys:Array Keyed} : ∀{L:List (Nat×Nat×Nat)} {lo hi:Nat},(∀k,lo≤k→k<hi→ys[k]? = xs[k]?)→Chn key xs lo L hi→Chn key ys lo L hi
 | [],lo,hi,e,h=>h
 | (s,n,p) :: t,lo,hi,e,h=>by
  obtain ⟨h0,h1,h2,h3⟩:=h
  have:=h3.le
  exact ⟨h0,h1,sg_same (fun k a b=>e k a (by first|lia|omega)) h2,Chn.same (fun k a b=>e k (by first|lia|omega) b) h3⟩
theorem tm_mergeC {st:SortSt} {i hi:Nat} {Q:Bool→SortSt→Prop} (hL:Lts prog w A E s a₀ key kd) (hT:Tb a₀ kd st) (hc:Chn key (arrOf st) 0 (pendingOf st).toList hi) (hz:hi≤a₀.size) (hi2:i+1<(pendingOf st).size)
  (h:∀st',Tb a₀ kd st'→Chn key (arrOf st') 0 (pendingOf st').toList hi→(pendingOf st').size+1=(pendingOf st).size→(∀k,hi≤k→(arrOf st')[k]? = (arrOf st)[k]?)→Q true st'):wpS (model prog w) A E s (mergeAt' i) Q st:=by
 have hl:i+1<(pendingOf st).toList.length:=by rw [Array.length_toList];exact hi2
 obtain ⟨⟨sa,na,p1⟩,e1⟩:∃y,(pendingOf st).toList[i]'(by first|lia|omega)=y:=⟨_,rfl⟩
 obtain ⟨⟨sb,nb,p2⟩,e2⟩:∃y,(pendingOf st).toList[i+1]'hl=y:=⟨_,rfl⟩
 have ep:(pendingOf st).toList=(pendingOf st).toList.take i++(sa,na,p1) :: (sb,nb,p2) :: (pendingOf st).toList.drop (i+2):=by
  have d1:=List.drop_eq_getElem_cons (i:=i) (l:=(pendingOf st).toList) (by first|lia|omega)
  have d2:=List.drop_eq_getElem_cons (i:=i+1) (l:=(pendingOf st).toList) hl
  rw [e1] at d1
  rw [e2] at d2
  rw [←d2, ←d1,List.take_append_drop]
 have hc':=hc
 rw [ep] at hc'
 refine Elim.el (hc'.cut) _ ?_
 rintro mid c1 c2
 obtain ⟨rfl,n1,s1,c3⟩:=c2
 obtain ⟨rfl,n2,s2,c4⟩:=c3
 have c4l:=c4.le
 refine tm_mergeAt hL hT ep (by rw [List.length_take]; (first|lia|omega)) rfl n1 n2 (by first|lia|omega) s1 s2 fun st' t' p' o' s' => ?_
 refine h st' t' ?_ ?_ (fun k hk=>o' k (.inr (by first|lia|omega)))
 ·rw [p']
  refine Chn.app (mid:=sa) (c1.same fun k _ hk=>o' k (.inl hk)) ⟨rfl,by first|lia|omega,?_,?_⟩
  ·rw [←Nat.add_assoc];exact s'
  ·rw [←Nat.add_assoc];exact c4.same fun k hk _=>o' k (.inr hk)
 ·have l1:=congrArg List.length p'
  have l2:=congrArg List.length ep
  rw [Array.length_toList] at l1 l2
  rw [l1,l2]
  simp -iota only [List.length_append,List.length_cons]
  (first|lia|omega)
theorem Chn.pow {xs:Array Keyed} {f:Nat×Nat×Nat→Nat×Nat×Nat} (hf:∀y,(f y).1=y.1∧(f y).2.1=y.2.1):∀{L:List (Nat×Nat×Nat)} {i lo hi:Nat},Chn key xs lo L hi→Chn key xs lo (L.modify i f) hi
 | [],i,lo,hi,h=>by rw [List.modify_nil];exact h
 | (s,n,p) :: t,0,lo,hi,h=>by
  rw [List.modify_zero_cons]
  obtain ⟨e1,e2⟩:=hf (s,n,p)
  generalize f (s,n,p)=y at e1 e2
  obtain ⟨y1,y2,y3⟩:=y
  dsimp only at e1 e2
  subst e1 e2
  exact h
 | (s,n,p) :: t,i+1,lo,hi,h=>by
  rw [List.modify_succ_cons]
  exact ⟨h.1,h.2.1,h.2.2.1,Chn.pow hf h.2.2.2⟩
theorem ite_lt2 {c:Prop} [Decidable c] {n:Nat} (h:1<n):(if c then n-2-1 else n-2)+1<n:=by
 by_cases z:c
 ·rw [if_pos z]; (first|lia|omega)
 ·rw [if_neg z]; (first|lia|omega)
theorem jpGoS {α γ:Type} {m:StateT SortSt Sem α} {Q : α→SortSt→Prop} {st:SortSt} (V : γ→StateT SortSt Sem α) (G : γ→SortSt→Prop) (hV:∀z st,G z st→wpS (model prog w) A E s (V z) Q st)
  (hm:(∀z st,G z st→wpS (model prog w) A E s (V z) Q st)→wpS (model prog w) A E s m Q st):wpS (model prog w) A E s m Q st:=hm hV
theorem tm_runs {st:SortSt} {Q:Unit→SortSt→Prop} (hL:Lts prog w A E s a₀ key kd) (hT:Tb a₀ kd st) (hp:pendingOf st = #[])
  (h:∀st',Tb a₀ kd st'→Sg key (arrOf st') 0 a₀.size→Q () st'):wpS (model prog w) A E s sortRuns' Q st:=by
 have hsz:=hT.perm.size_eq
 rw [sortRuns'_eq]
 refine wpS_bind (wpS_get ?_)
 dsimp -zeta only
 rw [hsz]
 refine wpS_bind (wpS_mono (wpS_forRange
  (I:=fun x c st'=>∃lo,c=(none,lo)∧Tb a₀ kd st'∧Chn key (arrOf st') 0 (pendingOf st').toList lo∧lo≤a₀.size∧(x≤lo∨lo=a₀.size))
  (Q:=fun c st'=>c=(none,a₀.size)∧Tb a₀ kd st'∧Chn key (arrOf st') 0 (pendingOf st').toList a₀.size) ?step ?fin ⟨0,rfl,hT,by rw [hp];rfl,Nat.zero_le _, .inl (Nat.le_refl _)⟩) ?post)
 case fin=>
  intro c st' hz_
  refine Elim.el hz_ _ ?_
  clear hz_
  rintro lo rfl t ch h1 h2
  have:lo=a₀.size:=by (first|lia|omega)
  subst this
  exact ⟨rfl,t,ch⟩
 case post=>
  intro c st1 hz_
  refine Elim.el hz_ _ ?_
  clear hz_
  rintro rfl t1 ch1
  dsimp only
  refine wpS_bind (wpS_mono (wpS_forRange
   (I:=fun x c st'=>c=(none,())∧Tb a₀ kd st'∧Chn key (arrOf st') 0 (pendingOf st').toList a₀.size∧((pendingOf st').size≤1∨(pendingOf st').size+x≤a₀.size))
   (Q:=fun c st'=>c=(none,())∧Tb a₀ kd st'∧Chn key (arrOf st') 0 (pendingOf st').toList a₀.size∧(pendingOf st').size≤1) ?step2 ?fin2 ⟨rfl,t1,ch1, .inr (by have:=ch1.le;rw [Array.length_toList] at this; (first|lia|omega))⟩) ?post2)
  case fin2=>
   intro c st' hz_
   refine Elim.el hz_ _ ?_
   clear hz_
   rintro rfl t ch hs
   exact ⟨rfl,t,ch,by first|lia|omega⟩
  case post2=>
   intro c st' hz_
   refine Elim.el hz_ _ ?_
   clear hz_
   rintro rfl t ch hs
   refine wpS_pure (h st' t ?_)
   cases e:(pendingOf st').toList with
   | nil=>
    rw [e] at ch
    have ch:0=a₀.size:=ch
    intro p q _ _ h3; (first|lia|omega)
   | cons y r=>
    have hl:(pendingOf st').toList.length≤1:=by rw [Array.length_toList];exact hs
    rw [e] at ch hl
    have hr:r=[]:=by
     cases r with
     | nil=>rfl
     | cons _ _=>simp -iota only [List.length_cons] at hl; (first|lia|omega)
    subst hr
    obtain ⟨y1,y2,y3⟩:=y
    obtain ⟨_,_,g1,g2⟩:=ch
    have g2:0+y2=a₀.size:=g2
    rw [g2] at g1;exact g1
  case step2=>
   intro x c st' _ hx hz_
   refine Elim.el hz_ _ ?_
   clear hz_
   rintro rfl t ch hs
   refine wpS_bind (wpS_get ?_)
   by_cases z:(pendingOf st').size≤1
   ·rw [if_pos z]
    exact wpS_pure ⟨rfl,t,ch,z⟩
   ·rw [if_neg z]
    refine wpS_bind (tm_mergeC hL t ch (Nat.le_refl _) (ite_lt2 (by first|lia|omega)) fun st2 t2 ch2 sz2 _ => ?_)
    exact wpS_pure ⟨rfl,t2,ch2,by first|lia|omega⟩
 case step=>
  intro x c st1 _ hx hz_
  refine Elim.el hz_ _ ?_
  clear hz_
  rintro lo rfl t1 ch1 h1 h2
  dsimp -zeta only
  extract_lets l0 jp fc n2
  refine ifS (fun z => ?_) fun z => ?_
  ·have:lo=a₀.size:=Nat.le_antisymm h1 z
   subst this
   exact wpS_pure ⟨rfl,t1,ch1⟩
  have z:¬lo≥a₀.size:=z
  have tl:∀(n:Nat) (st2:SortSt),Tb a₀ kd st2→1≤n→lo+n≤a₀.size→Sg key (arrOf st2) lo (lo+n)→∀p:Array (Nat×Nat×Nat),Chn key (arrOf st2) 0 p.toList lo →
    Tb a₀ kd (setPending st2 (p.push (lo,n,0)))∧Chn key (arrOf st2) 0 (p.push (lo,n,0)).toList (lo+n):=fun n st2 t2 n1 n2 s2 p hp'=>by
   refine ⟨⟨t2.perm,t2.kind,t2.failed⟩,?_⟩
   rw [Array.toList_push]
   exact hp'.app ⟨rfl,n1,s2,rfl⟩
  have af:Af a₀ kd lo st1 st1:=⟨t1.perm,t1.kind,t1.failed,rfl,fun _ _=>rfl⟩
  have back:∀{st2:SortSt},Af a₀ kd lo st1 st2→Tb a₀ kd st2∧Chn key (arrOf st2) 0 (pendingOf st2).toList lo:=fun {st2} f=>⟨⟨f.perm,f.kind,f.failed⟩,by rw [f.pend];exact ch1.same fun k _ hk=>f.low k hk⟩
  refine jpGoS (fun n:Nat=>jp () n) (fun n st2=>Af a₀ kd lo st1 st2∧1≤n∧lo+n≤a₀.size∧Sg key (arrOf st2) lo (lo+n)) (fun m st2 hz => ?_) fun H => ?_
  rotate_left
  ·refine wpS_bind (tm_count hL (by first|lia|omega) (by first|lia|omega) af fun m st2 f2 m1 m2 s2 => ?_)
   dsimp only [l0,fc,n2]
   refine ifS (fun zm => ?_) fun zm => ?_
   ·refine wpS_bind (wpS_lift (wpAny_rule ⟨rfl,?_⟩))
    refine wpS_bind (tm_bin hL (by first|lia|omega) (by first|lia|omega) f2 s2 fun st3 f3 s3 => ?_)
    simp -iota only [Bool.not_true,Bool.false_eq_true,if_false]
    exact H _ st3 ⟨f3,by first|lia|omega,by first|lia|omega,s3⟩
   ·exact H _ st2 ⟨f2,m1,by first|lia|omega,s2⟩
  obtain ⟨f2,m1,m2,s2⟩:=hz
  have b2:=back f2
  refine wpS_bind (wpS_get ?_)
  dsimp only [l0]
  cases hb:(pendingOf st2).back? with
  | none=>
   dsimp only
   obtain ⟨u1,u2⟩:=tl m st2 b2.1 m1 m2 s2 (pendingOf st2) b2.2
   exact wpS_bind (wpS_modify (wpS_pure ⟨_,rfl,u1,u2,m2, .inl (by first|lia|omega)⟩))
  | some y=>
   obtain ⟨y1,y2,y3⟩:=y
   dsimp only
   refine wpS_bind (wpS_mono (wpS_forRange
    (I:=fun _ c st'=>c=(none,())∧Tb a₀ kd st'∧Chn key (arrOf st') 0 (pendingOf st').toList lo∧Sg key (arrOf st') lo (lo+m))
    (Q:=fun c st'=>c=(none,())∧Tb a₀ kd st'∧Chn key (arrOf st') 0 (pendingOf st').toList lo∧Sg key (arrOf st') lo (lo+m)) ?step4 (fun _ _ hh=>hh) ⟨rfl,b2.1,b2.2,s2⟩) ?post4)
   case post4=>
    intro c st5 hz_
    refine Elim.el hz_ _ ?_
    clear hz_
    rintro rfl t5 c5 s5
    dsimp only
    have c6:Chn key (arrOf st5) 0 ((pendingOf st5).modify ((pendingOf st5).size-1) fun z=>(z.1,z.2.1,power' a₀.size (2*y1+y2) (2*y1+y2+y2+m) a₀.size)).toList lo:=by
     rw [Array.toList_modify]
     refine Chn.pow (fun _ => ?_) c5
     exact ⟨rfl,rfl⟩
    obtain ⟨u1,u2⟩:=tl m st5 t5 m1 m2 s5 _ c6
    exact wpS_bind (wpS_modify (wpS_bind (wpS_modify (wpS_pure ⟨_,rfl,u1,u2,m2, .inl (by first|lia|omega)⟩))))
   case step4=>
    intro x5 c st5 _ _ hz_
    refine Elim.el hz_ _ ?_
    clear hz_
    rintro rfl t5 c5 s5
    refine wpS_bind (wpS_get ?_)
    by_cases z5:(pendingOf st5).size>1
    ·have hb5:(pendingOf st5).size-2<(pendingOf st5).size:=by (first|lia|omega)
     rw [if_pos z5,getElem?_pos (pendingOf st5) ((pendingOf st5).size-2) hb5]
     obtain ⟨⟨v1,v2,v3⟩,ev⟩:∃v,(pendingOf st5)[(pendingOf st5).size-2]'hb5=v:=⟨_,rfl⟩
     rw [ev]
     dsimp only
     refine ifS (fun _=>wpS_pure ⟨rfl,t5,c5,s5⟩) fun _ => ?_
     refine wpS_bind (tm_mergeC hL t5 c5 h1 (by first|lia|omega) fun st6 t6 c6 _ o6 => ?_)
     exact wpS_pure ⟨rfl,t6,c6,sg_same (fun k hk _=>o6 k hk) s5⟩
    ·rw [if_neg z5]
     exact wpS_pure ⟨rfl,t5,c5,s5⟩
end
end L2
namespace L2
open PySem PySem.Spec PyProof.Rows
section
variable {prog:Program} {w:World} {A:Around} {E:Value→Shared→Prop} {s:Shared}
end
section
variable {X:Cx} (K:PySem.W.Frag)
end
end L2
namespace L2
open PySem PySem.Spec PyProof.Rows PySem.W
section
variable {M:Model} {A:Around} {E:Value→Shared→Prop} {s:Shared} {base:Heap} {env:Env} {outer:List Env} {L e:Addr} {cls a0:Value} {dx:Option Addr} {Q:Unit→Shared→Prop}
end
end L2
namespace L2
open PySem PySem.Spec PyProof.Rows PySem.W
section
variable {P:Program} {w:World} {K:PySem.W.Frag} {mg:Str→Option Value} {base:Heap} {N:List Str} {qual:Str} {scope:Scope} {f:Addr} {cd:Value} {A:Around} {outer:List Env} {s0:Shared} {H0:Hp} {E:XK}
end
end L2
namespace L2
open PySem PySem.Spec PyProof.Rows PySem.W
section
variable {X:Cx} {pins pins':List (Addr×Obj)} {σ σ0:St} {E':XK} {H:Hp} {s:Shared}
end
section
variable {X:Cx} {L:Addr}
end
section
variable {X:Cx} {L:Addr} {pins:List (Addr×Obj)} {σ:St} {H:Hp} {s:Shared}
end
section
variable {X:Cx} {L:Addr} {pins:List (Addr×Obj)} {σ:St} {H:Hp} {s:Shared}
end
section
variable {P:Program} {w:World} {K:PySem.W.Frag} {mg:Str→Option Value} {base:Heap}
end
end L2
namespace L2
open PySem PySem.Spec PyProof.Rows PySem.W
section
variable {prog:Program} {w:World} {A:Around} {E:Value→Shared→Prop} {s:Shared}
end
section
variable {X:Cx} (K:PySem.W.Frag)
end
end L2
namespace L2
open PySem PySem.Spec PyProof.Rows
section
variable {X:Cx} {pos:Pos}
noncomputable def tDNewN:TE:=fun _ H Q=>∀p H',New H p (.dK []) H'→Q (.ref p) H'
theorem dnewN:PE X (.Dict [] [] pos) tDNewN:=by
 have e:tDNewN=tDNewK:=by
  funext σ H Q
  exact (new_all (F:=fun p H'=>Q (.ref p) H')).symm
 rw [e];exact pe_dnewK
end
end L2
namespace L2
open PySem PySem.Spec PyProof.Rows PySem.W
end L2
namespace L2
open PySem PySem.Spec PyProof.Rows PySem.W
end L2
namespace L2
open PySem PySem.Spec PyProof.Rows PySem.W PySem.Calls Builtin Builtin.ObjectAttr Builtin.Getset_descriptor
section
variable {K:Frag} {e C:Addr}
variable {prog:Program} {w:World} {A:Around} {E:Value→Shared→Prop} {s:Shared}
end
section
variable {X:Cx}
end
end L2
namespace L2
open PySem PySem.Spec PyProof.Rows
section
variable {X:Cx}
theorem op_mulS:OpR X (binaryOp .Mult) (fun x y H Q=>∃(z:Str) (n:Int),x = .str z∧y = .int n∧MulOk z n∧Q (.str (Txt.mul z n)) H):=by
 intro pins s σ H x y v u Q I rx ry h
 obtain ⟨z,n,rfl,rfl,ok,q⟩:=h
 obtain ⟨t,rfl⟩:=rx
 obtain ⟨t',rfl⟩:=ry
 exact SB.mul ok fun t' k=>⟨.str _,H,I.tok _,⟨_,rfl⟩,q⟩
noncomputable def rMulS:R2:=fun x y H Q=>rMulN x y H Q∨∃(z:Str) (n:Int),x = .str z∧y = .int n∧MulOk z n∧Q (.str (Txt.mul z n)) H
theorem mulS:OpR X (binaryOp .Mult) rMulS:=mulN.or op_mulS
theorem mulOk_small {z:Str} {n:Int} (h1:z.length≤1000) (h2:n≤1000) (h3 : -1000≤n):MulOk z n:=by
 refine ⟨?_,fun a _ => ?_,fun a _ => ?_⟩
 ·rw [decide_eq_false (by first|lia|omega),decide_eq_false (by first|lia|omega)];rfl
 ·have:(1000:Int)≤(2 ^ 63-1) / n:=by
   rw [Int.le_ediv_iff_mul_le (by first|lia|omega)]
   (first|lia|omega)
  (first|lia|omega)
 ·have:z.length*n.toNat≤1000*1000:=Nat.mul_le_mul h1 (by first|lia|omega)
  show decide (_>sizeLine)=false
  simp
  exact Nat.le_trans this (by decide)
end
end L2
namespace L2
open PySem PySem.Spec PyProof.Rows
noncomputable def oneMore {K:Type} [DecidableEq K] (D:List K) (k:K):List K:=if k∈D then D else D++[k]
noncomputable def metKeys {K:Type} [DecidableEq K] (ks:Nat→K):Nat→List K
 | 0=>[]
 | i+1=>oneMore (metKeys ks i) (ks i)
theorem metKeys_le {K:Type} [DecidableEq K] (ks:Nat→K):∀i,(metKeys ks i).length≤i
 | 0=>Nat.le_refl _
 | i+1=>by
  have:=metKeys_le ks i
  unfold metKeys oneMore
  split
  ·(first|lia|omega)
  ·rw [List.length_append];exact Nat.succ_le_succ this
section
variable {prog:Program} {w:World} {K:Type} [DecidableEq K] {knd:PySem.KeyKind prog w K}
noncomputable def HasKeys (knd:PySem.KeyKind prog w K) (h:Heap) (a:Addr) (D:List K):Prop:=h.SetOf knd a (fun k=>decide (k∈D)) D.length
theorem HasKeys.at' {h h':Heap} {a:Addr} {D:List K} (x:HasKeys knd h a D) (k:∀o,h.get? a=some o→h'.get? a=some o):HasKeys knd h' a D:=by
 obtain ⟨o,es,ep,t,e,r⟩:=x
 exact ⟨o,es,ep,t,k _ e,r⟩
variable {A:Around} {R:Result→Shared→Prop} {I:Addr} {fp wr:List Addr} {G:Array GenState→Array GenState→Prop} {n:Nat} {P:Nat→Value→Prop} {St:Nat→Shared→Prop}
end
noncomputable abbrev setObj0 (led:Bool):Obj:={ cls := .type "set",dict:=none,data := .set #[] 0 (.fresh 0 0 led) }
section
variable {prog:Program} {w:World} {K:Type} [DecidableEq K] {knd:PySem.KeyKind prog w K} {A:Around} {E:Value→Shared→Prop} {s:Shared}
end
noncomputable def onceS (zs:List Str):List Str:=metKeys (fun i=>zs.getD i Str.empty) zs.length
section
variable {X:Cx}
end
end L2
namespace L2
open PySem PySem.Spec PyProof.Rows
noncomputable def Up (xs:List Nat):Prop:=xs.Pairwise (· < ·)
theorem Up.lt {xs:Array Nat} (h:Up xs.toList) {i j:Nat} (hj:j<xs.size) (hij:i<j):xs[i]<xs[j]:=by
 have:=List.pairwise_iff_getElem.mp h i j (by simpa using Nat.lt_trans hij hj) (by simpa using hj) hij
 simpa using this
structure Cut (xs:Array Nat) (j p:Nat):Prop where
 le:p≤xs.size
 lo:∀i (h:i<xs.size),i<p→xs[i]<j
 hi:∀i (h:i<xs.size),p≤i→j≤xs[i]
theorem below_go {xs:Array Nat} (u:Up xs.toList) (j:Nat):∀(fuel lo hi:Nat),hi-lo≤fuel→lo≤hi→hi≤xs.size→(∀i (h:i<xs.size),i<lo→xs[i]<j)→(∀i (h:i<xs.size),hi≤i→j≤xs[i])→Cut xs j (SetTable.below.go xs j fuel lo hi)
 | 0,lo,hi,hf,hl,hs,h1,h2=>by
  have e:lo=hi:=by (first|lia|omega)
  unfold SetTable.below.go
  subst e
  exact ⟨hs,h1,h2⟩
 | fuel+1,lo,hi,hf,hl,hs,h1,h2=>by
  unfold SetTable.below.go
  by_cases hlt:lo<hi
  ·rw [if_pos hlt]
   have hm:(lo+hi) / 2<xs.size:=by (first|lia|omega)
   have e:xs.getD ((lo+hi) / 2) j=xs[(lo+hi) / 2]:=by simp [Array.getD,hm]
   dsimp only
   rw [e]
   by_cases hc:xs[(lo+hi) / 2]<j
   ·rw [if_pos hc]
    refine below_go u j fuel _ _ (by first|lia|omega) (by first|lia|omega) hs (fun i h hi' => ?_) h2
    by_cases q:i=(lo+hi) / 2
    ·subst q;exact hc
    ·exact Nat.lt_trans (u.lt hm (by first|lia|omega)) hc
   ·rw [if_neg hc]
    refine below_go u j fuel _ _ (by first|lia|omega) (by first|lia|omega) (by first|lia|omega) h1 (fun i h hi' => ?_)
    by_cases q:i=(lo+hi) / 2
    ·subst q; (first|lia|omega)
    ·have:=u.lt h (show (lo+hi) / 2<i by first|lia|omega)
     (first|lia|omega)
  ·rw [if_neg hlt]
   have e:lo=hi:=by (first|lia|omega)
   subst e
   exact ⟨hs,h1,h2⟩
theorem below_cut {xs:Array Nat} (u:Up xs.toList) (j:Nat):Cut xs j (SetTable.below xs j):=
 below_go u j _ _ _ (by first|lia|omega) (Nat.zero_le _) (Nat.le_refl _) (fun i h z=>absurd z (Nat.not_lt_zero _)) fun i h z=>absurd h (by first|lia|omega)
theorem Cut.next {xs:Array Nat} {p i:Nat} (u:Up xs.toList) (h:i<xs.size) (c:Cut xs (xs[i]+1) p):p=i+1:=by
 have h1:¬p<i+1:=fun z=>by have:=c.hi i h (by first|lia|omega); (first|lia|omega)
 have h2:¬i+1<p:=fun z=>by
  have hs:i+1<xs.size:=by have:=c.le; (first|lia|omega)
  have a:=c.lo (i+1) hs z
  have b:=u.lt hs (Nat.lt_succ_self i)
  (first|lia|omega)
 (first|lia|omega)
noncomputable def GoodT (t:SetTable):Prop:=t.dummies = #[]∧Up t.place.toList
theorem good_fresh {a b:Nat} {led:Bool} : GoodT (SetTable.fresh a b led):=⟨rfl,List.Pairwise.nil⟩
theorem good_stand (t:SetTable) (n:Nat):GoodT (t.standIn n):=⟨rfl,by
 show List.Pairwise _ (Array.range n).toList
 rw [Array.toList_range]
 exact List.pairwise_lt_range⟩
theorem has_none (j:Nat):SetTable.has #[] j=false:=by
 unfold SetTable.has
 simp
theorem slot_kind {t:SetTable} (g:GoodT t) (j:Nat):t.slot j = .empty∨∃i,t.slot j = .live i:=by
 unfold SetTable.slot
 dsimp only
 split
 ·exact .inr ⟨_,rfl⟩
 ·rw [g.1,has_none]
  exact .inl rfl
theorem slot_free {t:SetTable} (g:GoodT t) {j:Nat} (h:t.slot j = .empty):j ∉ t.place.toList:=fun hm=>by
 obtain ⟨i,hi,e⟩:=List.mem_iff_getElem.mp hm
 have hi':i<t.place.size:=by simpa using hi
 have e':t.place[i]=j:=by simpa using e
 have c:=below_cut g.2 j
 have hp:SetTable.below t.place j=i:=by
  have h1:¬i<SetTable.below t.place j:=fun z=>by have:=c.lo i hi' z; (first|lia|omega)
  have h2:¬SetTable.below t.place j<i:=fun z=>by
   have hs:SetTable.below t.place j<t.place.size:=by (first|lia|omega)
   have a:=c.hi _ hs (Nat.le_refl _)
   have b:=g.2.lt hi' z
   (first|lia|omega)
  (first|lia|omega)
 unfold SetTable.slot at h
 dsimp only at h
 rw [hp,Array.getElem?_eq_getElem hi',e'] at h
 simp at h
theorem probe_free {t:SetTable} (g:GoodT t) {h:Int} {j:Nat} {d:Option Nat} : ∀(fuel:Nat) (p:SetTable.Probe),p.dummy=none→SetTable.probe.go t (fun _=>h+1) h fuel p=some (.empty j d)→t.slot j = .empty∧d=none
 | 0,p,hp,e=>by unfold SetTable.probe.go at e;cases e
 | fuel+1,p,hp,e=>by
  unfold SetTable.probe.go at e
  rcases slot_kind g p.j with q|⟨i,q⟩
  ·rw [q] at e
   dsimp only at e
   cases e
   exact ⟨q,hp⟩
  ·rw [q] at e
   dsimp only at e
   rw [if_neg (by rw [beq_iff_eq]; (first|lia|omega))] at e
   refine probe_free g fuel _ ?_ e
   unfold SetTable.advance
   split
   ·exact hp
   ·exact hp
theorem good_put {t:SetTable} (g:GoodT t) {j:Nat} (h:t.slot j = .empty):GoodT (t.put j).1:=by
 have hn:=slot_free g h
 have c:=below_cut g.2 j
 unfold SetTable.put
 refine ⟨?_,?_⟩
 ·show (if SetTable.has t.dummies j=true then _ else t.dummies) = #[]
  rw [g.1,has_none,if_neg Bool.false_ne_true]
 ·show Up (SetTable.insertAt t.place _ j).toList
  rw [SetTable.toList_insertAt]
  have u:Up t.place.toList:=g.2
  refine List.pairwise_append.mpr ⟨List.Pairwise.sublist (List.take_sublist _ _) u,List.pairwise_cons.mpr ⟨fun x hx => ?_,List.Pairwise.sublist (List.drop_sublist _ _) u⟩,fun x hx y hy => ?_⟩
  ·obtain ⟨i,hi,e⟩:=List.mem_iff_getElem.mp hx
   rw [List.getElem_drop] at e
   have hi':SetTable.below t.place j+i<t.place.size:=by rw [List.length_drop] at hi;simp at hi; (first|lia|omega)
   have:=c.hi _ hi' (Nat.le_add_right _ _)
   have e':t.place[SetTable.below t.place j+i]=x:=by simpa using e
   have hne:j≠x:=fun z=>hn (by rw [z];exact List.mem_of_mem_drop hx)
   (first|lia|omega)
  ·have hxj:x<j:=by
    obtain ⟨i,hi,e⟩:=List.mem_iff_getElem.mp hx
    rw [List.getElem_take] at e
    rw [List.length_take] at hi
    have hi':i<t.place.size:=by simp at hi; (first|lia|omega)
    have:=c.lo i hi' (by first|lia|omega)
    have e':t.place[i]=x:=by simpa using e
    (first|lia|omega)
   rcases List.mem_cons.mp hy with rfl|hy
   ·exact hxj
   ·obtain ⟨i,hi,e⟩:=List.mem_iff_getElem.mp hy
    rw [List.getElem_drop] at e
    have hi':SetTable.below t.place j+i<t.place.size:=by rw [List.length_drop] at hi;simp at hi; (first|lia|omega)
    have:=c.hi _ hi' (Nat.le_add_right _ _)
    have e':t.place[SetTable.below t.place j+i]=y:=by simpa using e
    (first|lia|omega)
theorem good_or {t:SetTable} (g:GoodT t) (n:Nat):GoodT (t.orStandIn n):=by
 unfold SetTable.orStandIn
 split
 ·exact g
 ·exact good_stand t n
theorem good_lay {t:SetTable} (g:GoodT t) (es:Array (Int×Value)) (h:Int) (x:Value):GoodT (layNew t es h x).2.1∧(layNew t es h x).2.1.led=t.led:=by
 unfold layNew
 split
 ·rename_i slot wasDummy hs
  dsimp only
  have hfree:t.slot slot = .empty:=by
   unfold SetTable.freeSlot at hs
   split at hs
   ·rename_i j d hp
    unfold SetTable.probe at hp
    obtain ⟨h1,h2⟩:=probe_free g _ _ rfl hp
    subst h2
    cases hs
    exact h1
   ·cases hs
  refine ⟨good_or (good_put g hfree) _,?_⟩
  unfold SetTable.orStandIn
  split <;> rfl
 ·exact ⟨good_stand t _,rfl⟩
theorem some_sub {β:Type} (f:Nat→Option β):∀l:List Nat,List.Sublist ((l.filterMap fun j=>(f j).map (j, ·)).map (·.1)) l
 | []=>List.Sublist.refl _
 | j :: l=>by
  rw [List.filterMap_cons]
  cases f j with
  | none=>exact List.Sublist.cons _ (some_sub f l)
  | some b=>exact List.Sublist.cons_cons _ (some_sub f l)
theorem good_laid {mask finger moves:Nat} {led plain:Bool} {hs:Array Int} {t:SetTable} {order:Array Nat} (e:SetTable.laid mask finger moves led plain hs=some (t,order)):GoodT t∧t.led=led:=by
 unfold SetTable.laid at e
 cases q:SetTable.layClean mask hs with
 | none=>rw [q] at e;cases e
 | some owner=>
  rw [q] at e
  cases e
  refine ⟨⟨rfl,?_⟩,rfl⟩
  exact List.Pairwise.sublist (some_sub _ _) List.pairwise_lt_range
theorem good_relay {t:SetTable} (es:Array (Int×Value)) (n:Nat):GoodT (relayAll t es n).2.1∧(relayAll t es n).2.1.led=t.led:=by
 unfold relayAll
 split
 ·rename_i t' order hr
  dsimp only
  split
  ·unfold SetTable.relaid at hr
   exact good_laid hr
  ·exact ⟨good_stand t _,rfl⟩
 ·exact ⟨good_stand t _,rfl⟩
section
variable {prog:Program} {w:World} {K:Type} [DecidableEq K] {knd:PySem.KeyKind prog w K} {A:Around} {E:Value→Shared→Prop} {s:Shared} {a:Addr}
noncomputable def GoodSet (w:World) (h:Heap) (a:Addr):Prop:=∃o es ep t,h.get? a=some o∧o.data = .set es ep t∧GoodT t∧(w.params.followText "set-order" = false→t.led=true)
theorem GoodSet.at' {h h':Heap} (x:GoodSet w h a) (k:∀o,h.get? a=some o→h'.get? a=some o):GoodSet w h' a:=by
 obtain ⟨o,es,ep,t,e,r⟩:=x
 exact ⟨o,es,ep,t,k _ e,r⟩
noncomputable def SetKeys (knd:PySem.KeyKind prog w K) (h:Heap) (a:Addr) (D:List K):Prop:=HasKeys knd h a D∧GoodSet w h a
theorem put_good {o:Obj} {es:Array (Int×Value)} {ep:Nat} {t:SetTable} (ho:s.heap.get? a=some o) (hd:o.data = .set es ep t) {es':Array (Int×Value)} {t':SetTable} (g:GoodT t') (l:w.params.followText "set-order" = false→t'.led=true) :
  (s.heap.update a (Obj.putSet es' t')).get? a=some { o with data := .set es' (ep+1) t' } ∧ GoodSet w (s.heap.update a (Obj.putSet es' t')) a:=by
 have e:=Heap.get?_update_self (Obj.putSet es' t') ho (by rw [putSet_of es' t' hd];rfl)
 rw [putSet_of es' t' hd] at e
 exact ⟨e,_,_,_,_,e,rfl,g,l⟩
theorem add_hashed {D:List K} {k:K} {x:Value} {Q:Bool→Shared→Prop} (hk:knd.is k x=true) (hx:x.scannable=true) (S:SetKeys knd s.heap a D) (room:D.length+1<scanBound)
  (fin:∀b h',Heap.SameBut a s.heap h'→SetKeys knd h' a (oneMore D k)→Q b { s with heap:=h' }):wpAny (model prog w) A (setAddHashed a x (knd.hash k)) Q E s:=by
 obtain ⟨HK,o',es',ep',t',ho',hd',gt',ld'⟩:=S
 obtain ⟨o,es,ep,t,ho,ex,hd,el,mem,bnd,fit,len⟩:=id HK
 obtain ⟨gt,ld⟩:GoodT t∧(w.params.followText "set-order" = false→t.led=true):=by
  rw [ho] at ho';cases ho'
  rw [hd] at hd';cases hd'
  exact ⟨gt',ld'⟩
 have by1:=byScan_of hx bnd el
 unfold setAddHashed setAddHashedIn setAddByScan
 refine wpAny_holding (wpAny_bind (wpAny_setState_of ho hd fit ?_))
 dsimp only
 rw [by1,if_pos rfl]
 refine wpAny_bind (wpAny_bind (wpAny_rule (wpAny_bind (wpAny_setScan_of hk ho hd fit el ?_))))
 have gave:∀(b:Bool) {s1:Shared} {Q':Unit→Shared→Prop},Q' () s1→wpAny (model prog w) A (match b with|true=>rule "set.scan.the-table-gave-way" | false=>pure ()) Q' E s1:=fun b s1 Q' q=>by
  cases b
  ·exact wpAny_pure q
  ·exact wpAny_rule q
 cases hr:es.toList.findIdx? (fun e=>knd.is k e.2) with
 | some j=>
  obtain ⟨hj,hp,_⟩:=List.findIdx?_eq_some_iff_getElem.mp hr
  have hin:k∈D:=of_decide_eq_true ((mem k).mpr ⟨_,List.getElem_mem hj,hp⟩)
  refine wpAny_pure (wpAny_pure ?_)
  have q:=fin false s.heap (Heap.SameBut.refl a s.heap) (by
   unfold oneMore
   rw [if_pos hin]
   exact ⟨HK,_,_,_,_,ho,hd,gt,ld⟩)
  exact q
 | none=>
  have hout:k ∉ D:=fun z=>by
   obtain ⟨e,he,hp⟩:=(mem k).mp (decide_eq_true z)
   have:=List.findIdx?_eq_none_iff.mp hr e he
   rw [hp] at this;cases this
  have more:∀k',decide (k'∈oneMore D k)=(decide (k'∈D)||decide (k'=k)):=fun k'=>by
   unfold oneMore
   rw [if_neg hout]
   simp [Bool.decide_or]
  obtain ⟨g1,l1⟩:=good_lay gt es (knd.hash k) x
  have pm:=layNew_perm t es (knd.hash k) x
  have ft:=layNew_fits t es (knd.hash k) x
  dsimp only
  generalize layNew t es (knd.hash k) x=L at g1 l1 pm ft ⊢
  obtain ⟨es1,t1,dummy,gv⟩:=L
  dsimp only at g1 l1 pm ft ⊢
  rw [Array.toList_push] at pm
  have el1:ElemsOf knd es1.toList:=(el.push hk hx).perm pm
  have mem1:∀k',decide (k'∈oneMore D k)=true ↔ ∃e∈es1.toList,knd.is k' e.2=true:=fun k'=>by
   rw [more];exact mem_push_iff hk mem pm k'
  have sz1:es1.size=(oneMore D k).length:=by
   unfold oneMore
   rw [if_neg hout, ←Array.length_toList,pm.length_eq,List.length_append,List.length_append,Array.length_toList,len];rfl
  have lenD:(oneMore D k).length=D.length+1:=by
   unfold oneMore
   rw [if_neg hout,List.length_append];rfl
  have bnd1:es1.size<scanBound:=by (first|lia|omega)
  have ld1:w.params.followText "set-order" = false→t1.led=true:=fun z=>l1.trans (ld z)
  have tail:∀t2:SetTable,GoodT t2→(w.params.followText "set-order" = false→t2.led=true)→t2.fits es1.size=true→∀c:Bool,
    wpAny (model prog w) A (do
     storeSet a es1 t2
     if c=true then do
       (match (relayAll t2 es1 (SetTable.grown es1.size)).2.2 with|true=>rule "set.scan.the-table-gave-way" | false=>pure ())
       storeSet a (relayAll t2 es1 (SetTable.grown es1.size)).1 (relayAll t2 es1 (SetTable.grown es1.size)).2.1
       pure (some true)
      else pure (some true)) (fun r s'=>r=some true∧∃h',s'={ s with heap:=h' } ∧ Heap.SameBut a s.heap h'∧SetKeys knd h' a (oneMore D k)) E s:=by
   intro t2 g2 ld2 ft2 c
   refine wpAny_bind (wpAny_storeSet_of ho hd ?_ (fits_of_scanBound bnd1))
   obtain ⟨e1,gs1⟩:=put_good (es':=es1) ho hd g2 ld2
   have sb1:=Heap.SameBut.update s.heap a (Obj.putSet es1 t2)
   cases c with
   | false=>
    rw [if_neg Bool.false_ne_true]
    exact wpAny_pure ⟨rfl,_,rfl,sb1,⟨_,_,_,_,e1,ex,rfl,el1,mem1,bnd1,ft2,sz1⟩,gs1⟩
   | true=>
    rw [if_pos rfl]
    have pm2:=relayAll_perm t2 es1 (SetTable.grown es1.size)
    have ft3:=relayAll_fits t2 es1 (SetTable.grown es1.size)
    obtain ⟨g3,l3⟩:=good_relay (t:=t2) es1 (SetTable.grown es1.size)
    generalize relayAll t2 es1 (SetTable.grown es1.size)=L2 at pm2 ft3 g3 l3 ⊢
    obtain ⟨es2,t3,gv2⟩:=L2
    dsimp only at pm2 ft3 g3 l3 ⊢
    have sz2:es2.size=es1.size:=by rw [←Array.length_toList,pm2.length_eq,Array.length_toList]
    refine wpAny_bind (gave _ ?_)
    refine wpAny_bind (wpAny_storeSet_of e1 rfl ?_ (fits_of_scanBound (by first|lia|omega)))
    obtain ⟨e2,gs2⟩:=put_good (s:={ s with heap:=s.heap.update a (Obj.putSet es1 t2) }) (es':=es2) e1 rfl g3 (fun z=>l3.trans (ld2 z))
    refine wpAny_pure ⟨rfl,_,rfl,sb1.trans (Heap.SameBut.update _ a _),⟨_,_,_,_,e2,ex,rfl,el1.perm pm2,fun k'=>(mem1 k').trans ⟨fun hz_=>Elim.el hz_ _ fun e he q=>⟨e,pm2.mem_iff.mpr he,q⟩,fun hz_=>Elim.el hz_ _ fun e he q=>⟨e,pm2.mem_iff.mp he,q⟩⟩,by first|lia|omega,ft3,sz2.trans sz1⟩,gs2⟩
  have out:∀(r:Option Bool) s',(r=some true∧∃h',s'={ s with heap:=h' } ∧ Heap.SameBut a s.heap h'∧SetKeys knd h' a (oneMore D k))→wpAny (model prog w) A (match r with|some added=>pure added|none=>setAddHashedIn a x (knd.hash k) 99999) Q E s':=by
   rintro r s' ⟨rfl,h',rfl,sb,sk⟩
   exact wpAny_pure (fin true h' sb sk)
  refine wpAny_bind (gave _ ?_)
  cases hpl:t1.plain with
  | false=>
   rw [if_neg Bool.false_ne_true]
   refine wpAny_bind (wpAny_pure ?_)
   rw [if_pos rfl]
   exact wpAny_mono (tail t1 g1 ld1 ft _) (fun r s' q=>out r s' q) fun _ _ z=>z
  | true=>
   rw [if_pos rfl]
   refine wpAny_bind ?_
   rw [hashByValue_scannable 8 hx]
   refine wpAny_pure ?_
   cases plainKind x with
   | true=>
    rw [if_pos rfl]
    exact wpAny_mono (tail t1 g1 ld1 ft _) (fun r s' q=>out r s' q) fun _ _ z=>z
   | false=>
    rw [if_neg Bool.false_ne_true]
    exact wpAny_mono (tail { t1 with plain:=false } g1 ld1 (SetTable.fits_plain_off ft) _) (fun r s' q=>out r s' q) fun _ _ z=>z
theorem SetKeys.at' {D:List K} {h h':Heap} (x:SetKeys knd h a D) (k:∀o,h.get? a=some o→h'.get? a=some o):SetKeys knd h' a D:=⟨x.1.at' k,x.2.at' k⟩
end
end L2
namespace L2
open PySem PySem.Spec PyProof.Rows
section
variable {X:Cx} {pins:List (Addr×Obj)} {σ:St} {H:Hp} {s:Shared}
end
end L2
namespace L2
open PySem PySem.Spec PyProof.Rows
structure KeyV (P:Program) (w:World) (K:Type) [DecidableEq K] where
 knd:PySem.KeyKind P w K
 v:K→V
 ok:∀k u,RelV (v k) u→knd.is k u=true∧u.scannable=true
noncomputable def strV (P:Program) (w:World):KeyV P w Str:=⟨strKind P w,V.str,fun k u r=>by obtain ⟨t,rfl⟩:=r;exact ⟨strKind_is _ _ _ _,rfl⟩⟩
noncomputable def setK {P:Program} {w:World} {K:Type} [DecidableEq K] (kv:KeyV P w K) (a:Addr) (D:List K):HO := .ext fun h=>SetKeys kv.knd h a D
theorem setK_ok {P:Program} {w:World} {K:Type} [DecidableEq K] {kv:KeyV P w K} {a:Addr} {D:List K} {H:Hp} {h:Heap} (x:SetKeys kv.knd h a D):ObjOk P w H h a (setK kv a D):=by
 have x':=x.1
 obtain ⟨o,es,ep,t,e,rest⟩:=x'
 exact ⟨x,⟨o,e⟩,fun h1 h2 y k=>SetKeys.at' y k⟩
section
variable {prog:Program} {w:World} {A:Around} {R:Result→Shared→Prop} {s:Shared}
end
section
variable {X:Cx} {pins:List (Addr×Obj)} {σ:St} {H:Hp} {s:Shared} {a:Addr} {u:Value} {A:Around} {E:Value→Shared→Prop} {K:Type} [DecidableEq K] {kv:KeyV X.prog X.w K}
end
theorem fresh_keys {prog:Program} {w:World} {K:Type} [DecidableEq K] {knd:PySem.KeyKind prog w K} {h:Heap} {a:Addr} {led:Bool} (e:h.get? a=some (setObj0 led)):HasKeys knd h a []:=by
 have z:=(setObjOf_fresh (knd:=knd) led).setOf e (by decide)
 have q:(fun k:K=>decide (k∈([]:List K)))=fun _=>false:=by funext k;simp
 show Heap.SetOf knd _ _ (fun k=>decide (k∈([]:List K))) 0
 rw [q]
 exact z
theorem fresh_good {prog:Program} {w:World} {K:Type} [DecidableEq K] {knd:PySem.KeyKind prog w K} {h:Heap} {a:Addr} {led:Bool} (l:w.params.followText "set-order" = false→led=true) (e:h.get? a=some (setObj0 led)):SetKeys knd h a []:=⟨fresh_keys e,_,_,_,_,e,rfl,good_fresh,l⟩
end L2
namespace L2
open PySem PySem.Spec PyProof.Rows
section
variable {X:Cx}
end
end L2
namespace L2
open PySem PySem.Spec PyProof.Rows
theorem vals_of_strs:∀{ss:List Str} {us:List Value},StrsAre us ss→Vals (ss.map V.str) us
 | _,_, .nil => .nil
 | _,_, .cons _ _ h => .cons ⟨_,rfl⟩ (vals_of_strs h)
section
variable {X:Cx} (K:PySem.W.Frag)
end
section
variable {X:Cx}
end
end L2
namespace L2
open PySem PySem.Spec PyProof.Rows PySem.W
section
variable {X:Cx} {H Hj:Hp} {s sj:Shared} {pins:List (Addr×Obj)} {σ:St}
structure Run (X:Cx) (H:Hp) (s:Shared) (Hj:Hp) (sj:Shared):Prop where
 un:Un (frs X.stack) [] H Hj s.heap sj.heap
 hok:HOk X.prog X.w Hj sj.heap
 os:sj.os=s.os
 bare:AllBare sj.gens
theorem Run.inv (r:Run X H s Hj sj) (I:Inv X pins σ H s):Inv X pins σ Hj sj:=I.call' (ch:=[]) r.os r.un r.hok r.bare fun _ z=>by cases z
theorem Run.start (I:Inv X pins σ H s):Run X H s H s:=⟨Un.refl,I.hok,rfl,I.bare⟩
theorem Run.kept {h':Heap} (r:Run X H s Hj sj) (k:∀b u,sj.heap.get? b=some u→h'.get? b=some u):Run X H s Hj { sj with heap:=h' }:=⟨r.un.trans (Un.kept k),r.hok.kept k,r.os,r.bare⟩
theorem Run.alter {h':Heap} {b:Addr} (r:Run X H s Hj sj) (hb:s.heap.get? b=none) (hn:Hj b=none) (k:∀c u,c≠b→sj.heap.get? c=some u→h'.get? c=some u):Run X H s Hj { sj with heap:=h' }:=by
 have ne:∀{c:Addr} {o:Obj},s.heap.get? c=some o→c≠b:=fun e z=>by rw [z,hb] at e;cases e
 refine ⟨⟨fun c o q n h1 h2=>k c o (ne q) (r.un.keep c o q n h1 h2),fun c o q n h1 h2 => ?_,r.un.free,fun c o q h1 => ?_,r.un.tups,r.un.frzs,r.un.tbls⟩,fun a o e=>(r.hok a o e).stay (fun c u hc q=>k c u ?_ q) (fun _ q=>q) fun _ _ q=>q,r.os,r.bare⟩
 ·obtain ⟨sl,e⟩:=r.un.slot c o q n h1 h2
  exact ⟨sl,k c _ (ne q) e⟩
 ·obtain ⟨o',e⟩:=r.un.there c o q h1
  exact ⟨o',k c _ (ne q) e⟩
 ·rintro rfl
  rcases hc with rfl|hc
  ·rw [hn] at e;cases e
  ·rw [hn] at hc;cases hc
theorem Run.told {b:Addr} {o:HO} (r:Run X H s Hj sj) (hb:s.heap.get? b=none) (hn:Hj b=none) (new:ObjOk X.prog X.w (upd Hj b o) sj.heap b o):Run X H s (upd Hj b o) sj:=by
 have ne:∀{c:Addr} {o:Obj},s.heap.get? c=some o→c≠b:=fun e z=>by rw [z,hb] at e;cases e
 have hH:∀{c:Addr} {q:HO},Hj c=some q→c≠b:=fun e z=>by rw [z,hn] at e;cases e
 refine ⟨⟨r.un.keep,r.un.slot,fun c o q n h1=>by rw [upd_ne (ne q)];exact r.un.free c o q n h1,r.un.there,fun c xs q => ?_,fun c o u q => ?_,fun c ps q => ?_⟩,fun a u e => ?_,r.os,r.bare⟩
 ·have:=r.un.tups c xs q;rw [upd_ne (hH this)];exact this
 ·have:=r.un.frzs c o u q;rw [upd_ne (hH this)];exact this
 ·obtain ⟨more,e⟩:=r.un.tbls c ps q
  exact ⟨more,by rw [upd_ne (hH e)];exact e⟩
 ·by_cases z:a=b
  ·subst z;rw [upd_same] at e;cases e;exact new
  ·rw [upd_ne z] at e
   exact (r.hok a u e).stay (fun _ _ _ q=>q) (fun c q=>by rw [upd_ne (hH q)];exact q) fun c xs q=>by rw [upd_ne (hH q)];exact q
theorem Run.called {Q:VK} {u:Value} {s':Shared} (r:Run X H s Hj sj) (c:CE X.stack X.prog X.w Hj sj Q u s'):∃v H',Run X H s H' s'∧RelV v u∧Q v H'∧Un (frs X.stack) [] Hj H' sj.heap s'.heap:=by
 obtain ⟨v,H',os,bare,un,hok,rv,q⟩:=c
 exact ⟨v,H',⟨r.un.trans un,hok,os.trans r.os,bare⟩,rv,q,un⟩
end
noncomputable def KeyR (X:Cx) (f:Value) (r:V→Hp→VK→Prop):Prop:=
 ∀ ⦃pins:List (Addr×Obj)⦄ (s:Shared) (σ:St) (H:Hp) (x:V) (u:Value) (Q:VK),Inv X pins σ H s→RelV x u→r x H Q →
  wpAny (model X.prog X.w) X.A.in1.in1 (call f [u]) (CE X.stack X.prog X.w H s Q) (fun _ _=>False) s
theorem key_fn {X:Cx} {k:Nat} {f:Addr} {fd:FuncData} {ps:List Str} {sp:Sp} (F:FnOk X.prog X.w X.K X.mg X.base CX0 k f fd ps sp) (hr:Room (k+2) X.A) (hb:Binds X.K fd ps []):KeyR X (.ref f) fun x H Q=>sp [x] H Q E0:=by
 intro pins s σ H x u Q I rx h
 have rv:Vals [x] [u] := .cons rx .nil
 have hl:([u]++([]:List Value)).length=ps.length:=F.len _ _ _ _ h
 have b:=hb s [u] I.kIn hl
 rw [List.append_nil] at b
 refine wpAny_call (codeAny_mono (F.run X.A.in1.in1 X.stack s H ⟨[u],[]⟩ [u] [x] Q E0 hr.in1.in1 I.env0.in1.in1 b rv h) fun r s' hq => ?_)
 cases r with
 | error e=>exact hq.elim
 | ok fl=>cases fl with
  | ret u=>exact hq
  | next=>exact False.elim hq
  | brk=>exact False.elim hq
  | cont=>exact False.elim hq
noncomputable def lfLt (a b:Str):Prop:=a.length<b.length∨(a.length=b.length∧a.cps.toList<b.cps.toList)
noncomputable instance (a b:Str):Decidable (lfLt a b):=by unfold lfLt;infer_instance
theorem str_cps {x y:Str} (h:x.cps.toList=y.cps.toList):x=y:=by
 cases x;cases y;congr 1;exact Array.toList_inj.mp h
theorem lfLt_irrefl (a:Str):¬lfLt a a:=fun h=>by
 rcases h with h|⟨_,h⟩
 ·(first|lia|omega)
 ·exact List.lt_irrefl _ h
theorem lfLt_trans {a b c:Str} (h1:lfLt a b) (h2:lfLt b c):lfLt a c:=by
 rcases h1 with h1|⟨e1,h1⟩ <;> rcases h2 with h2|⟨e2,h2⟩
 ·exact .inl (by first|lia|omega)
 ·exact .inl (by first|lia|omega)
 ·exact .inl (by first|lia|omega)
 ·exact .inr ⟨by first|lia|omega,List.lt_trans h1 h2⟩
theorem lfLt_or {a b:Str} (h:a≠b):lfLt a b∨lfLt b a:=by
 by_cases h1:a.length<b.length
 ·exact .inl (.inl h1)
 by_cases h2:b.length<a.length
 ·exact .inr (.inl h2)
 by_cases h3:a.cps.toList<b.cps.toList
 ·exact .inl (.inr ⟨by first|lia|omega,h3⟩)
 ·refine .inr (.inr ⟨by first|lia|omega,?_⟩)
  rcases List.le_iff_lt_or_eq.mp (List.not_lt.mp h3) with z|z
  ·exact z
  ·exact absurd (str_cps z).symm h
noncomputable def rk (L:List Str) (t:Str):Nat:=L.countP fun u=>decide (lfLt u t)
theorem countP_lt {α:Type} {p q : α→Bool} : ∀{L:List α} {t : α},(∀v∈L,p v=true→q v=true)→t∈L→q t=true→p t=false→L.countP p<L.countP q
 | [],_,_,m,_,_=>by cases m
 | v :: L,t,h,m,h1,h2=>by
  have hle:L.countP p≤L.countP q:=List.countP_mono_left fun v hv=>h v (List.mem_cons_of_mem _ hv)
  rw [List.countP_cons,List.countP_cons]
  rcases List.mem_cons.mp m with rfl|m
  ·rw [h1,h2];simp; (first|lia|omega)
  ·have:=countP_lt (fun v hv=>h v (List.mem_cons_of_mem _ hv)) m h1 h2
   by_cases hp:p v=true
   ·rw [hp,h v List.mem_cons_self hp];simp; (first|lia|omega)
   ·rw [if_neg hp]; (first|lia|omega)
theorem rk_lt {L:List Str} {t u:Str} (ht:t∈L) (h:lfLt t u):rk L t<rk L u:=
 countP_lt (fun v _ hv=>decide_eq_true (lfLt_trans (of_decide_eq_true hv) h)) ht (decide_eq_true h) (decide_eq_false (lfLt_irrefl t))
theorem rk_iff {L:List Str} {t u:Str} (ht:t∈L) (hu:u∈L):lfLt t u ↔ rk L t<rk L u:=by
 refine ⟨rk_lt ht,fun h => ?_⟩
 by_cases e:t=u
 ·subst e; (first|lia|omega)
 rcases lfLt_or e with z|z
 ·exact z
 ·have:=rk_lt hu z; (first|lia|omega)
noncomputable def txtAt (H:Hp) (v:Value):Str:=match v with
 | .ref q=>match H q with
  | some (.tup [_, .str t])=>t
  | _=>⟨#[]⟩
 | _=>⟨#[]⟩
noncomputable def txK (H:Hp) (L:List Str) (p:Keyed):Int:=rk L (txtAt H p.1)
noncomputable def KeyAt (H:Hp) (t:Str) (v:Value):Prop:=∃q,v = .ref q∧H q=some (.tup [.int t.length, .str t])
theorem KeyAt.txt {H:Hp} {t:Str} {v:Value} (h:KeyAt H t v):txtAt H v=t:=by
 obtain ⟨q,rfl,e⟩:=h
 unfold txtAt;simp only [e]
theorem KeyAt.obj {P:Program} {w:World} {H:Hp} {t:Str} {v:Value} {h:Heap} (k:KeyAt H t v) (ok:HOk P w H h):∃q o n t1 t2,v = .ref q∧h.get? q=some o∧o.cls = .type "tuple" ∧ o.data = .seq #[.int t.length t1, .str t t2] n:=by
 obtain ⟨q,rfl,e⟩:=k
 obtain ⟨_,its,r,o,e1,c,n,d⟩:=ok q _ e
 obtain ⟨w1,w2,rfl,⟨t1,rfl⟩,⟨t2,rfl⟩⟩:=vals2 r
 exact ⟨q,o,n,t1,t2,rfl,e1,c,d⟩
noncomputable abbrev kdTup:SortKind:=tuples' (Value.type "int" != Value.type "tuple")
section
variable {prog:Program} {w:World} {A:Around} {E:Value→Shared→Prop} {s:Shared}
theorem lts_lf {H:Hp} {L:List Str} {a₀:Array Keyed} (ok:HOk prog w H s.heap) (h0:∀x∈a₀.toList,∃t,t∈L∧KeyAt H t x.1):Lts prog w A E s a₀ (txK H L) kdTup:=fun st x y Q hx hy hk q=>by
 refine Elim.el (h0 x hx) _ ?_
 rintro t mt kt
 refine Elim.el (h0 y hy) _ ?_
 rintro u mu ku
 have q':Q (some (decide (lfLt t u))) st:=by
  have e:decide (txK H L x<txK H L y)=decide (lfLt t u):=decide_eq_decide.mpr (by unfold txK;rw [kt.txt,ku.txt,Int.ofNat_lt];exact (rk_iff mt mu).symm)
  rw [e] at q;exact q
 clear q
 refine Elim.el (kt.obj ok) _ ?_
 rintro q1 o1 n1 t1 t2 e1 g1 _ d1
 refine Elim.el (ku.obj ok) _ ?_
 rintro q2 o2 n2 u1 u2 e2 g2 _ d2
 rw [lt'_eq]
 refine wpS_bind (wpS_get ?_)
 rw [hk,e1,e2]
 refine wpS_bind (wpS_lift (wpAny_attempt (wpAny_mono (kat_lt g1 d1 g2 d2 (Q:=fun b s'=>b=decide (lfLt t u)∧s'=s) ?_) (fun b s' hb => ?_) (fun _ _ z=>False.elim z))))
 ·show KatLex _ _ _ _ _ _ [(_,_),(_,_)] 0 s
  refine kat_cons (wpAny_eqBool_int ?_)
  by_cases c:t.length=u.length
  ·rw [show ((t.length:Int) == (u.length:Int))=true by simp -iota [c]]
   refine kat_yes (kat_cons (wpAny_eqBool_str ?_))
   by_cases d:t=u
   ·rw [decide_eq_true d]
    refine kat_yes (kat_nil ⟨?_,rfl⟩)
    subst d
    exact (decide_eq_false (lfLt_irrefl t)).symm
   ·rw [decide_eq_false d]
    refine kat_no (kat_one _ _ (lt_str ?_))
    refine ⟨?_,rfl⟩
    refine decide_eq_decide.mpr ⟨fun z => .inr ⟨c,z⟩,fun z => ?_⟩
    rcases z with z|z
    ·(first|lia|omega)
    ·exact z.2
  ·rw [show ((t.length:Int) == (u.length:Int))=false by simp; (first|lia|omega)]
   refine kat_no (oneLt_int ⟨?_,rfl⟩)
   refine decide_eq_decide.mpr ⟨fun z => .inl (by first|lia|omega),fun z => ?_⟩
   rcases z with z|z
   ·(first|lia|omega)
   ·exact absurd z.1 c
 ·obtain ⟨rfl,rfl⟩:=hb
  exact ⟨rfl,wpS_pure q'⟩
end
section
variable {X:Cx} {H:Hp} {s0:Shared} {pins:List (Addr×Obj)} {σ:St} {D kS:Addr} {ts:List Str} {vs:List Value}
structure Kj (X:Cx) (H:Hp) (s0:Shared) (D kS:Addr) (e1:Nat) (ts:List Str) (Hj:Hp) (ks:List Value) (sj:Shared):Prop where
 run:Run X H s0 Hj sj
 same:Same H Hj
 dn:Hj D=none
 kn:Hj kS=none
 d0:s0.heap.get? D=none
 k0:s0.heap.get? kS=none
 ne:kS≠D
 dat:sj.heap.get? D=some (seqObj "list" #[] e1)
 kat:∃e,sj.heap.get? kS=some (seqObj "list" ks.toArray e)
 keys:Paired (KeyAt Hj) ts ks
theorem pairedSnoc {α β:Type} {R : α → β→Prop} {a : α} {b : β} : ∀{l₁:List α} {l₂:List β},Paired R l₁ l₂→R a b→Paired R (l₁++[a]) (l₂++[b])
 | _,_, .nil,h => .cons h .nil
 | _,_, .cons r t,h => .cons r (pairedSnoc t h)
theorem notFr (I:Inv X pins σ H s0) {b:Addr} (h:s0.heap.get? b=none):b ∉ frs X.stack:=fun hb=>by
 refine Elim.el (I.stack.mem hb) _ ?_
 rintro _ o e _
 rw [h] at e;cases e
theorem KeyAt.new {H H':Hp} {t:Str} {v:Value} {q:Addr} {o:HO} (k:KeyAt H t v) (n:New H q o H'):KeyAt H' t v:=by
 obtain ⟨a,rfl,e⟩:=k
 exact ⟨a,rfl,n.same _ _ e⟩
theorem Kj.more {e1:Nat} {Hj:Hp} {ks:List Value} {sj s':Shared} {t:Str} {u:Value} (I:Inv X pins σ H s0) (k:Kj X H s0 D kS e1 ts Hj ks sj) (hz:ks.length<sizeLine)
  (c:CE X.stack X.prog X.w Hj sj (fun v H'=>∃q,v = .ref q∧New Hj q (.tup [.int t.length, .str t]) H') u s') :
  ∃e,s'.heap.get? kS=some (seqObj "list" ks.toArray e)∧∃Hi,Kj X H s0 D kS e1 (ts++[t]) Hi (ks++[u]) { s' with heap:=s'.heap.update kS (Obj.mapSeq (·.push u)) }:=by
 obtain ⟨v,H',r',rv,⟨q,rfl,n⟩,un⟩:=k.run.called c
 cases rv
 obtain ⟨e,hk⟩:=k.kat
 have nd:=un.keep D _ k.dat k.dn (notFr I k.d0) (by simp)
 have nk:=un.keep kS _ hk k.kn (notFr I k.k0) (by simp)
 have fd:=un.free D _ k.dat k.dn (by simp)
 have fk:=un.free kS _ hk k.kn (by simp)
 refine ⟨e,nk,H',?_⟩
 refine ⟨r'.alter k.k0 fk fun c u hc q=>by rw [Heap.get?_update_ne _ _ _ _ hc];exact q,fun a o z=>n.same _ _ (k.same a o z),fd,fk,k.d0,k.k0,k.ne,?_,?_,?_⟩
 ·show (s'.heap.update _ _).get? D=_
  rw [Heap.get?_update_ne _ _ _ _ k.ne.symm];exact nd
 ·have ea:ks.toArray.push (Value.ref q)=List.toArray (ks++[.ref q]):=by simp
  exact ⟨_,by rw [←ea];exact get?_update_seq nk (·.push (Value.ref q))⟩
 ·exact pairedSnoc (Paired.imp' (fun a b z=>KeyAt.new z n) k.keys) ⟨q,rfl,n.at⟩
theorem zip_keys {Hn:Hp} : ∀{ts:List Str} {ks vs:List Value},Paired (KeyAt Hn) ts ks→Vals (ts.map V.str) vs→(ks.zip vs).map (fun p=>txtAt Hn p.1)=ts∧∀p∈ks.zip vs,∃t,t∈ts∧KeyAt Hn t p.1∧RelV (.str t) p.2
 | [],_,_, .nil, .nil=>⟨rfl,fun _ h=>by cases h⟩
 | t :: ts,_,_, .cons r a, .cons q b=>by
  obtain ⟨e,m⟩:=zip_keys a b
  refine ⟨?_,fun p hp => ?_⟩
  ·rw [List.zip_cons_cons,List.map_cons,e]
   show txtAt Hn _ :: ts=_
   rw [r.txt]
  ·rw [List.zip_cons_cons] at hp
   rcases List.mem_cons.mp hp with rfl|hp
   ·exact ⟨t,List.mem_cons_self,r,q⟩
   ·obtain ⟨t,h1,h2⟩:=m p hp
    exact ⟨t,List.mem_cons_of_mem _ h1,h2⟩
theorem vals_txt {Hn:Hp} : ∀{l:List Keyed},(∀p∈l,RelV (.str (txtAt Hn p.1)) p.2)→Vals ((l.map fun p=>txtAt Hn p.1).map V.str) (l.map (·.2))
 | [],_ => .nil
 | p :: l,h => .cons (h p List.mem_cons_self) (vals_txt fun q hq=>h q (List.mem_cons_of_mem _ hq))
noncomputable def KEnd (X:Cx) (H:Hp) (s0:Shared) (D:Addr) (ts:List Str) (P:Shared→Prop):Prop:=
 ∀(us:List Str) (out:Array Value) (Hn:Hp) (sn:Shared) (e:Nat),Run X H s0 Hn sn→Same H Hn→Hn D=none→sn.heap.get? D=some (seqObj "list" out e)→Vals (us.map V.str) out.toList→us.Perm ts→us.Pairwise (fun a b => ¬lfLt b a)→P sn
theorem sortK_tail {A:Around} {E:Value→Shared→Prop} {e1:Nat} {Hn:Hp} {ks:List Value} {sn:Shared} {P:PySem.Fin→Shared→Prop} {st:SortSt} (k:Kj X H s0 D kS e1 ts Hn ks sn) (rv:Vals (ts.map V.str) vs) (hz:ts.length≤sizeLine)
  (hp:(arrOf st).Perm (ks.toArray.zip vs.toArray)) (hf:failedOf st=none) (hs:Sg (txK Hn ts) (arrOf st) 0 (arrOf st).size) (h:KEnd X H s0 D ts fun sn=>P (.done (.ret .none)) sn) :
  wpAny (model X.prog X.w) A (ksk_tail D false e1 (.ref kS) st) P E sn:=by
 obtain ⟨e,hk⟩:=k.kat
 have lk:ks.length=ts.length:=k.keys.length.symm
 have hpl:(arrOf st).toList.Perm (ks.zip vs):=by
  have:=Array.perm_iff_toList_perm.mp hp
  rw [ksk_zip] at this;exact this
 obtain ⟨z1,z2⟩:=zip_keys k.keys rv
 have z3:∀p∈(arrOf st).toList,∃t,t∈ts∧KeyAt Hn t p.1∧RelV (.str t) p.2:=fun p h=>z2 p (hpl.subset h)
 have up:((arrOf st).toList.map fun p=>txtAt Hn p.1).Perm ts:=by rw [←z1];exact hpl.map _
 have ul:=up.length_eq
 rw [List.length_map,Array.length_toList] at ul
 have d1:(sn.heap.update kS (Obj.mapSeq fun _=>(#[]:Array Value))).get? D=some (seqObj "list" #[] e1):=by rw [Heap.get?_update_ne _ _ _ _ k.ne.symm];exact k.dat
 unfold ksk_tail
 try dsimp only
 refine wpAny_bind (listUpdate_at hk rfl ?_ (by rw [List.size_toArray]; (first|lia|omega)) (Nat.zero_le _))
 refine wpAny_bind (wpAny_letGo ?_)
 refine wpAny_bind (seqEpoch_at d1 rfl ?_)
 simp -iota only [Bool.false_eq_true,if_false]
 refine wpAny_bind (listUpdate_at d1 rfl ?_ (Nat.zero_le _) (by rw [Array.size_map]; (first|lia|omega)))
 rw [hf]
 simp -iota only [bne_self_eq_false,Bool.false_eq_true,if_false]
 obtain ⟨e2,g2⟩:∃e2,((sn.heap.update kS (Obj.mapSeq fun _=>(#[]:Array Value))).update D (Obj.mapSeq fun _=>(arrOf st).map (·.2))).get? D=some (seqObj "list" ((arrOf st).map (·.2)) e2):=⟨_,get?_update_seq d1 fun _=>(arrOf st).map (·.2)⟩
 have r1:=k.run.alter (h':=sn.heap.update kS (Obj.mapSeq fun _=>(#[]:Array Value))) k.k0 k.kn fun c u hc q=>by rw [Heap.get?_update_ne _ _ _ _ hc];exact q
 have r2:=r1.alter (h':=(sn.heap.update kS (Obj.mapSeq fun _=>(#[]:Array Value))).update D (Obj.mapSeq fun _=>(arrOf st).map (·.2))) k.d0 k.dn fun c u hc q=>by rw [Heap.get?_update_ne _ _ _ _ hc];exact q
 refine wpAny_pure (h _ _ Hn _ e2 r2 k.same k.dn g2 ?_ up ?_)
 ·rw [Array.toList_map]
  exact vals_txt fun p hp=>by
   refine Elim.el (z3 p hp) _ ?_
   rintro t _ h2 h3
   rw [h2.txt];exact h3
 ·rw [List.pairwise_map,List.pairwise_iff_getElem]
  intro i j hi hj hij
  rw [Array.length_toList] at hi hj
  have q:=hs i j (Nat.zero_le _) (Nat.le_of_lt hij) hj
  have ki:∀{i:Nat} (hi:i<(arrOf st).size),ky (txK Hn ts) (arrOf st) i=rk ts (txtAt Hn ((arrOf st)[i]).1):=fun {i} hi=>by unfold ky;rw [Array.getElem?_eq_getElem hi];rfl
  rw [ki hi,ki hj] at q
  rw [Array.getElem_toList,Array.getElem_toList]
  obtain ⟨t,m1,k1,_⟩:=z3 (arrOf st)[i] (by rw [←Array.getElem_toList];exact List.getElem_mem _)
  obtain ⟨u,m2,k2,_⟩:=z3 (arrOf st)[j] (by rw [←Array.getElem_toList];exact List.getElem_mem _)
  rw [k1.txt,k2.txt] at q ⊢
  intro z
  have:=(rk_iff m2 m1).mp z
  (first|lia|omega)
theorem keyTups {P:Program} {w:World} {Hn:Hp} {h:Heap} (ok:HOk P w Hn h):∀{ts:List Str} {ks:List Value},Paired (KeyAt Hn) ts ks→∃fs,KatTups h ks fs∧fs.length=ks.length∧∀v∈fs,∃z t,v=Value.int z t
 | [],_, .nil=>⟨[], .nil,rfl,fun v hv=>by cases hv⟩
 | t :: ts,_, .cons r k=>by
  refine Elim.el (keyTups ok k) _ ?_
  rintro fs a l q
  refine Elim.el (r.obj ok) _ ?_
  rintro x o n t1 t2 rfl e1 e2 e3
  refine ⟨.int t.length t1 :: fs, .cons e1 e2 e3 rfl a,by rw [List.length_cons,List.length_cons,l],fun v hv => ?_⟩
  rcases List.mem_cons.mp hv with rfl|hv
  ·exact ⟨_,_,rfl⟩
  ·exact q v hv
theorem sortK_end {A:Around} {E:Value→Shared→Prop} {e1:Nat} {Hn:Hp} {ks:List Value} {sn:Shared} {P:PySem.Fin→Shared→Prop} (k:Kj X H s0 D kS e1 ts Hn ks sn) (rv:Vals (ts.map V.str) vs) (hz:ts.length≤sizeLine)
  (h:KEnd X H s0 D ts fun sn=>P (.done (.ret .none)) sn):wpAny (model X.prog X.w) A (ksk_end D false vs.toArray e1 (.ref kS) ks.toArray) P E sn:=by
 have lk:ks.length=ts.length:=k.keys.length.symm
 have lv:vs.length=ts.length:=by have:=rv.length;rw [List.length_map] at this;exact this.symm
 obtain ⟨z1,z2⟩:=zip_keys k.keys rv
 unfold ksk_end
 try dsimp only
 simp -iota only [Bool.false_eq_true,if_false]
 by_cases h2:vs.toArray.size<2
 ·rw [if_pos h2,if_pos h2]
  refine wpAny_bind (wpAny_pure ?_)
  rw [StateT.run_pure]
  refine wpAny_bind (wpAny_pure ?_)
  refine sortK_tail k rv hz (Array.Perm.refl _) rfl (fun i j _ hij hj => ?_) h
  have:(arrOf (SortSt.mk' general' (ks.toArray.zip vs.toArray) #[] 7 none)).size<2:=by
   show (ks.toArray.zip vs.toArray).size<2
   rw [Array.size_zip,List.size_toArray,List.size_toArray]
   rw [List.size_toArray] at h2
   (first|lia|omega)
  have hj2:j<1:=Nat.lt_of_lt_of_le hj (Nat.le_of_lt_succ this)
  rw [show i=j by first|lia|omega]
  exact Int.le_refl _
 ·rw [if_neg h2,if_neg h2]
  rw [List.size_toArray] at h2
  refine Elim.el (keyTups k.run.hok k.keys) _ ?_
  rintro fs kt lf hf
  refine wpAny_bind (wpAny_mono (kat_kind (Q:=fun κ s' => κ=kdTup∧s'=sn) kt (by first|lia|omega) (fun v hv => ?_) (by decide) ⟨rfl,rfl⟩) (fun κ s' hk => ?_) (fun _ _ z=>z))
  ·refine Elim.el (hf v hv) _ ?_
   rintro z t rfl
   exact Looks.of_pure rfl
  obtain ⟨rfl,rfl⟩:=hk
  have hL:Lts X.prog X.w A E s' (ks.toArray.zip vs.toArray) (txK Hn ts) kdTup:=lts_lf k.run.hok fun x hx=>by
   rw [ksk_zip] at hx
   refine Elim.el (z2 x hx) _ ?_
   rintro t h1 h2 _
   exact ⟨t,h1,h2⟩
  refine wpAny_bind (wpAny_mono (tm_runs (a₀:=ks.toArray.zip vs.toArray) (key:=txK Hn ts) (kd:=kdTup) (st:=SortSt.mk' kdTup (ks.toArray.zip vs.toArray) #[] 7 none) (Q:=fun _ st=>Tb (ks.toArray.zip vs.toArray) kdTup st∧Sg (txK Hn ts) (arrOf st) 0 (ks.toArray.zip vs.toArray).size) hL ⟨Array.Perm.refl _,rfl,rfl⟩ rfl fun _ t g=>⟨t,g⟩) ?_ fun _ _ z=>z)
  rintro ⟨⟨⟩,st⟩ s2 ⟨rfl,t,g⟩
  exact sortK_tail k rv hz t.perm t.failed (by rw [t.perm.size_eq];exact g) h
theorem sortK_tree {E:Value→Shared→Prop} {f:Value} {r:V→Hp→VK→Prop} {n:Nat} {s:Shared} {P:PySem.Fin→Shared→Prop} (I:Inv X pins σ H s0) (F:KeyR X f r) (hr:∀t∈ts,∀Hj,Same H Hj→r (.str t) Hj fun v H'=>∃q,v = .ref q∧New Hj q (.tup [.int t.length, .str t]) H')
  (r0:Run X H s0 H s) (d0:s0.heap.get? D=none) (hd:s.heap.get? D=some (seqObj "list" vs.toArray n)) (dn:H D=none) (rv:Vals (ts.map V.str) vs) (hz:ts.length≤sizeLine) (hs0:∀b o,s0.heap.get? b=some o→b<s.heap.objs.size)
  (h:KEnd X H s0 D ts fun sn=>P (.done (.ret .none)) sn):wpAny (model X.prog X.w) X.A.in1.in1 (ksk_tree D f false) P E s:=by
 have lv:vs.length=ts.length:=by have:=rv.length;rw [List.length_map] at this;exact this.symm
 obtain ⟨e1,g1⟩:∃e1,(s.heap.update D (Obj.mapSeq fun _=>(#[]:Array Value))).get? D=some (seqObj "list" #[] e1):=⟨_,get?_update_seq hd fun _ => #[]⟩
 have k1:((s.heap.update D (Obj.mapSeq fun _=>(#[]:Array Value))).push (seqObj "tuple" vs.toArray 0)).objs.size=s.heap.objs.size+1:=by rw [size_push',Heap.size_update]
 have lD:D<s.heap.objs.size:=Heap.lt_size hd
 unfold ksk_tree
 refine wpAny_bind (listItems_at hd rfl ?_)
 refine wpAny_bind (listUpdate_at hd rfl ?_ (by rw [List.size_toArray]; (first|lia|omega)) (Nat.zero_le _))
 refine wpAny_bind (seqEpoch_at g1 rfl ?_)
 refine wpAny_bind (wpAny_newTuple ?_ (by show vs.length≤_; (first|lia|omega)))
 refine wpAny_bind (wpAny_newList ?_ (Nat.zero_le _))
 refine wpAny_holding ?_
 show wpAny _ _ (ksk_rest D f false vs.toArray e1 (.ref ((s.heap.update D (Obj.mapSeq fun _=>(#[]:Array Value))).push (seqObj "tuple" vs.toArray 0)).objs.size)) P E { s with heap:=((s.heap.update D (Obj.mapSeq fun _=>(#[]:Array Value))).push (seqObj "tuple" vs.toArray 0)).push (seqObj "list" #[] 0) }
 rw [k1]
 have g3:(((s.heap.update D (Obj.mapSeq fun _=>(#[]:Array Value))).push (seqObj "tuple" vs.toArray 0)).push (seqObj "list" #[] 0)).get? (s.heap.objs.size+1)=some (seqObj "list" #[] 0):=by rw [←k1];exact Heap.get?_push_size _ rfl
 have ra:=r0.alter (h':=s.heap.update D (Obj.mapSeq fun _=>(#[]:Array Value))) d0 dn fun c u hc q=>by rw [Heap.get?_update_ne _ _ _ _ hc];exact q
 have rb:=ra.kept (h':=((s.heap.update D (Obj.mapSeq fun _=>(#[]:Array Value))).push (seqObj "tuple" vs.toArray 0)).push (seqObj "list" #[] 0)) fun b u q=>Heap.get?_push_of_some _ (Heap.get?_push_of_some _ q)
 have kk:Kj X H s0 D (s.heap.objs.size+1) e1 (ts.take 0) H ([]:List Value) { s with heap:=((s.heap.update D (Obj.mapSeq fun _=>(#[]:Array Value))).push (seqObj "tuple" vs.toArray 0)).push (seqObj "list" #[] 0) }:=
  ⟨rb,fun _ _ z=>z,dn,r0.hok.fresh (Nat.le_succ _),d0,by
   cases q:s0.heap.get? (s.heap.objs.size+1) with
   | none=>rfl
   | some o=>exact absurd (hs0 _ _ q) (by show ¬s.heap.objs.size+1<s.heap.objs.size; (first|lia|omega)),Nat.ne_of_gt (Nat.lt_succ_of_lt lD),Heap.get?_push_of_some _ (Heap.get?_push_of_some _ g1),⟨0,g3⟩, .nil⟩
 unfold ksk_rest
 refine wpAny_bind (wpAny_rule ?_)
 first
  | rw [List.forIn_toArray]
  | (rw [←Array.forIn_toList];simp -iota only [List.toList_toArray])
  | rw [←Array.forIn_toList]
 refine wpAny_bind (ksk_fold (I:=fun j s'=>∃Hj ks,Kj X H s0 D (s.heap.objs.size+1) e1 (ts.take j) Hj ks s') vs 0 _ ⟨_,_,kk⟩ (fun j x s' hx hI => ?_) fun s' hI => ?_)
 ·refine Elim.el (hI) _ ?_
  rintro Hj ks k
  rw [Nat.zero_add] at k ⊢
  have hj:j<ts.length:=by have:=(List.getElem?_eq_some_iff.mp hx).1; (first|lia|omega)
  obtain ⟨u,hu,ru⟩:=rv.get (i:=j) (x := .str ts[j]) (by rw [List.getElem?_map,List.getElem?_eq_getElem hj];rfl)
  rw [hx] at hu;cases hu
  have lk:ks.length=j:=by have:=k.keys.length;rw [List.length_take] at this; (first|lia|omega)
  refine wpAny_bind (wpAny_attempt (wpAny_mono (F s' σ Hj _ _ _ (k.run.inv I) ru (hr ts[j] (List.getElem_mem hj) Hj k.same)) (fun v s2 c => ?_) fun _ _ z=>z.elim))
  refine Elim.el (k.more I (by first|lia|omega) c) _ ?_
  rintro e nk Hi k'
  try dsimp only
  refine wpAny_bind (listUpdate_at nk rfl ?_ (by rw [List.size_toArray]; (first|lia|omega)) (Nat.le_trans (Nat.le_of_eq (Array.size_push ..)) (by rw [List.size_toArray]; (first|lia|omega))))
  refine wpAny_pure ⟨rfl,Hi,ks++[v],?_⟩
  rw [List.take_succ_eq_append_getElem hj]
  exact k'
 ·refine Elim.el (hI) _ ?_
  rintro Hj ks k
  rw [Nat.zero_add,lv,List.take_length] at k
  obtain ⟨e,hk⟩:=k.kat
  try dsimp only
  refine wpAny_bind (listItems_at hk rfl ?_)
  exact sortK_end k rv hz h
end
end L2
namespace L2
open PySem PySem.Spec PyProof.Rows PySem.W
noncomputable def CallKR (X:Cx) (id:String) (ks:List Str) (r:List V→List V→Hp→VK→Prop):Prop:=
 ∀ ⦃pins:List (Addr×Obj)⦄ (s:Shared) (σ:St) (H:Hp) (xs:List V) (us:List Value) (zs:List V) (ws:List Value) (Q:VK),Inv X pins σ H s→Vals xs us→Vals zs ws→r xs zs H Q →
  wpAny (model X.prog X.w) X.A (call (.builtin id) us (ks.zip ws)) (EP X pins σ Q) X.xe s
section
variable {X:Cx} {x:Str} {p pos:Pos} {e:Expr} {es:List Expr} {kws:List Keyword} {t tk:TA} {id:String} {ks:List Str} {r:List V→List V→Hp→VK→Prop}
noncomputable def tCBK (r:List V→List V→Hp→VK→Prop) (t tk:TA):TE:=fun σ H Q=>t σ H fun vs H1=>tk σ H1 fun zs H2=>r vs zs H2 Q
theorem pe_callBK (hc:CallKR X id ks r) (hg:Gl X x) (hm:X.mg x=none) (hv:bootBuiltins x=some (.builtin id)) (ha:PA X (e :: es) t) (hkw:PK X kws tk) (hn:x ≠ "__name__":=by decide) (hdb:(x == ("__debug__" : Str))=false:=by decide)
  (he:backTo pos (starEach (e :: es) X.env)=(false,eval e X.env) :: backTo pos (starEach es X.env):=by rfl) (hpl:(backTo pos (starEach (e :: es) X.env)).any (·.1)=false:=by rfl)
  (hall:(backToKw pos (keywordEach kws X.env)).all (·.1.isSome)=true:=by rfl) (hno:(backToKw pos (keywordEach kws X.env)).any (·.1.isNone)=false:=by rfl) (hks:(backToKw pos (keywordEach kws X.env)).filterMap (·.1)=ks:=by rfl) :
  PE X (.Call (.Name x p) (e :: es) kws pos) (tCBK r t tk):=by
 intro pins s σ H Q I h
 refine wpAny_Call_Name_kw (ld_blt I hg hm hv ?_ hn hdb)
 refine callWith_kw (thn (ha s σ H _ I h) fun us s1 hz_=>Elim.el hz_ _ fun vs H1 I1 r1 q1 => ?_) he hpl hall hno
 refine thn (hkw s1 σ H1 _ I1 q1) fun ws s2 hz_ => ?_
 refine Elim.el hz_ _ ?_
 clear hz_
 rintro zs H2 I2 r2 q2
 rw [hks]
 exact hc s2 σ H2 vs us zs ws Q I2 r1 r2 q2
end
section
variable {X:Cx} (K:PySem.W.Frag)
theorem sortedKT {f:Addr} {r:V→Hp→VK→Prop} (F:KeyR X (.ref f) r) (hK:X.K=K:=by rfl):CallKR X "sorted" [Str.ofString "key"] (fun xs zs H Q=>Ex2 fun (p:Addr) (ts:List Str)=>xs=[.ref p]∧zs=[.ref f]∧SqL K H p (ts.map V.str) ∧
  (∀t∈ts,∀Hj,r (.str t) Hj fun v H'=>∃q,v = .ref q∧New Hj q (.tup [.int t.length, .str t]) H') ∧
  ∀(us:List Str) (q:Addr) (H':Hp),us.Perm ts→us.Pairwise (fun a b => ¬lfLt b a)→Same H H'→H q=none→H' q=some (.lst (us.map V.str))→Q (.ref q) H'):=by
 subst hK
 intro pins s σ H xs us zs ws Q I r1 r2 h
 refine Elim.el (h) _ ?_
 rintro p ts rfl rfl hq hr q
 refine Elim.el (vals1 r1) _ ?_
 rintro u rfl ru
 refine Elim.el (vals1 r2) _ ?_
 rintro z rfl rz
 cases ru;cases rz
 refine Elim.el (I.list hq) _ ?_
 rintro its rv pl hz
 have ht:ts.length≤sizeLine:=by rw [List.length_map] at hz;exact hz
 have hi:its.length≤sizeLine:=by rw [←rv.length];exact hz
 have k1:((s.heap.push (seqObj "list" #[] 0)).update s.heap.objs.size (Obj.mapSeq (· ++ its.toArray))).objs.size=s.heap.objs.size+1:=(Heap.size_update ..).trans (size_push' _ _)
 have k2:(((s.heap.push (seqObj "list" #[] 0)).update s.heap.objs.size (Obj.mapSeq (· ++ its.toArray))).push (seqObj "list" its.toArray 0)).get? _=some (seqObj "list" its.toArray 0):=Heap.get?_push_size _ rfl
 have keep:∀b o,s.heap.get? b=some o→(((s.heap.push (seqObj "list" #[] 0)).update s.heap.objs.size (Obj.mapSeq (· ++ its.toArray))).push (seqObj "list" its.toArray 0)).get? b=some o:=fun b o e=>
  Heap.get?_push_of_some _ (by rw [Heap.get?_update_ne _ _ _ _ (Nat.ne_of_lt (Heap.lt_size e))];exact Heap.get?_push_of_some _ e)
 show wpAny _ _ (call (.builtin "sorted") [.ref p] [(Str.ofString "key", .ref f)]) _ _ _
 refine call_function_entry_kw kind_sorted plain_sorted entry_sorted (ksk_s1 _ _) ?_
 unfold Builtin.«sorted»
 refine wpAny_bind (m:=checkCount "sorted" 1 1 _) (wpAny_pure (wpAny_bind (collect_list pl.isList (wpAny_bind (wpAny_newList ?_ hi)) hi)))
 rw [k1] at k2
 show wpAny _ _ _ _ _ { s with heap:=Heap.push _ (seqObj "list" its.toArray 0) }
 rw [k1]
 refine wpAny_bind (wpAny_holding (wpAny_call_entry_kw slot_list_sort ⟨_,k2,rfl⟩ entry_list_sort ?_ (ksk_l1 _ _)))
 rw [ksk_t1]
 have d0:s.heap.get? (s.heap.objs.size+1)=none:=Heap.get?_none_of_le (Nat.le_succ _)
 refine sortK_tree (ts:=ts) I F (fun t ht Hj _=>hr t ht Hj) ((Run.start I).kept keep) d0 k2 (I.hok.fresh (Nat.le_succ _)) rv ht (fun b o e=>Heap.lt_size (keep b o e)) ?_
 intro vs out Hn sn e run same dn hD rv' up pw
 have lo:vs.length≤sizeLine:=by rw [up.length_eq];exact ht
 have new:=run.told (o := .lst (vs.map V.str)) d0 dn ⟨by rw [List.length_map];exact lo,out.toList,e,rv',by simpa [seqObj] using hD⟩
 refine ⟨_,rfl,wpAny_pure ⟨_,rfl, .ref (s.heap.objs.size+1),_,new.inv I,rfl,q vs _ _ up pw (fun a o z => ?_) (I.hok.fresh (Nat.le_succ _)) upd_same⟩⟩
 rw [upd_ne (fun h=>by rw [h,I.hok.fresh (Nat.le_succ _)] at z;cases z)]
 exact same a o z
end
end L2
namespace L2
open PySem PySem.Spec PyProof.Rows
section
open PySem.SeqAt
open PySem.AutoSeq1 (wpAny_loadPart')
open PySem.MeetsSeq PySem.MeetsSeq2 PySem.MeetsSeq3
end
section
variable {prog:Program} {w:World} {A:Around} {E:Value→Shared→Prop} {s:Shared}
end
section
variable {X:Cx}
end
end L2
namespace L2
open PySem PySem.Spec PyProof.Rows PySem.W
section
variable {X:Cx} {H:Hp} {s0:Shared} {pins:List (Addr×Obj)} {σ:St} {I S p:Addr} {as:List Addr} {kt:Nat→Str} {f:Addr} {r:V→Hp→VK→Prop}
end
section
variable {X:Cx} (K:PySem.W.Frag)
end
end L2
namespace L2
open PySem PySem.Spec PyProof.Rows PySem.W
theorem args_maxD (a v:Value):argsOk "max" ⟨[a],[(Str.ofString "default",v)]⟩:=by unfold argsOk;kernel_rfl
section
variable {prog:Program} {w:World} {A:Around} {R:Result→Shared→Prop} {I:Addr} {fp wr:List Addr} {n:Nat} {P:Nat→Value→Prop} {St:Nat→Heap→Prop} {kw:List (Str×Value)}
theorem maxD_loop (W:Walks prog w A.in1 I fp wr n P St) (bt:Nat→Nat→Bool) (hcmp:CmpOf prog w A.in1 .Gt P bt) (S:Addr) (hSf:S ∉ fp) :
  ∀(k j:Nat) (s:Shared) (vb:Value) (c:Nat),n-(j+1)=k→j+1≤n→St (j+1) s.heap→P (argBest bt j) vb →
  s.heap.get? S=some { cls := .type "list",dict:=none,data := .seq #[vb,vb] c,slots := #[] } →
  (∀v h' tk,P (argBest bt (n-1)) v→(∀b o,b ∉ wr→b≠S→s.heap.get? b=some o→h'.get? b=some o)→R (.ok (.ret v)) { s with heap:=h',toks:=tk }) →
  codeAny (model prog w) A (.builtin "max.loop" ⟨[.ref I, .none, .ref S],kw⟩) R s:=by
 have hSw:S ∉ wr:=fun h=>hSf (W.sub _ h)
 have hname:(toString "max" ++ toString ".loop" : String) = "max.loop":=by decide
 intro k
 induction k with
 | zero=>
  intro j s vb c hk hj hst hPb hS hR
  have hin:j+1=n:=by (first|lia|omega)
  refine codeAny_builtin F.entry_max_loop ?_
  rw [Around.under_plainId F.plain_max_loop _]
  show wpAny _ A.in1 (seqItems? (.ref S) >>= _) _ _ s
  refine wpAny_bind (wpAny_seqItems hS rfl ?_)
  show wpAny _ A.in1 (tryCatch (pyNext (.ref I)) _ >>= _) _ _ s
  refine wpAny_bind (wpAny_tryCatch (W.done s _ _ (hin ▸ hst) fun h' tk hk' => ?_))
  have hS':=hk' S _ hSw hS
  show wpAny _ A.in1 (updateSeq S (fun _ => #[]) >>= _) _ _ _
  refine wpAny_bind (wpAny_updateSeq hS' rfl (wpAny_bind (wpAny_letGo (wpAny_pure ?_))))
  exact hR vb _ tk (by rw [←hin];exact hPb) fun b o hbw hbS e=>(Heap.get?_update_other _ _ (Ne.symm hbS)).trans (hk' b o hbw e)
 | succ k ih=>
  intro j s vb c hk hj hst hPb hS hR
  have hlt:j+1<n:=by (first|lia|omega)
  refine codeAny_builtin F.entry_max_loop ?_
  rw [Around.under_plainId F.plain_max_loop _]
  show wpAny _ A.in1 (seqItems? (.ref S) >>= _) _ _ s
  refine wpAny_bind (wpAny_seqItems hS rfl ?_)
  show wpAny _ A.in1 (tryCatch (pyNext (.ref I)) _ >>= _) _ _ s
  refine wpAny_bind (wpAny_tryCatch (W.item (j+1) s _ _ hlt hst fun v h' tk hP hst' hk' => ?_))
  have hS':=hk' S _ hSw hS
  show wpAny _ A.in1 (tryCatch (holding [v,v] (richCompare .Gt v vb >>= _)) _ >>= _) _ _ _
  refine wpAny_bind (wpAny_tryCatch (wpAny_holding (wpAny_bind (hcmp (j+1) (argBest bt j) v vb _ _ _ hP hPb ?_))))
  refine wpAny_bind (wpAny_holding (wpAny_truthy_bool ?_))
  refine wpAny_bind (wpAny_letGo (wpAny_pure ?_))
  cases hb:bt (j+1) (argBest bt j) with
  | true=>
   simp only [if_true]
   refine wpAny_bind (wpAny_updateSeq hS' rfl (wpAny_bind (wpAny_letGo ?_)))
   rw [hname]
   refine wpAny_pure ⟨plainId_quiet F.plain_max_loop _,ih (j+1) _ v _ (by first|lia|omega) hlt (W.frame _ _ _ hst' fun b hbf o e => ?_) (by simp only [argBest,hb,if_true];exact hP) (Heap.get?_update_self _ hS' rfl) fun v' h'' tk'' hP' hk'' => ?_⟩
   ·exact (Heap.get?_update_other _ _ (fun h:S=b=>hSf (by rw [h];exact hbf))).trans e
   ·exact hR v' h'' tk'' hP' fun b o hbw hbS e=>hk'' b o hbw hbS ((Heap.get?_update_other _ _ (Ne.symm hbS)).trans (hk' b o hbw e))
  | false=>
   simp only [Bool.false_eq_true,if_false]
   refine wpAny_bind (wpAny_letGo ?_)
   rw [hname]
   refine wpAny_pure ⟨plainId_quiet F.plain_max_loop _,ih (j+1) _ vb c (by first|lia|omega) hlt hst' (by simp only [argBest,hb,Bool.false_eq_true,if_false];exact hPb) hS' fun v' h'' tk'' hP' hk'' => ?_⟩
   exact hR v' h'' tk'' hP' fun b o hbw hbS e=>hk'' b o hbw hbS (hk' b o hbw e)
theorem maxD_first (W:Walks prog w A.in1 I fp wr n P St) (bt:Nat→Nat→Bool) (hcmp:CmpOf prog w A.in1 .Gt P bt) (S:Addr) (hSf:S ∉ fp) {dv:Value} {s:Shared} {c:Nat} (hst:St 0 s.heap)
  (hS:s.heap.get? S=some { cls := .type "list",dict:=none,data := .seq #[] c,slots := #[] })
  (hR:∀v h' tk,(n=0∧v=dv)∨(0<n∧P (argBest bt (n-1)) v)→(∀b o,b ∉ wr→b≠S→s.heap.get? b=some o→h'.get? b=some o)→R (.ok (.ret v)) { s with heap:=h',toks:=tk }) :
  codeAny (model prog w) A (.builtin "max.loop" ⟨[.ref I, .none, .ref S],[(Str.ofString "default",dv)]⟩) R s:=by
 have hSw:S ∉ wr:=fun h=>hSf (W.sub _ h)
 have hname:(toString "max" ++ toString ".loop" : String) = "max.loop":=by decide
 refine codeAny_builtin F.entry_max_loop ?_
 rw [Around.under_plainId F.plain_max_loop _]
 show wpAny _ A.in1 (seqItems? (.ref S) >>= _) _ _ s
 refine wpAny_bind (wpAny_seqItems hS rfl ?_)
 show wpAny _ A.in1 (tryCatch (pyNext (.ref I)) _ >>= _) _ _ s
 by_cases hn:0<n
 ·refine wpAny_bind (wpAny_tryCatch (W.item 0 s _ _ hn hst fun v h' tk hP hst' hk' => ?_))
  have hS':=hk' S _ hSw hS
  show wpAny _ A.in1 (updateSeq S (fun _ => #[v,v]) >>= _) _ _ _
  refine wpAny_bind (wpAny_updateSeq hS' rfl ?_)
  rw [hname]
  refine wpAny_pure ⟨plainId_quiet F.plain_max_loop _,maxD_loop W bt hcmp S hSf _ 0 _ v _ rfl hn (W.frame _ _ _ hst' fun b hbf o e => ?_) hP (Heap.get?_update_self _ hS' rfl) fun v' h'' tk'' hP' hk'' => ?_⟩
  ·exact (Heap.get?_update_other _ _ (fun h:S=b=>hSf (by rw [h];exact hbf))).trans e
  ·exact hR v' h'' tk'' (.inr ⟨hn,hP'⟩) fun b o hbw hbS e=>hk'' b o hbw hbS ((Heap.get?_update_other _ _ (Ne.symm hbS)).trans (hk' b o hbw e))
 ·have h0:n=0:=by (first|lia|omega)
  refine wpAny_bind (wpAny_tryCatch (W.done s _ _ (h0 ▸ hst) fun h' tk hk' => ?_))
  refine wpAny_bind (wpAny_rule (wpAny_pure ?_))
  exact hR dv h' tk (.inl ⟨h0,rfl⟩) fun b o hbw hbS e=>hk' b o hbw e
end
variable {X:Cx}
theorem maxD (K:PySem.W.Frag) (hc:X.calm=true) (hK:X.K=K:=by rfl):CallKR X "max" [Str.ofString "default"] (fun xs zs H Q=>Ex3 fun (p:Addr) (ns:List Int) (d:Int)=>xs=[.ref p]∧zs=[.int d]∧SqL K H p (ns.map V.int)∧∀M,(ns=[]∧M=d)∨(M∈ns∧∀a∈ns,a≤M)→Q (.int M) H):=by
 subst hK
 intro pins s σ H xs us zs ws Q I r1 r2 h
 refine Elim.el (h) _ ?_
 rintro p ns d rfl rfl hq q
 refine Elim.el (vals1 r1) _ ?_
 rintro u rfl ru
 refine Elim.el (vals1 r2) _ ?_
 rintro z rfl rz
 cases ru
 have hname:(toString "max" ++ toString ".loop" : String) = "max.loop":=by decide
 show wpAny _ _ (call (.builtin "max") [.ref p] [(Str.ofString "default",z)]) _ _ _
 refine kmk_tree PySem.F.kind_max PySem.F.plain_max PySem.F.entry_max (args_maxD _ _) ?_
 change wpAny _ X.A.in1 (Bind.bind (Builtin.Builtins.bindParams "max" ["key", "default"] 0 ⟨[],[(Str.ofString "default",z)]⟩) _) _ _ s
 refine wpAny_bind (wpAny_of_eq (show Builtin.Builtins.bindParams "max" ["key", "default"] 0 ⟨[],[(Str.ofString "default",z)]⟩=pure [none,some z] from rfl) (wpAny_bind (wpAny_pure ?_)))
 refine wpAny_bind (walk_list (A:=X.A.in1) (I.ok.hd hc) I hq fun its it s2 rv hz W st hlt hI => ?_)
 have hl:its.toArray.size=ns.length:=by have:=rv.length;simp at this ⊢; (first|lia|omega)
 refine wpAny_bind (wpAny_newObj_type ?_)
 have hSf:s2.heap.objs.size ∉ [it,p]:=fun hm=>Nat.lt_irrefl _ (hlt _ hm)
 rw [hname]
 refine wpAny_pure ⟨plainId_quiet PySem.F.plain_max_loop _,maxD_first W (fun i j=>decide (ns.getD i 0>ns.getD j 0)) ?_ s2.heap.objs.size hSf (W.frame _ _ _ st fun b _ o e=>Heap.get?_push_of_some _ e) (Heap.get?_push_size _ rfl) fun v h' tk hP hk => ?_⟩
 ·refine CmpOf.ints_gt (fun i=>ns.getD i 0) fun {i v} e => ?_
  obtain ⟨n,t,h1,rfl⟩:=int_at rv e
  exact ⟨t,by simp [List.getD,h1]⟩
 ·have I2:=hI h' tk fun b o hbw e=>hk b o hbw (Nat.ne_of_lt (Heap.lt_size e)) (Heap.get?_push_of_some _ e)
  rcases hP with ⟨h0,rfl⟩|⟨h0,e⟩
  ·exact ⟨.int d,H,I2,rz,q d (.inl ⟨List.eq_nil_of_length_eq_zero (by first|lia|omega),rfl⟩)⟩
  ·obtain ⟨n,t,h1,rfl⟩:=int_at rv e
   obtain ⟨b1,b2⟩:=argBest_gt (fun i=>ns.getD i 0) (its.toArray.size-1)
   refine ⟨.int n,H,I2,⟨_,rfl⟩,q n (.inr ⟨List.mem_of_getElem? h1,fun a ha => ?_⟩)⟩
   obtain ⟨j,hj⟩:=List.getElem?_of_mem ha
   have hjl:j<ns.length:=(List.getElem?_eq_some_iff.mp hj).1
   have z:=b2 j (by first|lia|omega)
   have e1:ns.getD j 0=a:=by simp [List.getD,hj]
   have e2:ns.getD (argBest (fun i j=>decide (ns.getD i 0>ns.getD j 0)) (its.toArray.size-1)) 0=n:=by rw [List.getD_eq_getElem?_getD,h1];rfl
   rw [←e1, ←e2]
   exact z
end L2
namespace L2
open PySem PySem.Spec PyProof.Rows
section
variable {X:Cx} {tg:Expr}
end
end L2
namespace L2
open PySem PySem.Spec PyProof.Rows
section
variable {X:Cx}
end
end L2
namespace L2
open PySem PySem.Spec PyProof.Rows
section
variable {X:Cx} {K:PySem.W.Frag}
end
end L2
namespace L2
open PySem PySem.Spec PyProof.Rows PySem.W
section
variable {X:Cx} {pins:List (Addr×Obj)} {σ:St} {H:Hp} {s:Shared}
end
section
variable {X:Cx}
end
end L2
namespace L2
open PySem PySem.Spec PyProof.Rows
section
variable {X:Cx}
theorem vals_erase:∀{xs:List V} {us:List Value} (j:Nat),Vals xs us→Vals (xs.eraseIdx j) (us.eraseIdx j)
 | _,_,_, .nil=>by simp;exact .nil
 | _,_,0, .cons _ t=>by simpa using t
 | _,_,j+1, .cons h t=>by simpa using .cons h (vals_erase j t)
end
end L2
namespace L2
open PySem PySem.Spec PyProof.Rows
section
variable {X:Cx} {e:Expr} {te:TE} {j p2 p3 p4 pos}
end
end L2
namespace L2
open PySem PySem.Spec PyProof.Rows
section
variable {X:Cx} {K:PySem.W.Frag}
end
section
variable {X:Cx} {o i:Expr} {td ty:TE} {pos:Pos}
end
section
variable {X:Cx} {pins:List (Addr×Obj)} {σ:St} {H:Hp} {s:Shared}
open Classical in
end
section
variable {X:Cx}
end
section
variable {X:Cx}
end
end L2
namespace L2
open PySem PySem.Spec PyProof.Rows PySem.W PySem.Calls Builtin Builtin.ObjectAttr
section
variable {prog:Program} {w:World} {A:Around} {K:Frag} {C e:Addr} {s:Shared} {E:Value→Shared→Prop} {f:Str} {v:Value}
end
section
variable {prog:Program} {w:World} {A:Around} {E:Value→Shared→Prop} {h0:Heap} {g0:Array GenState} {d0:Drawn} {t0:Nat} {os0:OsState} {nm qn:Str} {C N fi:Addr} {bs up tail:List Value} {hdct:Bool} {sn:List Str} {sub:List Value} {ab:Bool}
 {col:Option Bool} {dd:Option Addr} {k0 k1 k2 k3 k5:Option Value} {B newId initId:String}
end
section
variable {X:Cx} {pins:List (Addr×Obj)} {σ:St} {H:Hp} {s:Shared} {e C:Addr}
end
section
variable {K:Frag} {C D N:Addr} {nm qn:Str} {bs up:List Value} {hdct:Bool} {sn:List Str} {sub:List Value} {ab:Bool} {col:Option Bool} {dd:Option Addr} {k0 k1 k2 k3 k5:Option Value}
end
section
variable {prog:Program} {w:World} {A:Around} {E:Value→Shared→Prop}
end
end L2
namespace L2
open PySem PySem.Spec PyProof.Rows PySem.Builtin PySem.Builtin.Str
end L2
namespace L2
open PySem PySem.Spec PyProof.Rows
end L2
namespace L2
open PySem PySem.Spec PyProof.Rows
section
variable {X:Cx} {pins:List (Addr×Obj)} {σ:St} {H:Hp} {s:Shared} {a:Addr} {u v:HO}
theorem Inv.relet (I:Inv X pins σ H s) (hu:H a=some u) (nt:∀xs,u ≠ .tup xs) (nf:∀o w,X.H₀ a≠some (.frz o w)) (nb:∀ps,u ≠ .tbl ps) (no:∀y,u ≠ .own y) (hv:∀H',(∀b,H b=some (.own a)→H' b=some (.own a))→(∀b xs,H b=some (.tup xs)→H' b=some (.tup xs))→ObjOk X.prog X.w H' s.heap a v) :
  Inv X pins σ (upd H a v) s:=by
 have hne:∀{b:Addr},H b=none→b≠a:=fun e z=>by rw [z,hu] at e;cases e
 have own:∀b y,H b=some (.own y)→upd H a v b=some (.own y):=fun b y e=>by
  rw [upd_ne (fun z=>by rw [z,hu] at e;exact no y (Option.some.inj e))];exact e
 have tup:∀b xs,H b=some (.tup xs)→upd H a v b=some (.tup xs):=fun b xs e=>by
  rw [upd_ne (fun z=>by rw [z,hu] at e;exact nt xs (Option.some.inj e))];exact e
 refine ⟨I.ok,I.os,I.bare,⟨I.base.keep,I.base.slot,fun b o q n hx => ?_,I.base.there,fun b xs q=>tup b xs (I.base.tups b xs q),fun b o w q => ?_,fun b ps q => ?_⟩,I.loc,I.cell,?_,fun x c e => ?_,fun p hp => ?_,fun b o e => ?_,I.len⟩
 ·have:=I.base.free b o q n hx
  rw [upd_ne (hne this)];exact this
 ·have:=I.base.frzs b o w q
  rw [upd_ne (fun z=>by rw [z] at q;exact nf _ _ q)];exact this
 ·obtain ⟨more,e⟩:=I.base.tbls b ps q
  exact ⟨more,by rw [upd_ne (fun z=>by rw [z,hu] at e;exact nb _ (Option.some.inj e))];exact e⟩
 ·rw [upd_ne (hne I.free)];exact I.free
 ·rw [upd_ne (hne (I.freeC x c e))];exact I.freeC x c e
 ·obtain ⟨p1,p2,p3⟩:=I.pin p hp
  exact ⟨p1,by rw [upd_ne (hne p2)];exact p2,p3⟩
 ·by_cases z:b=a
  ·subst z
   rw [upd_same] at e
   cases e
   exact hv _ (fun b e=>own b _ e) tup
  ·rw [upd_ne z] at e
   exact (I.hok b o e).stay (fun _ _ _ q=>q) (fun b e=>own b _ e) tup
theorem Inv.freeze {kvs:List (Key×V)} (I:Inv X pins σ H s) (h:H a=some (.dK kvs)):∃ob ep vs,s.heap.get? a=some ob∧KV kvs vs∧(a == sysModules)=false∧(∀h':Heap,h'.get? a=some ob→h'.DictAt (mixKind X.prog X.w) a vs ep)∧Inv X pins σ (upd H a (.frz ob (.dK kvs))) s:=by
 obtain ⟨z,ns,vs,kv,o,es,ep,e,r⟩:=I.hok a _ h
 refine ⟨o,ep,vs,e,kv,ns,fun h' e'=>⟨o,es,e',r⟩,I.relet h (fun _ z=>nomatch z) (fun o w q => ?_) (fun _ z=>nomatch z) (fun _ z=>nomatch z) fun H' _ _=>⟨e,z,ns,vs,kv,o,es,ep,e,r⟩⟩
 have:=I.base.frzs a o w q
 rw [h] at this;cases this
theorem Inv.thaw {ob:Obj} {kvs:List (Key×V)} (I:Inv X pins σ H s) (h:H a=some (.frz ob (.dK kvs))) (nf:∀o w,X.H₀ a≠some (.frz o w)):Inv X pins σ (upd H a (.dK kvs)) s:=by
 obtain ⟨e,z,ns,vs,kv,o,es,ep,e',r⟩:=I.hok a _ h
 exact I.relet h (fun _ z=>nomatch z) nf (fun _ z=>nomatch z) (fun _ z=>nomatch z) fun H' _ _=>⟨z,ns,vs,kv,o,es,ep,e',r⟩
end
noncomputable def Itd (ob:Obj) (a:Addr) (kvs:List (Key×V)):It:=⟨fun i H=>H a=some (.frz ob (.dK kvs))∧i<kvs.length,fun i H x H'=>H'=H∧∃q,kvs[i]? = some q∧x=kV q.1,fun i H=>H a=some (.frz ob (.dK kvs))∧kvs.length≤i⟩
theorem kv_atK:∀{kvs:List (Key×V)} {vs:List (Key×Value)} {i:Nat} {q:Key×V},KV kvs vs→kvs[i]? = some q→∃z,vs[i]? = some (q.1,z)
 | _ :: _,_ :: _,0,_, .cons h _,e=>by cases e;exact ⟨_,by rw [h.1];rfl⟩
 | _ :: _,_ :: _,i+1,_, .cons _ t,e=>kv_atK (i:=i) t e
theorem turn_dkeys {P:Program} {w:World} {K:PySem.W.Frag} {tg:Expr} {a it:Addr} {ob:Obj} {ep:Nat} {kvs:List (Key×V)} {vs:List (Key×Value)} (kv:KV kvs vs) (D:∀h':Heap,h'.get? a=some ob→h'.DictAt (mixKind P w) a vs ep) :
  Turn P w K tg (Itd ob a kvs) [it] it (fun i h=>h.IsKeyIter it a i vs.length ep) where
 mem:=by simp
 obj:=fun i h st b hb=>by
  have e:b=it:=by simpa using hb
  subst e
  obtain ⟨o,e,c,d⟩:=st
  exact ⟨o,e,fun v z=>by rw [d] at z;cases z⟩
 keep:=fun i h h' st k=>by
  obtain ⟨o,e,c,d⟩:=st
  exact ⟨o,k it (by simp) o e,c,d⟩
 item:=by
  intro X hP hw hK hc i pins s σ H E I hf st hg
  subst hP hw hK
  obtain ⟨ha,hi⟩:=hg
  obtain ⟨f0,f1,f2,f3,f4,f5⟩:=hf it (by simp)
  obtain ⟨z,hz⟩:=kv_atK kv (List.getElem?_eq_getElem hi)
  refine wpAny_pyNext_dict_item (knd:=mixKind X.prog X.w) st (D _ (I.hok a _ ha).1) hz fun key h' hk st' sb => ?_
  have I1:Inv X pins σ H { s with heap:=h' }:=I.turned (t':=s.toks) (fun b o hb e=>(sb.2 b hb).trans e) f0 f1 f3 f4 f5
  obtain ⟨o,e,c,d⟩:=id st'
  have rk:RelV (kV kvs[i].1) key:=by
   rcases keyIs_shape hk with ⟨n,t,e1,e2⟩|⟨x,t,e1,e2⟩
   ·rw [e1,e2];exact ⟨t,rfl⟩
   ·rw [e1,e2];exact ⟨t,rfl⟩
  exact ⟨_,rfl,go_of (s:={ s with heap:=h' }) e c d (by decide) ⟨_,H,I1,rk,⟨rfl,_,List.getElem?_eq_getElem hi,rfl⟩,st',fun b hb=>(hf b hb).1⟩⟩
 done:=by
  intro X hP hw hK hc i pins s σ H E I hf st hg
  subst hP hw hK
  obtain ⟨ha,hi⟩:=hg
  obtain ⟨f0,f1,f2,f3,f4,f5⟩:=hf it (by simp)
  exact wpAny_pyNext_dict_end (knd:=mixKind X.prog X.w) (I.ok.hd hc) st (D _ (I.hok a _ ha).1) (List.getElem?_eq_none (by rw [←kv.length];exact hi)) fun h' eb=>⟨rfl,I.turned (t':=s.toks) (fun b o hb e=>eb b o hb e) f0 f1 f3 f4 f5⟩
 self:=fun A i s Q E st h=>wpAny_pyIter_keyiter st h
noncomputable def iDKeys (tl:TE):TI:=fun σ H R=>tl σ H fun x H1=>Ex2 fun (a:Addr) (kvs:List (Key×V))=>x = .ref a∧H1 a=some (.dK kvs)∧∀ob,R (Itd ob a kvs) (upd H1 a (.frz ob (.dK kvs)))
theorem pi_dkeys {X:Cx} {tg l:Expr} {tl:TE} (hl:PE X l tl):PI X tg l (iDKeys tl):=by
 intro pins s σ H R I h
 refine thn (hl s σ H _ I h) fun v s1 ⟨x,H1,I1,r1,a,kvs,e,ha,q⟩ => ?_
 subst e
 cases r1
 refine Elim.el (I1.freeze ha) _ ?_
 rintro ob ep vs eo kv ns D I2
 refine wpAny_pyIter_dict (knd:=mixKind X.prog X.w) ns (D _ eo) ?_
 have hk:∀b o,s1.heap.get? b=some o→(s1.heap.push { cls := .type "dict_keyiterator",data := .fields #[.ref a, .int 0 0, .int vs.length 0, .int ep 0] }).get? b=some o:=fun b o e=>Heap.get?_push_of_some _ e
 have I3:=I2.kept (t':=s1.toks) hk
 refine ⟨_,_,_,_,_,rfl,I3,turn_dkeys kv D,⟨_,Heap.get?_push_size _ rfl,rfl,rfl⟩,fun c hc => ?_,q ob⟩
 have hcs:s1.heap.objs.size≤c:=by
  simp at hc
  rw [hc];exact Nat.le_refl _
 exact I2.fpOk hcs (I2.hok.fresh hcs)
noncomputable def tThaw (te:TE):TE:=fun σ H Q=>∃a,(∃kvs,H a=some (.dK kvs))∧te σ H fun v H'=>∃ob kvs,H' a=some (.frz ob (.dK kvs))∧Q v (upd H' a (.dK kvs))
theorem pe_thaw {X:Cx} {e:Expr} {te:TE} (h:PE X e te):PE X e (tThaw te):=by
 intro pins s σ H Q I hq
 obtain ⟨a,⟨kvs,ha⟩,q⟩:=hq
 have nf:∀o w,X.H₀ a≠some (.frz o w):=fun o w z=>by
  have:=I.base.frzs a o w z
  rw [ha] at this;cases this
 refine thn (h s σ H _ I q) fun u s1 ⟨v,H1,I1,r1,ob,kvs',h1,q1⟩=>⟨v,_,I1.thaw h1 nf,r1,q1⟩
end L2
namespace L2
open PySem PySem.Spec PyProof.Rows
section
variable {prog:Program} {w:World} {A:Around} {E:Value→Shared→Prop} {s:Shared}
theorem iter_dictO {d:Addr} {o:Obj} {es:Array DictEntry} {ep:Nat} {Q:Value→Shared→Prop} (hd:(d == sysModules)=false) (hT:s.TypeIs (.ref d) "dict") (ho:s.heap.get? d=some o) (hdat:o.data = .dict es ep)
  (hQ:Q (.ref s.heap.objs.size) { s with heap:=s.heap.push { cls := .type "dict_keyiterator",data := .fields #[.ref d, .int 0 0, .int es.size 0, .int ep 0] } }):wpAny (model prog w) A (pyIter (.ref d)) Q E s:=by
 refine wpAny_pyIter_slot hT F.slot_dict_iter (wpAny_call_entry F.slot_dict_iter hT F.entry_dict_iter ?_ (F.args_dict_iter_1 _))
 unfold Builtin.«dict.__iter__»
 refine wpAny_bind ?_
 unfold Builtin.Dict.dictSlotNone
 refine wpAny_bind (wpAny_notOrdered_dict hT ?_)
 show wpAny _ _ (pure (Value.ref d)) _ _ s
 refine wpAny_pure ?_
 show wpAny _ _ (Builtin.Dict.showsAll d >>= _) _ _ s
 unfold Builtin.Dict.showsAll
 rw [if_neg (by rw [hd];exact Bool.false_ne_true)]
 refine wpAny_bind (wpAny_pure ?_)
 refine wpAny_bind (wpAny_dictEntries ho hdat ?_)
 refine wpAny_bind (wpAny_dictEpoch ho hdat ?_)
 refine wpAny_bind (wpAny_newObj_type (wpAny_pure ⟨_,rfl, "dict_keyiterator",_,⟨_,Heap.get?_push_size _ rfl,rfl⟩,F.slot_dict_keyiterator_next.lookup,?_⟩))
 simpa [rawInt] using hQ
theorem next_dictO {it d:Addr} {i ep:Nat} {od:Obj} {es:Array DictEntry} {Q:Option Value→Shared→Prop} (hit:s.heap.IsKeyIter it d i es.size ep) (hod:s.heap.get? d=some od) (hdd:od.data = .dict es ep) (hlt:i<es.size)
  (hQ:∀h':Heap,h'.IsKeyIter it d (i+1) es.size ep→Heap.SameBut it s.heap h'→Q (some es[i].key) { s with heap:=h' }):wpAny (model prog w) A (pyNext (.ref it)) Q E s:=by
 obtain ⟨o,ho,hc,hd⟩:=id hit
 unfold pyNext
 refine wpAny_bind (wpAny_attempt (wpAny_callSpecial?_slot (name:=Str.ofString "__next__") hit.typeIs F.slot_dict_keyiterator_next
  (wpAny_call_entry F.slot_dict_keyiterator_next hit.typeIs F.entry_dict_keyiterator_next ?_ (F.args_dict_keyiterator_next_1 _))))
 refine wpAny_bind (wpAny_pure ?_)
 refine wpAny_bind ?_
 refine wpAny_bind ?_
 first|refine wpAny_bind (wpAny_typeNameOfWhole_keyiter hit.typeIs (wpAny_pure ?_))|refine wpAny_bind (wpAny_typeNameOf_keyiter hit.typeIs (wpAny_pure ?_))
 refine wpAny_bind (wpAny_fieldsOf ho hd ?_)
 have hown:Builtin.Dict_items.ownsTuple "dict_keyiterator" = false:=by decide
 simp only [hown,Bool.false_eq_true,if_false]
 show wpAny _ _ (if (Value.ref d == Value.none)=true then _ else _) _ _ s
 rw [if_neg (show ¬((Value.ref d == Value.none)=true) from Bool.false_ne_true)]
 refine wpAny_bind (wpAny_pure ?_)
 refine wpAny_bind (wpAny_dictEntries hod hdd ?_)
 rw [if_neg (by simp)]
 refine wpAny_bind (wpAny_pure ?_)
 refine wpAny_bind (wpAny_dictEpoch hod hdd ?_)
 rw [if_neg (by simp)]
 refine wpAny_pure ?_
 simp only [show ¬((i:Int)<0) from by first|lia|omega,if_false,Int.toNat_natCast,Array.getElem?_eq_getElem hlt]
 refine wpAny_bind ?_
 first|refine wpAny_bind (wpAny_typeNameOfWhole_keyiter hit.typeIs (wpAny_pure ?_))|refine wpAny_bind (wpAny_typeNameOf_keyiter hit.typeIs (wpAny_pure ?_))
 refine wpAny_bind (wpAny_isOneOf_keyiter hit.typeIs ?_)
 show wpAny _ _ (setField (.ref it) 1 (rawInt ((i:Int)+1)) >>= _) _ _ s
 refine wpAny_bind (wpAny_setField ho hd (by simp) ?_)
 have hit':(s.heap.update it (Obj.mapFields (·.setIfInBounds 1 (rawInt ((i:Int)+1))))).IsKeyIter it d (i+1) es.size ep:=
  ⟨_,Heap.get?_update_self _ ho (Obj.isFreed_of_fields (Obj.data_mapFields hd _)),(Obj.cls_mapFields ..).trans hc,by rw [Obj.data_mapFields hd];simp [rawInt]⟩
 refine wpAny_bind (wpAny_holding ?_)
 refine wpAny_bind (wpAny_isOneOf_keyiter (s:={ s with heap:=s.heap.update it (Obj.mapFields (·.setIfInBounds 1 (rawInt ((i:Int)+1)))) }) hit'.typeIs ?_)
 show wpAny _ _ (pure es[i].key) _ _ _
 exact wpAny_pure (wpAny_pure ⟨_,rfl,wpAny_pure (hQ _ hit' (Heap.SameBut.update ..))⟩)
theorem done_dictO {it d:Addr} {i ep:Nat} {od:Obj} {es:Array DictEntry} {Q:Option Value→Shared→Prop} (hh:A.handled=none) (hit:s.heap.IsKeyIter it d i es.size ep) (hod:s.heap.get? d=some od) (hdd:od.data = .dict es ep) (hge:es.size≤i)
  (hQ:∀h':Heap,Heap.ExtBut it s.heap h'→Q none { s with heap:=h' }):wpAny (model prog w) A (pyNext (.ref it)) Q E s:=by
 obtain ⟨o,ho,hc,hd⟩:=id hit
 unfold pyNext
 refine wpAny_bind (wpAny_attempt (wpAny_callSpecial?_slot (name:=Str.ofString "__next__") hit.typeIs F.slot_dict_keyiterator_next
  (wpAny_call_entry F.slot_dict_keyiterator_next hit.typeIs F.entry_dict_keyiterator_next ?_ (F.args_dict_keyiterator_next_1 _))))
 refine wpAny_bind (wpAny_pure ?_)
 refine wpAny_bind ?_
 refine wpAny_bind ?_
 first|refine wpAny_bind (wpAny_typeNameOfWhole_keyiter hit.typeIs (wpAny_pure ?_))|refine wpAny_bind (wpAny_typeNameOf_keyiter hit.typeIs (wpAny_pure ?_))
 refine wpAny_bind (wpAny_fieldsOf ho hd ?_)
 have hown:Builtin.Dict_items.ownsTuple "dict_keyiterator" = false:=by decide
 simp only [hown,Bool.false_eq_true,if_false]
 show wpAny _ _ (if (Value.ref d == Value.none)=true then _ else _) _ _ s
 rw [if_neg (show ¬((Value.ref d == Value.none)=true) from Bool.false_ne_true)]
 refine wpAny_bind (wpAny_pure ?_)
 refine wpAny_bind (wpAny_dictEntries hod hdd ?_)
 rw [if_neg (by simp)]
 refine wpAny_bind (wpAny_pure ?_)
 refine wpAny_bind (wpAny_dictEpoch hod hdd ?_)
 rw [if_neg (by simp)]
 refine wpAny_pure ?_
 simp only [show ¬((i:Int)<0) from by first|lia|omega,if_false,Int.toNat_natCast,Array.getElem?_eq_none hge]
 refine wpAny_bind ?_
 first|refine wpAny_bind (wpAny_typeNameOfWhole_keyiter hit.typeIs (wpAny_pure ?_))|refine wpAny_bind (wpAny_typeNameOf_keyiter hit.typeIs (wpAny_pure ?_))
 show wpAny _ _ (setField (.ref it) 0 .none >>= _) _ _ s
 refine wpAny_bind (wpAny_setField ho hd (by simp) ?_)
 show wpAny _ _ (newExc (.type "StopIteration") [] >>= _) _ _ _
 refine wpAny_bind ?_
 simp only [newExc,newTuple]
 refine wpAny_bind (wpAny_newObj_type ?_ (by size_fits))
 refine wpAny_bind (m:=firstArgMember _ _) (wpAny_of_eq (a:=Value.none) (by first|rfl|(simp only [firstArgMember];rfl)) ?_)
 refine wpAny_newObj_type ?_ (by size_fits)
 simp only [raiseNew]
 refine wpAny_bind (wpAny_handled ?_)
 rw [show A.in1.handled=none from hh]
 refine wpAny_bind (wpAny_pure (wpAny_throw ?_))
 refine wpAny_bind (wpAny_isInstance (T := "StopIteration") (b:=true) ⟨_,Heap.get?_push_size _ rfl,rfl⟩ isSubtype_stop ?_)
 exact wpAny_pure (hQ _ (((Heap.SameBut.update ..).extBut.push _).push _))
end
section
variable {X:Cx} {pins:List (Addr×Obj)} {σ:St} {H:Hp} {s:Shared} {a:Addr} {u v:HO}
theorem Inv.freezeT {kvs:List (List Key×V)} (I:Inv X pins σ H s) (h:H a=some (.dT kvs)):Ex3 fun ob es ep=>s.heap.get? a=some ob∧ob.data = .dict es ep∧es.size=kvs.length∧(a == sysModules)=false∧s.TypeIs (.ref a) "dict" ∧ Inv X pins σ (upd H a (.frz ob (.dT kvs))) s:=by
 obtain ⟨z,ns,xs,kt,o,es,ep,e,ex,hd,he,nd⟩:=(show ObjOk X.prog X.w H s.heap a (.dT kvs) from I.hok a _ h)
 obtain ⟨_,_,_,_,dd⟩:=dt_of I.hok h
 refine ⟨o,es,ep,e,hd,?_,ns,dd.typeIs,I.relet h (fun _ z=>nomatch z) (fun o w q => ?_) (fun _ z=>nomatch z) (fun _ z=>nomatch z) fun H' _ ht=>⟨e,z,ns,xs,KT.keeps kt ht,o,es,ep,e,ex,hd,he,nd⟩⟩
 ·have:=congrArg List.length he
  rw [List.length_map, ←Paired.length kt] at this
  exact this
 ·have:=I.base.frzs a o w q
  rw [h] at this;cases this
end
theorem kt_at {H:Hp} {kvs:List (List Key×V)} {xs:List (List Key×Addr×Value)} (r:KT H kvs xs):∀{i:Nat} {q:List Key×V},kvs[i]? = some q→∃b v,xs[i]? = some (q.1,b,v)∧H b=some (.tup (q.1.map kV)):=by
 induction r with
 | nil=>intro i q e;simp at e
 | @cons p x ps xs h t ih=>
  intro i q e
  cases i with
  | zero=>
   cases e
   obtain ⟨k,b,v⟩:=x
   obtain ⟨rfl,h2,_⟩:=h
   exact ⟨b,v,rfl,h2⟩
  | succ i=>exact ih e
noncomputable def ItT (ob:Obj) (a:Addr) (kvs:List (List Key×V)):It:=⟨fun i H=>H a=some (.frz ob (.dT kvs))∧i<kvs.length,fun i H x H'=>H'=H∧Ex2 fun (q:List Key×V) (b:Addr)=>kvs[i]? = some q∧x = .ref b∧H b=some (.tup (q.1.map kV)),fun i H=>H a=some (.frz ob (.dT kvs))∧kvs.length≤i⟩
theorem turn_tkeys {P:Program} {w:World} {K:PySem.W.Frag} {tg:Expr} {a it:Addr} {ob:Obj} {es:Array DictEntry} {ep:Nat} {kvs:List (List Key×V)} (hd:ob.data = .dict es ep) (hz:es.size=kvs.length) :
  Turn P w K tg (ItT ob a kvs) [it] it (fun i h=>h.IsKeyIter it a i es.size ep) where
 mem:=by simp
 obj:=fun i h st b hb=>by
  have e:b=it:=by simpa using hb
  subst e
  obtain ⟨o,e,c,d⟩:=st
  exact ⟨o,e,fun v z=>by rw [d] at z;cases z⟩
 keep:=fun i h h' st k=>by
  obtain ⟨o,e,c,d⟩:=st
  exact ⟨o,k it (by simp) o e,c,d⟩
 item:=by
  intro X hP hw hK hc i pins s σ H E I hf st hg
  subst hP hw hK
  obtain ⟨ha,hi⟩:=hg
  obtain ⟨f0,f1,f2,f3,f4,f5⟩:=hf it (by simp)
  obtain ⟨e,z,ns,xs,kt,o,es',ep',e',ex,hd',he,nd⟩:=(show ObjOk X.prog X.w H s.heap a (.frz ob (.dT kvs)) from I.hok a _ ha)
  rw [e] at e';cases e'
  rw [hd] at hd';cases hd'
  have hlt:i<es.size:=by (first|lia|omega)
  obtain ⟨b,v,hx,hb⟩:=kt_at kt (List.getElem?_eq_getElem hi)
  have hkey:es[i].key = .ref b:=by
   have e1:es.toList[i]? = some es[i]:=by rw [Array.getElem?_toList,Array.getElem?_eq_getElem hlt]
   rw [he,List.getElem?_map,hx] at e1
   have e1:=Option.some.inj e1
   rw [←e1];rfl
  refine next_dictO st e hd hlt fun h' st' sb => ?_
  have I1:Inv X pins σ H { s with heap:=h' }:=I.turned (t':=s.toks) (fun b o hb e=>(sb.2 b hb).trans e) f0 f1 f3 f4 f5
  obtain ⟨o,e,c,d⟩:=id st'
  refine ⟨_,rfl,go_of (s:={ s with heap:=h' }) e c d (by decide) ⟨.ref b,H,I1,hkey,⟨rfl,_,b,List.getElem?_eq_getElem hi,rfl,hb⟩,st',fun b hb=>(hf b hb).1⟩⟩
 done:=by
  intro X hP hw hK hc i pins s σ H E I hf st hg
  subst hP hw hK
  obtain ⟨ha,hi⟩:=hg
  obtain ⟨f0,f1,f2,f3,f4,f5⟩:=hf it (by simp)
  exact done_dictO (I.ok.hd hc) st (show ObjOk X.prog X.w H s.heap a (.frz ob (.dT kvs)) from I.hok a _ ha).1 hd (by first|lia|omega) fun h' eb=>⟨rfl,I.turned (t':=s.toks) (fun b o hb e=>eb b o hb e) f0 f1 f3 f4 f5⟩
 self:=fun A i s Q E st h=>wpAny_pyIter_keyiter st h
noncomputable def iTKeys (tl:TE):TI:=fun σ H R=>tl σ H fun x H1=>Ex2 fun (a:Addr) (kvs:List (List Key×V))=>x = .ref a∧H1 a=some (.dT kvs)∧∀ob,R (ItT ob a kvs) (upd H1 a (.frz ob (.dT kvs)))
theorem pi_tkeys {X:Cx} {tg l:Expr} {tl:TE} (hl:PE X l tl):PI X tg l (iTKeys tl):=by
 intro pins s σ H R I h
 refine thn (hl s σ H _ I h) fun v s1 ⟨x,H1,I1,r1,a,kvs,e,ha,q⟩ => ?_
 subst e
 cases r1
 refine Elim.el (I1.freezeT ha) _ ?_
 rintro ob es ep eo hd hz ns hT I2
 refine iter_dictO ns hT eo hd ?_
 have hk:∀b o,s1.heap.get? b=some o→(s1.heap.push { cls := .type "dict_keyiterator",data := .fields #[.ref a, .int 0 0, .int es.size 0, .int ep 0] }).get? b=some o:=fun b o e=>Heap.get?_push_of_some _ e
 have I3:=I2.kept (t':=s1.toks) hk
 refine ⟨_,_,_,_,_,rfl,I3,turn_tkeys hd hz,⟨_,Heap.get?_push_size _ rfl,rfl,rfl⟩,fun c hc => ?_,q ob⟩
 have hcs:s1.heap.objs.size≤c:=by
  simp at hc
  rw [hc];exact Nat.le_refl _
 exact I2.fpOk hcs (I2.hok.fresh hcs)
noncomputable def dispP (p:Addr) (Q:VK):List (V×V)→Hp→Prop
 | [(y,v)],H2=>H2 p=some (.dT [])∧Ex2 fun (k:List Key) (b:Addr)=>y = .ref b∧H2 b=some (.tup (k.map kV))∧∀H3,Chg H2 p (.dT [(k,v)]) H3→Q (.ref p) H3
 | _,_=>False
noncomputable def tDispT (tk tv:TE):TE:=fun σ H Q=>∀p H0,New H p (.dT []) H0→tk σ H0 fun y H1=>tv σ H1 fun v H2=>H2 p=some (.dT [])∧Ex2 fun (k:List Key) (b:Addr)=>y = .ref b∧H2 b=some (.tup (k.map kV))∧∀H3,Chg H2 p (.dT [(k,v)]) H3→Q (.ref p) H3
theorem pe_dispT {X:Cx} {pos:Pos} {k v:Expr} {tk tv:TE} (hu:X.A.units+1<cLine) (hk:PE X k tk) (hv:PE X v tv):PE X (.Dict [some k] [v] pos) (tDispT tk tv):=by
 intro pins s σ H Q I q
 have hn:=I.hok.fresh (Nat.le_refl s.heap.objs.size)
 have I1:=I.laid (a:=s.heap.objs.size) (o := .dT []) (h':=s.heap.push { cls := .type "dict",data := .dict #[] }) (t':=s.toks) (fun _ _ q=>Heap.get?_push_of_some _ q) (Nat.le_refl _) (dt_empty s.heap I.big)
 have hp:=pps_cons (X:=X) (pos:=pos) hk hv pps_nil
 refine wpAny_Dict_any rfl rfl (by simp) (by show 1≤15;decide) (thn (hp _ σ _ (dispP s.heap.objs.size Q) I1 (q _ _ ⟨hn,rfl⟩)) fun ws s2 hz_ => ?_)
 refine Elim.el hz_ _ ?_
 clear hz_
 intro ps H2 I2 rel hP
 match ps,hP with
 | [(y,v)],hP=>
  obtain ⟨e,k,b,rfl,eb,q2⟩:=hP
  cases rel with
  | @cons p r ps qs h t=>
   cases t
   obtain ⟨ku,vu⟩:=r
   obtain ⟨r1,r2⟩:=h
   cases (show ku=Value.ref b from r1)
   obtain ⟨z,hd,xs,kt,dd⟩:=dt_of I2.hok e
   cases kt
   unfold storeAll
   rw [List.forIn_cons]
   refine wpAny_bind (wpAny_bind (wpAny_dictSet_heap (knd:=tupleKind (mixKind X.prog X.w)) (show X.A.units<cLine by first|lia|omega) (key_of I2.hok eb) dd fun h' dd' hs=>wpAny_pure ?_))
   refine wpAny_pure ⟨.ref s.heap.objs.size,_,?_,rfl,q2 _ ⟨rfl⟩⟩
   obtain ⟨q,es,ep,hq,h2,h3,h4,_,h5⟩:=dd'
   refine d_write I2 (by rw [e];exact True.intro) hs ⟨q,hq⟩ ⟨by show 1≤sizeLine;decide,hd,_,(KT.put (kvs:=[]) .nil k eb r2).keeps fun c ys ec => ?_,q,es,ep,hq,h2,h3,h4,h5⟩
   rw [upd_ne (ne_of ec e (fun z=>nomatch z))]
   exact ec
noncomputable def DN (H:Hp) (a:Addr) (n:Nat):Prop:=(∃kvs,Rd H a (.dK kvs)∧n=kvs.length)∨∃kvs,Rd H a (.dT kvs)∧n=kvs.length
theorem dn_obj {P:Program} {w:World} {H:Hp} {s:Shared} {a:Addr} {n:Nat} (ok:HOk P w H s.heap) (h:DN H a n):Ex3 fun o es ep=>s.heap.get? a=some o∧o.data = .dict es ep∧es.size=n∧(a == sysModules)=false∧s.TypeIs (.ref a) "dict":=by
 rcases h with ⟨kvs,e,rfl⟩|⟨kvs,e,rfl⟩
 ·obtain ⟨z,hd,vs,rel,dd⟩:=dk_rd ok e
  have ht:=dd.typeIs
  obtain ⟨o,es,ep,ho,hc,hdat,hk,hp,hn⟩:=dd
  refine ⟨o,es,ep,ho,hdat,?_,hd,ht⟩
  have:=hp.length
  rw [rel.length, ←this];simp
 ·obtain ⟨z,hd,xs,rel,dd⟩:=dt_rd ok e
  have ht:=dd.typeIs
  obtain ⟨o,es,ep,ho,hc,hdat,he,_,hn⟩:=dd
  refine ⟨o,es,ep,ho,hdat,?_,hd,ht⟩
  have:=congrArg List.length he
  rw [List.length_map, ←Paired.length rel] at this
  exact this
noncomputable def rEqE:R2:=fun x y H Q=>Ex3 fun (a b:Addr) (n:Nat)=>x = .ref a∧y = .ref b∧DN H a n∧DN H b 0∧Q (.bl (n == 0)) H
theorem eqE {X:Cx} (hu:X.A.units<cLine):OpR X (compareOp .Eq) rEqE:=by
 intro pins s σ H x y u v Q I rx ry h
 obtain ⟨a,b,n,rfl,rfl,da,db,q⟩:=h
 cases (show u=Value.ref a from rx)
 cases (show v=Value.ref b from ry)
 obtain ⟨oa,es,ep,hoa,hda,hsa,hna,ta⟩:=dn_obj I.hok da
 obtain ⟨ob,es',ep',hob,hdb,hsb,hnb,tb⟩:=dn_obj I.hok db
 refine wpAny_richCompare_same_room (op := .Eq) ta tb PySem.F.slot_dict_eq (wpAny_call_entry PySem.F.slot_dict_eq ta PySem.F.entry_dict_eq ?_ (PySem.F.args_dict_eq_2 _ _)) hu
 show wpAny _ _ (Builtin.Dict.dictSlotArgs "__eq__" ⟨[.ref a, .ref b],[]⟩ >>= _) _ _ s
 refine wpAny_bind ?_
 unfold Builtin.Dict.dictSlotArgs
 refine wpAny_bind (wpAny_notOrdered_dict ta ?_)
 show wpAny _ _ (pure (Value.ref a,Value.ref b)) _ _ s
 refine wpAny_pure ?_
 refine wpAny_bind (wpAny_isInstance (T := "dict") tb PySem.F.sub_dict_dict ?_)
 simp only [Bool.not_true,Bool.false_eq_true,if_false]
 refine wpAny_bind (wpAny_pure (wpAny_bind (wpAny_pure ?_)))
 refine wpAny_bind ?_
 unfold Builtin.Dict.samePairs Builtin.Dict.showsAll
 rw [if_neg (show ¬(a == sysModules)=true by rw [hna];exact Bool.false_ne_true),if_neg (show ¬(b == sysModules)=true by rw [hnb];exact Bool.false_ne_true)]
 refine wpAny_bind (wpAny_pure (wpAny_bind (wpAny_pure ?_)))
 refine wpAny_bind (wpAny_dictEntries hoa hda ?_)
 dsimp only
 refine wpAny_bind (wpAny_dictEntries hob hdb ?_)
 by_cases hz:n=0
 ·rw [if_neg (by rw [hsa,hsb,hz];simp)]
  refine wpAny_bind (wpAny_dictEpoch hoa hda ?_)
  refine wpAny_bind ?_
  rw [Std.Legacy.Range.forIn_eq_forIn_range']
  have e0:es.size=0:=by (first|lia|omega)
  rw [e0]
  refine wpAny_pure (wpAny_pure (wpAny_pure ⟨_,rfl,(fun x=>nomatch x),?_⟩))
  refine ⟨_,H,I,?_,q⟩
  rw [hz];rfl
 ·rw [if_pos (by rw [hsa,hsb];simpa using hz)]
  refine wpAny_bind (wpAny_rule (wpAny_pure (wpAny_pure ⟨_,rfl,(fun x=>nomatch x),?_⟩)))
  refine ⟨_,H,I,?_,q⟩
  have:(n == 0)=false:=by simpa using hz
  rw [this];rfl
end L2
namespace L2
open PySem PySem.Spec PyProof.Rows
section
variable {X:Cx}
end
end L2
namespace L2
open PySem PySem.Spec PyProof.Rows PySem.W
theorem keys_rel {prog:Program} {w:World} {kvs:List (Key×V)} {vs:List (Key×Value)} (h:KV kvs vs):∀{its:List Value},its.length=vs.length →
  (∀(j:Nat) v,its[j]? = some v→∃k x,vs[j]? = some (k,x)∧(mixKind prog w).is k v=true)→Vals (kvs.map fun q=>kV q.1) its:=by
 unfold KV at h
 induction h with
 | nil=>
  intro its hl _
  rw [List.eq_nil_of_length_eq_zero hl]
  exact .nil
 | @cons p q kvs vs h1 _ ih=>
  intro its hl h
  cases its with
  | nil=>cases hl
  | cons v its=>
  refine .cons ?_ (ih (Nat.succ.inj hl) fun j u e=>h (j+1) u e)
  obtain ⟨k,x,e1,e2⟩:=h 0 v rfl
  cases e1
  show RelV (kV p.1) v
  rw [show p.1=k from h1.1]
  rcases keyIs_shape e2 with ⟨n,t,z1,z2⟩|⟨y,t,z1,z2⟩
  ·rw [z1,z2];exact ⟨t,rfl⟩
  ·rw [z1,z2];exact ⟨t,rfl⟩
section
variable {X:Cx}
theorem listD (hc:X.calm=true):CallR X (.type "list") (fun xs H Q=>Ex2 fun (d:Addr) (kvs:List (Key×V))=>xs=[.ref d]∧H d=some (.dK kvs)∧∀p H',New H p (.lst (kvs.map fun q=>kV q.1)) H'→Q (.ref p) H'):=by
 intro pins s σ H xs us Q I r h
 obtain ⟨d,kvs,rfl,hd,q⟩:=h
 obtain ⟨u,rfl,ru⟩:=vals1 r
 cases ru
 obtain ⟨z,ns,vs,kv,o,es,ep,e,rr⟩:=I.hok d _ hd
 have kl:=kv.length
 refine kdl_call (kdl_dict (knd:=mixKind X.prog X.w) (kvs:=vs) (ep:=ep) ns) (I.ok.hd hc) ⟨o,es,e,rr⟩ (by first|lia|omega) fun h' tk acc c k hS items => ?_
 refine ⟨.ref s.heap.objs.size,_,I.laid (a:=s.heap.objs.size) (o := .lst (kvs.map fun q=>kV q.1)) (t':=tk) k (Nat.le_refl _) ⟨by rw [List.length_map];exact z,acc.toList,c,?_,by simpa using hS⟩,rfl,q _ _ ⟨I.hok.fresh (Nat.le_refl _),rfl⟩⟩
 exact keys_rel kv (by rw [Array.length_toList];exact items.1) fun j v ej=>items.2 j v (by rw [←Array.getElem?_toList];exact ej)
end
end L2
namespace L2
open PySem PySem.Spec PyProof.Rows
section
variable {prog:Program} {w:World} {A:Around} {R:Result→Shared→Prop} {s:Shared} {kx vx t1 i1 t2 i2:Expr} {scope:Scope} {pos:Pos} {it:Value} {D:Addr} {env:Env}
theorem turns_inner (I:Nat→Shared→Prop)
  (turn:∀n s,I n s→wpAny (model prog w) A (pyNext it) (fun r s1=>match r with
   | none=>R (.ok .next) s1
   | some v=>wpAny (model prog w) A (letOwnedTupleGo t2 it v) (fun _ s1'=>wpAny (model prog w) A (assign t2 env v) (fun _ s2=>
     wpAny (model prog w) A (eval kx env) (fun kv s4=>wpAny (model prog w) A (eval vx env) (fun vv s5=>
       wpAny (model prog w) A (dictSet D kv vv) (fun _ s6=>∃m,m<n∧I m s6) noE s5) noE s4) noE s2) noE s1') noE s1) noE s)
  (n:Nat) (h:I n s):codeAny (model prog w) A (.compLoop (.DictComp kx vx [⟨t1,i1,[],0⟩,⟨t2,i2,[],0⟩] scope pos) 1 it (.ref D) env) R s:=by
 refine codeAny_loop rfl I (fun n s hI=>(show wpAny _ A (Sem.onRaise (compTurn (.DictComp kx vx [⟨t1,i1,[],0⟩,⟨t2,i2,[],0⟩] scope pos) 1 it (.ref D) env) (fun x=>do noteFrame x env;theTreesLotGoes x)) _ _ s from wpAny_noted ?_)) n h
 refine wpAny_bind (wpAny_standAt (wpAny_bind (noE_to (thn (turn n s hI) fun r s1 h1 => ?_))))
 cases r with
 | none=>exact wpAny_pure h1
 | some v=>
  refine wpAny_bind (noE_to (thn h1 fun _ s1' h1' => ?_))
  refine wpAny_bind (noE_to (thn h1' fun _ s2 h3=>wpAny_bind (wpAny_pure (a:=true) ?_)))
  exact wpAny_bind (wpAny_bind (noE_to (thn h3 fun kv s4 h4=>wpAny_bind (wpAny_holding (noE_to (thn h4 fun vv s5 h5=>wpAny_bind (wpAny_standAt (wpAny_holding (noE_to (thn h5 fun _ s6 h6=>wpAny_pure ⟨rfl,h6⟩))))))))))
theorem turns_outer (hs:∀x,foldedSetIterable i2 env x=pure x) (I:Nat→Shared→Prop)
  (turn:∀n s,I n s→wpAny (model prog w) A (pyNext it) (fun r s1=>match r with
   | none=>R (.ok .next) s1
   | some v=>wpAny (model prog w) A (letOwnedTupleGo t1 it v) (fun _ s1'=>wpAny (model prog w) A (assign t1 env v) (fun _ s2=>
     wpAny (model prog w) A (eval i2 env) (fun x s3=>wpAny (model prog w) A (pyIter x) (fun it2 s4=>
       codeAny (model prog w) A (.compStart (.DictComp kx vx [⟨t1,i1,[],0⟩,⟨t2,i2,[],0⟩] scope pos) 1 it2 (.ref D) env) (fun r s5=>match r with | .ok _=>∃m,m<n∧I m s5 | .error _=>False) s4) noE s3) noE s2) noE s1') noE s1) noE s)
  (n:Nat) (h:I n s):codeAny (model prog w) A (.compLoop (.DictComp kx vx [⟨t1,i1,[],0⟩,⟨t2,i2,[],0⟩] scope pos) 0 it (.ref D) env) R s:=by
 refine codeAny_loop rfl I (fun n s hI=>(show wpAny _ A (Sem.onRaise (compTurn (.DictComp kx vx [⟨t1,i1,[],0⟩,⟨t2,i2,[],0⟩] scope pos) 0 it (.ref D) env) (fun x=>do noteFrame x env;theTreesLotGoes x)) _ _ s from wpAny_noted ?_)) n h
 refine wpAny_bind (wpAny_standAt (wpAny_bind (noE_to (thn (turn n s hI) fun r s1 h1 => ?_))))
 cases r with
 | none=>exact wpAny_pure h1
 | some v=>
  refine wpAny_bind (noE_to (thn h1 fun _ s1' h1' => ?_))
  refine wpAny_bind (noE_to (thn h1' fun _ s2 h3=>wpAny_bind (wpAny_pure (a:=true) ?_)))
  refine wpAny_bind (noE_to (thn h3 fun x s3 h4=>wpAny_bind (wpAny_standAt (wpAny_bind (wpAny_of_eq (hs x) (wpAny_bind (wpAny_holding (noE_to (thn h4 fun it2 s4 h5 => ?_)))))))))
  refine wpAny_bind (wpAny_runOwn (codeAny_mono h5 fun r s5 h6 => ?_))
  cases r with
  | ok f=>exact wpAny_pure ⟨rfl,h6⟩
  | error e=>exact h6.elim
theorem start_inner {acc:Value} (h0:codeAny (model prog w) A (.compLoop (.DictComp kx vx [⟨t1,i1,[],0⟩,⟨t2,i2,[],0⟩] scope pos) 1 it acc env) R s)
  (h:wpAny (model prog w) A (pyIter it) (fun it' s'=>codeAny (model prog w) A (.compLoop (.DictComp kx vx [⟨t1,i1,[],0⟩,⟨t2,i2,[],0⟩] scope pos) 1 it' acc env) R s') noE s) :
  codeAny (model prog w) A (.compStart (.DictComp kx vx [⟨t1,i1,[],0⟩,⟨t2,i2,[],0⟩] scope pos) 1 it acc env) R s:=by
 refine codeAny_of_tree ?_
 show wpAny _ A ((compStart (.DictComp kx vx [⟨t1,i1,[],0⟩,⟨t2,i2,[],0⟩] scope pos) 1 it acc env).onRaise (fun x=>do noteFrame x env;standAt theWindowsPlace)) _ _ s
 refine wpAny_notedAt ?_
 unfold compStart
 show wpAny _ A (ask >>= _) _ _ s
 refine wpAny_bind (wpAny_askSetting (wpAny_ite ?_))
 split
 ·first
   | exact wpAny_bind (wpAny_pure (wpAny_pure (And.intro rfl h0)))
   | exact wpAny_pure (And.intro rfl h0)
 ·first
   | exact wpAny_bind (wpAny_rule (wpAny_bind (wpAny_standAt (wpAny_bind (noE_to (thn h fun it' s' h'=>wpAny_pure (And.intro rfl h')))))))
   | (refine wpAny_bind (wpAny_rule ?_);show wpAny _ _ (standAt i2.pos >>= _) _ _ s;exact wpAny_bind (wpAny_standAt (wpAny_bind (noE_to (thn h fun it' s' h'=>wpAny_pure (And.intro rfl h'))))))
end
noncomputable def CompD2 (J:It) (n:Nat) (js:List Nat) (g:TG) (wi2:TI) (i:Nat) (tk tv:TE) (σ:St) (D:Addr) (H1:Hp) (fin:Hp→Prop):Prop:=
 ∃W:Nat→Nat→Hp→Prop,(∃m,W 0 m H1)∧∀k m H,W k m H →
  (J.stop k H∧fin H) ∨
  (J.go k H∧∀x H',J.yld k H x H'→g x (List.replicate n none++cvals σ js) H' fun σ2 H2 => σ2[i]? = some none∧wi2 σ2 H2 fun J2 H3=>∃V:Nat→Nat→Hp→Prop,(∃m2,V 0 m2 H3)∧∀k2 m2 H,V k2 m2 H →
   (J2.stop k2 H∧∃m',m'<m∧W (k+1) m' H) ∨
   (J2.go k2 H∧∀y H',J2.yld k2 H y H'→tk (σ2.set i (some y)) H' fun kk H4=>tv (σ2.set i (some y)) H4 fun z H5=>Ex2 fun kvs key=>H5 D=some (.dK kvs)∧kk=kV key∧kvs.length<sizeLine∧∃m',m'<m2∧V (k2+1) m' (upd H5 D (.dK (putK kvs key z)))))
noncomputable def tDComp2 (wi:TI) (n:Nat) (js:List Nat) (g:TG) (wi2:TI) (i:Nat) (tk tv:TE):TE:=fun σ H Q=>wi σ H fun J H1=>∀D,H1 D=none→CompD2 J n js g wi2 i tk tv σ D (upd H1 D (.dK [])) fun H2=>Q (.ref D) H2
section
variable {X:Cx} {kx vx t1 i1 t2 i2:Expr} {scope:Scope} {pos:Pos} {wi2:TI} {i:Nat} {tk tv:TE} {pins:List (Addr×Obj)} {s:Shared} {σ:St} {H:Hp} {D:Addr} {fin:Hp→Prop}
theorem inner_ok (hxe:X.xe=noE) (hcalm:X.calm=true) (hi2:PI X t2 i2 wi2) (hg2:PG X t2 (gName i)) (htk:PE X kx tk) (htv:PE X vx tv) (I:Inv X pins σ H s) (h0 : σ[i]? = some none)
  (h:wi2 σ H fun J2 H3=>∃V:Nat→Nat→Hp→Prop,(∃m2,V 0 m2 H3)∧∀k2 m2 H,V k2 m2 H→(J2.stop k2 H∧fin H) ∨
   (J2.go k2 H∧∀y H',J2.yld k2 H y H'→tk (σ.set i (some y)) H' fun kk H4=>tv (σ.set i (some y)) H4 fun z H5=>Ex2 fun kvs key=>H5 D=some (.dK kvs)∧kk=kV key∧kvs.length<sizeLine∧∃m',m'<m2∧V (k2+1) m' (upd H5 D (.dK (putK kvs key z)))))
  {R:Shared→Prop} (q:∀H' s',Inv X pins σ H' s'→fin H'→R s') :
  wpAny (model X.prog X.w) X.A (eval i2 X.env) (fun x s3=>wpAny (model X.prog X.w) X.A (pyIter x) (fun it2 s4=>
   codeAny (model X.prog X.w) X.A (.compStart (.DictComp kx vx [⟨t1,i1,[],0⟩,⟨t2,i2,[],0⟩] scope pos) 1 it2 (.ref D) X.env) (fun r s5=>match r with | .ok _=>R s5 | .error _=>False) s4) noE s3) noE s:=by
 have hi2:=hi2 s σ H _ I h
 have hg2':=hg2
 have htk':=htk
 have htv':=htv
 rw [hxe] at hi2
 refine thn hi2 fun v s1 h1=>thn h1 fun itv s2 h2 => ?_
 obtain ⟨it,fp,tn,J,H2,e,I2,T,st2,f2,V,⟨m0,w0⟩,turn⟩:=h2
 subst e
 have stat:∀{H':Hp},(∀b∈fp,H' b=none)→∀b∈fp,FpOk X pins H' b:=fun hn b hb=>⟨hn b hb,(f2 b hb).2⟩
 have loop:∀t1',codeAny (model X.prog X.w) X.A (.compLoop (.DictComp kx vx [⟨t1,i1,[],0⟩,⟨t2,i2,[],0⟩] scope pos) 1 (.ref it) (.ref D) X.env) (fun r s5=>match r with | .ok _=>R s5 | .error _=>False) { s2 with toks:=t1' }:=by
  intro t1'
  refine turns_inner (fun n s'=>∃k H',Inv X pins σ H' s'∧tn k s'.heap∧(∀b∈fp,H' b=none)∧V k n H') ?_ m0 ⟨0,H2,I2.tok _,st2,fun b hb=>(f2 b hb).1,w0⟩
  intro n s3 hz_
  refine Elim.el hz_ _ ?_
  clear hz_
  rintro k H3 I3 st3 fr3 w3
  rcases turn k n H3 w3 with ⟨stop,qn⟩|⟨go,step⟩
  ·refine thn (T.done X rfl rfl rfl hcalm k pins s3 σ H3 noE I3 (stat fr3) st3 stop) fun r s4 hz_ => ?_
   refine Elim.el hz_ _ ?_
   clear hz_
   rintro hr I4
   subst hr
   exact q H3 s4 I4 qn
  ·refine thn (T.item X rfl rfl rfl hcalm k pins s3 σ H3 noE I3 (stat fr3) st3 go) fun r s4 hz_ => ?_
   refine Elim.el hz_ _ ?_
   clear hz_
   rintro u hr h4
   subst hr
   refine thn h4 fun _ s5 hz_ => ?_
   refine Elim.el hz_ _ ?_
   clear hz_
   rintro x H5 I5 r5 y5 st5 fr5
   have I5':=I5.pinned (stat fr5) (T.obj _ _ st5)
   have hg:=hg2 s5 σ H5 x u (fun σ' H' => σ' = σ.set i (some x)∧H'=H5) I5' r5 ⟨rfl,rfl⟩
   rw [hxe] at hg
   refine thn hg fun _ s6 hz_ => ?_
   refine Elim.el hz_ _ ?_
   clear hz_
   rintro σ6 H6 I6 e6 e6'
   subst e6 e6'
   have hk:=htk s6 _ _ _ I6 (step x _ y5)
   rw [hxe] at hk
   refine thn hk fun yv s8 hz_ => ?_
   refine Elim.el hz_ _ ?_
   clear hz_
   rintro y H8 I8 r8 q8
   have hv:=htv s8 _ _ _ I8 q8
   rw [hxe] at hv
   refine thn hv fun zv s9 hz_ => ?_
   refine Elim.el hz_ _ ?_
   clear hz_
   rintro z H9 I9 r9 q9
   refine Elim.el (q9) _ ?_
   rintro kvs key eD ey hl m' hm' w9
   subst ey
   refine d_dictSet I9 eD hl r8 r9 fun s10 I10 => ?_
   refine ⟨m',hm',k+1,_,Inv.weak I10.unpinned (by rw [List.length_set]) fun j v hj => ?_,T.keep _ _ _ st5 fun b hb o e=>(I10.pin (b,o) (List.mem_append_right _ (List.mem_append_right _ (mem_pinsAt hb e)))).1,fun b hb => ?_,w9⟩
   ·by_cases hji:j=i
    ·subst hji;rw [h0] at hj;cases hj
    ·rw [List.getElem?_set_ne (Ne.symm hji)];exact hj
   ·refine Elim.el (T.obj _ _ st5 b hb) _ ?_
    rintro o e d
    exact (I10.pin (b,o) (List.mem_append_right _ (List.mem_append_right _ (mem_pinsAt hb e)))).2.1
 exact start_inner (loop _) (T.self _ 0 _ _ _ st2 (loop _))
end
theorem dcomp2_core {X:Cx} {kx vx tg iter t2 i2:Expr} {wi2:TI} {i2n:Nat} {scope:Scope} {pos:Pos} {Nc Fc:List Str} {js:List Nat} {wi:TI} {g:TG} {tk tv:TE} {use:Option (Value→Sem Unit)} {QV:Value→Shared→Prop}
  (hcalm:X.calm=true) (c:CompOk X scope Nc Fc js) (hi:PI X tg iter wi)
  (hg:∀cl C s H fp,PG (cxC X Nc Fc scope cl C s H fp) tg g) (hi2:∀cl C s H fp,PI (cxC X Nc Fc scope cl C s H fp) t2 i2 wi2) (hg2:∀cl C s H fp,PG (cxC X Nc Fc scope cl C s H fp) t2 (gName i2n)) (htk:∀cl C s H fp,PE (cxC X Nc Fc scope cl C s H fp) kx tk) (htv:∀cl C s H fp,PE (cxC X Nc Fc scope cl C s H fp) vx tv) (gk:Gk Nc.length g)
  {pins:List (Addr×Obj)} {s:Shared} {σ:St} {H:Hp} {fin:Addr→Hp→Prop} (I:Inv X pins σ H s)
  (h:wi σ H fun J H1=>∀D,H1 D=none→CompD2 J Nc.length js g wi2 i2n tk tv σ D (upd H1 D (.dK [])) (fin D))
  (behind:∀(C D:Addr) (m:Str→Option Value) (H2:Hp) (s2:Shared),Inv X pins σ H2 s2→s2.heap.Ns C m→FpOk X pins H2 C→fin D H2→compPost (model X.prog X.w) X.A X.xe use QV (.ref D) C (.ok .next) s2)
  (hs:∀x,foldedSetIterable iter X.env x=pure x) (hs2:∀cl C s H fp x,foldedSetIterable i2 (cxC X Nc Fc scope cl C s H fp).env x=pure x) :
  wpAny (model X.prog X.w) X.A (comprehension (.DictComp kx vx [⟨tg,iter,[],0⟩,⟨t2,i2,[],0⟩] scope pos) scope X.env (firstIterPos [⟨tg,iter,[],0⟩,⟨t2,i2,[],0⟩] pos) newDict false (eval iter X.env) use) QV X.xe s:=by
 obtain ⟨cl,hclos,hsub,hhas⟩:=closure_of (scope:=scope) (env:=X.env) fun y hy hf=>I.ok.has y.1 (c.free y hy hf)
 refine wpAny_comprehension_free (use:=use) rfl hs hclos c.kind c.names ?_
 refine thn (hi s σ H _ I h) fun v s1 h1=>thn h1 fun itv s2 h2 => ?_
 obtain ⟨it,fp,tn,J,H2,e,I2,T,st2,f2,all⟩:=h2
 subst e
 refine wpAny_newObj_type (wpAny_newFunctionEnv c.nocell (by intro y hy;simp at hy) (fun h1 hns1 hsb1 => ?_) c.kind)
 dsimp only at hns1 hsb1 ⊢
 have hDn:H2 s2.heap.objs.size=none:=I2.hok.fresh (Nat.le_refl _)
 have I2':=I2.laid (a:=s2.heap.objs.size) (o := .dK []) (h':=s2.heap.push { cls := .type "dict",data := .dict #[] }) (t':=s2.toks) (fun _ _ q=>Heap.get?_push_of_some _ q) (Nat.le_refl _) (dk_empty s2.heap I2.big)
 obtain ⟨W,⟨m0,w0⟩,turn⟩:=all _ hDn
 have fo2:∀b∈fp,∃o,s2.heap.get? b=some o:=fun b hb=>let ⟨o,e,_⟩:=T.obj 0 _ st2 b hb; ⟨o,e⟩
 have hDfp:∀b∈fp,b<s2.heap.objs.size:=fun b hb=>let ⟨o,e⟩:=fo2 b hb;Heap.lt_size e
 generalize hG:s2.heap.push { cls := .type "dict",dict:=none,data := .dict #[] } = G at hns1 hsb1 I2' ⊢
 have toG:∀b o,s2.heap.get? b=some o→G.get? b=some o:=fun b o e=>hG ▸ Heap.get?_push_of_some _ e
 have hC:G.objs.size=s2.heap.objs.size+1:=by rw [←hG,Heap.size_push]
 have old:∀b o,G.get? b=some o→h1.get? b=some o:=fun b o e=>
  hsb1.extBut b o (addr_ne (Heap.lt_size e) (Nat.le_refl _)) (Heap.get?_push_of_some _ e)
 let D:Addr:=s2.heap.objs.size
 let s2':Shared:={ s2 with heap:=G,toks:=s2.toks }
 let H2':Hp:=upd H2 D (.dK [])
 have f2':∀b∈fp,FpOk X pins H2' b:=fun b hb=>by
  obtain ⟨a1,a2⟩:=f2 b hb
  refine ⟨?_,a2⟩
  show upd H2 D (.dK []) b=none
  rw [upd_ne (Nat.ne_of_lt (hDfp b hb))];exact a1
 have fo:∀b∈fp,∃o,s2'.heap.get? b=some o:=fun b hb=>let ⟨o,e⟩:=fo2 b hb; ⟨o,toG b o e⟩
 have hfG:∀b∈fp,b<G.objs.size:=fun b hb=>by have:=hDfp b hb;rw [hC];exact Nat.lt_succ_of_lt this
 let Xc:Cx:=cxC X Nc Fc scope cl G.objs.size s2' H2' fp
 have stat:∀{H':Hp},(∀b∈fp,H' b=none)→∀b∈fp,FpOk Xc [] H' b:=fun {H'} hn b hb=>by
  refine ⟨hn b hb,?_,?_, .inl hb,fun x a e => ?_,fun p hq => ?_⟩
  ·exact addr_ne (hfG b hb) (Nat.le_refl _)
  ·exact (cxC_ok I2' c hsub hhas (Nat.le_refl _) f2' fo).exfs b hb
  ·exact (f2 b hb).2.2.2.2.1 x a (hsub _ _ e)
  ·have q:p∈([]:List (Addr×Obj))++[]:=hq
   simp at q
 have loop:∀t1,codeAny (model X.prog X.w) X.A (.compLoop (.DictComp kx vx [⟨tg,iter,[],0⟩,⟨t2,i2,[],0⟩] scope pos) 0 (.ref it) (.ref s2.heap.objs.size) (compEnvC scope cl G.objs.size X.env))
   (compPost (model X.prog X.w) X.A X.xe use QV (.ref s2.heap.objs.size) G.objs.size) { s2 with heap:=h1,toks:=t1 }:=by
  intro t1
  refine turns_outer (hs2 cl G.objs.size s2' H2' fp) (fun n s'=>∃i H',Inv Xc [] (List.replicate Nc.length none++cvals σ js) H' s'∧tn i s'.heap∧(∀b∈fp,H' b=none)∧W i n H') ?_ m0
   ⟨0,H2',cxC_inv0 I2' c hsub hhas (Nat.le_refl _) f2' fo old hns1,T.keep _ _ _ st2 (fun b hb o e=>old b o (toG b o e)),fun b hb=>(f2' b hb).1,w0⟩
  intro n s3 hz_
  refine Elim.el hz_ _ ?_
  clear hz_
  rintro i H3 I3 st3 fr3 w3
  rcases turn i n H3 w3 with ⟨stop,qn⟩|⟨go,step⟩
  ·refine thn (T.done Xc rfl rfl rfl hcalm i _ s3 _ H3 noE I3 (stat fr3) st3 stop) fun r s4 hz_ => ?_
   refine Elim.el hz_ _ ?_
   clear hz_
   rintro hr I4
   subst hr
   show compPost _ _ _ _ _ _ _ _ _
   refine Elim.el (I4.loc) _ ?_
   rintro mC hmC _
   have hCn:H3 G.objs.size=none:=I4.free
   have u:Un (frs X.stack) fp H2' H3 G s4.heap:=I4.base
   have hch:∀b∈fp,(b∈X.ex∨X.s₀.heap.objs.size≤b)∧b≠X.env.locals∧(∀x c,X.env.cells.lookup x=some c→c≠b)∧∀p∈X.pn++pins,p.1≠b:=fun b hb=>
    ⟨(f2 b hb).2.2.2.1,(f2 b hb).2.1,(f2 b hb).2.2.2.2.1,(f2 b hb).2.2.2.2.2⟩
   have os4:s4.os=s2'.os:=I4.os
   have J4:Inv X pins σ H3 s4:=I2'.call' (H':=H3) os4 u I4.hok I4.bare hch
   exact behind G.objs.size D mC H3 s4 J4 hmC (I2'.fpOk (Nat.le_refl _) hCn) qn
  ·refine thn (T.item Xc rfl rfl rfl hcalm i _ s3 _ H3 noE I3 (stat fr3) st3 go) fun r s4 hz_ => ?_
   refine Elim.el hz_ _ ?_
   clear hz_
   rintro u hr h4
   subst hr
   show wpAny _ _ (letOwnedTupleGo tg (.ref it) u) _ _ _
   refine thn h4 fun _ s5 hz_ => ?_
   refine Elim.el hz_ _ ?_
   clear hz_
   rintro x H5 I5 r5 y5 st5 fr5
   have I5':=I5.pinned (stat fr5) (T.obj _ _ st5)
   refine thn (hg cl G.objs.size s2' H2' fp s5 _ H5 x u _ I5' r5 (gk _ _ _ _ (step x H5 y5))) fun _ s6 ⟨σ6,H6,I6,⟨q60,q6⟩,kσ,kl⟩ => ?_
   have later:∀{σ':St} {H':Hp} {s':Shared},Inv Xc ([]++pinsAt fp s5.heap) σ' H' s'→tn (i+1) s'.heap∧∀b∈fp,H' b=none:=fun {σ' H' s'} Iz=>by
    refine ⟨T.keep _ _ _ st5 fun b hb o e=>(Iz.pin (b,o) (List.mem_append_right _ (List.mem_append_right _ (mem_pinsAt hb e)))).1,fun b hb => ?_⟩
    refine Elim.el (T.obj _ _ st5 b hb) _ ?_
    rintro o e d
    exact (Iz.pin (b,o) (List.mem_append_right _ (List.mem_append_right _ (mem_pinsAt hb e)))).2.1
   have back:∀{pl:List (Addr×Obj)} {H':Hp} {s':Shared},Inv Xc pl σ6 H' s'→Inv Xc pl (List.replicate Nc.length none++cvals σ js) H' s':=fun {pl H' s'} Iz=>by
    refine Iz.weak (by rw [←kl]) fun j v hj => ?_
    by_cases hn:j<Nc.length
    ·rw [List.getElem?_append_left (by simpa using hn),List.getElem?_replicate] at hj
     split at hj <;> cases hj
    ·rw [kσ j (by first|lia|omega)];exact hj
   refine inner_ok (X:=Xc) rfl hcalm (hi2 cl G.objs.size s2' H2' fp) (hg2 cl G.objs.size s2' H2' fp) (htk cl G.objs.size s2' H2' fp) (htv cl G.objs.size s2' H2' fp) I6 q60 q6 fun H7 s7 I7 q7 => ?_
   refine Elim.el (q7) _ ?_
   rintro m' hm' w7
   obtain ⟨l1,l2⟩:=later I7
   exact ⟨m',hm',i+1,H7,back I7.unpinned,l1,l2,w7⟩
 exact codeAny_compStart_dict (loop _) (T.self _ 0 _ _ _ (T.keep _ _ _ st2 fun b hb o e=>old b o (toG b o e)) (loop _))
theorem pe_dcomp2 {X:Cx} {kx vx tg iter t2 i2:Expr} {wi2:TI} {i2n:Nat} {scope:Scope} {pos:Pos} {Nc Fc:List Str} {js:List Nat} {wi:TI} {g:TG} {tk tv:TE}
  (hcalm:X.calm=true) (c:CompOk X scope Nc Fc js) (hi:PI X tg iter wi) (gk:Gk Nc.length g)
  (hg:∀cl C s H fp,PG (cxC X Nc Fc scope cl C s H fp) tg g) (hi2:∀cl C s H fp,PI (cxC X Nc Fc scope cl C s H fp) t2 i2 wi2) (hg2:∀cl C s H fp,PG (cxC X Nc Fc scope cl C s H fp) t2 (gName i2n)) (htk:∀cl C s H fp,PE (cxC X Nc Fc scope cl C s H fp) kx tk) (htv:∀cl C s H fp,PE (cxC X Nc Fc scope cl C s H fp) vx tv)
  (hs:∀x,foldedSetIterable iter X.env x=pure x:=by intro _;rfl) (hs2:∀cl C s H fp x,foldedSetIterable i2 (cxC X Nc Fc scope cl C s H fp).env x=pure x:=by intros;rfl) :
  PE X (.DictComp kx vx [⟨tg,iter,[],0⟩,⟨t2,i2,[],0⟩] scope pos) (tDComp2 wi Nc.length js g wi2 i2n tk tv):=by
 intro pins s σ H Q I h
 rw [arm_eval_DictComp]
 refine dcomp2_core (use:=none) (fin:=fun D H2=>Q (.ref D) H2) hcalm c hi hg hi2 hg2 htk htv gk I h (fun C D m H2 s2 I2 hm hC q => ?_) hs hs2
 refine ⟨m,hm,fun h' hs' => ?_⟩
 exact ⟨.ref D,_,I2.turned (it:=C) (t':=s2.toks) (fun b o hb e=>hs'.extBut b o hb e) hC.1 (hC.2.1) hC.2.2.2.1 hC.2.2.2.2.1 hC.2.2.2.2.2,rfl,q⟩
end L2
namespace L2
open PySem PySem.Spec PyProof.Rows
section
variable {prog:Program} {w:World} {K:Type} [DecidableEq K] {knd:KeyKind prog w K} {A:Around} {E:Value→Shared→Prop} {s:Shared}
end
structure FeedL (prog:Program) (w:World) (A:Around) (it S:Addr) (fp:Addr→Prop) (n:Nat) (P:Nat→Value→Heap→Prop) (R:Value→Value→Prop) (St:Nat→Heap→Prop):Prop where
 sfp:¬fp S
 item:∀i (s:Shared) (Q:Option Value→Shared→Prop) (E:Value→Shared→Prop),i<n→St i s.heap→S<s.heap.objs.size →
  (∀v h' tk,Keeps s.heap h' fp→St (i+1) h'→P i v h'→(∀j u,P j u s.heap→R u v)→Q (some v) { s with heap:=h',toks:=tk })→wpAny (model prog w) A (pyNext (.ref it)) Q E s
 stop:∀(s:Shared) (Q:Option Value→Shared→Prop) (E:Value→Shared→Prop),St n s.heap→S<s.heap.objs.size→(∀h' tk,Keeps s.heap h' fp→Q none { s with heap:=h',toks:=tk })→wpAny (model prog w) A (pyNext (.ref it)) Q E s
 keepS:∀i h h',St i h→Keeps h h' (· = S)→St i h'
 keepP:∀j v h h',P j v h→Keeps h h' (fun b=>fp b∨b=S)→P j v h'
section
variable {prog:Program} {w:World} {A:Around} {it S:Addr} {fp:Addr→Prop} {n:Nat} {P:Nat→Value→Heap→Prop} {R:Value→Value→Prop} {St:Nat→Heap→Prop}
theorem feed_loopL (Fd:FeedL prog w A.in1 it S fp n P R St) (hn:n≤sizeLine) {s:Shared} {Z:Result→Shared→Prop} {res:Value} {g:Heap} (fin:FeedEnd g S fp n P R s (Z (.ok (.ret res)))) :
  ∀(k i:Nat) (h:Heap) (tk:Nat) (acc:Array Value) (c:Nat),i+k=n→St i h→Grown h S i P R acc c→Keeps g h (fun b=>fp b∨b=S) →
   codeAny (model prog w) A (.builtin "list.extend.loop" ⟨[.ref S, .ref it,res],[]⟩) Z { s with heap:=h,toks:=tk }
 | 0,i,h,tk,acc,c,hk,hst,G,kp=>by
  have e:i=n:=by (first|lia|omega)
  subst e
  refine codeAny_builtin PySem.F.entry_extend_loop ?_
  rw [Around.under_plainId PySem.F.plain_extend_loop _]
  refine wpAny_bind (Fd.stop { s with heap:=h,toks:=tk } _ _ hst (Heap.lt_size G.ob) fun h' tk' k'=>wpAny_pure ?_)
  exact fin h' tk' acc c (fun b o nb q=>k' b o (fun z=>nb (.inl z)) (kp b o nb q)) ⟨k' _ _ Fd.sfp G.ob,G.sz,G.pw,fun j v e=>Fd.keepP _ _ _ _ (G.all j v e) fun b o nb q=>k' b o (fun z=>nb (.inl z)) q⟩
 | k+1,i,h,tk,acc,c,hk,hst,G,kp=>by
  refine codeAny_builtin PySem.F.entry_extend_loop ?_
  rw [Around.under_plainId PySem.F.plain_extend_loop _]
  refine wpAny_bind (Fd.item i { s with heap:=h,toks:=tk } _ _ (by first|lia|omega) hst (Heap.lt_size G.ob) fun v h' tk' k' st' pv rv => ?_)
  have ob':=k' _ _ Fd.sfp G.ob
  have other:Keeps h' (h'.update S (Obj.mapSeq (·.push v))) (· = S):=fun b o nb q=>(Heap.get?_update_other _ _ (Ne.symm nb)).trans q
  have k2:Keeps h (h'.update S (Obj.mapSeq (·.push v))) (fun b=>fp b∨b=S):=fun b o nb q=>other b o (fun z=>nb (.inr z)) (k' b o (fun z=>nb (.inl z)) q)
  have sz:=G.sz
  refine wpAny_bind (wpAny_updateSeq ob' rfl (wpAny_pure ⟨plainId_quiet PySem.F.plain_extend_loop _,?_⟩) (by rw [sz]; (first|lia|omega)) (by show (acc.push v).size≤sizeLine+1;rw [Array.size_push,sz]; (first|lia|omega)))
  refine feed_loopL Fd hn fin k (i+1) _ tk' (acc.push v) _ (by first|lia|omega) (Fd.keepS _ _ _ st' other) ⟨Heap.get?_update_self _ ob' rfl,by rw [Array.size_push,sz],?_,fun j u e => ?_⟩ (fun b o nb q=>k2 b o nb (kp b o nb q))
  ·rw [Array.toList_push]
   refine List.pairwise_append.mpr ⟨G.pw,List.pairwise_singleton _ _,fun a ha b hb => ?_⟩
   obtain ⟨j,hj⟩:=List.mem_iff_getElem?.mp ha
   rw [List.mem_singleton.mp hb]
   exact rv j a (G.all j a (by simpa using hj))
  ·by_cases hj:j<i
   ·rw [Array.getElem?_push_lt (by first|lia|omega)] at e
    exact Fd.keepP _ _ _ _ (G.all j u (by rw [Array.getElem?_eq_getElem (by first|lia|omega)];exact e)) k2
   ·have hj':j=i:=by
     have:=(Array.getElem?_eq_some_iff.mp e).1
     rw [Array.size_push] at this
     (first|lia|omega)
    subst hj'
    have e':(acc.push v)[acc.size]? = some u:=by rw [sz];exact e
    rw [Array.getElem?_push_size] at e'
    cases e'
    exact Fd.keepP _ _ _ _ pv fun b o nb q=>other b o (fun z=>nb (.inr z)) q
end
section
variable {prog:Program} {w:World} {K:Type} [DecidableEq K] {knd:KeyKind prog w K}
end
section
variable {X:Cx}
end
end L2
namespace L2
open PySem PySem.Spec PyProof.Rows
open AutoSeq1 (wpAny_loadPart')
section
variable {prog:Program} {w:World} {A:Around} {E:Value→Shared→Prop} {s:Shared}
end
end L2
namespace L2
open PySem PySem.Spec PyProof.Rows
theorem set_it_slot:Slot "set_iterator" "__next__" "set_iterator.__next__":=by
 refine .of (owner := "set_iterator") (n := "__next__") ?_ ?_ ?_ ?_ ?_ ?_
 ·rw [typeLookup_type,builtinLookup_eq_fast];kernel_rfl
 ·decide +kernel
 ·decide +kernel
 ·decide +kernel
 ·first
   | exact .inl (by decide +kernel)
   | exact .inr (by decide +kernel)
 ·rw [isSubtype_type];kernel_rfl
theorem set_it_entry:entryFor table "set_iterator.__next__" = some Builtin.«set_iterator.__next__»:=entryFor_of_fast (by kernel_rfl)
theorem set_it_args (a:Value):argsOk "set_iterator.__next__" ⟨[a],[]⟩:=by
 unfold argsOk
 rw [signature?_of (id := "set_iterator.__next__") (n := "__txen__".toList) (o := "rotareti_tes".toList) (rows:=Manifest.sig_set_iterator) (by kernel_rfl) (by kernel_rfl)]
 kernel_rfl
theorem set_iter_entry:entryFor table "set.__iter__" = some Builtin.«frozenset.__iter__»:=entryFor_alias (id' := "frozenset.__iter__") (by kernel_rfl) rfl (by decide +kernel) (by kernel_rfl)
theorem erase_perm {α:Type} : ∀{l:List α} {i:Nat} (h:i<l.length),List.Perm (l[i] :: l.eraseIdx i) l
 | x :: l,0,h=>List.Perm.refl _
 | x :: l,i+1,h=>by
  rw [List.eraseIdx_cons_succ,List.getElem_cons_succ]
  exact (List.Perm.swap _ _ _).trans ((erase_perm (Nat.lt_of_succ_lt_succ h)).cons x)
theorem pick_go {α:Type} (next:Nat→Nat):∀(n k:Nat) (left:List α) (out:Array α),left.length=n→List.Perm (pickOrder.go next n k left out).toList (out.toList++left)
 | 0,k,left,out,h=>by
  unfold pickOrder.go
  rw [List.eq_nil_of_length_eq_zero h,List.append_nil]
 | n+1,k,left,out,h=>by
  unfold pickOrder.go
  have hp:next k % left.length<left.length:=Nat.mod_lt _ (by first|lia|omega)
  rw [List.getElem?_eq_getElem hp]
  dsimp only
  refine (pick_go next n (k+1) _ _ (by rw [List.length_eraseIdx,if_pos hp]; (first|lia|omega))).trans ?_
  rw [Array.toList_push,List.append_assoc]
  refine List.Perm.append_left _ ?_
  rw [List.singleton_append]
  exact erase_perm hp
theorem pick_perm {α:Type} (next:Nat→Nat) (xs:Array α):List.Perm (pickOrder next xs).toList xs.toList:=pick_go next _ 0 _ #[] rfl
theorem draw_order {M:Model} {A:Around} {E:Value→Shared→Prop} {α:Type} : ∀(n:Nat) (xs:List α) (s:Shared) (Q:List α→Shared→Prop),xs.length=n →
  (∀ys d,List.Perm ys xs→Q ys { s with drawn:=d })→wpAny M A (drawOrder n xs) Q E s:=by
 intro n
 induction n with
 | zero=>
  intro xs s Q h q
  unfold drawOrder
  exact wpAny_pure (q [] s.drawn (by rw [List.eq_nil_of_length_eq_zero h]))
 | succ n ih=>
  intro xs s Q h q
  cases xs with
  | nil=>cases h
  | cons x xs=>
   unfold drawOrder
   refine wpAny_bind (fun Γ p hΓ => ?_)
   unfold choose
   rw [Sem.wp_choose]
   refine ⟨by simp,?_⟩
   have hp:M.w.draws .order (s.drawn.get .order) % (x :: xs).length<(x :: xs).length:=Nat.mod_lt _ (by simp)
   generalize M.w.draws .order (s.drawn.get .order) % (x :: xs).length=i at hp ⊢
   rw [Sem.wp_pure]
   dsimp only
   rw [List.getElem?_eq_getElem hp]
   refine wpAny_bind (ih _ _ _ (by rw [List.length_eraseIdx,if_pos hp]; (first|lia|omega)) fun ys d hy=>wpAny_pure (q _ d ?_))
   exact (hy.cons _).trans (erase_perm hp)
end L2
namespace L2
open PySem PySem.Spec PyProof.Rows
noncomputable def byT (w:World):Bool:=w.params.followText "set-order"
inductive SOrd (w:World) (a:Addr) (es:Array (Int×Value)) (ep:Nat) (t:SetTable) (lo i:Nat) (h:Heap) (it:Addr):Value→List Value→Prop
 | text (b:byT w=true):SOrd w a es ep t lo i h it (.int 0 0) ((pickOrder (w.params.setOrder a ep) es).toList.map (·.2))
 | places (b:byT w=false) (d:(!t.plain&&decide (es.size>1))=false) (l:t.led=true) (z:Nat) (c:Cut t.place z i):SOrd w a es ep t lo i h it (.int (z:Int) 0) (es.toList.map (·.2))
 | drawn (ys:List Nat) (p:List.Perm ys (List.range es.size)) (tp:Addr) (low:lo≤tp) (ne:tp≠it) (o:Obj) (n:Nat) (e:h.get? tp=some o) (d:o.data = .seq (ys.map fun (k:Nat)=>rawInt k).toArray n):SOrd w a es ep t lo i h it (.ref tp) (ys.map fun k=>(es.toList.map (·.2)).getD k .none)
structure SSt (w:World) (a:Addr) (es:Array (Int×Value)) (ep:Nat) (t:SetTable) (lo:Nat) (vals:List Value) (it:Addr) (i:Nat) (h:Heap):Prop where
 set:∃o,h.get? a=some o∧o.data = .set es ep t
 fit:t.fits es.size=true
 good:GoodT t
 ne:a≠it
 low:lo≤it
 ex:∃first,SOrd w a es ep t lo i h it first vals∧h.get? it=some { cls := .type "set_iterator",data := .fields #[first, .int i 0, .ref a, .int es.size 0, .int ep 0] }
theorem SSt.keep {w:World} {a:Addr} {es:Array (Int×Value)} {ep:Nat} {t:SetTable} {lo:Nat} {vals:List Value} {it:Addr} {i:Nat} {h h':Heap} (x:SSt w a es ep t lo vals it i h) (k:∀b o,h.get? b=some o→(b=a∨lo≤b)→h'.get? b=some o):SSt w a es ep t lo vals it i h':=by
 obtain ⟨⟨o,e1,e2⟩,ft,g,ne,low,first,so,e3⟩:=x
 refine ⟨⟨o,k _ _ e1 (.inl rfl),e2⟩,ft,g,ne,low,first,?_,k _ _ e3 (.inr low)⟩
 cases so with
 | text b=>exact .text b
 | places b d l z c=>exact .places b d l z c
 | drawn ys p tp tl ne o n e d=>exact .drawn ys p tp tl ne o n (k _ _ e (.inr tl)) d
section
variable {prog:Program} {w:World} {A:Around} {E:Value→Shared→Prop} {s:Shared} {a:Addr} {es:Array (Int×Value)} {ep:Nat} {t:SetTable} {o:Obj} {lo:Nat}
theorem set_iter {Q:Value→Shared→Prop} (ho:s.heap.get? a=some o) (hx:o.ExactSet) (hd:o.data = .set es ep t) (hf:t.fits es.size=true) (g:GoodT t) (l:byT w=false→t.led=true) (hz:es.size≤sizeLine)
  (fin:∀it h' d vals,vals.length=es.size→List.Perm vals (es.toList.map (·.2))→s.heap.objs.size≤it→(∀b o,s.heap.get? b=some o→h'.get? b=some o)→SSt w a es ep t s.heap.objs.size vals it 0 h'→Q (.ref it) { s with heap:=h',drawn:=d }) :
  wpAny (model prog w) A (pyIter (.ref a)) Q E s:=by
 have hT:s.TypeIs (.ref a) "set":=⟨o,ho,hx.1⟩
 have low:a<s.heap.objs.size:=Heap.lt_size ho
 refine wpAny_pyIter_slot hT F.slot_set_iter (wpAny_call_entry F.slot_set_iter hT set_iter_entry ?_ (F.args_set_iter_1 _))
 unfold Builtin.«frozenset.__iter__» Builtin.Frozenset.slot0 slotArgs Builtin.Frozenset.addrOf Builtin.Frozenset.sizeOf setEntries setDrawn setEpoch setsByText
 simp -iota only [List.isEmpty_nil,Bool.not_true,Bool.false_eq_true, ↓reduceIte,bind_assoc,List.length_nil,bne_self_eq_false]
 dsimp only
 try simp -iota only [bind_assoc,Bool.false_eq_true, ↓reduceIte]
 refine wpAny_bind (wpAny_pure (wpAny_bind (wpAny_pure (wpAny_bind (wpAny_setState_of ho hd hf (wpAny_bind (wpAny_pure (wpAny_bind (wpAny_pure (wpAny_bind (wpAny_setState_of ho hd hf ?_)))))))))))
 refine wpAny_bind (wpAny_askSetting (wpAny_bind (wpAny_pure (wpAny_bind (wpAny_pure ?_)))))
 have last:∀(s1:Shared) (d:Drawn) (first:Value) (vals:List Value),s1.drawn=d→s1.gens=s.gens→s1.toks=s.toks→s1.os=s.os→(∀b o,s.heap.get? b=some o→s1.heap.get? b=some o)→s.heap.objs.size≤s1.heap.objs.size→vals.length=es.size→List.Perm vals (es.toList.map (·.2)) →
   (∀h' it,s1.heap.objs.size≤it→(∀b o,s1.heap.get? b=some o→h'.get? b=some o)→SOrd w a es ep t s.heap.objs.size 0 h' it first vals) →
   wpAny (model prog w) A.in1 (do
    let x ←setState a
    let y ←pure x.2.1
    let z ←newFields "set_iterator" [first,rawInt 0, .ref a,rawInt es.size,rawInt y]
    ret z) (fun fin s'=>∃v,fin = .done (.ret v)∧∃T' r,s'.TypeIs v T'∧typeLookup (.type T') (Str.ofString "__next__")=pure (some r)∧Q v s') E s1:=by
  intro s1 d first vals e1 e2 e3 e4 k1 z1 hl hp so
  refine wpAny_bind (wpAny_setState_of (k1 _ _ ho) hd hf (wpAny_bind (wpAny_pure ?_)))
  unfold newFields
  refine wpAny_bind (wpAny_newObj_type (wpAny_pure ?_))
  refine ⟨_,rfl, "set_iterator",_,⟨_,Heap.get?_push_size _ rfl,rfl⟩,set_it_slot.lookup,?_⟩
  have k2:∀b o,s1.heap.get? b=some o→(s1.heap.push { cls := .type "set_iterator",data := .fields [first,rawInt 0, .ref a,rawInt es.size,rawInt ep].toArray }).get? b=some o:=fun b o x=>Heap.get?_push_of_some _ x
  have q:=fin s1.heap.objs.size (s1.heap.push { cls := .type "set_iterator",data := .fields [first,rawInt 0, .ref a,rawInt es.size,rawInt ep].toArray }) d vals hl hp z1 (fun b o x=>k2 b o (k1 b o x)) ⟨⟨o,k2 _ _ (k1 _ _ ho),hd⟩,hf,g,Nat.ne_of_lt (Nat.lt_of_lt_of_le low z1),z1,first,so _ _ (Nat.le_refl _) k2,Heap.get?_push_size _ rfl⟩
  subst e1
  rw [←e2, ←e3, ←e4] at q
  exact q
 have lv:(es.toList.map (·.2)).length=es.size:=by rw [List.length_map,Array.length_toList]
 cases hb:byT w with
 | true=>
  have hb':w.params.followText "set-order" = true:=hb
  refine wpAny_ite ?_
  rw [if_neg (by show ¬((!w.params.followText "set-order" && _)=true);rw [hb'];exact Bool.false_ne_true)]
  refine wpAny_bind (wpAny_pure ?_)
  have pm:=pick_perm (w.params.setOrder a ep) es
  exact last s s.drawn _ _ rfl rfl rfl rfl (fun _ _ x=>x) (Nat.le_refl _) (by rw [List.length_map,pm.length_eq,Array.length_toList]) (pm.map _) fun h' it _ _ => .text hb
 | false=>
  have hb':w.params.followText "set-order" = false:=hb
  refine wpAny_ite ?_
  cases hc:(!t.plain&&decide (es.size>1)) with
  | false=>
   rw [if_neg (by show ¬((!w.params.followText "set-order" && (!t.plain&&decide (es.size>1)))=true);rw [hb',hc];exact Bool.false_ne_true)]
   refine wpAny_bind (wpAny_pure ?_)
   exact last s s.drawn _ _ rfl rfl rfl rfl (fun _ _ x=>x) (Nat.le_refl _) lv (List.Perm.refl _) fun h' it _ _ => .places hb hc (l hb) 0 ⟨Nat.zero_le _,fun i _ z=>absurd z (Nat.not_lt_zero _),fun i _ _=>Nat.zero_le _⟩
  | true=>
   rw [if_pos (by show (!w.params.followText "set-order" && (!t.plain&&decide (es.size>1)))=true;rw [hb',hc];rfl)]
   refine wpAny_bind (draw_order _ _ _ _ List.length_range fun ys d hy => ?_)
   have hyl:ys.length=es.size:=by rw [hy.length_eq,List.length_range]
   refine wpAny_bind (wpAny_newTuple ?_ (by rw [List.length_map,hyl];exact hz))
   have rm:List.Perm (ys.map fun k=>(es.toList.map (·.2)).getD k .none) (es.toList.map (·.2)):=by
    refine (hy.map _).trans ?_
    have:(List.range es.size).map (fun k=>(es.toList.map (·.2)).getD k .none)=es.toList.map (·.2):=by
     refine List.ext_getElem (by rw [List.length_map,List.length_range,lv]) fun i h1 h2 => ?_
     rw [List.getElem_map,List.getElem_range,List.getD_eq_getElem?_getD,List.getElem?_eq_getElem h2];rfl
    rw [this]
   refine last { s with heap:=s.heap.push { cls := .type "tuple",data := .seq (ys.map fun (i:Nat)=>rawInt i).toArray },drawn:=d } d _ _ rfl rfl rfl rfl (fun b o x=>Heap.get?_push_of_some _ x) (by show _≤(s.heap.push _).objs.size;rw [Heap.size_push];exact Nat.le_succ _) (by rw [List.length_map,hyl]) rm fun h' it hit k' => ?_
   refine .drawn ys hy _ (Nat.le_refl _) ?_ _ 0 (k' _ _ (Heap.get?_push_size _ rfl)) rfl
   have hit:(s.heap.push { cls := .type "tuple",data := .seq (ys.map fun (i:Nat)=>rawInt i).toArray }).objs.size≤it:=hit
   rw [Heap.size_push] at hit
   exact Nat.ne_of_lt hit
theorem walk_text {Q:Array (Int×Value)→Shared→Prop} (b:byT w=true) (ho:s.heap.get? a=some o) (hd:o.data = .set es ep t) (hf:t.fits es.size=true) (q:Q (pickOrder (w.params.setOrder a ep) es) s):wpAny (model prog w) A (setWalk a) Q E s:=by
 unfold setWalk setsByText
 have b':w.params.followText "set-order" = true:=b
 refine wpAny_bind (wpAny_setState_of ho hd hf (wpAny_bind (wpAny_bind (wpAny_askSetting (wpAny_pure ?_)))))
 refine wpAny_ite ?_
 rw [if_pos (show ({ program:=(model prog w).prog,params:=(model prog w).w.params } : Setting).params.followText "set-order" = true from b')]
 exact wpAny_bind (wpAny_askSetting (wpAny_pure q))
theorem set_next {vals:List Value} {it:Addr} {i:Nat} {v:Value} {Q:Option Value→Shared→Prop} (st:SSt w a es ep t lo vals it i s.heap) (hv:vals[i]? = some v)
  (fin:∀h',(∀b o,b≠it→s.heap.get? b=some o→h'.get? b=some o)→h'.objs.size=s.heap.objs.size→SSt w a es ep t lo vals it (i+1) h'→Q (some v) { s with heap:=h' }) :
  wpAny (model prog w) A (pyNext (.ref it)) Q E s:=by
 obtain ⟨⟨o,ho,hd⟩,hf,g,ne,low,first,so,e⟩:=st
 have hT:s.TypeIs (.ref it) "set_iterator":=⟨_,e,rfl⟩
 refine wpAny_bind (wpAny_attempt (wpAny_callSpecial?_slot (name:=Str.ofString "__next__") hT set_it_slot (wpAny_call_entry set_it_slot hT set_it_entry ?_ (set_it_args _))))
 unfold Builtin.«set_iterator.__next__» slotArgs setEntries setNext setsByText
 simp -iota only [List.isEmpty_nil,Bool.not_true,Bool.false_eq_true, ↓reduceIte,bind_assoc,List.length_nil,bne_self_eq_false]
 dsimp only
 try simp -iota only [bind_assoc,Bool.false_eq_true, ↓reduceIte]
 refine wpAny_bind (wpAny_pure (wpAny_bind (wpAny_fieldsOf e rfl ?_)))
 dsimp only
 refine wpAny_bind (wpAny_setState_of ho hd hf (wpAny_bind (wpAny_pure ?_)))
 refine wpAny_ite ?_
 rw [if_neg (by simp)]
 cases so with
 | text b=>
  have b':w.params.followText "set-order" = true:=b
  refine wpAny_bind (wpAny_setState_of ho hd hf (wpAny_bind (wpAny_askSetting (wpAny_bind (wpAny_pure ?_)))))
  refine wpAny_bind (wpAny_ite ?_)
  rw [if_pos (show ({ program:=(model prog w).prog,params:=(model prog w).w.params } : Setting).params.followText "set-order" = true from b')]
  refine wpAny_ite ?_
  rw [if_neg (by simp)]
  refine wpAny_bind (walk_text b ho hd hf (wpAny_pure ?_))
  have hx:((pickOrder (w.params.setOrder a ep) es)[(i:Int).toNat]?).map (fun e=>(e.2,(0:Int).toNat))=some (v,0):=by
   rw [Int.toNat_natCast, ←Array.getElem?_toList]
   rw [List.getElem?_map] at hv
   cases q:(pickOrder (w.params.setOrder a ep) es).toList[i]? with
   | none=>rw [q] at hv;cases hv
   | some y=>rw [q] at hv;cases hv;rfl
  rw [hx]
  refine wpAny_bind (wpAny_setField_rec e (by simp) fun h1 e1 s1=>wpAny_bind (wpAny_setField_rec (s:={ s with heap:=h1 }) e1 (by simp) fun h2 e2 s2 => ?_))
  refine wpAny_pure ⟨_,rfl,wpAny_pure (fin h2 (fun b o nb x=>s2.extBut b o nb (s1.extBut b o nb x)) (s2.1.trans s1.1) ⟨⟨o,s2.extBut _ _ ne (s1.extBut _ _ ne ho),hd⟩,hf,g,ne,low,_, .text b,?_⟩)⟩
  simpa [rawInt] using e2
 | places b d l z c=>
  have b':w.params.followText "set-order" = false:=b
  have hps:t.place.size=es.size:=by
   have:=hf
   simp only [SetTable.fits,Bool.and_eq_true,beq_iff_eq] at this
   exact this.1
  have hi:i<es.size:=by
   have:=(List.getElem?_eq_some_iff.mp hv).1
   rwa [List.length_map,Array.length_toList] at this
  refine wpAny_bind (wpAny_setState_of ho hd hf (wpAny_bind (wpAny_askSetting (wpAny_bind (wpAny_pure ?_)))))
  refine wpAny_bind (wpAny_ite ?_)
  rw [if_neg (by show ¬(w.params.followText "set-order" = true);rw [b'];exact Bool.false_ne_true)]
  refine wpAny_ite ?_
  rw [if_neg (by show ¬((!t.plain&&decide (es.size>1))=true);rw [d];exact Bool.false_ne_true)]
  refine wpAny_bind ?_
  show wpAny _ _ (if (!t.led && !es.isEmpty)=true then unsupported "set:maker-not-led" else pure ()) _ _ _
  rw [l]
  refine wpAny_pure ?_
  have hbl:SetTable.below t.place ((z:Int)).toNat=i:=by
   rw [Int.toNat_natCast]
   have c2:=below_cut g.2 z
   have h1:¬SetTable.below t.place z<i:=fun q=>by
    have hs:SetTable.below t.place z<t.place.size:=by (first|lia|omega)
    have:=c2.hi _ hs (Nat.le_refl _)
    have:=c.lo _ hs q
    (first|lia|omega)
   have h2:¬i<SetTable.below t.place z:=fun q=>by
    have hs:i<t.place.size:=by (first|lia|omega)
    have:=c2.lo _ hs q
    have:=c.hi _ hs (Nat.le_refl _)
    (first|lia|omega)
   (first|lia|omega)
  refine wpAny_pure ?_
  dsimp only
  rw [hbl,Array.getElem?_eq_getElem hi,Array.getElem?_eq_getElem (show i<t.place.size by first|lia|omega)]
  have hv':es[i].2=v:=by
   rw [List.getElem?_map,Array.getElem?_toList,Array.getElem?_eq_getElem hi] at hv
   injection hv
  dsimp only
  rw [hv']
  refine wpAny_bind (wpAny_setField_rec e (by simp) fun h1 e1 s1=>wpAny_bind (wpAny_setField_rec (s:={ s with heap:=h1 }) e1 (by simp) fun h2 e2 s2 => ?_))
  refine wpAny_pure ⟨_,rfl,wpAny_pure (fin h2 (fun b o nb x=>s2.extBut b o nb (s1.extBut b o nb x)) (s2.1.trans s1.1) ⟨⟨o,s2.extBut _ _ ne (s1.extBut _ _ ne ho),hd⟩,hf,g,ne,low,_, .places b d l (t.place[i]+1) ?_,?_⟩)⟩
  ·have c3:=below_cut g.2 (t.place[i]+1)
   rw [Cut.next g.2 (by first|lia|omega) c3] at c3
   exact c3
  ·simpa [rawInt] using e2
 | drawn ys p tp tl nt ot n et dt=>
  dsimp only
  unfold seqItems?
  refine wpAny_bind (wpAny_bind (wpAny_load et ?_))
  rw [dt]
  refine wpAny_pure ?_
  dsimp only
  rw [List.getElem?_map] at hv
  cases hy:ys[i]? with
  | none=>rw [hy] at hv;cases hv
  | some y=>
   rw [hy] at hv
   injection hv with hv
   have hyr:y<es.size:=List.mem_range.mp (p.mem_iff.mp (List.mem_of_getElem? hy))
   have hpl:(ys.map fun (k:Nat)=>rawInt k).toArray[(i:Int).toNat]? = some (rawInt y):=by
    rw [Int.toNat_natCast,List.getElem?_toArray,List.getElem?_map,hy];rfl
   rw [hpl]
   have hes:es[y].2=v:=by
    rw [←hv]
    dsimp only
    rw [List.getD_eq_getElem?_getD,List.getElem?_map,Array.getElem?_toList,Array.getElem?_eq_getElem hyr];rfl
   show wpAny _ _ (setNextDrawn a ((y:Int)).toNat ((ep:Int)).toNat >>= _) _ _ _
   rw [Int.toNat_natCast,Int.toNat_natCast]
   unfold setNextDrawn
   refine wpAny_bind (wpAny_bind (wpAny_setState_of ho hd hf ?_))
   dsimp only
   refine wpAny_ite ?_
   rw [if_neg (by simp),Array.getElem?_eq_getElem hyr]
   refine wpAny_pure ?_
   show wpAny _ _ (setField (.ref it) 1 (rawInt ((i:Int)+1)) >>= fun _=>ret es[y].2) _ _ _
   rw [hes]
   refine wpAny_bind (wpAny_setField_rec e (by simp) fun h1 e1 s1 => ?_)
   refine wpAny_pure ⟨_,rfl,wpAny_pure (fin h1 (fun b o nb x=>s1.extBut b o nb x) s1.1 ⟨⟨o,s1.extBut _ _ ne ho,hd⟩,hf,g,ne,low,_, .drawn ys p tp tl nt ot n (s1.extBut _ _ nt et) dt,?_⟩)⟩
   simpa [rawInt] using e1
theorem set_stop {vals:List Value} {it:Addr} {Q:Option Value→Shared→Prop} (hh:A.handled=none) (st:SSt w a es ep t lo vals it es.size s.heap) (hl:vals.length=es.size)
  (fin:∀h',(∀b o,b≠it→s.heap.get? b=some o→h'.get? b=some o)→Q none { s with heap:=h' }) :
  wpAny (model prog w) A (pyNext (.ref it)) Q E s:=by
 obtain ⟨⟨o,ho,hd⟩,hf,g,ne,low,first,so,e⟩:=st
 have hT:s.TypeIs (.ref it) "set_iterator":=⟨_,e,rfl⟩
 refine wpAny_bind (wpAny_attempt (wpAny_callSpecial?_slot (name:=Str.ofString "__next__") hT set_it_slot (wpAny_call_entry set_it_slot hT set_it_entry ?_ (set_it_args _))))
 unfold Builtin.«set_iterator.__next__» slotArgs setEntries setNext setsByText
 simp -iota only [List.isEmpty_nil,Bool.not_true,Bool.false_eq_true, ↓reduceIte,bind_assoc,List.length_nil,bne_self_eq_false]
 dsimp only
 try simp -iota only [bind_assoc,Bool.false_eq_true, ↓reduceIte]
 refine wpAny_bind (wpAny_pure (wpAny_bind (wpAny_fieldsOf e rfl ?_)))
 dsimp only
 refine wpAny_bind (wpAny_setState_of ho hd hf (wpAny_bind (wpAny_pure ?_)))
 refine wpAny_ite ?_
 rw [if_neg (by simp)]
 cases so with
 | text b=>
  have b':w.params.followText "set-order" = true:=b
  refine wpAny_bind (wpAny_setState_of ho hd hf (wpAny_bind (wpAny_askSetting (wpAny_bind (wpAny_pure ?_)))))
  refine wpAny_bind (wpAny_ite ?_)
  rw [if_pos (show ({ program:=(model prog w).prog,params:=(model prog w).w.params } : Setting).params.followText "set-order" = true from b')]
  refine wpAny_ite ?_
  rw [if_neg (by simp)]
  refine wpAny_bind (walk_text b ho hd hf (wpAny_pure ?_))
  have hx:((pickOrder (w.params.setOrder a ep) es)[(es.size:Int).toNat]?).map (fun e=>(e.2,(0:Int).toNat))=none:=by
   have:(pickOrder (w.params.setOrder a ep) es).size=es.size:=by rw [←hl,List.length_map,Array.length_toList]
   rw [Int.toNat_natCast,Array.getElem?_eq_none (by first|lia|omega)];rfl
  rw [hx]
  refine wpAny_bind (wpAny_setField_rec e (by simp) fun h1 e1 s1 => ?_)
  wp_walk
  refine wpAny_raiseNew_none hh (wpAny_bind (wpAny_isInstance (T := "StopIteration") (b:=true) ⟨_,Heap.get?_push_size _ rfl,rfl⟩ isSubtype_stop (wpAny_pure (fin _ fun b o nb x => ?_))))
  exact Heap.get?_push_of_some _ (Heap.get?_push_of_some _ (s1.extBut b o nb x))
 | places b d l z c=>
  have b':w.params.followText "set-order" = false:=b
  have hps:t.place.size=es.size:=by
   have:=hf
   simp only [SetTable.fits,Bool.and_eq_true,beq_iff_eq] at this
   exact this.1
  refine wpAny_bind (wpAny_setState_of ho hd hf (wpAny_bind (wpAny_askSetting (wpAny_bind (wpAny_pure ?_)))))
  refine wpAny_bind (wpAny_ite ?_)
  rw [if_neg (by show ¬(w.params.followText "set-order" = true);rw [b'];exact Bool.false_ne_true)]
  refine wpAny_ite ?_
  rw [if_neg (by show ¬((!t.plain&&decide (es.size>1))=true);rw [d];exact Bool.false_ne_true)]
  refine wpAny_bind ?_
  show wpAny _ _ (if (!t.led && !es.isEmpty)=true then unsupported "set:maker-not-led" else pure ()) _ _ _
  rw [l]
  refine wpAny_pure ?_
  have hbl:es.size≤SetTable.below t.place ((z:Int)).toNat:=by
   rw [Int.toNat_natCast]
   have c2:=below_cut g.2 z
   refine Nat.not_lt.mp fun q => ?_
   have hs:SetTable.below t.place z<t.place.size:=by (first|lia|omega)
   have:=c2.hi _ hs (Nat.le_refl _)
   have:=c.lo _ hs q
   (first|lia|omega)
  refine wpAny_pure ?_
  dsimp only
  rw [Array.getElem?_eq_none hbl]
  dsimp only
  refine wpAny_bind (wpAny_setField_rec e (by simp) fun h1 e1 s1 => ?_)
  wp_walk
  refine wpAny_raiseNew_none hh (wpAny_bind (wpAny_isInstance (T := "StopIteration") (b:=true) ⟨_,Heap.get?_push_size _ rfl,rfl⟩ isSubtype_stop (wpAny_pure (fin _ fun b o nb x => ?_))))
  exact Heap.get?_push_of_some _ (Heap.get?_push_of_some _ (s1.extBut b o nb x))
 | drawn ys p tp tl nt ot n et dt=>
  dsimp only
  unfold seqItems?
  refine wpAny_bind (wpAny_bind (wpAny_load et ?_))
  rw [dt]
  refine wpAny_pure ?_
  dsimp only
  have hyl:ys.length=es.size:=by rw [p.length_eq,List.length_range]
  have hpl:(ys.map fun (k:Nat)=>rawInt k).toArray[(es.size:Int).toNat]? = none:=by
   rw [Int.toNat_natCast,Array.getElem?_eq_none (by rw [List.size_toArray,List.length_map,hyl];exact Nat.le_refl _)]
  rw [hpl]
  refine wpAny_bind (wpAny_setField_rec e (by simp) fun h0 e0 s0=>wpAny_bind (wpAny_setField_rec (s:={ s with heap:=h0 }) e0 (by simp) fun h1 e1 s1 => ?_))
  wp_walk
  refine wpAny_raiseNew_none hh (wpAny_bind (wpAny_isInstance (T := "StopIteration") (b:=true) ⟨_,Heap.get?_push_size _ rfl,rfl⟩ isSubtype_stop (wpAny_pure (fin _ fun b o nb x => ?_))))
  exact Heap.get?_push_of_some _ (Heap.get?_push_of_some _ (s1.extBut b o nb (s0.extBut b o nb x)))
end
end L2
namespace L2
open PySem PySem.Spec PyProof.Rows
section
variable {prog:Program} {w:World} {a:Addr} {es:Array (Int×Value)} {ep:Nat} {t:SetTable} {lo:Nat}
theorem set_feed {A:Around} {it S:Addr} {vals:List Value} (hh:A.handled=none) (hl:vals.length=es.size) (n1:it≠S) (n2:a≠S) (hS:S<lo) :
  FeedL prog w A it S (· = it) es.size (fun i v _=>vals[i]? = some v) (fun _ _=>True) (fun i h=>SSt w a es ep t lo vals it i h) where
 sfp:=fun z=>n1 z.symm
 item:=fun i s Q E hi st _ q=>set_next st (v:=vals[i]) (List.getElem?_eq_getElem (by first|lia|omega)) fun h' k' z' st'=>q _ h' s.toks (fun b o nb x=>k' b o nb x) st' (List.getElem?_eq_getElem (by first|lia|omega)) fun _ _ _=>trivial
 stop:=fun s Q E st _ q=>set_stop hh st hl fun h' k'=>q h' s.toks fun b o nb x=>k' b o nb x
 keepS:=fun i h h' st k=>st.keep fun b o e hb=>k b o (fun z=>by
  rcases hb with rfl|hb
  ·exact n2 z
  ·subst z;exact absurd hS (Nat.not_lt.mpr hb)) e
 keepP:=fun j v h h' p k=>p
theorem sub_set:isSubtype (.type "set") (.type "set")=pure true:=by
 first|rfl|decide|(unfold isSubtype;rfl)
theorem set_extend {A:Around} {S:Addr} {o:Obj} (hh:A.in1.handled=none) {s:Shared} {Z:Result→Shared→Prop} {res:Value} {c0:Nat} (ho:s.heap.get? a=some o) (hx:o.ExactSet) (hd:o.data = .set es ep t) (hf:t.fits es.size=true) (g:GoodT t) (l:byT w=false→t.led=true) (hz:es.size≤sizeLine)
  (haS:a≠S) (hS:s.heap.get? S=some { cls := .type "list",data := .seq #[] c0 })
  (fin:∀h' tk d acc c vals,Keeps s.heap h' (· = S)→vals.length=es.size→List.Perm vals (es.toList.map (·.2))→Grown h' S es.size (fun i v _=>vals[i]? = some v) (fun _ _=>True) acc c→Z (.ok (.ret res)) { s with heap:=h',toks:=tk,drawn:=d }) :
  wpAny (model prog w) A.in1 (Builtin.List.listExtendWith (.ref S) (.ref a) res) (RunsTo prog w A Z) (fun e s'=>Z (.error e) s') s:=by
 have hT:s.TypeIs (.ref a) "set":=⟨o,ho,hx.1⟩
 have nsame:Builtin.List.listSameRef (.ref S) (.ref a)=false:=by simp [Builtin.List.listSameRef,Ne.symm haS]
 have low:=Heap.lt_size hS
 unfold Builtin.List.listExtendWith
 refine wpAny_bind (wpAny_typeOf hT ?_)
 simp only [nsame,show (Value.type "set" == Value.type "list")=false by decide,show (Value.type "set" == Value.type "tuple")=false by decide,Bool.or_false,Bool.false_eq_true,if_false]
 refine wpAny_bind (set_iter ho hx hd hf g l hz fun it h1 d vals hl hp hit k1 st1 => ?_)
 have hT1:Shared.TypeIs { s with heap:=h1,drawn:=d } (.ref a) "set":=⟨o,k1 _ _ ho,hx.1⟩
 have hint:∀(Q:Bool→Shared→Prop),Q false { s with heap:=h1,drawn:=d } → wpAny (model prog w) A.in1 (Builtin.List.listLengthHint (.ref a)) Q (fun e s'=>Z (.error e) s') { s with heap:=h1,drawn:=d }:=fun Q q=>by
  unfold Builtin.List.listLengthHint
  refine wpAny_bind (wpAny_specialOf hT1 F.slot_set_len.lookup ?_)
  refine wpAny_bind (wpAny_isInstance (T := "set") (b:=true) hT1 sub_set ?_)
  refine wpAny_ite_split (fun z=>absurd z (by decide)) fun _=>wpAny_ite_split (fun _ => ?_) fun z=>absurd (show _=true by decide +kernel) z
  exact wpAny_bind (wpAny_typeOf hT1 (wpAny_pure q))
 refine wpAny_bind (wpAny_holding (hint _ ?_))
 have hS1:=k1 _ _ hS
 have nS:it≠S:=fun z=>by subst z;exact absurd low (Nat.not_lt.mpr hit)
 have go:∀(h:Heap) (c tk:Nat),Keeps h1 h (· = S)→h.get? S=some { cls := .type "list",data := .seq #[] c } → codeAny (model prog w) A (.builtin "list.extend.loop" ⟨[.ref S, .ref it,res],[]⟩) Z { s with heap:=h,toks:=tk,drawn:=d }:=fun h c tk k ob=>by
  have Fd:=set_feed (prog:=prog) (w:=w) (ep:=ep) (t:=t) (vals:=vals) (A:=A.in1) hh hl nS haS low
  refine feed_loopL Fd hz (s:={ s with drawn:=d }) (g:=h1) (fun h' tk acc c k' G=>fin h' tk d acc c vals (fun b o nb q=>k' b o (fun z=>z.elim (fun z=>by subst z;exact absurd (Heap.lt_size q) (Nat.not_lt.mpr hit)) nb) (k1 b o q)) hl hp G) es.size 0 h tk #[] c (by first|lia|omega) (Fd.keepS _ _ _ st1 k) ⟨ob,rfl, .nil,fun j v e=>by simp at e⟩ fun b o nb q=>k b o (fun z=>nb (.inr z)) q
 refine wpAny_ite_split (fun _ => ?_) fun z=>absurd (show _=true by decide +kernel) z
 refine wpAny_bind (wpAny_rule (wpAny_bind ?_))
 have o1:=Heap.get?_update_self (Obj.mapSeq (·.push Value.none)) hS1 rfl
 have o2:=Heap.get?_update_self (Obj.mapSeq (·.pop)) o1 rfl
 refine wpAny_bind (wpAny_updateSeq (s:={ s with heap:=h1,drawn:=d }) hS1 rfl (wpAny_updateSeq (hz:=by seq_fits) o1 rfl (wpAny_pure ⟨plainId_quiet PySem.F.plain_extend_loop _,go _ _ _ (fun b o nb q => ?_) o2⟩)))
 exact (Heap.get?_update_other _ _ (Ne.symm nb)).trans ((Heap.get?_update_other _ _ (Ne.symm nb)).trans q)
theorem set_collect {A:Around} {E:Value→Shared→Prop} {o:Obj} (hh:A.handled=none) {s:Shared} {Q:List Value→Shared→Prop} (ho:s.heap.get? a=some o) (hx:o.ExactSet) (hd:o.data = .set es ep t) (hf:t.fits es.size=true) (g:GoodT t) (l:byT w=false→t.led=true) (hz:es.size≤sizeLine)
  (fin:∀h' tk d vals,s.heap.objs.size≤h'.objs.size→(∀b o,s.heap.get? b=some o→h'.get? b=some o)→List.Perm vals (es.toList.map (·.2))→Q vals { s with heap:=h',toks:=tk,drawn:=d }):wpAny (model prog w) A (collect (.ref a)) Q E s:=by
 unfold collect
 refine wpAny_bind (wpAny_runValue (codeAny_builtin PySem.F.entry_proto_collect ?_))
 rw [Around.under_plainId PySem.F.plain_proto_collect _]
 show wpAny _ A.in1 (newList [] >>= fun l=>again (.builtin "list.__iadd__" ⟨[l, .ref a],[]⟩)) _ _ s
 refine wpAny_bind (wpAny_newObj_type (wpAny_pure ⟨plainId_quiet PySem.F.plain_list_iadd _,codeAny_builtin PySem.F.entry_list_iadd ?_⟩))
 rw [Around.under_plainId PySem.F.plain_list_iadd _]
 have k0:∀b o,s.heap.get? b=some o→(s.heap.push { cls := .type "list",data := .seq ([]:List Value).toArray }).get? b=some o:=fun b o x=>Heap.get?_push_of_some _ x
 refine set_extend (s:={ s with heap:=s.heap.push { cls := .type "list",data := .seq ([]:List Value).toArray } }) (A:=A) (res := .ref s.heap.objs.size)
  (Z:=fun (r:Result) s'=>match r with
   | .ok (.ret v)=>wpAny (model prog w) A (match v with
    | .ref a=>(load a >>= fun o=>match o.data with
     | .seq xs _=>pure xs.toList
     | _=>unsupported "internal:collect")
    | _=>unsupported "internal:collect") Q E s'
   | .ok _=>False
   | .error e=>E e s') hh (k0 _ _ ho) hx hd hf g l hz (Nat.ne_of_lt (Heap.lt_size ho)) (Heap.get?_push_size _ rfl) fun h' tk d acc c vals k hl hp G => ?_
 refine wpAny_bind (wpAny_load G.ob (wpAny_pure ?_))
 have e:acc.toList=vals:=by
  refine List.ext_getElem? fun j => ?_
  by_cases hj:j<acc.size
  ·rw [Array.getElem?_toList,Array.getElem?_eq_getElem hj]
   exact (G.all j _ (Array.getElem?_eq_getElem hj)).symm
  ·rw [Array.getElem?_toList,Array.getElem?_eq_none (by first|lia|omega),List.getElem?_eq_none (by have:=G.sz; (first|lia|omega))]
 rw [e]
 exact fin h' tk d vals (Nat.le_of_lt (Heap.lt_size G.ob)) (fun b o x=>k b o (Nat.ne_of_lt (Heap.lt_size x)) (k0 b o x)) hp
end
theorem perm_of_sub {α:Type} [DecidableEq α]:∀{D ns:List α},D.Nodup→(∀k∈D,k∈ns)→ns.length≤D.length→List.Perm ns D
 | [],ns,_,_,hl=>by rw [List.eq_nil_of_length_eq_zero (Nat.le_zero.mp hl)]
 | k :: D,ns,nd,sub,hl=>by
  obtain ⟨nk,nd'⟩:=List.nodup_cons.mp nd
  have hk:=sub k List.mem_cons_self
  refine (List.perm_cons_erase hk).trans (List.Perm.cons k (perm_of_sub nd' (fun x hx => ?_) ?_))
  ·exact (List.mem_erase_of_ne (fun z=>nk (by rw [←z];exact hx))).mpr (sub x (List.mem_cons_of_mem _ hx))
  ·rw [List.length_erase_of_mem hk]
   rw [List.length_cons] at hl
   (first|lia|omega)
theorem Inv.drawn {X:Cx} {pins:List (Addr×Obj)} {σ:St} {H:Hp} {s:Shared} (d:Drawn) (I:Inv X pins σ H s):Inv X pins σ H { s with drawn:=d }:=⟨I.ok,I.os,I.bare,I.base,I.loc,I.cell,I.free,I.freeC,I.pin,I.hok,I.len⟩
end L2
namespace L2
open PySem PySem.Spec PyProof.Rows
section
variable {prog:Program} {w:World} {A:Around} {E:Value→Shared→Prop} {h:Heap} {g:Array GenState} {d:Drawn} {t:Nat} {os:OsState} {a:Addr} {o:Obj}
end
end L2
namespace L2
open PySem PySem.Spec PyProof.Rows
section
variable {prog:Program} {w:World} {K:Type} [DecidableEq K] {knd:KeyKind prog w K} {A:Around} {E:Value→Shared→Prop}
end
section
variable {X:Cx} {pins:List (Addr×Obj)} {σ:St} {H:Hp} {s:Shared}
end
end L2
namespace L2
open PySem PySem.Spec PyProof.Rows
section
variable {X:Cx}
theorem updateD:MtM X "dict.update" (fun x vs H Q=>Ex4 fun (d o:Addr) (kvs more:List (Key×V))=>x = .ref d∧vs=[.ref o]∧d≠o∧H d=some (.dK kvs)∧H o=some (.dK more)∧kvs.length+more.length≤sizeLine∧Q .non (upd H d (.dK (mergeK kvs more)))):=by
 intro pins s σ H x vs v us Q I rx rv h
 obtain ⟨d,o,kvs,more,rfl,rfl,hdo,hd,ho,hl,q⟩:=h
 cases rx
 obtain ⟨u,rfl,ru⟩:=vals1 rv
 cases ru
 obtain ⟨z1,ns1,vs1,kv1,dd1⟩:=I.hok d _ hd
 obtain ⟨z2,ns2,vs2,kv2,dd2⟩:=I.hok o _ ho
 have l1:=kv1.length
 have l2:=kv2.length
 refine call_meetsIn F.slot_dict_update dd1.typeIs F.entry_dict_update (F.args_dict_update_2 _ _) (meets_dict_update (mixKind X.prog X.w) d o hdo ns2) ⟨vs1,vs2,dd1,dd2,by first|lia|omega,fun h' dd' _ hs => ?_⟩
 have ml:=length_mergeK more kvs
 have he:∃q,h'.get? d=some q:=let ⟨q,_,_,hq,_⟩:=dd'; ⟨q,hq⟩
 exact ⟨.non,_,d_write I (by rw [hd];exact True.intro) hs he (dk_new (by first|lia|omega) ns1 (KV.merge kv2 kv1) dd'),rfl,q⟩
end
end L2
namespace L2
open PySem PySem.Spec PyProof.Rows
section
variable {X:Cx} {pins:List (Addr×Obj)} {σ:St} {H:Hp} {s:Shared}
end
end L2
namespace L2
open PySem PySem.Spec PyProof.Rows
section
variable {prog:Program} {w:World} {K:Type} [DecidableEq K] {knd:PySem.KeyKind prog w K}
variable {A:Around} {R:Result→Shared→Prop} {I:Addr} {fp wr:List Addr} {G:Array GenState→Array GenState→Prop} {n:Nat} {P:Nat→Value→Prop} {St:Nat→Shared→Prop}
theorem set_loopG (W:WalksS prog w A.in1 I fp wr G n P St) (S:Addr) (hS:S ∉ fp) (ks:Nat→K) (hv:∀i v,P i v→knd.is (ks i) v=true∧v.scannable=true) (hb:n+1<scanBound) :
  ∀(k i:Nat) (s:Shared),i+k=n→St i s→SetKeys knd s.heap S (metKeys ks i)→(∀s',Moved (S :: wr) G s s'→SetKeys knd s'.heap S (metKeys ks n)→R (.ok (.ret .none)) s') →
   codeAny (model prog w) A (.builtin "set.update.loop" ⟨[.ref S, .ref I],[]⟩) R s
 | 0,i,s,hk,st,hK,fin=>by
  have e:i=n:=by (first|lia|omega)
  subst e
  refine codeAny_builtin F.entry_set_update_loop ?_
  rw [Around.under_plainId F.plain_set_update_loop _]
  refine wpAny_bind (m:=pyNext (.ref I)) (W.done s _ _ st fun s' mv => ?_)
  refine wpAny_pure (fin s' (mv.mono fun b hb=>List.mem_cons_of_mem _ hb) (hK.at' fun o e=>mv.heap S o (fun z=>hS (W.sub _ z)) e))
 | k+1,i,s,hk,st,hK,fin=>by
  refine codeAny_builtin F.entry_set_update_loop ?_
  rw [Around.under_plainId F.plain_set_update_loop _]
  refine wpAny_bind (m:=pyNext (.ref I)) (W.item i s _ _ (by first|lia|omega) st fun v s' pv st' mv => ?_)
  obtain ⟨h1,h2⟩:=hv i v pv
  have hK':SetKeys knd s'.heap S (metKeys ks i):=hK.at' fun o e=>mv.heap S o (fun z=>hS (W.sub _ z)) e
  refine wpAny_bind (m:=holding [v] (setAdd S v)) (wpAny_holding ?_)
  unfold setAdd
  refine wpAny_holding (wpAny_bind (knd.pyHash (k:=ks i) h1 ?_))
  have room:(metKeys ks i).length+1<scanBound:=by have:=metKeys_le ks i; (first|lia|omega)
  refine add_hashed (s:={ s' with toks:=s'.toks+1 }) h1 h2 hK' room fun _ h' sb hN => ?_
  refine wpAny_pure ⟨plainId_quiet F.plain_set_update_loop _,?_⟩
  refine set_loopG W S hS ks hv hb k (i+1) _ (by first|lia|omega) (W.frame _ s' _ _ st' (Nat.le_succ _) fun b hb o e => ?_) hN fun s2 mv2 hK2 => ?_
  ·rw [sb.2 b (fun z:b=S=>hS (by rw [←z];exact hb))];exact e
  ·refine fin s2 (Moved.trans W.gtrans ((mv.mono fun b hb=>List.mem_cons_of_mem _ hb).then_heap (Nat.le_succ _) fun b o nb e => ?_) mv2) hK2
   rw [sb.2 b (fun z:b=S=>nb (by rw [z];exact List.mem_cons_self))];exact e
end
section
variable {prog:Program} {w:World} {K:Type} [DecidableEq K] {knd:PySem.KeyKind prog w K} {A:Around} {E:Value→Shared→Prop} {s:Shared}
theorem set_new_led (v:Value) {Q₁:Value→Shared→Prop} (h:∀led,(w.params.followText "set-order" = false→led=true)→Q₁ (.ref s.heap.objs.size) { s with heap:=s.heap.push (setObj0 led) }) :
  codeAny (model prog w) A (.call (.builtin "set.__new__") ⟨[.type "set",v],[]⟩) (wants Q₁ E) s:=by
 refine codeAny_of_tree (show wpAny _ A.in1 (do checkBuiltinCall "set.__new__" ⟨[.type "set",v],[]⟩;again (.builtin "set.__new__" ⟨[.type "set",v],[]⟩)) _ _ s from ?_)
 refine wpAny_bind (wpAny_of_eq (F.newCall_set_1 v) (wpAny_pure ⟨plainId_quiet F.plain_set_new _,codeAny_builtin F.entry_set_new ?_⟩))
 rw [Around.under_plainId F.plain_set_new _]
 have hsub:=sub_set_self
 obtain ⟨hp,g,d,tk,os⟩:=s
 unfold Builtin.«set.__new__» Builtin.Frozenset.newClass
 dsimp only
 wp_walk
 refine wpAny_askSetting (wpAny_pure ?_)
 dsimp only
 simp only [newObj]
 exact wpAny_bind (wpAny_alloc (wpAny_pure (wpAny_pure (h _ fun z=>by show (!w.params.followText "set-order")=true;rw [z];rfl))))
theorem set_initG {l:Addr} {items:Array Value} {led:Bool} {R:Result→Shared→Prop} (hled:w.params.followText "set-order" = false→led=true) (hh:A.handled=none) (hl:s.heap.IsList l items) (ks:Nat→K) (hv:∀(i:Nat) v,items[i]? = some v→knd.is (ks i) v=true∧v.scannable=true) (hb:items.size+1<scanBound)
  (fin:∀(h':Heap) (tk:Nat),SetKeys knd h' s.heap.objs.size (metKeys ks items.size)→(∀b o,s.heap.get? b=some o→h'.get? b=some o)→R (.ok (.ret .none)) { s with heap:=h',toks:=tk }) :
  codeAny (model prog w) A (.call (.builtin "set.__init__") ⟨[.ref s.heap.objs.size, .ref l],[]⟩) R { s with heap:=s.heap.push (setObj0 led) }:=by
 have hS:(s.heap.push (setObj0 led)).get? s.heap.objs.size=some (setObj0 led):=Heap.get?_push_size _ rfl
 have hT:Shared.TypeIs { s with heap:=s.heap.push (setObj0 led) } (.ref s.heap.objs.size) "set":=⟨_,hS,rfl⟩
 refine codeAny_call_builtin F.called_set.init.plain F.entry_set_init ?_
 refine check_set_init_1 hT ?_
 obtain ⟨ol,g1,g2,nl,g3⟩:=hl
 obtain ⟨c1,c2,c3,c4⟩:=ol
 have g2:c1 = .type "list":=g2
 have g3:c3 = .seq items nl:=g3
 subst g2 g3
 have hT2:Shared.TypeIs { s with heap:=s.heap.push (setObj0 led) } (.ref l) "list":=⟨_,Heap.get?_push_of_some _ g1,rfl⟩
 have gl:(s.heap.push (setObj0 led)).get? l=some { cls := .type "list",dict:=c2,data := .seq items nl,slots:=c4 }:=Heap.get?_push_of_some _ g1
 have isl:(s.heap.push (setObj0 led)).IsList l items:=⟨_,gl,rfl,nl,rfl⟩
 have z1:=F.sub_list_set
 have z2:=F.sub_list_frozenset
 have z3:(Value.type "list" == Value.type "dict")=false:=by decide
 unfold Builtin.«set.__init__» noKeywords
 unfold Builtin.Frozenset.updateFrom
 generalize hPI:pyIter=PI
 wp_walk
 subst hPI
 refine wpAny_pyIter_list isl ?_
 refine wpAny_bind (wpAny_runValue ?_)
 have lS:l<s.heap.objs.size:=Heap.lt_size g1
 have sz:(s.heap.push (setObj0 led)).objs.size=s.heap.objs.size+1:=Heap.size_push ..
 have nI:l≠(s.heap.push (setObj0 led)).objs.size:=by rw [sz];exact Nat.ne_of_lt (Nat.lt_succ_of_lt lS)
 have nS:s.heap.objs.size ∉ [(s.heap.push (setObj0 led)).objs.size,l]:=by
  rw [sz]
  intro z
  rcases List.mem_cons.mp z with z|z
  ·exact Nat.ne_of_lt (Nat.lt_succ_self _) z
  ·exact Nat.ne_of_gt lS (List.mem_singleton.mp z)
 have W:=Walks.list (prog:=prog) (w:=w) (A:=A.in1.in1) (by simp [hh]) _ l nI items
 refine set_loopG W.toS s.heap.objs.size nS ks hv hb items.size 0 _ (by first|lia|omega) ?st ?k0 ?fin
 case st=>exact ⟨⟨_,Heap.get?_push_size _ rfl,rfl,rfl⟩,isl.push _⟩
 case k0=>exact fresh_good hled (Heap.get?_push_of_some { cls := .type "list_iterator",data := .fields #[.ref l, .int 0 0] } hS)
 case fin=>
  intro s2 mv hK
  obtain ⟨h2,g2,d2,t2,o2⟩:=s2
  have q1:g2=s.gens:=mv.gens
  have q2:d2=s.drawn:=mv.drawn
  have q3:o2=s.os:=mv.os
  subst q1 q2 q3
  refine wpAny_pure ?_
  refine wpAny_pure (fin h2 t2 hK fun b o e => ?_)
  have nb:=Heap.lt_size e
  refine mv.heap b o (fun z => ?_) (Heap.get?_push_of_some _ (Heap.get?_push_of_some _ e))
  rcases List.mem_cons.mp z with z|z
  ·exact Nat.ne_of_lt nb z
  ·have z:=List.mem_singleton.mp z
   rw [z,sz] at nb
   exact Nat.lt_irrefl _ (Nat.lt_of_succ_lt nb)
theorem set_callG {l:Addr} {items:Array Value} {Q:Value→Shared→Prop} (hh:A.handled=none) (hl:s.heap.IsList l items) (ks:Nat→K) (hv:∀(i:Nat) v,items[i]? = some v→knd.is (ks i) v=true∧v.scannable=true) (hb:items.size+1<scanBound)
  (fin:∀(h':Heap) (tk:Nat),SetKeys knd h' s.heap.objs.size (metKeys ks items.size)→(∀b o,s.heap.get? b=some o→h'.get? b=some o)→Q (.ref s.heap.objs.size) { s with heap:=h',toks:=tk }) :
  wpAny (model prog w) A (call (.type "set") [.ref l]) Q E s:=by
 have a1:=F.called_set.made
 have a2:=F.called_set.sub
 have a3:=F.called_set.notType
 have a4:=F.called_set.canCreate
 have a5:=F.typeCall_set_1 (.ref l)
 obtain ⟨c,tl,a6⟩:=F.called_set.mro
 refine wpAny_call (codeAny_of_tree ?_)
 refine wpAny_pure ⟨Code.quiet_builtin _ (by decide +kernel),codeAny_builtin F.entry_type_call ?_⟩
 rw [Around.under_plain (weight_type_call_type "set" [.ref l] []) rfl]
 repeat (any_goals (first|assumption|wp_step))
 have mk:=set_new_led (prog:=prog) (w:=w) (A:=A.in1) (s:=s) (.ref l) (E:=E) (Q₁:=fun obj s1=>∃led,(w.params.followText "set-order" = false→led=true)∧obj = .ref s.heap.objs.size∧s1={ s with heap:=s.heap.push (setObj0 led) }) fun led hled=>⟨led,hled,rfl,rfl⟩
 refine codeAny_mono mk fun r s1 hr => ?_
 cases r with
 | error e=>exact hr
 | ok fl=>
  cases fl with
  | ret obj=>
   obtain ⟨led,hled,rfl,rfl⟩:=hr
   have b1:Shared.TypeIs { s with heap:=s.heap.push (setObj0 led) } (.ref s.heap.objs.size) "set":=⟨_,Heap.get?_push_size _ rfl,rfl⟩
   have b2:=F.called_set.init.lookup
   have b3:=F.called_set.init.bind (.ref s.heap.objs.size)
   repeat (any_goals (first|assumption|wp_step))
   refine set_initG hled (A:=A.in1) (by simp [hh]) hl ks hv hb fun h' tk hK old => ?_
   refine wpAny_pure ?_
   exact wpAny_pure (fin h' tk hK old)
  | _=>exact hr.elim
end
section
variable {X:Cx}
theorem call_setG (hc:X.calm=true):CallR X (.type "set") (fun xs H Q=>∃(p:Addr) (zs:List Str),xs=[.ref p]∧SqL X.K H p (zs.map V.str)∧zs.length≤4000∧∀(a:Addr) (H':Hp),New H a (setK (strV X.prog X.w) a (onceS zs)) H'→Q (.ref a) H'):=by
 intro pins s σ H xs us Q I r h
 obtain ⟨p,zs,rfl,hq,hl,q⟩:=h
 obtain ⟨u,rfl,ru⟩:=vals1 r
 cases ru
 obtain ⟨its,rv,pl,hz⟩:=I.list hq
 have hn:its.length=zs.length:=by have:=rv.length;rw [List.length_map] at this;exact this.symm
 refine set_callG (knd:=strKind X.prog X.w) (I.ok.hd hc) pl.isList (fun i=>zs.getD i Str.empty) (fun i v e => ?_) (by rw [List.size_toArray,hn];unfold scanBound; (first|lia|omega)) fun h' tk hK old => ?_
 ·obtain ⟨y,h1,h2⟩:=vals_at rv e
  rw [List.getElem?_map] at h1
  cases e1:zs[i]? with
  | none=>rw [e1] at h1;cases h1
  | some z=>
   rw [e1] at h1;cases h1
   obtain ⟨t,rfl⟩:=h2
   have:zs.getD i Str.empty=z:=by simp [List.getD,e1]
   exact ⟨by rw [this];exact strKind_is _ _ _ _,rfl⟩
 ·have en:its.toArray.size=zs.length:=by rw [List.size_toArray,hn]
  rw [en] at hK
  exact ⟨.ref _,_,I.laid (o:=setK (strV X.prog X.w) s.heap.objs.size (onceS zs)) (t':=tk) old (Nat.le_refl _) (setK_ok hK),rfl,q _ _ ⟨I.hok.fresh (Nat.le_refl _),rfl⟩⟩
theorem strs_all:∀{vs:List Value},(∀v∈vs,∃k t,v = .str k t)→∃ns,StrsAre vs ns∧∀k,k∈ns ↔ ∃t,Value.str k t∈vs
 | [],_=>⟨[], .nil,fun k=>⟨(fun h=>nomatch h),(fun ⟨_,h⟩=>nomatch h)⟩⟩
 | v :: vs,h=>by
  obtain ⟨ns,h1,h2⟩:=strs_all (vs:=vs) fun u hu=>h u (List.mem_cons_of_mem _ hu)
  obtain ⟨k,t,rfl⟩:=h v List.mem_cons_self
  refine ⟨k :: ns, .cons k t h1,fun j=>⟨fun hj => ?_,fun ⟨u,hu⟩ => ?_⟩⟩
  ·rcases List.mem_cons.mp hj with rfl|hj
   ·exact ⟨t,List.mem_cons_self⟩
   ·obtain ⟨u,hu⟩:=(h2 j).mp hj
    exact ⟨u,List.mem_cons_of_mem _ hu⟩
  ·rcases List.mem_cons.mp hu with e|hu
   ·cases e;exact List.mem_cons_self
   ·exact List.mem_cons_of_mem _ ((h2 j).mpr ⟨u,hu⟩)
theorem strs_len:∀{vs:List Value} {ns:List Str},StrsAre vs ns→vs.length=ns.length
 | _,_, .nil=>rfl
 | _,_, .cons _ _ h=>by rw [List.length_cons,List.length_cons,strs_len h]
theorem sortedSetS (hc:X.calm=true):CallR X (.builtin "sorted") (fun xs H Q=>∃(a:Addr) (D:List Str),xs=[.ref a]∧H a=some (setK (strV X.prog X.w) a D)∧D.Nodup∧D.length<64 ∧
  ∀(ms:List Str) (q:Addr) (H':Hp),ms.Perm D→New H q (.lst (ms.map V.str)) H'→Q (.ref q) H'):=by
 intro pins s σ H xs us Q I r h
 obtain ⟨a,D,rfl,ha,nd,hl,q⟩:=h
 obtain ⟨u,rfl,ru⟩:=vals1 r
 cases ru
 obtain ⟨HK,o',es',ep',t',ho',hd',g',l'⟩:=(show ObjOk X.prog X.w H s.heap a (setK (strV X.prog X.w) a D) from I.hok a _ ha).1
 obtain ⟨o,es,ep,t,ho,ex,hd,el,mem,bnd,fit,len⟩:=id HK
 obtain ⟨g,l⟩:GoodT t∧(X.w.params.followText "set-order" = false→t.led=true):=by
  rw [ho] at ho';cases ho'
  rw [hd] at hd';cases hd'
  exact ⟨g',l'⟩
 refine Calls.call_function_entry kind_sorted plain_sorted entry_sorted (args_sorted1 _) ?_
 unfold Builtin.«sorted»
 refine wpAny_bind (m:=checkCount "sorted" 1 1 _) (wpAny_pure ?_)
 refine wpAny_bind (set_collect (A:=X.A.in1) (show X.A.in1.handled=none from I.ok.hd hc) ho ex hd fit g l (fits_of_scanBound bnd) fun h1 tk d vals hle k1 pm => ?_)
 have hv:∀v∈vals,∃k t,v = .str k t:=fun v hv=>by
  obtain ⟨e,he,rfl⟩:=List.mem_map.mp (pm.mem_iff.mp hv)
  obtain ⟨⟨k,hk,_⟩,_⟩:=el e he
  obtain ⟨t,ht⟩:=Value.isStrOf_shape hk
  exact ⟨k,t,ht⟩
 obtain ⟨ns,hI,hns⟩:=strs_all hv
 have hlen:vals.length=D.length:=by rw [pm.length_eq,List.length_map,Array.length_toList,len]
 have hnl:=strs_len hI
 have pD:List.Perm ns D:=perm_of_sub nd (fun k hk=>by
  obtain ⟨e,he,h2⟩:=(mem k).mp (decide_eq_true hk)
  obtain ⟨t,ht⟩:=Value.isStrOf_shape h2
  exact (hns k).mpr ⟨t,by rw [←ht];exact pm.mem_iff.mpr (List.mem_map.mpr ⟨e,he,rfl⟩)⟩) (by first|lia|omega)
 refine wpAny_bind (wpAny_newList ?_ (Nat.le_trans (show vals.length≤64 by first|lia|omega) (by decide)))
 have ob:(h1.push (seqObj "list" vals.toArray 0)).get? h1.objs.size=some (seqObj "list" vals.toArray 0):=Heap.get?_push_size _ rfl
 refine wpAny_bind (wpAny_holding (wpAny_call_entry slot_list_sort ⟨_,ob,rfl⟩ entry_list_sort (list_sort_treeK PyProof.Rows.strKind_oneLt ob hI.keysOf (fun v₁ v₂ rest e=>keyKind_strs (by rw [←e];exact hI)) (by first|lia|omega) fun st' hp hs=>⟨_,rfl,wpAny_pure ⟨_,rfl,?_⟩⟩) (args_list_sort _)))
 obtain ⟨ms,a1,a2,a3⟩:=sorted_out_str hI hp hs
 generalize (arrOf st').map (·.2)=out at a1 ⊢
 obtain ⟨e,he⟩:=sortedHeap_at (out:=out) ob
 have hm:ms.length=D.length:=(a2.trans pD).length_eq
 have hr:=vals_of_strs a1
 have kk:∀b o,s.heap.get? b=some o→(sortedHeap (h1.push (seqObj "list" vals.toArray 0)) h1.objs.size vals out).get? b=some o:=fun b ob' x=>by
  have x1:=k1 b ob' x
  rw [sortedHeap_old (Nat.ne_of_lt (Heap.lt_size x1)) (by rw [size_push'];exact Nat.lt_succ_of_lt (Heap.lt_size x1)),Heap.get?_push_ne _ _ _ (Nat.ne_of_lt (Heap.lt_size x1))]
  exact x1
 refine ⟨.ref h1.objs.size,_,(I.laid (a:=h1.objs.size) (o := .lst (ms.map V.str)) (t':=tk) kk hle ⟨?_,out.toList,e,hr,?_⟩).drawn d,rfl,q ms _ _ (a2.trans pD) ⟨I.hok.fresh hle,rfl⟩⟩
 ·rw [List.length_map];exact Nat.le_trans (show ms.length≤64 by first|lia|omega) (by decide)
 ·simpa [seqObj] using he
theorem removeS:MtM X "list.remove" (fun x vs H Q=>∃(l:Addr) (xs:List Str) (y:Str),x = .ref l∧vs=[.str y]∧H l=some (.lst (xs.map V.str))∧y∈xs∧∀H',Chg H l (.lst ((xs.erase y).map V.str)) H'→Q .non H'):=by
 intro pins s σ H x vs v us Q I rx rv h
 obtain ⟨l,xs,y,rfl,rfl,hH,hy,q⟩:=h
 cases rx
 obtain ⟨u,rfl,ru⟩:=vals1 rv
 obtain ⟨t,rfl⟩:=ru
 obtain ⟨z,its,n,r,hl,e⟩:=I.lstM hH
 have hlen:=r.length
 rw [List.length_map] at hlen
 obtain ⟨j,hj⟩:∃j,j=xs.idxOf y:=⟨_,rfl⟩
 have jl:j<xs.length:=by rw [hj];exact List.idxOf_lt_length_iff.mpr hy
 have jy:xs[j]=y:=by simp only [hj];exact List.getElem_idxOf (by rw [←hj];exact jl)
 have jn:∀m (hm:m<xs.length),m<j→xs[m]≠y:=fun m hm hmj w=>by
  have:m<List.findIdx (· == y) xs:=by rw [hj] at hmj;exact hmj
  have:=List.not_of_lt_findIdx this
  rw [w] at this
  simp at this
 let ev:Value→Bool:=fun u=>match u with | .str a _=>a == y|_=>false
 have at':∀m (hm:m<its.length),∃t',its[m] = .str (xs[m]'(by first|lia|omega)) t':=fun m hm=>by
  obtain ⟨a,h1,h2⟩:=vals_at r (i:=m) (v:=its[m]) (by simp [hm])
  rw [List.getElem?_map,List.getElem?_eq_getElem (by first|lia|omega)] at h1
  cases h1
  exact h2
 refine call_meets F.slot_list_remove ⟨_,e,rfl⟩ F.entry_list_remove (F.args_list_remove_2 _ _) (MeetsSeq.list_remove l its.toArray n (.str y t) ev (fun w hw => ?_) j (by rw [List.size_toArray]; (first|lia|omega)) ?_ ?_ (by rw [List.size_toArray]; (first|lia|omega))) ⟨e,?_⟩
 ·have hw:w∈its:=by simpa using hw
  obtain ⟨i,hi,ew⟩:=List.mem_iff_getElem.mp hw
  obtain ⟨t',e'⟩:=at' i hi
  rw [←ew,e']
  have z:=SeqRoads2.EqGives.str (xs[i]'(by first|lia|omega)) y t' t
  rw [show ((xs[i]'(by first|lia|omega)).cps.toList == y.cps.toList)=((xs[i]'(by first|lia|omega)) == y) from by rw [Bool.eq_iff_iff,beq_iff_eq,beq_iff_eq,Array.toList_inj];exact ⟨fun q=>by generalize xs[i]'(by first|lia|omega)=x at q ⊢;cases x;cases y;simp_all,fun q=>by rw [q]⟩] at z
  exact z
 ·obtain ⟨t',e'⟩:=at' j (by first|lia|omega)
  show ev its[j]=true
  rw [e']
  show (xs[j] == y)=true
  rw [jy];simp
 ·intro m hm hmj
  have hm':m<its.length:=by rw [List.size_toArray] at hm;exact hm
  obtain ⟨t',e'⟩:=at' m hm'
  show ev its[m]=false
  rw [e']
  show (xs[m] == y)=false
  simpa using jn m (by first|lia|omega) hmj
 ·have ex:(xs.map V.str).eraseIdx j=(xs.erase y).map V.str:=by
   rw [List.erase_eq_eraseIdx_of_idxOf (i:=j) hj.symm,List.eraseIdx_eq_take_drop_succ,List.eraseIdx_eq_take_drop_succ,List.map_append,List.map_take,List.map_drop]
  refine ⟨.non,_,I.lset (ys:=(xs.map V.str).eraseIdx j) (its':=its.eraseIdx j) hH e ?_ (vals_erase j r) (by rw [List.length_eraseIdx];split <;> (first|lia|omega)),rfl,?_⟩
  ·simp [Array.eraseIdxIfInBounds,show j<its.length by first|lia|omega]
  ·exact q _ ⟨by rw [ex]⟩
end
end L2
namespace Z
open PySem L2
noncomputable def top (i:Nat):Stmt:=PySem.Challenge.pw_oddlong_k62_greatest_delay.main.body.getD i (.Pass ⟨0,0,0,0⟩)
noncomputable abbrev i_rest_of:Nat:=1
noncomputable abbrev i_length_first:Nat:=2
noncomputable abbrev i_code_ends:Nat:=3
noncomputable abbrev i_lags_behind:Nat:=4
noncomputable abbrev i_lags_of:Nat:=6
noncomputable abbrev i_greatest_delay:Nat:=7
noncomputable abbrev i_ending_lags:Nat:=8
noncomputable abbrev i_law_begin:Nat:=10
noncomputable abbrev i_law_take:Nat:=11
noncomputable abbrev i_law_names:Nat:=12
noncomputable abbrev i_law_free:Nat:=13
noncomputable abbrev i_law_sizes:Nat:=14
noncomputable abbrev i_law_book:Nat:=15
noncomputable abbrev i_law_steps:Nat:=16
noncomputable abbrev i_law_pairs:Nat:=17
noncomputable abbrev i_law_worths:Nat:=18
noncomputable abbrev i_law_due:Nat:=19
noncomputable abbrev i_law:Nat:=20
end Z
namespace Z
open PySem L2
theorem sizeOk {n:Nat} (h:n≤10000000):n≤sizeLine:=Nat.le_trans h (by decide)
end Z
namespace L2
set_option genSizeOf false
set_option genInjectivity false
end L2
namespace L2
set_option genSizeOf false
set_option genInjectivity false
end L2
namespace Z
open PySem L2
structure Box (H:Hp) (b c:Addr) (t:Int) (ns:List Int) (ex:List (Key×V)):Prop where
 d:H b=some (.dK ((.inr "cells", .ref c) :: (.inr "turn", .int t) :: ex))
 xl:ex=[]∨ex=[(.inr "great", .int 1)]
 l:H c=some (.lst (ns.map V.int))
 ne:0<ns.length
 le:ns.length≤64
noncomputable def hid (H:Hp) (b c:Addr):Hp:=fun a=>if a=b∨a=c then none else H a
theorem hid_of {H:Hp} {b c a:Addr} (h1:a≠b) (h2:a≠c):hid H b c a=H a:=if_neg (fun z=>z.elim h1 h2)
theorem of_hid {H:Hp} {b c a:Addr} {o:HO} (h:hid H b c a=some o):H a=some o∧a≠b∧a≠c:=by
 unfold hid at h
 split at h
 ·cases h
 ·rename_i n
  exact ⟨h,fun z=>n (.inl z),fun z=>n (.inr z)⟩
theorem Box.bc {H:Hp} {b c:Addr} {t:Int} {ns:List Int} {ex:List (Key×V)} (x:Box H b c t ns ex):b≠c:=ne_of x.d x.l (by intro z;cases z)
theorem Box.get_turn {H:Hp} {b c:Addr} {t:Int} {ns:List Int} {ex:List (Key×V)} (x:Box H b c t ns ex):DGet H b (.str "turn") (some (.int t)):=DGet.k (k:=Sum.inr "turn") x.d
theorem Box.get_cells {H:Hp} {b c:Addr} {t:Int} {ns:List Int} {ex:List (Key×V)} (x:Box H b c t ns ex):DGet H b (.str "cells") (some (.ref c)):=DGet.k (k:=Sum.inr "cells") x.d
theorem Box.put_turn {H:Hp} {b c:Addr} {t:Int} {ns:List Int} {ex:List (Key×V)} (x:Box H b c t ns ex) (t':Int):DPut H b (.str "turn") (.int t') (upd H b (.dK ((.inr "cells", .ref c) :: (.inr "turn", .int t') :: ex))):=
 by
 rcases x.xl with h|h
 ·subst h;exact DPut.k (k:=Sum.inr "turn") x.d (by show 2<sizeLine;decide)
 ·subst h;exact DPut.k (k:=Sum.inr "turn") x.d (by show 3<sizeLine;decide)
theorem Box.turned {H:Hp} {b c:Addr} {t:Int} {ns:List Int} {ex:List (Key×V)} (x:Box H b c t ns ex) (t':Int):Box (upd H b (.dK ((.inr "cells", .ref c) :: (.inr "turn", .int t') :: ex))) b c t' ns ex:=
 ⟨upd_same,x.xl,by rw [upd_ne (Ne.symm x.bc)];exact x.l,x.ne,x.le⟩
theorem hid_upd_b {H:Hp} {b c:Addr} {o:HO} : hid (upd H b o) b c=hid H b c:=by
 funext a;unfold hid;split
 ·rfl
 ·rename_i n;exact upd_ne (fun z=>n (.inl z))
theorem hid_upd_c {H:Hp} {b c:Addr} {o:HO} : hid (upd H c o) b c=hid H b c:=by
 funext a;unfold hid;split
 ·rfl
 ·rename_i n;exact upd_ne (fun z=>n (.inr z))
noncomputable def spTake:Sp:=fun vs H Q _=>Ex6 fun (b c:Addr) (t:Int) (ns:List Int) (many:Int) (ex:List (Key×V))=>vs=[.ref b, .int many]∧Box H b c t ns ex∧0≤t∧t<100000000∧0<many∧many<1073741824 ∧
 ∀(r:Int) (H':Hp) (ns':List Int),0≤r→r<many→Box H' b c (t+1) ns' ex→Same (hid H b c) (hid H' b c)→Q (.int r) H'
theorem at_of {ns:List Int} {p:Int} (h0:0≤p) (h1:p<ns.length):∃v,atI (ns.map V.int) p=some (.int v)∧ns[p.toNat]? = some v:=by
 have hk:p.toNat<ns.length:=by (first|lia|omega)
 have ek:p=((p.toNat:Nat):Int):=by (first|lia|omega)
 have q:atI (ns.map V.int) ((p.toNat:Nat):Int)=some (.int ns[p.toNat]):=atI_nat (by rw [List.getElem?_map,List.getElem?_eq_getElem hk] <;> rfl)
 rw [←ek] at q
 exact ⟨_,q,List.getElem?_eq_getElem hk⟩
theorem cm_mod {a j m:Int} (h0:0<m) (h:m<2 ^ 64):CMul (a % m) j:=by
 have h1:=Int.emod_nonneg a (b:=m) (by first|lia|omega)
 have h2:=Int.emod_lt_of_pos a h0
 exact .inl ⟨by first|lia|omega,by first|lia|omega⟩
theorem ixN_of {n:Nat} {p:Int} (h0:0≤p) (h1:p<n):ixN n p=some p.toNat:=by unfold ixN;rw [if_pos h0,if_pos h1]
theorem hid_more {H H':Hp} {b c:Addr} (h:∀a o,a≠b→a≠c→H a=some o→H' a=some o):Same (hid H b c) (hid H' b c):=fun a o e=>by
 refine Elim.el (of_hid e) _ ?_
 rintro e h1 h2
 rw [hid_of h1 h2]
 exact h a o h1 h2 e
end Z
namespace L2
open PySem
noncomputable def Gm (t:TG):Prop:=∀x σ H (Q Q':St→Hp→Prop),(∀a b,Q a b→Q' a b)→t x σ H Q→t x σ H Q'
noncomputable def Gms (t:TGs):Prop:=∀x σ H (Q Q':St→Hp→Prop),(∀a b,Q a b→Q' a b)→t x σ H Q→t x σ H Q'
theorem gm_name {i:Nat} : Gm (gName i):=fun _ _ _ _ _ h q=>h _ _ q
theorem gms_nil:Gms gNil:=fun _ _ _ _ _ h q=>⟨q.1,h _ _ q.2⟩
theorem gms_cons {t:TG} {u:TGs} (a:Gm t) (b:Gms u):Gms (gCons t u):=fun _ _ _ _ _ h ⟨v,r,e,q⟩=>⟨v,r,e,a _ _ _ _ _ (fun _ _ z=>b _ _ _ _ _ h z) q⟩
theorem Dens.get {K:PySem.W.Frag} {H:Hp} : ∀{ds:List PyData} {vs:List V} {i:Nat} {d:PyData},Dens K H ds vs→ds[i]? = some d→∃v,vs[i]? = some v∧Den K H d v
 | [],_,_,_,_,e=>by simp at e
 | d :: ds,vs,i,d',h,e=>by
  unfold Dens at h
  obtain ⟨v,r,rfl,h1,h2⟩:=h
  cases i with
  | zero=>cases e;exact ⟨v,rfl,h1⟩
  | succ i=>exact Dens.get (i:=i) h2 e
theorem Dens.len {K:PySem.W.Frag} {H:Hp} : ∀{ds:List PyData} {vs:List V},Dens K H ds vs→vs.length=ds.length
 | [],_,h=>by unfold Dens at h;subst h;rfl
 | d :: ds,vs,h=>by
  unfold Dens at h
  obtain ⟨v,r,rfl,h1,h2⟩:=h
  rw [List.length_cons,List.length_cons,Dens.len h2]
theorem Den.pair {K:PySem.W.Frag} {H:Hp} {a b:Str} {v:V} (h:Den K H (.tuple [.str a, .str b]) v):∃p,v = .ref p∧SqT K H p [.str a, .str b]:=by
 unfold Den at h
 obtain ⟨p,vs,e,h1,h2⟩:=h
 unfold Dens at h2
 obtain ⟨v1,r1,rfl,d1,h2⟩:=h2
 unfold Dens at h2
 obtain ⟨v2,r2,rfl,d2,h2⟩:=h2
 unfold Dens at h2
 subst h2
 unfold Den at d1 d2
 subst d1 d2
 exact ⟨p,e,h1⟩
end L2
namespace Z
open PySem L2
theorem same_new {H:Hp} {p:Addr} (h:H p=none) (o:HO):Same H (upd H p o):=fun b u q=>by rw [upd_ne (ne_of_none q h)];exact q
end Z
namespace L2
open PySem
theorem for_go {J:It} {g:TG} {tb:TS} {D:Ends} {σ:St} {H:Hp} (N:Nat) (Pv:Nat→St→Hp→Prop) (h0:Pv 0 σ H)
  (go:∀i σ H,i<N→Pv i σ H→J.go i H∧∀x H',J.yld i H x H'→g x σ H' fun σ2 H2=>tb { D with nx:=Pv (i+1),ct:=Pv (i+1),bk:=D.nx } σ2 H2)
  (stop:∀ σ H,Pv N σ H→J.stop N H∧D.nx σ H) :
  ∃W:Nat→Nat→St→Hp→Prop,(∃m,W 0 m σ H)∧∀i m σ H,W i m σ H →
   (J.stop i H∧D.nx σ H)∨(J.go i H∧∃N:St→Hp→Prop,(∀ σ' H',N σ' H'→∃m',m'<m∧W (i+1) m' σ' H')∧∀x H',J.yld i H x H'→g x σ H' fun σ2 H2=>tb { D with nx:=N,ct:=N,bk:=D.nx } σ2 H2):=by
 refine ⟨fun i m σ H=>m=N-i∧i≤N∧Pv i σ H,⟨N,by simp,Nat.zero_le _,h0⟩,?_⟩
 intro i m σ H hz_
 refine Elim.el hz_ _ ?_
 clear hz_
 rintro rfl hi p
 by_cases hlt:i<N
 ·obtain ⟨g1,g2⟩:=go i σ H hlt p
  exact .inr ⟨g1,Pv (i+1),fun σ' H' p'=>⟨N-(i+1),by first|lia|omega,rfl,hlt,p'⟩,g2⟩
 ·have e:i=N:=by (first|lia|omega)
  subst e
  exact .inl (stop σ H p)
end L2
namespace L2
open PySem
theorem seqCut {t u:TS} {D:Ends} {σ:St} {H:Hp} (Ex:St→Hp→Prop) (h:∀Nx:St→Hp→Prop,(∀ σ H,Ex σ H→Nx σ H)→t { D with nx:=Nx } σ H) (fin:∀ σ H,Ex σ H→u D σ H):tSeq t u D σ H:=h (u D) fin
theorem whileGo {c:TT} {tb:TS} {D:Ends} {σ:St} {H:Hp} (Pv:Nat→St→Hp→Prop) (h0:∃m,Pv m σ H)
  (hs:∀m σ H,Pv m σ H→c σ H fun b H1=>if b=true then ∃N:St→Hp→Prop,(∀ σ' H',N σ' H'→∃m',m'<m∧Pv m' σ' H')∧tb { D with nx:=N,ct:=N,bk:=D.nx } σ H1 else D.nx σ H1):tWhile c tb D σ H:=⟨Pv,h0,hs⟩
end L2
namespace L2
open PySem
theorem asgCut {te:TE} {g:TG} {u:TS} {D:Ends} {σ:St} {H:Hp} (Ex:V→Hp→Prop) (h:∀Qn:VK,(∀v H,Ex v H→Qn v H)→te σ H Qn) (fin:∀v H,Ex v H→g v σ H (u D)):tSeq (tAsg te g) u D σ H:=h _ fin
theorem asgEnd {te:TE} {g:TG} {D:Ends} {σ:St} {H:Hp} (Ex:V→Hp→Prop) (h:∀Qn:VK,(∀v H,Ex v H→Qn v H)→te σ H Qn) (fin:∀v H,Ex v H→g v σ H D.nx):tAsg te g D σ H:=h _ fin
end L2
namespace L2
open PySem
theorem gn {i:Nat} {v:V} {σ:St} {H:Hp} {Q:St→Hp→Prop} (h:Q (σ.set i (some v)) H):gName i v σ H Q:=h
end L2
namespace L2
open PySem
end L2
namespace Z
open PySem L2
noncomputable def Bx (H:Hp) (b c:Addr) (t:Int):Prop:=Ex2 fun (ns:List Int) (ex:List (Key×V))=>Box H b c t ns ex
structure Step (b c:Addr) (H H':Hp) (t t' N:Int):Prop where
 le:t≤t'
 ub:t'≤t+N
 bx:Bx H' b c t'
 sm:Same (hid H b c) (hid H' b c)
theorem Step.refl {b c:Addr} {H:Hp} {t:Int} (h:Bx H b c t):Step b c H H t t 0:=⟨Int.le_refl _,by first|lia|omega,h,Same.refl _⟩
theorem Step.trans {b c:Addr} {H H' H2:Hp} {t t' t2 N M:Int} (x:Step b c H H' t t' N) (y:Step b c H' H2 t' t2 M):Step b c H H2 t t2 (N+M):=
 ⟨by have:=x.le;have:=y.le; (first|lia|omega),by have:=x.ub;have:=y.ub; (first|lia|omega),y.bx,x.sm.trans y.sm⟩
theorem Step.more {b c:Addr} {H H':Hp} {t t' N M:Int} (x:Step b c H H' t t' N) (h:N≤M):Step b c H H' t t' M:=⟨x.le,by have:=x.ub; (first|lia|omega),x.bx,x.sm⟩
theorem Bx.ne_new {H:Hp} {b c p:Addr} {t:Int} (x:Bx H b c t) (h:H p=none):p≠b∧p≠c:=by
 obtain ⟨ns,ex,x⟩:=x
 exact ⟨fun z=>(by rw [z,x.d] at h;cases h),fun z=>(by rw [z,x.l] at h;cases h)⟩
theorem Bx.upd {H:Hp} {b c p:Addr} {t:Int} {o:HO} (x:Bx H b c t) (h1:p≠b) (h2:p≠c):Bx (upd H p o) b c t:=by
 obtain ⟨ns,ex,x⟩:=x
 exact ⟨ns,ex,by rw [upd_ne (Ne.symm h1)];exact x.d,x.xl,by rw [upd_ne (Ne.symm h2)];exact x.l,x.ne,x.le⟩
theorem Step.new {b c p:Addr} {H H':Hp} {t t' N:Int} (x:Step b c H H' t t' N) (h:H' p=none) (o:HO):Step b c H (upd H' p o) t t' N:=
 ⟨x.le,x.ub,x.bx.upd (x.bx.ne_new h).1 (x.bx.ne_new h).2,x.sm.trans (hid_more fun a u _ _ e=>by rw [upd_ne (ne_of_none e h)];exact e)⟩
theorem Step.chg {b c p:Addr} {H H':Hp} {t t' N:Int} (x:Step b c H H' t t' N) (h:H p=none) (h1:p≠b) (h2:p≠c) (o:HO):Step b c H (upd H' p o) t t' N:=
 ⟨x.le,x.ub,x.bx.upd h1 h2,fun a u e=>by
  have q:=x.sm a u e
  refine Elim.el (of_hid q) _ ?_
  rintro q n1 n2
  rw [hid_of n1 n2,upd_ne (fun z => ?_)]
  ·exact q
  ·rw [z] at e
   rw [(of_hid e).1] at h;cases h⟩
theorem Step.old {b c a:Addr} {H H':Hp} {t t' N:Int} {o:HO} (x:Step b c H H' t t' N) (h:H a=some o) (h1:a≠b) (h2:a≠c):H' a=some o:=
 (of_hid (x.sm a o (by rw [hid_of h1 h2];exact h))).1
theorem Step.fresh {b c a:Addr} {H H':Hp} {t t' N:Int} (x:Step b c H H' t t' N) (hb:Bx H b c t) (h:H' a=none):H a=none:=by
 obtain ⟨h1,h2⟩:=x.bx.ne_new h
 cases e:H a with
 | none=>rfl
 | some o=>rw [x.old e h1 h2] at h;cases h
theorem Same.hid {H H':Hp} {b c:Addr} (s:Same H H'):Same (hid H b c) (hid H' b c):=hid_more fun a o _ _ e=>s a o e
theorem Bx.same {H H':Hp} {b c:Addr} {t:Int} (x:Bx H b c t) (s:Same H H'):Bx H' b c t:=by
 obtain ⟨ns,ex,x⟩:=x
 exact ⟨ns,ex,s _ _ x.d,x.xl,s _ _ x.l,x.ne,x.le⟩
theorem Step.same {b c:Addr} {H H':Hp} {t:Int} (x:Bx H b c t) (s:Same H H'):Step b c H H' t t 0:=⟨Int.le_refl _,by first|lia|omega,x.same s,Same.hid s⟩
noncomputable def spTk:Sp:=fun vs H Q _=>Ex4 fun (b c:Addr) (t many:Int)=>vs=[.ref b, .int many]∧Bx H b c t∧0≤t∧t<100000000∧0<many∧many<1073741824 ∧
 ∀(r:Int) (H':Hp),0≤r→r<many→Step b c H H' t (t+1) 1→Q (.int r) H'
theorem spTk_of {vs:List V} {H:Hp} {Q:VK} {E:XK} (h:spTk vs H Q E):spTake vs H Q E:=by
 obtain ⟨b,c,t,many,e,⟨ns,ex,bx⟩,h1,h2,h3,h4,q⟩:=h
 exact ⟨b,c,t,ns,many,ex,e,bx,h1,h2,h3,h4,fun r H' ns' r0 r1 bx' sm=>q r H' r0 r1 ⟨by first|lia|omega,by first|lia|omega,⟨ns',ex,bx'⟩,sm⟩⟩
theorem cut_to (vs:List V) (j:Nat):cutV vs none (some (j:Int))=vs.take j:=by
 unfold cutV
 rw [HT.sIx_none,HT.sIx_nat,List.drop_zero,Nat.sub_zero]
 rcases Nat.le_total j vs.length with h|h
 ·rw [Nat.min_eq_left h]
 ·rw [Nat.min_eq_right h,List.take_of_length_le (Nat.le_refl _),List.take_of_length_le h]
theorem Fn.imp {P:Program} {w:World} {K:PySem.W.Frag} {mg:Str→Option Value} {base:Heap} {k:Nat} {x:Str} {ps:List Str} {sp sp':Sp} (F:Fn P w K mg base k x ps sp) (h:∀vs H Q E,sp' vs H Q E→sp vs H Q E):Fn P w K mg base k x ps sp':=by
 refine Elim.el (F.ex) _ ?_
 rintro f fd a b c d
 exact ⟨f,fd,a.imp h,b,c,d⟩
end Z
namespace Z
open PySem L2
theorem Step.newN {b c p:Addr} {H H' H2:Hp} {t t' N:Int} {o:HO} (x:Step b c H H' t t' N) (n:New H' p o H2):Step b c H H2 t t' N:=by rw [n.eq];exact x.new n.nn _
theorem Step.chgN {b c p:Addr} {H H' H2:Hp} {t t' N:Int} {o:HO} (x:Step b c H H' t t' N) (n:Chg H' p o H2) (h:H p=none) (h1:p≠b) (h2:p≠c):Step b c H H2 t t' N:=by rw [n.eq];exact x.chg h h1 h2 _
end Z
namespace Z
open PySem L2
theorem Box.same {H H':Hp} {b c:Addr} {t:Int} {ns:List Int} {ex:List (Key×V)} (x:Box H b c t ns ex) (s:Same H H'):Box H' b c t ns ex:=⟨s _ _ x.d,x.xl,s _ _ x.l,x.ne,x.le⟩
section
variable {P:Program} {w:World} {K:PySem.W.Frag} {mg:Str→Option Value} {base:Heap} {f:Addr} {fd:FuncData}
theorem sc_law_take:FnScope ["_law_state", "_law_many", "_law_turn", "_law_place", "_law_cell", "_law_digit", "_law_mixed"] ["_law_state", "_law_many"] (defScope (top i_law_take)):=⟨rfl,rfl,rfl,by decide +kernel,rfl,by decide +kernel,by decide +kernel⟩
theorem ok_take (F:Fun K "_law_take" "_law_take" (top i_law_take) f fd) (T:Nm mg):FnOk P w K mg base CX0 1 f fd ["_law_state", "_law_many"] spTake:=by
 refine F.ok sc_law_take (fun vs H Q E h => ?_) (fun cdv A outer s H vs Q E hr h => ?_)
 ·obtain ⟨b,c,t,ns,many,ex,rfl,_⟩:=h
  rfl
 obtain ⟨b,c,t,ns,many,ex,rfl,bx,t0,t1,m0,m1,q⟩:=h
 have hu:=hu_of hr
 refine ⟨_,(pss_cons (ps_set (i:=2) sc_law_take.nd rfl (Or.inl rfl) (pe_op addN (pe_dget hu (pv 0) pe_str (fun _ _=>rfl)) pe_int))
  (pss_cons (ps_dput hu (pv 0) pe_str (pv 2) rfl)
  (pss_cons (ps_set (i:=3) sc_law_take.nd rfl (Or.inl rfl) (pe_op op_mod (pv 2) (pe_callB (lenK K) rfl T.n_len (by rfl) (pa_cons (pe_dget hu (pv 0) pe_str (fun _ _=>rfl)) pa_nil))))
  (pss_cons (ps_set (i:=4) sc_law_take.nd rfl (Or.inl rfl) (pe_ix (ixK K) (pe_dget hu (pv 0) pe_str (fun _ _=>rfl)) (pv 3) (fun _ _=>rfl)))
  (pss_cons (ps_if (pt_cmpR op_ge (pv 4) (pe_op op_pow pe_int pe_int) (nomark _)) (pss_cons (ps_asg (pe_callB divmodN rfl T.n_divmod (by rfl) (pa_cons (pv 4) (pa_cons (pv 1) pa_nil))) (tupK K 2 rfl (pgs_cons (pg_sub (pe_dget hu (pv 0) pe_str (fun _ _=>rfl)) (pv 3) set_list) (pgs_cons (pg_name (i:=5) sc_law_take.nd rfl (Or.inl rfl)) pgs_nil))))
  (pss_one (ps_ret (pv 5)))) pss_nil)
  (pss_cons (ps_set (i:=6) sc_law_take.nd rfl (Or.inl rfl) (pe_op op_mod (pe_op mulN (pe_op addN (pe_op addN (pe_op op_mod (pv 4) pe_int) (pe_op mulN (pe_op mulN (pv 2) (pv 2)) pe_int)) pe_int) pe_int) pe_int))
  (pss_cons (ps_set (i:=6) sc_law_take.nd rfl (Or.inl rfl) (pe_op op_mod (pe_op mulN (pv 6) (pv 6)) pe_int))
  (pss_one (ps_ret (pe_op op_mod (pe_op op_fdiv (pe_op op_mod (pe_op mulN (pe_op addN (pv 6) (pe_op mulN (pv 2) pe_int)) pe_int) pe_int) pe_int) (pv 1))))))))))),?_⟩
 refine ⟨_,rfl,b,_,rfl,bx.get_turn, .inl ⟨_,_,rfl,rfl,?_⟩⟩
 refine ⟨_,rfl,_,rfl,b,_,rfl,bx.put_turn (t+1),?_⟩
 have bx1:=bx.turned (t+1)
 refine ⟨_,rfl,_,rfl,b,_,rfl,bx1.get_cells,_,_,rfl, .inl ⟨_,SqL.of bx1.l,rfl⟩,_,_,rfl,rfl,?_,?_⟩
 ·rw [List.length_map];have:=bx1.ne; (first|lia|omega)
 have hlen:(ns.map V.int).length=ns.length:=List.length_map _
 have hp0:0≤(t+1) % ((ns.map V.int).length:Int):=Int.emod_nonneg _ (by have:=bx1.ne; (first|lia|omega))
 have hp1:(t+1) % ((ns.map V.int).length:Int)<ns.length:=by rw [hlen];exact Int.emod_lt_of_pos _ (by have:=bx1.ne; (first|lia|omega))
 refine Elim.el (at_of hp0 hp1) _ ?_
 rintro v hv hv'
 refine ⟨_,rfl,b,_,rfl,bx1.get_cells,_,rfl, .inl ⟨c,_,_,_,rfl,rfl,SqL.of bx1.l,hv,?_⟩⟩
 refine ⟨_,rfl,_,_,rfl,rfl,⟨by decide,by decide,by decide⟩,_,_,rfl,rfl,_,rfl,?_⟩
 refine ite2 (fun _ => ?_) (fun _ => ?_)
 ·refine ⟨_,rfl,_,rfl,v,many,rfl,⟨m0,by first|lia|omega⟩,fun pt H2 n2 => ?_⟩
  obtain ⟨hpb,hpc⟩:pt≠b∧pt≠c:=⟨fun z=>(by have:=n2.nn;rw [z,bx1.d] at this;cases this),fun z=>(by have:=n2.nn;rw [z,bx1.l] at this;cases this)⟩
  have bx2:=bx1.same n2.same
  refine ⟨pt,_,rfl,SqT.of n2.at,rfl,_,_,rfl,?_⟩
  refine ⟨_,rfl,b,_,rfl,bx2.get_cells,_,rfl,c,_,_,_,rfl,rfl,bx2.l,ixN_of hp0 (by simpa only [hlen] using hp1),?_⟩
  refine ⟨_,_,rfl,rfl,_,rfl,?_⟩
  refine q (v % many) _ (ns.set ((t+1) % ((ns.map V.int).length:Int)).toNat (v / many)) (Int.emod_nonneg _ (by first|lia|omega)) (Int.emod_lt_of_pos _ m0) ⟨?_,bx2.xl,?_,?_,?_⟩ ?_
  ·rw [upd_ne bx2.bc];exact bx2.d
  ·rw [upd_same,List.map_set]
  ·rw [List.length_set];exact bx1.ne
  ·rw [List.length_set];exact bx1.le
  ·rw [hid_upd_c]
   refine hid_more fun a o h1 h2 e => ?_
   rw [n2.ne (fun z => ?_),upd_ne h1]
   ·exact e
   ·have z2:=n2.nn
    rw [upd_ne hpb, ←z,e] at z2
    cases z2
 ·refine ⟨_,rfl,_,_,rfl,rfl,(by dsimp only;decide),_,rfl,_,rfl, .inl ⟨_,_,rfl,rfl, .inl ⟨by first|lia|omega,by first|lia|omega⟩, .inl ⟨_,_,rfl,rfl, .inr ⟨by decide,by decide⟩, .inl ⟨_,_,rfl,rfl, .inl ⟨_,_,rfl,rfl, .inl ⟨_,_,rfl,rfl, .inr ⟨by decide,by decide⟩,_,_,rfl,rfl,(by dsimp only;decide),?_⟩⟩⟩⟩⟩⟩
  have cm:∀(x y p:Int),0<p→p<2 ^ 64→CMul (x % p) y:=fun x y p h0 h1=>cm_mod h0 h1
  refine ⟨_,rfl,_,rfl, .inl ⟨_,_,rfl,rfl,cm _ _ _ (by decide) (by decide),?_⟩⟩
  refine ⟨_,_,rfl,rfl,(by dsimp only;decide),?_⟩
  refine ⟨_,rfl,_,rfl, .inl ⟨_,_,rfl,rfl, .inl ⟨by first|lia|omega,by first|lia|omega⟩, .inl ⟨_,_,rfl,rfl, .inl ⟨_,_,rfl,rfl, .inr ⟨by decide,by decide⟩,_,_,rfl,rfl,(by dsimp only;decide),_,_,rfl,rfl,⟨by decide,by decide⟩,_,rfl,_,_,rfl,rfl,m0,?_⟩⟩⟩⟩
  exact q _ _ ns (Int.emod_nonneg _ (by first|lia|omega)) (Int.emod_lt_of_pos _ m0) bx1 (by rw [hid_upd_b];exact Same.refl _)
end
end Z
namespace Z
open PySem L2
noncomputable def Bin (x:Str):Prop:=∀c∈x.cps.toList,c=48∨c=49
theorem glued_list (g:Str):∀(parts:List Str) (acc:Array Nat),(parts.foldl (fun acc p=>acc++g.cps++p.cps) acc).toList=acc.toList++parts.flatMap (fun p=>g.cps.toList++p.cps.toList)
 | [],acc=>by simp
 | p :: r,acc=>by rw [List.foldl_cons,glued_list g r];simp
theorem join_list0 (xs:List Str):(Txt.join "" xs).cps.toList=xs.flatMap (fun p=>p.cps.toList):=by
 cases xs with
 | nil=>rfl
 | cons x r=>
  show ((r.foldl (fun acc p=>acc++(Str.ofString "").cps++p.cps) x.cps)).toList=_
  rw [glued_list]
  have e:(Str.ofString "").cps.toList=[]:=rfl
  simp [e]
end Z
namespace Z
open PySem L2
noncomputable abbrev abc:Str := "abcdefghijklmnopqrstuvwxyz"
theorem abc_list:abc.cps.toList=(List.range 26).map (97 + ·):=by decide +kernel
theorem abc_at {r:Int} (h0:0≤r) (h1:r<26):atI abc.cps.toList r=some (97+r.toNat):=by
 refine at_nat h0 ?_
 rw [abc_list,List.getElem?_map,List.getElem?_range (by first|lia|omega)]
 rfl
theorem str_append_list (x y:Str):(x++y).cps.toList=x.cps.toList++y.cps.toList:=by
 show (x.cps++y.cps).toList=_
 simp
theorem str_len (x:Str):x.length=x.cps.toList.length:=by simp [Str.length]
theorem len_append (x y:Str):(x++y).length=x.length+y.length:=by rw [str_len,str_append_list,List.length_append, ←str_len, ←str_len]
theorem len_one (ch:Nat):(⟨#[ch]⟩:Str).length=1:=rfl
end Z
namespace Z
open PySem L2
noncomputable def Sh (n:Nat) (d:PyData):Prop:=d.canLay0=true∧d.depth≤n
theorem Sh.all {n:Nat} : ∀{ds:List PyData},(∀d∈ds,Sh n d)→PyData.canLayAll0 ds=true∧PyData.depthAll ds≤n
 | [],_=>⟨by simp [PyData.canLayAll0],by simp [PyData.depthAll]⟩
 | d :: ds,h=>by
  obtain ⟨h1,h2⟩:=h d List.mem_cons_self
  obtain ⟨h3,h4⟩:=Sh.all fun e he=>h e (List.mem_cons_of_mem _ he)
  exact ⟨by simp [PyData.canLayAll0,h1,h3],by simp only [PyData.depthAll]; (first|lia|omega)⟩
theorem Sh.list {n:Nat} {ds:List PyData} (h:∀d∈ds,Sh n d):Sh (n+1) (.list ds):=by
 obtain ⟨h1,h2⟩:=Sh.all h
 exact ⟨by simpa [PyData.canLay0] using h1,by simp only [PyData.depth]; (first|lia|omega)⟩
theorem Sh.tuple {n:Nat} {ds:List PyData} (h:∀d∈ds,Sh n d):Sh (n+1) (.tuple ds):=by
 obtain ⟨h1,h2⟩:=Sh.all h
 exact ⟨by simpa [PyData.canLay0] using h1,by simp only [PyData.depth]; (first|lia|omega)⟩
theorem Sh.shaped {n:Nat} {d:PyData} (h:Sh n d) (hn:n≤64):SeqAt.shaped d=true:=by
 unfold SeqAt.shaped
 rw [h.1,decide_eq_true (Nat.le_trans h.2 hn)]
 rfl
theorem Sh.str {n:Nat} {x:Str} (h:PyData.canLay0 (.str x)=true):Sh n (.str x):=⟨h,by simp [PyData.depth]⟩
theorem Sh.int {n:Nat} {i:Int} : Sh n (.int i):=⟨by simp [PyData.canLay0],by simp [PyData.depth]⟩
theorem canLay_small {x:Str} (h:∀ch∈x.cps.toList,ch<128):PyData.canLay0 (.str x)=true:=by
 simp only [PyData.canLay0,PyData.strOk]
 rw [←Array.all_toList,List.all_eq_true]
 intro ch hc
 have:=h ch hc
 exact decide_eq_true (by first|lia|omega)
theorem Den.strs {K:PySem.W.Frag} {H:Hp} : ∀(xs:List Str),Dens K H (xs.map PyData.str) (xs.map V.str)
 | []=>by unfold Dens;rfl
 | x :: xs=>by
  rw [List.map_cons]
  unfold Dens
  exact ⟨_,_,rfl,by unfold Den;rfl,Den.strs xs⟩
theorem Den.list {K:PySem.W.Frag} {H:Hp} {l:Addr} {ds:List PyData} {vs:List V} (h:SqL K H l vs) (hd:Dens K H ds vs):Den K H (.list ds) (.ref l):=by
 unfold Den
 exact ⟨l,vs,rfl,h,hd⟩
end Z
namespace Z
open PySem L2
theorem Dens.of_get {K:PySem.W.Frag} {H:Hp} : ∀{ds:List PyData} {vs:List V},ds.length=vs.length→(∀(j:Nat) d v,ds[j]? = some d→vs[j]? = some v→Den K H d v)→Dens K H ds vs
 | [],[],_,_=>by unfold Dens;rfl
 | [],_ :: _,h,_=>by simp at h
 | _ :: _,[],h,_=>by simp at h
 | d :: ds,v :: vs,h,g=>by
  unfold Dens
  exact ⟨v,vs,rfl,g 0 d v rfl rfl,Dens.of_get (by simpa using h) fun j d' v' h1 h2=>g (j+1) d' v' h1 h2⟩
theorem Den.pairOf {K:PySem.W.Frag} {H:Hp} {a:Addr} {x y:Str} (h:H a=some (.tup [.str x, .str y])):Den K H (.tuple [.str x, .str y]) (.ref a):=by
 unfold Den
 refine ⟨a,_,rfl,SqT.of h,?_⟩
 unfold Dens
 refine ⟨_,_,rfl,by unfold Den;rfl,?_⟩
 unfold Dens
 refine ⟨_,_,rfl,by unfold Den;rfl,?_⟩
 unfold Dens
 rfl
noncomputable def BookAt (K:PySem.W.Frag) (H:Hp) (bk:List (Str×Str)) (v:V):Prop:=Ex2 fun (l:Addr) (vs:List V)=>v = .ref l∧H l=some (.lst vs)∧Dens K H (bk.map fun q => .tuple [.str q.1, .str q.2]) vs
theorem book_zip {K:PySem.W.Frag} {H1 H':Hp} {b c p:Addr} {t:Int} {as:List Addr} {ns cs:List Str} (bx:Bx H1 b c t) (hp:H1 p=none) (hl:H' p=some (.lst (as.map V.ref))) (hle:ns.length=cs.length)
  (hal:as.length=min (ns.map V.str).length (cs.map V.str).length) (h:∀(j:Nat) a x y,as[j]? = some a→(ns.map V.str)[j]? = some x→(cs.map V.str)[j]? = some y→H1 a=none∧H' a=some (.tup [x,y])) :
  BookAt K (hid H' b c) (ns.zip cs) (.ref p):=by
 have hal':as.length=ns.length:=by rw [hal,List.length_map,List.length_map, ←hle,Nat.min_self]
 obtain ⟨pb,pc⟩:=bx.ne_new hp
 refine ⟨p,_,rfl,by rw [hid_of pb pc];exact hl,Dens.of_get ?_ fun j d v hd hv => ?_⟩
 ·rw [List.length_map,List.length_map,List.length_zip]; (first|lia|omega)
 ·rw [List.getElem?_map] at hd hv
  have hj:j<as.length:=by
   cases e:as[j]? with
   | none=>rw [e] at hv;cases hv
   | some a=>exact (List.getElem?_eq_some_iff.mp e).1
  have e1:as[j]? = some as[j]:=List.getElem?_eq_getElem hj
  have e2:ns[j]? = some (ns[j]'(by first|lia|omega)):=List.getElem?_eq_getElem (by first|lia|omega)
  have e3:cs[j]? = some (cs[j]'(by first|lia|omega)):=List.getElem?_eq_getElem (by first|lia|omega)
  rw [e1] at hv;cases hv
  rw [(List.getElem?_zip_eq_some (z:=(ns[j]'(by first|lia|omega),cs[j]'(by first|lia|omega)))).mpr ⟨e2,e3⟩] at hd
  cases hd
  obtain ⟨h1,h2⟩:=h j as[j] _ _ e1 (by rw [List.getElem?_map,e2];rfl) (by rw [List.getElem?_map,e3];rfl)
  obtain ⟨ab,ac⟩:=bx.ne_new h1
  exact Den.pairOf (by rw [hid_of ab ac];exact h2)
structure CodeOk (n:Nat) (x:Str):Prop where
 bin:Bin x
 pos:1≤x.length
 le:x.length≤n
theorem CodeOk.mono {n m:Nat} {x:Str} (h:CodeOk n x) (le:n≤m):CodeOk m x:=⟨h.bin,h.pos,Nat.le_trans h.le le⟩
theorem Bin.app {x y:Str} (h:Bin x) (h':Bin y):Bin (x++y):=fun ch hc=>by
 rw [str_append_list] at hc
 rcases List.mem_append.mp hc with q|q
 ·exact h ch q
 ·exact h' ch q
theorem ne_nil_eq (cs:List Str):(!PyData.eqv (.list (cs.map PyData.str)) (.list [])) = !cs.isEmpty:=by
 cases cs <;> simp [PyData.eqv,PyData.eqvAll]
end Z
namespace Z
open PySem L2
noncomputable abbrev sg (x:Str):List Nat:=x.cps.toList
noncomputable def RF (a b:Str):Prop := ¬(sg a <+: sg b)∧¬(sg b <+: sg a)
theorem RF.symm {a b:Str} (h:RF a b):RF b a:=⟨h.2,h.1⟩
theorem sg_app (x y:Str):sg (x++y)=sg x++sg y:=str_append_list x y
theorem RF.ext {a b u v:Str} (h:RF a b):RF (a++u) (b++v):=by
 refine ⟨fun z => ?_,fun z => ?_⟩
 ·rw [sg_app,sg_app] at z
  rcases List.prefix_or_prefix_of_prefix ((List.prefix_append _ _).trans z) (List.prefix_append (sg b) (sg v)) with q|q
  ·exact h.1 q
  ·exact h.2 q
 ·rw [sg_app,sg_app] at z
  rcases List.prefix_or_prefix_of_prefix ((List.prefix_append _ _).trans z) (List.prefix_append (sg a) (sg u)) with q|q
  ·exact h.2 q
  ·exact h.1 q
noncomputable abbrev Free (cs:List Str):Prop:=cs.Pairwise RF
theorem Free.perm {cs ds:List Str} (h:Free cs) (p:cs.Perm ds):Free ds:=(p.pairwise_iff fun h=>RF.symm h).mp h
theorem Free.sub {cs ds:List Str} (h:Free cs) (s:ds.Sublist cs):Free ds:=List.Pairwise.sublist s h
noncomputable abbrev s0:Str := "0"
noncomputable abbrev s1:Str := "1"
theorem RF.two (x:Str):RF (x++s0) (x++s1):=by
 have e0:sg (x++s0)=sg x++[48]:=str_append_list x s0
 have e1:sg (x++s1)=sg x++[49]:=str_append_list x s1
 refine ⟨fun z => ?_,fun z => ?_⟩
 ·rw [e0,e1] at z
  have:=z.eq_of_length (by simp)
  simp at this
 ·rw [e0,e1] at z
  have:=z.eq_of_length (by simp)
  simp at this
theorem RF.one {x y u:Str} (h:RF y x):RF y (x++u):=by
 have z:=h.ext (u:=Str.empty) (v:=u)
 have e:y++Str.empty=y:=by
  show (⟨y.cps ++ #[]⟩:Str)=y
  simp
 rw [e] at z
 exact z
theorem Free.split {A B:List Str} {x:Str} (h:Free (A++x :: B)):Free (A++[x++s0,x++s1]++B):=by
 rw [List.append_assoc]
 refine Elim.el (List.pairwise_append.mp h) _ ?_
 rintro hA hxB hAB
 obtain ⟨hx,hB⟩:=List.pairwise_cons.mp hxB
 refine List.pairwise_append.mpr ⟨hA,?_,fun a ha y hy => ?_⟩
 ·refine List.pairwise_append.mpr ⟨List.pairwise_cons.mpr ⟨fun y hy=>by rw [List.mem_singleton.mp hy];exact RF.two x,List.pairwise_singleton _ _⟩,hB,fun y hy z hz => ?_⟩
  have q:=(hx z hz).symm
  simp at hy
  rcases hy with rfl|rfl
  ·exact q.one.symm
  ·exact q.one.symm
 ·rcases List.mem_append.mp hy with hy|hy
  ·have q:=hAB a ha x List.mem_cons_self
   simp at hy
   rcases hy with rfl|rfl
   ·exact q.one
   ·exact q.one
  ·exact hAB a ha y (List.mem_cons_of_mem _ hy)
theorem split_at {cs:List Str} {k:Nat} {x:Str} (h:cs[k]? = some x):cs=cs.take k++x :: cs.drop (k+1):=by
 obtain ⟨hk,e⟩:=List.getElem?_eq_some_iff.mp h
 rw [←e, ←List.drop_eq_getElem_cons hk,List.take_append_drop]
theorem pop_perm {cs:List Str} {k:Nat} {x:Str} (h:cs[k]? = some x):cs.Perm (x :: cs.eraseIdx k):=by
 have e:=split_at h
 have e2:cs.eraseIdx k=cs.take k++cs.drop (k+1):=List.eraseIdx_eq_take_drop_succ _ _
 rw [e2]
 conv=>lhs;rw [e]
 exact List.perm_middle
theorem free0:Free [s0,s1]:=by
 refine List.pairwise_cons.mpr ⟨fun y hy => ?_,List.pairwise_singleton _ _⟩
 rw [List.mem_singleton.mp hy]
 have:=RF.two Str.empty
 exact this
end Z
namespace Z
open PySem L2
theorem str_eq {x y:Str} (h:sg x=sg y):x=y:=by
 cases x;cases y
 simp only [sg] at h
 rw [Array.toList_inj.mp h]
theorem sl_to {x:Str} {j:Int} (h0:0≤j) (h1:j≤x.length):sg (Txt.slice x none (some j))=(sg x).take j.toNat:=by
 have e:=PyProof.Rows.slice_closes_to (x:=x) (j:=j) ⟨h0,by rw [←str_len];exact h1⟩
 rw [eq_of_beq e]
 simp
end Z
namespace Z
open PySem L2
theorem hid_same {H:Hp} {b c:Addr} : Same (hid H b c) H:=fun a o e=>(of_hid e).1
end Z
namespace Z
open PySem L2
noncomputable def spBegin (K:PySem.W.Frag):Sp:=fun vs H Q _=>Ex2 fun (a:Addr) (ns:List Int)=>vs=[.ref a]∧SqL K H a (ns.map V.int)∧ns.length≤63 ∧
 ∀(b c:Addr) (H':Hp),Bx H' b c 0→H b=none→H c=none→Same H (hid H' b c)→Q (.ref b) H'
theorem Den.ints {K:PySem.W.Frag} {H:Hp} : ∀(ns:List Int),Dens K H (ns.map PyData.int) (ns.map V.int)
 | []=>by unfold Dens;rfl
 | n :: ns=>by
  rw [List.map_cons,List.map_cons]
  unfold Dens
  exact ⟨_,_,rfl,by unfold Den;rfl,Den.ints ns⟩
theorem eqvNil (ds:List PyData):PyData.eqv (.list ds) (.list [])=ds.isEmpty:=by
 cases ds <;> simp [PyData.eqv,PyData.eqvAll]
theorem sh_ints {n:Nat} (ns:List Int):Sh (n+1) (.list (ns.map PyData.int)):=Sh.list fun d hd=>by
 refine Elim.el (List.mem_map.mp hd) _ ?_
 rintro i _ rfl
 exact Sh.int
section
variable {P:Program} {w:World} {K:PySem.W.Frag} {mg:Str→Option Value} {base:Heap} {f:Addr} {fd:FuncData}
theorem sc_law_begin:FnScope ["_law_script", "_law_cells"] ["_law_script"] (defScope (top i_law_begin)):=⟨rfl,rfl,rfl,by decide +kernel,rfl,by decide +kernel,by decide +kernel⟩
theorem ok_begin (F:Fun K "_law_begin" "_law_begin" (top i_law_begin) f fd) (T:Nm mg):FnOk P w K mg base CX0 1 f fd ["_law_script"] (spBegin K):=by
 refine F.ok sc_law_begin (fun vs H Q E h => ?_) (fun cdv A outer s H vs Q E hr h => ?_)
 ·obtain ⟨a,ns,rfl,_⟩:=h
  rfl
 obtain ⟨a,ns,rfl,hS,hlen,q⟩:=h
 have hu6:=hr.units
 refine ⟨_,(pss_cons (ps_set (i:=1) sc_law_begin.nd rfl (Or.inl rfl) (pe_callTy (listN K) rfl T.n_list (by rfl) (pa_cons (pe_slice (slN K) (pv 0) po_none (po_some pe_int)) pa_nil)))
  (pss_cons (ps_if (pt_cmpR (eqK K hu6) (pv 1) (lstN pa_nil) (nomark _)) (pss_one (ps_set (i:=1) sc_law_begin.nd rfl (Or.inl rfl) (lstN (pa_cons pe_int pa_nil)))) pss_nil)
  (pss_one (ps_ret (dispN (pps_cons pe_str (pv 1) (pps_cons pe_str pe_int pps_nil)) rfl rfl (by decide) (by decide)))))),?_⟩
 refine ⟨_,rfl,_,rfl, .inl ⟨a,_,rfl,hS,fun r1 H1 n1 => ?_⟩⟩
 refine ⟨r1,_,rfl, .inl (SqL.of n1.at),fun r2 H2 n2=>gn ?_⟩
 have hc:cutV (ns.map V.int) none (some 63)=ns.map V.int:=by
  have e:=cut_to (ns.map V.int) 63
  rw [List.take_of_length_le (by rw [List.length_map];exact hlen)] at e
  exact e
 have hn2:H2 r2=some (.lst (ns.map V.int)):=by rw [←hc];exact n2.at
 have sm2:=n1.same.trans n2.same
 dsimp only
 refine seqCut (t:=tIfS _ _ _) (fun σ H'=>Ex2 fun (r:Addr) (ns':List Int) => σ=[some (.ref a),some (.ref r)]∧H' r=some (.lst (ns'.map V.int))∧0<ns'.length∧ns'.length≤64∧H r=none∧Same H H') (fun Nx nx => ?_) ?_
 ·refine ⟨_,rfl,by show 0≤sizeLine;decide,fun r3 H3 n3 => ?_⟩
  have d2:Den K H3 (.list (ns.map PyData.int)) (.ref r2):=Den.list (SqL.of (n3.same _ _ hn2)) (Den.ints ns)
  have d3:Den K H3 (.list []) (.ref r3):=Den.list (SqL.of n3.at) (Den.ints [])
  refine .inr ⟨_,_,d2,d3,(sh_ints (n:=1) ns).shaped (by decide),by decide +kernel,_,rfl,?_⟩
  rw [eqvNil]
  refine ite2 (fun e => ?_) (fun e => ?_)
  ·refine ⟨by show 1≤sizeLine;decide,fun r4 H4 n4=>gn (nx _ _ ⟨r4,[_],rfl,n4.at,by decide,by decide,(sm2.trans n3.same).free n4.nn,sm2.trans (n3.same.trans n4.same)⟩)⟩
  ·refine nx _ _ ⟨r2,ns,rfl,n3.same _ _ hn2,?_,by first|lia|omega,n1.same.free n2.nn,sm2.trans n3.same⟩
   cases ns with
   | nil=>exact absurd rfl e
   | cons _ _=>exact Nat.succ_pos _
 intro σ H3 hz_
 refine Elim.el hz_ _ ?_
 clear hz_
 rintro r ns' rfl hr' l0 l1 hn sm
 intro p H0 n0
 refine ⟨_,rfl,?_⟩
 refine ⟨n0.at,[(.inr "cells", .ref r),(.inr "turn", .int 0)],rfl,by show 2≤15;decide,fun H6 n6 => ?_⟩
 have hpr:r≠p:=ne_of_none hr' n0.nn
 have hp:H p=none:=sm.free n0.nn
 refine q p r H6 ⟨ns',[],?_, .inl rfl,?_,l0,l1⟩ hp hn (fun b o e => ?_)
 ·rw [n6.at];rfl
 ·rw [n6.ne hpr,n0.ne hpr];exact hr'
 ·have hb1:b≠p:=ne_of_none e hp
  have hb2:b≠r:=ne_of_none e hn
  rw [hid_of hb1 hb2,n6.ne hb1,n0.ne hb1]
  exact sm _ _ e
end
end Z
namespace Z
open PySem L2
theorem take_next {α:Type} {l:List α} {i:Nat} (h:i<l.length):l.take (i+1)=l.take i++[l[i]]:=by
 rw [List.take_succ,List.getElem?_eq_getElem h];rfl
theorem val_none {α:Type} {f : α→Key×V} {k:Key} : ∀{l:List α},(∀y∈l,(f y).1≠k)→valV (l.map f) k=none
 | [],_=>rfl
 | y :: l,h=>by
  rw [List.map_cons,valV_neg (h y List.mem_cons_self)]
  exact val_none fun z hz=>h z (List.mem_cons_of_mem _ hz)
end Z
set_option maxRecDepth 200000
namespace Z
open PySem L2
noncomputable def BkL (K:PySem.W.Frag) (H:Hp) (bk:List (Str×Str)) (l:Addr):Prop:=∃vs,SqL K H l vs∧Dens K H (bk.map fun q => .tuple [.str q.1, .str q.2]) vs
theorem BkL.same {K:PySem.W.Frag} {H H':Hp} {bk:List (Str×Str)} {l:Addr} (h:BkL K H bk l) (s:Same H H'):BkL K H' bk l:=by
 obtain ⟨vs,h1,h2⟩:=h
 exact ⟨vs,s.seq h1,h2.same s⟩
theorem bk_at {K:PySem.W.Frag} {H:Hp} {bk:List (Str×Str)} {vs:List V} (h:Dens K H (bk.map fun q => .tuple [.str q.1, .str q.2]) vs) {i:Nat} (hi:i<bk.length):∃tp,vs[i]? = some (.ref tp)∧SqT K H tp [.str bk[i].1, .str bk[i].2]:=by
 obtain ⟨v,h1,h2⟩:=h.get (i:=i) (d := .tuple [.str bk[i].1, .str bk[i].2]) (by rw [List.getElem?_map,List.getElem?_eq_getElem hi];rfl)
 refine Elim.el (h2.pair) _ ?_
 rintro tp rfl h3
 exact ⟨tp,h1,h3⟩
theorem bk_len {K:PySem.W.Frag} {H:Hp} {bk:List (Str×Str)} {vs:List V} (h:Dens K H (bk.map fun q => .tuple [.str q.1, .str q.2]) vs):vs.length=bk.length:=by rw [h.len,List.length_map]
end Z
namespace Z
open PySem L2
theorem fold_rep (a:Nat):∀(k:Nat) (acc:Array Nat),((List.replicate k #[a]).foldl (· ++ ·) acc).toList=acc.toList++List.replicate k a
 | 0,acc=>by simp
 | k+1,acc=>by
  rw [List.replicate_succ,List.foldl_cons,fold_rep a k,List.replicate_succ]
  simp
theorem sg_mul1 (a k:Nat):sg (Txt.mul (⟨#[a]⟩:Str) (k:Int))=List.replicate k a:=by
 unfold Txt.mul
 split
 ·have:k=0:=by (first|lia|omega)
  subst this;rfl
 ·split
  ·rename_i h1 h2
   have:k=1:=by
    have h2:((k:Int) == 1)=true:=by
     rcases Bool.or_eq_true_iff.mp h2 with h|h
     ·exact h
     ·exact absurd h (by simp [Str.length])
    have:=eq_of_beq h2
    (first|lia|omega)
   subst this;rfl
  ·show ((List.replicate (k:Int).toNat #[a]).foldl (· ++ ·) #[]).toList=_
   rw [fold_rep];simp
end Z
namespace Z
open PySem L2
structure EndAt (i:Nat) (x:Str):Prop where
 le:x.length≤8
 last:x.cps.toList.getLast? = some (97+i)
theorem EndAt.nodup {xs:List Str} (h:∀(i:Nat) x,xs[i]? = some x→EndAt i x):xs.Nodup:=by
 refine List.nodup_iff_pairwise_ne.mpr (List.pairwise_iff_getElem.mpr fun i j hi hj hij e => ?_)
 have h1:=(h i _ (List.getElem?_eq_getElem hi)).last
 have h2:=(h j _ (List.getElem?_eq_getElem hj)).last
 rw [e,h2] at h1
 have h1:=Option.some.inj h1
 (first|lia|omega)
theorem ones_len:∀{xs:List Str},(∀x∈xs,∃ch:Nat,x=⟨#[ch]⟩)→(xs.flatMap (fun p=>p.cps.toList)).length=xs.length∧(xs.map (·.length)).sum=xs.length
 | [],_=>⟨rfl,rfl⟩
 | x :: r,h=>by
  obtain ⟨ch,rfl⟩:=h x List.mem_cons_self
  obtain ⟨h1,h3⟩:=ones_len fun y hy=>h y (List.mem_cons_of_mem _ hy)
  refine ⟨by simp at h1 ⊢; (first|lia|omega),?_⟩
  rw [List.map_cons,List.sum_cons,h3]
  show 1+_=_
  simp; (first|lia|omega)
section
variable {P:Program} {w:World} {K:PySem.W.Frag} {mg:Str→Option Value} {base:Heap} {f:Addr} {fd:FuncData}
theorem sc_law_names:FnScope ["_law_state", "_law_many", "_law_letters", "_law_found", "_law_k"] ["_law_state", "_law_many"] (defScope (top i_law_names)):=⟨rfl,rfl,rfl,by decide +kernel,rfl,by decide +kernel,by decide +kernel⟩
end
end Z
namespace Z
open PySem L2
noncomputable def spFr:Sp:=fun vs H Q _=>Ex5 fun (b c:Addr) (t many most:Int)=>vs=[.ref b, .int many, .int most]∧Bx H b c t∧0≤t∧t<900000∧1≤many∧many≤12∧1≤most∧most≤12 ∧
 ∀(cs:List Str) (l:Addr) (H':Hp) (t':Int),cs≠[]→(cs.length:Int)≤many→Free cs→(∀x∈cs,CodeOk most.toNat x)→Step b c H H' t t' 40→H l=none→H' l=some (.lst (cs.map V.str))→Q (.ref l) H'
theorem code0 {n:Nat} (h:1≤n):CodeOk n s0:=⟨fun ch hc => .inl (by have:ch∈[48]:=hc;simpa using this),by decide +kernel,h⟩
theorem code1 {n:Nat} (h:1≤n):CodeOk n s1:=⟨fun ch hc => .inr (by have:ch∈[49]:=hc;simpa using this),by decide +kernel,h⟩
theorem CodeOk.app0 {n:Nat} {x:Str} (h:CodeOk n x) (hl:x.length<n):CodeOk n (x++s0):=by
 have e:s0.length=1:=by decide +kernel
 exact ⟨h.bin.app (code0 (n:=1) (by decide)).bin,by rw [len_append]; (first|lia|omega),by rw [len_append]; (first|lia|omega)⟩
theorem CodeOk.app1 {n:Nat} {x:Str} (h:CodeOk n x) (hl:x.length<n):CodeOk n (x++s1):=by
 have e:s1.length=1:=by decide +kernel
 exact ⟨h.bin.app (code1 (n:=1) (by decide)).bin,by rw [len_append]; (first|lia|omega),by rw [len_append]; (first|lia|omega)⟩
theorem erase_map (xs:List Str) (k:Nat):(xs.map V.str).eraseIdx k=(xs.eraseIdx k).map V.str:=by
 rw [List.eraseIdx_eq_take_drop_succ,List.eraseIdx_eq_take_drop_succ,List.map_append,List.map_take,List.map_drop]
theorem sh_bins {cs:List Str} (h:∀x∈cs,Bin x):SeqAt.shaped (.list (cs.map PyData.str))=true:=(Sh.list (n:=0) fun d hd=>by
   refine Elim.el (List.mem_map.mp hd) _ ?_
   rintro x hx rfl
   exact Sh.str (canLay_small fun ch hc=>by rcases h x hx ch hc with e|e <;> (first|lia|omega))).shaped (by decide)
theorem sh_nil:SeqAt.shaped (.list [])=true:=(Sh.list (n:=0) fun d hd=>by simp at hd).shaped (by decide)
section
variable {P:Program} {w:World} {K:PySem.W.Frag} {mg:Str→Option Value} {base:Heap} {f:Addr} {fd:FuncData}
noncomputable abbrev FrI (b c:Addr) (H:Hp) (t many most mo:Int) (k:Nat) (σ:L2.St) (H':Hp):Prop:=Ex6 fun (cs:List Str) (l:Addr) (t':Int) (x5 x6 x7:Option V) => σ=[some (.ref b),some (.int many),some (.int most),some (.ref l),some (.int mo),x5,x6,x7,none]∧1≤cs.length∧(cs.length:Int)≤many+mo+1∧Free cs∧(∀x∈cs,CodeOk most.toNat x)∧Step b c H H' t t' k∧H l=none∧l≠b∧l≠c∧H' l=some (.lst (cs.map V.str))
theorem sc_law_free:FnScope ["_law_state", "_law_many", "_law_most", "_law_leaves", "_law_more", "_law_turn", "_law_some", "_law_leaf", "_law_found"] ["_law_state", "_law_many", "_law_most"] (defScope (top i_law_free)):=⟨rfl,rfl,rfl,by decide +kernel,rfl,by decide +kernel,by decide +kernel⟩
theorem ok_free (F:Fun K "_law_free" "_law_free" (top i_law_free) f fd) (T:Nm mg) (f_law_take:Fn P w K mg base 1 "_law_take" ["_law_state", "_law_many"] spTk):FnOk P w K mg base CX0 2 f fd ["_law_state", "_law_many", "_law_most"] spFr:=by
 refine F.ok sc_law_free (fun vs H Q E h => ?_) (fun cdv A outer s H vs Q E hr h => ?_)
 ·obtain ⟨b,c,t,many,most,rfl,_⟩:=h
  rfl
 unfold spFr at h
 refine Elim.el h _ ?_
 clear h
 rintro b c t many most rfl bx t0 t1 m0 m1 o0 o1 q
 have hu6:=hr.units
 have z1:sizeLine≥10000000:=by decide
 refine ⟨_,(pss_cons (ps_set (i:=3) sc_law_free.nd rfl (Or.inl rfl) (lstN (pa_cons pe_str (pa_cons pe_str pa_nil))))
  (pss_cons (ps_set (i:=4) sc_law_free.nd rfl (Or.inl rfl) (pe_fn (f_law_take.mono (by first|decide|exact Nat.le_refl _|(first|lia|omega))) hr rfl (pa_cons (pv 0) (pa_cons pe_int pa_nil))))
  (pss_cons (ps_for PassesOwn.never rfl (pi_range1 rfl T.n_range (pa_cons (pv 1) pa_nil)) (pg_name (i:=5) sc_law_free.nd rfl (Or.inl rfl)) (pss_cons (ps_setcomp (i:=6) sc_law_free.nd rfl (Or.inl rfl) rfl (comp_ok (Nc:=["_law_leaf"]) (Fc:=["_law_most"]) (js:=[2])) (piK K (pv 3)) (gk_name (i:=0) (n:=1) (by decide)) (fun _ _ _ _ _=>(pg_name (i:=0) (show (["_law_leaf", "_law_most"]:List Str).Nodup by decide +kernel) rfl (Or.inl rfl))) (fun _ _ _ _ _=>(pts_one (pt_cmpR op_lt (pe_callB (lenK K) rfl T.n_len (by rfl) (pa_cons (pv 0) pa_nil)) (pv 1) (nomark _)))) (fun _ _ _ _ _=>(pv 0)))
  (pss_one (ps_if (PW.pt (pw_and (pt_cmpR (neK K hu6) (pv 6) (lstN pa_nil) (nomark _)) (pw_and1 (pt_cmpR op_lt (pe_callB (lenK K) rfl T.n_len (by rfl) (pa_cons (pv 3) pa_nil)) (pe_op addN (pv 1) (pv 4)) (nomark _))))) (pss_cons (ps_set (i:=7) sc_law_free.nd rfl (Or.inl rfl) (pe_ix (ixK K) (pv 6) (pe_fn (f_law_take.mono (by first|decide|exact Nat.le_refl _|(first|lia|omega))) hr rfl (pa_cons (pv 0) (pa_cons (pe_callB (lenK K) rfl T.n_len (by rfl) (pa_cons (pv 6) pa_nil)) pa_nil))) (fun _ _=>rfl)))
  (pss_cons (ps_expr (bmK K PySem.F.plainAttrs_list PySem.F.slot_list_remove PySem.F.type_list_remove removeS (pv 3) (pa_cons (pv 7) pa_nil)))
  (pss_one (ps_set (i:=3) sc_law_free.nd rfl (Or.inl rfl) (pe_op addN (pv 3) (lstN (pa_cons (pe_op addN (pv 7) pe_str) (pa_cons (pe_op addN (pv 7) pe_str) pa_nil)))))))) pss_nil))))
  (pss_cons (ps_set (i:=8) sc_law_free.nd rfl (Or.inl rfl) (lstN pa_nil))
  (pss_cons (ps_while PassesOwn.never (PW.pt (pw_and (pt_cmpR (neK K hu6) (pv 3) (lstN pa_nil) (nomark _)) (pw_and1 (pt_cmpR op_lt (pe_callB (lenK K) rfl T.n_len (by rfl) (pa_cons (pv 8) pa_nil)) (pv 1) (nomark _))))) (pss_one (ps_expr (bmK K PySem.F.plainAttrs_list PySem.F.slot_list_append PySem.F.type_list_append appendN (pv 8) (pa_cons (bmK K PySem.F.plainAttrs_list PySem.F.slot_list_pop PySem.F.type_list_pop popAtN (pv 3) (pa_cons (pe_fn (f_law_take.mono (by first|decide|exact Nat.le_refl _|(first|lia|omega))) hr rfl (pa_cons (pv 0) (pa_cons (pe_callB (lenK K) rfl T.n_len (by rfl) (pa_cons (pv 3) pa_nil)) pa_nil))) pa_nil)) pa_nil)))))
  (pss_one (ps_ret (pv 8)))))))),?_⟩
 refine ⟨by show 2≤sizeLine;decide,fun l1 H1 n1=>gn ?_⟩
 have lb1:=(bx.ne_new n1.nn).1
 have lc1:=(bx.ne_new n1.nn).2
 have st1:=(Step.refl bx).newN n1
 refine ⟨_,rfl,b,c,t,3,rfl,st1.bx,by first|lia|omega,by first|lia|omega,by decide,by decide,fun mo H2 mo0 mo1 st2=>gn ?_⟩
 have hl2:=st2.old n1.at lb1 lc1
 have st2:=st1.trans st2
 dsimp only
 refine seqCut (t:=tFor _ _ _) (FrI b c H t many most mo 13) (fun Nx nx => ?_) ?_
 ·refine ⟨_,rfl,_,rfl,by first|lia|omega,by first|lia|omega,?_⟩
  refine for_range (lo:=0) (n:=many.toNat) (fun i=>FrI b c H t many most mo (1+i)) ⟨[s0,s1],l1,_,_,_,_,rfl,by decide,by show (2:Int)≤many+mo+1; (first|lia|omega),free0,?_,st2.more (by first|lia|omega),n1.nn,lb1,lc1,hl2⟩ ?_ ?_
  ·intro x hx
   simp at hx
   rcases hx with rfl|rfl
   ·exact code0 (by first|lia|omega)
   ·exact code1 (by first|lia|omega)
  ·intro i σ H3 hi hz_
   refine Elim.el hz_ _ ?_
   clear hz_
   rintro cs l t3 x5 x6 x7 rfl hc1 hcm fr ok st3 hl lb lc hl3
   have hub:=st3.ub
   have hlo:=st3.le
   have hlen:(cs.map V.str).length=cs.length:=List.length_map _
   have atc:∀{k:Nat} (hk:k<cs.length),(cs.map V.str)[k]? = some (.str cs[k]):=fun hk=>by rw [List.getElem?_map,List.getElem?_eq_getElem hk];rfl
   dsimp only
   refine asgCut (te:=tComp _ _ _ _ _ _) (fun v H'=>Ex2 fun (ss:List Str) (p:Addr)=>v = .ref p∧New H3 p (.lst (ss.map V.str)) H'∧ss.length≤cs.length∧∀x∈ss,x∈cs∧(x.length:Int)<most) (fun Qn qn => ?_) ?_
   ·refine ⟨_,rfl,l,rfl,⟨_,SqL.of hl3⟩,?_⟩
    refine comp_goN (N:=cs.length) (fun k ys H'=>H'=H3∧∃ss:List Str,ys=ss.map V.str∧ss.length≤k∧∀x∈ss,x∈cs∧(x.length:Int)<most) ⟨rfl,[],rfl,Nat.le_refl _,(fun _ h=>nomatch h)⟩ ?_ ?_
    ·intro k ys H4 Ny hk hz_ ny
     refine Elim.el hz_ _ ?_
     clear hz_
     rintro rfl ss rfl hss hs
     refine ⟨⟨_,_,SqL.of hl3,atc hk⟩,by rw [List.length_map]; (first|lia|omega),?_⟩
     rintro x H5 ⟨rfl,hy⟩
     have e:=hy _ (SqL.of hl3)
     rw [atc hk] at e;cases e
     have hle:=(ok _ (List.getElem_mem hk)).le
     refine gn ⟨_,rfl,_,_,rfl,⟨sizeOk (by first|lia|omega),rfl⟩,_,rfl,_,_,rfl,rfl,_,rfl,ite2 (fun e => ?_) (fun e=>ny _ _ ⟨rfl,ss,rfl,by first|lia|omega,hs⟩)⟩
     have e:=of_decide_eq_true e
     refine ⟨_,rfl,ny _ _ ⟨rfl,ss++[cs[k]],by rw [List.map_append];rfl,by rw [List.length_append];show _+1≤_; (first|lia|omega),fun x hx => ?_⟩⟩
     rcases List.mem_append.mp hx with hx|hx
     ·exact hs x hx
     ·rw [List.mem_singleton.mp hx];exact ⟨List.getElem_mem hk,e⟩
    ·intro ys H4 hz_
     refine Elim.el hz_ _ ?_
     clear hz_
     rintro rfl ss rfl hss hs
     exact ⟨⟨_,SqL.of hl3,by first|lia|omega⟩,fun p H5 n5=>qn _ _ ⟨ss,p,rfl,n5,hss,hs⟩⟩
   intro v H4 hz_
   refine Elim.el hz_ _ ?_
   clear hz_
   rintro ss p rfl n4 hss hs
   refine gn ?_
   have hl4:=n4.same _ _ hl3
   have st4:=st3.newN n4
   have pb:=(st3.bx.ne_new n4.nn).1
   have pc:=(st3.bx.ne_new n4.nn).2
   have bins:∀x∈ss,Bin x:=fun x hx=>(ok x (hs x hx).1).bin
   refine ⟨_,rfl,by show 0≤sizeLine;decide,fun p5 H5 n5 => .inr ⟨_,_,Den.list (SqL.of (n5.same _ _ n4.at)) (Den.strs _),Den.list (SqL.of n5.at) (by unfold Dens;rfl),sh_bins bins,sh_nil,_,rfl,?_⟩⟩
   rw [ne_nil_eq]
   have hl5:=n5.same _ _ hl4
   have hp5:=n5.same _ _ n4.at
   have st5:=st4.newN n5
   by_cases hss0:ss=[]
   ·have e:(!ss.isEmpty)=false:=by rw [hss0];rfl
    rw [e]
    exact iteF (iteF ⟨cs,l,_,_,_,_,rfl,hc1,hcm,fr,ok,st5.more (by first|lia|omega),hl,lb,lc,hl5⟩)
   have e:(!ss.isEmpty)=true:=by cases ss with|nil=>exact absurd rfl hss0|cons _ _=>rfl
   rw [e]
   have hpos:0<ss.length:=List.length_pos_iff.mpr hss0
   refine iteT ⟨_,rfl,_,_,rfl, .inl ⟨_,SqL.of hl5,rfl⟩,_,rfl,_,rfl, .inl ⟨_,_,rfl,rfl,_,_,rfl,rfl,_,rfl,ite2 (fun e2 => ?_) (fun e2=>⟨cs,l,_,_,_,_,rfl,hc1,hcm,fr,ok,st5.more (by first|lia|omega),hl,lb,lc,hl5⟩)⟩⟩
   have e2:(cs.length:Int)<many+mo:=by have:=of_decide_eq_true e2;rw [hlen] at this;exact this
   have slen:(ss.map V.str).length=ss.length:=List.length_map _
   refine ⟨_,rfl,_,rfl,_,rfl,_,_,rfl, .inl ⟨_,SqL.of hp5,rfl⟩,b,c,_,_,rfl,st5.bx,by first|lia|omega,by first|lia|omega,by first|lia|omega,by first|lia|omega,fun r H6 r0 r1 st6 => ?_⟩
   have hr':r.toNat<ss.length:=by (first|lia|omega)
   have hp6:=st6.old hp5 pb pc
   have hl6:=st6.old hl5 lb lc
   have st6:=st5.trans st6
   have hat:atI (ss.map V.str) r=some (.str ss[r.toNat]):=at_nat r0 (by rw [List.getElem?_map,List.getElem?_eq_getElem hr'];rfl)
   have hin:=(hs _ (List.getElem_mem hr')).1
   have hlt:=(hs _ (List.getElem_mem hr')).2
   generalize ss[r.toNat]=x at hat hin hlt
   refine .inl ⟨p,_,_,_,rfl,rfl,SqL.of hp6,hat,gn ?_⟩
   dsimp only
   refine ⟨_,rfl, .inl ⟨rfl,_,SqL.of hl6⟩,_,rfl,l,cs,x,rfl,rfl,hl6,hin,fun H7 c7 => ?_⟩
   have st7:=st6.chgN c7 hl lb lc
   have e0:s0.length=1:=by decide +kernel
   have e1:s1.length=1:=by decide +kernel
   refine ⟨_,rfl,_,rfl, .inr (.inl ⟨_,_,rfl,rfl,sizeOk (by rw [e0]; (first|lia|omega)),_,rfl, .inr (.inl ⟨_,_,rfl,rfl,sizeOk (by rw [e1]; (first|lia|omega)),by show 2≤sizeLine;decide,fun p8 H8 n8 => ?_⟩)⟩)⟩
   have hel:(cs.erase x).length=cs.length-1:=List.length_erase_of_mem hin
   refine .inr (.inr ⟨l,p8,_,_,rfl,rfl,n8.same _ _ c7.at,n8.at,by rw [List.length_map,hel];exact sizeOk (by show _+2≤_; (first|lia|omega)),fun p9 H9 n9=>gn ?_⟩)
   have st8:=st7.newN n8
   have pb9:=(st8.bx.ne_new n9.nn).1
   have pc9:=(st8.bx.ne_new n9.nn).2
   have okx:=ok x hin
   refine ⟨cs.erase x++[x++s0,x++s1],p9,_,_,_,_,rfl,by rw [List.length_append];show _≤_+2; (first|lia|omega),?_,?_,fun y hy => ?_,(st8.newN n9).more (by first|lia|omega),st8.fresh bx n9.nn,pb9,pc9,?_⟩
   ·rw [List.length_append,hel]
    show (((cs.length-1+2:Nat)):Int)≤_
    (first|lia|omega)
   ·have h2:Free (cs.erase x++x :: []):=fr.perm ((List.perm_cons_erase hin).trans (List.perm_append_singleton x _).symm)
    have h3:=Free.split h2
    rwa [List.append_nil] at h3
   ·rcases List.mem_append.mp hy with hy|hy
    ·exact ok y (List.mem_of_mem_erase hy)
    ·simp at hy
     rcases hy with rfl|rfl
     ·exact okx.app0 (by first|lia|omega)
     ·exact okx.app1 (by first|lia|omega)
   ·rw [n9.at,List.map_append];rfl
  ·intro σ H3 hz_
   refine Elim.el hz_ _ ?_
   clear hz_
   rintro cs l t3 x5 x6 x7 rfl hc1 hcm fr ok st3 hl lb lc hl3
   exact nx _ _ ⟨cs,l,t3,x5,x6,x7,rfl,hc1,hcm,fr,ok,st3.more (by first|lia|omega),hl,lb,lc,hl3⟩
 intro σ H3 hz_
 refine Elim.el hz_ _ ?_
 clear hz_
 rintro cs l t3 x5 x6 x7 rfl hc1 hcm fr ok st3 hl lb lc hl3
 have hub:=st3.ub
 have hlo:=st3.le
 refine ⟨by show 0≤sizeLine;decide,fun fp H4 n4=>gn ?_⟩
 dsimp only
 have hf:H fp=none:=st3.fresh bx n4.nn
 have fb:=(st3.bx.ne_new n4.nn).1
 have fc:=(st3.bx.ne_new n4.nn).2
 have lf:l≠fp:=fun z=>by have:=n4.nn;rw [←z,hl3] at this;cases this
 refine seqCut (t:=tWhile _ _) (fun σ H'=>Ex3 fun (fs:List Str) (t':Int) (x3:Option V) => σ=[some (.ref b),some (.int many),some (.int most),x3,some (.int mo),x5,x6,x7,some (.ref fp)]∧fs≠[]∧(fs.length:Int)≤many∧Free fs∧(∀x∈fs,CodeOk most.toNat x)∧Step b c H H' t t' 40∧H' fp=some (.lst (fs.map V.str))) (fun Nx nx => ?_) ?_
 ·refine whileGo (fun m σ H'=>Ex3 fun (fs ds:List Str) (t':Int)=>m=ds.length ∧ σ=[some (.ref b),some (.int many),some (.int most),some (.ref l),some (.int mo),x5,x6,x7,some (.ref fp)]∧(fs++ds).Perm cs∧(fs.length:Int)≤many∧Step b c H H' t t' (13+fs.length)∧H' fp=some (.lst (fs.map V.str))∧H' l=some (.lst (ds.map V.str))) ⟨_,[],cs,t3,rfl,rfl,List.Perm.refl _,by show (0:Int)≤_; (first|lia|omega),(st3.newN n4).more (by show (9:Int)≤9+0;decide),n4.at,n4.same _ _ hl3⟩ ?_
  intro m σ H5 hz_
  refine Elim.el hz_ _ ?_
  clear hz_
  rintro fs ds t5 rfl rfl pm hfl st5 hf5 hl5
  have hub5:=st5.ub
  have hlo5:=st5.le
  have hll:fs.length+ds.length=cs.length:=by rw [←List.length_append];exact pm.length_eq
  have okd:∀x∈ds,CodeOk most.toNat x:=fun x hx=>ok x (pm.subset (List.mem_append_right _ hx))
  have okf:∀x∈fs,CodeOk most.toNat x:=fun x hx=>ok x (pm.subset (List.mem_append_left _ hx))
  have frf:Free fs:=(fr.perm pm.symm).sub (List.sublist_append_left _ _)
  have dlen:(ds.map V.str).length=ds.length:=List.length_map _
  have flen:(fs.map V.str).length=fs.length:=List.length_map _
  have fin:∀{H':Hp},(ds=[]∨¬(fs.length:Int)<many)→Step b c H H' t t5 (13+fs.length)→H' fp=some (.lst (fs.map V.str))→Nx [some (.ref b),some (.int many),some (.int most),some (.ref l),some (.int mo),x5,x6,x7,some (.ref fp)] H':=fun {H'} hend st' hf'=>by
   refine nx _ _ ⟨fs,t5,_,rfl,fun z => ?_,hfl,frf,okf,st'.more (by first|lia|omega),hf'⟩
   have hz:fs.length=0:=by rw [z];rfl
   rcases hend with h|h
   ·have:ds.length=0:=by rw [h];rfl
    (first|lia|omega)
   ·(first|lia|omega)
  refine ⟨_,rfl,by show 0≤sizeLine;decide,fun p6 H6 n6 => .inr ⟨_,_,Den.list (SqL.of (n6.same _ _ hl5)) (Den.strs _),Den.list (SqL.of n6.at) (by unfold Dens;rfl),sh_bins (fun x hx=>(okd x hx).bin),sh_nil,_,rfl,?_⟩⟩
  rw [ne_nil_eq]
  have hl6:=n6.same _ _ hl5
  have hf6:=n6.same _ _ hf5
  have st6:=st5.newN n6
  by_cases hds:ds=[]
  ·have e:(!ds.isEmpty)=false:=by rw [hds];rfl
   rw [e]
   exact iteF (iteF (fin (.inl hds) st6 hf6))
  have e:(!ds.isEmpty)=true:=by cases ds with|nil=>exact absurd rfl hds|cons _ _=>rfl
  rw [e]
  have dpos:0<ds.length:=List.length_pos_iff.mpr hds
  refine iteT ⟨_,rfl,_,_,rfl, .inl ⟨_,SqL.of hf6,rfl⟩,_,rfl,_,_,rfl,rfl,_,rfl,ite2 (fun e2 => ?_) (fun e2=>fin (.inr fun z=>e2 (decide_eq_true (by rw [flen];exact z))) st6 hf6)⟩
  have e2:(fs.length:Int)<many:=by have:=of_decide_eq_true e2;rw [flen] at this;exact this
  refine ⟨fun σ' H'=>∃m',m'<ds.length∧_,fun _ _ h=>h,?_⟩
  refine ⟨_,rfl, .inl ⟨rfl,_,SqL.of hf6⟩,_,rfl, .inl ⟨rfl,_,SqL.of hl6⟩,_,rfl,_,rfl,_,_,rfl, .inl ⟨_,SqL.of hl6,rfl⟩,b,c,t5,_,rfl,st6.bx,by first|lia|omega,by first|lia|omega,by first|lia|omega,by first|lia|omega,fun a H7 a0 a1 st7 => ?_⟩
  have hl7:=st7.old hl6 lb lc
  have hf7:=st7.old hf6 fb fc
  have st7:=st6.trans st7
  obtain ⟨x,hx⟩:∃x,ds[a.toNat]? = some x:=⟨_,List.getElem?_eq_getElem (by first|lia|omega)⟩
  refine ⟨l,_,a,_,rfl,rfl,hl7,a0,by first|lia|omega,by rw [List.getElem?_map,hx];rfl,fun H8 c8 => ?_⟩
  have hf8:H8 fp=some (.lst (fs.map V.str)):=by rw [c8.ne (Ne.symm lf)];exact hf7
  have st8:=st7.chgN c8 hl lb lc
  refine ⟨fp,_,_,rfl,rfl,hf8,by rw [flen]; (first|lia|omega),fun H9 c9 => ?_⟩
  refine ⟨(ds.eraseIdx a.toNat).length,by rw [List.length_eraseIdx_of_lt (by first|lia|omega)]; (first|lia|omega),fs++[x],ds.eraseIdx a.toNat,_,rfl,rfl,?_,by rw [List.length_append];show ((fs.length+1:Nat):Int)≤_; (first|lia|omega),(st8.chgN c9 hf fb fc).more (by rw [List.length_append];show _≤(13:Int)+((fs.length+1:Nat):Int); (first|lia|omega)),by rw [c9.at,List.map_append];rfl,by rw [c9.ne lf,c8.at,erase_map]⟩
  refine List.Perm.trans ?_ pm
  rw [List.append_assoc]
  exact List.Perm.append_left fs (pop_perm hx).symm
 intro σ H5 hz_
 refine Elim.el hz_ _ ?_
 clear hz_
 rintro fs t5 x3 rfl hne hfl frf okf st5 hf5
 exact ⟨_,rfl,q fs fp H5 t5 hne hfl frf okf st5 hf hf5⟩
end
end Z
namespace Z
open PySem L2
noncomputable def spNl:Sp:=fun vs H Q _=>Ex4 fun (b c:Addr) (t many:Int)=>vs=[.ref b, .int many]∧Bx H b c t∧0≤t∧t<1000000∧0≤many∧many≤26 ∧
 ∀(xs:List Str) (l:Addr) (H':Hp) (t':Int),(xs.length:Int)=many→xs.Nodup→(∀x∈xs,x.length≤8∧∀ch∈x.cps.toList,ch≤122)→Step b c H H' t t' 300→H l=none→H' l=some (.lst (xs.map V.str))→Q (.ref l) H'
structure EndL (i:Nat) (x:Str):Prop extends EndAt i x where
 sm:∀ch∈x.cps.toList,ch≤122
section
variable {P:Program} {w:World} {K:PySem.W.Frag} {mg:Str→Option Value} {base:Heap} {f:Addr} {fd:FuncData}
theorem ok_nl16 (F:Fun K "_law_names" "_law_names" (top i_law_names) f fd) (T:Nm mg) (f_law_take:Fn P w K mg base 1 "_law_take" ["_law_state", "_law_many"] spTk):FnOk P w K mg base CX0 2 f fd ["_law_state", "_law_many"] spNl:=by
 refine F.ok sc_law_names (fun vs H Q E h => ?_) (fun cdv A outer s H vs Q E hr h => ?_)
 ·obtain ⟨b,c,t,many,rfl,_⟩:=h
  rfl
 unfold spNl at h
 refine Elim.el h _ ?_
 clear h
 rintro b c t many rfl bx t0 t1 m0 m1 q
 refine ⟨_,(pss_cons (ps_set (i:=2) sc_law_names.nd rfl (Or.inr rfl) pe_str)
  (pss_cons (ps_set (i:=3) sc_law_names.nd rfl (Or.inl rfl) (lstN pa_nil))
  (pss_cons (ps_for PassesOwn.never rfl (pi_range1 rfl T.n_range (pa_cons (pv 1) pa_nil)) (pg_name (i:=4) sc_law_names.nd rfl (Or.inl rfl)) (pss_one (ps_expr (bmK K PySem.F.plainAttrs_list PySem.F.slot_list_append PySem.F.type_list_append appendN (pv 3) (pa_cons (pe_op addN (bmK K PySem.F.plainAttrs_str PySem.F.slot_str_join PySem.F.type_str_join (joinK K) pe_str (pa_cons (pe_lcomp rfl (comp_ok (Nc:=["_law_j"]) (Fc:=["_law_letters", "_law_state"]) (js:=[2,0])) (pi_range1 rfl T.n_range (pa_cons (pe_fn (f_law_take.mono (by first|decide|exact Nat.le_refl _|(first|lia|omega))) hr rfl (pa_cons (pv 0) (pa_cons pe_int pa_nil))) pa_nil)) (gk_name (i:=0) (n:=1) (by decide)) (fun _ _ _ _ _=>(pg_name (i:=0) (show (["_law_j", "_law_letters", "_law_state"]:List Str).Nodup by decide +kernel) rfl (Or.inl rfl))) (fun _ _ _ _ _=>pts_nil) (fun _ _ _ _ _=>(pe_ix (ixK K) (pv 1) (pe_fn (f_law_take.mono (by first|decide|exact Nat.le_refl _|(first|lia|omega))) hr rfl (pa_cons (pv 2) (pa_cons pe_int pa_nil))) (fun _ _=>rfl)))) pa_nil)) (pe_ix (ixK K) (pv 2) (pv 4) (fun _ _=>rfl))) pa_nil)))))
  (pss_one (ps_ret (pv 3)))))),?_⟩
 refine gn ⟨by show 0≤sizeLine;decide,fun l H2 n2=>gn ?_⟩
 have hl:H l=none:=n2.nn
 obtain ⟨lb,lc⟩:=bx.ne_new n2.nn
 have st2:Step b c H H2 t t 0:=(Step.refl bx).newN n2
 refine ⟨_,rfl,many,rfl,by first|lia|omega,by first|lia|omega,?_⟩
 refine for_range (lo:=0) (n:=many.toNat) (fun i σ H'=>Ex3 fun (xs:List Str) (t':Int) (x4:Option V) => σ=[some (.ref b),some (.int many),some (.str abc),some (.ref l),x4]∧xs.length=i ∧
  (∀(j:Nat) x,xs[j]? = some x→EndL j x)∧Step b c H H' t t' (10*i)∧H' l=some (.lst (xs.map V.str))) ⟨[],t,_,rfl,rfl,by simp,by simpa using st2,n2.at⟩ ?_ ?_
 ·intro i σ H3 hi hz_
  refine Elim.el hz_ _ ?_
  clear hz_
  rintro xs t3 x4 rfl hxl hx st3 hl3
  have hub:=st3.ub
  have hlo:=st3.le
  refine ⟨_,rfl, .inl ⟨rfl,_,SqL.of hl3⟩,?_⟩
  refine ⟨rfl,_,rfl,b,c,t3,8,rfl,st3.bx,by first|lia|omega,by first|lia|omega,by decide,by decide,fun m H4 m0 m1 st4 => ?_⟩
  have hl4:H4 l=some (.lst (xs.map V.str)):=st4.old hl3 lb lc
  have st4:=(st3.trans st4)
  refine ⟨m,rfl,by first|lia|omega,by first|lia|omega,?_⟩
  refine comp_go (N:=m.toNat) (fun k ys H'=>Ex2 fun (zs:List Str) (t':Int)=>ys=zs.map V.str∧zs.length=k∧(∀x∈zs,∃ch:Nat,x=⟨#[ch]⟩∧ch≤122)∧Step b c H H' t t' (10*i+1+k)∧H' l=some (.lst (xs.map V.str))) ⟨[],_,rfl,rfl,(fun _ h=>nomatch h),st4.more (by first|lia|omega),hl4⟩ ?_ ?_
  ·intro k ys H5 Nx hk hz_ nx
   refine Elim.el hz_ _ ?_
   clear hz_
   rintro zs t5 rfl hzl hz st5 hl5
   have hub5:=st5.ub
   have hlo5:=st5.le
   refine ⟨hk,by rw [List.length_map,hzl];exact Nat.lt_of_lt_of_le (show k<1000 by first|lia|omega) (by decide),?_⟩
   rintro x H6 ⟨rfl,rfl⟩
   refine ⟨_,rfl,_,rfl,b,c,t5,26,rfl,st5.bx,by first|lia|omega,by first|lia|omega,by decide,by decide,fun d H7 d0 d1 st7 => ?_⟩
   refine .inr (.inr ⟨_,d,_,rfl,rfl,by decide +kernel,abc_at d0 d1,nx _ _ ⟨zs++[⟨#[97+d.toNat]⟩],_,by rw [List.map_append];rfl,by rw [List.length_append,hzl];rfl,fun x hx => ?_,(st5.trans st7).more (by first|lia|omega),st7.old hl5 lb lc⟩⟩)
   rcases List.mem_append.mp hx with h|h
   ·exact hz x h
   ·exact ⟨_,List.mem_singleton.mp h,by first|lia|omega⟩
  ·intro ys H5 hz_
   refine Elim.el hz_ _ ?_
   clear hz_
   rintro zs t5 rfl hzl hz st5 hl5
   refine ⟨Nat.le_refl _,fun p hp=>⟨_,p,zs,rfl,rfl,SqL.of upd_same,?_,?_⟩⟩
   ·rw [(ones_len fun x hx=>by obtain ⟨k,e,_⟩:=hz x hx;exact ⟨k,e⟩).2]
    show zs.length+zs.length*0≤16777216
    (first|lia|omega)
   ·have hn:New H5 p (.lst (zs.map V.str)) (upd H5 p (.lst (zs.map V.str))):=⟨hp,rfl⟩
    generalize upd H5 p (.lst (zs.map V.str))=H6 at hn ⊢
    have hl6:=hn.same _ _ hl5
    have st6:=st5.newN hn
    have hjl:(Txt.join "" zs).length=zs.length:=by
     rw [str_len]
     rw [join_list0]
     exact (ones_len fun x hx=>by obtain ⟨k,e,_⟩:=hz x hx;exact ⟨k,e⟩).1
    have h0:0≤(0:Int)+i:=by (first|lia|omega)
    have h1:(0:Int)+i<26:=by (first|lia|omega)
    refine ⟨_,rfl,_,rfl, .inr (.inr ⟨_,_,_,rfl,rfl,by decide +kernel,abc_at h0 h1, .inr (.inl ⟨_,_,rfl,rfl,by rw [len_one,hjl];exact sizeOk (by first|lia|omega),l,_,_,rfl,rfl,hl6,?_,fun H7 c7 => ?_⟩)⟩)⟩
    ·rw [List.length_map,hxl];exact Nat.lt_of_lt_of_le (show i<1000 by first|lia|omega) (by decide)
    ·refine ⟨xs++[Txt.join "" zs++⟨#[97+((0:Int)+i).toNat]⟩],t5,_,rfl,by rw [List.length_append,hxl];rfl,fun j y hy => ?_,?_,?_⟩
     ·by_cases hj:j<xs.length
      ·rw [List.getElem?_append_left hj] at hy
       exact hx j y hy
      ·rw [List.getElem?_append_right (by first|lia|omega)] at hy
       have e:j-xs.length=0:=by
        have:=(List.getElem?_eq_some_iff.mp hy).1
        simp at this
        (first|lia|omega)
       rw [e] at hy
       cases hy
       have ej:j=i:=by (first|lia|omega)
       subst ej
       refine ⟨⟨by rw [len_append,len_one]; (first|lia|omega),?_⟩,fun ch hc => ?_⟩
       rotate_left
       ·rw [str_append_list] at hc
        rcases List.mem_append.mp hc with hc|hc
        ·rw [join_list0] at hc
         refine Elim.el (List.mem_flatMap.mp hc) _ ?_
         rintro u hu hc
         refine Elim.el (hz u hu) _ ?_
         rintro k rfl hk
         have:ch∈[k]:=hc
         rw [List.mem_singleton.mp this];exact hk
        ·have:ch∈[97+((0:Int)+j).toNat]:=hc
         rw [List.mem_singleton.mp this]; (first|lia|omega)
       rw [str_append_list,List.getLast?_append]
       have:((0:Int)+j).toNat=j:=by (first|lia|omega)
       rw [this]
       rfl
     ·exact (st6.chgN c7 hl lb lc).more (by first|lia|omega)
     ·rw [c7.at,List.map_append]
      rfl
 ·intro σ H3 hz_
  refine Elim.el hz_ _ ?_
  clear hz_
  rintro xs t3 x4 rfl hxl hx st3 hl3
  exact ⟨_,rfl,q xs l H3 t3 (by first|lia|omega) (EndAt.nodup fun i x h=>(hx i x h).toEndAt) (fun x hx'=>by obtain ⟨j,hj⟩:=List.mem_iff_getElem?.mp hx';exact ⟨(hx j x hj).le,(hx j x hj).sm⟩) (st3.more (by first|lia|omega)) hl hl3⟩
end
end Z
namespace Z
open PySem L2 PyProof.Rows
structure GoodN (bk:List (Str×Str)):Prop where
 le:bk.length≤16
 nm:(bk.map (·.1)).Nodup
 cd:∀q∈bk,CodeOk 12 q.2
 nl:∀q∈bk,q.1.length≤8
 sm:∀q∈bk,∀ch∈q.1.cps.toList,ch≤122
theorem sl_fromN {x:Str} (p:Nat):sg (Txt.slice x (some (p:Int)) none)=(sg x).drop p:=by
 have key:∀p:Nat,p≤x.length→sg (Txt.slice x (some (p:Int)) none)=(sg x).drop p:=fun p h=>by
  rw [PyProof.Rows.slice_from_eq (b:=(x.length:Int)) (by first|lia|omega) (by first|lia|omega) rfl]
  show (((sg x).drop (p:Int).toNat).take ((x.length:Int)-p).toNat).toArray.toList=_
  rw [List.toList_toArray,List.take_of_length_le]
  ·rfl
  ·rw [List.length_drop, ←str_len]; (first|lia|omega)
 by_cases h:p≤x.length
 ·exact key p h
 ·have e:Txt.slice x (some (p:Int)) none=Txt.slice x (some ((x.length:Nat):Int)) none:=by
   unfold Txt.slice
   have:PySem.Builtin.Str.strSliceIndices (some (p:Int)) none 1 x.length=PySem.Builtin.Str.strSliceIndices (some ((x.length:Nat):Int)) none 1 x.length:=by
    unfold PySem.Builtin.Str.strSliceIndices
    dsimp only
    congr 1
    all_goals (first|lia|omega)
   rw [this]
  rw [e,key _ (Nat.le_refl _),List.drop_of_length_le (Nat.le_of_eq (str_len x).symm),List.drop_of_length_le (by have:=str_len x;show (sg x).length≤p;change x.length=(sg x).length at this; (first|lia|omega))]
theorem len_of_nodup {α:Type} [DecidableEq α]:∀{l m:List α},l.Nodup→(∀x∈l,x∈m)→l.length≤m.length
 | [],_,_,_=>Nat.zero_le _
 | a :: l,m,nd,h=>by
  obtain ⟨na,nd'⟩:=List.nodup_cons.mp nd
  have hm:=h a List.mem_cons_self
  have ih:=len_of_nodup (l:=l) (m:=m.erase a) nd' fun x hx=>by
   have hne:x≠a:=fun z=>na (z ▸ hx)
   exact (List.mem_erase_of_ne hne).mpr (h x (List.mem_cons_of_mem _ hx))
  rw [List.length_erase_of_mem hm] at ih
  have:0<m.length:=List.length_pos_of_mem hm
  rw [List.length_cons]
  (first|lia|omega)
theorem mem_valV {kvs:List (Key×V)} {k:Key} {v:V} (nd:(kvs.map (·.1)).Nodup) (h:(k,v)∈kvs):valV kvs k=some v:=by
 induction kvs with
 | nil=>cases h
 | cons p r ih=>
  rw [List.map_cons,List.nodup_cons] at nd
  rcases List.mem_cons.mp h with rfl|h
  ·exact valV_pos rfl
  ·rw [valV_neg fun z=>nd.1 (by rw [z];exact List.mem_map_of_mem (f:=(·.1)) h)]
   exact ih nd.2 h
end Z
namespace Z
open PySem L2 PyProof.Rows
noncomputable def EndOf (x r:Str) (n:Nat):Prop:=∃a:Nat,1≤a∧a<n∧sg r=(sg x).drop a
noncomputable def Lag (B:List (Str×Str)) (r:Str):Prop:=∃q∈B,EndOf q.2 r (sg q.2).length
noncomputable def tru (r:Str):Key×V:=(.inr r, .bl true)
theorem tru_put {ts:List Str} (r:Str):putK (ts.map tru) (.inr r) (.bl true)=(if r∈ts then ts else ts++[r]).map tru:=by
 by_cases h:r∈ts
 ·rw [if_pos h]
  unfold putK
  rw [if_pos (List.any_eq_true.mpr ⟨tru r,List.mem_map_of_mem h,decide_eq_true rfl⟩),List.map_map]
  refine List.map_congr_left fun z _ => ?_
  show (if (tru z).1 = .inr r then ((tru z).1,V.bl true) else tru z)=tru z
  split <;> rfl
 ·rw [if_neg h,putK_new _ (val_none fun y hy e=>h ?_),List.map_append]
  ·rfl
  ·have e:(Sum.inr y:Key) = .inr r:=e
   rw [←Sum.inr.inj e];exact hy
theorem nd_more {ts:List Str} {r:Str} (h:ts.Nodup):(if r∈ts then ts else ts++[r]).Nodup:=by
 by_cases hr:r∈ts
 ·rw [if_pos hr];exact h
 ·rw [if_neg hr];exact nd_snoc h hr
theorem mem_more {ts:List Str} {r x:Str} : x∈(if r∈ts then ts else ts++[r]) ↔ x∈ts∨x=r:=by
 by_cases hr:r∈ts
 ·rw [if_pos hr]
  exact ⟨.inl,fun h=>h.elim id fun e=>e ▸ hr⟩
 ·rw [if_neg hr,List.mem_append,List.mem_singleton]
theorem len_more {ts:List Str} {r:Str} : (if r∈ts then ts else ts++[r]).length≤ts.length+1:=by
 split
 ·(first|lia|omega)
 ·rw [List.length_append];exact Nat.le_refl _
noncomputable def spCe (K:PySem.W.Frag):Sp:=fun vs H Q _=>Ex2 fun (l:Addr) (B:List (Str×Str))=>vs=[.ref l]∧BkL K H B l∧GoodN B ∧
 ∀(ts:List Str) (p:Addr) (H':Hp),Same H H'→H p=none→H' p=some (.lst (ts.map V.str))→ts.Nodup→ts.length≤200→(∀r,r∈ts ↔ Lag B r)→Q (.ref p) H'
section
variable {P:Program} {w:World} {K:PySem.W.Frag} {mg:Str→Option Value} {base:Heap} {f:Addr} {fd:FuncData}
theorem sc_code_ends:FnScope ["book"] ["book"] (defScope (top i_code_ends)):=⟨rfl,rfl,rfl,by decide +kernel,rfl,by decide +kernel,by decide +kernel⟩
theorem ok_ce (F:Fun K "code_ends" "code_ends" (top i_code_ends) f fd) (T:Nm mg):FnOk P w K mg base CX0 1 f fd ["book"] (spCe K):=by
 refine F.ok sc_code_ends (fun vs H Q E h => ?_) (fun cdv A outer s H vs Q E hr h => ?_)
 ·obtain ⟨l,B,rfl,_⟩:=h
  rfl
 obtain ⟨l,B,rfl,hB,gB,q⟩:=h
 have hle:=gB.le
 refine ⟨_,(pss_one (ps_ret (pe_callTy (listD rfl) rfl T.n_list (by rfl) (pa_cons (pe_dcomp2 rfl (comp_ok (Nc:=["name", "code", "at"]) (Fc:=[]) (js:=[])) (piK K (pv 0)) (gk_tup (gks_cons (gk_name (i:=0) (n:=3) (by decide)) (gks_cons (gk_name (i:=1) (n:=3) (by decide)) gks_nil gm_name gms_nil) gm_name (gms_cons gm_name gms_nil))) (fun _ _ _ _ _=>(tupK K 2 rfl (pgs_cons (pg_name (i:=0) (show (["name", "code", "at"]:List Str).Nodup by decide +kernel) rfl (Or.inl rfl)) (pgs_cons (pg_name (i:=1) (show (["name", "code", "at"]:List Str).Nodup by decide +kernel) rfl (Or.inl rfl)) pgs_nil)))) (fun _ _ _ _ _=>(pi_range2 rfl T.n_range (pa_cons pe_int (pa_cons (pe_callB (lenK K) rfl T.n_len (by rfl) (pa_cons (pv 1) pa_nil)) pa_nil)))) (fun _ _ _ _ _=>(pg_name (i:=2) (show (["name", "code", "at"]:List Str).Nodup by decide +kernel) rfl (Or.inl rfl))) (fun _ _ _ _ _=>(pe_slice (slN K) (pv 1) (po_some (pv 2)) po_none)) (fun _ _ _ _ _=>pe_bl)) pa_nil)))),?_⟩
 obtain ⟨vs,hl,hd⟩:=id hB
 have hlen:=bk_len hd
 refine ⟨_,rfl,l,rfl,⟨_,hl⟩,fun D hD => ?_⟩
 refine ⟨fun k m H'=>∃ts:List Str,m=B.length-k∧k≤B.length∧Same H H'∧H' D=some (.dK (ts.map tru))∧ts.Nodup∧ts.length≤12*k∧∀r,r∈ts ↔ Lag (B.take k) r,⟨_,[],rfl,Nat.zero_le _,same_new hD _,upd_same,List.nodup_nil,Nat.le_refl _,fun r=>⟨(fun h=>nomatch h),fun ⟨q,hq,_⟩=>nomatch hq⟩⟩,?_⟩
 intro k m H1 hz_
 refine Elim.el hz_ _ ?_
 clear hz_
 rintro ts rfl hk sm hD1 nd tl mem
 by_cases hlt:k<B.length
 ·refine .inr ⟨?_,?_⟩
  ·refine Elim.el (bk_at hd hlt) _ ?_
   rintro tp e1 e2
   exact ⟨_,_,sm.seq hl,e1⟩
  rintro x H2 ⟨rfl,hy⟩
  refine Elim.el (bk_at hd hlt) _ ?_
  rintro tp e1 e2
  have e:=hy _ (sm.seq hl)
  rw [e1] at e;cases e
  have hc:=(gB.cd _ (List.getElem_mem hlt)).le
  have hpos:=(gB.cd _ (List.getElem_mem hlt)).pos
  have htk:=take_next hlt
  generalize B[k]=z at e2 hc hpos htk
  have hzs:z.2.length=(sg z.2).length:=str_len _
  refine ⟨tp,_,rfl,sm.seqT e2,rfl,_,_,rfl,_,_,rfl,rfl,?_⟩
  refine ⟨rfl,?_⟩
  have old:∀{r:Str},Lag (B.take (k+1)) r ↔ Lag (B.take k) r∨EndOf z.2 r (sg z.2).length:=fun {r}=>by
   rw [htk]
   refine ⟨fun ⟨q,hq,h⟩ => ?_,fun h => ?_⟩
   ·rcases List.mem_append.mp hq with hq|hq
    ·exact .inl ⟨q,hq,h⟩
    ·rw [List.mem_singleton.mp hq] at h;exact .inr h
   ·rcases h with ⟨q,hq,h⟩|h
    ·exact ⟨q,List.mem_append_left _ hq,h⟩
    ·exact ⟨z,List.mem_append_right _ (List.mem_singleton.mpr rfl),h⟩
  refine ⟨_,rfl,_,_,rfl,⟨sizeOk (by first|lia|omega),rfl⟩,1,(z.2.length:Nat),rfl,⟨by first|lia|omega,by first|lia|omega,by first|lia|omega,by first|lia|omega⟩,?_⟩
  refine ⟨fun k2 m2 H'=>∃us:List Str,m2=(z.2.length-1)-k2∧k2≤z.2.length-1∧Same H H'∧H' D=some (.dK (us.map tru))∧us.Nodup∧us.length≤12*k+k2∧∀r,r∈us ↔ Lag (B.take k) r∨EndOf z.2 r (1+k2),⟨_,ts,rfl,Nat.zero_le _,sm,hD1,nd,tl,fun r=>(mem r).trans ⟨.inl,fun h=>h.elim id fun ⟨a,a1,a2,_⟩=>absurd a2 (by first|lia|omega)⟩⟩,?_⟩
  intro k2 m2 H3 hz_
  refine Elim.el hz_ _ ?_
  clear hz_
  rintro us rfl hk2 sm3 hD3 nd3 ul mem3
  by_cases h2:k2<z.2.length-1
  ·refine .inr ⟨by show k2<_; (first|lia|omega),?_⟩
   rintro y H4 ⟨rfl,rfl⟩
   refine ⟨_,rfl,_,rfl,_,rfl,?_⟩
   dsimp only [tNoPart]
   refine .inr ⟨z.2,rfl,sizeOk (by first|lia|omega),?_⟩
   have es:=sl_fromN (x:=z.2) (1+k2)
   have ei:((1:Int)+(k2:Int))=((1+k2:Nat):Int):=by (first|lia|omega)
   rw [ei]
   generalize Txt.slice z.2 (some ((1+k2:Nat):Int)) none=r at es
   refine ⟨_, .inr r,hD3,rfl,?_,_,?_,_,rfl,h2,fun b o e => ?_,by rw [tru_put];exact upd_same,nd_more nd3,?_,fun x => ?_⟩
   ·rw [List.length_map];exact Nat.lt_of_le_of_lt (show us.length≤1000 by first|lia|omega) (by decide)
   ·(first|lia|omega)
   ·rw [upd_ne (ne_of_none e hD)];exact sm3 b o e
   ·have:=len_more (ts:=us) (r:=r); (first|lia|omega)
   ·rw [mem_more,mem3]
    refine ⟨fun h => ?_,fun h => ?_⟩
    ·rcases h with (h|⟨a,a1,a2,a3⟩)|h
     ·exact .inl h
     ·exact .inr ⟨a,a1,by first|lia|omega,a3⟩
     ·rw [h];exact .inr ⟨1+k2,by first|lia|omega,by first|lia|omega,es⟩
    ·rcases h with h|⟨a,a1,a2,a3⟩
     ·exact .inl (.inl h)
     ·by_cases ea:a=1+k2
      ·exact .inr (str_eq (by rw [a3,es,ea]))
      ·exact .inl (.inr ⟨a,a1,by first|lia|omega,a3⟩)
  ·have e2:k2=z.2.length-1:=by (first|lia|omega)
   subst e2
   refine .inl ⟨by show _≤_; (first|lia|omega),_,?_,us,rfl,hlt,sm3,hD3,nd3,by first|lia|omega,fun r=>(mem3 r).trans ?_⟩
   ·(first|lia|omega)
   ·rw [old,show 1+(z.2.length-1)=(sg z.2).length by first|lia|omega]
 ·have e:k=B.length:=by (first|lia|omega)
  subst e
  rw [List.take_length] at mem
  refine .inl ⟨⟨_,sm.seq hl,by first|lia|omega⟩,?_⟩
  refine ⟨D,_,rfl,hD1,fun p H2 n2=>q ts p H2 (sm.trans n2.same) ?_ ?_ nd (by first|lia|omega) mem⟩
  ·cases e:H p with
   | none=>rfl
   | some o=>have:=n2.nn;rw [sm _ _ e] at this;cases this
  ·have e:((ts.map tru).map fun q=>kV q.1)=ts.map V.str:=by rw [List.map_map];rfl
   rw [←e];exact n2.at
end
end Z
namespace Z
open PySem L2
noncomputable def restV (a b:Str):V:=if Txt.startswith a b=true then .str (Txt.slice a (some (b.length:Nat)) none) else if Txt.startswith b a=true then .str (Txt.slice b (some (a.length:Nat)) none) else .non
noncomputable def spRest:Sp:=fun vs H Q _=>∃a b:Str,vs=[.str a, .str b]∧a.length≤1000000∧b.length≤1000000∧Q (restV a b) H
section
variable {P:Program} {w:World} {K:PySem.W.Frag} {mg:Str→Option Value} {base:Heap} {f:Addr} {fd:FuncData}
theorem sc_rest:FnScope ["one", "other"] ["one", "other"] (defScope (top i_rest_of)):=⟨rfl,rfl,rfl,by decide +kernel,rfl,by decide +kernel,by decide +kernel⟩
theorem ok_rest (F:Fun K "rest_of" "rest_of" (top i_rest_of) f fd) (T:Nm mg):FnOk P w K mg base CX0 1 f fd ["one", "other"] spRest:=by
 refine F.ok sc_rest (fun vs H Q E h => ?_) (fun cdv A outer s H vs Q E hr h => ?_)
 ·obtain ⟨a,b,rfl,_⟩:=h
  rfl
 obtain ⟨a,b,rfl,ha,hb,q⟩:=h
 refine ⟨_,(pss_cons (ps_if (pt_val (bmK K PySem.F.plainAttrs_str PySem.F.slot_str_startswith PySem.F.type_str_startswith mt_startswith (pv 0) (pa_cons (pv 1) pa_nil))) (pss_one (ps_ret (pe_slice (slK K) (pv 0) (po_some (pe_callB (lenK K) rfl T.n_len (by rfl) (pa_cons (pv 1) pa_nil))) po_none))) pss_nil)
  (pss_cons (ps_if (pt_val (bmK K PySem.F.plainAttrs_str PySem.F.slot_str_startswith PySem.F.type_str_startswith mt_startswith (pv 1) (pa_cons (pv 0) pa_nil))) (pss_one (ps_ret (pe_slice (slK K) (pv 1) (po_some (pe_callB (lenK K) rfl T.n_len (by rfl) (pa_cons (pv 0) pa_nil))) po_none))) pss_nil)
  (pss_one (ps_ret pe_non)))),?_⟩
 unfold restV at q
 refine ⟨_,rfl,rfl,_,rfl,a,b,rfl,rfl,_,rfl,?_⟩
 refine ite2 (fun c => ?_) (fun c => ?_)
 ·rw [if_pos c] at q
  exact ⟨_,rfl,_,rfl,_,_,rfl,⟨sizeOk (Nat.le_trans hb (by decide)),rfl⟩,_,rfl, .inr ⟨a,rfl,sizeOk (Nat.le_trans ha (by decide)),q⟩⟩
 ·rw [if_neg c] at q
  refine ⟨_,rfl,rfl,_,rfl,b,a,rfl,rfl,_,rfl,?_⟩
  refine ite2 (fun c => ?_) (fun c => ?_)
  ·rw [if_pos c] at q
   exact ⟨_,rfl,_,rfl,_,_,rfl,⟨sizeOk (Nat.le_trans ha (by decide)),rfl⟩,_,rfl, .inr ⟨b,rfl,sizeOk (Nat.le_trans hb (by decide)),q⟩⟩
  ·rw [if_neg c] at q
   exact q
end
end Z
namespace Z
open PySem L2 PyProof.Rows
noncomputable def spLf:Sp:=fun vs H Q _=>∃t:Str,vs=[.str t]∧t.length≤100000∧∀z H',New H z (.tup [.int t.length, .str t]) H'→Q (.ref z) H'
section
variable {P:Program} {w:World} {K:PySem.W.Frag} {mg:Str→Option Value} {base:Heap} {f:Addr} {fd:FuncData}
theorem sc_length_first:FnScope ["text"] ["text"] (defScope (top i_length_first)):=⟨rfl,rfl,rfl,by decide +kernel,rfl,by decide +kernel,by decide +kernel⟩
theorem ok_lf (F:Fun K "length_first" "length_first" (top i_length_first) f fd) (T:Nm mg):FnOk P w K mg base CX0 1 f fd ["text"] spLf:=by
 refine F.ok sc_length_first (fun vs H Q E h => ?_) (fun cdv A outer s H vs Q E hr h => ?_)
 ·obtain ⟨t,rfl,_⟩:=h
  rfl
 obtain ⟨t,rfl,ht,q⟩:=h
 refine ⟨_,(pss_one (ps_ret (tupN (pa_cons (pe_callB (lenK K) rfl T.n_len (by rfl) (pa_cons (pv 0) pa_nil)) (pa_cons (pv 0) pa_nil))))),?_⟩
 exact ⟨_,rfl,_,_,rfl,⟨sizeOk (by first|lia|omega),rfl⟩,_,rfl,by show 2≤sizeLine;decide,fun p H' n=>q p H' n⟩
end
end Z
namespace Z
open PySem L2 PyProof.Rows
noncomputable def Bh (q:Str×Str) (x r:Str):Prop:=restV x q.2 = .str r∧r ≠ ""
theorem restV_or (x y:Str):restV x y = .non∨∃r,restV x y = .str r:=by
 unfold restV
 split
 ·exact .inr ⟨_,rfl⟩
 ·split
  ·exact .inr ⟨_,rfl⟩
  ·exact .inl rfl
noncomputable abbrev Stp:=Addr×(Str×Str)×Str
noncomputable def StpAt (H:Hp) (z:Stp):Prop:=H z.1=some (.tup [.str z.2.1.1, .str z.2.1.2, .str z.2.2])
noncomputable def spLb (K:PySem.W.Frag):Sp:=fun vs H Q _=>Ex3 fun (l:Addr) (x:Str) (B:List (Str×Str))=>vs=[.ref l, .str x]∧BkL K H B l∧GoodN B∧x.length≤12 ∧
 ∀(as:List Stp) (p:Addr) (H':Hp),Same H H'→H p=none→H' p=some (.lst (as.map fun z=>V.ref z.1))→as.length≤16→(∀z∈as,StpAt H' z∧z.2.1∈B∧Bh z.2.1 x z.2.2)→(∀q∈B,∀r,Bh q x r→∃z∈as,z.2.1=q∧z.2.2=r)→Q (.ref p) H'
noncomputable def spLg (K:PySem.W.Frag):Sp:=fun vs H Q _=>Ex2 fun (l:Addr) (B:List (Str×Str))=>vs=[.ref l]∧BkL K H B l∧GoodN B ∧
 ∀(ts:List Str) (p:Addr) (H':Hp),Same H H'→H p=none→H' p=some (.lst (ts.map V.str))→ts.Nodup→ts.length≤200→(∀r,r∈ts ↔ Lag B r)→Q (.ref p) H'
theorem Lag.len {B:List (Str×Str)} (g:GoodN B) {r:Str} (h:Lag B r):r.length≤12∧1≤r.length:=by
 obtain ⟨q,hq,a,a1,a2,e⟩:=h
 have h1:=(g.cd q hq).le
 have e1:q.2.length=(sg q.2).length:=str_len _
 have e2:r.length=(sg r).length:=str_len _
 rw [e,List.length_drop] at e2
 (first|lia|omega)
section
variable {P:Program} {w:World} {K:PySem.W.Frag} {mg:Str→Option Value} {base:Heap} {f:Addr} {fd:FuncData}
theorem sc_lags_of:FnScope ["book"] ["book"] (defScope (top i_lags_of)):=⟨rfl,rfl,rfl,by decide +kernel,rfl,by decide +kernel,by decide +kernel⟩
theorem ok_lg (F:Fun K "lags_of" "lags_of" (top i_lags_of) f fd) (T:Nm mg) (n_sorted:mg "sorted" = none) (f_code_ends:Fn P w K mg base 1 "code_ends" ["book"] (spCe K)) (f_length_first:Fn P w K mg base 1 "length_first" ["text"] spLf):FnOk P w K mg base CX0 4 f fd ["book"] (spLg K):=by
 refine Elim.el (f_length_first.ex) _ ?_
 rintro ky_length_first fdk FK_length_first BK_length_first _ GK_length_first
 refine F.ok sc_lags_of (fun vs H Q E h => ?_) (fun cdv A outer s H vs Q E hr h => ?_)
 ·obtain ⟨l,B,rfl,_⟩:=h
  rfl
 obtain ⟨l,B,rfl,hB,gB,q⟩:=h
 refine ⟨_,(pss_one (ps_ret (pe_callBK (sortedKT K (key_fn FK_length_first (hr.mono (by decide)) BK_length_first)) rfl n_sorted (by rfl) (pa_cons (pe_fn (f_code_ends.mono (by first|decide|exact Nat.le_refl _|(first|lia|omega))) hr rfl (pa_cons (pv 0) pa_nil)) pa_nil) (pk_cons (pe_glob (v := .ref ky_length_first) rfl GK_length_first rfl) pk_nil)))),?_⟩
 refine ⟨_,rfl,l,B,rfl,hB,gB,fun ts p H1 s1 hp0 hp1 nd tl mem => ?_⟩
 refine ⟨p,ts,rfl,rfl,SqL.of hp1,fun t ht Hj => ?_,fun us p2 H2 perm _ s2 hp2 h2 => ?_⟩
 ·have:=((mem t).mp ht).len gB
  exact ⟨t,rfl,by first|lia|omega,fun z H' n=>⟨z,rfl,n⟩⟩
 ·refine q us p2 H2 (s1.trans s2) ?_ h2 (perm.nodup_iff.mpr nd) (by rw [perm.length_eq];exact tl) fun r=>(perm.mem_iff).trans (mem r)
  cases e:H p2 with
  | none=>rfl
  | some o=>rw [s1 _ _ e] at hp2;cases hp2
theorem sc_lags_behind:FnScope ["book", "lag", "rests"] ["book", "lag"] (defScope (top i_lags_behind)):=⟨rfl,rfl,rfl,by decide +kernel,rfl,by decide +kernel,by decide +kernel⟩
theorem ok_lb (F:Fun K "lags_behind" "lags_behind" (top i_lags_behind) f fd) (T:Nm mg) (f_rest_of:Fn P w K mg base 1 "rest_of" ["one", "other"] spRest):FnOk P w K mg base CX0 2 f fd ["book", "lag"] (spLb K):=by
 refine F.ok sc_lags_behind (fun vs H Q E h => ?_) (fun cdv A outer s H vs Q E hr h => ?_)
 ·obtain ⟨l,x,B,rfl,_⟩:=h
  rfl
 unfold spLb at h
 refine Elim.el h _ ?_
 clear h
 rintro l x B rfl hB gB hx q
 have hu6:=hr.units
 have hle:=gB.le
 refine ⟨_,(pss_cons (ps_setcomp (i:=2) sc_lags_behind.nd rfl (Or.inl rfl) rfl (comp_ok (Nc:=["name", "code"]) (Fc:=["lag"]) (js:=[1])) (piK K (pv 0)) (gk_tup (gks_cons (gk_name (i:=0) (n:=2) (by decide)) (gks_cons (gk_name (i:=1) (n:=2) (by decide)) gks_nil gm_name gms_nil) gm_name (gms_cons gm_name gms_nil))) (fun _ _ _ _ _=>(tupK K 2 rfl (pgs_cons (pg_name (i:=0) (show (["name", "code", "lag"]:List Str).Nodup by decide +kernel) rfl (Or.inl rfl)) (pgs_cons (pg_name (i:=1) (show (["name", "code", "lag"]:List Str).Nodup by decide +kernel) rfl (Or.inl rfl)) pgs_nil)))) (fun _ _ _ _ _=>pts_nil) (fun _ _ _ _ _=>(tupN (pa_cons (pv 0) (pa_cons (pv 1) (pa_cons (pe_fn (f_rest_of.mono (by first|decide|exact Nat.le_refl _|(first|lia|omega))) hr rfl (pa_cons (pv 2) (pa_cons (pv 1) pa_nil))) pa_nil))))))
  (pss_one (ps_ret (pe_lcomp rfl (comp_ok (Nc:=["name", "code", "rest"]) (Fc:=[]) (js:=[])) (piK K (pv 2)) (gk_tup (gks_cons (gk_name (i:=0) (n:=3) (by decide)) (gks_cons (gk_name (i:=1) (n:=3) (by decide)) (gks_cons (gk_name (i:=2) (n:=3) (by decide)) gks_nil gm_name gms_nil) gm_name (gms_cons gm_name gms_nil)) gm_name (gms_cons gm_name (gms_cons gm_name gms_nil)))) (fun _ _ _ _ _=>(tupK K 3 rfl (pgs_cons (pg_name (i:=0) (show (["name", "code", "rest"]:List Str).Nodup by decide +kernel) rfl (Or.inl rfl)) (pgs_cons (pg_name (i:=1) (show (["name", "code", "rest"]:List Str).Nodup by decide +kernel) rfl (Or.inl rfl)) (pgs_cons (pg_name (i:=2) (show (["name", "code", "rest"]:List Str).Nodup by decide +kernel) rfl (Or.inl rfl)) pgs_nil))))) (fun _ _ _ _ _=>(pts_one (PW.pt (pw_and (pt_cmpR g_isnot (pv 2) pe_non (nomark _)) (pw_and1 (pt_cmpR (neK K hu6) (pv 2) pe_str (nomark _))))))) (fun _ _ _ _ _=>(tupN (pa_cons (pv 0) (pa_cons (pv 1) (pa_cons (pv 2) pa_nil))))))))),?_⟩
 obtain ⟨vs,hv,hd⟩:=id hB
 have hlen:=bk_len hd
 have small:∀{n:Nat},n≤1000→n<sizeLine:=fun h=>Nat.lt_of_le_of_lt h (by decide)
 refine asgCut (te:=tComp _ _ _ _ _ _) (fun v H'=>Ex2 fun (p:Addr) (bs:List Addr)=>v = .ref p∧Same H H'∧H p=none∧H' p=some (.lst (bs.map V.ref))∧bs.length=B.length∧∀(i:Nat) (a:Addr) (hi:i<B.length),bs[i]? = some a→H' a=some (.tup [.str B[i].1, .str B[i].2,restV x B[i].2])) (fun Qn qn => ?_) ?_
 ·refine ⟨_,rfl,l,rfl,⟨_,hv⟩,?_⟩
  refine comp_goN (N:=B.length) (fun i ys H'=>∃bs:List Addr,Same H H'∧ys=bs.map V.ref∧bs.length=i∧∀(j:Nat) (a:Addr) (hj:j<B.length),bs[j]? = some a→H' a=some (.tup [.str B[j].1, .str B[j].2,restV x B[j].2])) ⟨[],Same.refl _,rfl,rfl,fun j a hj h=>nomatch h⟩ ?_ ?_
  ·intro i ys H1 Ny hi hz_ ny
   refine Elim.el hz_ _ ?_
   clear hz_
   rintro bs s1 rfl bl hb
   refine Elim.el (bk_at hd hi) _ ?_
   rintro tp e1 e2
   refine ⟨⟨_,_,s1.seq hv,e1⟩,small (by rw [List.length_map]; (first|lia|omega)),?_⟩
   rintro y H2 ⟨rfl,hy⟩
   have e:=hy _ (s1.seq hv)
   rw [e1] at e;cases e
   have hc:=(gB.cd _ (List.getElem_mem hi)).le
   refine ⟨tp,_,rfl,s1.seqT e2,rfl,_,_,rfl,_,_,rfl,rfl,?_⟩
   refine ⟨_,rfl,_,rfl,_,rfl,_,rfl,x,B[i].2,rfl,by first|lia|omega,by first|lia|omega,by show 3≤sizeLine;decide,fun a H3 n3=>ny _ _ ⟨bs++[a],s1.trans n3.same,by rw [List.map_append];rfl,by rw [List.length_append,bl];rfl,fun j a' hj h => ?_⟩⟩
   by_cases hji:j<i
   ·rw [List.getElem?_append_left (by first|lia|omega)] at h
    exact n3.same _ _ (hb j a' hj h)
   ·rw [List.getElem?_append_right (by first|lia|omega),bl] at h
    have e0:j-i=0:=by
     cases hz:j-i with
     | zero=>rfl
     | succ k=>rw [hz] at h;cases h
    have ej:j=i:=by (first|lia|omega)
    subst ej
    rw [e0] at h
    cases h
    exact n3.at
  ·intro ys H1 hz_
   refine Elim.el hz_ _ ?_
   clear hz_
   rintro bs s1 rfl bl hb
   refine ⟨⟨_,s1.seq hv,by first|lia|omega⟩,fun p H2 n2=>qn _ _ ⟨p,bs,rfl,s1.trans n2.same,?_,n2.at,bl,fun j a hj h=>n2.same _ _ (hb j a hj h)⟩⟩
   cases e:H p with
   | none=>rfl
   | some o=>have:=n2.nn;rw [s1 _ _ e] at this;cases this
 intro v H1 hz_
 refine Elim.el hz_ _ ?_
 clear hz_
 rintro p1 bs rfl s1 hp10 hp1 bl hb
 refine gn ?_
 have at1:∀{i:Nat} (hi:i<B.length),∃a,bs[i]? = some a∧(bs.map V.ref)[i]? = some (.ref a):=fun {i} hi=>⟨bs[i]'(by first|lia|omega),List.getElem?_eq_getElem (by first|lia|omega),by rw [List.getElem?_map,List.getElem?_eq_getElem (by first|lia|omega)];rfl⟩
 refine ⟨_,rfl,p1,rfl,⟨_,SqL.of hp1⟩,?_⟩
 refine comp_go (N:=B.length) (fun i ys H'=>∃as:List Stp,Same H1 H'∧ys=as.map (fun z=>V.ref z.1)∧as.length≤i∧(∀z∈as,StpAt H' z∧z.2.1∈B∧Bh z.2.1 x z.2.2)∧∀q∈B.take i,∀r,Bh q x r→∃z∈as,z.2.1=q∧z.2.2=r) ⟨[],Same.refl _,rfl,Nat.le_refl _,(fun z h=>nomatch h),fun q h=>nomatch h⟩ ?_ ?_
 ·intro i ys H2 Ny hi hz_ ny
  refine Elim.el hz_ _ ?_
  clear hz_
  rintro as s2 rfl al ha hcv
  refine Elim.el (at1 hi) _ ?_
  rintro a ea ea'
  refine ⟨⟨_,_,SqL.of (s2 _ _ hp1),ea'⟩,small (by rw [List.length_map]; (first|lia|omega)),?_⟩
  rintro y H3 ⟨rfl,hy⟩
  have e:=hy _ (SqL.of (s2 _ _ hp1))
  rw [ea'] at e;cases e
  have hta:=s2 _ _ (hb i a hi ea)
  have hm:=List.getElem_mem hi
  have htk:=take_next hi
  generalize B[i]=z at hta hm htk
  refine ⟨a,_,rfl,SqT.of hta,rfl,_,_,rfl,_,_,rfl,_,_,rfl,rfl,?_⟩
  rcases restV_or x z.2 with e|⟨r,e⟩
  ·rw [e]
   refine ⟨_,rfl, .inl ⟨rfl,_,rfl,iteF (ny _ _ ⟨as,s2,rfl,by first|lia|omega,ha,fun q hq r' hB' => ?_⟩)⟩⟩
   rw [htk] at hq
   rcases List.mem_append.mp hq with hq|hq
   ·exact hcv q hq r' hB'
   ·rw [List.mem_singleton.mp hq] at hB'
    have:=hB'.1
    rw [e] at this;cases this
  ·rw [e]
   refine ⟨_,rfl, .inl ⟨rfl,_,rfl,iteT ?_⟩⟩
   have ed:(!decide (V.str r=V.str (Str.ofString ""))) = !decide (r = ""):=congrArg (! ·) (decide_eq_decide.mpr ⟨fun h=>(by injection h),fun h=>by rw [h]⟩)
   refine ⟨_,rfl, .inl ⟨rfl,_,rfl,?_⟩⟩
   rw [ed]
   by_cases er:r = ""
   ·rw [decide_eq_true er]
    refine iteF (ny _ _ ⟨as,s2,rfl,by first|lia|omega,ha,fun q hq r' hB' => ?_⟩)
    rw [htk] at hq
    rcases List.mem_append.mp hq with hq|hq
    ·exact hcv q hq r' hB'
    ·rw [List.mem_singleton.mp hq] at hB'
     have h1:=hB'.1
     rw [e] at h1
     injection h1 with h1
     exact absurd (h1 ▸ er) hB'.2
   ·rw [decide_eq_false er]
    refine iteT ⟨_,rfl,_,rfl,_,rfl,by show 3≤sizeLine;decide,fun a2 H4 n4=>ny _ _ ⟨as++[(a2,z,r)],s2.trans n4.same,by rw [List.map_append];rfl,by rw [List.length_append];exact Nat.succ_le_succ al,fun y hy => ?_,fun q hq r' hB' => ?_⟩⟩
    ·rcases List.mem_append.mp hy with hy|hy
     ·obtain ⟨h1,h2⟩:=ha y hy
      exact ⟨n4.same _ _ h1,h2⟩
     ·rw [List.mem_singleton.mp hy]
      exact ⟨n4.at,hm,e,er⟩
    ·rw [htk] at hq
     rcases List.mem_append.mp hq with hq|hq
     ·refine Elim.el (hcv q hq r' hB') _ ?_
      rintro y hy eq ey
      exact ⟨y,List.mem_append_left _ hy,eq,ey⟩
     ·rw [List.mem_singleton.mp hq] at hB'
      have h1:=hB'.1
      rw [e] at h1
      injection h1 with h1
      exact ⟨(a2,z,r),List.mem_append_right _ (List.mem_singleton.mpr rfl),(List.mem_singleton.mp hq).symm,h1⟩
 ·intro ys H2 hz_
  refine Elim.el hz_ _ ?_
  clear hz_
  rintro as s2 rfl al ha hcv
  rw [List.take_length] at hcv
  refine ⟨⟨_,SqL.of (s2 _ _ hp1),by rw [List.length_map]; (first|lia|omega)⟩,fun p3 hp3 => ?_⟩
  have n3:New H2 p3 (.lst (as.map fun z=>V.ref z.1)) (upd H2 p3 (.lst (as.map fun z=>V.ref z.1))):=⟨hp3,rfl⟩
  refine q as p3 _ ((s1.trans s2).trans n3.same) ?_ n3.at (by first|lia|omega) (fun z hz=>⟨n3.same _ _ (ha z hz).1,(ha z hz).2⟩) hcv
  cases e:H p3 with
  | none=>rfl
  | some o=>rw [s2 _ _ (s1 _ _ e)] at hp3;cases hp3
end
end Z
namespace Z
open PySem L2 PyProof.Rows
theorem tru_merge:∀(fs E:List Str),E.Nodup→∃N:List Str,mergeK (E.map tru) (fs.map tru)=(E++N).map tru∧(E++N).Nodup∧(∀x∈N,x∈fs)∧∀x,x∈E++N ↔ x∈E∨x∈fs
 | [],E,nd=>⟨[],by rw [List.append_nil];rfl,by rw [List.append_nil];exact nd,(fun x h=>nomatch h),fun x=>by rw [List.append_nil];exact ⟨.inl,fun h=>h.elim id fun h=>nomatch h⟩⟩
 | f :: fs,E,nd=>by
  obtain ⟨N,h1,h2,h3,h4⟩:=tru_merge fs (if f∈E then E else E++[f]) (nd_more nd)
  have e:∃M,(if f∈E then E else E++[f])++N=E++M∧∀x∈M,x∈f :: fs:=by
   by_cases hf:f∈E
   ·rw [if_pos hf];exact ⟨N,rfl,fun x hx=>List.mem_cons_of_mem _ (h3 x hx)⟩
   ·rw [if_neg hf,List.append_assoc]
    refine ⟨[f]++N,rfl,fun x hx => ?_⟩
    rcases List.mem_append.mp hx with hx|hx
    ·rw [List.mem_singleton.mp hx];exact List.mem_cons_self
    ·exact List.mem_cons_of_mem _ (h3 x hx)
  obtain ⟨M,e,hM⟩:=e
  rw [e] at h1 h2 h4
  refine ⟨M,?_,h2,hM,fun x=>(h4 x).trans ?_⟩
  ·rw [←h1]
   show mergeK (putK (E.map tru) (.inr f) (.bl true)) (fs.map tru)=_
   rw [tru_put]
  ·rw [mem_more,List.mem_cons]
   exact ⟨fun h=>h.elim (fun h=>h.elim .inl fun h => .inr (.inl h)) fun h => .inr (.inr h),fun h=>h.elim (fun h => .inl (.inl h)) fun h=>h.elim (fun h => .inl (.inr h)) .inr⟩
noncomputable def OrdE (B:List (Str×Str)) (E:List Str):Prop:=∀E1 r E2,E=E1++r :: E2→∀q∈B,∀r',Bh q r r'→r'∈E1
theorem OrdE.more {B:List (Str×Str)} {E N:List Str} (h:OrdE B E) (hN:∀r∈N,∀q∈B,∀r',Bh q r r'→r'∈E):OrdE B (E++N):=by
 intro E1 r E2 e q hq r' hb
 rcases List.append_eq_append_iff.mp e with ⟨as,h1,h2⟩|⟨cs,h1,h2⟩
 ·rw [h1]
  exact List.mem_append_left _ (hN r (by rw [h2];exact List.mem_append_right _ List.mem_cons_self) q hq r' hb)
 ·cases cs with
  | nil=>
   rw [List.append_nil] at h1
   rw [←h1]
   exact hN r (by rw [←List.nil_append N, ←h2];exact List.mem_cons_self) q hq r' hb
  | cons c cs=>
   obtain ⟨rfl,_⟩:=List.cons.inj h2
   exact h E1 r cs h1 q hq r' hb
theorem tru_keys (E:List Str):(E.map tru).map (·.1)=E.map Sum.inr:=by rw [List.map_map];rfl
theorem tru_in {E:List Str} {r:Str} : (valV (E.map tru) (.inr r)).isSome=true ↔ r∈E:=by
 cases hv:valV (E.map tru) (.inr r) with
 | none=>
  refine ⟨(fun h=>nomatch h),fun h=>absurd ?_ (valV_not hv)⟩
  rw [tru_keys];exact List.mem_map_of_mem h
 | some v=>
  refine ⟨fun _ => ?_,fun _=>rfl⟩
  have:=valV_in hv
  rw [tru_keys] at this
  refine Elim.el (List.mem_map.mp this) _ ?_
  rintro x hx e
  rw [←Sum.inr.inj e];exact hx
noncomputable def spEl (K:PySem.W.Frag):Sp:=fun vs H Q _=>Ex2 fun (l:Addr) (B:List (Str×Str))=>vs=[.ref l]∧BkL K H B l∧GoodN B ∧
 ∀(d:Addr) (E:List Str) (H':Hp),Same H H'→H d=none→H' d=some (.dK (E.map tru))→E.Nodup→OrdE B E→(∀r∈E,Lag B r)→(∀r,Lag B r→r ∉ E→∃q∈B,∃r',Bh q r r'∧r' ∉ E)→Q (.ref d) H'
noncomputable def Lts (B:List (Str×Str)) (H:Hp) (zs:List (Str×Addr)):Prop:=∀z∈zs,∃ls:List Str,H z.2=some (.lst (ls.map V.str))∧ls.length≤16∧∀r,r∈ls ↔ ∃q∈B,Bh q z.1 r
theorem Lts.same {B:List (Str×Str)} {H H':Hp} {zs:List (Str×Addr)} (h:Lts B H zs) (s:Same H H'):Lts B H' zs:=fun z hz=>by
 obtain ⟨ls,h1,h2⟩:=h z hz
 exact ⟨ls,s _ _ h1,h2⟩
theorem Lts.off {B:List (Str×Str)} {H H':Hp} {zs:List (Str×Addr)} {d:Addr} {kvs:List (Key×V)} (h:Lts B H zs) (hd:H d=some (.dK kvs)) (s:Chg H d (.dK kvs) H'∨∃k2,Chg H d (.dK k2) H'):Lts B H' zs:=fun z hz=>by
 obtain ⟨ls,h1,h2⟩:=h z hz
 refine ⟨ls,?_,h2⟩
 have ne:z.2≠d:=fun e=>by rw [e,hd] at h1;cases h1
 rcases s with s|⟨k2,s⟩
 ·rw [s.ne ne];exact h1
 ·rw [s.ne ne];exact h1
noncomputable def ltr (z:Str×Addr):Key×V:=(.inr z.1, .ref z.2)
section
variable {P:Program} {w:World} {K:PySem.W.Frag} {mg:Str→Option Value} {base:Heap} {f:Addr} {fd:FuncData}
theorem sc_ending_lags:FnScope ["book", "left", "laters", "ending", "found"] ["book"] (defScope (top i_ending_lags)):=⟨rfl,rfl,rfl,by decide +kernel,rfl,by decide +kernel,by decide +kernel⟩
theorem ok_el (F:Fun K "ending_lags" "ending_lags" (top i_ending_lags) f fd) (T:Nm mg) (f_lags_of:Fn P w K mg base 4 "lags_of" ["book"] (spLg K)) (f_lags_behind:Fn P w K mg base 2 "lags_behind" ["book", "lag"] (spLb K)):FnOk P w K mg base CX0 5 f fd ["book"] (spEl K):=by
 refine F.ok sc_ending_lags (fun vs H Q E h => ?_) (fun cdv A outer s H vs Q E hr h => ?_)
 ·obtain ⟨l,B,rfl,_⟩:=h
  rfl
 obtain ⟨l,B,rfl,hB,gB,q⟩:=h
 have hu:=hu_of hr
 have hle:=gB.le
 have small:∀{n:Nat},n≤1000→n<sizeLine:=fun h=>Nat.lt_of_le_of_lt h (by decide)
 refine ⟨_,(pss_cons (ps_set (i:=1) sc_ending_lags.nd rfl (Or.inl rfl) (pe_fn (f_lags_of.mono (by first|decide|exact Nat.le_refl _|(first|lia|omega))) hr rfl (pa_cons (pv 0) pa_nil)))
  (pss_cons (ps_set (i:=2) sc_ending_lags.nd rfl (Or.inr rfl) (pe_dcomp rfl (comp_ok (Nc:=["lag"]) (Fc:=["book"]) (js:=[0])) (piK K (pv 1)) (gk_name (i:=0) (n:=1) (by decide)) (fun _ _ _ _ _=>(pg_name (i:=0) (show (["lag", "book"]:List Str).Nodup by decide +kernel) rfl (Or.inl rfl))) (fun _ _ _ _ _=>pts_nil) (fun _ _ _ _ _=>(pv 0)) (fun _ _ _ _ _=>(pe_lcomp rfl (comp_ok (Nc:=["name", "code", "later"]) (Fc:=[]) (js:=[])) (piK K (pe_fn (f_lags_behind.mono (by first|decide|exact Nat.le_refl _|(first|lia|omega))) hr rfl (pa_cons (pv 1) (pa_cons (pv 0) pa_nil)))) (gk_tup (gks_cons (gk_name (i:=0) (n:=3) (by decide)) (gks_cons (gk_name (i:=1) (n:=3) (by decide)) (gks_cons (gk_name (i:=2) (n:=3) (by decide)) gks_nil gm_name gms_nil) gm_name (gms_cons gm_name gms_nil)) gm_name (gms_cons gm_name (gms_cons gm_name gms_nil)))) (fun _ _ _ _ _=>(tupK K 3 rfl (pgs_cons (pg_name (i:=0) (show (["name", "code", "later"]:List Str).Nodup by decide +kernel) rfl (Or.inl rfl)) (pgs_cons (pg_name (i:=1) (show (["name", "code", "later"]:List Str).Nodup by decide +kernel) rfl (Or.inl rfl)) (pgs_cons (pg_name (i:=2) (show (["name", "code", "later"]:List Str).Nodup by decide +kernel) rfl (Or.inl rfl)) pgs_nil))))) (fun _ _ _ _ _=>pts_nil) (fun _ _ _ _ _=>(pv 2))))))
  (pss_cons (ps_set (i:=3) sc_ending_lags.nd rfl (Or.inr rfl) dnewN)
  (pss_cons (ps_set (i:=4) sc_ending_lags.nd rfl (Or.inl rfl) (pe_callTy (listN K) rfl T.n_list (by rfl) (pa_cons (pv 1) pa_nil)))
  (pss_cons (ps_while PassesOwn.never (pt_truth (pv 4) fun _=>rfl) (pss_cons (ps_setcomp (i:=4) sc_ending_lags.nd rfl (Or.inl rfl) rfl (comp_ok (Nc:=["lag"]) (Fc:=["ending", "laters"]) (js:=[3,2])) (piK K (pv 1)) (gk_name (i:=0) (n:=1) (by decide)) (fun _ _ _ _ _=>(pg_name (i:=0) (show (["lag", "ending", "laters"]:List Str).Nodup by decide +kernel) rfl (Or.inl rfl))) (fun _ _ _ _ _=>(pts_one (pt_val (pe_callB (allK K rfl) rfl T.n_all (by rfl) (pa_cons (pe_lcomp rfl (comp_ok (Nc:=["later"]) (Fc:=["ending"]) (js:=[1])) (piK K (pe_dget hu (pv 2) (pv 0) (fun _ _=>rfl))) (gk_name (i:=0) (n:=1) (by decide)) (fun _ _ _ _ _=>(pg_name (i:=0) (show (["later", "ending"]:List Str).Nodup by decide +kernel) rfl (Or.inl rfl))) (fun _ _ _ _ _=>pts_nil) (fun _ _ _ _ _=>(pe_cmp (pc_din hu (pv 0) (pv 1))))) pa_nil))))) (fun _ _ _ _ _=>(pv 0)))
  (pss_cons (ps_expr (bmK K PySem.F.plainAttrs_dict PySem.F.slot_dict_update PySem.F.type_dict_update updateD (pv 3) (pa_cons (pe_dcomp rfl (comp_ok (Nc:=["lag"]) (Fc:=[]) (js:=[])) (piK K (pv 4)) (gk_name (i:=0) (n:=1) (by decide)) (fun _ _ _ _ _=>(pg_name (i:=0) (show (["lag"]:List Str).Nodup by decide +kernel) rfl (Or.inl rfl))) (fun _ _ _ _ _=>pts_nil) (fun _ _ _ _ _=>(pv 0)) (fun _ _ _ _ _=>pe_bl)) pa_nil)))
  (pss_one (ps_setcomp (i:=1) sc_ending_lags.nd rfl (Or.inl rfl) rfl (comp_ok (Nc:=["lag"]) (Fc:=["ending"]) (js:=[3])) (piK K (pv 1)) (gk_name (i:=0) (n:=1) (by decide)) (fun _ _ _ _ _=>(pg_name (i:=0) (show (["lag", "ending"]:List Str).Nodup by decide +kernel) rfl (Or.inl rfl))) (fun _ _ _ _ _=>(pts_one (pt_cmp (pc_dnotin hu (pv 0) (pv 1))))) (fun _ _ _ _ _=>(pv 0)))))))
  (pss_one (ps_ret (pv 3)))))))),?_⟩
 refine ⟨_,rfl,l,B,rfl,hB,gB,fun ts p1 H1 s1 hp10 hp1 nd tl mem=>gn ?_⟩
 have at1:∀{xs:List Str} {i:Nat} (hi:i<xs.length),(xs.map V.str)[i]? = some (.str xs[i]):=fun hi=>by rw [List.getElem?_map,List.getElem?_eq_getElem hi];rfl
 dsimp only
 refine asgCut (te:=tDComp _ _ _ _ _ _ _) (fun v H'=>Ex2 fun (D:Addr) (zs:List (Str×Addr))=>v = .ref D∧Same H1 H'∧H1 D=none∧H' D=some (.dK (zs.map ltr))∧zs.map (·.1)=ts∧Lts B H' zs) (fun Qn qn => ?_) ?_
 ·refine ⟨_,rfl,p1,rfl,⟨_,SqL.of hp1⟩,fun D hD => ?_⟩
  refine ⟨fun i m H'=>∃zs:List (Str×Addr),m=ts.length-i∧i≤ts.length∧Same H1 H'∧H' D=some (.dK (zs.map ltr))∧zs.map (·.1)=ts.take i∧Lts B H' zs,⟨_,[],rfl,Nat.zero_le _,same_new hD _,upd_same,rfl,fun z hz=>nomatch hz⟩,?_⟩
  intro i m H2 hz_
  refine Elim.el hz_ _ ?_
  clear hz_
  rintro zs rfl hi s2 hD2 ez lt2
  by_cases hlt:i<ts.length
  ·refine .inr ⟨⟨_,_,SqL.of (s2 _ _ hp1),at1 hlt⟩,?_⟩
   rintro y H3 ⟨rfl,hy⟩
   have e:=hy _ (SqL.of (s2 _ _ hp1))
   rw [at1 hlt] at e;cases e
   refine gn ?_
   dsimp only [tYes]
   rw [if_pos rfl]
   have hlag:=((mem _).mp (List.getElem_mem hlt)).len gB
   have htk:=take_next hlt
   have hnew:ts[i] ∉ ts.take i:=fun h=>by
    refine Elim.el (List.mem_iff_getElem.mp h) _ ?_
    rintro j hj ej
    rw [List.length_take] at hj
    rw [List.getElem_take] at ej
    have:=(List.getElem_inj nd).mp ej
    (first|lia|omega)
   generalize ts[i]=x at hlag htk hnew
   refine ⟨_,rfl,_,rfl,_,rfl,l,x,B,rfl,hB.same (s1.trans s2),gB,by first|lia|omega,fun as p4 H4 s4 hp40 hp4 al ha hcv => ?_⟩
   have ata:∀{j:Nat} (hj:j<as.length),(as.map fun z=>V.ref z.1)[j]? = some (.ref as[j].1):=fun hj=>by rw [List.getElem?_map,List.getElem?_eq_getElem hj];rfl
   refine ⟨p4,rfl,⟨_,SqL.of hp4⟩,?_⟩
   refine comp_go (N:=as.length) (fun j ys H'=>H'=H4∧ys=((as.take j).map (·.2.2)).map V.str) ⟨rfl,rfl⟩ ?_ ?_
   ·rintro j ys H5 Ny hj ⟨rfl,rfl⟩ ny
    refine ⟨⟨_,_,SqL.of hp4,ata hj⟩,small (by rw [List.length_map,List.length_map,List.length_take]; (first|lia|omega)),?_⟩
    rintro y H6 ⟨rfl,hy⟩
    have e:=hy _ (SqL.of hp4)
    rw [ata hj] at e;cases e
    have hz:=(ha _ (List.getElem_mem hj)).1
    refine ⟨_,_,rfl,SqT.of hz,rfl,_,_,rfl,_,_,rfl,_,_,rfl,rfl,_,rfl,ny _ _ ⟨rfl,?_⟩⟩
    rw [take_next hj,List.map_append,List.map_append];rfl
   ·rintro ys H5 ⟨rfl,rfl⟩
    refine ⟨⟨_,SqL.of hp4,by rw [List.length_map];exact Nat.le_refl _⟩,fun p6 hp6 => ?_⟩
    rw [List.take_length]
    have n6:New H5 p6 (.lst ((as.map (·.2.2)).map V.str)) (upd H5 p6 (.lst ((as.map (·.2.2)).map V.str))):=⟨hp6,rfl⟩
    generalize upd H5 p6 (.lst ((as.map (·.2.2)).map V.str))=H6 at n6 ⊢
    have s46:=s4.trans n6.same
    have zl:zs.length=i:=by
     have:=congrArg List.length ez
     rw [List.length_map,List.length_take] at this
     (first|lia|omega)
    refine ⟨zs.map ltr, .inr x,s46 _ _ hD2,rfl,small (by rw [List.length_map]; (first|lia|omega)),ts.length-(i+1),by first|lia|omega,zs++[(x,p6)],rfl,hlt,fun b o e => ?_,?_,by rw [List.map_append,htk,ez];rfl,fun z hz => ?_⟩
    ·rw [upd_ne (ne_of_none e hD)];exact s46 _ _ (s2 b o e)
    ·rw [putK_new _ (val_none fun y hy e=>hnew ?_),List.map_append]
     ·exact upd_same
     ·rw [←ez]
      have e:(Sum.inr y.1:Key) = .inr x:=e
      rw [←Sum.inr.inj e]
      exact List.mem_map_of_mem hy
    ·have keep:∀{a:Addr} {o:List V},H6 a=some (.lst o)→upd H6 D (.dK (putK (zs.map ltr) (.inr x) (.ref p6))) a=some (.lst o):=fun {a o} e=>by
      rw [upd_ne (fun z=>by rw [z,s46 _ _ hD2] at e;cases e)];exact e
     rcases List.mem_append.mp hz with hz|hz
     ·obtain ⟨ls,h1,h2⟩:=lt2 z hz
      exact ⟨ls,keep (s46 _ _ h1),h2⟩
     ·rw [List.mem_singleton.mp hz]
      refine ⟨as.map (·.2.2),keep n6.at,by rw [List.length_map];exact al,fun r=>⟨fun h => ?_,fun ⟨q,hq,h⟩ => ?_⟩⟩
      ·refine Elim.el (List.mem_map.mp h) _ ?_
       rintro y hy rfl
       refine Elim.el (ha y hy) _ ?_
       rintro _ h1 h2
       exact ⟨_,h1,h2⟩
      ·refine Elim.el (hcv q hq r h) _ ?_
       rintro y hy _ e
       exact List.mem_map.mpr ⟨y,hy,e⟩
  ·have e:i=ts.length:=by (first|lia|omega)
   subst e
   rw [List.take_length] at ez
   exact .inl ⟨⟨_,SqL.of (s2 _ _ hp1),by rw [List.length_map];exact Nat.le_refl _⟩,qn _ _ ⟨D,zs,rfl,s2,hD,hD2,ez,lt2⟩⟩
 intro v H2 hz_
 refine Elim.el hz_ _ ?_
 clear hz_
 rintro D zs rfl s2 hD0 hD2 ez lt2
 refine gn ?_
 refine fun d H3 n3=>gn ?_
 have s23:=s2.trans n3.same
 have hd0:H d=none:=by
  cases e:H d with
  | none=>rfl
  | some o=>have:=n3.nn;rw [s2 _ _ (s1 _ _ e)] at this;cases this
 have dD:D≠d:=ne_of_none hD2 n3.nn
 refine ⟨_,rfl,p1,_,rfl, .inl (SqL.of (s23 _ _ hp1)),fun fp0 H4 n4=>gn ?_⟩
 have s14:=s23.trans n4.same
 rw [show (List.set _ _ _:L2.St)=[some (.ref l),some (.ref p1),some (.ref D),some (.ref d),some (.ref fp0)] from rfl]
 have zkey:∀{r:Str},r∈ts→∃a,valV (zs.map ltr) (.inr r)=some (.ref a)∧(r,a)∈zs:=fun {r} hr=>by
  rw [←ez] at hr
  refine Elim.el (List.mem_map.mp hr) _ ?_
  rintro z hz rfl
  refine ⟨z.2,mem_valV ?_ (List.mem_map.mpr ⟨z,hz,rfl⟩),hz⟩
  have:(zs.map ltr).map (·.1)=(zs.map (·.1)).map Sum.inr:=by rw [List.map_map,List.map_map];rfl
  rw [this,ez]
  exact List.nodup_iff_pairwise_ne.mpr (List.pairwise_map.mpr ((List.nodup_iff_pairwise_ne.mp nd).imp fun h e=>h (Sum.inr.inj e)))
 dsimp only
 let J:Nat→L2.St→Hp→Prop:=fun m σ H'=>Ex5 fun (lp fp:Addr) (left fs E:List Str) => σ=[some (.ref l),some (.ref lp),some (.ref D),some (.ref d),some (.ref fp)]∧m=2*left.length+(if fs=[] then 0 else 1)∧Same H H'∧H' lp=some (.lst (left.map V.str))∧H' fp=some (.lst (fs.map V.str))∧fs.length≤200∧left.length≤200∧H' d=some (.dK (E.map tru))∧H' D=some (.dK (zs.map ltr))∧Lts B H' zs∧E.Nodup∧OrdE B E∧(∀r∈E,Lag B r)∧(∀r∈left,Lag B r∧r ∉ E)∧(∀r,Lag B r→r∈left∨r∈E)∧(fs=[]→∀r∈left,∃q∈B,∃r',Bh q r r'∧r' ∉ E)
 refine seqCut (t:=tWhile _ _) (fun σ H'=>Ex3 fun (lp fp:Addr) (E:List Str) => σ=[some (.ref l),some (.ref lp),some (.ref D),some (.ref d),some (.ref fp)]∧Same H H'∧H' d=some (.dK (E.map tru))∧E.Nodup∧OrdE B E∧(∀r∈E,Lag B r)∧∀r,Lag B r→r ∉ E→∃q∈B,∃r',Bh q r r'∧r' ∉ E) (fun Nx nx => ?_) ?_
 ·refine whileGo J ⟨_,p1,fp0,ts,ts,[],rfl,rfl,s1.trans s14,s14 _ _ hp1,n4.at,tl,tl,n4.same _ _ n3.at,n4.same _ _ (n3.same _ _ hD2),(lt2.same n3.same).same n4.same,List.nodup_nil,(fun E1 r E2 e=>by cases E1 <;> cases e),(fun r h=>nomatch h),fun r h=>⟨(mem r).mp h,(fun h=>nomatch h)⟩,fun r h => .inl ((mem r).mpr h),fun h r hr=>by rw [h] at hr;cases hr⟩ ?_
  intro m σ H5 hz_
  refine Elim.el hz_ _ ?_
  clear hz_
  rintro lp fp left fs E rfl rfl s5 hlp hfp fl ll hd5 hD5 lt5 nd5 ord e1 e2 e3 e4
  have dD':D≠d:=dD
  refine ⟨_,rfl, !(fs.map V.str).isEmpty, .inl ⟨_,SqL.of hfp,rfl⟩,?_⟩
  by_cases hfs:fs=[]
  ·rw [hfs]
   exact iteF (nx _ _ ⟨lp,fp,E,rfl,s5,hd5,nd5,ord,e1,fun r hr hn=>e4 hfs r ((e3 r hr).resolve_right hn)⟩)
  ·have eT:(!(fs.map V.str).isEmpty)=true:=by cases fs with|nil=>exact absurd rfl hfs|cons _ _=>rfl
   rw [eT,if_neg hfs]
   refine iteT ⟨fun σ' H'=>∃m',m'<2*left.length+1∧J m' σ' H',fun _ _ h=>h,?_⟩
   have inE:∀{H':Hp} {r:Str},H' d=some (.dK (E.map tru))→DGet H' d (.str r) (valV (E.map tru) (.inr r)):=fun h => .inl ⟨_, .inr _, .inl h,rfl,rfl⟩
   refine asgCut (te:=tComp _ _ _ _ _ _) (fun v H'=>Ex2 fun (fp':Addr) (fs':List Str)=>v = .ref fp'∧Same H5 H'∧H5 fp'=none∧H' fp'=some (.lst (fs'.map V.str))∧fs'.length≤left.length∧∀r,r∈fs' ↔ r∈left∧∀q∈B,∀r',Bh q r r'→r'∈E) (fun Qn qn => ?_) ?_
   ·refine ⟨_,rfl,lp,rfl,⟨_,SqL.of hlp⟩,?_⟩
    refine comp_goN (N:=left.length) (fun i ys H'=>∃us:List Str,Same H5 H'∧ys=us.map V.str∧us.length≤i∧∀r,r∈us ↔ r∈left.take i∧∀q∈B,∀r',Bh q r r'→r'∈E) ⟨[],Same.refl _,rfl,Nat.le_refl _,fun r=>⟨(fun h=>nomatch h),fun h=>nomatch h.1⟩⟩ ?_ ?_
    ·intro i ys H6 Ny hi hz_ ny
     refine Elim.el hz_ _ ?_
     clear hz_
     rintro us s6 rfl ul um
     refine ⟨⟨_,_,SqL.of (s6 _ _ hlp),at1 hi⟩,small (by rw [List.length_map]; (first|lia|omega)),?_⟩
     rintro y H7 ⟨rfl,hy⟩
     have e:=hy _ (SqL.of (s6 _ _ hlp))
     rw [at1 hi] at e;cases e
     have hlag:=(e2 _ (List.getElem_mem hi)).1
     have htk:=take_next hi
     generalize left[i]=x at hlag htk
     refine Elim.el (zkey ((mem x).mpr hlag)) _ ?_
     rintro a va hza
     refine Elim.el ((lt5.same s6) _ hza) _ ?_
     rintro ls h1 h2 h3
     refine gn ⟨_,rfl,_,rfl,D, .ref a,rfl, .inl ⟨_, .inr x, .inl (s6 _ _ hD5),rfl,va.symm⟩,a,rfl,⟨_,SqL.of h1⟩,?_⟩
     refine comp_go (N:=ls.length) (fun j ys H'=>H'=H7∧ys=((ls.take j).map fun r=>(valV (E.map tru) (.inr r)).isSome).map V.bl) ⟨rfl,rfl⟩ ?_ ?_
     ·rintro j ys H8 Nz hj ⟨rfl,rfl⟩ nz
      refine ⟨⟨_,_,SqL.of h1,at1 hj⟩,small (by rw [List.length_map,List.length_map,List.length_take]; (first|lia|omega)),?_⟩
      rintro y H9 ⟨rfl,hy⟩
      have e:=hy _ (SqL.of h1)
      rw [at1 hj] at e;cases e
      refine gn ⟨_,rfl,_,rfl,d,valV (E.map tru) (.inr ls[j]),rfl,inE (s6 _ _ hd5),nz _ _ ⟨rfl,?_⟩⟩
      rw [take_next hj,List.map_append,List.map_append];rfl
     ·rintro ys H8 ⟨rfl,rfl⟩
      refine ⟨⟨_,SqL.of h1,by rw [List.length_map];exact Nat.le_refl _⟩,fun p9 hp9 => ?_⟩
      rw [List.take_length]
      have n9:New H8 p9 (.lst ((ls.map fun r=>(valV (E.map tru) (.inr r)).isSome).map V.bl)) (upd H8 p9 (.lst ((ls.map fun r=>(valV (E.map tru) (.inr r)).isSome).map V.bl))):=⟨hp9,rfl⟩
      generalize upd H8 p9 (.lst ((ls.map fun r=>(valV (E.map tru) (.inr r)).isSome).map V.bl))=H9 at n9 ⊢
      refine ⟨p9,_,rfl,SqL.of n9.at,_,rfl,?_⟩
      have alliff:(ls.map fun r=>(valV (E.map tru) (.inr r)).isSome).all id=true ↔ ∀q∈B,∀r',Bh q x r'→r'∈E:=by
       rw [List.all_map,List.all_eq_true]
       exact ⟨fun h q hq r' hb=>tru_in.mp (h r' ((h3 r').mpr ⟨q,hq,hb⟩)),fun h r' hr'=>by
        refine Elim.el ((h3 r').mp hr') _ ?_
        rintro q hq hb
        exact tru_in.mpr (h q hq r' hb)⟩
      have umx:∀{r:Str},(r∈left.take (i+1)∧∀q∈B,∀r',Bh q r r'→r'∈E) ↔ (r∈us∨(r=x∧∀q∈B,∀r',Bh q r r'→r'∈E)):=fun {r}=>by
       rw [htk,List.mem_append,List.mem_singleton,um]
       exact ⟨fun ⟨h,g⟩=>h.elim (fun h => .inl ⟨h,g⟩) fun h => .inr ⟨h,g⟩,fun h=>h.elim (fun h=>⟨.inl h.1,h.2⟩) fun h=>⟨.inr h.1,h.2⟩⟩
      refine ite2 (fun c=>⟨_,rfl,ny _ _ ⟨us++[x],s6.trans n9.same,by rw [List.map_append];rfl,by rw [List.length_append];exact Nat.succ_le_succ ul,fun r => ?_⟩⟩) (fun c=>ny _ _ ⟨us,s6.trans n9.same,rfl,by first|lia|omega,fun r => ?_⟩)
      ·rw [umx,List.mem_append,List.mem_singleton]
       exact or_congr Iff.rfl ⟨fun h=>⟨h,h ▸ alliff.mp c⟩,fun h=>h.1⟩
      ·rw [umx]
       exact ⟨.inl,fun h=>h.elim id fun h=>absurd (alliff.mpr (h.1 ▸ h.2)) c⟩
    ·intro ys H6 hz_
     refine Elim.el hz_ _ ?_
     clear hz_
     rintro us s6 rfl ul um
     rw [List.take_length] at um
     refine ⟨⟨_,SqL.of (s6 _ _ hlp),by rw [List.length_map];exact Nat.le_refl _⟩,fun p7 H7 n7=>qn _ _ ⟨p7,us,rfl,s6.trans n7.same,?_,n7.at,ul,um⟩⟩
     cases e:H5 p7 with
     | none=>rfl
     | some o=>have:=n7.nn;rw [s6 _ _ e] at this;cases this
   intro v H6 hz_
   refine Elim.el hz_ _ ?_
   clear hz_
   rintro fp' fs' rfl s6 hfp0 hfp' fl' fm'
   refine gn ?_
   have hd6:=s6 _ _ hd5
   have fd':fp'≠d:=fun z=>by rw [z,hd6] at hfp';cases hfp'
   refine ⟨_,rfl, .inr (.inr (.inl ⟨rfl, .inl ⟨_,hd6⟩⟩)),?_⟩
   refine ⟨_,rfl,fp',rfl,⟨_,SqL.of hfp'⟩,fun D2 hD2' => ?_⟩
   have d2d:d≠D2:=fun z=>by rw [z,hD2'] at hd6;cases hd6
   have hd60:H5 D2=none:=by
    cases e:H5 D2 with
    | none=>rfl
    | some o=>rw [s6 _ _ e] at hD2';cases hD2'
   refine ⟨fun i m H'=>∃us:List Str,m=fs'.length-i∧i≤fs'.length∧Same H6 H'∧H' D2=some (.dK (us.map tru))∧us.length≤i∧∀r,r∈us ↔ r∈fs'.take i,⟨_,[],rfl,Nat.zero_le _,same_new hD2' _,upd_same,Nat.le_refl _,fun r=>⟨(fun h=>nomatch h),fun h=>nomatch h⟩⟩,?_⟩
   intro i m H7 hz_
   refine Elim.el hz_ _ ?_
   clear hz_
   rintro us rfl hi s7 hD7 ul um
   by_cases hlt:i<fs'.length
   ·refine .inr ⟨⟨_,_,SqL.of (s7 _ _ hfp'),at1 hlt⟩,?_⟩
    rintro y H8 ⟨rfl,hy⟩
    have e:=hy _ (SqL.of (s7 _ _ hfp'))
    rw [at1 hlt] at e;cases e
    refine gn ?_
    dsimp only [tYes]
    rw [if_pos rfl]
    have htk:=take_next hlt
    generalize fs'[i]=x at htk
    refine ⟨_,rfl,us.map tru, .inr x,hD7,rfl,small (by rw [List.length_map]; (first|lia|omega)),fs'.length-(i+1),by first|lia|omega,_,rfl,hlt,fun b o e => ?_,by rw [tru_put];exact upd_same,?_,fun r => ?_⟩
    ·rw [upd_ne (ne_of_none e hD2')];exact s7 b o e
    ·have:=len_more (ts:=us) (r:=x); (first|lia|omega)
    ·rw [mem_more,htk,List.mem_append,List.mem_singleton,um]
   have ei:i=fs'.length:=by (first|lia|omega)
   subst ei
   rw [List.take_length] at um
   refine .inl ⟨⟨_,SqL.of (s7 _ _ hfp'),by rw [List.length_map];exact Nat.le_refl _⟩,?_⟩
   have hd7:=s7 _ _ hd6
   have El:E.length≤200:=Nat.le_trans (len_of_nodup nd5 fun x hx=>(mem x).mpr (e1 x hx)) tl
   refine ⟨d,D2,_,_,rfl,rfl,d2d,hd7,hD7,by rw [List.length_map,List.length_map];exact sizeOk (by first|lia|omega),?_⟩
   refine Elim.el (tru_merge us E nd5) _ ?_
   rintro N h1 h2 hN h3
   have ord':OrdE B (E++N):=ord.more fun r hr=>((fm' r).mp (List.mem_of_mem_take (i:=fs'.length) (by rw [List.take_length];exact (um r).mp (hN r hr)))).2
   rw [h1]
   generalize E++N=E' at h1 h2 h3 ord'
   have c8:Chg H7 d (.dK (E'.map tru)) (upd H7 d (.dK (E'.map tru))):=⟨rfl⟩
   generalize upd H7 d (.dK (E'.map tru))=H8 at c8
   have hEm:∀x,x∈E' ↔ x∈E∨x∈fs':=fun x=>by rw [h3,um]
   have s57:=s6.trans s7
   have keep:∀{a:Addr} {o:HO},a≠d→H5 a=some o→H8 a=some o:=fun ne e=>by rw [c8.ne ne];exact s57 _ _ e
   have lpd:lp≠d:=fun z=>by rw [z,hd5] at hlp;cases hlp
   have hlp8:=keep lpd hlp
   have hD8:=keep dD' hD5
   have sm8:Same H H8:=fun b o e=>by rw [c8.ne (ne_of_none e hd0)];exact s57 _ _ (s5 b o e)
   have lt8:Lts B H8 zs:=(lt5.same s57).off hd7 (.inr ⟨_,c8⟩)
   have hfp8:H8 fp'=some (.lst (fs'.map V.str)):=by rw [c8.ne fd'];exact s7 _ _ hfp'
   dsimp only
   refine asgEnd (te:=tComp _ _ _ _ _ _) (fun v H'=>∃lp',v = .ref lp'∧New H8 lp' (.lst ((left.filter fun r => !(valV (E'.map tru) (.inr r)).isSome).map V.str)) H') (fun Qn qn => ?_) ?_
   ·refine ⟨_,rfl,lp,rfl,⟨_,SqL.of hlp8⟩,?_⟩
    refine comp_goN (N:=left.length) (fun i ys H'=>H'=H8∧ys=((left.take i).filter fun r => !(valV (E'.map tru) (.inr r)).isSome).map V.str) ⟨rfl,rfl⟩ ?_ ?_
    ·rintro i ys H9 Ny hi' ⟨rfl,rfl⟩ ny
     refine ⟨⟨_,_,SqL.of hlp8,at1 hi'⟩,?_,?_⟩
     ·rw [List.length_map]
      have h1:=List.length_filter_le (fun r => !(valV (E'.map tru) (.inr r)).isSome) (left.take i)
      rw [List.length_take] at h1
      exact small (by first|lia|omega)
     rintro y H10 ⟨rfl,hy⟩
     have e:=hy _ (SqL.of hlp8)
     rw [at1 hi'] at e;cases e
     have htk:=take_next hi'
     generalize left[i]=x at htk
     cases hv:valV (E'.map tru) (.inr x) with
     | none=>
      refine gn ⟨_,rfl,_,rfl,d,none,rfl, .inl ⟨_, .inr x, .inl c8.at,rfl,hv.symm⟩,_,rfl,iteT ⟨_,rfl,ny _ _ ⟨rfl,?_⟩⟩⟩
      rw [htk,List.filter_append,List.filter_cons,hv,if_pos (by rfl),List.map_append];rfl
     | some v=>
      refine gn ⟨_,rfl,_,rfl,d,some v,rfl, .inl ⟨_, .inr x, .inl c8.at,rfl,hv.symm⟩,_,rfl,iteF (ny _ _ ⟨rfl,?_⟩)⟩
      rw [htk,List.filter_append,List.filter_cons,hv,if_neg (fun z=>nomatch z),List.filter_nil,List.append_nil]
    ·rintro ys H9 ⟨rfl,rfl⟩
     refine ⟨⟨_,SqL.of hlp8,by rw [List.length_map];exact Nat.le_refl _⟩,fun p H' n=>qn _ _ ⟨p,rfl,?_⟩⟩
     rw [List.take_length] at n
     exact n
   intro v H9 hz_
   refine Elim.el hz_ _ ?_
   clear hz_
   rintro lp' rfl n9
   refine gn ?_
   have fmem:∀r,r∈left.filter (fun r => !(valV (E'.map tru) (.inr r)).isSome) ↔ r∈left∧r ∉ E':=fun r=>by
    rw [List.mem_filter]
    refine and_congr Iff.rfl ⟨fun h z => ?_,fun h => ?_⟩
    ·rw [tru_in.mpr z] at h;cases h
    ·cases hs:(valV (E'.map tru) (.inr r)).isSome with
     | false=>rfl
     | true=>exact absurd (tru_in.mp hs) h
   have fle:=List.length_filter_le (fun r => !(valV (E'.map tru) (.inr r)).isSome) left
   refine ⟨2*(left.filter fun r => !(valV (E'.map tru) (.inr r)).isSome).length+(if fs'=[] then 0 else 1),?_,lp',fp',_,fs',E',rfl,rfl,sm8.trans n9.same,n9.at,n9.same _ _ hfp8,by first|lia|omega,by first|lia|omega,n9.same _ _ c8.at,n9.same _ _ hD8,lt8.same n9.same,h2,ord',fun r hr => ?_,fun r hr => ?_,fun r hr => ?_,fun hE r hr => ?_⟩
   ·by_cases hf:fs'=[]
    ·rw [if_pos hf]; (first|lia|omega)
    ·rw [if_neg hf]
     obtain ⟨x,hx⟩:=List.exists_mem_of_ne_nil _ hf
     have:(left.filter fun r => !(valV (E'.map tru) (.inr r)).isSome).length<left.length:=by
      refine List.length_filter_lt_length_iff_exists.mpr ⟨x,((fm' x).mp hx).1,?_⟩
      rw [tru_in.mpr ((hEm x).mpr (.inr hx))];decide
     (first|lia|omega)
   ·rcases (hEm r).mp hr with h|h
    ·exact e1 r h
    ·exact (e2 r ((fm' r).mp h).1).1
   ·obtain ⟨a1,a2⟩:=(fmem r).mp hr
    exact ⟨(e2 r a1).1,a2⟩
   ·rcases e3 r hr with h|h
    ·by_cases z:r∈E'
     ·exact .inr z
     ·exact .inl ((fmem r).mpr ⟨h,z⟩)
    ·exact .inr ((hEm r).mpr (.inl h))
   ·obtain ⟨a1,a2⟩:=(fmem r).mp hr
    have hno:¬ ∀q∈B,∀r',Bh q r r'→r'∈E:=fun h=>by
     have:=(fm' r).mpr ⟨a1,h⟩
     rw [hE] at this;cases this
    refine Classical.byContradiction fun z=>hno fun q hq r' hb => ?_
    refine Classical.byContradiction fun hn=>z ⟨q,hq,r',hb,fun h => ?_⟩
    rcases (hEm r').mp h with h|h
    ·exact hn h
    ·rw [hE] at h;cases h
 intro σ H5 hz_
 refine Elim.el hz_ _ ?_
 clear hz_
 rintro lp fp E rfl s5 hd5 nd5 ord e1 e2
 exact ⟨_,rfl,q d E H5 s5 hd0 hd5 nd5 ord e1 e2⟩
end
end Z
namespace Z
open PySem L2
noncomputable def spSz9:Sp:=fun vs H Q _=>Ex3 fun (b c:Addr) (t:Int)=>vs=[.ref b]∧Bx H b c t∧0≤t∧t<900000 ∧
 ∀(m o:Int) (tp:Addr) (H':Hp) (t':Int),1≤m→m≤12→1≤o→o≤12→Step b c H H' t t' 3→H' tp=some (.tup [.int m, .int o])→Q (.ref tp) H'
noncomputable def spBk9 (K:PySem.W.Frag):Sp:=fun vs H Q _=>Ex3 fun (b c:Addr) (t:Int)=>vs=[.ref b]∧Bx H b c t∧0≤t∧t<800000 ∧
 ∀(bk:List (Str×Str)) (v:V) (H':Hp) (t':Int),GoodN bk→BookAt K (hid H' b c) bk v→Step b c H H' t t' 400→Q v H'
theorem mul_fold (a:Array Nat):∀(k:Nat) (acc:Array Nat),((List.replicate k a).foldl (· ++ ·) acc).toList=acc.toList++(List.replicate k a.toList).flatten
 | 0,acc=>by simp
 | k+1,acc=>by
  rw [List.replicate_succ,List.foldl_cons,mul_fold a k,List.replicate_succ]
  simp
theorem mul8 {x:Str} (hx:1≤x.length):sg (Txt.mul x 8)=(List.replicate 8 (sg x)).flatten:=by
 unfold Txt.mul
 rw [if_neg (by decide),if_neg (by intro h;rcases Bool.or_eq_true_iff.mp h with h|h;exact absurd h (by decide);have:=eq_of_beq h; (first|lia|omega))]
 show ((List.replicate 8 x.cps).foldl (· ++ ·) #[]).toList=_
 rw [mul_fold];simp
theorem mul8_len {x:Str} (hx:1≤x.length):(Txt.mul x 8).length=8*x.length:=by
 rw [str_len,str_len]
 show (sg (Txt.mul x 8)).length=8*(sg x).length
 rw [mul8 hx,List.length_flatten,List.map_replicate,List.sum_replicate_nat]
theorem cut8 {x:Str} (hx:CodeOk 12 x) {o:Int} (o0:1≤o) (o1:o≤12):CodeOk 12 (Txt.slice (Txt.mul x 8) none (some o)):=by
 have hl:=mul8_len hx.pos
 have hp:=hx.pos
 obtain ⟨o',o0',ol,oe,e⟩:∃o':Int,1≤o'∧o'≤12∧o'≤(Txt.mul x 8).length∧Txt.slice (Txt.mul x 8) none (some o)=Txt.slice (Txt.mul x 8) none (some o'):=by
  by_cases h:o≤(Txt.mul x 8).length
  ·exact ⟨o,o0,o1,h,rfl⟩
  ·refine ⟨((Txt.mul x 8).length:Nat),by first|lia|omega,by first|lia|omega,Int.le_refl _,?_⟩
   unfold Txt.slice
   have:PySem.Builtin.Str.strSliceIndices none (some o) 1 (Txt.mul x 8).length=PySem.Builtin.Str.strSliceIndices none (some (((Txt.mul x 8).length:Nat):Int)) 1 (Txt.mul x 8).length:=by
    unfold PySem.Builtin.Str.strSliceIndices
    dsimp only
    congr 1
    all_goals (first|lia|omega)
   rw [this]
 rw [e]
 have hs:=sl_to (x:=Txt.mul x 8) (j:=o') (by first|lia|omega) oe
 have hn:(Txt.slice (Txt.mul x 8) none (some o')).length=o'.toNat:=by
  rw [str_len]
  show (sg _).length=_
  rw [hs,List.length_take]
  have:(sg (Txt.mul x 8)).length=(Txt.mul x 8).length:=(str_len _).symm
  (first|lia|omega)
 refine ⟨fun ch hc => ?_,by first|lia|omega,by first|lia|omega⟩
 have hc:ch∈sg (Txt.slice (Txt.mul x 8) none (some o')):=hc
 rw [hs,mul8 hx.pos] at hc
 have hc:=List.mem_of_mem_take hc
 obtain ⟨l,hl',hm⟩:=List.mem_flatten.mp hc
 rw [(List.mem_replicate.mp hl').2] at hm
 exact hx.bin ch hm
theorem met_mem {α:Type} [DecidableEq α] {f:Nat → α} {k : α} : ∀{i:Nat},k∈metKeys f i→∃j,j<i∧f j=k
 | 0,h=>by simp [metKeys] at h
 | i+1,h=>by
  unfold metKeys oneMore at h
  by_cases q:f i∈metKeys f i
  ·rw [if_pos q] at h
   obtain ⟨j,hj,e⟩:=met_mem h
   exact ⟨j,by first|lia|omega,e⟩
  ·rw [if_neg q] at h
   rcases List.mem_append.mp h with h|h
   ·obtain ⟨j,hj,e⟩:=met_mem h
    exact ⟨j,by first|lia|omega,e⟩
   ·exact ⟨i,by first|lia|omega,(List.mem_singleton.mp h).symm⟩
theorem met_nd {α:Type} [DecidableEq α] {f:Nat → α} : ∀{i:Nat},(metKeys f i).Nodup
 | 0=>List.nodup_nil
 | i+1=>by
  unfold metKeys oneMore
  split
  ·exact met_nd
  ·rename_i q
   refine List.nodup_append.mpr ⟨met_nd,List.nodup_cons.mpr ⟨by simp,List.nodup_nil⟩,fun a ha b hb e=>q ?_⟩
   rw [←List.mem_singleton.mp hb, ←e];exact ha
theorem once_mem {zs:List Str} {x:Str} (h:x∈onceS zs):x∈zs:=by
 obtain ⟨j,hj,e⟩:=met_mem h
 rw [←e,List.getD_eq_getElem?_getD,List.getElem?_eq_getElem hj]
 exact List.getElem_mem hj
theorem ones_mul (k:Nat):sg (Txt.mul (Str.ofString "1") (k:Int))=List.replicate k 49:=sg_mul1 49 k
theorem ones_k (k:Nat):(Txt.mul (Str.ofString "1") (k:Int)).length=k:=by
 rw [str_len]
 show (sg _).length=k
 rw [ones_mul,List.length_replicate]
theorem ones_bin (k:Nat):Bin (Txt.mul (Str.ofString "1") (k:Int)):=fun ch hc=>by
 have hc:ch∈sg (Txt.mul (Str.ofString "1") (k:Int)):=hc
 rw [ones_mul] at hc
 exact .inr (List.mem_replicate.mp hc).2
theorem un_code {k:Nat} (hk:k<12):CodeOk 12 (Txt.mul (Str.ofString "1") (k:Int)++Str.ofString "0"):=by
 have e:sg (Txt.mul (Str.ofString "1") (k:Int)++Str.ofString "0")=List.replicate k 49++[48]:=by rw [sg_app,ones_mul];rfl
 have l:(Txt.mul (Str.ofString "1") (k:Int)++Str.ofString "0").length=k+1:=by
  rw [str_len]
  show (sg _).length=_
  rw [e,List.length_append,List.length_replicate];rfl
 refine ⟨fun ch hc => ?_,by first|lia|omega,by first|lia|omega⟩
 have hc:ch∈sg (Txt.mul (Str.ofString "1") (k:Int)++Str.ofString "0"):=hc
 rw [e] at hc
 rcases List.mem_append.mp hc with h|h
 ·exact .inr (List.mem_replicate.mp h).2
 ·exact .inl (List.mem_singleton.mp h)
theorem bx_great {H:Hp} {b c:Addr} {t:Int} (bx:Bx H b c t):∃g:Bool,(∃kvs,H b=some (.dK kvs)∧(valV kvs (.inr "great")).isSome=g)∧(g=false→DPut H b (.str "great") (.int 1) (upd H b (.dK [(.inr "cells", .ref c),(.inr "turn", .int t),(.inr "great", .int 1)]))∧Step b c H (upd H b (.dK [(.inr "cells", .ref c),(.inr "turn", .int t),(.inr "great", .int 1)])) t t 0):=by
 obtain ⟨ns,ex,bx⟩:=bx
 rcases bx.xl with rfl|rfl
 ·refine ⟨false,⟨_,bx.d,rfl⟩,fun _=>⟨DPut.k (k:=Sum.inr "great") bx.d (by show 2<sizeLine;decide),Int.le_refl _,by first|lia|omega,⟨ns,_,upd_same, .inr rfl,by rw [upd_ne (Ne.symm bx.bc)];exact bx.l,bx.ne,bx.le⟩,by rw [hid_upd_b];exact Same.refl _⟩⟩
 ·exact ⟨true,⟨_,bx.d,rfl⟩,(fun z=>nomatch z)⟩
section
variable {P:Program} {w:World} {K:PySem.W.Frag} {mg:Str→Option Value} {base:Heap} {f:Addr} {fd:FuncData}
theorem sc_law_sizes:FnScope ["_law_state", "_law_way"] ["_law_state"] (defScope (top i_law_sizes)):=⟨rfl,rfl,rfl,by decide +kernel,rfl,by decide +kernel,by decide +kernel⟩
theorem ok_sz9 (F:Fun K "_law_sizes" "_law_sizes" (top i_law_sizes) f fd) (T:Nm mg) (f_law_take:Fn P w K mg base 1 "_law_take" ["_law_state", "_law_many"] spTk):FnOk P w K mg base CX0 2 f fd ["_law_state"] spSz9:=by
 refine F.ok sc_law_sizes (fun vs H Q E h => ?_) (fun cdv A outer s H vs Q E hr h => ?_)
 ·obtain ⟨b,c,t,rfl,_⟩:=h
  rfl
 unfold spSz9 at h
 refine Elim.el h _ ?_
 clear h
 rintro b c t rfl bx t0 t1 q
 have hu:=hu_of hr
 have hu6:=hr.units
 refine ⟨_,(pss_cons (ps_set (i:=1) sc_law_sizes.nd rfl (Or.inl rfl) (pe_fn (f_law_take.mono (by first|decide|exact Nat.le_refl _|(first|lia|omega))) hr rfl (pa_cons (pv 0) (pa_cons pe_int pa_nil))))
  (pss_cons (ps_if (PW.pt (pw_and (pt_cmpR (eqK K hu6) (pv 1) pe_int (nomark _)) (pw_and1 (pt_cmp (pc_dnotin hu pe_str (pv 0)))))) (pss_cons (ps_dput hu (pv 0) pe_str pe_int rfl)
  (pss_one (ps_ret (tupN (pa_cons (pe_op addN pe_int (pe_fn (f_law_take.mono (by first|decide|exact Nat.le_refl _|(first|lia|omega))) hr rfl (pa_cons (pv 0) (pa_cons pe_int pa_nil)))) (pa_cons (pe_op addN pe_int (pe_fn (f_law_take.mono (by first|decide|exact Nat.le_refl _|(first|lia|omega))) hr rfl (pa_cons (pv 0) (pa_cons pe_int pa_nil)))) pa_nil)))))) pss_nil)
  (pss_cons (ps_if (pt_cmpR (inK K) (pv 1) (tupN (pa_cons pe_int (pa_cons pe_int pa_nil))) (by with_unfolding_all rfl)) (pss_one (ps_ret (tupN (pa_cons (pe_op addN pe_int (pe_fn (f_law_take.mono (by first|decide|exact Nat.le_refl _|(first|lia|omega))) hr rfl (pa_cons (pv 0) (pa_cons pe_int pa_nil)))) (pa_cons (pe_op addN pe_int (pe_fn (f_law_take.mono (by first|decide|exact Nat.le_refl _|(first|lia|omega))) hr rfl (pa_cons (pv 0) (pa_cons pe_int pa_nil)))) pa_nil))))) pss_nil)
  (pss_one (ps_ret (tupN (pa_cons (pe_op addN pe_int (pe_fn (f_law_take.mono (by first|decide|exact Nat.le_refl _|(first|lia|omega))) hr rfl (pa_cons (pv 0) (pa_cons pe_int pa_nil)))) (pa_cons (pe_op addN pe_int (pe_fn (f_law_take.mono (by first|decide|exact Nat.le_refl _|(first|lia|omega))) hr rfl (pa_cons (pv 0) (pa_cons pe_int pa_nil)))) pa_nil)))))))),?_⟩
 refine ⟨_,rfl,b,c,t,16,rfl,bx,by first|lia|omega,by first|lia|omega,by decide,by decide,fun way H1 w0 w1 st1=>gn ?_⟩
 dsimp only
 refine seqCut (t:=tIfS _ _ _) (fun σ H' => σ=[some (.ref b),some (.int way)]∧H'=H1) (fun Nx nx => ?_) ?_
 ·refine ⟨_,rfl, .inl ⟨rfl,_,rfl,ite2 (fun _ => ?_) (fun _=>iteF (nx _ _ ⟨rfl,rfl⟩))⟩⟩
  obtain ⟨g,⟨kvs,hk,hg⟩,put⟩:=bx_great st1.bx
  refine ⟨_,rfl,b,_,rfl,DGet.k (k:=Sum.inr "great") hk,_,rfl,?_⟩
  rw [hg]
  cases g with
  | true=>exact iteF (nx _ _ ⟨rfl,rfl⟩)
  | false=>
   refine Elim.el (put rfl) _ ?_
   rintro hput st2
   have st2:=st1.trans st2
   refine iteT ⟨_,rfl,b,_,rfl,hput,?_⟩
   generalize upd H1 b _=H2 at st2
   refine ⟨_,rfl,b,c,_,_,rfl,st2.bx,by first|lia|omega,by first|lia|omega,by decide,by decide,fun m HA m0 m1 stA => .inl ⟨_,_,rfl,rfl,?_⟩⟩
   refine ⟨_,rfl,b,c,_,_,rfl,stA.bx,by first|lia|omega,by first|lia|omega,by decide,by decide,fun o HB o0 o1 stB => .inl ⟨_,_,rfl,rfl,by show 2≤sizeLine;decide,fun tp HC nC => ?_⟩⟩
   exact q _ _ tp HC _ (by first|lia|omega) (by first|lia|omega) (by first|lia|omega) (by first|lia|omega) (((st2.trans stA).trans stB).newN nC) nC.at
 rintro σ H2 ⟨rfl,rfl⟩
 refine ⟨_,rfl,by show 2≤sizeLine;decide,fun p H3 n3=>⟨p,_,rfl, .inr (SqT.of n3.at),rfl,rfl,_,rfl,ite2 (fun _ => ?_) (fun _ => ?_)⟩⟩
 ·have st3:=st1.newN n3
  refine ⟨_,rfl,b,c,_,_,rfl,st3.bx,by first|lia|omega,by first|lia|omega,by decide,by decide,fun m HA m0 m1 stA => .inl ⟨_,_,rfl,rfl,?_⟩⟩
  refine ⟨_,rfl,b,c,_,_,rfl,stA.bx,by first|lia|omega,by first|lia|omega,by decide,by decide,fun o HB o0 o1 stB => .inl ⟨_,_,rfl,rfl,by show 2≤sizeLine;decide,fun tp HC nC => ?_⟩⟩
  exact q _ _ tp HC _ (by first|lia|omega) (by first|lia|omega) (by first|lia|omega) (by first|lia|omega) (((st3.trans stA).trans stB).newN nC) nC.at
 ·have st3:=st1.newN n3
  refine ⟨_,rfl,b,c,_,_,rfl,st3.bx,by first|lia|omega,by first|lia|omega,by decide,by decide,fun m HA m0 m1 stA => .inl ⟨_,_,rfl,rfl,?_⟩⟩
  refine ⟨_,rfl,b,c,_,_,rfl,stA.bx,by first|lia|omega,by first|lia|omega,by decide,by decide,fun o HB o0 o1 stB => .inl ⟨_,_,rfl,rfl,by show 2≤sizeLine;decide,fun tp HC nC => ?_⟩⟩
  exact q _ _ tp HC _ (by first|lia|omega) (by first|lia|omega) (by first|lia|omega) (by first|lia|omega) (((st3.trans stA).trans stB).newN nC) nC.at
theorem sc_law_book:FnScope ["_law_state", "_law_way", "_law_many", "_law_most", "_law_codes"] ["_law_state"] (defScope (top i_law_book)):=⟨rfl,rfl,rfl,by decide +kernel,rfl,by decide +kernel,by decide +kernel⟩
theorem ok_bk59 (F:Fun K "_law_book" "_law_book" (top i_law_book) f fd) (T:Nm mg) (n_sorted:mg "sorted" = none) (n_set:mg "set" = none) (f_law_take:Fn P w K mg base 1 "_law_take" ["_law_state", "_law_many"] spTk) (f_law_sizes:Fn P w K mg base 2 "_law_sizes" ["_law_state"] spSz9) (f_law_free:Fn P w K mg base 2 "_law_free" ["_law_state", "_law_many", "_law_most"] spFr) (f_law_names:Fn P w K mg base 2 "_law_names" ["_law_state", "_law_many"] spNl):FnOk P w K mg base CX0 3 f fd ["_law_state"] (spBk9 K):=by
 refine F.ok sc_law_book (fun vs H Q E h => ?_) (fun cdv A outer s H vs Q E hr h => ?_)
 ·obtain ⟨b,c,t,rfl,_⟩:=h
  rfl
 unfold spBk9 at h
 refine Elim.el h _ ?_
 clear h
 rintro b c t rfl bx t0 t1 q
 have hu6:=hr.units
 have small:∀{n:Nat},n≤1000→n<sizeLine:=fun h=>Nat.lt_of_le_of_lt h (by decide)
 refine ⟨_,(pss_cons (ps_set (i:=1) sc_law_book.nd rfl (Or.inl rfl) (pe_fn (f_law_take.mono (by first|decide|exact Nat.le_refl _|(first|lia|omega))) hr rfl (pa_cons (pv 0) (pa_cons pe_int pa_nil))))
  (pss_cons (ps_asg (pe_fn (f_law_sizes.mono (by first|decide|exact Nat.le_refl _|(first|lia|omega))) hr rfl (pa_cons (pv 0) pa_nil)) (tupK K 2 rfl (pgs_cons (pg_name (i:=2) sc_law_book.nd rfl (Or.inl rfl)) (pgs_cons (pg_name (i:=3) sc_law_book.nd rfl (Or.inr rfl)) pgs_nil))))
  (pss_cons (ps_set (i:=4) sc_law_book.nd rfl (Or.inl rfl) (pe_fn (f_law_free.mono (by first|decide|exact Nat.le_refl _|(first|lia|omega))) hr rfl (pa_cons (pv 0) (pa_cons (pv 2) (pa_cons (pv 3) pa_nil)))))
  (pss_cons (ps_if (pt_cmpR (eqK K hu6) (pv 1) pe_int (nomark _)) (pss_one (ps_set (i:=4) sc_law_book.nd rfl (Or.inl rfl) (pe_callB (sortedSetS rfl) rfl n_sorted (by rfl) (pa_cons (pe_callTy (call_setG rfl) rfl n_set (by rfl) (pa_cons (pe_lcomp rfl (comp_ok (Nc:=["_law_code"]) (Fc:=["_law_most"]) (js:=[3])) (piK K (pv 4)) (gk_name (i:=0) (n:=1) (by decide)) (fun _ _ _ _ _=>(pg_name (i:=0) (show (["_law_code", "_law_most"]:List Str).Nodup by decide +kernel) rfl (Or.inl rfl))) (fun _ _ _ _ _=>pts_nil) (fun _ _ _ _ _=>(pe_slice (slN K) (pe_op mulS (pv 0) pe_int) po_none (po_some (pv 1))))) pa_nil)) pa_nil)))) pss_nil)
  (pss_cons (ps_if (pt_cmpR (eqK K hu6) (pv 1) pe_int (nomark _)) (pss_one (ps_set (i:=4) sc_law_book.nd rfl (Or.inl rfl) (pe_op addN (pe_lcomp rfl (comp_ok (Nc:=["_law_k"]) (Fc:=[]) (js:=[])) (pi_range1 rfl T.n_range (pa_cons (pv 2) pa_nil)) (gk_name (i:=0) (n:=1) (by decide)) (fun _ _ _ _ _=>(pg_name (i:=0) (show (["_law_k"]:List Str).Nodup by decide +kernel) rfl (Or.inl rfl))) (fun _ _ _ _ _=>pts_nil) (fun _ _ _ _ _=>(pe_op addN (pe_op mulS pe_str (pv 0)) pe_str))) (pe_op mulN (lstN (pa_cons (pe_op mulS pe_str (pv 2)) pa_nil)) (pe_op mulN (pe_fn (f_law_take.mono (by first|decide|exact Nat.le_refl _|(first|lia|omega))) hr rfl (pa_cons (pv 0) (pa_cons pe_int pa_nil))) (pe_callTy call_int1 rfl T.n_int (by rfl) (pa_cons (pe_cmpR op_lt (pv 2) pe_int (nomark _)) pa_nil))))))) pss_nil)
  (pss_one (ps_ret (pe_listzip rfl rfl T.n_list rfl T.n_zip (pa_cons (pe_fn (f_law_names.mono (by first|decide|exact Nat.le_refl _|(first|lia|omega))) hr rfl (pa_cons (pv 0) (pa_cons (pe_callB (lenK K) rfl T.n_len (by rfl) (pa_cons (pv 4) pa_nil)) pa_nil))) (pa_cons (pv 4) pa_nil)))))))))),?_⟩
 refine ⟨_,rfl,b,c,t,8,rfl,bx,by first|lia|omega,by first|lia|omega,by decide,by decide,fun way H1 w0 w1 st1=>gn ?_⟩
 refine ⟨_,rfl,b,c,_,rfl,st1.bx,by first|lia|omega,by first|lia|omega,fun m o tp H2 t2 m0 m1 o0 o1 st2 htp=>⟨tp,_,rfl,SqT.of htp,rfl,_,_,rfl,_,_,rfl,rfl,?_⟩⟩
 have st2:=st1.trans st2
 have ub2:=st2.ub
 have lo2:=st2.le
 refine ⟨_,rfl,_,rfl,_,rfl,b,c,t2,m,o,rfl,st2.bx,by first|lia|omega,by first|lia|omega,m0,m1,o0,o1,fun cs l H3 t3 _ le _ cd st3 hl hl3=>gn ?_⟩
 obtain ⟨lb,lc⟩:=st2.bx.ne_new hl
 have st3:=st2.trans st3
 have cd8:∀x∈cs,CodeOk 12 x:=fun x hx=>(cd x hx).mono (by first|lia|omega)
 dsimp only
 refine seqCut (t:=tIfS _ _ _) (fun σ H'=>Ex2 fun (cs:List Str) (l:Addr) => σ=[some (.ref b),some (.int way),some (.int m),some (.int o),some (.ref l)]∧l≠b∧l≠c∧cs.length≤13∧(∀x∈cs,CodeOk 12 x)∧Step b c H H' t t3 44∧H' l=some (.lst (cs.map V.str))) (fun Nx nx => ?_) ?_
 ·refine ⟨_,rfl, .inl ⟨rfl,_,rfl,ite2 (fun _ => ?_) (fun _=>nx _ _ ⟨cs,l,rfl,lb,lc,by first|lia|omega,cd8,st3,hl3⟩)⟩⟩
  have atc:∀{k:Nat} (hk:k<cs.length),(cs.map V.str)[k]? = some (.str cs[k]):=fun hk=>by rw [List.getElem?_map,List.getElem?_eq_getElem hk];rfl
  refine ⟨_,rfl,l,rfl,⟨_,SqL.of hl3⟩,?_⟩
  refine comp_go (N:=cs.length) (fun k ys H'=>H'=H3∧ys=((cs.take k).map fun x=>Txt.slice (Txt.mul x 8) none (some o)).map V.str) ⟨rfl,rfl⟩ ?_ ?_
  ·rintro k ys H4 Ny hk ⟨rfl,rfl⟩ ny
   refine ⟨⟨_,_,SqL.of hl3,atc hk⟩,small (by rw [List.length_map,List.length_map,List.length_take]; (first|lia|omega)),?_⟩
   rintro x H5 ⟨rfl,hy⟩
   have e:=hy _ (SqL.of hl3)
   rw [atc hk] at e;cases e
   have hle:=(cd8 _ (List.getElem_mem hk)).le
   have hml:=mul8_len (cd8 _ (List.getElem_mem hk)).pos
   refine gn ⟨_,rfl, .inr ⟨_,_,rfl,rfl,mulOk_small (by first|lia|omega) (by decide) (by decide),_,rfl,o,rfl, .inr ⟨_,rfl,Nat.le_of_lt (small (by first|lia|omega)),ny _ _ ⟨rfl,?_⟩⟩⟩⟩
   rw [List.take_succ_eq_append_getElem hk,List.map_append,List.map_append];rfl
  rintro ys H4 ⟨rfl,rfl⟩
  refine ⟨⟨_,SqL.of hl3,by rw [List.length_map];exact Nat.le_refl _⟩,fun p hp => ?_⟩
  rw [List.take_length]
  obtain ⟨zs,hzs⟩:∃zs,zs=cs.map fun x=>Txt.slice (Txt.mul x 8) none (some o):=⟨_,rfl⟩
  rw [←hzs]
  obtain ⟨H5,n5⟩:∃H5,New H4 p (.lst (zs.map V.str)) H5:=⟨_,hp,rfl⟩
  rw [←n5.eq]
  have zl:zs.length=cs.length:=by rw [hzs,List.length_map]
  have ev:∀x∈zs,CodeOk 12 x:=fun x hx=>by
   rw [hzs] at hx
   refine Elim.el (List.mem_map.mp hx) _ ?_
   rintro y hy rfl
   exact cut8 (cd8 y hy) o0 o1
  have ol:(onceS zs).length≤zs.length:=metKeys_le _ _
  refine ⟨p,zs,rfl,SqL.of n5.at,by first|lia|omega,fun a H6 n6=>⟨a,onceS zs,rfl,n6.at,met_nd,by first|lia|omega,fun ms l7 H7 pm n7=>gn ?_⟩⟩
  have st6:=(st3.newN n5).newN n6
  obtain ⟨lb7,lc7⟩:=st6.bx.ne_new n7.nn
  have ml:=pm.length_eq
  exact nx _ _ ⟨ms,l7,rfl,lb7,lc7,by first|lia|omega,fun x hx=>ev x (once_mem (pm.mem_iff.mp hx)),st6.newN n7,n7.at⟩
 clear le cd cd8 hl3 lb lc hl
 intro σ H4 hz_
 refine Elim.el hz_ _ ?_
 clear hz_
 rintro cs l rfl lb lc le cd st4 hl4
 refine seqCut (t:=tIfS _ _ _) (fun σ H'=>Ex3 fun (cs:List Str) (l:Addr) (t':Int) => σ=[some (.ref b),some (.int way),some (.int m),some (.int o),some (.ref l)]∧l≠b∧l≠c∧cs.length≤13∧(∀x∈cs,CodeOk 12 x)∧Step b c H H' t t' 45∧H' l=some (.lst (cs.map V.str))) (fun Nx nx => ?_) ?_
 ·refine ⟨_,rfl, .inl ⟨rfl,_,rfl,ite2 (fun _ => ?_) (fun _=>nx _ _ ⟨cs,l,t3,rfl,lb,lc,by first|lia|omega,cd,st4.more (by first|lia|omega),hl4⟩)⟩⟩
  obtain ⟨k,rfl⟩:∃k:Nat,m=k:=⟨m.toNat,by first|lia|omega⟩
  refine ⟨_,rfl,_,rfl,by first|lia|omega,by first|lia|omega,?_⟩
  refine comp_go (N:=k) (fun i ys H'=>H'=H4∧ys=((List.range i).map fun (j:Nat)=>Txt.mul (Str.ofString "1") (j:Int)++Str.ofString "0").map V.str) ⟨rfl,rfl⟩ ?_ ?_
  ·rintro i ys H5 Ny hi ⟨rfl,rfl⟩ ny
   refine ⟨by show i<((k:Nat):Int).toNat; (first|lia|omega),small (by rw [List.length_map,List.length_map,List.length_range]; (first|lia|omega)),?_⟩
   rintro x H6 ⟨rfl,rfl⟩
   refine gn ?_
   rw [show (0+(i:Int))=((i:Nat):Int) by first|lia|omega]
   refine ⟨_,rfl, .inr ⟨_,_,rfl,rfl,mulOk_small (by show 1≤1000;decide) (by first|lia|omega) (by first|lia|omega), .inr (.inl ⟨_,_,rfl,rfl,Nat.le_of_lt (small (by rw [ones_k];show i+1≤1000; (first|lia|omega))),ny _ _ ⟨rfl,?_⟩⟩)⟩⟩
   rw [List.range_succ,List.map_append,List.map_append]
   rfl
  rintro ys H5 ⟨rfl,rfl⟩
  refine ⟨by show ((k:Nat):Int).toNat≤k; (first|lia|omega),fun p hp => ?_⟩
  obtain ⟨us,hus⟩:∃us:List Str,us=(List.range k).map fun (j:Nat)=>Txt.mul (Str.ofString "1") (j:Int)++Str.ofString "0":=⟨_,rfl⟩
  rw [←hus]
  have ul:us.length=k:=by rw [hus,List.length_map,List.length_range]
  have uc:∀x∈us,CodeOk 12 x:=fun x hx=>by
   rw [hus] at hx
   refine Elim.el (List.mem_map.mp hx) _ ?_
   rintro j hj rfl
   exact un_code (by have:=List.mem_range.mp hj; (first|lia|omega))
  obtain ⟨H6,n6⟩:∃H6,New H5 p (.lst (us.map V.str)) H6:=⟨_,hp,rfl⟩
  rw [←n6.eq]
  refine ⟨_,rfl, .inr ⟨_,_,rfl,rfl,mulOk_small (by show 1≤1000;decide) (by first|lia|omega) (by first|lia|omega),by show 1≤sizeLine;decide,fun p7 H7 n7 => ?_⟩⟩
  have st7:=(st4.newN n6).newN n7
  have ub7:=st7.ub
  have lo7:=st7.le
  refine ⟨_,rfl,b,c,_,2,rfl,st7.bx,by first|lia|omega,by first|lia|omega,by decide,by decide,fun r H8 r0 r1 st8 => ?_⟩
  obtain ⟨pb7,pc7⟩:=(st4.newN n6).bx.ne_new n7.nn
  obtain ⟨pb,pc⟩:=st4.bx.ne_new n6.nn
  have hp8:=st8.old n7.at pb7 pc7
  have hp8':=st8.old (n7.same _ _ n6.at) pb pc
  have st8:=st7.trans st8
  refine ⟨_,rfl,_,_,rfl,rfl, .inr ⟨_,rfl, .inl ⟨_,_,rfl,rfl, .inl ⟨by first|lia|omega,by first|lia|omega⟩,?_⟩⟩⟩
  obtain ⟨n,hn,hn'⟩:∃n:Int,r*(if decide ((k:Int)<12)=true then 1 else 0)=n∧(n=0∨n=1∧k<12):=by
   refine ⟨_,rfl,?_⟩
   by_cases h:(k:Int)<12
   ·rw [if_pos (decide_eq_true h)]; (first|lia|omega)
   ·rw [if_neg (by rw [decide_eq_false h];decide)]; (first|lia|omega)
  rw [hn]
  refine .inr ⟨p7,n,_,rfl,rfl,hp8,by first|lia|omega,by first|lia|omega,?_,fun p9 H9 n9 => ?_⟩
  ·exact Nat.le_of_lt (small (by show 1*n.toNat≤1000; (first|lia|omega)))
  have st9:=st8.newN n9
  refine .inr (.inr ⟨p,p9,_,_,rfl,rfl,n9.same _ _ hp8',n9.at,Nat.le_of_lt (small ?_),fun pA HA nA=>gn ?_⟩)
  ·rw [List.length_map,ul]
   rcases hn' with e|⟨e,_⟩ <;> rw [e] <;> simp <;> (first|lia|omega)
  obtain ⟨pbA,pcA⟩:=st9.bx.ne_new nA.nn
  have nA':=nA.at
  rcases hn' with e|⟨e,hk12⟩
  ·rw [e] at nA'
   exact nx _ _ ⟨us,pA,_,rfl,pbA,pcA,by first|lia|omega,uc,st9.newN nA,by rw [nA'];exact congrArg (fun l=>some (HO.lst l)) (List.append_nil _)⟩
  ·rw [e] at nA'
   refine nx _ _ ⟨us++[Txt.mul (Str.ofString "1") (k:Int)],pA,_,rfl,pbA,pcA,by rw [List.length_append];show us.length+1≤13; (first|lia|omega),fun x hx => ?_,st9.newN nA,by rw [nA',List.map_append];rfl⟩
   rcases List.mem_append.mp hx with h|h
   ·exact uc x h
   ·rw [List.mem_singleton.mp h]
    exact ⟨ones_bin k,by rw [ones_k]; (first|lia|omega),by rw [ones_k]; (first|lia|omega)⟩
 clear le cd hl4 lb lc st4
 intro σ H4 hz_
 refine Elim.el hz_ _ ?_
 clear hz_
 rintro cs l t4 rfl lb lc le cd st4 hl4
 have ub4:=st4.ub
 have lo4:=st4.le
 have hlen:(cs.map V.str).length=cs.length:=List.length_map _
 refine ⟨_,rfl,_,rfl,_,_,rfl, .inl ⟨_,SqL.of hl4,rfl⟩,b,c,_,_,rfl,st4.bx,by first|lia|omega,by first|lia|omega,by first|lia|omega,by first|lia|omega,fun xs l5 H5 t5 hxl nd ln st5 hl5 hl55 => ?_⟩
 have hc5:=st5.old hl4 lb lc
 have st5:=st4.trans st5
 refine ⟨_,rfl,l5,l,_,_,rfl,SqL.of hl55,SqL.of hc5,fun H7 p as sm hp hp7 hal hpairs => ?_⟩
 have hnc:xs.length=cs.length:=by (first|lia|omega)
 refine q (xs.zip cs) (.ref p) H7 t5 ?_ (book_zip st5.bx hp hp7 hnc hal hpairs) ((st5.trans (Step.same st5.bx sm)).more (by first|lia|omega))
 have h1:(xs.zip cs).map (·.1)=xs:=List.map_fst_zip (by first|lia|omega)
 exact ⟨by rw [List.length_zip]; (first|lia|omega),by rw [h1];exact nd,fun z hz=>cd _ (List.of_mem_zip (a:=z.1) (b:=z.2) hz).2,fun z hz=>(ln _ (List.of_mem_zip (a:=z.1) (b:=z.2) hz).1).1,fun z hz=>(ln _ (List.of_mem_zip (a:=z.1) (b:=z.2) hz).1).2⟩
end
end Z
namespace Z
noncomputable abbrev Sg:=List Nat
noncomputable def nx (cs:List Sg) (p:Sg×Sg):List (Sg×Sg):=
 if p.1.head? ≠ p.2.head? ∨ p.1=[] then [] else if p.1.length=1∧p.2.length=1 then [([],[])] else
  (if 1<p.1.length then [p.1.tail] else cs).flatMap fun f=>(if 1<p.2.length then [p.2.tail] else cs).map fun s=>(f,s)
noncomputable def TopP (P:Nat→Prop) (v:Option Nat):Prop:=(v=none∧∀a, ¬P a)∨∃m,v=some m∧P m∧∀a,P a→a≤m
theorem TopP.one {P:Nat→Prop} {v u:Option Nat} (h:TopP P v) (g:TopP P u):v=u:=by
 rcases h with ⟨rfl,h⟩|⟨m,rfl,h,h'⟩
 ·rcases g with ⟨rfl,_⟩|⟨m,_,g,_⟩
  ·rfl
  ·exact absurd g (h m)
 ·rcases g with ⟨_,g⟩|⟨n,rfl,g,g'⟩
  ·exact absurd h (g m)
  ·rw [Nat.le_antisymm (g' m h) (h' n g)]
theorem TopP.congr {P Q:Nat→Prop} {v:Option Nat} (h:TopP P v) (e:∀a,P a ↔ Q a):TopP Q v:=by
 rcases h with ⟨rfl,h⟩|⟨m,rfl,h,h'⟩
 ·exact .inl ⟨rfl,fun a z=>h a ((e a).mpr z)⟩
 ·exact .inr ⟨m,rfl,(e m).mp h,fun a z=>h' a ((e a).mpr z)⟩
theorem TopP.up {P:Nat→Prop} {v:Option Nat} (h:TopP P v) (n:Nat):TopP (fun a=>∃d,P d∧a=d+n) (v.map (· + n)):=by
 rcases h with ⟨rfl,h⟩|⟨m,rfl,h,h'⟩
 ·exact .inl ⟨rfl,fun a ⟨d,z,_⟩=>h d z⟩
 ·exact .inr ⟨m+n,rfl,⟨m,h,rfl⟩,fun a ⟨d,z,e⟩=>by have:=h' d z; (first|lia|omega)⟩
inductive Wv (cs:List Sg):Sg×Sg→Option Nat→Prop
 | fin:Wv cs ([],[]) (some 0)
 | step (p:Sg×Sg) (f:Sg×Sg→Option Nat) (v:Option Nat) (h1:p.1≠[]) (h2:p.2≠[]) (h:∀q∈nx cs p,Wv cs q (f q)) (t:TopP (fun a=>∃q∈nx cs p,∃d,f q=some d∧a=d+1) v):Wv cs p v
theorem Wv.one {cs:List Sg} {p:Sg×Sg} {v:Option Nat} (h:Wv cs p v):∀{u:Option Nat},Wv cs p u→v=u:=by
 induction h with
 | fin=>
  intro u g
  cases g with
  | fin=>rfl
  | step p f v h1 h2 h t=>exact absurd rfl h1
 | step p f v h1 h2 h t ih=>
  intro u g
  cases g with
  | fin=>exact absurd rfl h1
  | step p g u k1 k2 k t'=>
   refine t.one (t'.congr fun a=>⟨fun ⟨q,hq,d,e,ea⟩=>⟨q,hq,d,by rw [ih q hq (k q hq)];exact e,ea⟩,fun ⟨q,hq,d,e,ea⟩=>⟨q,hq,d,by rw [←ih q hq (k q hq)];exact e,ea⟩⟩)
theorem Wv.next {cs:List Sg} {p q:Sg×Sg} {v:Option Nat} (h:Wv cs p v) (hq:q∈nx cs p):∃u,Wv cs q u:=by
 cases h with
 | fin=>simp [nx] at hq
 | step p f v h1 h2 h t=>exact ⟨_,h q hq⟩
section
variable {cs:List Sg} {a b:Nat} {x y:Sg}
theorem nx_ne (h:a≠b):nx cs (a :: x,b :: y)=[]:=by
 unfold nx;rw [if_pos (.inl fun e=>h (by simpa using e))]
theorem nx_end:nx cs ([a],[a])=[([],[])]:=by
 unfold nx;rw [if_neg (by simp),if_pos (by simp)]
theorem nx_l (h:y≠[]):nx cs ([a],a :: y)=cs.map fun c=>(c,y):=by
 have hl:0<y.length:=List.length_pos_iff.mpr h
 unfold nx
 rw [if_neg (by simp),if_neg (by simp [h])]
 dsimp only
 rw [if_neg (show ¬ 1<[a].length by simp),if_pos (show 1<(a :: y).length by rw [List.length_cons]; (first|lia|omega))]
 show cs.flatMap (fun f=>[(f,y)])=_
 induction cs with
 | nil=>rfl
 | cons c cs ih=>rw [List.flatMap_cons,ih];rfl
theorem nx_r (h:x≠[]):nx cs (a :: x,[a])=cs.map fun c=>(x,c):=by
 have hl:0<x.length:=List.length_pos_iff.mpr h
 unfold nx
 rw [if_neg (by simp),if_neg (by simp [h])]
 dsimp only
 rw [if_pos (show 1<(a :: x).length by rw [List.length_cons]; (first|lia|omega)),if_neg (show ¬ 1<[a].length by simp)]
 simp
theorem nx_both (h:x≠[]) (h':y≠[]):nx cs (a :: x,a :: y)=[(x,y)]:=by
 have hl:0<x.length:=List.length_pos_iff.mpr h
 have hl':0<y.length:=List.length_pos_iff.mpr h'
 unfold nx
 rw [if_neg (by simp),if_neg (by simp [h])]
 dsimp only
 rw [if_pos (show 1<(a :: x).length by rw [List.length_cons]; (first|lia|omega)),if_pos (show 1<(a :: y).length by rw [List.length_cons]; (first|lia|omega))]
 rfl
theorem Wv.sign {w:Option Nat} (h:x≠[]) (h':y≠[]) (g:Wv cs (x,y) w):Wv cs (a :: x,a :: y) (w.map (· + 1)):=by
 refine .step _ (fun _=>w) _ (by simp) (by simp) (fun q hq => ?_) ?_
 ·rw [nx_both h h',List.mem_singleton] at hq
  rw [hq];exact g
 ·rw [nx_both h h']
  cases w with
  | none=>exact .inl ⟨rfl,fun a ⟨q,hq,d,e,_⟩=>nomatch e⟩
  | some m=>exact .inr ⟨m+1,rfl,⟨_,List.mem_singleton.mpr rfl,m,rfl,rfl⟩,fun a ⟨q,hq,d,e,ea⟩=>by cases e; (first|lia|omega)⟩
theorem Wv.pre {w:Option Nat} (h:x≠[]) (h':y≠[]) (g:Wv cs (x,y) w):∀(u:Sg),Wv cs (u++x,u++y) (w.map (· + u.length))
 | []=>by simpa using g
 | a :: u=>by
  have:=Wv.sign (a:=a) (x:=u++x) (y:=u++y) (by simp [h]) (by simp [h']) (Wv.pre h h' g u)
  rw [Option.map_map] at this
  have e:((fun n=>n+1) ∘ fun n=>n+u.length)=fun n:Nat=>n+(a :: u).length:=by
   funext n;simp; (first|lia|omega)
  rw [e] at this
  exact this
theorem Wv.miss (h:a≠b) (u:Sg):Wv cs (u++a :: x,u++b :: y) none:=by
 have g:Wv cs (a :: x,b :: y) none:=by
  refine .step _ (fun _=>none) _ (by simp) (by simp) (fun q hq => ?_) (.inl ⟨rfl,fun a ⟨q,hq,_⟩ => ?_⟩)
  ·rw [nx_ne h] at hq;cases hq
  ·rw [nx_ne h] at hq;cases hq
 exact Wv.pre (by simp) (by simp) g u
theorem Wv.self (h:x≠[]):Wv cs (x,x) (some x.length):=by
 obtain ⟨u,a,rfl⟩:∃u a,x=u++[a]:=⟨_,_,(List.dropLast_concat_getLast h).symm⟩
 have g:Wv cs ([a],[a]) (some 1):=by
  refine .step _ (fun _=>some 0) _ (by simp) (by simp) (fun q hq => ?_) ?_
  ·rw [nx_end,List.mem_singleton] at hq
   rw [hq];exact .fin
  ·rw [nx_end]
   exact .inr ⟨1,rfl,⟨_,List.mem_singleton.mpr rfl,0,rfl,rfl⟩,fun a ⟨q,hq,d,e,ea⟩=>by cases e; (first|lia|omega)⟩
 have:=Wv.pre (by simp) (by simp) g u
 rw [List.length_append]
 simpa [Nat.add_comm] using this
theorem Wv.over {r:Sg} {g:Sg→Option Nat} {v:Option Nat} (hr:r≠[]) (h:∀c∈cs,Wv cs (r,c) (g c)) (t:TopP (fun a=>∃c∈cs,g c=some a) v) {u:Sg} (hu:u≠[]):Wv cs (u++r,u) (v.map (· + u.length)):=by
 obtain ⟨u,a,rfl⟩:∃w a,u=w++[a]:=⟨_,_,(List.dropLast_concat_getLast hu).symm⟩
 have g1:Wv cs (a :: r,[a]) (v.map (· + 1)):=by
  refine .step _ (fun q=>g q.2) _ (by simp) (by simp) (fun q hq => ?_) ((t.up 1).congr fun n => ?_)
  ·rw [nx_r hr] at hq
   obtain ⟨c,hc,rfl⟩:=List.mem_map.mp hq
   exact h c hc
  ·rw [nx_r hr]
   exact ⟨fun ⟨d,⟨c,hc,e⟩,ea⟩=>⟨(r,c),List.mem_map.mpr ⟨c,hc,rfl⟩,d,e,ea⟩,fun ⟨q,hq,d,e,ea⟩=>by
    obtain ⟨c,hc,rfl⟩:=List.mem_map.mp hq
    exact ⟨d,⟨c,hc,e⟩,ea⟩⟩
 have:=Wv.pre (by simp) (by simp) g1 u
 rw [Option.map_map] at this
 have e:((fun n=>n+u.length) ∘ fun n=>n+1)=fun n:Nat=>n+(u++[a]).length:=by
  funext n;simp; (first|lia|omega)
 rw [e] at this
 simpa using this
theorem Wv.over' {r:Sg} {g:Sg→Option Nat} {v:Option Nat} (hr:r≠[]) (h:∀c∈cs,Wv cs (c,r) (g c)) (t:TopP (fun a=>∃c∈cs,g c=some a) v) {u:Sg} (hu:u≠[]):Wv cs (u,u++r) (v.map (· + u.length)):=by
 obtain ⟨u,a,rfl⟩:∃w a,u=w++[a]:=⟨_,_,(List.dropLast_concat_getLast hu).symm⟩
 have g1:Wv cs ([a],a :: r) (v.map (· + 1)):=by
  refine .step _ (fun q=>g q.1) _ (by simp) (by simp) (fun q hq => ?_) ((t.up 1).congr fun n => ?_)
  ·rw [nx_l hr] at hq
   obtain ⟨c,hc,rfl⟩:=List.mem_map.mp hq
   exact h c hc
  ·rw [nx_l hr]
   exact ⟨fun ⟨d,⟨c,hc,e⟩,ea⟩=>⟨(c,r),List.mem_map.mpr ⟨c,hc,rfl⟩,d,e,ea⟩,fun ⟨q,hq,d,e,ea⟩=>by
    obtain ⟨c,hc,rfl⟩:=List.mem_map.mp hq
    exact ⟨d,⟨c,hc,e⟩,ea⟩⟩
 have:=Wv.pre (by simp) (by simp) g1 u
 rw [Option.map_map] at this
 have e:((fun n=>n+u.length) ∘ fun n=>n+1)=fun n:Nat=>n+(u++[a]).length:=by
  funext n;simp; (first|lia|omega)
 rw [e] at this
 simpa using this
end
noncomputable def Lt (c x r:Sg):Prop:=r≠[]∧(x=c++r∨c=x++r)
inductive En (cs:List Sg):Sg→Prop
 | mk (x:Sg) (h:∀c∈cs,∀r,Lt c x r→En cs r):En cs x
inductive Dl (cs:List Sg):Sg→Option Nat→Prop
 | mk (x:Sg) (f:Sg→Option Nat) (v:Option Nat) (h:∀c∈cs,∀r,Lt c x r→Dl cs r (f r)) (t:TopP (fun a=>(x∈cs∧a=x.length)∨∃c∈cs,∃r d,Lt c x r∧f r=some d∧a=min x.length c.length+d) v):Dl cs x v
theorem Dl.one {cs:List Sg} {x:Sg} {v:Option Nat} (h:Dl cs x v):∀{u:Option Nat},Dl cs x u→v=u:=by
 induction h with
 | mk x f v h t ih=>
  intro u g
  cases g with
  | mk x g u k t'=>
   exact t.one (t'.congr fun a=>or_congr Iff.rfl ⟨fun ⟨c,hc,r,d,hl,e,ea⟩=>⟨c,hc,r,d,hl,by rw [ih c hc r hl (k c hc r hl)];exact e,ea⟩,fun ⟨c,hc,r,d,hl,e,ea⟩=>⟨c,hc,r,d,hl,by rw [←ih c hc r hl (k c hc r hl)];exact e,ea⟩⟩)
theorem Lt.one {c x r r':Sg} (h:Lt c x r) (h':Lt c x r'):r=r':=by
 obtain ⟨n,h⟩:=h
 obtain ⟨n',h'⟩:=h'
 have l1:0<r.length:=List.length_pos_iff.mpr n
 have l2:0<r'.length:=List.length_pos_iff.mpr n'
 rcases h with h|h <;> rcases h' with h'|h'
 ·rw [h] at h';exact List.append_cancel_left h'
 ·have z1:=congrArg List.length h;have z2:=congrArg List.length h';rw [List.length_append] at z1 z2; (first|lia|omega)
 ·have z1:=congrArg List.length h;have z2:=congrArg List.length h';rw [List.length_append] at z1 z2; (first|lia|omega)
 ·rw [h] at h';exact List.append_cancel_left h'
theorem two_ways:∀(x c:Sg),x=c∨(∃r,Lt c x r)∨∃u a b x' c',a≠b∧x=u++a :: x'∧c=u++b :: c'
 | [],[] => .inl rfl
 | [],b :: c => .inr (.inl ⟨b :: c,by simp, .inr rfl⟩)
 | a :: x,[] => .inr (.inl ⟨a :: x,by simp, .inl rfl⟩)
 | a :: x,b :: c=>by
  by_cases h:a=b
  ·subst h
   rcases two_ways x c with h|⟨r,n,h|h⟩|⟨u,d,e,x',c',ne,h1,h2⟩
   ·exact .inl (by rw [h])
   ·exact .inr (.inl ⟨r,n, .inl (by rw [h];rfl)⟩)
   ·exact .inr (.inl ⟨r,n, .inr (by rw [h];rfl)⟩)
   ·exact .inr (.inr ⟨a :: u,d,e,x',c',ne,by rw [h1];rfl,by rw [h2];rfl⟩)
  ·exact .inr (.inr ⟨[],a,b,x,c,h,rfl,rfl⟩)
theorem not_lt_miss {u x' c':Sg} {a b:Nat} (ne:a≠b) {r:Sg} (h:Lt (u++b :: c') (u++a :: x') r):False:=by
 obtain ⟨_,h|h⟩:=h
 ·rw [List.append_assoc,List.cons_append] at h
  have:=List.append_cancel_left h
  exact ne (List.cons.inj this).1
 ·rw [List.append_assoc,List.cons_append] at h
  have:=List.append_cancel_left h
  exact ne (List.cons.inj this).1.symm
theorem Dl.worth {cs:List Sg} (hcs:∀c∈cs,c≠[]) {x:Sg} {v:Option Nat} (h:Dl cs x v):x≠[]→(∃g:Sg→Option Nat,(∀c∈cs,Wv cs (x,c) (g c))∧TopP (fun a=>∃c∈cs,g c=some a) v)∧∃g:Sg→Option Nat,(∀c∈cs,Wv cs (c,x) (g c))∧TopP (fun a=>∃c∈cs,g c=some a) v:=by
 induction h with
 | mk x f v h t ih=>
  intro hx
  have key:∀(sw:Bool),∀c∈cs,∃w:Option Nat,Wv cs (if sw then (c,x) else (x,c)) w∧∀a,w=some a ↔ ((c=x∧a=x.length)∨∃r d,Lt c x r∧f r=some d∧a=min x.length c.length+d):=by
   intro sw c hc
   have hcn:=hcs c hc
   rcases two_ways x c with rfl|⟨r,hl⟩|⟨u,a,b,x',c',ne,rfl,rfl⟩
   ·refine ⟨some x.length,by cases sw <;> exact Wv.self hx,fun a=>⟨fun e => .inl ⟨rfl,(Option.some.inj e).symm⟩,fun e => ?_⟩⟩
    rcases e with ⟨_,e⟩|⟨r,d,hl,_⟩
    ·rw [e]
    ·exfalso
     obtain ⟨n,e|e⟩:=hl
     ·have:=congrArg List.length e;rw [List.length_append] at this;have:=List.length_pos_iff.mpr n; (first|lia|omega)
     ·have:=congrArg List.length e;rw [List.length_append] at this;have:=List.length_pos_iff.mpr n; (first|lia|omega)
   ·obtain ⟨⟨g1,w1,t1⟩,⟨g2,w2,t2⟩⟩:=ih c hc r hl hl.1
    have hne:c≠x:=fun e=>by
     subst e
     obtain ⟨n,e|e⟩:=hl
     ·have:=congrArg List.length e;rw [List.length_append] at this;have:=List.length_pos_iff.mpr n; (first|lia|omega)
     ·have:=congrArg List.length e;rw [List.length_append] at this;have:=List.length_pos_iff.mpr n; (first|lia|omega)
    have spec:∀{n:Nat},n=min x.length c.length→∀a,(f r).map (· + n)=some a ↔ ((c=x∧a=x.length)∨∃r d,Lt c x r∧f r=some d∧a=min x.length c.length+d):=fun {n} en a=>by
     refine ⟨fun e => ?_,fun e => ?_⟩
     ·obtain ⟨d,hd,e⟩:=Option.map_eq_some_iff.mp e
      exact .inr ⟨r,d,hl,hd,by first|lia|omega⟩
     ·rcases e with ⟨e,_⟩|⟨r',d,hl',hd,e⟩
      ·exact absurd e hne
      ·rw [hl.one hl',hd,e];show some (d+n)=_;congr 1; (first|lia|omega)
    obtain ⟨n,e|e⟩:=hl
    ·subst e
     refine ⟨(f r).map (· + c.length),?_,spec (by simp)⟩
     cases sw
     ·exact Wv.over n w1 t1 hcn
     ·exact Wv.over' n w2 t2 hcn
    ·subst e
     refine ⟨(f r).map (· + x.length),?_,spec (by simp)⟩
     cases sw
     ·exact Wv.over' n w2 t2 hx
     ·exact Wv.over n w1 t1 hx
   ·refine ⟨none,by cases sw;exact Wv.miss ne u;exact Wv.miss (Ne.symm ne) u,fun a=>⟨(fun e=>nomatch e),fun e => ?_⟩⟩
    rcases e with ⟨e,_⟩|⟨r,d,hl,_⟩
    ·have:=List.append_cancel_left e
     exact absurd (List.cons.inj this).1 (Ne.symm ne)
    ·exact (not_lt_miss ne hl).elim
  have pick:∀sw:Bool,∃g:Sg→Option Nat,(∀c∈cs,Wv cs (if sw then (c,x) else (x,c)) (g c))∧TopP (fun a=>∃c∈cs,g c=some a) v:=by
   intro sw
   refine ⟨fun c=>open Classical in if hc:c∈cs then (key sw c hc).choose else none,fun c hc => ?_,t.congr fun a=>⟨fun e => ?_,fun e => ?_⟩⟩
   ·dsimp only;rw [dif_pos hc];exact (key sw c hc).choose_spec.1
   ·rcases e with ⟨hc,e⟩|⟨c,hc,r,d,h1,h2,h3⟩
    ·refine ⟨x,hc,?_⟩
     dsimp only;rw [dif_pos hc];exact ((key sw x hc).choose_spec.2 a).mpr (.inl ⟨rfl,e⟩)
    ·refine ⟨c,hc,?_⟩
     dsimp only;rw [dif_pos hc];exact ((key sw c hc).choose_spec.2 a).mpr (.inr ⟨r,d,h1,h2,h3⟩)
   ·obtain ⟨c,hc,e⟩:=e
    dsimp only at e;rw [dif_pos hc] at e
    rcases ((key sw c hc).choose_spec.2 a).mp e with ⟨rfl,e⟩|⟨r,d,h1,h2,h3⟩
    ·exact .inl ⟨hc,e⟩
    ·exact .inr ⟨c,hc,r,d,h1,h2,h3⟩
  exact ⟨by simpa using pick false,by simpa using pick true⟩
theorem Wv.ends {cs:List Sg} {p:Sg×Sg} {v:Option Nat} (h:Wv cs p v):∀r,(Lt p.2 p.1 r→En cs r):=by
 induction h with
 | fin=>rintro r ⟨n,e|e⟩ <;> exact absurd e.symm (by simpa using n)
 | step p f v h1 h2 h t ih=>
  obtain ⟨x,y⟩:=p
  dsimp only at h1 h2
  intro r hl
  cases x with
  | nil=>exact absurd rfl h1
  | cons a x=>
   cases y with
   | nil=>exact absurd rfl h2
   | cons b y=>
    obtain ⟨n,e⟩:=hl
    have hab:a=b:=by
     rcases e with e|e
     ·exact (List.cons.inj e).1
     ·exact (List.cons.inj e).1.symm
    subst hab
    have e:x=y++r∨y=x++r:=e.imp (fun e=>(List.cons.inj e).2) fun e=>(List.cons.inj e).2
    by_cases hx:x=[]
    ·subst hx
     have hy:y=r:=by
      rcases e with e|e
      ·exact absurd (List.append_eq_nil_iff.mp e.symm).2 n
      ·simpa using e
     subst hy
     refine .mk _ fun c hc r' hl'=>ih (c,y) (by rw [nx_l n];exact List.mem_map.mpr ⟨c,hc,rfl⟩) r' ⟨hl'.1,hl'.2.symm⟩
    ·by_cases hy:y=[]
     ·subst hy
      have hx':x=r:=by
       rcases e with e|e
       ·simpa using e
       ·exact absurd (List.append_eq_nil_iff.mp e.symm).2 n
      subst hx'
      exact .mk _ fun c hc r' hl'=>ih (x,c) (by rw [nx_r n];exact List.mem_map.mpr ⟨c,hc,rfl⟩) r' hl'
     ·exact ih (x,y) (by rw [nx_both hx hy];exact List.mem_singleton.mpr rfl) r ⟨n,e⟩
theorem En.of_worth {cs:List Sg} {x:Sg} (h:∀c∈cs,∃v,Wv cs (x,c) v):En cs x := .mk _ fun c hc r hl=>by
 obtain ⟨v,hv⟩:=h c hc
 exact hv.ends r hl
inductive Rc (cs:List Sg):Sg×Sg→Prop
 | start (k:Nat) (d c:Sg) (h1:1≤k) (h2:k<d.length) (hd:d∈cs) (hc:c∈cs):Rc cs (d.drop k,c)
 | step (p q:Sg×Sg) (h:Rc cs p) (hq:q∈nx cs p):Rc cs q
theorem Rc.worth {cs:List Sg} (h:∀k d c,1≤k→k<d.length→d∈cs→c∈cs→∃v,Wv cs (d.drop k,c) v) {p:Sg×Sg} (r:Rc cs p):∃v,Wv cs p v:=by
 induction r with
 | start k d c h1 h2 hd hc=>exact h k d c h1 h2 hd hc
 | step p q _ hq ih=>
  obtain ⟨v,hv⟩:=ih
  exact hv.next hq
end Z
namespace Z
open PySem L2 PyProof.Rows
noncomputable def tlS (x:Str):Str:=Txt.slice x (some 1) none
theorem sg_tlS (x:Str):sg (tlS x)=(sg x).tail:=by
 have:=sl_fromN (x:=x) 1
 rw [List.drop_one] at this
 exact this
noncomputable abbrev sgp (p:Str×Str):Sg×Sg:=(sg p.1,sg p.2)
theorem sgp_inj {p q:Str×Str} (h:sgp p=sgp q):p=q:=by
 obtain ⟨a,b⟩:=p
 obtain ⟨c,d⟩:=q
 injection h with h1 h2
 have h1:a=c:=str_eq h1
 have h2:b=d:=str_eq h2
 rw [h1,h2]
noncomputable abbrev eP:Str×Str:=(Str.ofString "",Str.ofString "")
noncomputable def firstS (cs:List Str) (x:Str):List Str:=if 1<x.length then [tlS x] else cs
noncomputable def nxS (cs:List Str) (p:Str×Str):List (Str×Str):=
 if (sg p.1).head? ≠ (sg p.2).head? ∨ sg p.1=[] then [] else if p.1.length=1∧p.2.length=1 then [eP] else (firstS cs p.1).flatMap fun f=>(firstS cs p.2).map fun s=>(f,s)
theorem first_sg {cs:List Str} {x:Str} : (firstS cs x).map sg=if 1<(sg x).length then [(sg x).tail] else cs.map sg:=by
 have e:x.length=(sg x).length:=str_len x
 unfold firstS
 rw [e]
 split
 ·rw [List.map_singleton,sg_tlS]
 ·rfl
theorem nx_sg {cs:List Str} (p:Str×Str):(nxS cs p).map sgp=nx (cs.map sg) (sgp p):=by
 have e1:p.1.length=(sg p.1).length:=str_len _
 have e2:p.2.length=(sg p.2).length:=str_len _
 unfold nxS nx
 rw [e1,e2]
 split
 ·rfl
 ·split
  ·rfl
  ·rw [List.map_flatMap, ←first_sg, ←first_sg,List.flatMap_map]
   congr 1
   funext f
   rw [List.map_map,List.map_map];rfl
noncomputable def PrAt (H:Hp) (z:Addr×(Str×Str)):Prop:=H z.1=some (.tup [.str z.2.1, .str z.2.2])
noncomputable abbrev refs (zs:List (Addr×(Str×Str))):List V:=zs.map fun z=>V.ref z.1
noncomputable def spStp (K:PySem.W.Frag):Sp:=fun vs H Q _=>Ex4 fun (l a:Addr) (cs:List Str) (p:Str×Str)=>vs=[.ref l, .ref a]∧H l=some (.lst (cs.map V.str))∧PrAt H (a,p)∧cs.length≤16∧1≤p.1.length∧p.1.length≤12∧1≤p.2.length∧p.2.length≤12 ∧
 ∀(zs:List (Addr×(Str×Str))) (r:Addr) (H':Hp),Same H H'→H r=none→H' r=some (.lst (refs zs))→zs.map (·.2)=nxS cs p→(∀z∈zs,PrAt H' z)→Q (.ref r) H'
theorem PrAt.same {H H':Hp} {z:Addr×(Str×Str)} (h:PrAt H z) (s:Same H H'):PrAt H' z:=s _ _ h
theorem first_le {cs:List Str} (h:cs.length≤16) (x:Str):(firstS cs x).length≤16:=by
 unfold firstS;split
 ·show 1≤16;decide
 ·exact h
theorem fst_rd {K:PySem.W.Frag} {σ:L2.St} {i:Nat} {l:Addr} {z:Str} {cs:List Str} {H:Hp} {Qn:VK} (h0 : σ[0]? = some (some (.ref l))) (hi : σ[i]? = some (some (.str z))) (hz:z.length≤12) (hl:H l=some (.lst (cs.map V.str)))
  (k:∀p H4,Same H H4→H4 p=some (.lst ((firstS cs z).map V.str))→(p=l∨H p=none)→Qn (.ref p) H4) :
  tIf (tTest (tOp (rI0 fun i j=>V.bl (decide (j<i))) (tCB (fun xs H Q=>∃x n,xs=[x]∧LenV K x H n∧Q (V.int (n:Nat)) H) (tCons (tVar i) tNil)) (tC (V.int 1)))) (tLstN (tCons (tSl (rSlN K) (tVar i) (tPart (tC (V.int 1))) tNoPart) tNil)) (tVar 0) σ H Qn:=by
 refine ⟨_,hi,_,_,rfl,⟨sizeOk (by first|lia|omega),rfl⟩,_,_,rfl,rfl,_,rfl,ite2 (fun c => ?_) (fun c=>⟨_,h0,k l H (Same.refl _) ?_ (.inl rfl)⟩)⟩
 ·have c:=of_decide_eq_true c
  refine ⟨_,hi,_,rfl,?_⟩
  dsimp only [tNoPart]
  refine .inr ⟨z,rfl,sizeOk (by first|lia|omega),by show 1≤sizeLine;decide,fun r H4 n4=>k r H4 n4.same ?_ (.inr n4.nn)⟩
  unfold firstS;rw [if_pos (by first|lia|omega)];exact n4.at
 ·unfold firstS;rw [if_neg (fun z=>c (decide_eq_true (by first|lia|omega)))];exact hl
section
variable {P:Program} {w:World} {K:PySem.W.Frag} {mg:Str→Option Value} {base:Heap} {f:Addr} {fd:FuncData}
theorem sc_law_steps:FnScope ["_law_codes", "_law_pair", "_law_one", "_law_other", "_law_found", "_law_first"] ["_law_codes", "_law_pair"] (defScope (top i_law_steps)):=⟨rfl,rfl,rfl,by decide +kernel,rfl,by decide +kernel,by decide +kernel⟩
theorem ok_stp (F:Fun K "_law_steps" "_law_steps" (top i_law_steps) f fd) (T:Nm mg):FnOk P w K mg base CX0 1 f fd ["_law_codes", "_law_pair"] (spStp K):=by
 refine F.ok sc_law_steps (fun vs H Q E h => ?_) (fun cdv A outer s H vs Q E hr h => ?_)
 ·obtain ⟨l,a,cs,p,rfl,_⟩:=h
  rfl
 unfold spStp at h
 refine Elim.el h _ ?_
 clear h
 rintro l a cs p rfl hl hp cl x0 x1 y0 y1 q
 obtain ⟨x,y⟩:=p
 have hu6:=hr.units
 have small:∀{n:Nat},n≤1000→n<sizeLine:=fun h=>Nat.lt_of_le_of_lt h (by decide)
 have ex:x.length=(sg x).length:=str_len x
 have ey:y.length=(sg y).length:=str_len y
 dsimp only at x0 x1 y0 y1
 obtain ⟨cx,sx,hx⟩:∃c r,sg x=c :: r:=by
  cases h:sg x with
  | nil=>rw [h] at ex;simp at ex; (first|lia|omega)
  | cons c r=>exact ⟨c,r,rfl⟩
 obtain ⟨cy,sy,hy⟩:∃c r,sg y=c :: r:=by
  cases h:sg y with
  | nil=>rw [h] at ey;simp at ey; (first|lia|omega)
  | cons c r=>exact ⟨c,r,rfl⟩
 have ax:atI x.cps.toList 0=some cx:=at_nat (by decide) (by show (sg x)[0]? = _;rw [hx];rfl)
 have ay:atI y.cps.toList 0=some cy:=at_nat (by decide) (by show (sg y)[0]? = _;rw [hy];rfl)
 refine ⟨_,(pss_cons (ps_asg (pv 1) (tupK K 2 rfl (pgs_cons (pg_name (i:=2) sc_law_steps.nd rfl (Or.inl rfl)) (pgs_cons (pg_name (i:=3) sc_law_steps.nd rfl (Or.inl rfl)) pgs_nil))))
  (pss_cons (ps_if (pt_cmpR (neK K hu6) (pe_ix (ixK K) (pv 2) pe_int (fun _ _=>rfl)) (pe_ix (ixK K) (pv 3) pe_int (fun _ _=>rfl)) (nomark _)) (pss_one (ps_ret (lstN pa_nil))) pss_nil)
  (pss_cons (ps_if (PW.pt (pw_and (pt_cmpR (eqK K hu6) (pe_callB (lenK K) rfl T.n_len (by rfl) (pa_cons (pv 2) pa_nil)) pe_int (nomark _)) (pw_and1 (pt_cmpR (eqK K hu6) (pe_callB (lenK K) rfl T.n_len (by rfl) (pa_cons (pv 3) pa_nil)) pe_int (nomark _))))) (pss_one (ps_ret (lstN (pa_cons (tupN (pa_cons pe_str (pa_cons pe_str pa_nil))) pa_nil)))) pss_nil)
  (pss_cons (ps_set (i:=4) sc_law_steps.nd rfl (Or.inl rfl) (lstN pa_nil))
  (pss_cons (ps_for PassesOwn.never rfl (piK K (pe_ifExp (pt_cmpR op_gt (pe_callB (lenK K) rfl T.n_len (by rfl) (pa_cons (pv 2) pa_nil)) pe_int (nomark _)) (lstN (pa_cons (pe_slice (slN K) (pv 2) (po_some pe_int) po_none) pa_nil)) (pv 0))) (pg_name (i:=5) sc_law_steps.nd rfl (Or.inr rfl)) (pss_one (ps_expr (bmK K PySem.F.plainAttrs_list PySem.F.slot_list_extend PySem.F.type_list_extend extendN (pv 4) (pa_cons (pe_lcomp rfl (comp_ok (Nc:=["_law_second"]) (Fc:=["_law_first"]) (js:=[5])) (piK K (pe_ifExp (pt_cmpR op_gt (pe_callB (lenK K) rfl T.n_len (by rfl) (pa_cons (pv 3) pa_nil)) pe_int (nomark _)) (lstN (pa_cons (pe_slice (slN K) (pv 3) (po_some pe_int) po_none) pa_nil)) (pv 0))) (gk_name (i:=0) (n:=1) (by decide)) (fun _ _ _ _ _=>(pg_name (i:=0) (show (["_law_second", "_law_first"]:List Str).Nodup by decide +kernel) rfl (Or.inl rfl))) (fun _ _ _ _ _=>pts_nil) (fun _ _ _ _ _=>(tupN (pa_cons (pv 1) (pa_cons (pv 0) pa_nil))))) pa_nil)))))
  (pss_one (ps_ret (pv 4)))))))),?_⟩
 refine ⟨_,rfl,a,_,rfl,SqT.of hp,rfl,_,_,rfl,_,_,rfl,rfl,?_⟩
 refine ⟨_,rfl, .inr (.inr ⟨x,_,cx,rfl,rfl,sizeOk (by first|lia|omega),ax,_,rfl, .inr (.inr ⟨y,_,cy,rfl,rfl,sizeOk (by first|lia|omega),ay, .inl ⟨rfl,_,rfl,?_⟩⟩)⟩)⟩
 have ehd:(!decide (V.str ⟨#[cx]⟩=V.str ⟨#[cy]⟩))=true ↔ (sg x).head? ≠ (sg y).head?:=by
  rw [hx,hy]
  by_cases h:cx=cy
  ·subst h;simp
  ·rw [decide_eq_false (fun z=>h (by injection z with z;injection z with z;simpa using z))]
   exact ⟨fun _ z=>h (Option.some.inj z),fun _=>rfl⟩
 refine ite2 (fun c=>⟨by show 0≤sizeLine;decide,fun r H1 n1=>q [] r H1 n1.same n1.nn n1.at ?_ (fun z h=>nomatch h)⟩) (fun c => ?_)
 ·unfold nxS;rw [if_pos (.inl (ehd.mp c))];rfl
 have hne:¬((sg x).head? ≠ (sg y).head? ∨ sg x=[]):=fun z=>z.elim (fun z=>c (ehd.mpr z)) fun z=>by rw [hx] at z;cases z
 dsimp only [tNext]
 refine seqCut (t:=tIfS _ _ _) (fun σ H'=>H'=H ∧ σ=[some (.ref l),some (.ref a),some (.str x),some (.str y),none,none]∧¬(x.length=1∧y.length=1)) (fun Nx nx => ?_) ?_
 ·refine ⟨_,rfl,_,_,rfl,⟨sizeOk (by first|lia|omega),rfl⟩, .inl ⟨rfl,_,rfl,ite2 (fun c1 => ?_) (fun c1=>iteF (nx _ _ ⟨rfl,rfl,fun z=>c1 ?_⟩))⟩⟩
  ·refine ⟨_,rfl,_,_,rfl,⟨sizeOk (by first|lia|omega),rfl⟩, .inl ⟨rfl,_,rfl,ite2 (fun c2 => ?_) (fun c2=>nx _ _ ⟨rfl,rfl,fun z=>c2 ?_⟩)⟩⟩
   ·refine ⟨by show 2≤sizeLine;decide,fun t H1 n1=>⟨by show 1≤sizeLine;decide,fun r H2 n2=>q [(t,eP)] r H2 (n1.same.trans n2.same) (n1.back n2.nn) n2.at ?_ (fun z hz => ?_)⟩⟩
    ·unfold nxS
     rw [if_neg hne,if_pos];rfl
     have e1:=of_decide_eq_true c1
     have e2:=of_decide_eq_true c2
     injection e1 with e1;injection e2 with e2
     exact ⟨by show x.length=1; (first|lia|omega),by show y.length=1; (first|lia|omega)⟩
    ·rw [List.mem_singleton.mp hz];exact n2.same _ _ n1.at
   ·rw [z.2];rfl
  ·rw [z.1];rfl
 rintro σ H1 ⟨rfl,rfl,h11⟩
 refine ⟨by show 0≤sizeLine;decide,fun pl H2 n2=>gn ?_⟩
 have hpl0:H1 pl=none:=n2.nn
 have enx:nxS cs (x,y)=(firstS cs x).flatMap fun f=>(firstS cs y).map fun s=>(f,s):=by
  unfold nxS;rw [if_neg hne,if_neg h11]
 rw [enx] at q
 have fl:=first_le cl x
 have sl':=first_le cl y
 obtain ⟨fs,hfs⟩:∃fs,fs=firstS cs x:=⟨_,rfl⟩
 obtain ⟨ss,hss⟩:∃ss,ss=firstS cs y:=⟨_,rfl⟩
 rw [←hfs] at q fl
 rw [←hss] at q sl'
 have pfl:fs.length=1∨ss.length=1:=by
  rw [hfs,hss];unfold firstS
  by_cases h1:1<x.length
  ·rw [if_pos h1];exact .inl rfl
  ·by_cases h2:1<y.length
   ·rw [if_pos h2];exact .inr rfl
   ·exact absurd ⟨by first|lia|omega,by first|lia|omega⟩ h11
 dsimp only
 have at1:∀{xs:List Str} {i:Nat} (hi:i<xs.length),(xs.map V.str)[i]? = some (.str xs[i]):=fun hi=>by rw [List.getElem?_map,List.getElem?_eq_getElem hi];rfl
 refine seqCut (t:=tFor _ _ _) (fun σ H'=>Ex2 fun (x5:Option V) (zs:List (Addr×(Str×Str))) => σ=[some (.ref l),some (.ref a),some (.str x),some (.str y),some (.ref pl),x5]∧Same H1 H'∧H' pl=some (.lst (refs zs))∧zs.map (·.2)=fs.flatMap (fun f=>ss.map fun s=>(f,s))∧∀z∈zs,PrAt H' z) (fun Nx nx => ?_) ?_
 ·refine fst_rd (K:=K) (i:=2) (cs:=cs) (l:=l) (z:=x) rfl rfl x1 (n2.same _ _ hl) fun p H3 s3 hp3 hpn=>⟨p,rfl,⟨_,SqL.of hp3⟩,?_⟩
  rw [←hfs] at hp3
  have s13:=n2.same.trans s3
  have lpl:l≠pl:=ne_of_none hl n2.nn
  have ppl:p≠pl:=hpn.elim (fun e=>e ▸ lpl) fun e z=>by rw [z,n2.at] at e;cases e
  refine for_go (N:=fs.length) (fun i σ H'=>Ex2 fun (x5:Option V) (zs:List (Addr×(Str×Str))) => σ=[some (.ref l),some (.ref a),some (.str x),some (.str y),some (.ref pl),x5]∧Same H1 H'∧H' p=some (.lst (fs.map V.str))∧H' pl=some (.lst (refs zs))∧zs.map (·.2)=(fs.take i).flatMap (fun f=>ss.map fun s=>(f,s))∧∀z∈zs,PrAt H' z) ⟨_,[],rfl,s13,hp3,s3 _ _ n2.at,rfl,fun z h=>nomatch h⟩ ?_ ?_
  ·intro i σ H4 hi hz_
   refine Elim.el hz_ _ ?_
   clear hz_
   rintro x5 zs rfl s4 hp4 hpl4 ez hz
   refine ⟨⟨_,_,SqL.of hp4,at1 hi⟩,?_⟩
   rintro v H5 ⟨rfl,hv⟩
   have e:=hv _ (SqL.of hp4)
   rw [at1 hi] at e;cases e
   refine gn ?_
   have htk:=take_next hi
   generalize fs[i]=fi at htk
   dsimp only
   refine ⟨_,rfl, .inl ⟨rfl,_,SqL.of hpl4⟩,?_⟩
   refine fst_rd (K:=K) (i:=3) (cs:=cs) (l:=l) (z:=y) rfl rfl y1 (s4 _ _ hl) fun p6 H6 s6 hp6 hpn6=>⟨p6,rfl,⟨_,SqL.of hp6⟩,?_⟩
   rw [←hss] at hp6
   refine comp_go (N:=ss.length) (fun k ys H'=>∃ws:List (Addr×(Str×Str)),ys=refs ws∧Same H6 H'∧ws.map (·.2)=(ss.take k).map (fun s=>(fi,s))∧∀z∈ws,PrAt H' z) ⟨[],rfl,Same.refl _,rfl,fun z h=>nomatch h⟩ ?_ ?_
   ·intro k ys H7 Ny hk hz_ ny
    refine Elim.el hz_ _ ?_
    clear hz_
    rintro ws rfl s7 ew hw
    have wl:ws.length=k:=by
     have:=congrArg List.length ew
     rw [List.length_map,List.length_map,List.length_take] at this
     (first|lia|omega)
    refine ⟨⟨_,_,SqL.of (s7 _ _ hp6),at1 hk⟩,small (by rw [List.length_map]; (first|lia|omega)),?_⟩
    rintro v H8 ⟨rfl,hv⟩
    have e:=hv _ (SqL.of (s7 _ _ hp6))
    rw [at1 hk] at e;cases e
    refine gn ?_
    dsimp only [tYes]
    rw [if_pos rfl]
    refine ⟨_,rfl,_,rfl,by show 2≤sizeLine;decide,fun t H9 n9=>ny _ _ ⟨ws++[(t,(fi,ss[k]))],by unfold refs;rw [List.map_append];rfl,s7.trans n9.same,?_,fun z hz => ?_⟩⟩
    ·rw [List.map_append,ew,take_next hk,List.map_append];rfl
    ·rcases List.mem_append.mp hz with hz|hz
     ·exact (hw z hz).same n9.same
     ·rw [List.mem_singleton.mp hz];exact n9.at
   ·intro ys H7 hz_
    refine Elim.el hz_ _ ?_
    clear hz_
    rintro ws rfl s7 ew hw
    rw [List.take_length] at ew
    have wl:ws.length=ss.length:=by
     have:=congrArg List.length ew
     rw [List.length_map,List.length_map] at this
     exact this
    refine ⟨⟨_,SqL.of (s7 _ _ hp6),by rw [List.length_map];exact Nat.le_refl _⟩,fun t ht => ?_⟩
    obtain ⟨H8,n8⟩:∃H8,New H7 t (.lst (refs ws)) H8:=⟨_,ht,rfl⟩
    rw [←n8.eq]
    have s58:=(s6.trans s7).trans n8.same
    have zl:zs.length≤16*i:=by
     have:=congrArg List.length ez
     rw [List.length_map,List.length_flatMap] at this
     rw [this]
     have:((fs.take i).map fun f=>(ss.map fun s=>(f,s)).length).sum≤16*(fs.take i).length:=by
      generalize fs.take i=gs
      induction gs with
      | nil=>exact Nat.le_refl _
      | cons g gs ih=>rw [List.map_cons,List.sum_cons,List.length_cons,List.length_map]; (first|lia|omega)
     rw [List.length_take] at this
     exact Nat.le_trans this (Nat.mul_le_mul_left _ (Nat.min_le_left _ _))
    refine ⟨pl,t,_,_,rfl,rfl,s58 _ _ hpl4,n8.at,by rw [List.length_map,List.length_map];exact sizeOk (by first|lia|omega),fun H9 c9=>⟨_,zs++ws,rfl,fun b o e => ?_,?_,?_,?_,fun z hz' => ?_⟩⟩
    ·rw [c9.ne (ne_of_none e hpl0)];exact s58 _ _ (s4 b o e)
    ·rw [c9.ne ppl];exact s58 _ _ hp4
    ·rw [c9.at];unfold refs;rw [List.map_append]
    ·rw [List.map_append,ez,ew,htk,List.flatMap_append,List.flatMap_cons,List.flatMap_nil,List.append_nil]
    ·have hold:∀{b:Addr} {us:List V},H8 b=some (.tup us)→H9 b=some (.tup us):=fun {b us} e=>by
      rw [c9.ne (fun z=>by rw [z,s58 _ _ hpl4] at e;cases e)];exact e
     rcases List.mem_append.mp hz' with hz'|hz'
     ·exact hold (s58 _ _ (hz z hz'))
     ·exact hold (n8.same _ _ (hw z hz'))
  ·intro σ H4 hz_
   refine Elim.el hz_ _ ?_
   clear hz_
   rintro x5 zs rfl s4 hp4 hpl4 ez hz
   rw [List.take_length] at ez
   exact ⟨⟨_,SqL.of hp4,by rw [List.length_map];exact Nat.le_refl _⟩,nx _ _ ⟨x5,zs,rfl,s4,hpl4,ez,hz⟩⟩
 intro σ H3 hz_
 refine Elim.el hz_ _ ?_
 clear hz_
 rintro x5 zs rfl s3 hpl ez hz
 exact ⟨_,rfl,q zs pl H3 s3 hpl0 hpl ez hz⟩
end
end Z
namespace Z
open PySem L2 PyProof.Rows
structure Cods (cs:List Str):Prop where
 le:cs.length≤16
 cd:∀c∈cs,CodeOk 12 c
noncomputable def SfC (cs:List Str) (x:Str):Prop:=∃c∈cs,∃a,a<(sg c).length∧sg x=(sg c).drop a
noncomputable def PrOk (cs:List Str) (p:Str×Str):Prop:=SfC cs p.1∧SfC cs p.2
theorem SfC.code {cs:List Str} (g:Cods cs) {c:Str} (h:c∈cs):SfC cs c:=⟨c,h,0,by have:=(g.cd c h).pos;have e:c.length=(sg c).length:=str_len c; (first|lia|omega),rfl⟩
theorem SfC.len {cs:List Str} (g:Cods cs) {x:Str} (h:SfC cs x):1≤x.length∧x.length≤12:=by
 obtain ⟨c,hc,a,ha,e⟩:=h
 have h1:=(g.cd c hc).le
 have e1:c.length=(sg c).length:=str_len c
 have e2:x.length=(sg x).length:=str_len x
 rw [e,List.length_drop] at e2
 (first|lia|omega)
theorem SfC.bin {cs:List Str} (g:Cods cs) {x:Str} (h:SfC cs x):Bin x:=fun ch hc=>by
 obtain ⟨c,hc',a,ha,e⟩:=h
 have hc:ch∈sg x:=hc
 rw [e] at hc
 exact (g.cd c hc').bin ch (List.mem_of_mem_drop hc)
theorem SfC.tl {cs:List Str} {x:Str} (h:SfC cs x) (h1:1<x.length):SfC cs (tlS x):=by
 obtain ⟨c,hc,a,ha,e⟩:=h
 have e2:x.length=(sg x).length:=str_len x
 refine ⟨c,hc,a+1,?_,?_⟩
 ·rw [e,List.length_drop] at e2; (first|lia|omega)
 ·rw [sg_tlS,e,List.tail_drop]
theorem SfC.first {cs:List Str} (g:Cods cs) {x y:Str} (h:SfC cs x) (hy:y∈firstS cs x):SfC cs y:=by
 unfold firstS at hy
 split at hy
 ·rw [List.mem_singleton.mp hy];exact h.tl (by assumption)
 ·exact SfC.code g hy
theorem PrOk.next {cs:List Str} (g:Cods cs) {p q:Str×Str} (h:PrOk cs p) (hq:q∈nxS cs p):q=eP∨PrOk cs q:=by
 unfold nxS at hq
 split at hq
 ·cases hq
 ·split at hq
  ·exact .inl (List.mem_singleton.mp hq)
  ·obtain ⟨f,hf,hq⟩:=List.mem_flatMap.mp hq
   obtain ⟨s,hs,rfl⟩:=List.mem_map.mp hq
   exact .inr ⟨h.1.first g hf,h.2.first g hs⟩
noncomputable def sfs (cs:List Str):List Str:=cs.flatMap fun c=>(List.range (sg c).length).map fun a=>⟨((sg c).drop a).toArray⟩
theorem SfC.mem {cs:List Str} {x:Str} (h:SfC cs x):x∈sfs cs:=by
 obtain ⟨c,hc,a,ha,e⟩:=h
 refine List.mem_flatMap.mpr ⟨c,hc,List.mem_map.mpr ⟨a,List.mem_range.mpr ha,str_eq ?_⟩⟩
 show ((sg c).drop a).toArray.toList=_
 rw [List.toList_toArray];exact e.symm
theorem sfs_len {cs:List Str} (h:∀c∈cs,CodeOk 12 c):(sfs cs).length≤12*cs.length:=by
 induction cs with
 | nil=>exact Nat.le_refl _
 | cons c cs ih=>
  have h1:=ih fun x hx=>h x (List.mem_cons_of_mem _ hx)
  have h2:=(h c List.mem_cons_self).le
  have e:c.length=(sg c).length:=str_len c
  show (((List.range (sg c).length).map _)++sfs cs).length≤_
  rw [List.length_append,List.length_map,List.length_range,List.length_cons]
  (first|lia|omega)
noncomputable def allP (cs:List Str):List (Str×Str):=eP :: (sfs cs).flatMap fun x=>(sfs cs).map fun y=>(x,y)
theorem allP_len {cs:List Str} (g:Cods cs):(allP cs).length≤40000:=by
 have h1:=sfs_len g.cd
 have h2:=g.le
 have key:∀(l m:List Str),(l.flatMap fun x=>m.map fun y=>(x,y)).length=l.length*m.length:=fun l m=>by
  induction l with
  | nil=>simp
  | cons a l ih=>rw [List.flatMap_cons,List.length_append,ih,List.length_map,List.length_cons,Nat.succ_mul]; (first|lia|omega)
 unfold allP
 rw [List.length_cons,key]
 have:(sfs cs).length*(sfs cs).length≤192*192:=Nat.mul_le_mul (by first|lia|omega) (by first|lia|omega)
 (first|lia|omega)
theorem PrOk.mem {cs:List Str} {p:Str×Str} (h:p=eP∨PrOk cs p):p∈allP cs:=by
 rcases h with rfl|⟨h1,h2⟩
 ·exact List.mem_cons_self
 ·exact List.mem_cons_of_mem _ (List.mem_flatMap.mpr ⟨p.1,h1.mem,List.mem_map.mpr ⟨p.2,h2.mem,rfl⟩⟩)
noncomputable def pk (p:Str×Str):List Key:=[.inr p.1, .inr p.2]
theorem pk_inj {p q:Str×Str} (h:pk p=pk q):p=q:=by
 obtain ⟨a,b⟩:=p
 obtain ⟨c,d⟩:=q
 injection h with h1 h2
 injection h2 with h2 _
 injection h1 with h1
 injection h2 with h2
 rw [show a=c from h1,show b=d from h2]
noncomputable def prK (r:(Str×Str)×Addr):List Key×V:=(pk r.1, .ref r.2)
noncomputable def NxAt (cs:List Str) (H:Hp) (r:(Str×Str)×Addr):Prop:=∃zs,H r.2=some (.lst (refs zs))∧zs.map (·.2)=nxS cs r.1∧∀z∈zs,PrAt H z
theorem NxAt.same {cs:List Str} {H H':Hp} {r:(Str×Str)×Addr} (h:NxAt cs H r) (s:Same H H'):NxAt cs H' r:=by
 obtain ⟨zs,h1,h2,h3⟩:=h
 exact ⟨zs,s _ _ h1,h2,fun z hz=>(h3 z hz).same s⟩
theorem PrAt.chg {H H':Hp} {a:Addr} {o u:HO} (c:Chg H a o H') (ha:H a=some u) (nt:∀xs,u ≠ .tup xs) {z:Addr×(Str×Str)} (h:PrAt H z):PrAt H' z:=by
 unfold PrAt
 rw [c.ne (fun e=>by have h:=h;unfold PrAt at h;rw [e,ha] at h;exact nt _ (Option.some.inj h))]
 exact h
theorem NxAt.chg {cs:List Str} {H H':Hp} {a:Addr} {o u:HO} (c:Chg H a o H') (ha:H a=some u) (nt:∀xs,u ≠ .tup xs) {r:(Str×Str)×Addr} (h:NxAt cs H r) (ne:r.2≠a):NxAt cs H' r:=by
 obtain ⟨zs,h1,h2,h3⟩:=h
 exact ⟨zs,by rw [c.ne ne];exact h1,h2,fun z hz=>(h3 z hz).chg c ha nt⟩
structure Prs (cs:List Str) (rs:List ((Str×Str)×Addr)):Prop where
 nd:(rs.map (·.1)).Nodup
 le:rs.length≤40000
 fin:eP∈rs.map (·.1)
 ok:∀p∈rs.map (·.1),p=eP∨(PrOk cs p∧Rc (cs.map sg) (sgp p))
 ini:∀d∈cs,∀a,1≤a→a<(sg d).length→∀p:Str×Str,sg p.1=(sg d).drop a→p.2∈cs→p∈rs.map (·.1)
 cl:∀p∈rs.map (·.1),∀q∈nxS cs p,q∈rs.map (·.1)
noncomputable def spPrs (K:PySem.W.Frag):Sp:=fun vs H Q _=>Ex2 fun (l:Addr) (cs:List Str)=>vs=[.ref l]∧H l=some (.lst (cs.map V.str))∧Cods cs ∧
 ∀(d:Addr) (rs:List ((Str×Str)×Addr)) (H':Hp),Same H H'→H d=none→H' d=some (.dT (rs.map prK))→Prs cs rs→(∀r∈rs,NxAt cs H' r)→Q (.ref d) H'
theorem denP {K:PySem.W.Frag} {H:Hp} : ∀{ws:List (Addr×(Str×Str))},(∀z∈ws,PrAt H z)→Dens K H (ws.map fun z => .tuple [.str z.2.1, .str z.2.2]) (refs ws)
 | [],_=>by unfold Dens;rfl
 | z :: ws,h=>by
  unfold refs
  rw [List.map_cons,List.map_cons]
  unfold Dens
  refine ⟨_,_,rfl,?_,denP fun y hy=>h y (List.mem_cons_of_mem _ hy)⟩
  unfold Den
  refine ⟨z.1,_,rfl,SqT.of (h z List.mem_cons_self),?_⟩
  unfold Dens
  refine ⟨_,_,rfl,by unfold Den;rfl,?_⟩
  unfold Dens
  refine ⟨_,_,rfl,by unfold Den;rfl,?_⟩
  unfold Dens;rfl
theorem shP {ws:List (Addr×(Str×Str))} (h:∀z∈ws,Bin z.2.1∧Bin z.2.2):SeqAt.shaped (.list (ws.map fun z => .tuple [.str z.2.1, .str z.2.2]))=true:=(Sh.list (n:=1) fun d hd=>by
 obtain ⟨z,hz,rfl⟩:=List.mem_map.mp hd
 refine Sh.tuple fun e he => ?_
 simp at he
 rcases he with rfl|rfl
 ·exact Sh.str (canLay_small fun ch hc=>by rcases (h z hz).1 ch hc with e|e <;> (first|lia|omega))
 ·exact Sh.str (canLay_small fun ch hc=>by rcases (h z hz).2 ch hc with e|e <;> (first|lia|omega))).shaped (by decide)
theorem prk_keys (rs:List ((Str×Str)×Addr)):(rs.map prK).map (·.1)=(rs.map (·.1)).map pk:=by rw [List.map_map,List.map_map];rfl
theorem prk_in {rs:List ((Str×Str)×Addr)} {p:Str×Str} : (valV (rs.map prK) (pk p)).isSome=true ↔ p∈rs.map (·.1):=by
 cases hv:valV (rs.map prK) (pk p) with
 | none=>
  refine ⟨(fun h=>nomatch h),fun h=>absurd ?_ (valV_not hv)⟩
  rw [prk_keys];exact List.mem_map_of_mem h
 | some v=>
  refine ⟨fun _ => ?_,fun _=>rfl⟩
  have:=valV_in hv
  rw [prk_keys] at this
  obtain ⟨x,hx,e⟩:=List.mem_map.mp this
  rw [←pk_inj e];exact hx
theorem nxS_le {cs:List Str} (h:cs.length≤16) (p:Str×Str):(nxS cs p).length≤16:=by
 have key:∀(l m:List Str),(l.flatMap fun x=>m.map fun y=>(x,y)).length=l.length*m.length:=fun l m=>by
  induction l with
  | nil=>simp
  | cons a l ih=>rw [List.flatMap_cons,List.length_append,ih,List.length_map,List.length_cons,Nat.succ_mul]; (first|lia|omega)
 unfold nxS
 split
 ·decide
 ·split
  ·decide
  ·rename_i h0 h1
   rw [key]
   unfold firstS
   have hp1:1≤p.1.length:=by
    have e:p.1.length=(sg p.1).length:=str_len _
    cases h:sg p.1 with
    | nil=>exact absurd (.inr h) h0
    | cons a r=>rw [e,h];simp
   have hp2:1≤p.2.length:=by
    have e:p.2.length=(sg p.2).length:=str_len _
    cases h:sg p.2 with
    | nil=>
     cases h':sg p.1 with
     | nil=>exact absurd (.inr h') h0
     | cons a r=>exact absurd (.inl (by rw [h,h'];simp)) h0
    | cons a r=>rw [e,h];simp
   by_cases c1:1<p.1.length
   ·rw [if_pos c1]
    show 1*_≤16
    split
    ·show 1*1≤16;decide
    ·(first|lia|omega)
   ·rw [if_neg c1,if_pos (by first|lia|omega)]
    show _*1≤16
    (first|lia|omega)
section
variable {P:Program} {w:World} {K:PySem.W.Frag} {mg:Str→Option Value} {base:Heap} {f:Addr} {fd:FuncData}
theorem sc_law_pairs:FnScope ["_law_codes", "_law_waiting", "_law_code", "_law_place", "_law_found", "_law_pair"] ["_law_codes"] (defScope (top i_law_pairs)):=⟨rfl,rfl,rfl,by decide +kernel,rfl,by decide +kernel,by decide +kernel⟩
theorem ok_prs (F:Fun K "_law_pairs" "_law_pairs" (top i_law_pairs) f fd) (T:Nm mg) (f_law_steps:Fn P w K mg base 1 "_law_steps" ["_law_codes", "_law_pair"] (spStp K)):FnOk P w K mg base CX0 2 f fd ["_law_codes"] (spPrs K):=by
 refine F.ok sc_law_pairs (fun vs H Q E h => ?_) (fun cdv A outer s H vs Q E hr h => ?_)
 ·obtain ⟨l,cs,rfl,_⟩:=h
  rfl
 unfold spPrs at h
 refine Elim.el h _ ?_
 clear h
 rintro l cs rfl hl g q
 have hu:=hu_of hr
 have hu6:=hr.units
 have hle:=g.le
 have small:∀{n:Nat},n≤1000→n<sizeLine:=fun h=>Nat.lt_of_le_of_lt h (by decide)
 have big:∀{n:Nat},n≤5000000→n<sizeLine:=fun h=>Nat.lt_of_le_of_lt h (by decide)
 have at1:∀{xs:List Str} {i:Nat} (hi:i<xs.length),(xs.map V.str)[i]? = some (.str xs[i]):=fun hi=>by rw [List.getElem?_map,List.getElem?_eq_getElem hi];rfl
 refine ⟨_,(pss_cons (ps_set (i:=1) sc_law_pairs.nd rfl (Or.inl rfl) (lstN pa_nil))
  (pss_cons (ps_for PassesOwn.never rfl (piK K (pv 0)) (pg_name (i:=2) sc_law_pairs.nd rfl (Or.inr rfl)) (pss_one (ps_for PassesOwn.never rfl (pi_range2 rfl T.n_range (pa_cons pe_int (pa_cons (pe_callB (lenK K) rfl T.n_len (by rfl) (pa_cons (pv 2) pa_nil)) pa_nil))) (pg_name (i:=3) sc_law_pairs.nd rfl (Or.inr rfl)) (pss_one (ps_expr (bmK K PySem.F.plainAttrs_list PySem.F.slot_list_extend PySem.F.type_list_extend extendN (pv 1) (pa_cons (pe_lcomp rfl (comp_ok (Nc:=["_law_other"]) (Fc:=["_law_code", "_law_place"]) (js:=[2,3])) (piK K (pv 0)) (gk_name (i:=0) (n:=1) (by decide)) (fun _ _ _ _ _=>(pg_name (i:=0) (show (["_law_other", "_law_code", "_law_place"]:List Str).Nodup by decide +kernel) rfl (Or.inl rfl))) (fun _ _ _ _ _=>pts_nil) (fun _ _ _ _ _=>(tupN (pa_cons (pe_slice (slN K) (pv 1) (po_some (pv 2)) po_none) (pa_cons (pv 0) pa_nil))))) pa_nil)))))))
  (pss_cons (ps_set (i:=4) sc_law_pairs.nd rfl (Or.inl rfl) (pe_dispT hu (tupN (pa_cons pe_str (pa_cons pe_str pa_nil))) (lstN pa_nil)))
  (pss_cons (ps_while PassesOwn.never (pt_cmpR (neK K hu6) (pv 1) (lstN pa_nil) (nomark _)) (pss_cons (ps_set (i:=5) sc_law_pairs.nd rfl (Or.inl rfl) (bm0K K PySem.F.plainAttrs_list PySem.F.slot_list_pop PySem.F.type_list_pop popN (pv 1)))
  (pss_one (ps_if (pt_cmp (pc_dnotin hu (pv 5) (pv 4))) (pss_cons (ps_dput hu (pv 4) (pv 5) (pe_fn (f_law_steps.mono (by first|decide|exact Nat.le_refl _|(first|lia|omega))) hr rfl (pa_cons (pv 0) (pa_cons (pv 5) pa_nil))) rfl)
  (pss_one (ps_expr (bmK K PySem.F.plainAttrs_list PySem.F.slot_list_extend PySem.F.type_list_extend extendN (pv 1) (pa_cons (pe_dget hu (pv 4) (pv 5) (fun _ _=>rfl)) pa_nil))))) pss_nil))))
  (pss_one (ps_ret (pv 4))))))),?_⟩
 refine ⟨by show 0≤sizeLine;decide,fun wp H1 n1=>gn ?_⟩
 have hw0:H wp=none:=n1.nn
 have lw:l≠wp:=ne_of_none hl hw0
 dsimp only
 refine seqCut (t:=tFor _ _ _) (fun σ H'=>Ex3 fun (x2 x3:Option V) (ws:List (Addr×(Str×Str))) => σ=[some (.ref l),some (.ref wp),x2,x3,none,none]∧Same H H'∧H' wp=some (.lst (refs ws))∧ws.length≤4000∧(∀z∈ws,PrAt H' z∧PrOk cs z.2∧Rc (cs.map sg) (sgp z.2))∧∀d∈cs,∀a,1≤a→a<(sg d).length→∀p:Str×Str,sg p.1=(sg d).drop a→p.2∈cs→p∈ws.map (·.2)) (fun Nx nx => ?_) ?_
 ·refine ⟨_,rfl,l,rfl,⟨_,SqL.of (n1.same _ _ hl)⟩,?_⟩
  refine for_go (N:=cs.length) (fun i σ H'=>Ex3 fun (x2 x3:Option V) (ws:List (Addr×(Str×Str))) => σ=[some (.ref l),some (.ref wp),x2,x3,none,none]∧Same H H'∧H' wp=some (.lst (refs ws))∧ws.length≤200*i∧(∀z∈ws,PrAt H' z∧PrOk cs z.2∧Rc (cs.map sg) (sgp z.2))∧∀d∈cs.take i,∀a,1≤a→a<(sg d).length→∀p:Str×Str,sg p.1=(sg d).drop a→p.2∈cs→p∈ws.map (·.2)) ⟨_,_,[],rfl,n1.same,n1.at,Nat.le_refl _,(fun z h=>nomatch h),fun d h=>nomatch h⟩ ?_ ?_
  ·intro i σ H2 hi hz_
   refine Elim.el hz_ _ ?_
   clear hz_
   rintro x2 x3 ws rfl s2 hw2 wl wz wc
   refine ⟨⟨_,_,SqL.of (s2 _ _ hl),at1 hi⟩,?_⟩
   rintro v H3 ⟨rfl,hv⟩
   have e:=hv _ (SqL.of (s2 _ _ hl))
   rw [at1 hi] at e;cases e
   refine gn ?_
   have hm:=List.getElem_mem hi
   have hc:=g.cd _ hm
   have htk:=take_next hi
   generalize cs[i]=c at hm hc htk
   have hc0:=hc.pos
   have hc1:=hc.le
   have ec:c.length=(sg c).length:=str_len c
   dsimp only
   refine ⟨_,rfl,_,_,rfl,⟨sizeOk (by first|lia|omega),rfl⟩,1,(c.length:Nat),rfl,⟨by first|lia|omega,by first|lia|omega,by first|lia|omega,by first|lia|omega⟩,?_⟩
   refine for_go (N:=c.length-1) (fun k σ H'=>Ex2 fun (x3:Option V) (ws:List (Addr×(Str×Str))) => σ=[some (.ref l),some (.ref wp),some (.str c),x3,none,none]∧Same H H'∧H' wp=some (.lst (refs ws))∧ws.length≤200*i+16*k∧(∀z∈ws,PrAt H' z∧PrOk cs z.2∧Rc (cs.map sg) (sgp z.2))∧(∀d∈cs.take i,∀a,1≤a→a<(sg d).length→∀p:Str×Str,sg p.1=(sg d).drop a→p.2∈cs→p∈ws.map (·.2))∧∀a,1≤a→a≤k→∀p:Str×Str,sg p.1=(sg c).drop a→p.2∈cs→p∈ws.map (·.2)) ⟨_,ws,rfl,s2,hw2,by first|lia|omega,wz,wc,fun a h1 h2=>absurd h1 (by first|lia|omega)⟩ ?_ ?_
   ·intro k σ H3 hk hz_
    refine Elim.el hz_ _ ?_
    clear hz_ wl wz wc hw2 s2
    rintro x3 ws rfl s3 hw3 wl wz wc wd
    refine ⟨by show k<_; (first|lia|omega),?_⟩
    rintro v H4 ⟨rfl,rfl⟩
    refine gn ?_
    refine ⟨_,rfl, .inl ⟨rfl,_,SqL.of hw3⟩,?_⟩
    have hl3:=s3 _ _ hl
    refine ⟨_,rfl,l,rfl,⟨_,SqL.of hl3⟩,?_⟩
    obtain ⟨r,hr'⟩:∃r,r=Txt.slice c (some ((1+k:Nat):Int)) none:=⟨_,rfl⟩
    have er:sg r=(sg c).drop (1+k):=by rw [hr'];exact sl_fromN (x:=c) (1+k)
    refine comp_go (N:=cs.length) (fun j ys H'=>∃us:List (Addr×(Str×Str)),ys=refs us∧Same H4 H'∧us.map (·.2)=(cs.take j).map (fun o=>(r,o))∧∀z∈us,PrAt H' z) ⟨[],rfl,Same.refl _,rfl,fun z h=>nomatch h⟩ ?_ ?_
    ·intro j ys H5 Ny hj hz_ ny
     refine Elim.el hz_ _ ?_
     clear hz_
     rintro us rfl s5 eu hu'
     have ul:us.length=j:=by
      have:=congrArg List.length eu
      rw [List.length_map,List.length_map,List.length_take] at this
      (first|lia|omega)
     refine ⟨⟨_,_,SqL.of (s5 _ _ hl3),at1 hj⟩,small (by rw [List.length_map]; (first|lia|omega)),?_⟩
     rintro v H6 ⟨rfl,hv⟩
     have e:=hv _ (SqL.of (s5 _ _ hl3))
     rw [at1 hj] at e;cases e
     refine gn ?_
     dsimp only [tYes]
     rw [if_pos rfl]
     refine ⟨_,rfl,_,rfl,_,rfl,?_⟩
     dsimp only [tNoPart]
     refine .inr ⟨c,rfl,sizeOk (by first|lia|omega),?_⟩
     rw [show ((1:Int)+(k:Int))=((1+k:Nat):Int) by first|lia|omega, ←hr']
     refine ⟨_,rfl,by show 2≤sizeLine;decide,fun t H7 n7=>ny _ _ ⟨us++[(t,(r,cs[j]))],by unfold refs;rw [List.map_append];rfl,s5.trans n7.same,?_,fun z hz => ?_⟩⟩
     ·rw [List.map_append,eu,take_next hj,List.map_append];rfl
     ·rcases List.mem_append.mp hz with hz|hz
      ·exact (hu' z hz).same n7.same
      ·rw [List.mem_singleton.mp hz];exact n7.at
    ·intro ys H5 hz_
     refine Elim.el hz_ _ ?_
     clear hz_
     rintro us rfl s5 eu hu'
     rw [List.take_length] at eu
     have ul:us.length=cs.length:=by
      have:=congrArg List.length eu
      rw [List.length_map,List.length_map] at this
      exact this
     refine ⟨⟨_,SqL.of (s5 _ _ hl3),by rw [List.length_map];exact Nat.le_refl _⟩,fun t ht => ?_⟩
     obtain ⟨H6,n6⟩:∃H6,New H5 t (.lst (refs us)) H6:=⟨_,ht,rfl⟩
     rw [←n6.eq]
     have s36:=s5.trans n6.same
     have hw6:=s36 _ _ hw3
     refine ⟨wp,t,_,_,rfl,rfl,hw6,n6.at,by rw [List.length_map,List.length_map];exact sizeOk (by first|lia|omega),fun H7 c7=>⟨_,ws++us,rfl,fun b o e => ?_,?_,by rw [List.length_append]; (first|lia|omega),fun z hz => ?_,fun d hd a h1 h2 p e1 e2 => ?_,fun a h1 h2 p e1 e2 => ?_⟩⟩
     ·rw [c7.ne (ne_of_none e hw0)];exact s36 _ _ (s3 b o e)
     ·rw [c7.at];unfold refs;rw [List.map_append]
     ·rcases List.mem_append.mp hz with hz|hz
      ·obtain ⟨h1,h2⟩:=wz z hz
       exact ⟨(h1.same s36).chg c7 hw6 (fun _ z=>nomatch z),h2⟩
      ·refine ⟨((hu' z hz).same n6.same).chg c7 hw6 (fun _ z=>nomatch z),?_⟩
       have:z.2∈us.map (·.2):=List.mem_map_of_mem hz
       rw [eu] at this
       obtain ⟨o,ho,e⟩:=List.mem_map.mp this
       rw [←e]
       refine ⟨⟨⟨c,hm,1+k,by first|lia|omega,er⟩,SfC.code g ho⟩,?_⟩
       have:=Rc.start (cs:=cs.map sg) (1+k) (sg c) (sg o) (by first|lia|omega) (by first|lia|omega) (List.mem_map_of_mem hm) (List.mem_map_of_mem ho)
       rw [←er] at this
       exact this
     ·rw [List.map_append];exact List.mem_append_left _ (wc d hd a h1 h2 p e1 e2)
     ·rw [List.map_append]
      by_cases hak:a≤k
      ·exact List.mem_append_left _ (wd a h1 hak p e1 e2)
      ·refine List.mem_append_right _ ?_
       rw [eu]
       have ea:a=1+k:=by (first|lia|omega)
       rw [ea, ←er] at e1
       refine List.mem_map.mpr ⟨p.2,e2,?_⟩
       rw [←str_eq e1]
   ·intro σ H3 hz_
    refine Elim.el hz_ _ ?_
    clear hz_ wl wz wc hw2 s2
    rintro x3 ws rfl s3 hw3 wl wz wc wd
    refine ⟨by show _≤_; (first|lia|omega),_,_,ws,rfl,s3,hw3,by first|lia|omega,wz,fun d hd a h1 h2 p e1 e2 => ?_⟩
    rw [htk] at hd
    rcases List.mem_append.mp hd with hd|hd
    ·exact wc d hd a h1 h2 p e1 e2
    ·rw [List.mem_singleton.mp hd] at h2 e1
     exact wd a h1 (by first|lia|omega) p e1 e2
  ·intro σ H2 hz_
   refine Elim.el hz_ _ ?_
   clear hz_
   rintro x2 x3 ws rfl s2 hw2 wl wz wc
   rw [List.take_length] at wc
   exact ⟨⟨_,SqL.of (s2 _ _ hl),by rw [List.length_map];exact Nat.le_refl _⟩,nx _ _ ⟨x2,x3,ws,rfl,s2,hw2,by first|lia|omega,wz,wc⟩⟩
 intro σ H2 hz_
 refine Elim.el hz_ _ ?_
 clear hz_
 rintro x2 x3 ws rfl s2 hw2 wl wz wc
 refine fun d H3 n3=>⟨by show 2≤sizeLine;decide,fun t H4 n4=>⟨by show 0≤sizeLine;decide,fun e0 H5 n5=>⟨n5.same _ _ (n4.same _ _ n3.at),pk eP,t,rfl,n5.same _ _ n4.at,fun H6 c6=>gn ?_⟩⟩⟩
 have hd5:=n5.same _ _ (n4.same _ _ n3.at)
 have s25:=(n3.same.trans n4.same).trans n5.same
 have dw:d≠wp:=fun z=>by have:=n3.nn;rw [z,hw2] at this;cases this
 have hd0:H d=none:=by
  cases e:H d with
  | none=>rfl
  | some o=>have:=n3.nn;rw [s2 _ _ e] at this;cases this
 have ew:e0≠wp:=fun z=>by have:=n5.nn;rw [z,n4.same _ _ (n3.same _ _ hw2)] at this;cases this
 have ed:e0≠d:=fun z=>by have:=n5.nn;rw [z,n4.same _ _ n3.at] at this;cases this
 have s6:Same H H6:=fun b o e=>by rw [c6.ne (ne_of_none e hd0)];exact s25 _ _ (s2 b o e)
 have hw6:H6 wp=some (.lst (refs ws)):=by rw [c6.ne (Ne.symm dw)];exact s25 _ _ hw2
 have he6:H6 e0=some (.lst []):=by rw [c6.ne ed];exact n5.at
 have wz6:∀z∈ws,PrAt H6 z∧PrOk cs z.2∧Rc (cs.map sg) (sgp z.2):=fun z hz=>⟨((wz z hz).1.same s25).chg c6 hd5 (fun _ z=>nomatch z),(wz z hz).2⟩
 dsimp only
 let J:Nat→L2.St→Hp→Prop:=fun m σ H'=>Ex3 fun (x5:Option V) (us:List (Addr×(Str×Str))) (rs:List ((Str×Str)×Addr)) => σ=[some (.ref l),some (.ref wp),x2,x3,some (.ref d),x5]∧Same H H'∧H' wp=some (.lst (refs us))∧H' d=some (.dT (rs.map prK))∧us.length≤4000+16*rs.length∧(∀z∈us,PrAt H' z∧(z.2=eP∨PrOk cs z.2∧Rc (cs.map sg) (sgp z.2)))∧(∀r∈rs,r.2≠wp∧r.2≠d∧NxAt cs H' r)∧(rs.map (·.1)).Nodup∧eP∈rs.map (·.1)∧(∀p∈rs.map (·.1),p=eP∨(PrOk cs p∧Rc (cs.map sg) (sgp p)))∧(∀p∈ws.map (·.2),p∈us.map (·.2)∨p∈rs.map (·.1))∧(∀p∈rs.map (·.1),∀q∈nxS cs p,q∈us.map (·.2)∨q∈rs.map (·.1))∧m=us.length+20*(40000-rs.length)
 have rle:∀{rs:List ((Str×Str)×Addr)},(rs.map (·.1)).Nodup→(∀p∈rs.map (·.1),p=eP∨(PrOk cs p∧Rc (cs.map sg) (sgp p)))→rs.length≤40000:=fun {rs} nd h=>by
  have:=Nat.le_trans (len_of_nodup (m:=allP cs) nd fun x hx=>PrOk.mem ((h x hx).imp id fun z=>z.1)) (allP_len g)
  rwa [List.length_map] at this
 refine seqCut (t:=tWhile _ _) (fun σ H'=>Ex3 fun (x5:Option V) (us:List (Addr×(Str×Str))) (rs:List ((Str×Str)×Addr)) => σ=[some (.ref l),some (.ref wp),x2,x3,some (.ref d),x5]∧Same H H'∧H' d=some (.dT (rs.map prK))∧Prs cs rs∧∀r∈rs,NxAt cs H' r) (fun Nx nx => ?_) ?_
 ·refine whileGo J ⟨_,none,ws,[(eP,e0)],rfl,s6,hw6,?_,by first|lia|omega,fun z hz=>⟨(wz6 z hz).1, .inr (wz6 z hz).2⟩,fun r hr => ?_,by simp,by simp,fun p hp => ?_,fun p hp => .inl hp,fun p hp q hq => ?_,rfl⟩ ?_
  ·rw [c6.at];rfl
  ·rw [List.mem_singleton.mp hr]
   exact ⟨ew,ed,[],he6,rfl,fun z h=>nomatch h⟩
  ·simp at hp;exact .inl hp
  ·simp at hp
   rw [hp] at hq
   exact absurd hq (by unfold nxS;rw [if_pos (.inr rfl)];exact fun z=>nomatch z)
  intro m σ H7 hz_
  refine Elim.el hz_ _ ?_
  clear hz_
  rintro x5 us rs rfl s7 hw7 hd7 ul uz rz nd fn ok ini cl rfl
  have rl:=rle nd ok
  have bins:∀z∈us,Bin z.2.1∧Bin z.2.2:=fun z hz=>by
   rcases (uz z hz).2 with e|⟨⟨h1,h2⟩,_⟩
   ·rw [e];exact ⟨(fun ch hc=>nomatch hc),fun ch hc=>nomatch hc⟩
   ·exact ⟨h1.bin g,h2.bin g⟩
  refine ⟨_,rfl,by show 0≤sizeLine;decide,fun p8 H8 n8 => .inr ⟨_,_,Den.list (SqL.of (n8.same _ _ hw7)) (denP fun z hz=>(uz z hz).1.same n8.same),Den.list (SqL.of n8.at) (by unfold Dens;rfl),shP bins,sh_nil,_,rfl,?_⟩⟩
  rw [eqvNil]
  rw [List.isEmpty_map]
  have s8:=s7.trans n8.same
  have hw8:=n8.same _ _ hw7
  have hd8:=n8.same _ _ hd7
  by_cases hv:us=[]
  ·have e:(!us.isEmpty)=false:=by rw [hv];rfl
   rw [e]
   refine iteF (nx _ _ ⟨x5,us,rs,rfl,s8,hd8,⟨nd,rl,fn,ok,fun d' hd' a h1 h2 p e1 e2=>(ini p (wc d' hd' a h1 h2 p e1 e2)).resolve_left ?_,fun p hp q hq=>(cl p hp q hq).resolve_left ?_⟩,fun r hr=>(rz r hr).2.2.same n8.same⟩)
   ·rw [hv];exact fun z=>nomatch z
   ·rw [hv];exact fun z=>nomatch z
  obtain ⟨us',⟨a,p⟩,rfl⟩:∃us' x,us=us'++[x]:=⟨_,_,(List.dropLast_concat_getLast hv).symm⟩
  have e:(!(us'++[(a,p)]).isEmpty)=true:=by cases us' <;> rfl
  rw [e]
  obtain ⟨hp8,hpo⟩:=uz (a,p) (List.mem_append_right _ (List.mem_singleton.mpr rfl))
  have hp8:=hp8.same n8.same
  rw [List.length_append] at ul
  have ul:us'.length+1≤4000+16*rs.length:=ul
  refine iteT ⟨fun σ' H'=>∃m',m'<(us'++[(a,p)]).length+20*(40000-rs.length)∧J m' σ' H',fun _ _ h=>h,?_⟩
  have hw8':H8 wp=some (.lst (refs us'++[.ref a])):=by rw [hw8];unfold refs;rw [List.map_append];rfl
  refine ⟨_,rfl, .inl ⟨rfl,_,SqL.of hw8'⟩,wp,_, .ref a,rfl,rfl,hw8',?_,fun H9 c9=>gn ?_⟩
  ·rw [List.length_append,List.getElem?_append_right (by show _≤_+1-1; (first|lia|omega))]
   show [V.ref a][(refs us').length+1-1-(refs us').length]? = _
   rw [show (refs us').length+1-1-(refs us').length=0 by first|lia|omega];rfl
  have hw9:H9 wp=some (.lst (refs us')):=by rw [c9.at];exact congrArg (fun l=>some (HO.lst l)) List.dropLast_concat
  have hd9:H9 d=some (.dT (rs.map prK)):=by rw [c9.ne dw];exact hd8
  have s9:Same H H9:=fun b o e=>by rw [c9.ne (ne_of_none e hw0)];exact s8 b o e
  have hp9:PrAt H9 (a,p):=hp8.chg c9 hw8' (fun _ z=>nomatch z)
  have uz9:∀z∈us',PrAt H9 z∧(z.2=eP∨PrOk cs z.2∧Rc (cs.map sg) (sgp z.2)):=fun z hz=>by
   obtain ⟨h1,h2⟩:=uz z (List.mem_append_left _ hz)
   exact ⟨(h1.same n8.same).chg c9 hw8' (fun _ z=>nomatch z),h2⟩
  have rz9:∀r∈rs,r.2≠wp∧r.2≠d∧NxAt cs H9 r:=fun r hr=>by
   obtain ⟨h1,h2,h3⟩:=rz r hr
   exact ⟨h1,h2,(h3.same n8.same).chg c9 hw8' (fun _ z=>nomatch z) h1⟩
  dsimp only
  refine ⟨_,rfl,_,rfl,d,_,rfl,DGet.t (k:=pk p) hd9 hp9,_,rfl,?_⟩
  by_cases hin:p∈rs.map (·.1)
  ·rw [prk_in.mpr hin]
   refine iteF ⟨us'.length+20*(40000-rs.length),by rw [List.length_append];show _<_+1+_; (first|lia|omega),_,us',rs,rfl,s9,hw9,hd9,by first|lia|omega,uz9,rz9,nd,fn,ok,fun p' hp' => ?_,fun p' hp' q' hq' => ?_,rfl⟩
   ·rcases ini p' hp' with h|h
    ·rw [List.map_append] at h
     rcases List.mem_append.mp h with h|h
     ·exact .inl h
     ·rw [List.mem_singleton.mp h];exact .inr hin
    ·exact .inr h
   ·rcases cl p' hp' q' hq' with h|h
    ·rw [List.map_append] at h
     rcases List.mem_append.mp h with h|h
     ·exact .inl h
     ·rw [List.mem_singleton.mp h];exact .inr hin
    ·exact .inr h
  have eN:(valV (rs.map prK) (pk p)).isSome=false:=by
   cases hs:(valV (rs.map prK) (pk p)).isSome with
   | false=>rfl
   | true=>exact absurd (prk_in.mp hs) hin
  have eN':valV (rs.map prK) (pk p)=none:=by
   cases hs:valV (rs.map prK) (pk p) with
   | none=>rfl
   | some v=>rw [hs] at eN;cases eN
  rw [eN]
  have hpo:PrOk cs p∧Rc (cs.map sg) (sgp p):=hpo.resolve_left fun z=>hin (by rw [show p=eP from z];exact fn)
  have l1:=hpo.1.1.len g
  have l2:=hpo.1.2.len g
  have nd':((rs++[(p,wp)]).map (·.1)).Nodup:=by
   rw [List.map_append]
   exact List.nodup_append.mpr ⟨nd,by simp,fun x hx y hy e=>hin (by have z:y=p:=List.mem_singleton.mp hy;rw [←z, ←e];exact hx)⟩
  have ok':∀x∈(rs++[(p,wp)]).map (·.1),x=eP∨(PrOk cs x∧Rc (cs.map sg) (sgp x)):=fun x hx=>by
   rw [List.map_append] at hx
   rcases List.mem_append.mp hx with h|h
   ·exact ok x h
   ·rw [List.mem_singleton.mp h];exact .inr hpo
  have rl':rs.length+1≤40000:=by
   have:=rle nd' ok'
   rwa [List.length_append] at this
  refine iteT ⟨_,rfl,_,rfl,l,a,cs,p,rfl,s9 _ _ hl,hp9,hle,l1.1,l1.2,l2.1,l2.2,fun zs r H10 s10 hrn hr10 ez hz => ?_⟩
  have hd10:=s10 _ _ hd9
  have hw10:=s10 _ _ hw9
  have rw':r≠wp:=fun z=>by rw [z,hw9] at hrn;cases hrn
  have rd:r≠d:=fun z=>by rw [z,hd9] at hrn;cases hrn
  refine ⟨_,rfl,_,rfl,d,_,rfl,DPut.t (k:=pk p) hd10 (s10 _ _ hp9) (big (by rw [List.length_map]; (first|lia|omega))),?_⟩
  rw [putK_new _ eN']
  obtain ⟨H11,c11⟩:∃H11,Chg H10 d (.dT ((rs++[(p,r)]).map prK)) H11:=⟨_,⟨rfl⟩⟩
  have ep:rs.map prK++[(pk p,V.ref r)]=(rs++[(p,r)]).map prK:=by rw [List.map_append];rfl
  rw [ep, ←c11.eq]
  have hw11:H11 wp=some (.lst (refs us')):=by rw [c11.ne (Ne.symm dw)];exact hw10
  have hr11:H11 r=some (.lst (refs zs)):=by rw [c11.ne rd];exact hr10
  have hp11:PrAt H11 (a,p):=(hp9.same s10).chg c11 hd10 (fun _ z=>nomatch z)
  have val:valV ((rs++[(p,r)]).map prK) (pk p)=some (.ref r):=by rw [←ep, ←putK_new (V.ref r) eN',valV_put,if_pos rfl]
  have zl:zs.length≤16:=by
   have:=congrArg List.length ez
   rw [List.length_map] at this
   rw [this];exact nxS_le hle p
  refine ⟨_,rfl, .inl ⟨rfl,_,SqL.of hw11⟩,?_⟩
  refine ⟨_,rfl,_,rfl,d, .ref r,rfl,?_,?_⟩
  ·have:=DGet.t (k:=pk p) c11.at hp11
   rw [val] at this
   exact this
  refine ⟨wp,r,_,_,rfl,rfl,hw11,hr11,by rw [List.length_map,List.length_map];exact sizeOk (by first|lia|omega),fun H12 c12=>⟨(us'++zs).length+20*(40000-(rs++[(p,r)]).length),?_,_,us'++zs,rs++[(p,r)],rfl,fun b o e => ?_,?_,?_,?_,fun z hz' => ?_,fun y hy => ?_,?_,?_,?_,fun p' hp' => ?_,fun p' hp' q' hq' => ?_,rfl⟩⟩
  ·rw [List.length_append,List.length_append,List.length_append];show _+_+20*(40000-(rs.length+1))<_+1+_; (first|lia|omega)
  ·rw [c12.ne (ne_of_none e hw0),c11.ne (ne_of_none e hd0)];exact s10 _ _ (s9 b o e)
  ·rw [c12.at];unfold refs;rw [List.map_append]
  ·rw [c12.ne dw];exact c11.at
  ·rw [List.length_append,List.length_append];show _+_≤4000+16*(rs.length+1); (first|lia|omega)
  ·rcases List.mem_append.mp hz' with hz'|hz'
   ·obtain ⟨h1,h2⟩:=uz9 z hz'
    exact ⟨((h1.same s10).chg c11 hd10 (fun _ z=>nomatch z)).chg c12 hw11 (fun _ z=>nomatch z),h2⟩
   ·refine ⟨((hz z hz').chg c11 hd10 (fun _ z=>nomatch z)).chg c12 hw11 (fun _ z=>nomatch z),?_⟩
    have hq:z.2∈nxS cs p:=by rw [←ez];exact List.mem_map_of_mem hz'
    refine (hpo.1.next g hq).imp id fun h=>⟨h, .step _ _ hpo.2 ?_⟩
    rw [←nx_sg];exact List.mem_map_of_mem hq
  ·rcases List.mem_append.mp hy with hy|hy
   ·obtain ⟨h1,h2,h3⟩:=rz9 y hy
    exact ⟨h1,h2,((h3.same s10).chg c11 hd10 (fun _ z=>nomatch z) h2).chg c12 hw11 (fun _ z=>nomatch z) h1⟩
   ·rw [List.mem_singleton.mp hy]
    exact ⟨rw',rd,zs,by rw [c12.ne rw'];exact hr11,ez,fun z hz'=>((hz z hz').chg c11 hd10 (fun _ z=>nomatch z)).chg c12 hw11 (fun _ z=>nomatch z)⟩
  ·rw [List.map_append] at nd' ⊢;exact nd'
  ·rw [List.map_append];exact List.mem_append_left _ fn
  ·rw [List.map_append] at ok' ⊢;exact ok'
  ·rw [List.map_append,List.map_append]
   rcases ini p' hp' with h|h
   ·rw [List.map_append] at h
    rcases List.mem_append.mp h with h|h
    ·exact .inl (List.mem_append_left _ h)
    ·exact .inr (List.mem_append_right _ h)
   ·exact .inr (List.mem_append_left _ h)
  ·rw [List.map_append] at hp' ⊢
   rw [List.map_append]
   rcases List.mem_append.mp hp' with hp'|hp'
   ·rcases cl p' hp' q' hq' with h|h
    ·rw [List.map_append] at h
     rcases List.mem_append.mp h with h|h
     ·exact .inl (List.mem_append_left _ h)
     ·exact .inr (List.mem_append_right _ h)
    ·exact .inr (List.mem_append_left _ h)
   ·rw [List.mem_singleton.mp hp', ←ez] at hq'
    exact .inl (List.mem_append_right _ hq')
 intro σ H7 hz_
 refine Elim.el hz_ _ ?_
 clear hz_
 rintro x5 us rs rfl s7 hd7 pr hn
 exact ⟨_,rfl,q d rs H7 s7 hd0 hd7 pr hn⟩
end
end Z
namespace Z
open PySem L2 PyProof.Rows
noncomputable def ov:Option Nat→V
 | none => .non
 | some n => .int (n:Nat)
noncomputable def WorR (cs:List Str) (H:Hp) (v:V):Prop:=∃a,v = .ref a∧((DN H a 0∧∃p,Rc (cs.map sg) p∧∀o, ¬Wv (cs.map sg) p o)∨∃kvs,H a=some (.dT kvs)∧kvs≠[]∧(∀p,Rc (cs.map sg) p→∃o,Wv (cs.map sg) p o) ∧
 ∀d∈cs,∀k,1≤k→k<(sg d).length→∀p:Str×Str,sg p.1=(sg d).drop k→p.2∈cs→∃o,valV kvs (pk p)=some (ov o)∧Wv (cs.map sg) (sgp p) o)
noncomputable def spWor (K:PySem.W.Frag):Sp:=fun vs H Q _=>Ex2 fun (l:Addr) (cs:List Str)=>vs=[.ref l]∧H l=some (.lst (cs.map V.str))∧Cods cs ∧
 ∀(v:V) (H':Hp),Same H H'→WorR cs H' v→Q v H'
theorem eqvP (x y:Str):PyData.eqv (.tuple [.str x, .str y]) (.tuple [.str (Str.ofString ""), .str (Str.ofString "")])=decide ((x,y)=eP):=by
 have e:((x,y)=eP) ↔ (x=Str.ofString "" ∧ y=Str.ofString ""):=⟨fun h=>by injection h with h1 h2;exact ⟨h1,h2⟩,fun ⟨h1,h2⟩=>by rw [h1,h2]⟩
 have h:PyData.eqv (.tuple [.str x, .str y]) (.tuple [.str (Str.ofString ""), .str (Str.ofString "")])=(x == Str.ofString "" && y == Str.ofString ""):=by simp [PyData.eqv,PyData.eqvAll]
 rw [h,Bool.eq_iff_iff,Bool.and_eq_true,decide_eq_true_iff,e]
 exact and_congr beq_iff_eq beq_iff_eq
theorem denT {K:PySem.W.Frag} {H:Hp} {z:Addr×(Str×Str)} (h:PrAt H z):Den K H (.tuple [.str z.2.1, .str z.2.2]) (.ref z.1):=by
 have:=denP (K:=K) (ws:=[z]) (H:=H) fun y hy=>by rw [List.mem_singleton.mp hy];exact h
 unfold refs at this
 rw [List.map_singleton,List.map_singleton] at this
 unfold Dens at this
 obtain ⟨v,r,e,h1,_⟩:=this
 cases e
 exact h1
theorem shT {x y:Str} (h1:Bin x) (h2:Bin y):SeqAt.shaped (.tuple [.str x, .str y])=true:=(Sh.tuple (n:=0) fun e he=>by
 simp at he
 rcases he with rfl|rfl
 ·exact Sh.str (canLay_small fun ch hc=>by rcases h1 ch hc with e|e <;> (first|lia|omega))
 ·exact Sh.str (canLay_small fun ch hc=>by rcases h2 ch hc with e|e <;> (first|lia|omega))).shaped (by decide)
structure Wor (cs:List Str) (rs:List ((Str×Str)×Addr)) (kvs:List (List Key×V)):Prop where
 nd:(kvs.map (·.1)).Nodup
 so:∀k v,valV kvs k=some v→∃p o,k=pk p∧p∈rs.map (·.1)∧v=ov o∧Wv (cs.map sg) (sgp p) o
theorem Wor.le {cs:List Str} {rs:List ((Str×Str)×Addr)} {kvs:List (List Key×V)} (h:Wor cs rs kvs) (pr:Prs cs rs):kvs.length≤40000:=by
 have:=len_of_nodup (m:=(rs.map (·.1)).map pk) h.nd fun k hk=>by
  cases hv:valV kvs k with
  | none=>exact absurd hk (valV_not hv)
  | some v=>
   obtain ⟨p,o,rfl,hp,_⟩:=h.so k v hv
   exact List.mem_map_of_mem hp
 rw [List.length_map,List.length_map,List.length_map] at this
 exact Nat.le_trans this pr.le
theorem Wor.at {cs:List Str} {rs:List ((Str×Str)×Addr)} {kvs:List (List Key×V)} (h:Wor cs rs kvs) {p:Str×Str} (hp:(valV kvs (pk p)).isSome=true):∃o,valV kvs (pk p)=some (ov o)∧Wv (cs.map sg) (sgp p) o:=by
 cases hv:valV kvs (pk p) with
 | none=>rw [hv] at hp;cases hp
 | some v=>
  obtain ⟨p',o,e,_,rfl,hw⟩:=h.so _ _ hv
  rw [←pk_inj e] at hw
  exact ⟨o,rfl,hw⟩
theorem prs_nx {cs:List Str} {rs:List ((Str×Str)×Addr)} (pr:Prs cs rs) {H:Hp} {d:Addr} {ob:Obj} (hd:H d=some (.frz ob (.dT (rs.map prK)))) (hn:∀r∈rs,NxAt cs H r) {b:Addr} {p:Str×Str} (hb:PrAt H (b,p)) (hp:p∈rs.map (·.1)) :
  ∃r zs,DGet H d (.ref b) (some (.ref r))∧H r=some (.lst (refs zs))∧zs.map (·.2)=nxS cs p∧∀z∈zs,PrAt H z:=by
 obtain ⟨r,hr,rfl⟩:=List.mem_map.mp hp
 obtain ⟨zs,h1,h2,h3⟩:=hn r hr
 refine ⟨r.2,zs,?_,h1,h2,h3⟩
 refine .inr ⟨_,pk r.1,b, .inr ⟨ob,hd⟩,rfl,hb,?_⟩
 have key:∀{rs:List ((Str×Str)×Addr)},(rs.map (·.1)).Nodup→r∈rs→valV (rs.map prK) (pk r.1)=some (.ref r.2):=fun {rs} nd hm=>by
  induction rs with
  | nil=>cases hm
  | cons x rs ih=>
   rw [List.map_cons,List.nodup_cons] at nd
   rcases List.mem_cons.mp hm with e|hm
   ·subst e
    unfold valV;simp [prK]
   ·have:x.1≠r.1:=fun e=>nd.1 (by rw [e];exact List.mem_map_of_mem hm)
    rw [List.map_cons, ←ih nd.2 hm]
    unfold valV
    rw [List.find?_cons_of_neg (by rw [decide_eq_true_iff];exact fun e=>this (pk_inj e))]
 exact (key pr.nd hr).symm
noncomputable def tf (kvs:List (List Key×V)) (q:Str×Str):Option Int:=match valV kvs (pk q) with
 | some (.int n)=>some (n+1)
 | _=>none
theorem tf_none {kvs:List (List Key×V)} {q:Str×Str} (h:valV kvs (pk q)=some (ov none)):tf kvs q=none:=by unfold tf;rw [h];rfl
theorem tf_some {kvs:List (List Key×V)} {q:Str×Str} {n:Nat} (h:valV kvs (pk q)=some (ov (some n))):tf kvs q=some ((n:Int)+1):=by unfold tf;rw [h];rfl
noncomputable def unS (s:Sg×Sg):Str×Str:=(⟨s.1.toArray⟩,⟨s.2.toArray⟩)
theorem unS_sg (q:Str×Str):unS (sgp q)=q:=by
 refine sgp_inj ?_
 show ((sg q.1).toArray.toList,(sg q.2).toArray.toList)=_
 rw [List.toList_toArray,List.toList_toArray]
noncomputable def wf (kvs:List (List Key×V)) (s:Sg×Sg):Option Nat:=(tf kvs (unS s)).map fun i=>(i-1).toNat
theorem wf_at {kvs:List (List Key×V)} {q:Str×Str} {o:Option Nat} (h:valV kvs (pk q)=some (ov o)):wf kvs (sgp q)=o:=by
 unfold wf;rw [unS_sg]
 cases o with
 | none=>rw [tf_none h];rfl
 | some n=>
  rw [tf_some h]
  show some (((n:Int)+1-1).toNat)=some n
  congr 1; (first|lia|omega)
theorem Wor.put {cs:List Str} {rs:List ((Str×Str)×Addr)} {kvs:List (List Key×V)} (h:Wor cs rs kvs) {p:Str×Str} (hp:p∈rs.map (·.1)) (n1:sg p.1≠[]) (n2:sg p.2≠[]) (all:∀q∈nxS cs p,(valV kvs (pk q)).isSome=true) {o:Option Nat}
  (t:(o=none∧(nxS cs p).filterMap (tf kvs)=[])∨∃m:Nat,o=some m∧(m:Int)∈(nxS cs p).filterMap (tf kvs)∧∀a∈(nxS cs p).filterMap (tf kvs),a≤(m:Int)):Wv (cs.map sg) (sgp p) o:=by
 have mem:∀a:Nat,(∃q∈nx (cs.map sg) (sgp p),∃d,wf kvs q=some d∧a=d+1) ↔ (a:Int)∈(nxS cs p).filterMap (tf kvs):=fun a=>by
  rw [←nx_sg,List.mem_filterMap]
  refine ⟨fun ⟨q,hq,d,e,ea⟩ => ?_,fun ⟨q,hq,e⟩ => ?_⟩
  ·obtain ⟨q,hq2,rfl⟩:=List.mem_map.mp hq
   obtain ⟨o,ho,_⟩:=h.at (all q hq2)
   rw [wf_at ho] at e
   subst e
   exact ⟨q,hq2,by rw [tf_some ho,ea];rfl⟩
  ·obtain ⟨o,ho,_⟩:=h.at (all q hq)
   cases o with
   | none=>rw [tf_none ho] at e;cases e
   | some n=>
    rw [tf_some ho] at e
    have e:=Option.some.inj e
    exact ⟨sgp q,List.mem_map_of_mem hq,n,wf_at ho,by first|lia|omega⟩
 refine .step _ (wf kvs) o n1 n2 (fun q hq => ?_) ?_
 ·rw [←nx_sg] at hq
  obtain ⟨q,hq2,rfl⟩:=List.mem_map.mp hq
  obtain ⟨o,ho,hw⟩:=h.at (all q hq2)
  rw [wf_at ho];exact hw
 ·rcases t with ⟨rfl,e⟩|⟨m,rfl,h1,h2⟩
  ·refine .inl ⟨rfl,fun a ha => ?_⟩
   have:=(mem a).mp ha
   rw [e] at this;cases this
  ·exact .inr ⟨m,rfl,(mem m).mpr h1,fun a ha=>by have:=h2 _ ((mem a).mp ha); (first|lia|omega)⟩
theorem Wor.more {cs:List Str} {rs:List ((Str×Str)×Addr)} {kvs:List (List Key×V)} (h:Wor cs rs kvs) {p:Str×Str} (hp:p∈rs.map (·.1)) (hn:valV kvs (pk p)=none) {o:Option Nat} (hw:Wv (cs.map sg) (sgp p) o):Wor cs rs (kvs++[(pk p,ov o)]):=by
 refine ⟨?_,fun k v e => ?_⟩
 ·rw [List.map_append]
  exact List.nodup_append.mpr ⟨h.nd,by simp,fun x hx y hy e=>valV_not hn (by have z:y=pk p:=List.mem_singleton.mp hy;rw [←z, ←e];exact hx)⟩
 ·rw [←putK_new (ov o) hn,valV_put] at e
  by_cases hk:k=pk p
  ·rw [if_pos hk] at e
   exact ⟨p,o,hk,hp,(Option.some.inj e).symm,hw⟩
  ·rw [if_neg hk] at e;exact h.so k v e
section
variable {P:Program} {w:World} {K:PySem.W.Frag} {mg:Str→Option Value} {base:Heap} {f:Addr} {fd:FuncData}
theorem sc_law_worths:FnScope ["_law_codes", "_law_pairs_here", "_law_worths_here", "_law_left", "_law_more", "_law_some", "_law_pair", "_law_told"] ["_law_codes"] (defScope (top i_law_worths)):=⟨rfl,rfl,rfl,by decide +kernel,rfl,by decide +kernel,by decide +kernel⟩
theorem ok_wor (F:Fun K "_law_worths" "_law_worths" (top i_law_worths) f fd) (T:Nm mg) (f_law_pairs:Fn P w K mg base 2 "_law_pairs" ["_law_codes"] (spPrs K)):FnOk P w K mg base CX0 3 f fd ["_law_codes"] (spWor K):=by
 refine F.ok sc_law_worths (fun vs H Q E h => ?_) (fun cdv A outer s H vs Q E hr h => ?_)
 ·obtain ⟨l,cs,rfl,_⟩:=h
  rfl
 unfold spWor at h
 refine Elim.el h _ ?_
 clear h
 rintro l cs rfl hl g q
 have hu:=hu_of hr
 have hu6:=hr.units
 have hle:=g.le
 have small:∀{n:Nat},n≤1000→n<sizeLine:=fun h=>Nat.lt_of_le_of_lt h (by decide)
 have big:∀{n:Nat},n≤5000000→n<sizeLine:=fun h=>Nat.lt_of_le_of_lt h (by decide)
 have bE:Bin (Str.ofString ""):=fun ch hc=>nomatch hc
 refine ⟨_,(pss_cons (ps_set (i:=1) sc_law_worths.nd rfl (Or.inr rfl) (pe_fn (f_law_pairs.mono (by first|decide|exact Nat.le_refl _|(first|lia|omega))) hr rfl (pa_cons (pv 0) pa_nil)))
  (pss_cons (ps_set (i:=2) sc_law_worths.nd rfl (Or.inr rfl) (pe_dispT hu (tupN (pa_cons pe_str (pa_cons pe_str pa_nil))) pe_int))
  (pss_cons (ps_setcomp (i:=3) sc_law_worths.nd rfl (Or.inl rfl) rfl (comp_ok (Nc:=["_law_pair"]) (Fc:=[]) (js:=[])) (pi_tkeys (pv 1)) (gk_name (i:=0) (n:=1) (by decide)) (fun _ _ _ _ _=>(pg_name (i:=0) (show (["_law_pair"]:List Str).Nodup by decide +kernel) rfl (Or.inl rfl))) (fun _ _ _ _ _=>(pts_one (pt_cmpR (neK K hu6) (pv 0) (tupN (pa_cons pe_str (pa_cons pe_str pa_nil))) (nomark _)))) (fun _ _ _ _ _=>(pv 0)))
  (pss_cons (ps_set (i:=4) sc_law_worths.nd rfl (Or.inl rfl) pe_bl)
  (pss_cons (ps_while PassesOwn.never (pt_val (pv 4)) (pss_cons (ps_setcomp (i:=5) sc_law_worths.nd rfl (Or.inl rfl) rfl (comp_ok (Nc:=["_law_pair"]) (Fc:=["_law_worths_here", "_law_pairs_here"]) (js:=[2,1])) (piK K (pv 3)) (gk_name (i:=0) (n:=1) (by decide)) (fun _ _ _ _ _=>(pg_name (i:=0) (show (["_law_pair", "_law_worths_here", "_law_pairs_here"]:List Str).Nodup by decide +kernel) rfl (Or.inl rfl))) (fun _ _ _ _ _=>(pts_one (pt_val (pe_callB (allK K rfl) rfl T.n_all (by rfl) (pa_cons (pe_lcomp rfl (comp_ok (Nc:=["_law_one"]) (Fc:=["_law_worths_here"]) (js:=[1])) (piK K (pe_dget hu (pv 2) (pv 0) (fun _ _=>rfl))) (gk_name (i:=0) (n:=1) (by decide)) (fun _ _ _ _ _=>(pg_name (i:=0) (show (["_law_one", "_law_worths_here"]:List Str).Nodup by decide +kernel) rfl (Or.inl rfl))) (fun _ _ _ _ _=>pts_nil) (fun _ _ _ _ _=>(pe_cmp (pc_din hu (pv 0) (pv 1))))) pa_nil))))) (fun _ _ _ _ _=>(pv 0)))
  (pss_cons (ps_for PassesOwn.never rfl (piK K (pv 5)) (pg_name (i:=6) sc_law_worths.nd rfl (Or.inl rfl)) (pss_cons (ps_setcomp (i:=7) sc_law_worths.nd rfl (Or.inl rfl) rfl (comp_ok (Nc:=["_law_one"]) (Fc:=["_law_worths_here"]) (js:=[2])) (piK K (pe_dget hu (pv 1) (pv 6) (fun _ _=>rfl))) (gk_name (i:=0) (n:=1) (by decide)) (fun _ _ _ _ _=>(pg_name (i:=0) (show (["_law_one", "_law_worths_here"]:List Str).Nodup by decide +kernel) rfl (Or.inl rfl))) (fun _ _ _ _ _=>(pts_one (pt_cmpR g_isnot (pe_dget hu (pv 1) (pv 0) (fun _ _=>rfl)) pe_non (nomark _)))) (fun _ _ _ _ _=>(pe_op addN (pe_dget hu (pv 1) (pv 0) (fun _ _=>rfl)) pe_int)))
  (pss_one (ps_dput hu (pv 2) (pv 6) (pe_ifExp (pt_cmpR (neK K hu6) (pv 7) (lstN pa_nil) (nomark _)) (pe_callB (maxK K rfl) rfl T.n_max (by rfl) (pa_cons (pv 7) pa_nil)) pe_non) rfl))))
  (pss_cons (ps_setcomp (i:=3) sc_law_worths.nd rfl (Or.inl rfl) rfl (comp_ok (Nc:=["_law_pair"]) (Fc:=["_law_worths_here"]) (js:=[2])) (piK K (pv 3)) (gk_name (i:=0) (n:=1) (by decide)) (fun _ _ _ _ _=>(pg_name (i:=0) (show (["_law_pair", "_law_worths_here"]:List Str).Nodup by decide +kernel) rfl (Or.inl rfl))) (fun _ _ _ _ _=>(pts_one (pt_cmp (pc_dnotin hu (pv 0) (pv 1))))) (fun _ _ _ _ _=>(pv 0)))
  (pss_one (ps_set (i:=4) sc_law_worths.nd rfl (Or.inl rfl) (pe_cmpR (neK K hu6) (pv 5) (lstN pa_nil) (nomark _))))))))
  (pss_one (ps_ret (pe_ifExp (pt_cmpR (neK K hu6) (pv 3) (lstN pa_nil) (nomark _)) dnewN (pv 2))))))))),?_⟩
 refine ⟨_,rfl,l,cs,rfl,hl,g,fun d rs H1 s1 hd0 hd1 pr hn1=>gn ?_⟩
 refine fun wd H2 n2=>⟨by show 2≤sizeLine;decide,fun t H3 n3=>⟨n3.same _ _ n2.at,pk eP,t,rfl,n3.at,fun H4 c4=>gn ?_⟩⟩
 have s13:=n2.same.trans n3.same
 have hw3:=n3.same _ _ n2.at
 have hw1:H1 wd=none:=n2.nn
 have hw0:H wd=none:=by
  cases e:H wd with
  | none=>rfl
  | some o=>rw [s1 _ _ e] at hw1;cases hw1
 have s4:Same H1 H4:=fun b o e=>by rw [c4.ne (ne_of_none e hw1)];exact s13 b o e
 have hd4:=s4 _ _ hd1
 have hw4:=c4.at
 have hn4:∀r∈rs,NxAt cs H4 r:=fun r hr=>(hn1 r hr).same s4
 have dw:d≠wd:=ne_of_none hd1 hw1
 dsimp only
 refine asgCut (te:=tComp _ _ _ _ _ _) (fun v H'=>Ex3 fun (p:Addr) (ob:Obj) (zs:List (Addr×(Str×Str)))=>v = .ref p∧(∀b o,b≠d→H4 b=some o→H' b=some o)∧H' d=some (.frz ob (.dT (rs.map prK)))∧H4 p=none∧H' p=some (.lst (refs zs))∧zs.map (·.2)=(rs.map (·.1)).filter (fun x => !decide (x=eP))∧∀z∈zs,PrAt H' z) (fun Qn qn => ?_) ?_
 ·refine ⟨_,rfl,d,_,rfl,hd4,fun ob => ?_⟩
  obtain ⟨H5,c5⟩:∃H5,Chg H4 d (.frz ob (.dT (rs.map prK))) H5:=⟨_,⟨rfl⟩⟩
  rw [←c5.eq]
  refine comp_go (N:=rs.length) (fun i ys H'=>∃zs:List (Addr×(Str×Str)),ys=refs zs∧Same H5 H'∧zs.map (·.2)=((rs.take i).map (·.1)).filter (fun x => !decide (x=eP))∧∀z∈zs,PrAt H' z) ⟨[],rfl,Same.refl _,rfl,fun z h=>nomatch h⟩ ?_ ?_
  ·intro i ys H6 Ny hi hz_ ny
   refine Elim.el hz_ _ ?_
   clear hz_
   rintro zs rfl s6 ez hz
   have zl:zs.length≤i:=by
    have:=congrArg List.length ez
    rw [List.length_map] at this
    rw [this]
    refine Nat.le_trans (List.length_filter_le _ _) ?_
    rw [List.length_map,List.length_take]; (first|lia|omega)
   have rl:=pr.le
   refine ⟨⟨s6 _ _ c5.at,by rw [List.length_map];exact hi⟩,big (by rw [List.length_map]; (first|lia|omega)),?_⟩
   rintro v H7 ⟨rfl,kv,b,hkv,rfl,hb⟩
   rw [List.getElem?_map,List.getElem?_eq_getElem hi] at hkv
   cases hkv
   have hok:=pr.ok _ (List.mem_map_of_mem (List.getElem_mem hi))
   have htk:=take_next hi
   generalize rs[i]=r at hb hok htk
   obtain ⟨⟨x,y⟩,ra⟩:=r
   have hb:PrAt H7 (b,(x,y)):=hb
   have bn:Bin x∧Bin y:=by
    rcases hok with e|⟨⟨h1,h2⟩,_⟩
    ·injection e with e1 e2
     exact ⟨by rw [e1];exact bE,by rw [e2];exact bE⟩
    ·exact ⟨h1.bin g,h2.bin g⟩
   refine gn ?_
   refine ⟨_,rfl,by show 2≤sizeLine;decide,fun t8 H8 n8 => .inr ⟨_,_,denT (hb.same n8.same),denT (z:=(t8,eP)) n8.at,shT bn.1 bn.2,shT bE bE,_,rfl,?_⟩⟩
   rw [eqvP]
   have tkf:((rs.take (i+1)).map (·.1)).filter (fun x => !decide (x=eP))=((rs.take i).map (·.1)).filter (fun x => !decide (x=eP))++(if (x,y)=eP then [] else [(x,y)]):=by
    rw [htk,List.map_append,List.filter_append]
    congr 1
    show List.filter _ [(x,y)]=_
    by_cases h:(x,y)=eP
    ·rw [if_pos h,h];rfl
    ·rw [if_neg h,List.filter_cons,if_pos (by rw [decide_eq_false h];rfl),List.filter_nil]
   by_cases h:(x,y)=eP
   ·rw [decide_eq_true h]
    rw [if_pos h,List.append_nil] at tkf
    exact iteF (ny _ _ ⟨zs,rfl,s6.trans n8.same,by rw [tkf];exact ez,fun z hz'=>(hz z hz').same n8.same⟩)
   ·rw [decide_eq_false h]
    rw [if_neg h] at tkf
    refine iteT ⟨_,rfl,ny _ _ ⟨zs++[(b,(x,y))],by unfold refs;rw [List.map_append];rfl,s6.trans n8.same,by rw [tkf,List.map_append,ez];rfl,fun z hz' => ?_⟩⟩
    rcases List.mem_append.mp hz' with hz'|hz'
    ·exact (hz z hz').same n8.same
    ·rw [List.mem_singleton.mp hz'];exact hb.same n8.same
  ·intro ys H6 hz_
   refine Elim.el hz_ _ ?_
   clear hz_
   rintro zs rfl s6 ez hz
   rw [List.take_length] at ez
   refine ⟨⟨s6 _ _ c5.at,by rw [List.length_map];exact Nat.le_refl _⟩,fun p hp=>qn _ _ ⟨p,ob,zs,rfl,fun b o hb e => ?_,?_,?_,upd_same,ez,fun z hz'=>(hz z hz').same (same_new hp _)⟩⟩
   ·exact same_new hp _ _ _ (s6 _ _ (by rw [c5.ne hb];exact e))
   ·exact same_new hp _ _ _ (s6 _ _ c5.at)
   ·cases e:H4 p with
    | none=>rfl
    | some o=>
     by_cases hb:p=d
     ·rw [hb,s6 _ _ c5.at] at hp;cases hp
     ·rw [s6 _ _ (by rw [c5.ne hb];exact e)] at hp;cases hp
 intro v H5 hz_
 refine Elim.el hz_ _ ?_
 clear hz_
 rintro lp0 ob zs0 rfl k5 hd5 hl0 hlp5 ez0 hz0
 refine gn (gn ?_)
 have hw5:H5 wd=some (.dT [(pk eP, .int 0)]):=k5 _ _ (Ne.symm dw) hw4
 have s5:∀b o,b≠d→H b=some o→H5 b=some o:=fun b o hb e=>k5 b o hb (s4 b o (s1 b o e))
 have s5':Same H H5:=fun b o e=>s5 b o (ne_of_none e hd0) e
 have hn5:∀r∈rs,NxAt cs H5 r:=fun r hr=>by
  obtain ⟨zs,h1,h2,h3⟩:=hn4 r hr
  exact ⟨zs,k5 _ _ (fun z=>by rw [z,hd4] at h1;cases h1) h1,h2,fun z hz=>k5 _ _ (fun e=>by have:=h3 z hz;unfold PrAt at this;rw [e,hd4] at this;cases this) (h3 z hz)⟩
 clear k5 hl0 hn4 hd4 hw4 s4 hn1 hd1
 refine gn ?_
 rw [show (List.set _ _ _:L2.St)=[some (.ref l),some (.ref d),some (.ref wd),some (.ref lp0),some (.bl true),none,none,none] from rfl]
 have pne:∀{p:Str×Str},p∈rs.map (·.1)→p≠eP→PrOk cs p∧Rc (cs.map sg) (sgp p)∧sg p.1≠[]∧sg p.2≠[]:=fun {p} hp ne=>by
  obtain ⟨h1,h2⟩:=(pr.ok p hp).resolve_left ne
  have l1:=(h1.1.len g).1
  have l2:=(h1.2.len g).1
  have e1:p.1.length=(sg p.1).length:=str_len _
  have e2:p.2.length=(sg p.2).length:=str_len _
  exact ⟨h1,h2,fun z=>by rw [z] at e1;simp at e1; (first|lia|omega),fun z=>by rw [z] at e2;simp at e2; (first|lia|omega)⟩
 dsimp only
 let J:Nat→L2.St→Hp→Prop:=fun m σ H'=>Ex4 fun (lp:Addr) (zs:List (Addr×(Str×Str))) (kvs:List (List Key×V)) (more:Bool)=>Ex3 fun (x5 x6 x7:Option V) => σ=[some (.ref l),some (.ref d),some (.ref wd),some (.ref lp),some (.bl more),x5,x6,x7]∧m=2*zs.length+(if more=true then 1 else 0)∧Same H H'∧H' d=some (.frz ob (.dT (rs.map prK)))∧(∀r∈rs,NxAt cs H' r)∧H' lp=some (.lst (refs zs))∧(∀z∈zs,PrAt H' z)∧(zs.map (·.2)).Nodup∧(∀z∈zs,z.2∈rs.map (·.1)∧z.2≠eP∧valV kvs (pk z.2)=none)∧H' wd=some (.dT kvs)∧Wor cs rs kvs∧(∀p∈rs.map (·.1),p∈zs.map (·.2)∨(valV kvs (pk p)).isSome=true)∧(more=false→∀z∈zs,∃q∈nxS cs z.2,valV kvs (pk q)=none)
 refine seqCut (t:=tWhile _ _) (fun σ H'=>Ex3 fun (lp:Addr) (zs:List (Addr×(Str×Str))) (kvs:List (List Key×V))=>Ex3 fun (x5 x6 x7:Option V) => σ=[some (.ref l),some (.ref d),some (.ref wd),some (.ref lp),some (.bl false),x5,x6,x7]∧Same H H'∧H' lp=some (.lst (refs zs))∧(∀z∈zs,PrAt H' z)∧(∀z∈zs,z.2∈rs.map (·.1)∧z.2≠eP)∧H' wd=some (.dT kvs)∧Wor cs rs kvs∧(∀p∈rs.map (·.1),p∈zs.map (·.2)∨(valV kvs (pk p)).isSome=true)∧∀z∈zs,∃q∈nxS cs z.2,valV kvs (pk q)=none) (fun Nx nx => ?_) ?_
 ·have v0:∀k v,valV [(pk eP,V.int 0)] k=some v→k=pk eP∧v = .int 0:=fun k v e=>by
   by_cases h:k=pk eP
   ·subst h
    exact ⟨rfl,by unfold valV at e;simpa using e.symm⟩
   ·unfold valV at e
    rw [List.find?_cons_of_neg (by rw [decide_eq_true_iff];exact fun z=>h z.symm)] at e
    cases e
  have zsub:∀p,p∈zs0.map (·.2) ↔ p∈rs.map (·.1)∧p≠eP:=fun p=>by
   rw [ez0,List.mem_filter]
   refine and_congr Iff.rfl ⟨fun h z => ?_,fun h => ?_⟩
   ·rw [decide_eq_true z] at h;cases h
   ·rw [decide_eq_false h];rfl
  refine whileGo J ⟨_,lp0,zs0,[(pk eP, .int 0)],true,none,none,none,rfl,rfl,s5',hd5,hn5,hlp5,hz0,by rw [ez0];exact List.Nodup.sublist List.filter_sublist pr.nd,fun z hz => ?_,hw5,⟨by simp,fun k v e => ?_⟩,fun p hp => ?_,(fun h=>nomatch h)⟩ ?_
  ·obtain ⟨h1,h2⟩:=(zsub _).mp (List.mem_map_of_mem hz)
   refine ⟨h1,h2,?_⟩
   cases hv:valV [(pk eP,V.int 0)] (pk z.2) with
   | none=>rfl
   | some v=>exact absurd (pk_inj (v0 _ _ hv).1) h2
  ·obtain ⟨rfl,rfl⟩:=v0 k v e
   exact ⟨eP,some 0,rfl,pr.fin,rfl, .fin⟩
  ·by_cases h:p=eP
   ·rw [h];exact .inr (by unfold valV;simp)
   ·exact .inl ((zsub p).mpr ⟨hp,h⟩)
  intro m σ H6 hz_
  refine Elim.el hz_ _ ?_
  clear hz_
  rintro lp zs kvs more x5 x6 x7 rfl rfl s6 hd6 hn6 hlp6 hz6 znd zk hw6 wo cov fixp
  have zl:zs.length≤40000:=by
   have:=len_of_nodup (m:=rs.map (·.1)) znd fun p hp=>by
    obtain ⟨z,hz,rfl⟩:=List.mem_map.mp hp
    exact (zk z hz).1
   rw [List.length_map,List.length_map] at this
   exact Nat.le_trans this pr.le
  cases more with
  | false=>exact ⟨_,rfl,_,rfl,iteF (nx _ _ ⟨lp,zs,kvs,x5,x6,x7,rfl,s6,hlp6,hz6,fun z hz=>⟨(zk z hz).1,(zk z hz).2.1⟩,hw6,wo,cov,fixp rfl⟩)⟩
  | true=>
   refine ⟨_,rfl,_,rfl,iteT ⟨fun σ' H'=>∃m',m'<2*zs.length+1∧J m' σ' H',fun _ _ h=>h,?_⟩⟩
   have at1:∀{ws:List (Addr×(Str×Str))} {i:Nat} (hi:i<ws.length),(refs ws)[i]? = some (.ref ws[i].1):=fun hi=>by unfold refs;rw [List.getElem?_map,List.getElem?_eq_getElem hi];rfl
   obtain ⟨Fz,hFz⟩:∃Fz:Addr×(Str×Str)→Bool,Fz=fun z=>(nxS cs z.2).all fun q=>(valV kvs (pk q)).isSome:=⟨_,rfl⟩
   refine asgCut (te:=tComp _ _ _ _ _ _) (fun v H'=>∃sp,v = .ref sp∧Same H6 H'∧H6 sp=none∧H' sp=some (.lst (refs (zs.filter Fz)))) (fun Qn qn => ?_) ?_
   ·refine ⟨_,rfl,lp,rfl,⟨_,SqL.of hlp6⟩,?_⟩
    refine comp_go (N:=zs.length) (fun i ys H'=>ys=refs ((zs.take i).filter Fz)∧Same H6 H') ⟨rfl,Same.refl _⟩ ?_ ?_
    ·rintro i ys H7 Ny hi ⟨rfl,s7⟩ ny
     refine ⟨⟨_,_,SqL.of (s7 _ _ hlp6),at1 hi⟩,big ?_,?_⟩
     ·unfold refs
      rw [List.length_map]
      have h1:=List.length_filter_le Fz (zs.take i)
      rw [List.length_take] at h1
      (first|lia|omega)
     rintro y H8 ⟨rfl,hy⟩
     have e:=hy _ (SqL.of (s7 _ _ hlp6))
     rw [at1 hi] at e;cases e
     have hzi:=(hz6 _ (List.getElem_mem hi)).same s7
     have hki:=(zk _ (List.getElem_mem hi)).1
     have htk:=take_next hi
     generalize zs[i]=z at hzi hki htk
     obtain ⟨r,ns,hg,hr',en,hns⟩:=prs_nx pr (s7 _ _ hd6) (fun r hr=>(hn6 r hr).same s7) (b:=z.1) (p:=z.2) hzi hki
     have nl:ns.length≤16:=by
      have:=congrArg List.length en
      rw [List.length_map] at this
      rw [this];exact nxS_le hle _
     refine gn ⟨_,rfl,_,rfl,d, .ref r,rfl,hg,r,rfl,⟨_,SqL.of hr'⟩,?_⟩
     refine comp_go (N:=ns.length) (fun j ys H'=>H'=H8∧ys=((ns.take j).map fun q=>(valV kvs (pk q.2)).isSome).map V.bl) ⟨rfl,rfl⟩ ?_ ?_
     ·rintro j ys H9 Nz hj ⟨rfl,rfl⟩ nz
      refine ⟨⟨_,_,SqL.of hr',at1 hj⟩,small (by rw [List.length_map,List.length_map,List.length_take]; (first|lia|omega)),?_⟩
      rintro y H10 ⟨rfl,hy⟩
      have e:=hy _ (SqL.of hr')
      rw [at1 hj] at e;cases e
      refine gn ⟨_,rfl,_,rfl,wd,_,rfl,DGet.t (k:=pk ns[j].2) (s7 _ _ hw6) (hns _ (List.getElem_mem hj)),nz _ _ ⟨rfl,?_⟩⟩
      rw [take_next hj,List.map_append,List.map_append];rfl
     ·rintro ys H9 ⟨rfl,rfl⟩
      refine ⟨⟨_,SqL.of hr',by rw [List.length_map];exact Nat.le_refl _⟩,fun p9 hp9 => ?_⟩
      rw [List.take_length]
      obtain ⟨H10,n10⟩:∃H10,New H9 p9 (.lst ((ns.map fun q=>(valV kvs (pk q.2)).isSome).map V.bl)) H10:=⟨_,hp9,rfl⟩
      rw [←n10.eq]
      refine ⟨p9,_,rfl,SqL.of n10.at,_,rfl,?_⟩
      have eF:(ns.map fun q=>(valV kvs (pk q.2)).isSome).all id=Fz z:=by
       rw [hFz]
       show _=(nxS cs z.2).all _
       rw [←en,List.all_map,List.all_map];rfl
      rw [eF]
      have ef:(zs.take (i+1)).filter Fz=(zs.take i).filter Fz++(if Fz z=true then [z] else []):=by
       rw [htk,List.filter_append]
       congr 1
       by_cases h:Fz z=true
       ·rw [if_pos h,List.filter_cons,if_pos h,List.filter_nil]
       ·rw [if_neg h,List.filter_cons,if_neg h,List.filter_nil]
      refine ite2 (fun c=>⟨_,rfl,ny _ _ ⟨?_,s7.trans n10.same⟩⟩) (fun c=>ny _ _ ⟨?_,s7.trans n10.same⟩)
      ·rw [ef,if_pos c];unfold refs;rw [List.map_append];rfl
      ·rw [ef,if_neg c,List.append_nil]
    ·rintro ys H7 ⟨rfl,s7⟩
     rw [List.take_length]
     refine ⟨⟨_,SqL.of (s7 _ _ hlp6),by unfold refs;rw [List.length_map];exact Nat.le_refl _⟩,fun p hp=>qn _ _ ⟨p,rfl,s7.trans (same_new hp _),?_,upd_same⟩⟩
     cases e:H6 p with
     | none=>rfl
     | some o=>rw [s7 _ _ e] at hp;cases hp
   intro v H7 hz_
   refine Elim.el hz_ _ ?_
   clear hz_
   rintro sp rfl s67 hsp0 hsp7
   refine gn ?_
   obtain ⟨ms,hms⟩:∃ms,ms=zs.filter Fz:=⟨_,rfl⟩
   rw [←hms] at hsp7
   have msub:∀z∈ms,z∈zs∧Fz z=true:=fun z hz=>by rw [hms] at hz;exact List.mem_filter.mp hz
   have ml:ms.length≤zs.length:=by rw [hms];exact List.length_filter_le _ _
   have mnd:(ms.map (·.2)).Nodup:=by rw [hms];exact List.Nodup.sublist (List.Sublist.map _ List.filter_sublist) znd
   have s7:=s6.trans s67
   have hd7:=s67 _ _ hd6
   have hw7:=s67 _ _ hw6
   have hn7:∀r∈rs,NxAt cs H7 r:=fun r hr=>(hn6 r hr).same s67
   have hz7:∀z∈zs,PrAt H7 z:=fun z hz=>(hz6 z hz).same s67
   have hlp7:=s67 _ _ hlp6
   dsimp only
   refine seqCut (t:=tFor _ _ _) (fun σ H'=>Ex3 fun (x6 x7:Option V) (kvs':List (List Key×V)) => σ=[some (.ref l),some (.ref d),some (.ref wd),some (.ref lp),some (.bl true),some (.ref sp),x6,x7]∧(∀b o,b≠wd→H7 b=some o→H' b=some o)∧H' wd=some (.dT kvs')∧Wor cs rs kvs'∧(∀p,(valV kvs (pk p)).isSome=true→(valV kvs' (pk p)).isSome=true)∧(∀z∈ms,(valV kvs' (pk z.2)).isSome=true)∧∀p,(valV kvs' (pk p)).isSome=true→(valV kvs (pk p)).isSome=true∨p∈ms.map (·.2)) (fun Nx2 nx2 => ?_) ?_
   ·refine ⟨_,rfl,sp,rfl,⟨_,SqL.of hsp7⟩,?_⟩
    refine for_go (N:=ms.length) (fun i σ H'=>Ex3 fun (x6 x7:Option V) (kvs':List (List Key×V)) => σ=[some (.ref l),some (.ref d),some (.ref wd),some (.ref lp),some (.bl true),some (.ref sp),x6,x7]∧(∀b o,b≠wd→H7 b=some o→H' b=some o)∧H' wd=some (.dT kvs')∧Wor cs rs kvs'∧(∀p,(valV kvs (pk p)).isSome=true→(valV kvs' (pk p)).isSome=true)∧(∀z∈ms.take i,(valV kvs' (pk z.2)).isSome=true)∧∀p,(valV kvs' (pk p)).isSome=true→(valV kvs (pk p)).isSome=true∨p∈(ms.take i).map (·.2)) ⟨_,_,kvs,rfl,(fun b o _ e=>e),hw7,wo,(fun p h=>h),(fun z h=>nomatch h),fun p h => .inl h⟩ ?_ ?_
    ·intro i σ H8 hi hz_
     refine Elim.el hz_ _ ?_
     clear hz_
     rintro x6 x7 kvs' rfl k8 hw8 wo8 m8 d8 b8
     have spw:sp≠wd:=fun z=>by rw [z,hw6] at hsp0;cases hsp0
     have hsp8:=k8 _ _ spw hsp7
     refine ⟨⟨_,_,SqL.of hsp8,at1 hi⟩,?_⟩
     rintro v H9 ⟨rfl,hv⟩
     have e:=hv _ (SqL.of hsp8)
     rw [at1 hi] at e;cases e
     refine gn ?_
     have pK:∀{y:Addr×(Str×Str)},PrAt H7 y→PrAt H9 y:=fun {y} h=>k8 _ _ (fun e=>by have h:=h;unfold PrAt at h;rw [e,hw7] at h;cases h) h
     have hn9:∀r∈rs,NxAt cs H9 r:=fun r hr=>by
      obtain ⟨ys,h1,h2,h3⟩:=hn7 r hr
      exact ⟨ys,k8 _ _ (fun e=>by rw [e,hw7] at h1;cases h1) h1,h2,fun y hy=>pK (h3 y hy)⟩
     have hd9:=k8 _ _ dw hd7
     obtain ⟨hzs,hF⟩:=msub _ (List.getElem_mem hi)
     have htk:=take_next hi
     have hnew:ms[i].2 ∉ (ms.take i).map (·.2):=fun h=>by
      obtain ⟨y,hy,e⟩:=List.mem_map.mp h
      obtain ⟨j,hj,e'⟩:=List.mem_iff_getElem.mp hy
      rw [List.length_take] at hj
      rw [List.getElem_take] at e'
      have h1:=List.nodup_iff_pairwise_ne.mp mnd
      exact List.pairwise_iff_getElem.mp h1 j i (by rw [List.length_map]; (first|lia|omega)) (by rw [List.length_map]; (first|lia|omega)) (by first|lia|omega) (by rw [List.getElem_map,List.getElem_map,e'];exact e)
     generalize ms[i]=z at hzs hF htk hnew
     obtain ⟨zk1,zk2,zk3⟩:=zk z hzs
     have hz9:=pK (hz7 z hzs)
     obtain ⟨r,ns,hg,hr',en,hns⟩:=prs_nx pr hd9 hn9 (b:=z.1) (p:=z.2) hz9 zk1
     have nl:ns.length≤16:=by
      have:=congrArg List.length en
      rw [List.length_map] at this
      rw [this];exact nxS_le hle _
     have hall:∀q∈nxS cs z.2,(valV kvs' (pk q)).isSome=true:=fun q hq=>by
      rw [hFz] at hF
      exact m8 q (List.all_eq_true.mp hF q hq)
     have hvn:valV kvs' (pk z.2)=none:=by
      cases hv:valV kvs' (pk z.2) with
      | none=>rfl
      | some v=>
       rcases b8 z.2 (by rw [hv];rfl) with h|h
       ·rw [zk3] at h;cases h
       ·exact absurd h hnew
     obtain ⟨L,hL⟩:∃L,L=(nxS cs z.2).filterMap (tf kvs'):=⟨_,rfl⟩
     have Ll:L.length≤16:=by rw [hL];exact Nat.le_trans (List.length_filterMap_le _ _) (nxS_le hle _)
     have Ln:∀a∈L,∃n:Nat,a=((n+1:Nat):Int):=fun a ha=>by
      rw [hL] at ha
      obtain ⟨q,hq,e⟩:=List.mem_filterMap.mp ha
      obtain ⟨o,ho,_⟩:=wo8.at (hall q hq)
      cases o with
      | none=>rw [tf_none ho] at e;cases e
      | some n=>rw [tf_some ho] at e;exact ⟨n,by have:=Option.some.inj e; (first|lia|omega)⟩
     dsimp only
     refine asgCut (te:=tComp _ _ _ _ _ _) (fun v H'=>∃tp,v = .ref tp∧New H9 tp (.lst (L.map V.int)) H') (fun Qn qn => ?_) ?_
     ·refine ⟨_,rfl,_,rfl,d, .ref r,rfl,hg,r,rfl,⟨_,SqL.of hr'⟩,?_⟩
      refine comp_goN (N:=ns.length) (fun j ys H'=>H'=H9∧ys=(((ns.take j).map (·.2)).filterMap (tf kvs')).map V.int) ⟨rfl,rfl⟩ ?_ ?_
      ·rintro j ys H10 Ny hj ⟨rfl,rfl⟩ ny
       refine ⟨⟨_,_,SqL.of hr',at1 hj⟩,small ?_,?_⟩
       ·rw [List.length_map]
        have h1:=List.length_filterMap_le (tf kvs') ((ns.take j).map (·.2))
        rw [List.length_map,List.length_take] at h1
        (first|lia|omega)
       rintro y H11 ⟨rfl,hy⟩
       have e:=hy _ (SqL.of hr')
       rw [at1 hj] at e;cases e
       have hq:=hns _ (List.getElem_mem hj)
       have hq2:ns[j].2∈nxS cs z.2:=by rw [←en];exact List.mem_map_of_mem (List.getElem_mem hj)
       have htj:=take_next hj
       generalize ns[j]=y at hq hq2 htj
       obtain ⟨o,ho,_⟩:=wo8.at (hall _ hq2)
       have hget:=DGet.t (k:=pk y.2) hw8 hq
       rw [ho] at hget
       have step:∀x,(((ns.take (j+1)).map (·.2)).filterMap (tf kvs'))=((ns.take j).map (·.2)).filterMap (tf kvs')++x ↔ [y.2].filterMap (tf kvs')=x:=fun x=>by
        rw [htj,List.map_append,List.filterMap_append]
        exact ⟨fun h=>List.append_cancel_left h,fun h=>by rw [←h];rfl⟩
       cases o with
       | none=>
        refine gn ⟨_,rfl,_,rfl,wd,_,rfl,hget, .inl ⟨rfl,_,rfl,iteF (ny _ _ ⟨rfl,?_⟩)⟩⟩
        rw [(step []).mpr (by rw [List.filterMap_cons_none (tf_none ho),List.filterMap_nil]),List.append_nil]
       | some n=>
        refine gn ⟨_,rfl,_,rfl,wd,_,rfl,hget, .inl ⟨rfl,_,rfl,iteT ⟨_,rfl,_,rfl,wd,_,rfl,hget, .inl ⟨_,_,rfl,rfl,ny _ _ ⟨rfl,?_⟩⟩⟩⟩⟩
        rw [(step [(n:Int)+1]).mpr (by rw [List.filterMap_cons_some (tf_some ho),List.filterMap_nil]),List.map_append];rfl
      ·rintro ys H10 ⟨rfl,rfl⟩
       rw [List.take_length,en, ←hL]
       exact ⟨⟨_,SqL.of hr',by unfold refs;rw [List.length_map];exact Nat.le_refl _⟩,fun tp H11 n11=>qn _ _ ⟨tp,rfl,n11⟩⟩
     intro v H10 hz_
     refine Elim.el hz_ _ ?_
     clear hz_
     rintro tp rfl n10
     refine gn ?_
     have fin:∀{o:Option Nat} {H11:Hp},Same H10 H11→((o=none∧L=[])∨∃m:Nat,o=some m∧(m:Int)∈L∧∀a∈L,a≤(m:Int))→∃H12,DPut H11 wd (.ref z.1) (ov o) H12∧(∀b o,b≠wd→H7 b=some o→H12 b=some o)∧H12 wd=some (.dT (kvs'++[(pk z.2,ov o)]))∧Wor cs rs (kvs'++[(pk z.2,ov o)])∧(∀p,(valV kvs (pk p)).isSome=true→(valV (kvs'++[(pk z.2,ov o)]) (pk p)).isSome=true)∧(∀y∈ms.take (i+1),(valV (kvs'++[(pk z.2,ov o)]) (pk y.2)).isSome=true)∧∀p,(valV (kvs'++[(pk z.2,ov o)]) (pk p)).isSome=true→(valV kvs (pk p)).isSome=true∨p∈(ms.take (i+1)).map (·.2):=fun {o H11} s11 ht=>by
      rw [hL] at ht
      obtain ⟨_,_,e1,e2⟩:=pne zk1 zk2
      have hw:=wo8.put zk1 e1 e2 hall ht
      have hs:=n10.same.trans s11
      have val:∀p,valV (kvs'++[(pk z.2,ov o)]) (pk p)=if pk p=pk z.2 then some (ov o) else valV kvs' (pk p):=fun p=>by rw [←putK_new (ov o) hvn,valV_put]
      refine ⟨_,DPut.t (k:=pk z.2) (hs _ _ hw8) (hs _ _ hz9) (big (Nat.le_trans (wo8.le pr) (by decide))),?_⟩
      rw [putK_new _ hvn]
      refine ⟨fun b o' hb e=>by rw [upd_ne hb];exact hs _ _ (k8 b o' hb e),upd_same,wo8.more zk1 hvn hw,fun p hp => ?_,fun y hy => ?_,fun p hp => ?_⟩
      ·rw [val];split
       ·rfl
       ·exact m8 p hp
      ·rw [val];split
       ·rfl
       ·rename_i h
        rw [htk] at hy
        rcases List.mem_append.mp hy with hy|hy
        ·exact d8 y hy
        ·exact absurd (by rw [List.mem_singleton.mp hy]) h
      ·rw [val] at hp
       rw [htk,List.map_append]
       split at hp
       ·rename_i h
        exact .inr (List.mem_append_right _ (List.mem_singleton.mpr (pk_inj h)))
       ·exact (b8 p hp).imp id fun h=>List.mem_append_left _ h
     refine ⟨_,rfl,by show 0≤sizeLine;decide,fun p11 H11 n11 => .inr ⟨_,_,Den.list (SqL.of (n11.same _ _ n10.at)) (Den.ints L),Den.list (SqL.of n11.at) (by unfold Dens;rfl),(sh_ints (n:=1) L).shaped (by decide),sh_nil,_,rfl,?_⟩⟩
     rw [eqvNil,List.isEmpty_map]
     by_cases hLe:L=[]
     ·have e:(!L.isEmpty)=false:=by rw [hLe];rfl
      rw [e]
      obtain ⟨H12,hput,f1,f2,f3,f4,f5,f6⟩:=fin (o:=none) n11.same (.inl ⟨rfl,hLe⟩)
      exact iteF ⟨_,rfl,_,rfl,wd,H12,rfl,hput,_,_,_,rfl,f1,f2,f3,f4,f5,f6⟩
     ·have e:(!L.isEmpty)=true:=by cases L with|nil=>exact absurd rfl hLe|cons _ _=>rfl
      rw [e]
      refine iteT ⟨_,rfl,tp,L,rfl,SqL.of (n11.same _ _ n10.at),hLe,fun M hM hmx => ?_⟩
      obtain ⟨n,rfl⟩:=Ln M hM
      obtain ⟨H12,hput,f1,f2,f3,f4,f5,f6⟩:=fin (o:=some (n+1)) n11.same (.inr ⟨n+1,rfl,hM,hmx⟩)
      exact ⟨_,rfl,_,rfl,wd,H12,rfl,hput,_,_,_,rfl,f1,f2,f3,f4,f5,f6⟩
    ·intro σ H8 hz_
     refine Elim.el hz_ _ ?_
     clear hz_
     rintro x6 x7 kvs' rfl k8 hw8 wo8 m8 d8 b8
     rw [List.take_length] at d8 b8
     have spw:sp≠wd:=fun z=>by rw [z,hw6] at hsp0;cases hsp0
     exact ⟨⟨_,SqL.of (k8 _ _ spw hsp7),by unfold refs;rw [List.length_map];exact Nat.le_refl _⟩,nx2 _ _ ⟨x6,x7,kvs',rfl,k8,hw8,wo8,m8,d8,b8⟩⟩
   intro σ H8 hz_
   refine Elim.el hz_ _ ?_
   clear hz_
   rintro x6 x7 kvs' rfl k8 hw8 wo8 m8 d8 b8
   have spw:sp≠wd:=fun z=>by rw [z,hw6] at hsp0;cases hsp0
   have lpw:lp≠wd:=fun z=>by rw [z,hw6] at hlp6;cases hlp6
   have hlp8:=k8 _ _ lpw hlp7
   have pK:∀{y:Addr×(Str×Str)},PrAt H7 y→PrAt H8 y:=fun {y} h=>k8 _ _ (fun e=>by have h:=h;unfold PrAt at h;rw [e,hw7] at h;cases h) h
   have hz8:∀z∈zs,PrAt H8 z:=fun z hz=>pK (hz7 z hz)
   have s8:Same H H8:=fun b o e=>k8 _ _ (ne_of_none e hw0) (s7 b o e)
   have hn8:∀r∈rs,NxAt cs H8 r:=fun r hr=>by
    obtain ⟨ys,h1,h2,h3⟩:=hn7 r hr
    exact ⟨ys,k8 _ _ (fun e=>by rw [e,hw7] at h1;cases h1) h1,h2,fun y hy=>pK (h3 y hy)⟩
   obtain ⟨G,hG⟩:∃G:Addr×(Str×Str)→Bool,G=fun z => !(valV kvs' (pk z.2)).isSome:=⟨_,rfl⟩
   refine asgCut (te:=tComp _ _ _ _ _ _) (fun v H'=>∃p,v = .ref p∧New H8 p (.lst (refs (zs.filter G))) H') (fun Qn qn => ?_) ?_
   ·refine ⟨_,rfl,lp,rfl,⟨_,SqL.of hlp8⟩,?_⟩
    refine comp_goN (N:=zs.length) (fun i ys H'=>H'=H8∧ys=refs ((zs.take i).filter G)) ⟨rfl,rfl⟩ ?_ ?_
    ·rintro i ys H9 Ny hi ⟨rfl,rfl⟩ ny
     refine ⟨⟨_,_,SqL.of hlp8,at1 hi⟩,big ?_,?_⟩
     ·unfold refs
      rw [List.length_map]
      have h1:=List.length_filter_le G (zs.take i)
      rw [List.length_take] at h1
      (first|lia|omega)
     rintro y H10 ⟨rfl,hy⟩
     have e:=hy _ (SqL.of hlp8)
     rw [at1 hi] at e;cases e
     have hzi:=hz8 _ (List.getElem_mem hi)
     have htk:=take_next hi
     generalize zs[i]=z at hzi htk
     refine gn ⟨_,rfl,_,rfl,wd,_,rfl,DGet.t (k:=pk z.2) hw8 hzi,_,rfl,?_⟩
     have eG:(!(valV kvs' (pk z.2)).isSome)=G z:=by rw [hG]
     rw [eG]
     have ef:(zs.take (i+1)).filter G=(zs.take i).filter G++(if G z=true then [z] else []):=by
      rw [htk,List.filter_append]
      congr 1
      by_cases h:G z=true
      ·rw [if_pos h,List.filter_cons,if_pos h,List.filter_nil]
      ·rw [if_neg h,List.filter_cons,if_neg h,List.filter_nil]
     refine ite2 (fun c=>⟨_,rfl,ny _ _ ⟨rfl,?_⟩⟩) (fun c=>ny _ _ ⟨rfl,?_⟩)
     ·rw [ef,if_pos c];unfold refs;rw [List.map_append];rfl
     ·rw [ef,if_neg c,List.append_nil]
    ·rintro ys H9 ⟨rfl,rfl⟩
     rw [List.take_length]
     exact ⟨⟨_,SqL.of hlp8,by unfold refs;rw [List.length_map];exact Nat.le_refl _⟩,fun p H10 n10=>qn _ _ ⟨p,rfl,n10⟩⟩
   intro v H9 hz_
   refine Elim.el hz_ _ ?_
   clear hz_
   rintro lp' rfl n9
   refine gn ?_
   have hsp9:=n9.same _ _ (k8 _ _ spw hsp7)
   have binm:∀z∈ms,Bin z.2.1∧Bin z.2.2:=fun z hz=>by
    obtain ⟨h1,h2,_⟩:=zk z (msub z hz).1
    obtain ⟨h3,_⟩:=pne h1 h2
    exact ⟨h3.1.bin g,h3.2.bin g⟩
   have fmem:∀z,z∈zs.filter G ↔ z∈zs∧valV kvs' (pk z.2)=none:=fun z=>by
    rw [List.mem_filter,hG]
    refine and_congr Iff.rfl ?_
    show (!(valV kvs' (pk z.2)).isSome)=true ↔ _
    cases valV kvs' (pk z.2) with
    | none=>exact ⟨fun _=>rfl,fun _=>rfl⟩
    | some v=>exact ⟨(fun h=>nomatch h),fun h=>nomatch h⟩
   refine ⟨_,rfl,by show 0≤sizeLine;decide,fun p10 H10 n10 => .inr ⟨_,_,Den.list (SqL.of (n10.same _ _ hsp9)) (denP fun z hz=>((hz8 z (msub z hz).1).same n9.same).same n10.same),Den.list (SqL.of n10.at) (by unfold Dens;rfl),shP binm,sh_nil,?_⟩⟩
   rw [eqvNil,List.isEmpty_map]
   have s810:=n9.same.trans n10.same
   have zl':=List.length_filter_le G zs
   refine ⟨2*(zs.filter G).length+(if (!ms.isEmpty)=true then 1 else 0),?_,lp',zs.filter G,kvs', !ms.isEmpty,_,_,_,rfl,rfl,s8.trans s810,s810 _ _ (k8 _ _ dw hd7),fun r hr=>(hn8 r hr).same s810,n10.same _ _ n9.at,fun z hz=>(hz8 z ((fmem z).mp hz).1).same s810,List.Nodup.sublist (List.Sublist.map _ List.filter_sublist) znd,fun z hz => ?_,s810 _ _ hw8,wo8,fun p hp => ?_,fun hm z hz => ?_⟩
   ·cases hmm:ms with
    | nil=>simp; (first|lia|omega)
    | cons y ys=>
     have hy:y∈ms:=by rw [hmm];exact List.mem_cons_self
     have:(zs.filter G).length<zs.length:=by
      refine List.length_filter_lt_length_iff_exists.mpr ⟨y,(msub y hy).1,?_⟩
      rw [hG]
      show ¬(!(valV kvs' (pk y.2)).isSome)=true
      rw [d8 y hy];decide
     show 2*_+1<_
     (first|lia|omega)
   ·obtain ⟨h1,h2⟩:=(fmem z).mp hz
    exact ⟨(zk z h1).1,(zk z h1).2.1,h2⟩
   ·rcases cov p hp with h|h
    ·obtain ⟨z,hz,rfl⟩:=List.mem_map.mp h
     cases hv:valV kvs' (pk z.2) with
     | none=>exact .inl (List.mem_map_of_mem ((fmem z).mpr ⟨hz,hv⟩))
     | some v=>exact .inr rfl
    ·exact .inr (m8 p h)
   ·have hme:ms=[]:=by
     cases hmm:ms with
     | nil=>rfl
     | cons y ys=>rw [hmm] at hm;cases hm
    obtain ⟨h1,h2⟩:=(fmem z).mp hz
    have hF:¬Fz z=true:=fun h=>by
     have:z∈ms:=by rw [hms];exact List.mem_filter.mpr ⟨h1,h⟩
     rw [hme] at this;cases this
    rw [hFz] at hF
    have hF:¬ ∀q∈nxS cs z.2,(valV kvs (pk q)).isSome=true:=fun h=>hF (List.all_eq_true.mpr h)
    refine Classical.byContradiction fun hno=>hF fun q hq => ?_
    refine Classical.byContradiction fun hn'=>hno ⟨q,hq,?_⟩
    cases hv:valV kvs' (pk q) with
    | none=>rfl
    | some v=>
     rcases b8 q (by rw [hv];rfl) with h|h
     ·exact absurd h hn'
     ·rw [hme] at h;cases h
 intro σ H6 hz_
 refine Elim.el hz_ _ ?_
 clear hz_
 rintro lp zs kvs x5 x6 x7 rfl s6 hlp6 hz6 zk hw6 wo cov fixp
 have bins:∀z∈zs,Bin z.2.1∧Bin z.2.2:=fun z hz=>by
  obtain ⟨h1,h2⟩:=zk z hz
  obtain ⟨h3,_⟩:=pne h1 h2
  exact ⟨h3.1.bin g,h3.2.bin g⟩
 refine ⟨_,rfl,by show 0≤sizeLine;decide,fun p7 H7 n7 => .inr ⟨_,_,Den.list (SqL.of (n7.same _ _ hlp6)) (denP fun z hz=>(hz6 z hz).same n7.same),Den.list (SqL.of n7.at) (by unfold Dens;rfl),shP bins,sh_nil,_,rfl,?_⟩⟩
 rw [eqvNil,List.isEmpty_map]
 have s7:=s6.trans n7.same
 cases zs with
 | cons z zs'=>
  refine iteT (fun e8 H8 n8=>q _ _ (s7.trans n8.same) ⟨e8,rfl, .inl ⟨.inl ⟨[], .inl n8.at,rfl⟩,?_⟩⟩)
  have none':∀{sp:Sg×Sg} {o:Option Nat},Wv (cs.map sg) sp o→∀y∈z :: zs',sgp y.2=sp→False:=fun {sp o} h=>by
   induction h with
   | fin=>
    intro y hy e
    obtain ⟨h1,h2⟩:=zk y hy
    obtain ⟨_,_,h3,_⟩:=pne h1 h2
    injection e with e1 _
    exact h3 e1
   | step p f v h1 h2 h t ih=>
    intro y hy e
    obtain ⟨q',hq',hv⟩:=fixp y hy
    have hk:=pr.cl _ (zk y hy).1 q' hq'
    have hin:=(cov q' hk).resolve_right (by rw [hv];exact fun z=>nomatch z)
    obtain ⟨y',hy',e'⟩:=List.mem_map.mp hin
    refine ih (sgp q') ?_ y' hy' (by rw [e'])
    rw [←e, ←nx_sg];exact List.mem_map_of_mem hq'
  obtain ⟨h1,h2⟩:=zk z List.mem_cons_self
  exact ⟨sgp z.2,(pne h1 h2).2.1,fun o h=>none' h z List.mem_cons_self rfl⟩
 | nil=>
  have all:∀p∈rs.map (·.1),∃o,valV kvs (pk p)=some (ov o)∧Wv (cs.map sg) (sgp p) o:=fun p hp=>wo.at ((cov p hp).resolve_left fun z=>nomatch z)
  refine iteF ⟨_,rfl,q _ _ s7 ⟨wd,rfl, .inr ⟨kvs,n7.same _ _ hw6,fun z => ?_,fun p hp => ?_,fun d' hd' k h1 h2 p e1 e2=>all p (pr.ini d' hd' k h1 h2 p e1 e2)⟩⟩⟩
  ·obtain ⟨o,ho,_⟩:=all eP pr.fin
   rw [z] at ho;cases ho
  ·refine Rc.worth (fun k d' c h1 h2 hd' hc => ?_) hp
   obtain ⟨d'',hd'',rfl⟩:=List.mem_map.mp hd'
   obtain ⟨c',hc',rfl⟩:=List.mem_map.mp hc
   obtain ⟨o,_,hw⟩:=all (⟨((sg d'').drop k).toArray⟩,c') (pr.ini d'' hd'' k h1 h2 _ (by show ((sg d'').drop k).toArray.toList=_;rw [List.toList_toArray]) hc')
   refine ⟨o,?_⟩
   have e:sgp ((⟨((sg d'').drop k).toArray⟩:Str),c')=((sg d'').drop k,sg c'):=by
    show (((sg d'').drop k).toArray.toList,sg c')=_
    rw [List.toList_toArray]
   rw [e] at hw
   exact hw
end
end Z
namespace Z
open PySem L2 PyProof.Rows
noncomputable def Mx0 (S:Nat→Prop) (m:Nat):Prop:=(m=0∨S m)∧∀a,S a→a≤m
noncomputable def W1 (cs:List Sg) (a:Nat):Prop:=Ex3 fun (k:Nat) (d c:Sg)=>1≤k∧k<d.length∧d∈cs∧c∈cs∧Wv cs (d.drop k,c) (some a)
noncomputable def DueR (cs:List Str) (v:V):Prop:=(v = .non∧∃p,Rc (cs.map sg) p∧∀o, ¬Wv (cs.map sg) p o)∨∃m:Nat,v = .int m∧(∀p,Rc (cs.map sg) p→∃o,Wv (cs.map sg) p o)∧Mx0 (W1 (cs.map sg)) m
noncomputable def spDu (K:PySem.W.Frag):Sp:=fun vs H Q _=>Ex2 fun (l:Addr) (cs:List Str)=>vs=[.ref l]∧H l=some (.lst (cs.map V.str))∧Cods cs ∧
 ∀(v:V) (H':Hp),Same H H'→DueR cs v→Q v H'
noncomputable abbrev nI (ns:List Nat):List V:=ns.map fun n=>V.int (n:Nat)
noncomputable def DuI (cs:List Str) (H3:Hp) (fp:Addr) (i k:Nat) (H':Hp):Prop:=∃ns:List Nat,(∀b o,b≠fp→H3 b=some o→H' b=some o)∧H' fp=some (.lst (nI ns))∧ns≠[]∧ns.length≤200*i+16*k+1∧(∀a∈ns,a=0∨W1 (cs.map sg) a)∧0∈ns∧(∀d∈cs.take i,∀k,1≤k→k<(sg d).length→∀c∈cs,∀a,Wv (cs.map sg) ((sg d).drop k,sg c) (some a)→a∈ns)∧∀d,cs[i]? = some d→∀j,1≤j→j≤k→j<(sg d).length→∀c∈cs,∀a,Wv (cs.map sg) ((sg d).drop j,sg c) (some a)→a∈ns
section
variable {P:Program} {w:World} {K:PySem.W.Frag} {mg:Str→Option Value} {base:Heap} {f:Addr} {fd:FuncData}
theorem sc_law_due:FnScope ["_law_codes", "_law_worths_here", "_law_found", "_law_code", "_law_place", "_law_some"] ["_law_codes"] (defScope (top i_law_due)):=⟨rfl,rfl,rfl,by decide +kernel,rfl,by decide +kernel,by decide +kernel⟩
theorem ok_du (F:Fun K "_law_due" "_law_due" (top i_law_due) f fd) (T:Nm mg) (f_law_worths:Fn P w K mg base 3 "_law_worths" ["_law_codes"] (spWor K)):FnOk P w K mg base CX0 4 f fd ["_law_codes"] (spDu K):=by
 refine F.ok sc_law_due (fun vs H Q E h => ?_) (fun cdv A outer s H vs Q E hr h => ?_)
 ·obtain ⟨l,cs,rfl,_⟩:=h
  rfl
 unfold spDu at h
 refine Elim.el h _ ?_
 clear h
 rintro l cs rfl hl g q
 have hu:=hu_of hr
 have hle:=g.le
 have small:∀{n:Nat},n≤10000→n<sizeLine:=fun h=>Nat.lt_of_le_of_lt h (by decide)
 have at1:∀{xs:List Str} {i:Nat} (hi:i<xs.length),(xs.map V.str)[i]? = some (.str xs[i]):=fun hi=>by rw [List.getElem?_map,List.getElem?_eq_getElem hi];rfl
 refine ⟨_,(pss_cons (ps_set (i:=1) sc_law_due.nd rfl (Or.inr rfl) (pe_fn (f_law_worths.mono (by first|decide|exact Nat.le_refl _|(first|lia|omega))) hr rfl (pa_cons (pv 0) pa_nil)))
  (pss_cons (ps_if (pt_cmpR (eqE (Nat.lt_of_le_of_lt (Nat.le_succ _) hu)) (pv 1) dnewN (nomark _)) (pss_one (ps_ret pe_non)) pss_nil)
  (pss_cons (ps_set (i:=2) sc_law_due.nd rfl (Or.inl rfl) (lstN (pa_cons pe_int pa_nil)))
  (pss_cons (ps_for PassesOwn.never rfl (piK K (pv 0)) (pg_name (i:=3) sc_law_due.nd rfl (Or.inr rfl)) (pss_one (ps_for PassesOwn.never rfl (pi_range2 rfl T.n_range (pa_cons pe_int (pa_cons (pe_callB (lenK K) rfl T.n_len (by rfl) (pa_cons (pv 3) pa_nil)) pa_nil))) (pg_name (i:=4) sc_law_due.nd rfl (Or.inr rfl)) (pss_cons (ps_setcomp (i:=5) sc_law_due.nd rfl (Or.inl rfl) rfl (comp_ok (Nc:=["_law_other"]) (Fc:=["_law_worths_here", "_law_code", "_law_place"]) (js:=[1,3,4])) (piK K (pv 0)) (gk_name (i:=0) (n:=1) (by decide)) (fun _ _ _ _ _=>(pg_name (i:=0) (show (["_law_other", "_law_worths_here", "_law_code", "_law_place"]:List Str).Nodup by decide +kernel) rfl (Or.inl rfl))) (fun _ _ _ _ _=>pts_nil) (fun _ _ _ _ _=>(pe_dget hu (pv 1) (tupN (pa_cons (pe_slice (slN K) (pv 2) (po_some (pv 3)) po_none) (pa_cons (pv 0) pa_nil))) (fun _ _=>rfl))))
  (pss_one (ps_expr (bmK K PySem.F.plainAttrs_list PySem.F.slot_list_extend PySem.F.type_list_extend extendN (pv 2) (pa_cons (pe_lcomp rfl (comp_ok (Nc:=["_law_worth"]) (Fc:=[]) (js:=[])) (piK K (pv 5)) (gk_name (i:=0) (n:=1) (by decide)) (fun _ _ _ _ _=>(pg_name (i:=0) (show (["_law_worth"]:List Str).Nodup by decide +kernel) rfl (Or.inl rfl))) (fun _ _ _ _ _=>(pts_one (pt_cmpR g_isnot (pv 0) pe_non (nomark _)))) (fun _ _ _ _ _=>(pv 0))) pa_nil))))))))
  (pss_one (ps_ret (pe_callB (maxK K rfl) rfl T.n_max (by rfl) (pa_cons (pv 2) pa_nil)))))))),?_⟩
 refine ⟨_,rfl,l,cs,rfl,hl,g,fun v H1 s1 hw=>gn ?_⟩
 obtain ⟨wd,rfl,hw⟩:=hw
 dsimp only
 refine ⟨_,rfl,fun e2 H2 n2 => ?_⟩
 have s2:=s1.trans n2.same
 have dn0:DN H2 e2 0 := .inl ⟨[], .inl n2.at,rfl⟩
 have dsame:∀{n:Nat},DN H1 wd n→DN H2 wd n:=fun h=>by
  rcases h with ⟨kvs,h|⟨o,h⟩,e⟩|⟨kvs,h|⟨o,h⟩,e⟩
  ·exact .inl ⟨kvs, .inl (n2.same _ _ h),e⟩
  ·exact .inl ⟨kvs, .inr ⟨o,n2.same _ _ h⟩,e⟩
  ·exact .inr ⟨kvs, .inl (n2.same _ _ h),e⟩
  ·exact .inr ⟨kvs, .inr ⟨o,n2.same _ _ h⟩,e⟩
 rcases hw with ⟨dn,hno⟩|⟨kvs,hkv,kne,hall,hst⟩
 ·exact ⟨wd,e2,0,rfl,rfl,dsame dn,dn0,_,rfl,iteT (q _ _ s2 (.inl ⟨rfl,hno⟩))⟩
 have hk2:=n2.same _ _ hkv
 refine ⟨wd,e2,kvs.length,rfl,rfl, .inr ⟨kvs, .inl hk2,rfl⟩,dn0,_,rfl,?_⟩
 have ek:(kvs.length == 0)=false:=by cases kvs with|nil=>exact absurd rfl kne|cons _ _=>rfl
 rw [ek]
 refine iteF ⟨by show 1≤sizeLine;decide,fun fp H3 n3=>gn ?_⟩
 have s3:=s2.trans n3.same
 have hf0:H fp=none:=by
  cases e:H fp with
  | none=>rfl
  | some o=>have:=n3.nn;rw [s2 _ _ e] at this;cases this
 have hk3:=n3.same _ _ hk2
 have wfp:wd≠fp:=ne_of_none hk2 n3.nn
 dsimp only
 refine seqCut (t:=tFor _ _ _) (fun σ H'=>Ex3 fun (x3 x4 x5:Option V) => σ=[some (.ref l),some (.ref wd),some (.ref fp),x3,x4,x5]∧DuI cs H3 fp cs.length 0 H') (fun Nx nx => ?_) ?_
 ·refine ⟨_,rfl,l,rfl,⟨_,SqL.of (s3 _ _ hl)⟩,?_⟩
  refine for_go (N:=cs.length) (fun i σ H'=>Ex3 fun (x3 x4 x5:Option V) => σ=[some (.ref l),some (.ref wd),some (.ref fp),x3,x4,x5]∧DuI cs H3 fp i 0 H') ⟨_,_,_,rfl,[0],(fun b o _ e=>e),n3.at,(fun z=>nomatch z),by show 1≤1;decide,(fun a ha => .inl (List.mem_singleton.mp ha)),List.mem_singleton.mpr rfl,(fun d h=>nomatch h),fun d _ j h1 h2=>absurd h1 (by first|lia|omega)⟩ ?_ ?_
  ·intro i σ H4 hi hz_
   refine Elim.el hz_ _ ?_
   clear hz_
   rintro x3 x4 x5 rfl I4
   have ls4:∀{H':Hp} {k:Nat},DuI cs H3 fp i k H'→H' l=some (.lst (cs.map V.str)):=fun ⟨_,k,_⟩=>k _ _ (ne_of_none hl hf0) (s3 _ _ hl)
   refine ⟨⟨_,_,SqL.of (ls4 I4),at1 hi⟩,?_⟩
   rintro v H5 ⟨rfl,hv⟩
   have e:=hv _ (SqL.of (ls4 I4))
   rw [at1 hi] at e;cases e
   refine gn ?_
   have hci:cs[i]? = some cs[i]:=List.getElem?_eq_getElem hi
   have hm:=List.getElem_mem hi
   have hc:=g.cd _ hm
   have htk:=take_next hi
   generalize cs[i]=c at hm hc htk hci
   have hc0:=hc.pos
   have hc1:=hc.le
   have ec:c.length=(sg c).length:=str_len c
   dsimp only
   refine ⟨_,rfl,_,_,rfl,⟨sizeOk (by first|lia|omega),rfl⟩,1,(c.length:Nat),rfl,⟨by first|lia|omega,by first|lia|omega,by first|lia|omega,by first|lia|omega⟩,?_⟩
   refine for_go (N:=c.length-1) (fun k σ H'=>Ex2 fun (x4 x5:Option V) => σ=[some (.ref l),some (.ref wd),some (.ref fp),some (.str c),x4,x5]∧DuI cs H3 fp i k H') ⟨_,_,rfl,I4⟩ ?_ ?_
   ·intro k σ H6 hk hz_
    refine Elim.el hz_ _ ?_
    clear hz_ I4
    rintro x4 x5 rfl I6
    refine ⟨by show k<_; (first|lia|omega),?_⟩
    rintro v H7 ⟨rfl,rfl⟩
    refine gn ?_
    have hl7:=ls4 I6
    obtain ⟨ns,k7,hf7,nne,nl,nin,n0,ncov,nck⟩:=I6
    have hk7:=k7 _ _ wfp hk3
    obtain ⟨r,hr'⟩:∃r,r=Txt.slice c (some ((1+k:Nat):Int)) none:=⟨_,rfl⟩
    have er:sg r=(sg c).drop (1+k):=by rw [hr'];exact sl_fromN (x:=c) (1+k)
    dsimp only
    refine asgCut (te:=tComp _ _ _ _ _ _) (fun v H'=>Ex2 fun (sp:Addr) (os:List (Option Nat))=>v = .ref sp∧Same H7 H'∧H' sp=some (.lst (os.map ov))∧os.length=cs.length∧∀(j:Nat) (o:Option Nat),os[j]? = some o→∃c',cs[j]? = some c'∧Wv (cs.map sg) ((sg c).drop (1+k),sg c') o) (fun Qn qn => ?_) ?_
    ·refine ⟨_,rfl,l,rfl,⟨_,SqL.of hl7⟩,?_⟩
     refine comp_go (N:=cs.length) (fun j ys H'=>∃os:List (Option Nat),ys=os.map ov∧Same H7 H'∧os.length=j∧∀(j:Nat) (o:Option Nat),os[j]? = some o→∃c',cs[j]? = some c'∧Wv (cs.map sg) ((sg c).drop (1+k),sg c') o) ⟨[],rfl,Same.refl _,rfl,fun j o h=>nomatch h⟩ ?_ ?_
     ·intro j ys H8 Ny hj hz_ ny
      refine Elim.el hz_ _ ?_
      clear hz_
      rintro os rfl s8 ol ho
      refine ⟨⟨_,_,SqL.of (s8 _ _ hl7),at1 hj⟩,small (by rw [List.length_map]; (first|lia|omega)),?_⟩
      rintro v H9 ⟨rfl,hv⟩
      have e:=hv _ (SqL.of (s8 _ _ hl7))
      rw [at1 hj] at e;cases e
      have hcj:cs[j]? = some cs[j]:=List.getElem?_eq_getElem hj
      have hmj:=List.getElem_mem hj
      generalize cs[j]=cj at hcj hmj
      refine gn ?_
      dsimp only [tYes]
      rw [if_pos rfl]
      refine ⟨_,rfl,_,rfl,_,rfl,_,rfl,?_⟩
      dsimp only [tNoPart]
      refine .inr ⟨c,rfl,sizeOk (by first|lia|omega),?_⟩
      rw [show ((1:Int)+(k:Int))=((1+k:Nat):Int) by first|lia|omega, ←hr']
      obtain ⟨o,ho',hw'⟩:=hst c hm (1+k) (by first|lia|omega) (by first|lia|omega) (r,cj) er hmj
      refine ⟨_,rfl,by show 2≤sizeLine;decide,fun t H10 n10=>⟨wd,ov o,rfl,?_,ny _ _ ⟨os++[o],by rw [List.map_append];rfl,s8.trans n10.same,by rw [List.length_append,ol];rfl,fun j' o' h => ?_⟩⟩⟩
      ·have:=DGet.t (k:=pk (r,cj)) (n10.same _ _ (s8 _ _ hk7)) n10.at
       rw [ho'] at this
       exact this
      ·by_cases hjj:j'<j
       ·rw [List.getElem?_append_left (by first|lia|omega)] at h
        exact ho j' o' h
       ·rw [List.getElem?_append_right (by first|lia|omega),ol] at h
        have e0:j'-j=0:=by
         cases hz:j'-j with
         | zero=>rfl
         | succ n=>rw [hz] at h;cases h
        have ej:j'=j:=by (first|lia|omega)
        subst ej
        rw [e0] at h
        cases h
        refine ⟨cj,hcj,?_⟩
        rw [←er];exact hw'
     ·intro ys H8 hz_
      refine Elim.el hz_ _ ?_
      clear hz_
      rintro os rfl s8 ol ho
      exact ⟨⟨_,SqL.of (s8 _ _ hl7),by rw [List.length_map];exact Nat.le_refl _⟩,fun p hp=>qn _ _ ⟨p,os,rfl,s8.trans (same_new hp _),upd_same,ol,ho⟩⟩
    intro v H8 hz_
    refine Elim.el hz_ _ ?_
    clear hz_
    rintro sp os rfl s8 hsp ol ho
    refine gn ?_
    have ato:∀{j:Nat} (hj:j<os.length),(os.map ov)[j]? = some (ov os[j]):=fun hj=>by rw [List.getElem?_map,List.getElem?_eq_getElem hj];rfl
    have hf8:=s8 _ _ hf7
    refine ⟨_,rfl, .inl ⟨rfl,_,SqL.of hf8⟩,?_⟩
    refine ⟨_,rfl,sp,rfl,⟨_,SqL.of hsp⟩,?_⟩
    refine comp_go (N:=os.length) (fun j ys H'=>H'=H8∧ys=nI ((os.take j).filterMap id)) ⟨rfl,rfl⟩ ?_ ?_
    ·rintro j ys H9 Ny hj ⟨rfl,rfl⟩ ny
     refine ⟨⟨_,_,SqL.of hsp,ato hj⟩,small ?_,?_⟩
     ·unfold nI
      rw [List.length_map]
      have h1:=List.length_filterMap_le id (os.take j)
      rw [List.length_take] at h1
      (first|lia|omega)
     rintro v H10 ⟨rfl,hv⟩
     have e:=hv _ (SqL.of hsp)
     rw [ato hj] at e;cases e
     have htj:=take_next hj
     generalize os[j]=o at htj
     cases o with
     | none=>
      refine gn ⟨_,rfl, .inl ⟨rfl,_,rfl,iteF (ny _ _ ⟨rfl,?_⟩)⟩⟩
      rw [htj,List.filterMap_append,show [none].filterMap (id:Option Nat→Option Nat)=[] from rfl,List.append_nil]
     | some n=>
      refine gn ⟨_,rfl, .inl ⟨rfl,_,rfl,iteT ⟨_,rfl,ny _ _ ⟨rfl,?_⟩⟩⟩⟩
      rw [htj,List.filterMap_append,show [some n].filterMap (id:Option Nat→Option Nat)=[n] from rfl]
      unfold nI;rw [List.map_append];rfl
    ·rintro ys H9 ⟨rfl,rfl⟩
     refine ⟨⟨_,SqL.of hsp,by rw [List.length_map];exact Nat.le_refl _⟩,fun p hp => ?_⟩
     rw [List.take_length]
     obtain ⟨H10,n10⟩:∃H10,New H9 p (.lst (nI (os.filterMap id))) H10:=⟨_,hp,rfl⟩
     rw [←n10.eq]
     have fl:=List.length_filterMap_le id os
     have hf10:=n10.same _ _ hf8
     have s710:=s8.trans n10.same
     have mem:∀a,a∈os.filterMap id ↔ some a∈os:=fun a=>by
      rw [List.mem_filterMap]
      exact ⟨fun ⟨o,h,e⟩=>by rw [show o=some a from e] at h;exact h,fun h=>⟨_,h,rfl⟩⟩
     refine ⟨fp,p,_,_,rfl,rfl,hf10,n10.at,by rw [List.length_map,List.length_map];exact sizeOk (by first|lia|omega),fun H11 c11=>⟨_,_,rfl,ns++os.filterMap id,fun b o hb e => ?_,?_,?_,?_,fun a ha => ?_,List.mem_append_left _ n0,fun d hd k' h1 h2 c' hc' a ha => ?_,fun d hd j h1 h2 h3 c' hc' a ha => ?_⟩⟩
     ·rw [c11.ne hb];exact s710 _ _ (k7 b o hb e)
     ·rw [c11.at];unfold nI;rw [List.map_append]
     ·intro z;exact nne (List.append_eq_nil_iff.mp z).1
     ·rw [List.length_append]; (first|lia|omega)
     ·rcases List.mem_append.mp ha with ha|ha
      ·exact nin a ha
      ·obtain ⟨j,hj⟩:=List.getElem?_of_mem ((mem a).mp ha)
       obtain ⟨c',hc',hw'⟩:=ho j _ hj
       exact .inr ⟨1+k,sg c,sg c',by first|lia|omega,by first|lia|omega,List.mem_map_of_mem hm,List.mem_map_of_mem (List.mem_of_getElem? hc'),hw'⟩
     ·exact List.mem_append_left _ (ncov d hd k' h1 h2 c' hc' a ha)
     ·by_cases hjk:j≤k
      ·exact List.mem_append_left _ (nck d hd j h1 hjk h3 c' hc' a ha)
      ·have ej:j=1+k:=by (first|lia|omega)
       rw [hci] at hd;cases hd
       subst ej
       obtain ⟨j',hj'⟩:=List.getElem?_of_mem hc'
       have hjl:j'<os.length:=by rw [ol];exact (List.getElem?_eq_some_iff.mp hj').1
       obtain ⟨c'',e1,hw'⟩:=ho j' _ (List.getElem?_eq_getElem hjl)
       rw [hj'] at e1;cases e1
       have:=ha.one hw'
       refine List.mem_append_right _ ((mem a).mpr ?_)
       rw [this];exact List.getElem_mem hjl
   ·intro σ H6 hz_
    refine Elim.el hz_ _ ?_
    clear hz_ I4
    rintro x4 x5 rfl ⟨ns,k7,hf7,nne,nl,nin,n0,ncov,nck⟩
    refine ⟨by show _≤_; (first|lia|omega),_,_,_,rfl,ns,k7,hf7,nne,by first|lia|omega,nin,n0,fun d hd k' h1 h2 c' hc' a ha => ?_,fun d _ j h1 h2=>absurd h1 (by first|lia|omega)⟩
    rw [htk] at hd
    rcases List.mem_append.mp hd with hd|hd
    ·exact ncov d hd k' h1 h2 c' hc' a ha
    ·have e:=List.mem_singleton.mp hd
     exact nck c hci k' h1 (by rw [e] at h2; (first|lia|omega)) (by rw [←e];exact h2) c' hc' a (by rw [←e];exact ha)
  ·intro σ H4 hz_
   refine Elim.el hz_ _ ?_
   clear hz_
   rintro x3 x4 x5 rfl I4
   have hl4:H4 l=some (.lst (cs.map V.str)):=by
    obtain ⟨_,k,_⟩:=I4
    exact k _ _ (ne_of_none hl hf0) (s3 _ _ hl)
   exact ⟨⟨_,SqL.of hl4,by rw [List.length_map];exact Nat.le_refl _⟩,nx _ _ ⟨x3,x4,x5,rfl,I4⟩⟩
 intro σ H4 hz_
 refine Elim.el hz_ _ ?_
 clear hz_
 rintro x3 x4 x5 rfl ⟨ns,k4,hf4,nne,nl,nin,n0,ncov,_⟩
 rw [List.take_length] at ncov
 have ei:nI ns=(ns.map fun n:Nat=>(n:Int)).map V.int:=by unfold nI;rw [List.map_map];rfl
 rw [ei] at hf4
 have s4:Same H H4:=fun b o e=>k4 b o (ne_of_none e hf0) (s3 b o e)
 refine ⟨_,rfl,fp,_,rfl,SqL.of hf4,fun z=>nne (List.map_eq_nil_iff.mp z),fun M hM hmx => ?_⟩
 obtain ⟨m,hm,rfl⟩:=List.mem_map.mp hM
 refine q _ _ s4 (.inr ⟨m,rfl,hall,nin m hm,fun a ha => ?_⟩)
 obtain ⟨k,d,c,h1,h2,hd,hc,hw⟩:=ha
 obtain ⟨d',hd',rfl⟩:=List.mem_map.mp hd
 obtain ⟨c',hc',rfl⟩:=List.mem_map.mp hc
 have:=hmx _ (List.mem_map_of_mem (ncov d' hd' k h1 h2 c' hc' a hw))
 (first|lia|omega)
end
end Z
namespace Z
open PySem L2 PyProof.Rows
theorem starts_iff (x y:Str):Txt.startswith x y=true ↔ sg y <+: sg x:=by
 have hl:y.length=(sg y).length:=str_len y
 have hx:x.length=(sg x).length:=str_len x
 have e:(x.cps.extract 0 (0+y.length) == y.cps)=true ↔ (sg x).take y.length=sg y:=by
  rw [beq_iff_eq, ←Array.toList_inj]
  simp [Array.toList_extract]
 show (decide (0+y.length≤x.length)&&(x.cps.extract 0 (0+y.length) == y.cps))=true ↔ _
 rw [Bool.and_eq_true,decide_eq_true_iff,e]
 constructor
 ·rintro ⟨_,h⟩
  rw [←h]
  exact List.take_prefix _ _
 ·intro h
  exact ⟨by have:=h.length_le; (first|lia|omega),by rw [hl];exact (List.prefix_iff_eq_take.mp h).symm⟩
theorem sg_drop {x y:Str} (c:sg x <+: sg y):sg y=sg x++sg (Txt.slice y (some ((x.length:Nat):Int)) none):=by
 rw [sl_fromN,show x.length=(sg x).length from str_len x]
 exact List.prefix_iff_eq_append.mp c |>.symm
theorem sg_nil {r:Str} : sg r=[] ↔ r = "":=⟨fun h=>str_eq (by rw [h];rfl),fun h=>by rw [h];rfl⟩
theorem bh_iff {q:Str×Str} {x r:Str} : Bh q x r ↔ Lt (sg q.2) (sg x) (sg r):=by
 unfold Bh restV Lt
 rw [show (sg r≠[]) ↔ (r ≠ "") from not_congr sg_nil]
 by_cases c1:Txt.startswith x q.2=true
 ·rw [if_pos c1]
  have e:=sg_drop ((starts_iff _ _).mp c1)
  refine ⟨fun ⟨h,n⟩=>⟨n, .inl ?_⟩,fun ⟨n,h⟩=>⟨?_,n⟩⟩
  ·injection h with h;rw [←h];exact e
  ·congr 1
   refine str_eq ?_
   rcases h with h|h
   ·rw [h] at e;exact (List.append_cancel_left e).symm
   ·exfalso
    have l1:=congrArg List.length h
    have l2:=congrArg List.length e
    rw [List.length_append] at l1 l2
    have:sg r=[]:=List.eq_nil_of_length_eq_zero (by first|lia|omega)
    exact n (sg_nil.mp this)
 ·rw [if_neg c1]
  by_cases c2:Txt.startswith q.2 x=true
  ·rw [if_pos c2]
   have e:=sg_drop ((starts_iff _ _).mp c2)
   refine ⟨fun ⟨h,n⟩=>⟨n, .inr ?_⟩,fun ⟨n,h⟩=>⟨?_,n⟩⟩
   ·injection h with h;rw [←h];exact e
   ·congr 1
    refine str_eq ?_
    rcases h with h|h
    ·exact absurd ((starts_iff _ _).mpr ⟨_,h.symm⟩) c1
    ·rw [h] at e;exact (List.append_cancel_left e).symm
  ·rw [if_neg c2]
   refine ⟨(fun h=>nomatch h.1),fun ⟨_,h⟩ => ?_⟩
   rcases h with h|h
   ·exact absurd ((starts_iff _ _).mpr ⟨_,h.symm⟩) c1
   ·exact absurd ((starts_iff _ _).mpr ⟨_,h.symm⟩) c2
noncomputable abbrev css (B:List (Str×Str)):List Sg:=(B.map (·.2)).map sg
noncomputable def toS (s:Sg):Str:=⟨s.toArray⟩
theorem sg_toS (s:Sg):sg (toS s)=s:=by show s.toArray.toList=s;exact List.toList_toArray
theorem toS_sg (x:Str):toS (sg x)=x:=str_eq (sg_toS _)
theorem css_mem {B:List (Str×Str)} {c:Sg} : c∈css B ↔ ∃q∈B,sg q.2=c:=by
 unfold css
 rw [List.map_map,List.mem_map];rfl
theorem Lag.lt {B:List (Str×Str)} {q:Str×Str} {x r:Str} (hq:q∈B) (hx:Lag B x) (h:Bh q x r):Lag B r:=by
 obtain ⟨n,h⟩:=bh_iff.mp h
 have hn:0<(sg r).length:=List.length_pos_iff.mpr n
 rcases h with h|h
 ·obtain ⟨q',hq',a,a1,a2,e⟩:=hx
  refine ⟨q',hq',a+(sg q.2).length,by first|lia|omega,?_,?_⟩
  ·have:=congrArg List.length (e.symm.trans h)
   rw [List.length_drop,List.length_append] at this
   (first|lia|omega)
  ·have:(sg x).drop (sg q.2).length=sg r:=by rw [h,List.drop_left]
   rw [←this,e,List.drop_drop]
 ·refine ⟨q,hq,(sg x).length,?_,?_,?_⟩
  ·obtain ⟨q',hq',a,a1,a2,e⟩:=hx
   rw [e,List.length_drop]; (first|lia|omega)
  ·rw [h,List.length_append]; (first|lia|omega)
  ·rw [h,List.drop_left]
theorem En.mem {B:List (Str×Str)} {E:List Str} (ek:∀r,Lag B r→r ∉ E→∃q∈B,∃r',Bh q r r'∧r' ∉ E) {s:Sg} (h:En (css B) s):∀r,Lag B r→sg r=s→r∈E:=by
 induction h with
 | mk s h ih=>
  intro r hr e
  refine Classical.byContradiction fun hn => ?_
  obtain ⟨q,hq,r',hb,hn'⟩:=ek r hr hn
  exact hn' (ih (sg q.2) (css_mem.mpr ⟨q,hq,rfl⟩) (sg r') (by rw [←e];exact bh_iff.mp hb) r' (hr.lt hq hb) rfl)
noncomputable def oV:Option Nat→Option V:=fun o=>o.map fun n=>V.int (n:Nat)
noncomputable def GdR (B:List (Str×Str)) (v:V):Prop:=(v = .non∧∃r,Lag B r∧¬En (css B) (sg r))∨∃m:Nat,v = .int m∧(∀r,Lag B r→∃o,Dl (css B) (sg r) o)∧Mx0 (fun a=>∃r,Lag B r∧Dl (css B) (sg r) (some a)) m
noncomputable def spGd (K:PySem.W.Frag):Sp:=fun vs H Q _=>Ex2 fun (l:Addr) (B:List (Str×Str))=>vs=[.ref l]∧BkL K H B l∧GoodN B ∧
 ∀(v:V) (H':Hp),Same H H'→GdR B v→Q v H'
structure Dls (B:List (Str×Str)) (us:List Str) (dvs:List (Key×V)):Prop where
 nd:(dvs.map (·.1)).Nodup
 ks:∀k∈dvs.map (·.1),∃x∈us,k = .inr x
 at':∀x∈us,∃o,Dl (css B) (sg x) o∧valV dvs (.inr x)=oV o
theorem Dls.no {B:List (Str×Str)} {us:List Str} {dvs:List (Key×V)} (h:Dls B us dvs) {x:Str} (hx:x ∉ us):valV dvs (.inr x)=none:=by
 cases hv:valV dvs (.inr x) with
 | none=>rfl
 | some v=>
  obtain ⟨y,hy,e⟩:=h.ks _ (valV_in hv)
  injection e with e
  exact absurd (by rw [show x=y from e];exact hy) hx
theorem Dls.le {B:List (Str×Str)} {us:List Str} {dvs:List (Key×V)} (h:Dls B us dvs):dvs.length≤us.length:=by
 have:=len_of_nodup (m:=us.map Sum.inr) h.nd fun k hk=>by
  obtain ⟨x,hx,rfl⟩:=h.ks k hk
  exact List.mem_map_of_mem hx
 rwa [List.length_map,List.length_map] at this
theorem oV_some {o:Option Nat} {v:V} : oV o=some v ↔ ∃n:Nat,o=some n∧v = .int n:=by
 cases o with
 | none=>simp [oV]
 | some n=>simp [oV,eq_comm]
theorem Dls.more {B:List (Str×Str)} {us:List Str} {dvs dvs':List (Key×V)} (h:Dls B us dvs) {x:Str} (hx:x ∉ us) {ns:List Nat} (lt:∀q∈B,∀r,Bh q x r→r∈us)
  (mem:∀a,a∈ns ↔ (((∃q∈B,q.2=x)∧a=x.length)∨∃q∈B,∃r,∃n:Nat,Bh q x r∧valV dvs (.inr r)=some (.int n)∧a=min x.length q.2.length+n))
  (t:(ns=[]∧dvs'=dvs)∨∃m,m∈ns∧(∀a∈ns,a≤m)∧dvs'=dvs++[(.inr x, .int (m:Nat))]):Dls B (us++[x]) dvs':=by
 have key:∀o,((ns=[]∧o=none)∨∃m,m∈ns∧(∀a∈ns,a≤m)∧o=some m)→Dl (css B) (sg x) o:=fun o ho=>by
  obtain ⟨f,hf⟩:∃f:Sg→Option Nat,∀r∈us,Dl (css B) (sg r) (f (sg r))∧valV dvs (.inr r)=oV (f (sg r)):=by
   refine ⟨fun s=>open Classical in if hs:∃o,Dl (css B) s o∧valV dvs (.inr (toS s))=oV o then hs.choose else none,fun r hr => ?_⟩
   have hs:∃o,Dl (css B) (sg r) o∧valV dvs (.inr (toS (sg r)))=oV o:=by rw [toS_sg];exact h.at' r hr
   have ev:valV dvs (.inr r)=valV dvs (.inr (toS (sg r))):=by rw [toS_sg]
   dsimp only
   rw [dif_pos hs]
   exact ⟨hs.choose_spec.1,ev.trans hs.choose_spec.2⟩
  have hlt:∀{c r:Sg},c∈css B→Lt c (sg x) r→∃q∈B,sg q.2=c∧Bh q x (toS r)∧toS r∈us:=fun {c r} hc hl=>by
   obtain ⟨q,hq,rfl⟩:=css_mem.mp hc
   have hb:Bh q x (toS r):=bh_iff.mpr (by rw [sg_toS];exact hl)
   exact ⟨q,hq,rfl,hb,lt q hq _ hb⟩
  refine .mk _ f _ (fun c hc r hl => ?_) ?_
  ·obtain ⟨q,hq,_,hb,hr⟩:=hlt hc hl
   have:=(hf _ hr).1
   rw [sg_toS] at this
   exact this
  ·have iff:∀a,a∈ns ↔ ((sg x∈css B∧a=(sg x).length)∨∃c∈css B,∃r d,Lt c (sg x) r∧f r=some d∧a=min (sg x).length c.length+d):=fun a=>by
    have ex:x.length=(sg x).length:=str_len x
    rw [mem,ex]
    refine or_congr (and_congr ⟨fun ⟨q,hq,e⟩=>css_mem.mpr ⟨q,hq,by rw [e]⟩,fun h => ?_⟩ Iff.rfl) ⟨fun ⟨q,hq,r,n,hb,hv,e⟩ => ?_,fun ⟨c,hc,r,d,hl,hv,e⟩ => ?_⟩
    ·obtain ⟨q,hq,e⟩:=css_mem.mp h
     exact ⟨q,hq,str_eq e⟩
    ·have hr:=lt q hq r hb
     have h2:=(hf r hr).2
     rw [hv] at h2
     obtain ⟨n',e1,e2⟩:=oV_some.mp h2.symm
     injection e2 with e2
     have e2:n=n':=by (first|lia|omega)
     exact ⟨sg q.2,css_mem.mpr ⟨q,hq,rfl⟩,sg r,n',bh_iff.mp hb,e1,by rw [e,e2];rw [show q.2.length=(sg q.2).length from str_len _]⟩
    ·obtain ⟨q,hq,rfl,hb,hr⟩:=hlt hc hl
     have h2:=(hf _ hr).2
     rw [sg_toS,hv] at h2
     exact ⟨q,hq,toS r,d,hb,h2,by rw [e,show q.2.length=(sg q.2).length from str_len _]⟩
   rcases ho with ⟨hn,rfl⟩|⟨m,hm,hmx,rfl⟩
   ·refine .inl ⟨rfl,fun a ha => ?_⟩
    have:=(iff a).mpr ha
    rw [hn] at this;cases this
   ·exact .inr ⟨m,rfl,(iff m).mp hm,fun a ha=>hmx a ((iff a).mpr ha)⟩
 rcases t with ⟨hn,rfl⟩|⟨m,hm,hmx,rfl⟩
 ·refine ⟨h.nd,fun k hk => ?_,fun y hy => ?_⟩
  ·obtain ⟨y,hy,e⟩:=h.ks k hk
   exact ⟨y,List.mem_append_left _ hy,e⟩
  ·rcases List.mem_append.mp hy with hy|hy
   ·exact h.at' y hy
   ·rw [List.mem_singleton.mp hy]
    exact ⟨none,key none (.inl ⟨hn,rfl⟩),h.no hx⟩
 ·have hv:=h.no hx
  have val:∀y,valV (dvs++[(.inr x,V.int (m:Nat))]) (.inr y)=if (Sum.inr y:Key) = .inr x then some (.int (m:Nat)) else valV dvs (.inr y):=fun y=>by rw [←putK_new (V.int (m:Nat)) hv,valV_put]
  refine ⟨?_,fun k hk => ?_,fun y hy => ?_⟩
  ·rw [List.map_append]
   exact List.nodup_append.mpr ⟨h.nd,by simp,fun a ha b hb e=>valV_not hv (by have z:b = .inr x:=List.mem_singleton.mp hb;rw [←z, ←e];exact ha)⟩
  ·rw [List.map_append] at hk
   rcases List.mem_append.mp hk with hk|hk
   ·obtain ⟨y,hy,e⟩:=h.ks k hk
    exact ⟨y,List.mem_append_left _ hy,e⟩
   ·exact ⟨x,List.mem_append_right _ (List.mem_singleton.mpr rfl),List.mem_singleton.mp hk⟩
  ·rw [val]
   rcases List.mem_append.mp hy with hy|hy
   ·rw [if_neg (fun e=>hx (by injection e with e;rw [←show y=x from e];exact hy))]
    exact h.at' y hy
   ·rw [List.mem_singleton.mp hy,if_pos rfl]
    exact ⟨some m,key _ (.inr ⟨m,hm,hmx,rfl⟩),rfl⟩
section
variable {P:Program} {w:World} {K:PySem.W.Frag} {mg:Str→Option Value} {base:Heap} {f:Addr} {fd:FuncData}
theorem sc_greatest_delay:FnScope ["book", "ending", "codes", "delays", "lag", "found", "name", "code", "later"] ["book"] (defScope (top i_greatest_delay)):=⟨rfl,rfl,rfl,by decide +kernel,rfl,by decide +kernel,by decide +kernel⟩
theorem ok_gd (F:Fun K "greatest_delay" "greatest_delay" (top i_greatest_delay) f fd) (T:Nm mg) (f_ending_lags:Fn P w K mg base 5 "ending_lags" ["book"] (spEl K)) (f_lags_of:Fn P w K mg base 4 "lags_of" ["book"] (spLg K)) (f_lags_behind:Fn P w K mg base 2 "lags_behind" ["book", "lag"] (spLb K)):FnOk P w K mg base CX0 6 f fd ["book"] (spGd K):=by
 refine F.ok sc_greatest_delay (fun vs H Q E h => ?_) (fun cdv A outer s H vs Q E hr h => ?_)
 ·obtain ⟨l,B,rfl,_⟩:=h
  rfl
 unfold spGd at h
 refine Elim.el h _ ?_
 clear h
 rintro l B rfl hB gB q
 have hu:=hu_of hr
 have hu6:=hr.units
 have hle:=gB.le
 have small:∀{n:Nat},n≤10000→n<sizeLine:=fun h=>Nat.lt_of_le_of_lt h (by decide)
 refine ⟨_,(pss_cons (ps_set (i:=1) sc_greatest_delay.nd rfl (Or.inl rfl) (pe_fn (f_ending_lags.mono (by first|decide|exact Nat.le_refl _|(first|lia|omega))) hr rfl (pa_cons (pv 0) pa_nil)))
  (pss_cons (ps_if (pt_cmpR (neK K hu6) (pe_callB call_lenD rfl T.n_len (by rfl) (pa_cons (pv 1) pa_nil)) (pe_callB (lenK K) rfl T.n_len (by rfl) (pa_cons (pe_fn (f_lags_of.mono (by first|decide|exact Nat.le_refl _|(first|lia|omega))) hr rfl (pa_cons (pv 0) pa_nil)) pa_nil)) (nomark _)) (pss_one (ps_ret pe_non)) pss_nil)
  (pss_cons (ps_setdcomp (i:=2) sc_greatest_delay.nd rfl (Or.inl rfl) rfl (comp_ok (Nc:=["name", "code"]) (Fc:=[]) (js:=[])) (piK K (pv 0)) (gk_tup (gks_cons (gk_name (i:=0) (n:=2) (by decide)) (gks_cons (gk_name (i:=1) (n:=2) (by decide)) gks_nil gm_name gms_nil) gm_name (gms_cons gm_name gms_nil))) (fun _ _ _ _ _=>(tupK K 2 rfl (pgs_cons (pg_name (i:=0) (show (["name", "code"]:List Str).Nodup by decide +kernel) rfl (Or.inl rfl)) (pgs_cons (pg_name (i:=1) (show (["name", "code"]:List Str).Nodup by decide +kernel) rfl (Or.inl rfl)) pgs_nil)))) (fun _ _ _ _ _=>pts_nil) (fun _ _ _ _ _=>(pv 1)) (fun _ _ _ _ _=>pe_bl))
  (pss_cons (ps_set (i:=3) sc_greatest_delay.nd rfl (Or.inr rfl) dnewN)
  (pss_cons (ps_for PassesOwn.never rfl (pi_dkeys (pv 1)) (pg_name (i:=4) sc_greatest_delay.nd rfl (Or.inl rfl)) (pss_cons (ps_set (i:=5) sc_greatest_delay.nd rfl (Or.inl rfl) (pe_ifExp (pt_cmp (pc_din hu (pv 4) (pv 2))) (lstN (pa_cons (pe_callB (lenK K) rfl T.n_len (by rfl) (pa_cons (pv 4) pa_nil)) pa_nil)) (lstN pa_nil)))
  (pss_cons (ps_for PassesOwn.never rfl (piK K (pe_fn (f_lags_behind.mono (by first|decide|exact Nat.le_refl _|(first|lia|omega))) hr rfl (pa_cons (pv 0) (pa_cons (pv 4) pa_nil)))) (tupK K 3 rfl (pgs_cons (pg_name (i:=6) sc_greatest_delay.nd rfl (Or.inl rfl)) (pgs_cons (pg_name (i:=7) sc_greatest_delay.nd rfl (Or.inl rfl)) (pgs_cons (pg_name (i:=8) sc_greatest_delay.nd rfl (Or.inl rfl)) pgs_nil)))) (pss_one (ps_if (pt_cmp (pc_din hu (pv 8) (pv 3))) (pss_one (ps_expr (bmK K PySem.F.plainAttrs_list PySem.F.slot_list_append PySem.F.type_list_append appendN (pv 5) (pa_cons (pe_op addN (pe_callB (call_min2 rfl) rfl T.n_min (by rfl) (pa_cons (pe_callB (lenK K) rfl T.n_len (by rfl) (pa_cons (pv 4) pa_nil)) (pa_cons (pe_callB (lenK K) rfl T.n_len (by rfl) (pa_cons (pv 7) pa_nil)) pa_nil))) (pe_dget hu (pv 3) (pv 8) (fun _ _=>rfl))) pa_nil)))) pss_nil)))
  (pss_one (ps_if (pt_truth (pv 5) fun _=>rfl) (pss_one (ps_dput hu (pv 3) (pv 4) (pe_callB (maxK K rfl) rfl T.n_max (by rfl) (pa_cons (pv 5) pa_nil)) rfl)) pss_nil)))))
  (pss_one (ps_ret (pe_callBK (maxD K rfl) rfl T.n_max (by rfl) (pa_cons (pe_thaw (pe_lcomp rfl (comp_ok (Nc:=["lag"]) (Fc:=["delays"]) (js:=[3])) (pi_dkeys (pv 3)) (gk_name (i:=0) (n:=1) (by decide)) (fun _ _ _ _ _=>(pg_name (i:=0) (show (["lag", "delays"]:List Str).Nodup by decide +kernel) rfl (Or.inl rfl))) (fun _ _ _ _ _=>pts_nil) (fun _ _ _ _ _=>(pe_dget hu (pv 1) (pv 0) (fun _ _=>rfl))))) pa_nil) (pk_cons pe_int pk_nil))))))))),?_⟩
 refine ⟨_,rfl,l,B,rfl,hB,gB,fun d E H1 s1 hd0 hd1 ndE ordE eL ek=>gn ?_⟩
 dsimp only
 refine ⟨_,rfl,d,_,rfl,hd1,_,rfl,l,B,rfl,hB.same s1,gB,fun ts p2 H2 s2 hp20 hp2 nd tl mem=>⟨_,_,rfl, .inl ⟨_,SqL.of hp2,rfl⟩, .inl ⟨rfl,_,rfl,?_⟩⟩⟩
 have s12:=s1.trans s2
 rw [List.length_map,List.length_map]
 have sub:∀r∈E,r∈ts:=fun r hr=>(mem r).mpr (eL r hr)
 have El:E.length≤ts.length:=len_of_nodup ndE sub
 have inE:∀{n:Nat},n=E.length→((∀r∈ts,r∈E) ↔ n=ts.length):=fun {n} en=>by
  refine ⟨fun h => ?_,fun h r hr=>Classical.byContradiction fun hn => ?_⟩
  ·have:=len_of_nodup nd h; (first|lia|omega)
  ·have:=len_of_nodup (l:=r :: E) (m:=ts) (List.nodup_cons.mpr ⟨hn,ndE⟩) fun x hx=>by
    rcases List.mem_cons.mp hx with e|hx
    ·rw [e];exact hr
    ·exact sub x hx
   rw [List.length_cons] at this; (first|lia|omega)
 by_cases hlen:E.length=ts.length
 rotate_left
 ·rw [decide_eq_false (fun z=>hlen (by injection z with z; (first|lia|omega)))]
  refine iteT (q _ _ s12 (.inl ⟨rfl,?_⟩))
  have:¬ ∀r∈ts,r∈E:=fun h=>hlen ((inE rfl).mp h)
  refine Classical.byContradiction fun hno=>this fun r hr=>Classical.byContradiction fun hn=>hno ⟨r,(mem r).mp hr,fun he=>hn (he.mem ek r ((mem r).mp hr) rfl)⟩
 rw [decide_eq_true (by rw [hlen])]
 refine iteF ?_
 have lagE:∀r,Lag B r ↔ r∈E:=fun r=>⟨fun h=>(inE rfl).mpr hlen r ((mem r).mpr h),eL r⟩
 have hd2:=s2 _ _ hd1
 have hB2:=hB.same s12
 dsimp only [tNext]
 refine asgCut (te:=tDComp _ _ _ _ _ _ _) (fun v H'=>Ex2 fun (cd:Addr) (kvs:List (Key×V))=>v = .ref cd∧Same H2 H'∧H2 cd=none∧H' cd=some (.dK kvs)∧∀x,(valV kvs (.inr x)).isSome=true ↔ ∃q∈B,q.2=x) (fun Qn qn => ?_) ?_
 ·obtain ⟨vs,hv,hdn⟩:=hB2
  have hvl:=bk_len hdn
  refine ⟨_,rfl,l,rfl,⟨_,hv⟩,fun D hD => ?_⟩
  refine ⟨fun i m H'=>∃kvs:List (Key×V),m=B.length-i∧i≤B.length∧Same H2 H'∧H' D=some (.dK kvs)∧kvs.length≤i∧∀x,(valV kvs (.inr x)).isSome=true ↔ ∃q∈B.take i,q.2=x,⟨_,[],rfl,Nat.zero_le _,same_new hD _,upd_same,Nat.le_refl _,fun x=>⟨(fun h=>nomatch h),fun ⟨q,hq,_⟩=>nomatch hq⟩⟩,?_⟩
  intro i m H3 hz_
  refine Elim.el hz_ _ ?_
  clear hz_
  rintro kvs rfl hi s3 hD3 kl km
  by_cases hlt:i<B.length
  ·refine Elim.el (bk_at hdn hlt) _ ?_
   rintro tp e1 e2
   refine .inr ⟨⟨_,_,s3.seq hv,e1⟩,?_⟩
   rintro y H4 ⟨rfl,hy⟩
   have e:=hy _ (s3.seq hv)
   rw [e1] at e;cases e
   refine ⟨tp,_,rfl,s3.seqT e2,rfl,_,_,rfl,_,_,rfl,rfl,?_⟩
   dsimp only [tYes]
   rw [if_pos rfl]
   have htk:=take_next hlt
   generalize B[i]=z at htk
   refine ⟨_,rfl,kvs, .inr z.2,hD3,rfl,small (by first|lia|omega),B.length-(i+1),by first|lia|omega,_,rfl,hlt,fun b o e => ?_,upd_same,?_,fun x => ?_⟩
   ·rw [upd_ne (ne_of_none e hD)];exact s3 b o e
   ·have:=length_putK kvs (.inr z.2) (V.bl true); (first|lia|omega)
   ·rw [valV_put,htk]
    by_cases hx:x=z.2
    ·subst hx
     rw [if_pos rfl]
     exact ⟨fun _=>⟨z,List.mem_append_right _ (List.mem_singleton.mpr rfl),rfl⟩,fun _=>rfl⟩
    ·rw [if_neg (fun e=>hx (by injection e)),km]
     exact ⟨fun ⟨q,hq,e⟩=>⟨q,List.mem_append_left _ hq,e⟩,fun ⟨q,hq,e⟩=>by
      rcases List.mem_append.mp hq with hq|hq
      ·exact ⟨q,hq,e⟩
      ·rw [List.mem_singleton.mp hq] at e;exact absurd e.symm hx⟩
  ·have e:i=B.length:=by (first|lia|omega)
   subst e
   rw [List.take_length] at km
   exact .inl ⟨⟨_,s3.seq hv,by first|lia|omega⟩,qn _ _ ⟨D,kvs,rfl,s3,hD,hD3,km⟩⟩
 intro v H3 hz_
 refine Elim.el hz_ _ ?_
 clear hz_
 rintro cd kvs rfl s3 hcd0 hcd3 km
 refine gn ?_
 refine fun dl H4 n4=>gn ?_
 have s24:=s3.trans n4.same
 have hd4:=s24 _ _ hd2
 have hcd4:=n4.same _ _ hcd3
 have hdl0:H dl=none:=by
  cases e:H dl with
  | none=>rfl
  | some o=>have:=n4.nn;rw [s3 _ _ (s12 _ _ e)] at this;cases this
 have dld:d≠dl:=ne_of_none (s3 _ _ hd2) n4.nn
 have dlc:cd≠dl:=ne_of_none hcd3 n4.nn
 have hB4:=hB2.same s24
 dsimp only
 refine seqCut (t:=tFor _ _ _) (fun σ H'=>Ex5 fun (x4 x5 x6 x7 x8:Option V)=>∃dvs:List (Key×V), σ=[some (.ref l),some (.ref d),some (.ref cd),some (.ref dl),x4,x5,x6,x7,x8]∧Same H H'∧H' dl=some (.dK dvs)∧Dls B E dvs) (fun Nx nx => ?_) ?_
 ·refine ⟨_,rfl,d,_,rfl,hd4,fun ob => ?_⟩
  obtain ⟨H5,c5⟩:∃H5,Chg H4 d (.frz ob (.dK (E.map tru))) H5:=⟨_,⟨rfl⟩⟩
  rw [←c5.eq]
  have s5:Same H H5:=fun b o e=>by rw [c5.ne (ne_of_none e hd0)];exact s24 _ _ (s12 b o e)
  have hcd:cd≠d:=fun z=>by rw [z,hd2] at hcd0;cases hcd0
  have hcd5:H5 cd=some (.dK kvs):=by rw [c5.ne hcd];exact hcd4
  have hdl5:H5 dl=some (.dK []):=by rw [c5.ne (Ne.symm dld)];exact n4.at
  have tlen:(E.map tru).length=E.length:=List.length_map _
  refine for_go (N:=E.length) (fun i σ H'=>Ex5 fun (x4 x5 x6 x7 x8:Option V)=>∃dvs:List (Key×V), σ=[some (.ref l),some (.ref d),some (.ref cd),some (.ref dl),x4,x5,x6,x7,x8]∧(∀b o,b≠dl→H5 b=some o→H' b=some o)∧H' dl=some (.dK dvs)∧Dls B (E.take i) dvs) ⟨_,_,_,_,_,[],rfl,(fun b o _ e=>e),hdl5,⟨List.nodup_nil,(fun k h=>nomatch h),fun x h=>nomatch h⟩⟩ ?_ ?_
  ·intro i σ H6 hi hz_
   refine Elim.el hz_ _ ?_
   clear hz_
   rintro x4 x5 x6 x7 x8 dvs rfl k6 hdl6 dls
   refine ⟨⟨k6 _ _ dld c5.at,by rw [tlen];exact hi⟩,?_⟩
   rintro v H7 ⟨rfl,kq,hkq,rfl⟩
   rw [List.getElem?_map,List.getElem?_eq_getElem hi] at hkq
   cases hkq
   have htk:=take_next hi
   have hlag:=eL _ (List.getElem_mem hi)
   have hxn:E[i] ∉ E.take i:=fun h=>by
    obtain ⟨j,hj,e⟩:=List.mem_iff_getElem.mp h
    rw [List.length_take] at hj
    rw [List.getElem_take] at e
    have:=(List.getElem_inj ndE).mp e
    (first|lia|omega)
   have hlt:=ordE (E.take i) E[i] (E.drop (i+1)) (by rw [List.getElem_cons_drop,List.take_append_drop])
   generalize E[i]=x at htk hlag hxn hlt
   have hxl:=hlag.len gB
   have hdle:=dls.le
   have Etl:(E.take i).length≤200:=by rw [List.length_take]; (first|lia|omega)
   have s7:Same H H7:=fun b o e=>k6 b o (ne_of_none e hdl0) (s5 b o e)
   have hcd7:=k6 _ _ dlc hcd5
   refine gn ?_
   show tSeq _ _ _ ([some (.ref l),some (.ref d),some (.ref cd),some (.ref dl),some (.str x),x5,x6,x7,x8]:L2.St) _
   refine asgCut (te:=tIf _ _ _) (fun v H'=>Ex2 fun (fp:Addr) (ns:List Nat)=>v = .ref fp∧New H7 fp (.lst (nI ns)) H'∧ns.length≤1∧∀a,a∈ns ↔ (∃q∈B,q.2=x)∧a=x.length) (fun Qn qn => ?_) ?_
   ·refine ⟨_,rfl,_,rfl,cd,_,rfl,DGet.k (k:=Sum.inr x) hcd7,_,rfl,ite2 (fun c => ?_) (fun c => ?_)⟩
    ·exact ⟨_,rfl,_,_,rfl,⟨sizeOk (by first|lia|omega),rfl⟩,by show 1≤sizeLine;decide,fun fp H8 n8=>qn _ _ ⟨fp,[x.length],rfl,n8,Nat.le_refl 1,fun a=>⟨fun h=>⟨(km x).mp c,List.mem_singleton.mp h⟩,fun h=>List.mem_singleton.mpr h.2⟩⟩⟩
    ·exact ⟨by show 0≤sizeLine;decide,fun fp H8 n8=>qn _ _ ⟨fp,[],rfl,n8,by decide,fun a=>⟨(fun h=>nomatch h),fun h=>absurd ((km x).mpr h.1) c⟩⟩⟩
   intro v H8 hz_
   refine Elim.el hz_ _ ?_
   clear hz_
   rintro fp ns0 rfl n8 nl0 nm0
   refine gn ?_
   have s8:=s7.trans n8.same
   have hf0:H7 fp=none:=n8.nn
   have fdl:fp≠dl:=fun z=>by rw [z,hdl6] at hf0;cases hf0
   show tSeq _ _ _ ([some (.ref l),some (.ref d),some (.ref cd),some (.ref dl),some (.str x),some (.ref fp),x6,x7,x8]:L2.St) _
   refine seqCut (t:=tFor _ _ _) (fun σ H'=>Ex3 fun (x6 x7 x8:Option V)=>∃ns:List Nat, σ=[some (.ref l),some (.ref d),some (.ref cd),some (.ref dl),some (.str x),some (.ref fp),x6,x7,x8]∧Same H7 H'∧H' fp=some (.lst (nI ns))∧ns.length≤20∧∀a,a∈ns ↔ (((∃q∈B,q.2=x)∧a=x.length)∨∃q∈B,∃r,∃n:Nat,Bh q x r∧valV dvs (.inr r)=some (.int n)∧a=min x.length q.2.length+n)) (fun Nx3 nx3 => ?_) ?_
   ·refine ⟨_,rfl,_,rfl,l,x,B,rfl,hB.same s8,gB,by first|lia|omega,fun as p9 H9 s9 hp90 hp9 al ha hcv=>⟨p9,rfl,⟨_,SqL.of hp9⟩,?_⟩⟩
    have ata:∀{j:Nat} (hj:j<as.length),(as.map fun z=>V.ref z.1)[j]? = some (.ref as[j].1):=fun hj=>by rw [List.getElem?_map,List.getElem?_eq_getElem hj];rfl
    have p9f:p9≠fp:=fun z=>by rw [z,n8.at] at hp90;cases hp90
    have hf9:=s9 _ _ n8.at
    have hdl9:=s9 _ _ (n8.same _ _ hdl6)
    refine for_go (N:=as.length) (fun j σ H'=>Ex3 fun (x6 x7 x8:Option V)=>∃ns:List Nat, σ=[some (.ref l),some (.ref d),some (.ref cd),some (.ref dl),some (.str x),some (.ref fp),x6,x7,x8]∧(∀b o,b≠fp→H9 b=some o→H' b=some o)∧H' fp=some (.lst (nI ns))∧ns.length≤1+j∧∀a,a∈ns ↔ (((∃q∈B,q.2=x)∧a=x.length)∨∃z∈as.take j,∃n:Nat,valV dvs (.inr z.2.2)=some (.int n)∧a=min x.length z.2.1.2.length+n)) ⟨_,_,_,ns0,rfl,(fun b o _ e=>e),hf9,by first|lia|omega,fun a=>by rw [nm0];exact ⟨.inl,fun h=>h.elim id fun ⟨z,hz,_⟩=>nomatch hz⟩⟩ ?_ ?_
    ·intro j σ H10 hj hz_
     refine Elim.el hz_ _ ?_
     clear hz_
     rintro x6 x7 x8 ns rfl k10 hf10 nl nm
     have hp10:=k10 _ _ p9f hp9
     refine ⟨⟨_,_,SqL.of hp10,ata hj⟩,?_⟩
     rintro v H11 ⟨rfl,hv⟩
     have e:=hv _ (SqL.of hp10)
     rw [ata hj] at e;cases e
     obtain ⟨hz,hzB,hzb⟩:=ha _ (List.getElem_mem hj)
     have htj:=take_next hj
     have hzl:=(gB.cd _ hzB).le
     generalize as[j]=z at hz hzB hzb htj hzl
     have hz11:StpAt H11 z:=k10 _ _ (fun e=>by have h:=hz;unfold StpAt at h;rw [e,hf9] at h;cases h) hz
     refine ⟨_,_,rfl,SqT.of hz11,rfl,_,_,rfl,_,_,rfl,_,_,rfl,rfl,?_⟩
     show tIfS _ _ _ _ ([some (.ref l),some (.ref d),some (.ref cd),some (.ref dl),some (.str x),some (.ref fp),some (.str z.2.1.1),some (.str z.2.1.2),some (.str z.2.2)]:L2.St) _
     have hdl11:=k10 _ _ (Ne.symm fdl) hdl9
     have hget:=DGet.k (k:=Sum.inr z.2.2) hdl11
     obtain ⟨o,_,ho⟩:=dls.at' _ (hlt _ hzB _ hzb)
     refine ⟨_,rfl,_,rfl,dl,_,rfl,hget,_,rfl,?_⟩
     rw [ho] at hget ⊢
     cases o with
     | none=>
      refine iteF ⟨_,_,_,ns,rfl,k10,hf10,by first|lia|omega,fun a => ?_⟩
      rw [nm,htj]
      refine or_congr Iff.rfl ⟨fun ⟨y,hy,n,h1,h2⟩=>⟨y,List.mem_append_left _ hy,n,h1,h2⟩,fun ⟨y,hy,n,h1,h2⟩ => ?_⟩
      rcases List.mem_append.mp hy with hy|hy
      ·exact ⟨y,hy,n,h1,h2⟩
      ·rw [List.mem_singleton.mp hy,ho] at h1;cases h1
     | some n=>
      refine iteT ⟨_,rfl, .inl ⟨rfl,_,SqL.of hf10⟩,?_⟩
      refine ⟨_,rfl,_,_,rfl,⟨sizeOk (by first|lia|omega),rfl⟩,_,rfl,_,_,rfl,⟨sizeOk (by first|lia|omega),rfl⟩,_,_,rfl,_,rfl,_,rfl,dl,_,rfl,hget, .inl ⟨_,_,rfl,rfl,fp,_,_,rfl,rfl,hf10,small (by unfold nI;rw [List.length_map]; (first|lia|omega)),fun H12 c12=>⟨_,_,_,ns++[min x.length z.2.1.2.length+n],rfl,fun b o hb e => ?_,?_,by rw [List.length_append];show _+1≤_; (first|lia|omega),fun a => ?_⟩⟩⟩
      ·rw [c12.ne hb];exact k10 b o hb e
      ·rw [c12.at]
       unfold nI
       rw [List.map_append]
       have e:(if ((z.2.1.2.length:Nat):Int)<(x.length:Nat) then ((z.2.1.2.length:Nat):Int) else ((x.length:Nat):Int))+(n:Int)=((min x.length z.2.1.2.length+n:Nat):Int):=by split <;> (first|lia|omega)
       rw [e];rfl
      ·rw [List.mem_append,List.mem_singleton,nm,htj]
       refine ⟨fun h => ?_,fun h => ?_⟩
       ·rcases h with (h|⟨y,hy,n',h1,h2⟩)|h
        ·exact .inl h
        ·exact .inr ⟨y,List.mem_append_left _ hy,n',h1,h2⟩
        ·exact .inr ⟨z,List.mem_append_right _ (List.mem_singleton.mpr rfl),n,ho,h⟩
       ·rcases h with h|⟨y,hy,n',h1,h2⟩
        ·exact .inl (.inl h)
        ·rcases List.mem_append.mp hy with hy|hy
         ·exact .inl (.inr ⟨y,hy,n',h1,h2⟩)
         ·rw [List.mem_singleton.mp hy] at h1 h2
          rw [ho] at h1
          have h1:V.int (n:Nat)=V.int (n':Nat):=Option.some.inj h1
          injection h1 with h1
          exact .inr (by rw [h2]; (first|lia|omega))
    ·intro σ H10 hz_
     refine Elim.el hz_ _ ?_
     clear hz_
     rintro x6 x7 x8 ns rfl k10 hf10 nl nm
     rw [List.take_length] at nm
     refine ⟨⟨_,SqL.of (k10 _ _ p9f hp9),by rw [List.length_map];exact Nat.le_refl _⟩,nx3 _ _ ⟨x6,x7,x8,ns,rfl,fun b o e=>k10 b o (ne_of_none e hf0) (s9 _ _ (n8.same _ _ e)),hf10,by first|lia|omega,fun a => ?_⟩⟩
     rw [nm]
     refine or_congr Iff.rfl ⟨fun ⟨z,hz,n,h1,h2⟩ => ?_,fun ⟨q,hq,r,n,hb,h1,h2⟩ => ?_⟩
     ·obtain ⟨_,hzB,hzb⟩:=ha z hz
      exact ⟨z.2.1,hzB,z.2.2,n,hzb,h1,h2⟩
     ·obtain ⟨z,hz,e1,e2⟩:=hcv q hq r hb
      exact ⟨z,hz,n,by rw [e2];exact h1,by rw [e1];exact h2⟩
   intro σ H9 hz_
   refine Elim.el hz_ _ ?_
   clear hz_
   rintro x6 x7 x8 ns rfl s9 hf9 nl nm
   have hdl9:=s9 _ _ hdl6
   refine ⟨_,rfl, !(nI ns).isEmpty, .inl ⟨_,SqL.of hf9,rfl⟩,?_⟩
   have ein:(nI ns).isEmpty=ns.isEmpty:=by unfold nI;rw [List.isEmpty_map]
   rw [ein]
   by_cases hns:ns=[]
   ·have e:(!ns.isEmpty)=false:=by rw [hns];rfl
    rw [e]
    exact iteF ⟨_,_,_,_,_,dvs,rfl,fun b o hb e=>s9 _ _ (k6 b o hb e),hdl9,by rw [htk];exact dls.more hxn hlt nm (.inl ⟨hns,rfl⟩)⟩
   ·have e:(!ns.isEmpty)=true:=by cases ns with|nil=>exact absurd rfl hns|cons _ _=>rfl
    rw [e]
    have ei:nI ns=(ns.map fun n:Nat=>(n:Int)).map V.int:=by unfold nI;rw [List.map_map];rfl
    rw [ei] at hf9
    refine iteT ⟨_,rfl,fp,_,rfl,SqL.of hf9,fun z=>hns (List.map_eq_nil_iff.mp z),fun M hM hmx => ?_⟩
    obtain ⟨m,hm,rfl⟩:=List.mem_map.mp hM
    refine ⟨_,rfl,_,rfl,dl,_,rfl,DPut.k (k:=Sum.inr x) hdl9 (small (by first|lia|omega)),?_⟩
    rw [putK_new _ (dls.no hxn)]
    exact ⟨_,_,_,_,_,_,rfl,fun b o hb e=>by rw [upd_ne hb];exact s9 _ _ (k6 b o hb e),upd_same,by rw [htk];exact dls.more hxn hlt nm (.inr ⟨m,hm,fun a ha=>by have:=hmx _ (List.mem_map_of_mem ha); (first|lia|omega),rfl⟩)⟩
  ·intro σ H6 hz_
   refine Elim.el hz_ _ ?_
   clear hz_
   rintro x4 x5 x6 x7 x8 dvs rfl k6 hdl6 dls
   rw [List.take_length] at dls
   exact ⟨⟨k6 _ _ dld c5.at,by rw [tlen];exact Nat.le_refl _⟩,nx _ _ ⟨x4,x5,x6,x7,x8,dvs,rfl,fun b o e=>k6 b o (ne_of_none e hdl0) (s5 b o e),hdl6,dls⟩⟩
 intro σ H5 hz_
 refine Elim.el hz_ _ ?_
 clear hz_
 rintro x4 x5 x6 x7 x8 dvs rfl s5 hdl5 dls
 have hdle:=dls.le
 have El2:E.length≤200:=by (first|lia|omega)
 have vals:∀kv∈dvs,∃x∈E,∃n:Nat,kv=(.inr x, .int n)∧Dl (css B) (sg x) (some n):=fun kv hkv=>by
  obtain ⟨x,hx,e⟩:=dls.ks _ (List.mem_map_of_mem hkv)
  obtain ⟨o,hD,ho⟩:=dls.at' x hx
  have:=mem_valV dls.nd (show (kv.1,kv.2)∈dvs from hkv)
  rw [e,ho] at this
  obtain ⟨n,rfl,e2⟩:=oV_some.mp this
  exact ⟨x,hx,n,by rw [←e, ←e2],hD⟩
 refine ⟨dl,⟨_,hdl5⟩,?_⟩
 refine ⟨_,rfl,dl,dvs,rfl,hdl5,fun ob => ?_⟩
 obtain ⟨H6,c6⟩:∃H6,Chg H5 dl (.frz ob (.dK dvs)) H6:=⟨_,⟨rfl⟩⟩
 rw [←c6.eq]
 refine comp_go (N:=dvs.length) (fun i ys H'=>H'=H6∧ys=(dvs.take i).map (·.2)) ⟨rfl,rfl⟩ ?_ ?_
 ·rintro i ys H7 Ny hi ⟨rfl,rfl⟩ ny
  refine ⟨⟨c6.at,hi⟩,small (by rw [List.length_map,List.length_take]; (first|lia|omega)),?_⟩
  rintro v H8 ⟨rfl,kv,hkv,rfl⟩
  rw [List.getElem?_eq_getElem hi] at hkv
  cases hkv
  obtain ⟨x,hx,n,e,_⟩:=vals _ (List.getElem_mem hi)
  have hvv:=mem_valV dls.nd (show ((Sum.inr x:Key),V.int (n:Nat))∈dvs by rw [←e];exact List.getElem_mem hi)
  have htk:=take_next hi
  generalize dvs[i]=kv at e htk
  subst e
  refine gn ?_
  dsimp only [tYes]
  rw [if_pos rfl]
  refine ⟨_,rfl,_,rfl,dl,_,rfl, .inl ⟨dvs, .inr x, .inr ⟨ob,c6.at⟩,rfl,hvv.symm⟩,ny _ _ ⟨rfl,?_⟩⟩
  rw [htk,List.map_append];rfl
 rintro ys H7 ⟨rfl,rfl⟩
 rw [List.take_length]
 refine ⟨⟨c6.at,Nat.le_refl _⟩,fun p hp => ?_⟩
 obtain ⟨ns,hns,hnm⟩:∃ns:List Int,dvs.map (·.2)=ns.map V.int∧∀a,a∈ns ↔ ∃m:Nat,a=m∧∃x∈E,Dl (css B) (sg x) (some m):=by
  have h1:∀(l:List (Key×V)),(∀kv∈l,∃n:Nat,kv.2 = .int n)→∃ns:List Nat,l.map (·.2)=nI ns:=fun l=>by
   induction l with
   | nil=>exact fun _=>⟨[],rfl⟩
   | cons a l ih=>
    intro h
    obtain ⟨ns,e⟩:=ih fun x hx=>h x (List.mem_cons_of_mem _ hx)
    obtain ⟨n,e'⟩:=h a List.mem_cons_self
    exact ⟨n :: ns,by rw [List.map_cons,e,e'];rfl⟩
  obtain ⟨ns,e⟩:=h1 dvs fun kv hkv=>by obtain ⟨x,_,n,e,_⟩:=vals kv hkv;exact ⟨n,by rw [e]⟩
  have ei:nI ns=(ns.map fun n:Nat=>(n:Int)).map V.int:=by unfold nI;rw [List.map_map];rfl
  refine ⟨_,e.trans ei,fun a => ?_⟩
  rw [List.mem_map]
  refine ⟨fun ⟨m,hm,ea⟩=>⟨m,ea.symm,?_⟩,fun ⟨m,ea,x,hx,hD⟩=>⟨m,?_,ea.symm⟩⟩
  ·have:V.int (m:Nat)∈dvs.map (·.2):=by rw [e];exact List.mem_map_of_mem hm
   obtain ⟨kv,hkv,e2⟩:=List.mem_map.mp this
   obtain ⟨x,hx,n,e3,hD⟩:=vals kv hkv
   rw [e3] at e2
   injection e2 with e2
   exact ⟨x,hx,by rw [show m=n by first|lia|omega];exact hD⟩
  ·obtain ⟨o,hD',ho⟩:=dls.at' x hx
   have eo:o=some m:=hD'.one hD
   rw [eo] at ho
   have hin:=valV_in ho
   obtain ⟨kv,hkv,ek'⟩:=List.mem_map.mp hin
   obtain ⟨x',_,n,e3,_⟩:=vals kv hkv
   have hv2:=mem_valV dls.nd (show (kv.1,kv.2)∈dvs from hkv)
   rw [ek',ho] at hv2
   have:V.int (m:Nat)∈dvs.map (·.2):=List.mem_map.mpr ⟨kv,hkv,(Option.some.inj hv2).symm⟩
   rw [e] at this
   obtain ⟨n',hn',e4⟩:=List.mem_map.mp this
   injection e4 with e4
   rw [show m=n' by first|lia|omega];exact hn'
 rw [hns]
 obtain ⟨H8,n8⟩:∃H8,New H7 p (.lst (ns.map V.int)) H8:=⟨_,hp,rfl⟩
 rw [←n8.eq]
 refine ⟨ob,dvs,n8.same _ _ c6.at,?_⟩
 obtain ⟨H9,c9⟩:∃H9,Chg H8 dl (.dK dvs) H9:=⟨_,⟨rfl⟩⟩
 rw [←c9.eq]
 have pdl:p≠dl:=fun z=>by rw [z,c6.at] at hp;cases hp
 have hp9:H9 p=some (.lst (ns.map V.int)):=by rw [c9.ne pdl];exact n8.at
 have s9:Same H H9:=fun b o e=>by
  have hb:=ne_of_none e hdl0
  rw [c9.ne hb]
  refine n8.same _ _ ?_
  rw [c6.ne hb];exact s5 b o e
 refine ⟨p,ns,0,rfl,rfl,SqL.of hp9,fun M hM=>q _ _ s9 (.inr ?_)⟩
 have dall:∀r,Lag B r→∃o,Dl (css B) (sg r) o:=fun r hr=>by
  obtain ⟨o,hD,_⟩:=dls.at' r ((lagE r).mp hr)
  exact ⟨o,hD⟩
 rcases hM with ⟨hn,rfl⟩|⟨hM,hmx⟩
 ·refine ⟨0,rfl,dall, .inl rfl,fun a ⟨r,hr,hD⟩ => ?_⟩
  have:=(hnm a).mpr ⟨a,rfl,r,(lagE r).mp hr,hD⟩
  rw [hn] at this;cases this
 ·obtain ⟨m,rfl,x,hx,hD⟩:=(hnm M).mp hM
  refine ⟨m,rfl,dall, .inr ⟨x,(lagE x).mpr hx,hD⟩,fun a ⟨r,hr,hD'⟩ => ?_⟩
  have:=hmx _ ((hnm a).mpr ⟨a,rfl,r,(lagE r).mp hr,hD'⟩)
  (first|lia|omega)
end
end Z
namespace Z
open PySem L2
noncomputable def spLaw (K:PySem.W.Frag):Sp:=fun vs H Q _=>∃(a:Addr) (ns:List Int),vs=[.ref a]∧SqL K H a (ns.map V.int)∧ns.length≤63∧∀H',Q (.bl true) H'
theorem good_cods {B:List (Str×Str)} (g:GoodN B):Cods (B.map (·.2)):=⟨by rw [List.length_map];exact g.le,fun c hc=>by
 obtain ⟨q,hq,rfl⟩:=List.mem_map.mp hc
 exact g.cd q hq⟩
theorem css_ne {B:List (Str×Str)} (g:GoodN B):∀c∈css B,c≠[]:=fun c hc e=>by
 obtain ⟨q,hq,rfl⟩:=css_mem.mp hc
 have:=(g.cd q hq).pos
 have e2:q.2.length=(sg q.2).length:=str_len _
 rw [e] at e2;simp at e2; (first|lia|omega)
theorem lag_start {B:List (Str×Str)} {k:Nat} {d:Sg} (h1:1≤k) (h2:k<d.length) (hd:d∈css B):Lag B (toS (d.drop k)):=by
 obtain ⟨q,hq,rfl⟩:=css_mem.mp hd
 exact ⟨q,hq,k,h1,h2,sg_toS _⟩
theorem gd_due {B:List (Str×Str)} (g:GoodN B) {u v:V} (hu:GdR B u) (hv:DueR (B.map (·.2)) v):u=v∧(u = .non∨∃m:Nat,u = .int m):=by
 have hcs:=css_ne g
 have startW:(∀r,Lag B r→∃o,Dl (css B) (sg r) o)→∀k d c,1≤k→k<d.length→d∈css B→c∈css B→∃w,Wv (css B) (d.drop k,c) w:=fun h k d c h1 h2 hd hc=>by
  obtain ⟨o,hD⟩:=h _ (lag_start h1 h2 hd)
  rw [sg_toS] at hD
  have hne:d.drop k≠[]:=fun z=>by have:=congrArg List.length z;rw [List.length_drop] at this;simp at this; (first|lia|omega)
  obtain ⟨⟨gf,hw,_⟩,_⟩:=hD.worth hcs hne
  exact ⟨_,hw c hc⟩
 rcases hu with ⟨rfl,r,hr,hn⟩|⟨m,rfl,hall,hm⟩
 ·rcases hv with ⟨rfl,_⟩|⟨m',rfl,hall',_⟩
  ·exact ⟨rfl, .inl rfl⟩
  ·refine absurd (En.of_worth fun c hc => ?_) hn
   obtain ⟨q,hq,a,a1,a2,e⟩:=hr
   rw [e]
   exact hall' _ (.start a (sg q.2) c a1 a2 (css_mem.mpr ⟨q,hq,rfl⟩) hc)
 ·rcases hv with ⟨rfl,p,hp,hno⟩|⟨m',rfl,hall',hm'⟩
  ·obtain ⟨w,hw⟩:=Rc.worth (startW hall) hp
   exact absurd hw (hno w)
  ·have e:m=m':=by
    refine Nat.le_antisymm ?_ ?_
    ·rcases hm.1 with h|⟨r,hr,hD⟩
     ·(first|lia|omega)
     ·have hr':=hr
      obtain ⟨q,hq,a,a1,a2,e⟩:=hr
      have hne:sg r≠[]:=fun z=>by rw [z] at e;have:=congrArg List.length e;rw [List.length_drop,List.length_nil] at this; (first|lia|omega)
      obtain ⟨⟨gf,hw,ht⟩,_⟩:=hD.worth hcs hne
      rcases ht with ⟨z,_⟩|⟨m2,z,⟨c,hc,ec⟩,_⟩
      ·cases z
      ·cases z
       refine hm'.2 m ⟨a,sg q.2,c,a1,a2,css_mem.mpr ⟨q,hq,rfl⟩,hc,?_⟩
       have:=hw c hc
       rw [ec,e] at this
       exact this
    ·rcases hm'.1 with h|⟨k,d,c,h1,h2,hd,hc,hw'⟩
     ·(first|lia|omega)
     ·have hlag:=lag_start h1 h2 hd
      obtain ⟨o,hD⟩:=hall _ hlag
      have hD':=hD
      rw [sg_toS] at hD'
      have hne:d.drop k≠[]:=fun z=>by have:=congrArg List.length z;rw [List.length_drop] at this;simp at this; (first|lia|omega)
      obtain ⟨⟨gf,hw,ht⟩,_⟩:=hD'.worth hcs hne
      have ec:=(hw c hc).one hw'
      rcases ht with ⟨_,z⟩|⟨m2,rfl,_,hmx⟩
      ·exact absurd ⟨c,hc,ec⟩ (z m')
      ·exact Nat.le_trans (hmx m' ⟨c,hc,ec⟩) (hm.2 m2 ⟨_,hlag,hD⟩)
   exact ⟨by rw [e], .inr ⟨m,rfl⟩⟩
section
variable {P:Program} {w:World} {K:PySem.W.Frag} {mg:Str→Option Value} {base:Heap} {f:Addr} {fd:FuncData}
theorem sc_law:FnScope ["_law_script", "_law_state", "_law_turn", "_law_book_here", "_law_due_here", "_law_again", "_law_found"] ["_law_script"] (defScope (top i_law)):=⟨rfl,rfl,rfl,by decide +kernel,rfl,by decide +kernel,by decide +kernel⟩
theorem ok_law62 (F:Fun K "law" "law" (top i_law) f fd) (T:Nm mg) (f_law_begin:Fn P w K mg base 1 "_law_begin" ["_law_script"] (spBegin K)) (f_law_book:Fn P w K mg base 3 "_law_book" ["_law_state"] (spBk9 K)) (f_law_due:Fn P w K mg base 4 "_law_due" ["_law_codes"] (spDu K)) (f_greatest_delay:Fn P w K mg base 6 "greatest_delay" ["book"] (spGd K)):FnOk P w K mg base CX0 7 f fd ["_law_script"] (spLaw K):=by
 refine F.ok sc_law (fun vs H Q E h => ?_) (fun cdv A outer s H vs Q E hr h => ?_)
 ·obtain ⟨a,ns,rfl,_⟩:=h
  rfl
 obtain ⟨a,ns,rfl,hS,hlen,q⟩:=h
 have hu6:=hr.units
 have small:∀{n:Nat},n≤30000→n<sizeLine:=fun h=>Nat.lt_of_le_of_lt h (by decide)
 refine ⟨_,(pss_cons (ps_set (i:=1) sc_law.nd rfl (Or.inl rfl) (pe_fn (f_law_begin.mono (by first|decide|exact Nat.le_refl _|(first|lia|omega))) hr rfl (pa_cons (pv 0) pa_nil)))
  (pss_cons (ps_for PassesOwn.never rfl (pi_range1 rfl T.n_range (pa_cons pe_int pa_nil)) (pg_name (i:=2) sc_law.nd rfl (Or.inl rfl)) (pss_cons (ps_set (i:=3) sc_law.nd rfl (Or.inl rfl) (pe_fn (f_law_book.mono (by first|decide|exact Nat.le_refl _|(first|lia|omega))) hr rfl (pa_cons (pv 1) pa_nil)))
  (pss_cons (ps_set (i:=4) sc_law.nd rfl (Or.inl rfl) (pe_fn (f_law_due.mono (by first|decide|exact Nat.le_refl _|(first|lia|omega))) hr rfl (pa_cons (pe_lcomp rfl (comp_ok (Nc:=["_law_name", "_law_code"]) (Fc:=[]) (js:=[])) (piK K (pv 3)) (gk_tup (gks_cons (gk_name (i:=0) (n:=2) (by decide)) (gks_cons (gk_name (i:=1) (n:=2) (by decide)) gks_nil gm_name gms_nil) gm_name (gms_cons gm_name gms_nil))) (fun _ _ _ _ _=>(tupK K 2 rfl (pgs_cons (pg_name (i:=0) (show (["_law_name", "_law_code"]:List Str).Nodup by decide +kernel) rfl (Or.inl rfl)) (pgs_cons (pg_name (i:=1) (show (["_law_name", "_law_code"]:List Str).Nodup by decide +kernel) rfl (Or.inl rfl)) pgs_nil)))) (fun _ _ _ _ _=>pts_nil) (fun _ _ _ _ _=>(pv 1))) pa_nil)))
  (pss_one (ps_for PassesOwn.never rfl (pi_range1 rfl T.n_range (pa_cons pe_int pa_nil)) (pg_name (i:=5) sc_law.nd rfl (Or.inl rfl)) (pss_cons (ps_set (i:=6) sc_law.nd rfl (Or.inl rfl) (pe_fn (f_greatest_delay.mono (by first|decide|exact Nat.le_refl _|(first|lia|omega))) hr rfl (pa_cons (pv 3) pa_nil)))
  (pss_one (ps_if (PW.pt (pw_or (pt_cmpR (neK K hu6) (pe_cmpR g_is (pv 6) pe_non (nomark _)) (pe_cmpR g_is (pv 4) pe_non (nomark _)) (nomark _)) (pw_or (pt_val (pe_callB (isiK K) rfl T.n_isinstance (by rfl) (pa_cons (pv 6) (pa_cons (pe_bltn rfl T.n_bool (by rfl) (v := .ty "bool") rfl) pa_nil)))) (pw_or1 (pt_cmpR (neK K hu6) (pv 6) (pv 4) (nomark _)))))) (pss_one (ps_ret pe_bl)) pss_nil))))))))
  (pss_one (ps_ret pe_bl)))),?_⟩
 refine ⟨_,rfl,a,ns,rfl,hS,hlen,fun b c H1 bx hb hc sm1=>gn ?_⟩
 dsimp only
 clear sm1 hS hlen
 refine seqCut (t:=tFor _ _ _) (fun σ H'=>True) (fun Nx nx => ?_) ?_
 ·refine ⟨_,rfl,by decide,by decide,?_⟩
  refine for_go (N:=3) (fun i σ H'=>Ex6 fun (t':Int) (x2 x3 x4 x5 x6:Option V) => σ=[some (.ref a),some (.ref b),x2,x3,x4,x5,x6]∧Bx H' b c t'∧0≤t'∧t'≤400*i) ⟨0,_,_,_,_,_,rfl,bx,Int.le_refl _,by decide⟩ ?_ ?_
  ·intro i σ H2 hi hz_
   refine Elim.el hz_ _ ?_
   clear hz_
   rintro t2 x2 x3 x4 x5 x6 rfl bx2 lo2 ub2
   refine ⟨hi,?_⟩
   rintro x H2' ⟨rfl,rfl⟩
   refine gn ?_
   dsimp only
   refine ⟨_,rfl,b,c,t2,rfl,bx2,lo2,by first|lia|omega,fun bk v H3 t3 gk hA st3=>gn ?_⟩
   obtain ⟨l,vs,rfl,hl,hd⟩:=hA
   have hl3:SqL K H3 l vs:=hid_same.seq (SqL.of hl)
   have hd3:=hd.same (hid_same (H:=H3) (b:=b) (c:=c))
   have bx3:=st3.bx
   have le3:=st3.le
   have ub3:=st3.ub
   have hvl:=bk_len hd
   have gle:=gk.le
   clear hl hd
   dsimp only
   refine ⟨_,rfl,l,rfl,⟨_,hl3⟩,?_⟩
   refine comp_go (N:=bk.length) (fun k ys H'=>H'=H3∧ys=((bk.take k).map (·.2)).map V.str) ⟨rfl,rfl⟩ ?_ ?_
   ·rintro k ys H5 Ny hk ⟨rfl,rfl⟩ ny
    obtain ⟨tp,e1,e2⟩:=bk_at hd3 hk
    refine ⟨⟨_,_,hl3,e1⟩,small (by rw [List.length_map,List.length_map,List.length_take]; (first|lia|omega)),?_⟩
    rintro x H6 ⟨rfl,hy⟩
    have e:=hy _ hl3
    rw [e1] at e;cases e
    refine ⟨tp,_,rfl,e2,rfl,_,_,rfl,_,_,rfl,rfl,?_⟩
    dsimp only [tYes]
    rw [if_pos rfl]
    refine ⟨_,rfl,ny _ _ ⟨rfl,?_⟩⟩
    rw [take_next hk]
    show _=List.map V.str (List.map (·.2) (bk.take k++[bk[k]]))
    rw [List.map_append,List.map_append];rfl
   rintro ys H5 ⟨rfl,rfl⟩
   rw [List.take_length]
   refine ⟨⟨_,hl3,by first|lia|omega⟩,fun cp hcp => ?_⟩
   obtain ⟨H6,n6⟩:∃H6,New H5 cp (.lst ((bk.map (·.2)).map V.str)) H6:=⟨_,hcp,rfl⟩
   rw [←n6.eq]
   refine ⟨cp,bk.map (·.2),rfl,n6.at,good_cods gk,fun dv H7 s7 hdv=>gn ?_⟩
   have s57:=n6.same.trans s7
   have hB7:BkL K H7 bk l:=⟨vs,s57.seq hl3,hd3.same s57⟩
   have bx7:=bx3.same s57
   dsimp only
   refine ⟨_,rfl,by decide,by decide,?_⟩
   refine for_go (N:=2) (fun j σ H'=>Ex2 fun (x5 x6:Option V) => σ=[some (.ref a),some (.ref b),some (.int (0+(i:Int))),some (.ref l),some dv,x5,x6]∧Same H7 H') ⟨_,_,rfl,Same.refl _⟩ ?_ ?_
   ·intro j σ H8 hj hz_
    refine Elim.el hz_ _ ?_
    clear hz_
    rintro x5 x6 rfl s8
    refine ⟨hj,?_⟩
    rintro x H8' ⟨rfl,rfl⟩
    refine gn ?_
    dsimp only
    refine ⟨_,rfl,l,bk,rfl,hB7.same s8,gk,fun u H9 s9 hgu=>gn ?_⟩
    obtain ⟨rfl,hu⟩:=gd_due gk hgu hdv
    dsimp only
    refine ⟨_,rfl, .inl ⟨rfl,_,rfl, .inl ⟨rfl, .inl ⟨rfl,_,rfl,?_⟩⟩⟩⟩
    rw [decide_eq_true (rfl:V.bl (decide (u=V.non))=V.bl (decide (u=V.non)))]
    refine iteF ?_
    have isi:∃dd,Den K H9 dd u∧PySem.W.kitOne K (.type (tyD dd)) (.type "bool")=some false:=by
     rcases hu with rfl|⟨m,rfl⟩
     ·exact ⟨.none,by unfold Den;rfl,rfl⟩
     ·exact ⟨.int m,by unfold Den;rfl,rfl⟩
    obtain ⟨dd,hdd,hkit⟩:=isi
    refine ⟨_,rfl, .inl ⟨_, "bool",dd,false,rfl,hdd,hkit,_,rfl,iteF ?_⟩⟩
    have hsc:scal u u=true:=by rcases hu with rfl|⟨m,rfl⟩ <;> rfl
    refine ⟨_,rfl,_,rfl, .inl ⟨hsc,_,rfl,?_⟩⟩
    rw [decide_eq_true (rfl:u=u)]
    exact iteF ⟨_,_,rfl,s8.trans s9⟩
   ·intro σ H8 hz_
    refine Elim.el hz_ _ ?_
    clear hz_
    rintro x5 x6 rfl s8
    exact ⟨Nat.le_refl _,t3,_,_,_,_,_,rfl,bx7.same s8,by first|lia|omega,by first|lia|omega⟩
  ·intro σ H2 hz_
   exact ⟨Nat.le_refl _,nx _ _ trivial⟩
 intro σ H2 _
 exact q H2
end
end Z
namespace Z
open PySem L2
theorem lenZ {α:Type} {P:List α→Prop} (h:P []):∀us:List α,us.length=0→P us:=fun us e=>List.eq_nil_of_length_eq_zero e ▸ h
theorem lenS {α:Type} {P:List α→Prop} {n:Nat} (h:∀a (us:List α),us.length=n→P (a :: us)) (us:List α) (e:us.length=n+1):P us:=by
 cases us with|nil=>cases e|cons a us=>exact h a us (Nat.succ.inj e)
theorem all_mk {l:PySem.W.OpenLaw} {w:World} {K:PySem.W.Frag} {h:Heap} {mg:Str→Option Value} {fa f1 f2 f3 f4 f5 f6 f7 f8 f9 f10 f11 f12 f13 f14 f15 f16 f17 f18:Addr} (X:K.In h) (G:h.Ns mainGlobals mg) (hfa:mg "law" = some (.ref fa))
  {fd1:FuncData}
  {fd2:FuncData}
  {fd3:FuncData}
  {fd4:FuncData}
  {fd5:FuncData}
  {fd6:FuncData}
  {fd7:FuncData}
  {fd8:FuncData}
  {fd9:FuncData}
  {fd10:FuncData}
  {fd11:FuncData}
  {fd12:FuncData}
  {fd13:FuncData}
  {fd14:FuncData}
  {fd15:FuncData}
  {fd16:FuncData}
  {fd17:FuncData}
  {od18 an18:Option Addr} {sl18:Array (Option Value)} {oc18 kV18 dc18 pm18 cd18 ct18:Value}
  (a1:PySem.W.nsIn K mainGlobals "rest_of" = some (some (.ref f1))) (F1:Fun K "rest_of" "rest_of" (top i_rest_of) f1 fd1)
  (a2:PySem.W.nsIn K mainGlobals "length_first" = some (some (.ref f2))) (F2:Fun K "length_first" "length_first" (top i_length_first) f2 fd2)
  (a3:PySem.W.nsIn K mainGlobals "code_ends" = some (some (.ref f3))) (F3:Fun K "code_ends" "code_ends" (top i_code_ends) f3 fd3)
  (a4:PySem.W.nsIn K mainGlobals "lags_behind" = some (some (.ref f4))) (F4:Fun K "lags_behind" "lags_behind" (top i_lags_behind) f4 fd4)
  (a5:PySem.W.nsIn K mainGlobals "lags_of" = some (some (.ref f5))) (F5:Fun K "lags_of" "lags_of" (top i_lags_of) f5 fd5)
  (a6:PySem.W.nsIn K mainGlobals "ending_lags" = some (some (.ref f6))) (F6:Fun K "ending_lags" "ending_lags" (top i_ending_lags) f6 fd6)
  (a7:PySem.W.nsIn K mainGlobals "greatest_delay" = some (some (.ref f7))) (F7:Fun K "greatest_delay" "greatest_delay" (top i_greatest_delay) f7 fd7)
  (a8:PySem.W.nsIn K mainGlobals "_law_begin" = some (some (.ref f8))) (F8:Fun K "_law_begin" "_law_begin" (top i_law_begin) f8 fd8)
  (a9:PySem.W.nsIn K mainGlobals "_law_take" = some (some (.ref f9))) (F9:Fun K "_law_take" "_law_take" (top i_law_take) f9 fd9)
  (a10:PySem.W.nsIn K mainGlobals "_law_names" = some (some (.ref f10))) (F10:Fun K "_law_names" "_law_names" (top i_law_names) f10 fd10)
  (a11:PySem.W.nsIn K mainGlobals "_law_free" = some (some (.ref f11))) (F11:Fun K "_law_free" "_law_free" (top i_law_free) f11 fd11)
  (a12:PySem.W.nsIn K mainGlobals "_law_sizes" = some (some (.ref f12))) (F12:Fun K "_law_sizes" "_law_sizes" (top i_law_sizes) f12 fd12)
  (a13:PySem.W.nsIn K mainGlobals "_law_book" = some (some (.ref f13))) (F13:Fun K "_law_book" "_law_book" (top i_law_book) f13 fd13)
  (a14:PySem.W.nsIn K mainGlobals "_law_steps" = some (some (.ref f14))) (F14:Fun K "_law_steps" "_law_steps" (top i_law_steps) f14 fd14)
  (a15:PySem.W.nsIn K mainGlobals "_law_pairs" = some (some (.ref f15))) (F15:Fun K "_law_pairs" "_law_pairs" (top i_law_pairs) f15 fd15)
  (a16:PySem.W.nsIn K mainGlobals "_law_worths" = some (some (.ref f16))) (F16:Fun K "_law_worths" "_law_worths" (top i_law_worths) f16 fd16)
  (a17:PySem.W.nsIn K mainGlobals "_law_due" = some (some (.ref f17))) (F17:Fun K "_law_due" "_law_due" (top i_law_due) f17 fd17)
  (a18:PySem.W.nsIn K mainGlobals "law" = some (some (.ref f18))) (l18:K.lookup f18=some ⟨oc18,od18, .func (PySem.W.fnOf "law" "law" (defArgs (top i_law)) (defBody (top i_law)) (defScope (top i_law)) .none kV18 dc18 pm18 an18 cd18 ct18),sl18⟩) (c18:PySem.W.codeIn K cd18 "law" = true) (k18:PySem.W.keepIn K (.ref f18)=true)
  (y0:PySem.W.nsIn K mainGlobals "sorted" = some none)
  (y1:PySem.W.nsIn K mainGlobals "set" = some none)
  (z0:PySem.W.nsIn K mainGlobals "len" = some none) (z1:PySem.W.nsIn K mainGlobals "range" = some none) (z2:PySem.W.nsIn K mainGlobals "max" = some none) (z3:PySem.W.nsIn K mainGlobals "min" = some none) (z4:PySem.W.nsIn K mainGlobals "sum" = some none) (z5:PySem.W.nsIn K mainGlobals "all" = some none) (z6:PySem.W.nsIn K mainGlobals "any" = some none) (z7:PySem.W.nsIn K mainGlobals "list" = some none) (z8:PySem.W.nsIn K mainGlobals "tuple" = some none) (z9:PySem.W.nsIn K mainGlobals "int" = some none) (z10:PySem.W.nsIn K mainGlobals "str" = some none) (z11:PySem.W.nsIn K mainGlobals "bool" = some none) (z12:PySem.W.nsIn K mainGlobals "zip" = some none) (z13:PySem.W.nsIn K mainGlobals "enumerate" = some none) (z14:PySem.W.nsIn K mainGlobals "isinstance" = some none) (z15:PySem.W.nsIn K mainGlobals "divmod" = some none) :
  ∃fd:FuncData,(∀(s:Shared) (v:Value),BindsTo s fd ⟨[v],[]⟩ [("_law_script",v)])∧∀base:Heap,K.In base→base.Ns mainGlobals mg→FnOk l.prog w K mg base CX0 7 fa fd ["_law_script"] (spLaw K):=by
 have e:=hfa.symm.trans (PySem.W.mg_of X G a18)
 cases e
 have T:Nm mg:=⟨PySem.W.mg_none_of X G z0,PySem.W.mg_none_of X G z1,PySem.W.mg_none_of X G z2,PySem.W.mg_none_of X G z3,PySem.W.mg_none_of X G z4,PySem.W.mg_none_of X G z5,PySem.W.mg_none_of X G z6,PySem.W.mg_none_of X G z7,PySem.W.mg_none_of X G z8,PySem.W.mg_none_of X G z9,PySem.W.mg_none_of X G z10,PySem.W.mg_none_of X G z11,PySem.W.mg_none_of X G z12,PySem.W.mg_none_of X G z13,PySem.W.mg_none_of X G z14,PySem.W.mg_none_of X G z15⟩
 have n_sorted:=PySem.W.mg_none_of X G y0
 have n_set:=PySem.W.mg_none_of X G y1
 have k1:=F1.kp
 have b1:=F1.binds (ps:=["one", "other"]) fun _ _ _ _ _ _=>lenS fun _=>lenS fun _=>lenZ rfl
 have k2:=F2.kp
 have b2:=F2.binds (ps:=["text"]) fun _ _ _ _ _ _=>lenS fun _=>lenZ rfl
 have k3:=F3.kp
 have b3:=F3.binds (ps:=["book"]) fun _ _ _ _ _ _=>lenS fun _=>lenZ rfl
 have k4:=F4.kp
 have b4:=F4.binds (ps:=["book", "lag"]) fun _ _ _ _ _ _=>lenS fun _=>lenS fun _=>lenZ rfl
 have k5:=F5.kp
 have b5:=F5.binds (ps:=["book"]) fun _ _ _ _ _ _=>lenS fun _=>lenZ rfl
 have k6:=F6.kp
 have b6:=F6.binds (ps:=["book"]) fun _ _ _ _ _ _=>lenS fun _=>lenZ rfl
 have k7:=F7.kp
 have b7:=F7.binds (ps:=["book"]) fun _ _ _ _ _ _=>lenS fun _=>lenZ rfl
 have k8:=F8.kp
 have b8:=F8.binds (ps:=["_law_script"]) fun _ _ _ _ _ _=>lenS fun _=>lenZ rfl
 have k9:=F9.kp
 have b9:=F9.binds (ps:=["_law_state", "_law_many"]) fun _ _ _ _ _ _=>lenS fun _=>lenS fun _=>lenZ rfl
 have k10:=F10.kp
 have b10:=F10.binds (ps:=["_law_state", "_law_many"]) fun _ _ _ _ _ _=>lenS fun _=>lenS fun _=>lenZ rfl
 have k11:=F11.kp
 have b11:=F11.binds (ps:=["_law_state", "_law_many", "_law_most"]) fun _ _ _ _ _ _=>lenS fun _=>lenS fun _=>lenS fun _=>lenZ rfl
 have k12:=F12.kp
 have b12:=F12.binds (ps:=["_law_state"]) fun _ _ _ _ _ _=>lenS fun _=>lenZ rfl
 have k13:=F13.kp
 have b13:=F13.binds (ps:=["_law_state"]) fun _ _ _ _ _ _=>lenS fun _=>lenZ rfl
 have k14:=F14.kp
 have b14:=F14.binds (ps:=["_law_codes", "_law_pair"]) fun _ _ _ _ _ _=>lenS fun _=>lenS fun _=>lenZ rfl
 have k15:=F15.kp
 have b15:=F15.binds (ps:=["_law_codes"]) fun _ _ _ _ _ _=>lenS fun _=>lenZ rfl
 have k16:=F16.kp
 have b16:=F16.binds (ps:=["_law_codes"]) fun _ _ _ _ _ _=>lenS fun _=>lenZ rfl
 have k17:=F17.kp
 have b17:=F17.binds (ps:=["_law_codes"]) fun _ _ _ _ _ _=>lenS fun _=>lenZ rfl
 have F18:=fun_mk (st:=top i_law) l18 c18 k18
 refine ⟨PySem.W.fnOf "law" "law" (defArgs (top i_law)) (defBody (top i_law)) (defScope (top i_law)) .none kV18 dc18 pm18 an18 cd18 ct18,fun s v => .of_eq rfl,fun base hB hG => ?_⟩
 have fRest:Fn l.prog w K mg base 1 "rest_of" ["one", "other"] (spRest):=⟨f1,_,ok_rest F1 T,b1,k1,PySem.W.mg_of X G a1⟩
 have fLf:Fn l.prog w K mg base 1 "length_first" ["text"] (spLf):=⟨f2,_,ok_lf F2 T,b2,k2,PySem.W.mg_of X G a2⟩
 have fCe:Fn l.prog w K mg base 1 "code_ends" ["book"] (spCe K):=⟨f3,_,ok_ce F3 T,b3,k3,PySem.W.mg_of X G a3⟩
 have fLb:Fn l.prog w K mg base 2 "lags_behind" ["book", "lag"] (spLb K):=⟨f4,_,ok_lb F4 T fRest,b4,k4,PySem.W.mg_of X G a4⟩
 have fLg:Fn l.prog w K mg base 4 "lags_of" ["book"] (spLg K):=⟨f5,_,ok_lg F5 T n_sorted fCe fLf,b5,k5,PySem.W.mg_of X G a5⟩
 have fEl:Fn l.prog w K mg base 5 "ending_lags" ["book"] (spEl K):=⟨f6,_,ok_el F6 T fLg fLb,b6,k6,PySem.W.mg_of X G a6⟩
 have fGd:Fn l.prog w K mg base 6 "greatest_delay" ["book"] (spGd K):=⟨f7,_,ok_gd F7 T fEl fLg fLb,b7,k7,PySem.W.mg_of X G a7⟩
 have fBegin:Fn l.prog w K mg base 1 "_law_begin" ["_law_script"] (spBegin K):=⟨f8,_,ok_begin F8 T,b8,k8,PySem.W.mg_of X G a8⟩
 have fTake:Fn l.prog w K mg base 1 "_law_take" ["_law_state", "_law_many"] (spTake):=⟨f9,_,ok_take F9 T,b9,k9,PySem.W.mg_of X G a9⟩
 have fTk:Fn l.prog w K mg base 1 "_law_take" ["_law_state", "_law_many"] (spTk):=Fn.imp fTake (fun _ _ _ _ h=>spTk_of h)
 have fNl:Fn l.prog w K mg base 2 "_law_names" ["_law_state", "_law_many"] (spNl):=⟨f10,_,ok_nl16 F10 T fTk,b10,k10,PySem.W.mg_of X G a10⟩
 have fFree:Fn l.prog w K mg base 2 "_law_free" ["_law_state", "_law_many", "_law_most"] (spFr):=⟨f11,_,ok_free F11 T fTk,b11,k11,PySem.W.mg_of X G a11⟩
 have fSz:Fn l.prog w K mg base 2 "_law_sizes" ["_law_state"] (spSz9):=⟨f12,_,ok_sz9 F12 T fTk,b12,k12,PySem.W.mg_of X G a12⟩
 have fBk:Fn l.prog w K mg base 3 "_law_book" ["_law_state"] (spBk9 K):=⟨f13,_,ok_bk59 F13 T n_sorted n_set fTk fSz fFree fNl,b13,k13,PySem.W.mg_of X G a13⟩
 have fStp:Fn l.prog w K mg base 1 "_law_steps" ["_law_codes", "_law_pair"] (spStp K):=⟨f14,_,ok_stp F14 T,b14,k14,PySem.W.mg_of X G a14⟩
 have fPrs:Fn l.prog w K mg base 2 "_law_pairs" ["_law_codes"] (spPrs K):=⟨f15,_,ok_prs F15 T fStp,b15,k15,PySem.W.mg_of X G a15⟩
 have fWor:Fn l.prog w K mg base 3 "_law_worths" ["_law_codes"] (spWor K):=⟨f16,_,ok_wor F16 T fPrs,b16,k16,PySem.W.mg_of X G a16⟩
 have fDu:Fn l.prog w K mg base 4 "_law_due" ["_law_codes"] (spDu K):=⟨f17,_,ok_du F17 T fWor,b17,k17,PySem.W.mg_of X G a17⟩
 exact ok_law62 F18 T fBegin fBk fDu fGd
theorem walk {l:PySem.W.OpenLaw} {q:Program} {loose:List Str} {XP:(Str→Option Value)→Heap→Prop} {YP:World→Heap→Prop} {d:DefRec} {K:Params→PySem.W.Frag} (hn:l.most=some 63) (hdf:d.params.defaults=[])
  (hY:∀(w:World) (h:Heap),YP w h→(K w.params).In h)
  (F:∀(w:World) (mg:Str→Option Value) (fa:Addr) (h:Heap),(K w.params).In h→h.Ns mainGlobals mg→mg d.name=some (.ref fa) →
   ∃fd:FuncData,(∀(s:Shared) (u:Value),BindsTo s fd ⟨[u],[]⟩ [("_law_script",u)])∧∀base:Heap,(K w.params).In base→base.Ns mainGlobals mg→FnOk l.prog w (K w.params) mg base CX0 7 fa fd ["_law_script"] (spLaw (K w.params))) :
  PySem.W.WalkO q loose XP YP l.row.toRowW d [] (fun f vs=>PySem.call f vs):=
 L2.walk_of (n:=63) (k:=7) (x := "_law_script") (CX:=fun _=>CX0) (sp:=fun w=>spLaw (K w.params)) hn (by decide) hdf ⟨rfl,by decide,by decide,rfl⟩ hY F (fun _ _ a ns hl _ hS=>⟨a,ns,rfl,hS,hl,fun _=>rfl⟩) fun _ _ _ _ _ z=>z
end Z
open PySem PySem.W PyProof.Rows L2
set_option maxRecDepth 100000 in
set_option maxHeartbeats 0 in
theorem PySem.Challenge.cw_oddlong_k62_greatest_delay_holds : PySem.Challenge.rw_oddlong_k62_greatest_delay.Holds := by
  w_on; o_law; k_head; (case hw => w_witness2)
  k_fill
  refine Z.walk (l := PySem.Challenge.rw_oddlong_k62_greatest_delay) rfl rfl (fun w h Y => PySem.W.kIn_of Y) ?F
  case F =>
    intro w mg fa h KX G hmg
    refine' Z.all_mk KX G hmg ?a1 ?F1 ?a2 ?F2 ?a3 ?F3 ?a4 ?F4 ?a5 ?F5 ?a6 ?F6 ?a7 ?F7 ?a8 ?F8 ?a9 ?F9 ?a10 ?F10 ?a11 ?F11 ?a12 ?F12 ?a13 ?F13 ?a14 ?F14 ?a15 ?F15 ?a16 ?F16 ?a17 ?F17 ?a18 ?l18 ?c18 ?k18 ?y0 ?y1 ?z0 ?z1 ?z2 ?z3 ?z4 ?z5 ?z6 ?z7 ?z8 ?z9 ?z10 ?z11 ?z12 ?z13 ?z14 ?z15
    (case a1 => k_is); (case F1 => (refine' fun_mk ?l ?c ?k; (case l => k_is); (case c => k_is); (case k => k_is))); (case a2 => k_is); (case F2 => (refine' fun_mk ?l ?c ?k; (case l => k_is); (case c => k_is); (case k => k_is))); (case a3 => k_is); (case F3 => (refine' fun_mk ?l ?c ?k; (case l => k_is); (case c => k_is); (case k => k_is))); (case a4 => k_is); (case F4 => (refine' fun_mk ?l ?c ?k; (case l => k_is); (case c => k_is); (case k => k_is)))
    (case a5 => k_is); (case F5 => (refine' fun_mk ?l ?c ?k; (case l => k_is); (case c => k_is); (case k => k_is))); (case a6 => k_is); (case F6 => (refine' fun_mk ?l ?c ?k; (case l => k_is); (case c => k_is); (case k => k_is))); (case a7 => k_is); (case F7 => (refine' fun_mk ?l ?c ?k; (case l => k_is); (case c => k_is); (case k => k_is))); (case a8 => k_is); (case F8 => (refine' fun_mk ?l ?c ?k; (case l => k_is); (case c => k_is); (case k => k_is)))
    (case a9 => k_is); (case F9 => (refine' fun_mk ?l ?c ?k; (case l => k_is); (case c => k_is); (case k => k_is))); (case a10 => k_is); (case F10 => (refine' fun_mk ?l ?c ?k; (case l => k_is); (case c => k_is); (case k => k_is))); (case a11 => k_is); (case F11 => (refine' fun_mk ?l ?c ?k; (case l => k_is); (case c => k_is); (case k => k_is))); (case a12 => k_is); (case F12 => (refine' fun_mk ?l ?c ?k; (case l => k_is); (case c => k_is); (case k => k_is)))
    (case a13 => k_is); (case F13 => (refine' fun_mk ?l ?c ?k; (case l => k_is); (case c => k_is); (case k => k_is))); (case a14 => k_is); (case F14 => (refine' fun_mk ?l ?c ?k; (case l => k_is); (case c => k_is); (case k => k_is))); (case a15 => k_is); (case F15 => (refine' fun_mk ?l ?c ?k; (case l => k_is); (case c => k_is); (case k => k_is))); (case a16 => k_is); (case F16 => (refine' fun_mk ?l ?c ?k; (case l => k_is); (case c => k_is); (case k => k_is)))
    (case a17 => k_is); (case F17 => (refine' fun_mk ?l ?c ?k; (case l => k_is); (case c => k_is); (case k => k_is))); (case a18 => k_is); (case l18 => k_is); (case c18 => k_is); (case k18 => k_is); (case y0 => k_is); (case y1 => k_is)
    (case z0 => k_is); (case z1 => k_is); (case z2 => k_is); (case z3 => k_is); (case z4 => k_is); (case z5 => k_is); (case z6 => k_is); (case z7 => k_is)
    (case z8 => k_is); (case z9 => k_is); (case z10 => k_is); (case z11 => k_is); (case z12 => k_is); (case z13 => k_is); (case z14 => k_is); (case z15 => k_is)
