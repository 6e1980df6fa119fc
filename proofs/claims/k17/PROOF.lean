import PyProof.Rows.All
import Wide.All
import OpenK.AllK
import Wide.FinOn
import PyProof.EqAt
import PyProof.EqKinds
import PyProof.TupleCall
import PyProof.DictCompW
import PyProof.Rows.SortWalk
import OpenK.KRaise
import PyProof.ExcClass2
import KE.KTryMore
import KE.KSortTup
import KE.KIsAll
import PyProof.ListRange
import PyProof.StrBlock2
import PyProof.Rows.SetFrom
import PyProof.SetRoads
import PyProof.ReprRoads
import PyProof.CallStr
import PyProof.Rows.SortStr
import KE.KSortKey
import KE.KMinKey
import PyProof.Rows.Range3
import PyProof.Rows.IntBool
import KE.KRevIter
import PyProof.MeetsSeq
import PyProof.MinMaxWalk
import PyProof.SliceStr2
import PyProof.P3Eq
import PyProof.Rows.StrLen
import PyProof.Rows.StrCase
import PyProof.InstStoreFacts
import PyProof.ExcInit
import PyProof.StrCalls
import PyProof.DictIter
import PyProof.DictWalks
import PyProof.AutoIntG2
import KE.KDictList
import PyProof.DictItems
import PyProof.RulesTry
import PyProof.EnumMake
import PyProof.Draws
import PyProof.FactsAll.set_1
import PyProof.IsiH_list
import KE.KDictOf
import PyProof.RulesRaise
import PyProof.StrLawsRepr
import Lean
import PySem.Challenge.RW_oddlong_k17_books_of_known_readings
set_option Elab.async false
set_option linter.all false
set_option maxRecDepth 100000
namespace L2
set_option genSizeOf false
set_option genInjectivity false
inductive Ex2 {α0 α1:Type} (P : α0 → α1→Prop):Prop|mk (x0 : α0) (x1 : α1) (h:P x0 x1):Ex2 P
inductive Ex3 {α0 α1 α2:Type} (P : α0 → α1 → α2→Prop):Prop|mk (x0 : α0) (x1 : α1) (x2 : α2) (h:P x0 x1 x2):Ex3 P
inductive Ex4 {α0 α1 α2 α3:Type} (P : α0 → α1 → α2 → α3→Prop):Prop|mk (x0 : α0) (x1 : α1) (x2 : α2) (x3 : α3) (h:P x0 x1 x2 x3):Ex4 P
inductive Ex5 {α0 α1 α2 α3 α4:Type} (P : α0 → α1 → α2 → α3 → α4→Prop):Prop|mk (x0 : α0) (x1 : α1) (x2 : α2) (x3 : α3) (x4 : α4) (h:P x0 x1 x2 x3 x4):Ex5 P
inductive Ex6 {α0 α1 α2 α3 α4 α5:Type} (P : α0 → α1 → α2 → α3 → α4 → α5→Prop):Prop|mk (x0 : α0) (x1 : α1) (x2 : α2) (x3 : α3) (x4 : α4) (x5 : α5) (h:P x0 x1 x2 x3 x4 x5):Ex6 P
set_option genSizeOf true
set_option genInjectivity true
end L2
namespace L2
open PySem PySem.Spec PyProof.Rows
noncomputable abbrev Key:=Sum Int Str
noncomputable def keyIs:Key→Value→Bool
 | .inl k,v=>Value.isInt k v
 | .inr x,v=>Value.isStrOf x v
noncomputable def keyH (w:World):Key→Int
 | .inl k=>hashInt k
 | .inr x=>hashStr w x
theorem keyIs_shape:∀{k:Key} {v:Value},keyIs k v=true→(∃i t,k=Sum.inl i∧v=Value.int i t)∨(∃x t,k=Sum.inr x∧v=Value.str x t)
 | .inl i,v,h=>by
  obtain ⟨t,e⟩:=Value.isInt_shape (k:=i) (v:=v) h
  exact .inl ⟨i,t,rfl,e⟩
 | .inr x,v,h=>by
  obtain ⟨t,e⟩:=Value.isStrOf_shape (x:=x) (v:=v) h
  exact .inr ⟨x,t,rfl,e⟩
theorem keyIs_int (i:Int) (t:Tok):keyIs (.inl i) (.int i t)=true:=by simp [keyIs,Value.isInt]
theorem keyIs_str (x:Str) (t:Tok):keyIs (.inr x) (.str x t)=true:=by simp [keyIs,Value.isStrOf]
theorem key_ll (a b:Int):decide ((Sum.inl a:Key)=Sum.inl b)=(a == b):=by
 by_cases e:a=b
 ·subst e;simp
 ·have h:¬(Sum.inl a:Key)=Sum.inl b:=fun q=>e (Sum.inl.inj q)
  rw [decide_eq_false h]
  exact (beq_eq_false_iff_ne.mpr e).symm
theorem key_rr (a b:Str):decide ((Sum.inr a:Key)=Sum.inr b)=decide (a=b):=by
 by_cases e:a=b
 ·subst e;simp
 ·have h:¬(Sum.inr a:Key)=Sum.inr b:=fun q=>e (Sum.inr.inj q)
  rw [decide_eq_false h,decide_eq_false e]
theorem key_lr (a:Int) (b:Str):decide ((Sum.inl a:Key)=Sum.inr b)=false:=decide_eq_false (fun q=>nomatch q)
theorem key_rl (a:Str) (b:Int):decide ((Sum.inr a:Key)=Sum.inl b)=false:=decide_eq_false (fun q=>nomatch q)
noncomputable def mixKind (prog:Program) (w:World):PySem.KeyKind prog w Key where
 is:=keyIs
 hash:=keyH w
 inj:=fun v a b ha hb=>by
  rcases keyIs_shape ha with ⟨i,t,rfl,rfl⟩|⟨x,t,rfl,rfl⟩
  ·rcases keyIs_shape hb with ⟨j,u,rfl,e⟩|⟨y,u,rfl,e⟩
   ·injection e with e1 _;rw [e1]
   ·exact nomatch e
  ·rcases keyIs_shape hb with ⟨j,u,rfl,e⟩|⟨y,u,rfl,e⟩
   ·exact nomatch e
   ·injection e with e1 _;rw [e1]
 byValue:=fun k v h=>by
  rcases keyIs_shape h with ⟨i,t,rfl,rfl⟩|⟨x,t,rfl,rfl⟩ <;> rfl
 pyHash:=fun hv h=>by
  rcases keyIs_shape hv with ⟨i,t,rfl,rfl⟩|⟨x,t,rfl,rfl⟩
  ·exact wpAny_pyHash_int h
  ·exact wpAny_pyHash_str h
 eqBool:=fun hu hv h=>by
  rcases keyIs_shape hu with ⟨i,t,rfl,rfl⟩|⟨x,t,rfl,rfl⟩
  ·rcases keyIs_shape hv with ⟨j,u,rfl,rfl⟩|⟨y,u,rfl,rfl⟩
   ·rw [key_ll] at h;exact wpAny_eqBool_int h
   ·rw [key_lr] at h;exact SeqAt.EqAt.int_str i t y u _ _ _ _ h
  ·rcases keyIs_shape hv with ⟨j,u,rfl,rfl⟩|⟨y,u,rfl,rfl⟩
   ·rw [key_rl] at h;exact SeqAt.EqAt.str_int x t j u _ _ _ _ h
   ·rw [key_rr] at h;exact wpAny_eqBool_str h
 «strs»:=fun k x t v h=>by
  rcases keyIs_shape h with ⟨i,u,rfl,e⟩|⟨y,u,rfl,e⟩
  ·exact nomatch e
  ·injection e with e1 _
   subst e1
   cases v <;> rfl
theorem mixKind_int (prog:Program) (w:World) (i:Int) (t:Tok):(mixKind prog w).is (.inl i) (.int i t)=true:=keyIs_int i t
theorem mixKind_str (prog:Program) (w:World) (x:Str) (t:Tok):(mixKind prog w).is (.inr x) (.str x t)=true:=keyIs_str x t
end L2
namespace L2
open PySem PySem.Spec PyProof.Rows
inductive V where
 | non|bl (b:Bool)|int (i:Int)|str (x:Str)|byt (b:Array UInt8)|flt (b:UInt64)|ref (a:Addr)|ty (n:String)
 deriving DecidableEq
noncomputable def RelV:V→Value→Prop
 | .non,u=>u=Value.none
 | .bl b,u=>u=Value.bool b
 | .int i,u=>∃t,u=Value.int i t
 | .str x,u=>∃t,u=Value.str x t
 | .byt b,u=>∃t,u=Value.bytes b t
 | .flt b,u=>∃t,u=Value.float b t
 | .ref a,u=>u=Value.ref a
 | .ty n,u=>u=Value.type n
noncomputable abbrev Vals:List V→List Value→Prop:=Paired RelV
theorem Vals.length {xs:List V} {us:List Value} (r:Vals xs us):xs.length=us.length:=Paired.length r
theorem Vals.get:∀{xs:List V} {us:List Value} {i:Nat} {x:V},Vals xs us→xs[i]? = some x→∃u,us[i]? = some u∧RelV x u
 | _,_,_,_, .nil,e=>by simp at e
 | _,_,0,_, .cons r _,e=>by simp at e;subst e;exact ⟨_,rfl,r⟩
 | _,_,i+1,x, .cons _ t,e=>by
  obtain ⟨u,h1,h2⟩:=Vals.get (i:=i) (x:=x) t (by simpa using e)
  exact ⟨u,by simpa using h1,h2⟩
theorem Vals.set {x:V} {u:Value} (r:RelV x u):∀{xs:List V} {us:List Value} (i:Nat),Vals xs us→Vals (xs.set i x) (us.set i u)
 | _,_,_, .nil => .nil
 | _,_,0, .cons _ t => .cons r t
 | _,_,i+1, .cons q t => .cons q (Vals.set r i t)
theorem Vals.append {xs ys:List V} {us ws:List Value} (h:Vals xs us) (s:Vals ys ws):Vals (xs++ys) (us++ws):=by
 induction h with
 | nil=>exact s
 | cons r t ih=>exact .cons r ih
theorem Vals.take:∀{xs:List V} {us:List Value} (n:Nat),Vals xs us→Vals (xs.take n) (us.take n)
 | _,_,0,_ => .nil
 | _,_,_+1, .nil => .nil
 | _,_,n+1, .cons r t => .cons r (Vals.take n t)
theorem Vals.drop:∀{xs:List V} {us:List Value} (n:Nat),Vals xs us→Vals (xs.drop n) (us.drop n)
 | _,_,0,r=>r
 | _,_,_+1, .nil => .nil
 | _,_,n+1, .cons _ t=>Vals.drop n t
noncomputable def RelO:Option V→Option Value→Prop
 | some v,some u=>RelV v u
 | none,none=>True
 | _,_=>False
noncomputable def KV {κ:Type} : List (κ×V)→List (κ×Value)→Prop:=Paired fun (p : κ×V) (q : κ×Value)=>p.1=q.1∧RelV p.2 q.2
noncomputable def kV:Key→V
 | .inl i => .int i
 | .inr x => .str x
inductive HO where
 | lst (xs:List V)
 | tup (xs:List V)
 | dK (kvs:List (Key×V))|dT (kvs:List (List Key×V))
 | set (S:Int→Bool) (n:Nat)
 | ins (C dx:Addr) (fs:List (Str×V))
 | own (x:Addr)
 | xd (fs:List (Str×V))
 | met (f x:Addr)
 | rng (lo hi:Int)
 | frz (o:Obj) (u:HO)
 | tbl (ps:Array Value)
 | ext (φ:Heap→Prop)
noncomputable abbrev Hp:=Addr→Option HO
noncomputable def upd (H:Hp) (a:Addr) (o:HO):Hp:=fun b=>if b=a then some o else H b
theorem upd_same {H:Hp} {a:Addr} {o:HO} : upd H a o a=some o:=by unfold upd;rw [if_pos rfl]
theorem upd_ne {H:Hp} {a b:Addr} {o:HO} (h:b≠a):upd H a o b=H b:=by unfold upd;rw [if_neg h]
theorem upd_upd {H:Hp} {a:Addr} {o u:HO} : upd (upd H a o) a u=upd H a u:=by
 funext b;unfold upd;split <;> rfl
theorem ne_of {H:Hp} {a b:Addr} {o u:HO} (h:H a=some o) (h':H b=some u) (d:o≠u):a≠b:=by
 intro e;subst e;rw [h] at h';exact d (Option.some.inj h')
theorem ne_of_none {H:Hp} {a b:Addr} {o:HO} (h:H a=some o) (h':H b=none):a≠b:=by
 intro e;subst e;rw [h] at h';cases h'
section
variable (P:Program) (w:World)
noncomputable def ObjOk (H:Hp) (h:Heap) (a:Addr):HO→Prop
 | .lst xs=>xs.length≤sizeLine∧Ex2 fun (its:List Value) (n:Nat)=>Vals xs its∧h.get? a=some { cls := .type "list",data := .seq its.toArray n }
 | .tup xs=>xs.length≤sizeLine∧∃its:List Value,Vals xs its∧IsTup h a its.toArray
 | .dK kvs=>kvs.length≤sizeLine∧(a == sysModules)=false∧∃vs,KV kvs vs∧h.DictOf (mixKind P w) a vs
 | .dT kvs=>kvs.length≤sizeLine∧(a == sysModules)=false∧∃xs:List (List Key×Addr×Value),
   Paired (fun (p:List Key×V) (q:List Key×Addr×Value)=>p.1=q.1∧H q.2.1=some (.tup (p.1.map kV))∧RelV p.2 q.2.2) kvs xs ∧
   Ex3 fun o es ep=>h.get? a=some o∧o.ExactDict∧o.data = .dict es ep∧es.toList=xs.map (entryOfKey (tupleKind (mixKind P w)))∧(xs.map (·.1)).Nodup
 | .set S n=>h.SetOf (intKind P w) a S n
 | .ins C dx fs=>H dx=some (.own a)∧fs.length≤1000∧dx≠a∧h.get? a=some (PySem.W.instObj C dx) ∧
   ∃mA,h.Ns1 dx mA∧(∀f,RelO (fs.lookup f) (mA f))∧PySem.Within mA (fs.map (·.1))
 | .own _=>∃o,h.get? a=some o
 | .xd fs=>∃mA,h.Ns1 a mA∧∀f,RelO (fs.lookup f) (mA f)
 | .rng lo hi=>Ex3 fun t u v=>h.get? a=some { cls := .type "range",data := .fields #[.int lo t, .int hi u, .int 1 v] }
 | .frz o u=>h.get? a=some o∧ObjOk H h a u
 | .tbl ps=>h.get? a=some { cls := .none,data := .fields ps }
 | .met f x=>h.get? a=some (PySem.W.methodObj (.ref f) (.ref x))
 | .ext φ => φ h∧(∃o,h.get? a=some o)∧∀h1 h2:Heap, φ h1→(∀o,h1.get? a=some o→h2.get? a=some o) → φ h2
noncomputable def HOk (H:Hp) (h:Heap):Prop:=∀a o,H a=some o→ObjOk P w H h a o
end
section
variable {P:Program} {w:World} {H H':Hp} {h h':Heap} {a:Addr} {o:HO}
theorem ObjOk.lt (x:ObjOk P w H h a o):a<h.objs.size:=by
 cases o with
 | lst xs=>obtain ⟨_,_,_,_,e⟩:=x;exact Heap.lt_size e
 | tup xs=>obtain ⟨_,_,_,p⟩:=x;exact p.lt
 | dK kvs=>obtain ⟨_,_,_,_,o,_,_,e,_⟩:=x;exact Heap.lt_size e
 | dT kvs=>obtain ⟨_,_,_,_,o,_,_,e,_⟩:=x;exact Heap.lt_size e
 | set S n=>obtain ⟨o,_,_,_,e,_⟩:=x;exact Heap.lt_size e
 | ins C dx fs=>obtain ⟨_,_,_,e,_⟩:=x;exact Heap.lt_size e
 | own y=>obtain ⟨_,e⟩:=x;exact Heap.lt_size e
 | xd fs=>obtain ⟨_,⟨_,_,_,e,_⟩,_⟩:=x;exact Heap.lt_size e
 | rng lo hi=>obtain ⟨_,_,_,e⟩:=x;exact Heap.lt_size e
 | frz ob u=>obtain ⟨e,_⟩:=x;exact Heap.lt_size e
 | tbl ps=>exact Heap.lt_size (show h.get? a=some _ from x)
 | met f y=>exact Heap.lt_size (show h.get? a=some _ from x)
 | ext φ=>obtain ⟨_,⟨_,e⟩,_⟩:=x;exact Heap.lt_size e
theorem Paired.mapP {α β:Type} {F G : α → β→Prop} {l₁:List α} {l₂:List β} (h:Paired F l₁ l₂) (f:∀a b,F a b→G a b):Paired G l₁ l₂:=by
 induction h with
 | nil=>exact .nil
 | cons r t ih=>exact .cons (f _ _ r) ih
theorem Paired.imp' {α β:Type} {F G : α → β→Prop} (f:∀a b,F a b→G a b) {l₁:List α} {l₂:List β} (r:Paired F l₁ l₂):Paired G l₁ l₂:=Paired.mapP r f
theorem ObjOk.stay (x:ObjOk P w H h a o) (k:∀b u,(b=a∨H b=some (.own a))→h.get? b=some u→h'.get? b=some u)
  (ho:∀b,H b=some (.own a)→H' b=some (.own a)) (ht:∀b xs,H b=some (.tup xs)→H' b=some (.tup xs)):ObjOk P w H' h' a o:=by
 induction o with
 | lst xs=>obtain ⟨z,its,n,r,e⟩:=x;exact ⟨z,its,n,r,k _ _ (.inl rfl) e⟩
 | tup xs=>obtain ⟨z,its,r,ob,e,c⟩:=x;exact ⟨z,its,r,ob,k _ _ (.inl rfl) e,c⟩
 | dK kvs=>obtain ⟨z,y,vs,r,ob,es,ep,e,c⟩:=x;exact ⟨z,y,vs,r,ob,es,ep,k _ _ (.inl rfl) e,c⟩
 | dT kvs=>
  obtain ⟨z,y,xs,r,ob,es,ep,e,c⟩:=x
  exact ⟨z,y,xs,Paired.mapP r fun p q z=>⟨z.1,ht _ _ z.2.1,z.2.2⟩,ob,es,ep,k _ _ (.inl rfl) e,c⟩
 | set S n=>obtain ⟨ob,es,ep,t,e,c⟩:=x;exact ⟨ob,es,ep,t,k _ _ (.inl rfl) e,c⟩
 | ins C dx fs=>
  obtain ⟨d,z,ne,e,mA,⟨od,es,ep,e2,c⟩,r⟩:=x
  exact ⟨ho _ d,z,ne,k _ _ (.inl rfl) e,mA,⟨od,es,ep,k _ _ (.inr d) e2,c⟩,r⟩
 | own y=>obtain ⟨ob,e⟩:=x;exact ⟨ob,k _ _ (.inl rfl) e⟩
 | xd fs=>obtain ⟨mA,⟨od,es,ep,e,c⟩,r⟩:=x;exact ⟨mA,⟨od,es,ep,k _ _ (.inl rfl) e,c⟩,r⟩
 | rng lo hi=>obtain ⟨t,u,v,e⟩:=x;exact ⟨t,u,v,k _ _ (.inl rfl) e⟩
 | frz ob u ih=>obtain ⟨e,q⟩:=x;exact ⟨k _ _ (.inl rfl) e,ih q⟩
 | tbl ps=>
  have e:h.get? a=some { cls := .none,data := .fields ps }:=x
  show h'.get? a=some { cls := .none,data := .fields ps }
  exact k a _ (.inl rfl) e
 | met f y=>
  have e:h.get? a=some (PySem.W.methodObj (.ref f) (.ref y)):=x
  show h'.get? a=some (PySem.W.methodObj (.ref f) (.ref y))
  exact k a _ (.inl rfl) e
 | ext φ=>obtain ⟨p,⟨o,e⟩,st⟩:=x;exact ⟨st _ _ p fun o q=>k _ _ (.inl rfl) q,⟨o,k _ _ (.inl rfl) e⟩,st⟩
theorem HOk.lt (x:HOk P w H h) (e:H a=some o):a<h.objs.size:=(x a o e).lt
theorem HOk.fresh (x:HOk P w H h) (e:h.objs.size≤a):H a=none:=by
 cases q:H a with
 | none=>rfl
 | some u=>exact absurd (Nat.lt_of_lt_of_le (x.lt q) e) (Nat.lt_irrefl _)
theorem HOk.kept (x:HOk P w H h) (k:∀b u,h.get? b=some u→h'.get? b=some u):HOk P w H h':=fun a o e=>
 (x a o e).stay (fun b u _ q=>k b u q) (fun _ q=>q) fun _ _ q=>q
theorem HOk.laid (x:HOk P w H h) (k:∀b u,h.get? b=some u→h'.get? b=some u) (hp:h.objs.size≤a) (new:ObjOk P w (upd H a o) h' a o):HOk P w (upd H a o) h':=fun b u e=>by
 have hn:=x.fresh hp
 by_cases hb:b=a
 ·subst hb;rw [upd_same] at e;cases e;exact new
 ·rw [upd_ne hb] at e
  exact (x b u e).stay (fun c v _ q=>k c v q) (fun c q=>by rw [upd_ne (ne_of_none q hn)];exact q) fun c xs q=>by rw [upd_ne (ne_of_none q hn)];exact q
end
noncomputable def Rd (H:Hp) (a:Addr) (u:HO):Prop:=H a=some u∨∃o,H a=some (.frz o u)
theorem Rd.ok {P:Program} {w:World} {H:Hp} {h:Heap} {a:Addr} {u:HO} (r:Rd H a u) (x:HOk P w H h):ObjOk P w H h a u:=by
 rcases r with r|⟨o,r⟩
 ·exact x a u r
 ·obtain ⟨_,q⟩:=x a _ r
  exact q
noncomputable def Mut:Option HO→Prop
 | some (.lst _)=>True
 | some (.dK _)=>True
 | some (.dT _)=>True
 | some (.set _ _)=>True
 | some (.ins _ _ _)=>True
 | some (.ext _)=>True
 | _=>False
section
variable {P:Program} {w:World} {H:Hp} {h h':Heap} {x e:Addr} {o':HO}
theorem HOk.write (ok:HOk P w H h) (mu:Mut (H x)) (he:e=x∨H e=some (.own x)) (k:∀b u,b≠e→h.get? b=some u→h'.get? b=some u) (heo:∃u,h'.get? e=some u)
  (new:ObjOk P w (upd H x o') h' x o'):HOk P w (upd H x o') h':=fun b u q=>by
 have nown:∀c y,H c=some (.own y)→c≠x:=fun c y r z=>by subst z;rw [r] at mu;exact mu
 have ntup:∀c xs,H c=some (.tup xs)→c≠x:=fun c xs r z=>by subst z;rw [r] at mu;exact mu
 by_cases hb:b=x
 ·subst hb;rw [upd_same] at q;cases q;exact new
 ·rw [upd_ne hb] at q
  by_cases hbe:b=e
  ·have q':H b=some (.own x):=by
    rcases he with z|z
    ·exact absurd (hbe.trans z) hb
    ·rw [hbe];exact z
   rw [q] at q';cases q'
   obtain ⟨v,hv⟩:=heo
   exact ⟨v,by rw [hbe];exact hv⟩
  ·refine (ok b u q).stay (fun c v hc r=>k c v ?_ r) (fun c r=>by rw [upd_ne (nown c b r)];exact r) fun c xs r=>by rw [upd_ne (ntup c xs r)];exact r
   rcases hc with rfl|hc
   ·exact hbe
   ·rintro rfl
    rcases he with z|z
    ·exact nown c b hc z
    ·rw [hc] at z;cases z;exact hb rfl
end
structure Un (fs ex:List Addr) (H H':Hp) (h h':Heap):Prop where
 keep:∀b o,h.get? b=some o→H b=none→b ∉ fs→b ∉ ex→h'.get? b=some o
 slot:∀b o,h.get? b=some o→H b=none→b∈fs→b ∉ ex→∃sl,h'.get? b=some { o with slots:=sl }
 free:∀b o,h.get? b=some o→H b=none→b ∉ ex→H' b=none
 there:∀b o,h.get? b=some o→b ∉ ex→∃o',h'.get? b=some o'
 tups:∀b xs,H b=some (.tup xs)→H' b=some (.tup xs)
 frzs:∀b o u,H b=some (.frz o u)→H' b=some (.frz o u)
 tbls:∀b ps,H b=some (.tbl ps)→∃more,H' b=some (.tbl (ps++more))
section
variable {fs fs' ex ex':List Addr} {H H1 H2:Hp} {h h1 h2 h':Heap} {a x e:Addr} {o:HO}
theorem Un.any (u:Un fs ex H H1 h h1) {b:Addr} {ob:Obj} (q:h.get? b=some ob) (n:H b=none) (hx:b ∉ ex):∃sl,h1.get? b=some { ob with slots:=sl }:=by
 by_cases hb:b∈fs
 ·exact u.slot b ob q n hb hx
 ·exact ⟨ob.slots,u.keep b ob q n hb hx⟩
theorem Un.trans (a:Un fs ex H H1 h h1) (b:Un fs ex H1 H2 h1 h2):Un fs ex H H2 h h2 where
 keep:=fun c ob q n hc hx=>b.keep c ob (a.keep c ob q n hc hx) (a.free c ob q n hx) hc hx
 slot:=fun c ob q n hc hx=>by
  obtain ⟨sl,e1⟩:=a.slot c ob q n hc hx
  obtain ⟨sl',e2⟩:=b.slot c _ e1 (a.free c ob q n hx) hc hx
  exact ⟨sl',e2⟩
 free:=fun c ob q n hx=>by
  obtain ⟨o',e1⟩:=a.there c ob q hx
  exact b.free c o' e1 (a.free c ob q n hx) hx
 there:=fun c ob q hx=>by
  obtain ⟨o',e1⟩:=a.there c ob q hx
  exact b.there c o' e1 hx
 tups:=fun c xs q=>b.tups c xs (a.tups c xs q)
 frzs:=fun c ob xs q=>b.frzs c ob xs (a.frzs c ob xs q)
 tbls:=fun c ps q=>by
  obtain ⟨m1,e1⟩:=a.tbls c ps q
  obtain ⟨m2,e2⟩:=b.tbls c _ e1
  exact ⟨m1++m2,by rw [e2,Array.append_assoc]⟩
theorem Un.kept (k:∀b u,h.get? b=some u→h'.get? b=some u):Un fs ex H H h h':=
 ⟨fun b ob q _ _ _=>k b ob q,fun b ob q _ _ _=>⟨ob.slots,k b ob q⟩,fun _ _ _ n _=>n,fun b ob q _=>⟨ob,k b ob q⟩,fun _ _ q=>q,fun _ _ _ q=>q,fun _ ps q=>⟨#[],by rw [q];simp⟩⟩
theorem Un.refl:Un fs ex H H h h:=Un.kept fun _ _ q=>q
theorem Un.laid (k:∀b u,h.get? b=some u→h'.get? b=some u) (hp:h.objs.size≤a) (hn:H a=none):Un fs ex H (upd H a o) h h' where
 keep:=fun b u q _ _ _=>k b u q
 slot:=fun b u q _ _ _=>⟨u.slots,k b u q⟩
 free:=fun b u q n _=>by rw [upd_ne (Nat.ne_of_lt (Nat.lt_of_lt_of_le (Heap.lt_size q) hp))];exact n
 there:=fun b u q _=>⟨u,k b u q⟩
 tups:=fun b xs q=>by rw [upd_ne (ne_of_none q hn)];exact q
 frzs:=fun b u xs q=>by rw [upd_ne (ne_of_none q hn)];exact q
 tbls:=fun b ps q=>⟨#[],by rw [upd_ne (ne_of_none q hn),q];simp⟩
theorem Un.write (mu:Mut (H x)) (he:e=x∨H e=some (.own x)) (k:∀b u,b≠e→h.get? b=some u→h'.get? b=some u) (heo:∃u,h'.get? e=some u):Un fs ex H (upd H x o) h h':=by
 have hx:∀b,H b=none→b≠x:=fun b n z=>by subst z;rw [n] at mu;exact mu
 have hb:∀b,H b=none→b≠e:=fun b n z=>by
  subst z
  rcases he with r|r
  ·exact hx b n r
  ·rw [n] at r;cases r
 have hm:∀b u,H b=some u→¬Mut (some u)→b≠x:=fun b u q nm z=>by subst z;rw [q] at mu;exact nm mu
 refine ⟨fun b u q n _ _=>k b u (hb b n) q,fun b u q n _ _=>⟨u.slots,k b u (hb b n) q⟩,fun b u q n _=>by rw [upd_ne (hx b n)];exact n,fun b u q _ => ?_,
  fun b xs q=>by rw [upd_ne (hm b _ q fun z=>z)];exact q,fun b u xs q=>by rw [upd_ne (hm b _ q fun z=>z)];exact q,fun b ps q=>⟨#[],by rw [upd_ne (hm b _ q fun z=>z),q];simp⟩⟩
 by_cases hbe:b=e
 ·subst hbe;exact heo
 ·exact ⟨u,k b u hbe q⟩
end
noncomputable def trk (h:Heap) (H:Hp):List Addr:=(List.range h.objs.size).filter fun a=>(H a).isSome
noncomputable def hidT (h:Heap) (H:Hp):Heap:=PySem.W.hideAll h (trk h H)
theorem hidT_size (h:Heap) (H:Hp):(hidT h H).objs.size=h.objs.size:=PySem.W.hideAll_size _ _
theorem hidT_get {h:Heap} {H:Hp} {b:Addr} {o:Obj} (e:h.get? b=some o) (n:H b=none):(hidT h H).get? b=some o:=
 PySem.W.hideAll_get _ e fun hm=>by
  have q:(H b).isSome=true:=(List.mem_filter.mp hm).2
  rw [n] at q;simp at q
theorem of_hidT {h:Heap} {H:Hp} {b:Addr} {o:Obj} (e:(hidT h H).get? b=some o):h.get? b=some o∧H b=none:=by
 have e':h.get? b=some o:=PySem.W.of_hideAll (trk h H) e
 refine ⟨e',?_⟩
 cases q:H b with
 | none=>rfl
 | some x=>
  have hm:b∈trk h H:=List.mem_filter.mpr ⟨List.mem_range.mpr (Heap.lt_size e'),by simp [q]⟩
  have z:(hidT h H).get? b=none:=PySem.W.hideAll_none (trk h H) hm
  rw [z] at e;cases e
end L2
namespace L2
open PySem PySem.Spec PyProof.Rows
structure Mod (K:PySem.W.Frag) (mg:Str→Option Value) (base:Heap):Prop where
 kin:K.In base
 glob:base.Ns mainGlobals mg
 blt:∃mb,base.Ns builtinsNs mb∧∀x:Str,x ≠ "__name__" → mb x=bootBuiltins x
 nolimit:base.NoLimit
structure Cx where
 prog:Program
 w:World
 K:PySem.W.Frag
 mg:Str→Option Value
 base:Heap
 A:Around
 N:List Str
 s₀:Shared
 H₀:Hp
 env:Env
 outer:List Env
 stack:List Env
 ex:List Addr
 fn:Str→Bool
 calm:Bool
 pn:List (Addr×Obj)
 xe:Value→Shared→Prop
noncomputable def frs (l:List Env):List Addr:=l.filterMap (·.frame)
noncomputable abbrev Cx.fs (X:Cx):List Addr:=frs X.outer
noncomputable def Vis (sc:Scope) (x:Str):Prop:=sc.names.lookup x=some .local∨sc.names.lookup x=some .cell∨sc.names.lookup x=some .free
noncomputable def Loc (sc:Scope) (x:Str):Prop:=sc.names.lookup x=some .local∨sc.names.lookup x=some .cell
noncomputable def Look (env:Env) (h:Heap) (m:Str→Option Value) (x:Str) (u:Value):Prop:=
 (env.kindOf x=some .local∧m x=some u)∨((env.kindOf x=some .cell∨env.kindOf x=some .free)∧∃c,env.cells.lookup x=some c∧h.IsCell c (some u))
structure Cx.Ok (X:Cx):Prop where
 mod:Mod X.K X.mg X.base
 kind:X.env.scope.kind = .function
 glob:X.env.globals=mainGlobals
 blt:X.env.builtins=builtinsNs
 above:X.s₀.heap.objs.size≤X.env.locals
 inj:∀x y c,X.env.cells.lookup x=some c→X.env.cells.lookup y=some c→x=y
 has:∀x,(X.env.kindOf x=some .cell∨X.env.kindOf x=some .free)→∃c,X.env.cells.lookup x=some c
 cab:∀x c,X.fn x=true→X.env.cells.lookup x=some c→X.s₀.heap.objs.size≤c
 hd:X.calm=true→X.A.handled=none
 frames:X.A.frames=some X.stack
 stk:X.stack=X.outer∨(X.stack=X.env :: X.outer∧X.env.frame=some X.env.locals)
 exf:∀b∈X.ex,b≠X.env.locals∧∀x c,X.env.cells.lookup x=some c→c≠b
 bs:∀b o,X.base.get? b=some o→X.s₀.heap.get? b=some o∧X.H₀ b=none
 bsz:X.base.objs.size≤X.s₀.heap.objs.size
 noex:∀b o,X.base.get? b=some o→b ∉ X.ex
 exfs:∀b∈X.ex,b ∉ X.fs
 funs:X.s₀.heap.FunFrames X.base X.outer
 frf:∀b∈X.fs,X.H₀ b=none
structure Inv (X:Cx) (pins:List (Addr×Obj)) (σ:List (Option V)) (H:Hp) (s:Shared):Prop where
 ok:X.Ok
 os:s.os=X.s₀.os
 bare:AllBare s.gens
 base:Un X.fs X.ex X.H₀ H X.s₀.heap s.heap
 loc:∃m,s.heap.Ns X.env.locals m∧∀(i:Nat) (x:Str) (v:V),X.N[i]? = some x → σ[i]? = some (some v)→Vis X.env.scope x→∃u,RelV v u∧Look X.env s.heap m x u
 cell:∀x c,X.env.cells.lookup x=some c→∃v,s.heap.IsCell c v
 free:H X.env.locals=none
 freeC:∀x c,X.env.cells.lookup x=some c→H c=none
 pin:∀p∈X.pn++pins,s.heap.get? p.1=some p.2∧H p.1=none∧p.1≠X.env.locals∧p.1 ∉ X.fs∧∀v,p.2.data ≠ .cell v
 hok:HOk X.prog X.w H s.heap
 len : σ.length=X.N.length
section
variable {X:Cx} {pins:List (Addr×Obj)} {σ:List (Option V)} {H H':Hp} {s:Shared} {h':Heap}
theorem Cx.Ok.nofr (ok:X.Ok) {b:Addr} {o:Obj} (e:X.base.get? b=some o):b ∉ X.fs:=fun hb=>by
 have:=(ok.funs.mem hb).1
 rw [e] at this;cases this
theorem Inv.bs (I:Inv X pins σ H s):∀b o,X.base.get? b=some o→s.heap.get? b=some o∧H b=none:=fun b o e=>
 ⟨I.base.keep b o (I.ok.bs b o e).1 (I.ok.bs b o e).2 (I.ok.nofr e) (I.ok.noex b o e),I.base.free b o (I.ok.bs b o e).1 (I.ok.bs b o e).2 (I.ok.noex b o e)⟩
theorem Inv.bk (I:Inv X pins σ H s):∀b o,X.base.get? b=some o→s.heap.get? b=some o:=fun b o e=>(I.bs b o e).1
theorem Inv.mod (I:Inv X pins σ H s):Mod X.K X.mg X.base:=I.ok.mod
theorem Inv.kIn (I:Inv X pins σ H s):X.K.In s.heap:=I.ok.mod.kin.keeps I.bk
theorem Inv.lt (I:Inv X pins σ H s):X.env.locals<s.heap.objs.size:=let ⟨_,hn,_⟩:=I.loc;hn.lt
theorem Inv.sz (I:Inv X pins σ H s):X.s₀.heap.objs.size≤s.heap.objs.size:=Nat.le_trans I.ok.above (Nat.le_of_lt I.lt)
theorem Inv.nofs (I:Inv X pins σ H s) {a:Addr} (h:s.heap.objs.size≤a):a ∉ X.fs:=fun hb=>by
 obtain ⟨_,o,ho,_⟩:=I.ok.funs.mem hb
 exact absurd (Nat.lt_of_lt_of_le (Heap.lt_size ho) (Nat.le_trans I.sz h)) (Nat.lt_irrefl _)
theorem Inv.cne (I:Inv X pins σ H s):∀x c,X.env.cells.lookup x=some c→c≠X.env.locals:=fun x c e z=>by
 obtain ⟨v,o,ho,hd⟩:=I.cell x c e
 obtain ⟨m,⟨o',es,ep,ho',hd',_⟩,_⟩:=I.loc
 rw [z,ho'] at ho;cases ho;rw [hd'] at hd;cases hd
theorem Inv.funs (I:Inv X pins σ H s):s.heap.FunFrames X.base X.outer:=by
 have all:∀(l:List Env),(∀b∈frs l,b∈X.fs)→X.s₀.heap.FunFrames X.base l→s.heap.FunFrames X.base l:=by
  intro l
  induction l with
  | nil=>intro _ _;trivial
  | cons env r ih=>
   intro hs hl
   obtain ⟨hk,⟨L,o,hf,hn,ho,hd⟩,hr⟩:=hl
   have hL:L∈X.fs:=hs L (by unfold frs;rw [List.filterMap_cons,hf];exact List.mem_cons_self)
   obtain ⟨sl,e⟩:=I.base.slot L o ho (I.ok.frf L hL) hL fun z=>I.ok.exfs L z hL
   exact ⟨hk,⟨L,_,hf,hn,e,hd⟩,ih (fun b hb=>hs b (by unfold frs;rw [List.filterMap_cons,hf];exact List.mem_cons_of_mem _ hb)) hr⟩
 exact all X.outer (fun _ hb=>hb) I.ok.funs
theorem Inv.stack (I:Inv X pins σ H s):s.heap.FunFrames X.base X.stack:=by
 rcases I.ok.stk with e|⟨e,hf⟩
 ·rw [e];exact I.funs
 ·rw [e]
  obtain ⟨m,hn,_⟩:=I.loc
  refine .cons (by rw [I.ok.kind];decide) hf hn ?_ I.funs
  exact Heap.get?_none_of_le (Nat.le_trans I.ok.bsz I.ok.above)
theorem Inv.stkSub (I:Inv X pins σ H s):∀b∈frs X.stack,b∈X.env.locals :: X.fs:=fun b hb=>by
 rcases I.ok.stk with e|⟨e,hf⟩
 ·rw [e] at hb;exact List.mem_cons_of_mem _ hb
 ·rw [e] at hb
  unfold frs at hb
  rw [List.filterMap_cons,hf] at hb
  exact hb
theorem Inv.stkFree (I:Inv X pins σ H s):∀b∈frs X.stack,H b=none:=fun b hb=>by
 rcases List.mem_cons.mp (I.stkSub b hb) with e|hb
 ·rw [e];exact I.free
 ·obtain ⟨_,o,ho,_⟩:=I.ok.funs.mem hb
  exact I.base.free b o ho (I.ok.frf b hb) fun z=>I.ok.exfs b z hb
theorem Inv.step {g':Array GenState} {t':Nat} {d':Drawn} {ch:List Addr} (I:Inv X pins σ H s)
  (hch:∀b∈ch,(b∈X.ex∨X.s₀.heap.objs.size≤b)∧b≠X.env.locals∧(∀x c,X.env.cells.lookup x=some c→c≠b)∧∀p∈X.pn++pins,p.1≠b)
  (keep:∀b o,b≠X.env.locals→b ∉ X.fs→b ∉ ch→s.heap.get? b=some o→H b=none→h'.get? b=some o)
  (slot:∀b o,b≠X.env.locals→b∈X.fs→b ∉ ch→s.heap.get? b=some o→H b=none→∃sl,h'.get? b=some { o with slots:=sl }) (free:∀b o,b ∉ ch→s.heap.get? b=some o→H b=none→H' b=none)
  (there:∀b o,b ∉ ch→s.heap.get? b=some o→∃o',h'.get? b=some o')
  (tups:∀b xs,H b=some (.tup xs)→H' b=some (.tup xs)) (frzs:∀b o u,H b=some (.frz o u)→H' b=some (.frz o u)) (tbls:∀b ps,H b=some (.tbl ps)→∃more,H' b=some (.tbl (ps++more)))
  (ns:∀m,s.heap.Ns X.env.locals m→h'.Ns X.env.locals m) (hok:HOk X.prog X.w H' h') (hg:AllBare g') :
  Inv X pins σ H' { s with heap:=h',gens:=g',drawn:=d',toks:=t' }:=by
 have neL:∀b o,X.s₀.heap.get? b=some o→b≠X.env.locals:=fun b o e=>Nat.ne_of_lt (Nat.lt_of_lt_of_le (Heap.lt_size e) I.ok.above)
 have neC:∀b o,X.s₀.heap.get? b=some o→b ∉ X.ex→b ∉ ch:=fun b o e hx hb=>by
  rcases (hch b hb).1 with z|z
  ·exact hx z
  ·exact absurd (Nat.lt_of_lt_of_le (Heap.lt_size e) z) (Nat.lt_irrefl _)
 have cellK:∀x c,X.env.cells.lookup x=some c→∀v,s.heap.IsCell c v→h'.IsCell c v:=fun x c e v ⟨o,ho,hd⟩=>by
  have nch:c ∉ ch:=fun z=>(hch c z).2.2.1 x c e rfl
  by_cases hc:c∈X.fs
  ·obtain ⟨sl,q⟩:=slot c o (I.cne x c e) hc nch ho (I.freeC x c e)
   exact ⟨_,q,hd⟩
  ·exact ⟨o,keep c o (I.cne x c e) hc nch ho (I.freeC x c e),hd⟩
 refine ⟨I.ok,I.os,hg,⟨fun b o e n hb hx => ?_,fun b o e n hb hx => ?_,fun b o e n hx => ?_,fun b o e hx => ?_,fun b xs e=>tups b xs (I.base.tups b xs e),fun b o xs e=>frzs b o xs (I.base.frzs b o xs e),fun b ps e => ?_⟩,?_,fun x c e => ?_,?_,fun x c e => ?_,fun p hp => ?_,hok,I.len⟩
 ·exact keep b o (neL b o e) hb (neC b o e hx) (I.base.keep b o e n hb hx) (I.base.free b o e n hx)
 ·obtain ⟨sl,e1⟩:=I.base.slot b o e n hb hx
  obtain ⟨sl',e2⟩:=slot b _ (neL b o e) hb (neC b o e hx) e1 (I.base.free b o e n hx)
  exact ⟨sl',e2⟩
 ·obtain ⟨o',e1⟩:=I.base.there b o e hx
  exact free b o' (neC b o e hx) e1 (I.base.free b o e n hx)
 ·obtain ⟨o',e1⟩:=I.base.there b o e hx
  exact there b o' (neC b o e hx) e1
 ·obtain ⟨m1,e1⟩:=I.base.tbls b ps e
  obtain ⟨m2,e2⟩:=tbls b _ e1
  exact ⟨m1++m2,by rw [e2,Array.append_assoc]⟩
 ·obtain ⟨m,hn,hl⟩:=I.loc
  refine ⟨m,ns m hn,fun i x v e1 e2 e3 => ?_⟩
  obtain ⟨u,r,l⟩:=hl i x v e1 e2 e3
  refine ⟨u,r,?_⟩
  rcases l with l|⟨k,c,e,z⟩
  ·exact .inl l
  ·exact .inr ⟨k,c,e,cellK x c e _ z⟩
 ·obtain ⟨v,z⟩:=I.cell x c e
  exact ⟨v,cellK x c e v z⟩
 ·obtain ⟨m,⟨o,_,_,ho,_⟩,_⟩:=I.loc
  exact free _ o (fun z=>(hch _ z).2.1 rfl) ho I.free
 ·obtain ⟨v,o,ho,hd⟩:=I.cell x c e
  exact free c o (fun z=>(hch c z).2.2.1 x c e rfl) ho (I.freeC x c e)
 ·obtain ⟨e,n,ne,nf,d⟩:=I.pin p hp
  have nch:p.1 ∉ ch:=fun z=>(hch p.1 z).2.2.2 p hp rfl
  exact ⟨keep p.1 p.2 ne nf nch e n,free p.1 p.2 nch e n,ne,nf,d⟩
theorem Inv.un {t':Nat} (I:Inv X pins σ H s) (u:Un X.fs [] H H' s.heap h') (hok:HOk X.prog X.w H' h'):Inv X pins σ H' { s with heap:=h',toks:=t' }:=by
 obtain ⟨m,⟨o,es,ep,ho,r⟩,_⟩:=id I.loc
 obtain ⟨sl,hL⟩:=u.any ho I.free (by simp)
 exact I.step (g':=s.gens) (d':=s.drawn) (ch:=[]) (fun _ z=>nomatch z) (fun b o _ hb _ e n=>u.keep b o e n hb (by simp)) (fun b o _ hb _ e n=>u.slot b o e n hb (by simp)) (fun b o _ e n=>u.free b o e n (by simp)) (fun b o _ e=>u.there b o e (by simp)) u.tups u.frzs u.tbls (fun m' hm=>by
  obtain ⟨o',es',ep',ho',r'⟩:=hm
  rw [ho] at ho';cases ho'
  exact ⟨_,es',ep',hL,r'⟩) hok I.bare
theorem Inv.call {g':Array GenState} {t':Nat} {d':Drawn} {ch:List Addr} (I:Inv X pins σ H s) (u:Un (frs X.stack) ch H H' s.heap h') (hok:HOk X.prog X.w H' h') (hg:AllBare g')
  (hch:∀b∈ch,(b∈X.ex∨X.s₀.heap.objs.size≤b)∧b≠X.env.locals∧(∀x c,X.env.cells.lookup x=some c→c≠b)∧∀p∈X.pn++pins,p.1≠b) :
  Inv X pins σ H' { s with heap:=h',gens:=g',drawn:=d',toks:=t' }:=by
 obtain ⟨m,⟨o,es,ep,ho,r⟩,_⟩:=id I.loc
 obtain ⟨sl,hL⟩:=u.any ho I.free fun z=>(hch _ z).2.1 rfl
 exact I.step (ch:=ch) hch (fun b o hL hb hc e n=>u.keep b o e n (fun z=>(List.mem_cons.mp (I.stkSub b z)).elim hL hb) hc) (fun b o _ _ hc e n=>u.any e n hc) (fun b o hc e n=>u.free b o e n hc) (fun b o hc e=>u.there b o e hc) u.tups u.frzs u.tbls (fun m' hm=>by
  obtain ⟨o',es',ep',ho',r'⟩:=hm
  rw [ho] at ho';cases ho'
  exact ⟨_,es',ep',hL,r'⟩) hok hg
theorem Inv.turned {t':Nat} {it:Addr} (I:Inv X pins σ H s) (k:∀b o,b≠it→s.heap.get? b=some o→h'.get? b=some o) (hn:H it=none) (hL:it≠X.env.locals)
  (h1:it∈X.ex∨X.s₀.heap.objs.size≤it) (h2:∀x c,X.env.cells.lookup x=some c→c≠it) (h3:∀p∈X.pn++pins,p.1≠it):Inv X pins σ H { s with heap:=h',toks:=t' }:=by
 have nit:∀b u,H b=some u→b≠it:=fun b u e z=>by rw [z,hn] at e;cases e
 refine I.step (g':=s.gens) (d':=s.drawn) (ch:=[it]) (fun b hb => ?_) (fun b o _ _ hc e _=>k b o (fun z=>hc (by simp [z])) e) (fun b o _ _ hc e _=>⟨o.slots,k b o (fun z=>hc (by simp [z])) e⟩) (fun _ _ _ _ n=>n)
  (fun b o hc e=>⟨o,k b o (fun z=>hc (by simp [z])) e⟩) (fun _ _ e=>e) (fun _ _ _ e=>e) (fun b ps e=>⟨#[],by rw [e];simp⟩) (fun m hm => ?_) (fun b u e => ?_) I.bare
 ·have e:b=it:=by simpa using hb
  subst e
  exact ⟨h1,hL,h2,h3⟩
 ·obtain ⟨o,es,ep,ho,r⟩:=hm
  exact ⟨o,es,ep,k _ o (Ne.symm hL) ho,r⟩
 ·refine (I.hok b u e).stay (fun c v hc q=>k c v ?_ q) (fun _ q=>q) fun _ _ q=>q
  rcases hc with z|z
  ·rw [z];exact nit b u e
  ·exact nit c _ z
theorem Inv.tok (I:Inv X pins σ H s) (t:Nat):Inv X pins σ H { s with toks:=t }:=I.un (h':=s.heap) (t':=t) Un.refl I.hok
theorem Inv.kept {t':Nat} (I:Inv X pins σ H s) (k:∀b u,s.heap.get? b=some u→h'.get? b=some u):Inv X pins σ H { s with heap:=h',toks:=t' }:=I.un (Un.kept k) (I.hok.kept k)
theorem Inv.laid {a:Addr} {o:HO} {t':Nat} (I:Inv X pins σ H s) (k:∀b u,s.heap.get? b=some u→h'.get? b=some u) (hp:s.heap.objs.size≤a) (new:ObjOk X.prog X.w (upd H a o) h' a o) :
  Inv X pins σ (upd H a o) { s with heap:=h',toks:=t' }:=I.un (Un.laid k hp (I.hok.fresh hp)) (I.hok.laid k hp new)
theorem Inv.write {x e:Addr} {o:HO} {t':Nat} (I:Inv X pins σ H s) (mu:Mut (H x)) (he:e=x∨H e=some (.own x)) (k:∀b u,b≠e→s.heap.get? b=some u→h'.get? b=some u) (heo:∃u,h'.get? e=some u)
  (new:ObjOk X.prog X.w (upd H x o) h' x o):Inv X pins σ (upd H x o) { s with heap:=h',toks:=t' }:=I.un (Un.write mu he k heo) (I.hok.write mu he k heo new)
theorem Inv.weak {σ':List (Option V)} (I:Inv X pins σ H s) (hl : σ'.length = σ.length) (w:∀(i:Nat) v, σ'[i]? = some (some v) → σ[i]? = some (some v)):Inv X pins σ' H s:=
 ⟨I.ok,I.os,I.bare,I.base,let ⟨m,hn,hl'⟩:=I.loc; ⟨m,hn,fun i x v e1 e2 e3=>hl' i x v e1 (w i v e2) e3⟩,I.cell,I.free,I.freeC,I.pin,I.hok,hl.trans I.len⟩
theorem Inv.pins_of {pins':List (Addr×Obj)} (I:Inv X pins σ H s) (h:∀p∈pins',s.heap.get? p.1=some p.2∧H p.1=none∧p.1≠X.env.locals∧p.1 ∉ X.fs∧∀v,p.2.data ≠ .cell v):Inv X pins' σ H s:=
 ⟨I.ok,I.os,I.bare,I.base,I.loc,I.cell,I.free,I.freeC,fun p hp=>(List.mem_append.mp hp).elim (fun z=>I.pin p (List.mem_append_left _ z)) (h p),I.hok,I.len⟩
theorem nodup_ix {N:List Str} (hN:N.Nodup) {i j:Nat} {x:Str} (a:N[i]? = some x) (b:N[j]? = some x):i=j:=by
 obtain ⟨h1,e1⟩:=List.getElem?_eq_some_iff.mp a
 obtain ⟨h2,e2⟩:=List.getElem?_eq_some_iff.mp b
 exact (List.getElem_inj hN).mp (e1.trans e2.symm)
theorem store_ok2 {M:Model} {A:Around} {E:Value→Shared→Prop} {i:Nat} {x:Str} {v:V} {u:Value} {Q:Unit→Shared→Prop} (I:Inv X pins σ H s) (hN:X.N.Nodup) (hi:X.N[i]? = some x) (hx:Loc X.env.scope x) (r:RelV v u)
  (h:∀s',Inv X pins (σ.set i (some v)) H s'→(∃a,Heap.SameBut a s.heap s'.heap∧(a=X.env.locals∨X.env.cells.lookup x=some a))→Q () s') (hf:X.fn x=true∨X.env.scope.names.lookup x=some .local:=by first|exact .inl rfl|exact .inr rfl|assumption):wpAny M A (storeName X.env x u) Q E s:=by
 obtain ⟨m,hn,hl⟩:=id I.loc
 have hcls:(X.env.scope.kind == .class||(X.env.scope.kind == .module&&X.env.locals != X.env.globals))=false:=by rw [I.ok.kind];rfl
 have hiσ:i < σ.length:=by rw [I.len];exact (List.getElem?_eq_some_iff.mp hi).1
 have cne:=I.cne
 have tracked:∀{a:Addr} {h':Heap},(∃o,s.heap.get? a=some o∧H a=none)→Heap.SameBut a s.heap h'→HOk X.prog X.w H h':=fun {a h'} ha hs b ob e=>by
  obtain ⟨_,_,hfree⟩:=ha
  refine (I.hok b ob e).stay (fun c w' hc q=>(hs.2 c ?_).trans q) (fun _ q=>q) fun _ _ q=>q
  rintro rfl
  rcases hc with rfl|hc
  ·rw [hfree] at e;cases e
  ·rw [hfree] at hc;cases hc
 rcases hx with hk|hk
 ·refine wpAny_storeName_local hk hn (fun h' hn' hs => ?_) hcls
  obtain ⟨oL,_,_,hoL,_⟩:=id hn
  refine h _ ⟨I.ok,I.os,I.bare,⟨fun b o e n hb hx => ?_,fun b o e n hb hx => ?_,I.base.free,fun b o e hx => ?_,I.base.tups,I.base.frzs,I.base.tbls⟩,⟨_,hn',fun j y v' e1 e2 e3 => ?_⟩,fun y c e => ?_,I.free,I.freeC,fun p hp => ?_,tracked ⟨oL,hoL,I.free⟩ hs,by simpa using I.len⟩ ⟨_,hs, .inl rfl⟩
  ·exact (hs.2 b (Nat.ne_of_lt (Nat.lt_of_lt_of_le (Heap.lt_size e) I.ok.above))).trans (I.base.keep b o e n hb hx)
  ·obtain ⟨sl,e1⟩:=I.base.slot b o e n hb hx
   exact ⟨sl,(hs.2 b (Nat.ne_of_lt (Nat.lt_of_lt_of_le (Heap.lt_size e) I.ok.above))).trans e1⟩
  ·obtain ⟨o',e1⟩:=I.base.there b o e hx
   exact ⟨o',(hs.2 b (Nat.ne_of_lt (Nat.lt_of_lt_of_le (Heap.lt_size e) I.ok.above))).trans e1⟩
  ·by_cases hj:j=i
   ·subst hj
    rw [hi] at e1;cases e1
    rw [List.getElem?_set_self hiσ] at e2
    cases e2
    exact ⟨u,r, .inl ⟨hk,by simp⟩⟩
   ·rw [List.getElem?_set_ne (Ne.symm hj)] at e2
    obtain ⟨u',r',q⟩:=hl j y v' e1 e2 e3
    refine ⟨u',r',?_⟩
    rcases q with ⟨k,e⟩|⟨k,c,e,z⟩
    ·refine .inl ⟨k,?_⟩
     have:y≠x:=fun e=>hj (nodup_ix hN e1 (e ▸ hi))
     simp [this,e]
    ·exact .inr ⟨k,c,e,z.sameBut hs (cne y c e)⟩
  ·obtain ⟨w',z⟩:=I.cell y c e
   exact ⟨w',z.sameBut hs (cne y c e)⟩
  ·obtain ⟨e,n,ne,nf,d⟩:=I.pin p hp
   exact ⟨(hs.2 p.1 ne).trans e,n,ne,nf,d⟩
 ·have hfn:X.fn x=true:=by
   rcases hf with z|z
   ·exact z
   ·rw [z] at hk;cases hk
  obtain ⟨c,hc⟩:=I.ok.has x (.inl hk)
  obtain ⟨w',z⟩:=I.cell x c hc
  refine wpAny_storeName_cell I.ok.kind hk hc z (fun h' hc' hs => ?_)
  obtain ⟨oc,hoc,hocd⟩:=id z
  refine h { s with heap:=h' } ⟨I.ok,I.os,I.bare,⟨fun b o e n hb hx => ?_,fun b o e n hb hx => ?_,I.base.free,fun b o e hx => ?_,I.base.tups,I.base.frzs,I.base.tbls⟩,⟨m,hn.sameBut hs (Ne.symm (cne x c hc)),fun j y v' e1 e2 e3 => ?_⟩,fun y c' e => ?_,I.free,I.freeC,fun p hp => ?_,tracked ⟨oc,hoc,I.freeC x c hc⟩ hs,by simpa using I.len⟩ ⟨c,hs, .inr hc⟩
  ·exact (hs.2 b (Nat.ne_of_lt (Nat.lt_of_lt_of_le (Heap.lt_size e) (I.ok.cab x c hfn hc)))).trans (I.base.keep b o e n hb hx)
  ·obtain ⟨sl,e1⟩:=I.base.slot b o e n hb hx
   exact ⟨sl,(hs.2 b (Nat.ne_of_lt (Nat.lt_of_lt_of_le (Heap.lt_size e) (I.ok.cab x c hfn hc)))).trans e1⟩
  ·obtain ⟨o',e1⟩:=I.base.there b o e hx
   exact ⟨o',(hs.2 b (Nat.ne_of_lt (Nat.lt_of_lt_of_le (Heap.lt_size e) (I.ok.cab x c hfn hc)))).trans e1⟩
  ·by_cases hj:j=i
   ·subst hj
    rw [hi] at e1;cases e1
    rw [List.getElem?_set_self hiσ] at e2
    cases e2
    exact ⟨u,r, .inr ⟨.inl hk,c,hc,hc'⟩⟩
   ·rw [List.getElem?_set_ne (Ne.symm hj)] at e2
    obtain ⟨u',r',q⟩:=hl j y v' e1 e2 e3
    refine ⟨u',r',?_⟩
    rcases q with q|⟨k,c',e,z'⟩
    ·exact .inl q
    ·refine .inr ⟨k,c',e,z'.sameBut hs ?_⟩
     rintro rfl
     exact hj (nodup_ix hN e1 (I.ok.inj _ _ _ e hc ▸ hi))
  ·by_cases hcc:c'=c
   ·subst hcc;exact ⟨_,hc'⟩
   ·obtain ⟨w2,z2⟩:=I.cell y c' e
    exact ⟨w2,z2.sameBut hs hcc⟩
  ·obtain ⟨e,n,ne,nf,d⟩:=I.pin p hp
   refine ⟨(hs.2 p.1 ?_).trans e,n,ne,nf,d⟩
   intro q
   rw [q,hoc] at e
   have q':oc=p.2:=Option.some.inj e
   exact d w' (by rw [←q'];exact hocd)
theorem store_ok {M:Model} {A:Around} {E:Value→Shared→Prop} {i:Nat} {x:Str} {v:V} {u:Value} {Q:Unit→Shared→Prop} (I:Inv X pins σ H s) (hN:X.N.Nodup) (hi:X.N[i]? = some x) (hx:Loc X.env.scope x) (r:RelV v u)
  (h:∀s',Inv X pins (σ.set i (some v)) H s'→Q () s') (hf:X.fn x=true∨X.env.scope.names.lookup x=some .local:=by first|exact .inl rfl|exact .inr rfl|assumption):wpAny M A (storeName X.env x u) Q E s:=
 store_ok2 I hN hi hx r (fun s' I' _=>h s' I') hf
theorem Inv.call' {s':Shared} {ch:List Addr} (I:Inv X pins σ H s) (ho:s'.os=s.os) (u:Un (frs X.stack) ch H H' s.heap s'.heap) (hok:HOk X.prog X.w H' s'.heap) (hg:AllBare s'.gens)
  (hch:∀b∈ch,(b∈X.ex∨X.s₀.heap.objs.size≤b)∧b≠X.env.locals∧(∀x c,X.env.cells.lookup x=some c→c≠b)∧∀p∈X.pn++pins,p.1≠b):Inv X pins σ H' s':=by
 obtain ⟨h',g',d',t',o'⟩:=s'
 have e:o'=s.os:=ho
 subst e
 exact I.call (g':=g') (t':=t') (d':=d') u hok hg hch
end
noncomputable abbrev XK:=Value→Option Addr→Hp→Prop
noncomputable abbrev St:=List (Option V)
noncomputable abbrev VK:=V→Hp→Prop
noncomputable abbrev TE:=St→Hp→VK→Prop
noncomputable abbrev TT:=St→Hp→(Bool→Hp→Prop)→Prop
noncomputable abbrev TA:=St→Hp→(List V→Hp→Prop)→Prop
structure Ends where
 nx:St→Hp→Prop
 rt:VK
 bk:St→Hp→Prop:=fun _ _=>False
 ct:St→Hp→Prop:=fun _ _=>False
noncomputable abbrev TS:=Ends→St→Hp→Prop
noncomputable def EP (X:Cx) (pins:List (Addr×Obj)) (σ:St) (Q:VK) (u:Value) (s':Shared):Prop:=Ex2 fun v H'=>Inv X pins σ H' s'∧RelV v u∧Q v H'
noncomputable def TP (X:Cx) (pins:List (Addr×Obj)) (σ:St) (Q:Bool→Hp→Prop) (b:Bool) (s':Shared):Prop:=∃H',Inv X pins σ H' s'∧Q b H'
noncomputable def AP (X:Cx) (pins:List (Addr×Obj)) (σ:St) (Q:List V→Hp→Prop) (us:List Value) (s':Shared):Prop:=Ex2 fun vs H'=>Inv X pins σ H' s'∧Vals vs us∧Q vs H'
noncomputable def SP (X:Cx) (pins:List (Addr×Obj)) (D:Ends) (f:Flow) (s':Shared):Prop:=
 match f with
 | .next=>Ex2 fun σ' H'=>Inv X pins σ' H' s'∧D.nx σ' H'
 | .brk=>Ex2 fun σ' H'=>Inv X pins σ' H' s'∧D.bk σ' H'
 | .cont=>Ex2 fun σ' H'=>Inv X pins σ' H' s'∧D.ct σ' H'
 | .ret u=>Ex3 fun v σ' H'=>Inv X pins σ' H' s'∧RelV v u∧D.rt v H'
noncomputable def PE (X:Cx) (e:Expr) (t:TE):Prop:=
 ∀ ⦃pins:List (Addr×Obj)⦄ (s:Shared) (σ:St) (H:Hp) (Q:VK),Inv X pins σ H s→t σ H Q→wpAny (model X.prog X.w) X.A (eval e X.env) (EP X pins σ Q) X.xe s
noncomputable def PT (X:Cx) (e:Expr) (t:TT):Prop:=
 ∀ ⦃pins:List (Addr×Obj)⦄ (s:Shared) (σ:St) (H:Hp) (Q:Bool→Hp→Prop),Inv X pins σ H s→t σ H Q→wpAny (model X.prog X.w) X.A (isTrue e X.env (eval e X.env)) (TP X pins σ Q) X.xe s
noncomputable def PW (X:Cx) (e:Expr) (t:TT):Prop:=
 ∀ ⦃whole:Sem Value⦄ ⦃pins:List (Addr×Obj)⦄ (s:Shared) (σ:St) (H:Hp) (Q:Bool→Hp→Prop),Inv X pins σ H s→t σ H Q→wpAny (model X.prog X.w) X.A (isTrue e X.env whole) (TP X pins σ Q) X.xe s
theorem PW.pt {X:Cx} {e:Expr} {t:TT} (h:PW X e t):PT X e t:=fun pins s σ H Q I q=>h s σ H Q I q
noncomputable def PA (X:Cx) (es:List Expr) (t:TA):Prop:=
 ∀ ⦃pos:Pos⦄ ⦃pins:List (Addr×Obj)⦄ (s:Shared) (σ:St) (H:Hp) (Q:List V→Hp→Prop),Inv X pins σ H s→t σ H Q→wpAny (model X.prog X.w) X.A (spliced (backTo pos (starEach es X.env))) (AP X pins σ Q) X.xe s
noncomputable def PS (X:Cx) (st:Stmt) (t:TS):Prop:=
 ∀ ⦃pins:List (Addr×Obj)⦄ (s:Shared) (σ:St) (H:Hp) (D:Ends),Inv X pins σ H s→t D σ H→wpAny (model X.prog X.w) X.A (exec st X.env) (SP X pins D) X.xe s
noncomputable def PSs (X:Cx) (st:List Stmt) (t:TS):Prop:=
 ∀ ⦃pins:List (Addr×Obj)⦄ (s:Shared) (σ:St) (H:Hp) (D:Ends),Inv X pins σ H s→t D σ H→wpAny (model X.prog X.w) X.A (execs st X.env) (SP X pins D) X.xe s
theorem thn {α:Type} {t:Sem α} {Q Q' : α→Shared→Prop} {M:Model} {A:Around} {E:Value→Shared→Prop} {s:Shared} (h:wpAny M A t Q E s) (hQ:∀a s,Q a s→Q' a s):wpAny M A t Q' E s:=wpAny_mono h hQ fun _ _ x=>x
end L2
namespace L2
open PySem PySem.Spec PyProof.Rows
section
variable {X:Cx}
noncomputable def tVar (i:Nat):TE:=fun σ H Q=>∃v, σ[i]? = some (some v)∧Q v H
noncomputable def tC (v:V):TE:=fun _ H Q=>Q v H
theorem pe_var {i:Nat} {x:Str} {pos:Pos} (hN:X.N[i]? = some x) (hv:Vis X.env.scope x) (hd:(x == ("__debug__" : Str))=false:=by decide) (hcd:(x == ("__classdict__" : Str))=false:=by decide):PE X (.Name x pos) (tVar i):=by
 intro pins s σ H Q I h
 obtain ⟨v,e,h⟩:=h
 obtain ⟨m,hn,hl⟩:=I.loc
 obtain ⟨u,r,l⟩:=hl i x v hN e hv
 have fin:EP X pins σ Q u s:=⟨v,H,I,r,h⟩
 rcases l with ⟨hk,hm⟩|⟨hk,c,hc,hcell⟩
 ·exact wpAny_Name (wpAny_loadName_local I.ok.kind hk hn hm fin) hd
 ·rcases hk with hk|hk
  ·exact wpAny_Name (wpAny_loadName_cell I.ok.kind hk hc hcell fin) hd
  ·exact wpAny_Name (wpAny_loadName_free I.ok.kind hk hc hcell fin hcd) hd
theorem pe_int {i j pos} : PE X (.Constant (.int i) j pos) (tC (.int i)):=fun _ _ _ H _ I h=>wpAny_Constant_int ⟨.int i,H,I.tok _,⟨_,rfl⟩,h⟩
theorem pe_bl {b j pos} : PE X (.Constant (.bool b) j pos) (tC (.bl b)):=fun _ _ _ H _ I h=>Constant_bool ⟨.bl b,H,I,rfl,h⟩
theorem pe_non {j pos} : PE X (.Constant .none j pos) (tC .non):=fun _ _ _ H _ I h=>Constant_none ⟨.non,H,I,rfl,h⟩
theorem pe_str {x j pos} : PE X (.Constant (.str x) j pos) (tC (.str x)):=fun _ _ _ H _ I h=>Calls.Constant_str ⟨.str x,H,I.tok _,⟨_,rfl⟩,h⟩
noncomputable def Gl (X:Cx) (x:Str):Prop:=X.env.kindOf x=some .globalImplicit
theorem ld_glob {E:Value→Shared→Prop} {pins:List (Addr×Obj)} {s:Shared} {σ:St} {H:Hp} {x:Str} {u:Value} {pos:Pos} {Q:Value→Shared→Prop} (I:Inv X pins σ H s) (hg:Gl X x) (hm:X.mg x=some u) (h:Q u s)
  (hd:(x == ("__debug__" : Str))=false:=by decide):wpAny (model X.prog X.w) X.A (eval (.Name x pos) X.env) Q E s:=
 Calls.Name_function_global I.ok.kind hg (Calls.loadGlobal_global (by rw [I.ok.glob];exact I.mod.glob.keeps I.bk) hm h) hd
theorem ld_blt {E:Value→Shared→Prop} {pins:List (Addr×Obj)} {s:Shared} {σ:St} {H:Hp} {x:Str} {u:Value} {pos:Pos} {Q:Value→Shared→Prop} (I:Inv X pins σ H s) (hg:Gl X x) (hm:X.mg x=none) (hv:bootBuiltins x=some u) (h:Q u s)
  (hn:x ≠ "__name__":=by decide) (hd:(x == ("__debug__" : Str))=false:=by decide):wpAny (model X.prog X.w) X.A (eval (.Name x pos) X.env) Q E s:=by
 obtain ⟨mb,h1,h2⟩:=I.mod.blt
 exact Calls.Name_function_global I.ok.kind hg (Calls.loadGlobal_builtin (by rw [I.ok.glob];exact I.mod.glob.keeps I.bk) hm (by rw [I.ok.blt];exact h1.keeps I.bk) ((h2 x hn).trans hv) h) hd
theorem pe_glob {x:Str} {v:V} {u:Value} {pos:Pos} (hg:Gl X x) (hm:X.mg x=some u) (r:RelV v u) (hd:(x == ("__debug__" : Str))=false:=by decide):PE X (.Name x pos) (tC v):=
 fun _ _ _ H _ I h=>ld_glob I hg hm ⟨v,H,I,r,h⟩ hd
theorem pe_bltn {x:Str} {v:V} {u:Value} {pos:Pos} (hg:Gl X x) (hm:X.mg x=none) (hv:bootBuiltins x=some u) (r:RelV v u) (hn:x ≠ "__name__":=by decide) (hd:(x == ("__debug__" : Str))=false:=by decide):PE X (.Name x pos) (tC v):=
 fun _ _ _ H _ I h=>ld_blt I hg hm hv ⟨v,H,I,r,h⟩ hn hd
variable {a b:Expr} {ta tb:TE} {pos:Pos}
noncomputable def PC (X:Cx) (op:CmpOp) (a b:Expr) (t:TE):Prop:=
 ∀ ⦃pins:List (Addr×Obj)⦄ (s:Shared) (σ:St) (H:Hp) (Q:VK),Inv X pins σ H s→t σ H Q →
  wpAny (model X.prog X.w) X.A (eval a X.env) (fun v s₁=>wpAny (model X.prog X.w) X.A (eval b X.env) (fun u s₂=>wpAny (model X.prog X.w) X.A (compareOp op v u) (EP X pins σ Q) X.xe s₂) X.xe s₁) X.xe s
noncomputable def tB (t:TE):TT:=fun σ H Q=>t σ H fun x H1=>∃c,x = .bl c∧Q c H1
theorem pe_cmp {op:CmpOp} {t:TE} (h:PC X op a b t) (h1:behindInMarks op b=false:=by first|exact nobehind _ (by decide) (by decide)|rfl):PE X (.Compare a [op] [b] pos) t:=fun pins s σ H Q I hw=>wpAny_Compare1 (h s σ H Q I hw) h1
theorem pt_cmp {op:CmpOp} {t:TE} (h:PC X op a b t) (h1:behindInMarks op b=false:=by first|exact nobehind _ (by decide) (by decide)|rfl):PT X (.Compare a [op] [b] pos) (tB t):=by
 intro pins s σ H Q I hw
 refine wpAny_isTrue_Compare1 (thn (h s σ H _ I hw) fun v s1 h1=>thn h1 fun u s2 h2=>thn h2 fun c s3 ⟨x,H1,I1,r1,q1⟩ => ?_) h1
 obtain ⟨d,rfl,q⟩:=q1
 cases r1
 exact wpAny_truthy_bool ⟨H1,I1,q⟩
theorem pt_val {e:Expr} {t:TE} (h:PE X e t) (he:∀whole,isTrue e X.env whole=(do let v ←whole;standAt e.pos;holding [v] (truthy v)):=by intro _;rfl):PT X e (tB t):=by
 intro pins s σ H Q I hw
 refine isTrue_plain (thn (h s σ H _ I hw) fun v s1 ⟨x,H1,I1,r1,q1⟩ => ?_) (he _)
 obtain ⟨d,rfl,q⟩:=q1
 cases r1
 exact wpAny_truthy_bool ⟨H1,I1,q⟩
variable {tA tB':TT} {rest:List Expr}
noncomputable def tAnd (t u:TT):TT:=fun σ H Q=>t σ H fun c H1=>if c=true then u σ H1 Q else Q false H1
noncomputable def tOr (t u:TT):TT:=fun σ H Q=>t σ H fun c H1=>if c=true then Q true H1 else u σ H1 Q
noncomputable def tNot (t:TT):TT:=fun σ H Q=>t σ H fun c H1=>Q (!c) H1
theorem pw_and1 (ha:PT X a tA):PW X (.BoolOp .And [a] pos) tA:=by
 intro wh pins s σ H Q I h
 refine isTrue_and (thn (ha s σ H Q I h) fun c s1 e => ?_)
 cases c with
 | true=>exact isTrue_and_nil e
 | false=>exact e
theorem pw_or1 (ha:PT X a tA):PW X (.BoolOp .Or [a] pos) tA:=by
 intro wh pins s σ H Q I h
 refine isTrue_or (thn (ha s σ H Q I h) fun c s1 e => ?_)
 cases c with
 | false=>exact isTrue_or_nil e
 | true=>exact e
theorem pw_and (ha:PT X a tA) (hb:PW X (.BoolOp .And (b :: rest) pos) tB'):PW X (.BoolOp .And (a :: b :: rest) pos) (tAnd tA tB'):=by
 intro wh pins s σ H Q I h
 refine isTrue_and (thn (ha s σ H _ I h) fun c s1 ⟨H1,I1,q1⟩ => ?_)
 cases c with
 | true=>exact hb s1 σ H1 Q I1 q1
 | false=>exact ⟨H1,I1,q1⟩
theorem pw_or (ha:PT X a tA) (hb:PW X (.BoolOp .Or (b :: rest) pos) tB'):PW X (.BoolOp .Or (a :: b :: rest) pos) (tOr tA tB'):=by
 intro wh pins s σ H Q I h
 refine isTrue_or (thn (ha s σ H _ I h) fun c s1 ⟨H1,I1,q1⟩ => ?_)
 cases c with
 | true=>exact ⟨H1,I1,q1⟩
 | false=>exact hb s1 σ H1 Q I1 q1
theorem pt_not (ha:PT X a tA):PT X (.UnaryOp .Not a pos) (tNot tA):=by
 intro pins s σ H Q I h
 exact isTrue_not (ha s σ H (fun c H1=>Q (!c) H1) I h)
noncomputable def tAndV (ta tb:TE):TE:=fun σ H Q=>ta σ H fun x H1=>∃c,x = .bl c∧if c=true then tb σ H1 Q else Q (.bl false) H1
theorem pe_one {op} {t:TE} (h:PE X a t):PE X (.BoolOp op [a] pos) t:=fun pins s σ H Q I hw=>BoolOp_one (h s σ H Q I hw)
theorem pe_and (ha:PE X a ta) (hb:PE X (.BoolOp .And (b :: rest) pos) tb):PE X (.BoolOp .And (a :: b :: rest) pos) (tAndV ta tb):=by
 intro pins s σ H Q I h
 refine BoolOp_and (thn (ha s σ H _ I h) fun v s1 ⟨x,H1,I1,r1,q1⟩ => ?_)
 obtain ⟨c,rfl,q1⟩:=q1
 cases r1
 refine wpAny_truthy_bool ?_
 cases c with
 | true=>exact hb s1 σ H1 Q I1 q1
 | false=>exact ⟨.bl false,H1,I1,rfl,q1⟩
noncomputable def tIf (t:TT) (ta tb:TE):TE:=fun σ H Q=>t σ H fun c H1=>if c=true then ta σ H1 Q else tb σ H1 Q
theorem pe_ifExp {c:Expr} (hc:PT X c tA) (ha:PE X a ta) (hb:PE X b tb):PE X (.IfExp c a b pos) (tIf tA ta tb):=by
 intro pins s σ H Q I h
 refine wpAny_IfExp (thn (hc s σ H _ I h) fun d s1 ⟨H1,I1,q1⟩ => ?_)
 cases d with
 | true=>exact ha s1 σ H1 Q I1 q1
 | false=>exact hb s1 σ H1 Q I1 q1
end
end L2
namespace L2
open PySem PySem.Spec PyProof.Rows
noncomputable def SqL (K:PySem.W.Frag) (H:Hp) (a:Addr) (xs:List V):Prop:=
 Rd H a (.lst xs) ∨
  Ex3 fun (o:Obj) (its:Array Value) (n:Nat)=>K.lookup a=some o∧o.cls = .type "list" ∧ o.dict=none∧o.data = .seq its n∧its.size≤sizeLine∧Vals xs its.toList
noncomputable def SqT (K:PySem.W.Frag) (H:Hp) (a:Addr) (xs:List V):Prop:=
 Rd H a (.tup xs) ∨
  Ex3 fun (o:Obj) (its:Array Value) (n:Nat)=>K.lookup a=some o∧o.cls = .type "tuple" ∧ o.data = .seq its n∧its.size≤sizeLine∧Vals xs its.toList
noncomputable def absV:Value→Option V
 | .none=>some .non
 | .bool b=>some (.bl b)
 | .int i _=>some (.int i)
 | .str x _=>some (.str x)
 | .bytes b _=>some (.byt b)
 | .float b _=>some (.flt b)
 | .ref a=>some (.ref a)
 | .type n=>some (.ty n)
 | _=>none
theorem RelV.abs {x:V} {u:Value} (r:RelV x u):absV u=some x:=by
 cases x with
 | non=>cases r;rfl
 | bl _=>cases r;rfl
 | int _=>obtain ⟨t,rfl⟩:=r;rfl
 | str _=>obtain ⟨t,rfl⟩:=r;rfl
 | byt _=>obtain ⟨t,rfl⟩:=r;rfl
 | flt _=>obtain ⟨t,rfl⟩:=r;rfl
 | ref _=>cases r;rfl
 | ty _=>cases r;rfl
theorem RelV.inj {x y:V} {u:Value} (r:RelV x u) (q:RelV y u):x=y:=Option.some.inj (r.abs.symm.trans q.abs)
theorem Vals.inj {xs ys:List V} {us:List Value} (h:Vals xs us) (h':Vals ys us):xs=ys:=by
 induction h generalizing ys with
 | nil=>cases h';rfl
 | cons r t ih=>cases h' with|cons r' t'=>rw [RelV.inj r r',ih t']
section
variable {X:Cx} {pins:List (Addr×Obj)} {σ:St} {H:Hp} {s:Shared} {a:Addr} {xs ys:List V}
theorem SqL.of {K:PySem.W.Frag} (h:H a=some (.lst xs)):SqL K H a xs := .inl (.inl h)
theorem SqT.of {K:PySem.W.Frag} (h:H a=some (.tup xs)):SqT K H a xs := .inl (.inl h)
theorem Inv.list (I:Inv X pins σ H s) (h:SqL X.K H a xs):∃its:List Value,Vals xs its∧PlainL s.heap a its.toArray∧xs.length≤sizeLine:=by
 rcases h with h|⟨o,its,n,hk,hc,hd,hs,hz,r⟩
 ·obtain ⟨z,its,n,r,e⟩:=h.ok I.hok
  exact ⟨its,r,⟨_,n,e,rfl,rfl,rfl⟩,z⟩
 ·refine ⟨its.toList,r,⟨o,n,I.kIn a o hk,hc,hd,by simpa using hs⟩,?_⟩
  have e:=r.length
  simp only [Array.length_toList] at e
  (first|lia|omega)
theorem Inv.tuple (I:Inv X pins σ H s) (h:SqT X.K H a xs):∃its:List Value,Vals xs its∧IsTup s.heap a its.toArray∧xs.length≤sizeLine:=by
 rcases h with h|⟨o,its,n,hk,hc,hs,hz,r⟩
 ·obtain ⟨z,its,r,p⟩:=h.ok I.hok
  exact ⟨its,r,p,z⟩
 ·refine ⟨its.toList,r,⟨o,I.kIn a o hk,hc,n,by simpa using hs⟩,?_⟩
  have e:=r.length
  simp only [Array.length_toList] at e
  (first|lia|omega)
theorem Inv.list_inj (I:Inv X pins σ H s) (h:SqL X.K H a xs) (h':SqL X.K H a ys):xs=ys:=by
 obtain ⟨its,r,⟨o,n,e,_,_,d⟩,_⟩:=I.list h
 obtain ⟨its',r',⟨o',n',e',_,_,d'⟩,_⟩:=I.list h'
 rw [e] at e';cases e'
 rw [d] at d'
 injection d' with d1 _
 have:its=its':=by simpa using congrArg Array.toList d1
 subst this
 exact r.inj r'
end
noncomputable abbrev Cx.wish (X:Cx) (E:Value→Shared→Prop):Cx:={ X with xe:=E }
noncomputable abbrev Cx.nox (X:Cx):Cx:=X.wish fun _ _=>False
theorem Cx.Ok.wish {X:Cx} (ok:X.Ok) (E:Value→Shared→Prop):(X.wish E).Ok:=
 ⟨ok.mod,ok.kind,ok.glob,ok.blt,ok.above,ok.inj,ok.has,ok.cab,ok.hd,ok.frames,ok.stk,ok.exf,ok.bs,ok.bsz,ok.noex,ok.exfs,ok.funs,ok.frf⟩
theorem Cx.Ok.unwish {X:Cx} {E:Value→Shared→Prop} (ok:(X.wish E).Ok):X.Ok:=
 ⟨ok.mod,ok.kind,ok.glob,ok.blt,ok.above,ok.inj,ok.has,ok.cab,ok.hd,ok.frames,ok.stk,ok.exf,ok.bs,ok.bsz,ok.noex,ok.exfs,ok.funs,ok.frf⟩
section
variable {X:Cx} {pins:List (Addr×Obj)} {σ:St} {H:Hp} {s:Shared} {E:Value→Shared→Prop}
theorem Inv.wish (I:Inv X pins σ H s) (E:Value→Shared→Prop):Inv (X.wish E) pins σ H s:=⟨I.ok.wish E,I.os,I.bare,I.base,I.loc,I.cell,I.free,I.freeC,I.pin,I.hok,I.len⟩
theorem Inv.unwish (I:Inv (X.wish E) pins σ H s):Inv X pins σ H s:=⟨I.ok.unwish,I.os,I.bare,I.base,I.loc,I.cell,I.free,I.freeC,I.pin,I.hok,I.len⟩
theorem SP.unwish {D:Ends} {f:Flow} {s':Shared} (h:SP (X.wish E) pins D f s'):SP X pins D f s':=by
 cases f with
 | next=>obtain ⟨σ',H',I,q⟩:=h;exact ⟨σ',H',I.unwish,q⟩
 | brk=>obtain ⟨σ',H',I,q⟩:=h;exact ⟨σ',H',I.unwish,q⟩
 | cont=>obtain ⟨σ',H',I,q⟩:=h;exact ⟨σ',H',I.unwish,q⟩
 | ret u=>obtain ⟨v, σ',H',I,r,q⟩:=h;exact ⟨v, σ',H',I.unwish,r,q⟩
theorem PSs.nox {st:List Stmt} {t:TS} (h:PSs X.nox st t):PSs X st t:=fun pins s σ H D I hw=>
 wpAny_mono (h s σ H D (I.wish _) hw) (fun _ _ q=>q.unwish) fun _ _ z=>False.elim z
end
section
variable {X:Cx} {st:Stmt} {rest:List Stmt} {t u:TS} {e:Expr} {te:TE} {pos:Pos}
noncomputable def tNext:TS:=fun D σ H=>D.nx σ H
noncomputable def tSeq (t u:TS):TS:=fun D σ H=>t { D with nx:=u D } σ H
theorem pss_nil:PSs X [] tNext:=fun _ _ σ H _ I h=>wpAny_execs_nil ⟨σ,H,I,h⟩
theorem pss_cons (h1:PS X st t) (h2:PSs X rest u):PSs X (st :: rest) (tSeq t u):=by
 intro pins s σ H D I h
 refine wpAny_execs_cons (thn (h1 s σ H { D with nx:=u D } I h) fun f s1 q => ?_)
 cases f with
 | next=>
  obtain ⟨σ',H',I',q⟩:=q
  exact h2 s1 σ' H' D I' q
 | ret v=>exact q
 | brk=>exact q
 | cont=>exact q
theorem pss_one (h1:PS X st t):PSs X [st] t:=by
 intro pins s σ H D I h
 refine wpAny_execs_cons (thn (h1 s σ H D I h) fun f s1 q => ?_)
 cases f with
 | next=>exact wpAny_execs_nil q
 | ret v=>exact q
 | brk=>exact q
 | cont=>exact q
theorem Inv.quiet {pins:List (Addr×Obj)} {σ:St} {H:Hp} {s:Shared} (I:Inv X pins σ H s):interactive X.env=false:=by simp [interactive,I.ok.kind]
noncomputable def tDrop (te:TE):TS:=fun D σ H=>te σ H fun _ H1=>D.nx σ H1
theorem ps_expr (he:PE X e te) (hs:swapsWith e none pos.line X.env=pure false:=by rfl):PS X (.Expr e pos) (tDrop te):=by
 intro pins s σ H D I h
 exact wpAny_Expr_any (thn (he s σ H _ I h) fun v s1 ⟨x,H1,I1,r1,q1⟩=>⟨σ,H1,I1,q1⟩) I.quiet hs
noncomputable def tRet (te:TE):TS:=fun D σ H=>te σ H D.rt
theorem ps_ret (he:PE X e te):PS X (.Return (some e) pos) (tRet te):=by
 intro pins s σ H D I h
 exact wpAny_Return_some (thn (he s σ H _ I h) fun v s1 ⟨x,H1,I1,r1,q1⟩=>⟨x, σ,H1,I1,r1,q1⟩)
noncomputable def tIfS (c:TT) (t u:TS):TS:=fun D σ H=>c σ H fun b H1=>if b=true then t D σ H1 else u D σ H1
theorem ps_if {c:Expr} {a b:List Stmt} {tc:TT} (hc:PT X c tc) (ha:PSs X a t) (hb:PSs X b u):PS X (.If c a b pos) (tIfS tc t u):=by
 intro pins s σ H D I h
 refine wpAny_If (thn (hc s σ H _ I h) fun d s1 ⟨H1,I1,q1⟩ => ?_)
 cases d with
 | true=>exact ha s1 σ H1 D I1 q1
 | false=>exact hb s1 σ H1 D I1 q1
end
noncomputable abbrev TG:=V→St→Hp→(St→Hp→Prop)→Prop
noncomputable abbrev TGs:=List V→St→Hp→(St→Hp→Prop)→Prop
noncomputable def PG (X:Cx) (target:Expr) (t:TG):Prop:=
 ∀ ⦃pins:List (Addr×Obj)⦄ (s:Shared) (σ:St) (H:Hp) (v:V) (u:Value) (Q:St→Hp→Prop),Inv X pins σ H s→RelV v u→t v σ H Q →
  wpAny (model X.prog X.w) X.A (assign target X.env u) (fun _ s'=>Ex2 fun σ' H'=>Inv X pins σ' H' s'∧Q σ' H') X.xe s
noncomputable def PGs (X:Cx) (ts:List Expr) (t:TGs):Prop:=
 ∀ ⦃pins:List (Addr×Obj)⦄ (s:Shared) (σ:St) (H:Hp) (vs:List V) (us:List Value) (Q:St→Hp→Prop),Inv X pins σ H s→Vals vs us→t vs σ H Q →
  wpAny (model X.prog X.w) X.A (assignInOrder ((assignEach ts X.env).map (·.2)) us) (fun _ s'=>Ex2 fun σ' H'=>Inv X pins σ' H' s'∧Q σ' H') X.xe s
noncomputable abbrev TSet:=V→V→V→Hp→(Hp→Prop)→Prop
noncomputable def PSet (X:Cx) (t:TSet):Prop:=
 ∀ ⦃pins:List (Addr×Obj)⦄ (s:Shared) (σ:St) (H:Hp) (o i v:V) (ov iv u:Value) (Q:Hp→Prop),Inv X pins σ H s→RelV o ov→RelV i iv→RelV v u→t o i v H Q →
  wpAny (model X.prog X.w) X.A (setItem ov iv u) (fun _ s'=>∃H',Inv X pins σ H' s'∧Q H') X.xe s
section
variable {X:Cx} {pos:Pos}
noncomputable def gName (i:Nat):TG:=fun v σ H Q=>Q (σ.set i (some v)) H
theorem pg_name {i:Nat} {x:Str} (hN:X.N.Nodup) (hi:X.N[i]? = some x) (hx:Loc X.env.scope x) (hf:X.fn x=true∨X.env.scope.names.lookup x=some .local:=by first|exact .inl rfl|exact .inr rfl|assumption):PG X (.Name x pos) (gName i):=by
 intro pins s σ H v u Q I r h
 exact wpAny_assign_Name (store_ok I hN hi hx r (fun s' I'=>⟨_,H,I',h⟩) hf)
noncomputable def gNil:TGs:=fun vs σ H Q=>vs=[]∧Q σ H
noncomputable def gCons (t:TG) (u:TGs):TGs:=fun vs σ H Q=>Ex2 fun v r=>vs=v :: r∧t v σ H fun σ' H'=>u r σ' H' Q
theorem pgs_nil:PGs X [] gNil:=by
 intro pins s σ H vs us Q I r h
 obtain ⟨e,h⟩:=h
 subst e
 cases r
 exact assignInOrder_nil ⟨σ,H,I,h⟩
theorem pgs_cons {e:Expr} {es:List Expr} {t:TG} {u:TGs} (h1:PG X e t) (h2:PGs X es u)
  (hs:(assignEach (e :: es) X.env).map (·.2)=assign e X.env :: (assignEach es X.env).map (·.2):=by rfl):PGs X (e :: es) (gCons t u):=by
 intro pins s σ H vs us Q I r h
 obtain ⟨v,vr,e1,h⟩:=h
 subst e1
 cases r with
 | cons r rr=>
  rw [hs]
  refine assignInOrder_cons (thn (h1 s σ H _ _ _ I r h) fun _ s1 ⟨σ1,H1,I1,q1⟩ => ?_)
  exact h2 s1 σ1 H1 _ _ Q I1 rr q1
noncomputable def gTup (K:PySem.W.Frag) (n:Nat) (t:TGs):TG:=fun v σ H Q=>Ex2 fun a xs=>v = .ref a∧SqT K H a xs∧xs.length=n∧t xs σ H Q
theorem pg_tup {es:List Expr} {k:Nat} {t:TGs} {n:Nat} (hc:X.calm=true) (h:PGs X es t)
  (hn:(assignEach es X.env).length=n:=by rfl) (hst:(assignEach es X.env).findIdx? (·.1)=none:=by rfl):PG X (.Tuple es k pos) (gTup X.K n t):=by
 intro pins s σ H v u Q I r hw
 obtain ⟨a,xs,e1,hq,hl,hw⟩:=hw
 subst e1
 cases r
 obtain ⟨its,rv,ht,hz⟩:=I.tuple hq
 refine assign_Tuple_tuple (I.ok.hd hc) ht (by simp [hn, ←hl,rv.length]) hst fun h' hx => ?_
 have I1:Inv X pins σ H { s with heap:=h' }:=I.kept (t':=s.toks) fun b o e=>hx b o (Nat.ne_of_lt (Heap.lt_size e)) e
 exact h _ σ H xs _ Q I1 (by simpa using rv) hw
noncomputable def gSub (to ti:TE) (t:TSet):TG:=fun v σ H Q=>to σ H fun o H1=>ti σ H1 fun i H2=>t o i v H2 fun H3=>Q σ H3
theorem pg_sub {o i:Expr} {to ti:TE} {t:TSet} (ho:PE X o to) (hi:PE X i ti) (hs:PSet X t)
  (ha:∀v,assign (.Subscript o i pos) X.env v=(do
   let ov ←holding [v] (eval o X.env)
   let iv ←holding [v,ov] (eval i X.env)
   standAt pos
   holding [v,ov,iv] (setItem ov iv v)
   release [v,ov,iv] []):=by intro _;rfl):PG X (.Subscript o i pos) (gSub to ti t):=by
 intro pins s σ H v u Q I r h
 rw [ha]
 refine wpAny_bind (wpAny_holding (thn (ho s σ H _ I h) fun ov s1 ⟨x,H1,I1,r1,q1⟩ => ?_))
 refine wpAny_bind (wpAny_holding (thn (hi s1 σ H1 _ I1 q1) fun iv s2 ⟨y,H2,I2,r2,q2⟩ => ?_))
 refine wpAny_bind (wpAny_standAt (wpAny_bind (wpAny_holding (thn (hs s2 σ H2 x y v ov iv u _ I2 r1 r2 r q2) fun _ s3 ⟨H3,I3,q3⟩ => ?_))))
 exact wpAny_release ⟨σ,H3,I3,q3⟩
noncomputable def tAsg (te:TE) (g:TG):TS:=fun D σ H=>te σ H fun x H1=>g x σ H1 D.nx
theorem ps_asg {tg e:Expr} {te:TE} {g:TG} (he:PE X e te) (hg:PG X tg g) (hs:swapsWithSole [tg] e pos.line X.env=pure false:=by rfl) (hw:swappedStores [tg] e X.env=pure none:=by rfl)
  (h1:(assignEach [tg] X.env).map (·.2)=[assign tg X.env]:=by rfl):PS X (.Assign [tg] e pos) (tAsg te g):=by
 intro pins s σ H D I h
 refine wpAny_Assign_stores (thn (he s σ H _ I h) fun v s1 ⟨x,H1,I1,r1,q1⟩ => ?_) hs hw
 rw [h1]
 exact thn (hg s1 σ H1 x v _ I1 r1 q1) fun _ s2 q=>q
theorem ps_set {i:Nat} {x:Str} {e:Expr} {te:TE} {pos':Pos} (hN:X.N.Nodup) (hi:X.N[i]? = some x) (hx:Loc X.env.scope x) (he:PE X e te) (hs:swapsWith e (some (.Name x pos')) pos.line X.env=pure false:=by rfl) (hf:X.fn x=true∨X.env.scope.names.lookup x=some .local:=by first|exact .inl rfl|exact .inr rfl|assumption) :
  PS X (.Assign [.Name x pos'] e pos) (tAsg te (gName i)):=by
 intro pins s σ H D I h
 refine wpAny_Assign_Name (thn (he s σ H _ I h) fun v s1 ⟨y,H1,I1,r1,q1⟩ => ?_) hs
 exact store_ok I1 hN hi hx r1 (fun s2 I2=>⟨_,H1,I2,q1⟩) hf
noncomputable def tPar (i j:Nat) (ta:TA):TS:=fun D σ H=>ta σ H fun vs H1=>Ex2 fun v w=>vs=[v,w]∧D.nx ((σ.set i (some v)).set j (some w)) H1
theorem ps_par {i j:Nat} {x y:Str} {a b:Expr} {ta:TA} {px py pt:Pos} {kt k2 pt2} (hc:X.calm=true) (hN:X.N.Nodup) (hi:X.N[i]? = some x) (hj:X.N[j]? = some y) (hij:i≠j)
  (hx:X.env.scope.names.lookup x=some .local) (hy:X.env.scope.names.lookup y=some .local) (ha:PA X [a,b] ta)
  (hw:swappedStores [.Tuple [.Name x px, .Name y py] kt pt] (.Tuple [a,b] k2 pt2) X.env=pure (some [x,y]))
  (hs:swapsWithSole [.Tuple [.Name x px, .Name y py] kt pt] (.Tuple [a,b] k2 pt2) pos.line X.env=pure false:=by rfl) :
  PS X (.Assign [.Tuple [.Name x px, .Name y py] kt pt] (.Tuple [a,b] k2 pt2) pos) (tPar i j ta):=by
 intro pins s σ H D I h
 rw [exec_Assign_arm]
 refine wpAny_bind (wpAny_standAt ?_)
 rw [hs]
 refine wpAny_bind (wpAny_pure ?_)
 rw [if_neg (by decide)]
 refine wpAny_bind (Tuple_ (thn (ha s σ H _ I h) fun us s1 ⟨vs,H1,I1,r1,q1⟩ => ?_))
 obtain ⟨v,w,e1,q1⟩:=q1
 subst e1
 obtain ⟨u1,u2,rfl,rv,rw'⟩:∃u1 u2,us=[u1,u2]∧RelV v u1∧RelV w u2:=by
  cases r1 with
  | cons p q=>
   cases q with
   | cons p' q'=>
    cases q'
    exact ⟨_,_,rfl,p,p'⟩
 refine wpAny_newObj_type ?_ (by show 2≤sizeLine;decide)
 have I2:Inv X pins σ H1 { s1 with heap:=s1.heap.push { cls := .type "tuple",data := .seq [u1,u2].toArray } }:=I1.kept (t':=s1.toks) fun b o e=>Heap.get?_push_of_some _ e
 rw [hw]
 refine wpAny_bind (wpAny_pure ?_)
 show wpAny (model X.prog X.w) X.A (do rule "assign.swapped-stores";let items ←unpackItems (.ref s1.heap.objs.size) 2 none;assignInOrder [fun v=>bindName X.env y v,fun v=>bindName X.env x v] items.reverse;pure Flow.next) _ _ _
 refine wpAny_bind (wpAny_rule (wpAny_bind (unpackItems_tuple (items := #[u1,u2]) (I.ok.hd hc) (IsTup.new s1.heap _) fun h' hx' => ?_)))
 have I3:=I2.kept (h':=h') (t':=s1.toks) fun b o e=>hx' b o (Nat.ne_of_lt (Heap.lt_size e)) e
 show wpAny _ _ (assignInOrder [fun v=>bindName X.env y v,fun v=>bindName X.env x v] [u2,u1] >>= fun _=>pure Flow.next) _ _ _
 refine wpAny_bind (assignInOrder_cons (wpAny_bindName (store_ok I3 hN hj (.inl hy) rw' (fun s2 I4 => ?_) (.inr hy))))
 refine assignInOrder_cons (wpAny_bindName (store_ok I4 hN hi (.inl hx) rv (fun s3 I5=>assignInOrder_nil (wpAny_pure ?_)) (.inr hx)))
 rw [List.set_comm _ _ (Ne.symm hij)] at I5
 exact ⟨_,H1,I5,q1⟩
end
section
variable {X:Cx} {pos:Pos}
noncomputable def tWhile (c:TT) (tb:TS):TS:=fun D σ H=>∃W:Nat→St→Hp→Prop,(∃m,W m σ H)∧∀m σ H,W m σ H →
 c σ H fun b H1=>if b=true then ∃N:St→Hp→Prop,(∀ σ' H',N σ' H'→∃m',m'<m∧W m' σ' H')∧tb { D with nx:=N,ct:=N,bk:=D.nx } σ H1 else D.nx σ H1
theorem ps_while {c:Expr} {body:List Stmt} {tc:TT} {tb:TS} (hp:PassesOwn (model X.prog X.w) X.A X.env X.xe) (hc:PT X c tc) (hb:PSs X body tb):PS X (.While c body [] pos) (tWhile tc tb):=by
 intro pins s σ H D I h
 obtain ⟨W,⟨m0,w0⟩,turn⟩:=h
 refine wpAny_While (codeAny_whileLoop (fun n s'=>∃ σ' H',Inv X pins σ' H' s'∧W n σ' H') ?_ m0 ⟨σ,H,I,w0⟩)
 rintro n s1 ⟨σ1,H1,I1,w1⟩
 refine wpAny_passesOwn hp (thn (hc s1 σ1 H1 _ I1 (turn n σ1 H1 w1)) fun b s2 ⟨H2,I2,q2⟩ => ?_)
 cases b with
 | true=>
  obtain ⟨N,hN,q2⟩:=q2
  rw [if_pos rfl]
  refine wpAny_passesOwn hp (thn (hb s2 σ1 H2 _ I2 q2) fun f s3 q3 => ?_)
  cases f with
  | next=>
   obtain ⟨σ3,H3,I3,n3⟩:=q3
   obtain ⟨m',hm,w3⟩:=hN σ3 H3 n3
   exact ⟨m',hm, σ3,H3,I3,w3⟩
  | cont=>
   obtain ⟨σ3,H3,I3,n3⟩:=q3
   obtain ⟨m',hm,w3⟩:=hN σ3 H3 n3
   exact ⟨m',hm, σ3,H3,I3,w3⟩
  | brk=>exact q3
  | ret v=>exact q3
 | false=>
  rw [if_neg Bool.false_ne_true]
  exact wpAny_execs_nil ⟨σ1,H2,I2,q2⟩
end
structure It where
 go:Nat→Hp→Prop
 yld:Nat→Hp→V→Hp→Prop
 stop:Nat→Hp→Prop
noncomputable def FpOk (X:Cx) (pins:List (Addr×Obj)) (H:Hp) (b:Addr):Prop:=
 H b=none∧b≠X.env.locals∧b ∉ X.fs∧(b∈X.ex∨X.s₀.heap.objs.size≤b)∧(∀x c,X.env.cells.lookup x=some c→c≠b)∧∀p∈X.pn++pins,p.1≠b
theorem Inv.fpOk {X:Cx} {pins:List (Addr×Obj)} {σ:St} {H H':Hp} {s:Shared} {b:Addr} (I:Inv X pins σ H s) (hb:s.heap.objs.size≤b) (hn:H' b=none):FpOk X pins H' b:=by
 refine ⟨hn,Nat.ne_of_gt (Nat.lt_of_lt_of_le I.lt hb),I.nofs hb, .inr (Nat.le_trans I.sz hb),fun x c e z => ?_,fun p hp z => ?_⟩
 ·obtain ⟨v,q⟩:=I.cell x c e
  exact absurd (Nat.lt_of_lt_of_le q.lt (by rw [z];exact hb)) (Nat.lt_irrefl _)
 ·exact absurd (Nat.lt_of_lt_of_le (Heap.lt_size (I.pin p hp).1) (by rw [z];exact hb)) (Nat.lt_irrefl _)
structure Turn (P:Program) (w:World) (K:PySem.W.Frag) (tg:Expr) (J:It) (fp:List Addr) (it:Addr) (tn:Nat→Heap→Prop):Prop where
 mem:it∈fp
 obj:∀i h,tn i h→∀b∈fp,∃o,h.get? b=some o∧∀v,o.data ≠ .cell v
 keep:∀i h h',tn i h→(∀b∈fp,∀o,h.get? b=some o→h'.get? b=some o)→tn i h'
 item:∀(X:Cx),X.prog=P→X.w=w→X.K=K→X.calm=true→∀(i:Nat) (pins:List (Addr×Obj)) (s:Shared) (σ:St) (H:Hp) (E:Value→Shared→Prop),Inv X pins σ H s→(∀b∈fp,FpOk X pins H b)→tn i s.heap→J.go i H →
  wpAny (model P w) X.A (pyNext (.ref it)) (fun r s1=>∃u,r=some u ∧
   wpAny (model P w) X.A (letOwnedTupleGo tg (.ref it) u) (fun _ s2=>∃x H',Inv X pins σ H' s2∧RelV x u∧J.yld i H x H'∧tn (i+1) s2.heap∧∀b∈fp,H' b=none) E s1) E s
 done:∀(X:Cx),X.prog=P→X.w=w→X.K=K→X.calm=true→∀(i:Nat) (pins:List (Addr×Obj)) (s:Shared) (σ:St) (H:Hp) (E:Value→Shared→Prop),Inv X pins σ H s→(∀b∈fp,FpOk X pins H b)→tn i s.heap→J.stop i H →
  wpAny (model P w) X.A (pyNext (.ref it)) (fun r s1=>r=none∧Inv X pins σ H s1) E s
 self:∀(A:Around) (i:Nat) (s:Shared) (Q:Value→Shared→Prop) (E:Value→Shared→Prop),tn i s.heap→Q (.ref it) s→wpAny (model P w) A (pyIter (.ref it)) Q E s
noncomputable abbrev TI:=St→Hp→(It→Hp→Prop)→Prop
noncomputable def PIE (X:Cx) (pins:List (Addr×Obj)) (σ:St) (tg:Expr) (R:It→Hp→Prop) (itv:Value) (s2:Shared):Prop:=
 Ex5 fun (it:Addr) (fp:List Addr) (tn:Nat→Heap→Prop) (J:It) (H':Hp)=>itv = .ref it∧Inv X pins σ H' s2∧Turn X.prog X.w X.K tg J fp it tn∧tn 0 s2.heap∧(∀b∈fp,FpOk X pins H' b)∧R J H'
noncomputable def PI (X:Cx) (tg iter:Expr) (wi:TI):Prop:=
 ∀ ⦃pins:List (Addr×Obj)⦄ (s:Shared) (σ:St) (H:Hp) (R:It→Hp→Prop),Inv X pins σ H s→wi σ H R →
  wpAny (model X.prog X.w) X.A (eval iter X.env) (fun v s1=>wpAny (model X.prog X.w) X.A (pyIter v) (PIE X pins σ tg R) X.xe s1) X.xe s
theorem go_of {M:Model} {A:Around} {E:Value→Shared→Prop} {s:Shared} {tg:Expr} {it:Addr} {u:Value} {o:Obj} {n:String} {vs:Array Value} {Q:Unit→Shared→Prop} (ho:s.heap.get? it=some o) (hc:o.cls = .type n) (hd:o.data = .fields vs)
  (hn:["enumerate", "zip", "dict_itemiterator", "dict_reverseitemiterator", "odict_iterator", "itertools.zip_longest", "itertools.pairwise"].contains n=false) (hQ:Q () s):wpAny M A (letOwnedTupleGo tg (.ref it) u) Q E s:=by
 unfold letOwnedTupleGo
 cases tg <;> first
  | exact wpAny_pure hQ
  | (cases u <;> first
    | exact wpAny_pure hQ
    | (refine wpAny_bind (wpAny_load ho ?_)
       rw [hc,hd]
       show wpAny M A (if (["enumerate", "zip", "dict_itemiterator", "dict_reverseitemiterator", "odict_iterator", "itertools.zip_longest", "itertools.pairwise"].contains n&&vs[0]? == some (rawInt _))=true then _ else _) Q E s
       rw [if_neg (by intro h;rw [hn,Bool.false_and] at h;cases h)]
       exact wpAny_pure hQ))
noncomputable def Itl (K:PySem.W.Frag) (a:Addr):It:=
 ⟨fun i H=>Ex2 fun xs x=>SqL K H a xs∧xs[i]? = some x,fun i H x H'=>H'=H∧∀xs,SqL K H a xs→xs[i]? = some x,fun i H=>∃xs,SqL K H a xs∧xs.length≤i⟩
noncomputable def Itr (lo:Int) (n:Nat):It:=⟨fun i _=>i<n,fun i H x H'=>H'=H∧x = .int (lo+i),fun i _=>n≤i⟩
theorem turn_list {P:Program} {w:World} {K:PySem.W.Frag} {tg:Expr} (a it:Addr):Turn P w K tg (Itl K a) [it] it (fun i h=>h.IsListIter it a i) where
 mem:=by simp
 obj:=fun i h st b hb=>by
  have e:b=it:=by simpa using hb
  subst e
  obtain ⟨o,e,c,d⟩:=st
  exact ⟨o,e,fun v z=>by rw [d] at z;cases z⟩
 keep:=fun i h h' st k=>st.at fun o e=>k it (by simp) o e
 item:=by
  intro X hP hw hK hc i pins s σ H E I hf st hg
  subst hP hw hK
  obtain ⟨xs,x,hq,hx⟩:=hg
  obtain ⟨its,rv,p,hz⟩:=I.list hq
  obtain ⟨u,hu,ru⟩:=rv.get hx
  obtain ⟨f0,f1,f2,f3,f4,f5⟩:=hf it (by simp)
  refine wpAny_pyNext_list_item st p.isList (x:=u) (by simpa using hu) fun h' st' sb => ?_
  have I1:Inv X pins σ H { s with heap:=h' }:=I.turned (t':=s.toks) (fun b o hb e=>(sb.2 b hb).trans e) f0 f1 f3 f4 f5
  obtain ⟨o,e,c,d⟩:=id st'
  exact ⟨u,rfl,go_of (s:={ s with heap:=h' }) e c d (by decide) ⟨x,H,I1,ru,⟨rfl,fun ys hy=>by rw [I.list_inj hy hq];exact hx⟩,st',fun b hb=>(hf b hb).1⟩⟩
 done:=by
  intro X hP hw hK hc i pins s σ H E I hf st hg
  subst hP hw hK
  obtain ⟨xs,hq,hx⟩:=hg
  obtain ⟨its,rv,p,hz⟩:=I.list hq
  obtain ⟨f0,f1,f2,f3,f4,f5⟩:=hf it (by simp)
  have hl:=rv.length
  exact wpAny_pyNext_list_end (I.ok.hd hc) st p.isList (by simp; (first|lia|omega)) fun h' eb=>⟨rfl,I.turned (t':=s.toks) (fun b o hb e=>eb b o hb e) f0 f1 f3 f4 f5⟩
 self:=fun _ _ _ _ _ st h=>wpAny_pyIter_listiter st h
theorem turn_range {P:Program} {w:World} {K:PySem.W.Frag} {tg:Expr} (it:Addr) (lo:Int) (n:Nat):Turn P w K tg (Itr lo n) [it] it (fun i h=>IsRangeIter h it (lo+(i:Nat)*1) ((n:Int)-(i:Nat)) 1) where
 mem:=by simp
 obj:=fun i h st b hb=>by
  have e:b=it:=by simpa using hb
  subst e
  exact ⟨_,st,fun v z=>by
   have z':Data.fields _=Data.cell v:=z
   cases z'⟩
 keep:=fun i h h' st k=>k it (by simp) _ st
 item:=by
  intro X hP hw hK hc i pins s σ H E I hf st hg
  subst hP hw hK
  obtain ⟨f0,f1,f2,f3,f4,f5⟩:=hf it (by simp)
  have W:=Walks.range (prog:=X.prog) (w:=X.w) (I.ok.hd hc) it lo 1 n
  refine W.item i s _ _ hg st fun v h' tk hv st' kk => ?_
  obtain ⟨t,rfl⟩:=hv
  have I1:Inv X pins σ H { s with heap:=h',toks:=tk }:=I.turned (fun b o hb e=>kk b o (by simpa using hb) e) f0 f1 f3 f4 f5
  refine ⟨_,rfl,go_of (s:={ s with heap:=h',toks:=tk }) (n := "range_iterator") st' rfl rfl (by decide) ⟨.int (lo+i),H,I1,⟨t,?_⟩,⟨rfl,rfl⟩,st',fun b hb=>(hf b hb).1⟩⟩
  rw [Int.mul_one]
 done:=by
  intro X hP hw hK hc i pins s σ H E I hf st hg
  subst hP hw hK
  obtain ⟨f0,f1,f2,f3,f4,f5⟩:=hf it (by simp)
  exact wpAny_pyNext_range_end (I.ok.hd hc) st (by have:n≤i:=hg; (first|lia|omega)) fun h' eb=>⟨rfl,I.turned (t':=s.toks) (fun b o hb e=>eb b o hb e) f0 f1 f3 f4 f5⟩
 self:=fun _ _ _ _ _ st h=>wpAny_pyIter_rangeiter st h
end L2
namespace L2
open PySem PySem.Spec PyProof.Rows
section
variable {X:Cx} {tg:Expr}
noncomputable def iList (K:PySem.W.Frag) (tl:TE):TI:=fun σ H R=>tl σ H fun x H1=>∃a,x = .ref a∧(∃xs,SqL K H1 a xs)∧R (Itl K a) H1
theorem pi_list {l:Expr} {tl:TE} (hl:PE X l tl):PI X tg l (iList X.K tl):=by
 intro pins s σ H R I h
 refine thn (hl s σ H _ I h) fun v s1 ⟨x,H1,I1,r1,q1⟩ => ?_
 obtain ⟨a,e,⟨xs,hq⟩,q⟩:=q1
 subst e
 cases r1
 obtain ⟨its,rv,p,hz⟩:=I1.list hq
 refine wpAny_pyIter_list p.isList ?_
 refine ⟨s1.heap.objs.size,[s1.heap.objs.size],_,_,H1,rfl,I1.kept (t':=s1.toks) fun b o e=>Heap.get?_push_of_some _ e,turn_list a _,⟨_,Heap.get?_push_size _ rfl,rfl,rfl⟩,fun b hb => ?_,q⟩
 have e:b=s1.heap.objs.size:=by simpa using hb
 subst e
 exact I1.fpOk (Nat.le_refl _) (I1.hok.fresh (Nat.le_refl _))
theorem range_it {pins:List (Addr×Obj)} {σ:St} {H:Hp} {s:Shared} {R:It→Hp→Prop} {E:Value→Shared→Prop} {lo hi:Int} {t u v:Tok} {tk:Nat} (I:Inv X pins σ H s) (h1 : -(2 ^ 62)≤lo) (h2:lo<2 ^ 62) (h3 : -(2 ^ 62)≤hi) (h4:hi<2 ^ 62)
  (q:R (Itr lo (hi-lo).toNat) H):wpAny (model X.prog X.w) X.A (pyIter (.ref s.heap.objs.size)) (PIE X pins σ tg R) E { s with heap:=s.heap.push { cls := .type "range",data := .fields #[.int lo t, .int hi u, .int 1 v] },toks:=tk }:=by
 refine wpAny_pyIter_range (IsRange.new ..) (small_one h1 h2 h3 h4) ?_
 have I1:Inv X pins σ H { s with heap:=s.heap.push { cls := .type "range",data := .fields #[.int lo t, .int hi u, .int 1 v] },toks:=tk }:=I.kept fun b o e=>Heap.get?_push_of_some _ e
 refine ⟨(s.heap.push { cls := .type "range",data := .fields #[.int lo t, .int hi u, .int 1 v] }).objs.size,[(s.heap.push { cls := .type "range",data := .fields #[.int lo t, .int hi u, .int 1 v] }).objs.size],_,_,H,rfl,
  I1.kept (t':=tk) fun b o e=>Heap.get?_push_of_some _ e,turn_range _ lo (hi-lo).toNat,?_,fun b hb => ?_,q⟩
 ·have e1:lo+((0:Nat):Int)*1=lo:=by simp
  have e2:(((hi-lo).toNat:Nat):Int)-((0:Nat):Int)=Builtin.Range.rangeSize lo hi 1:=by rw [rangeSize_one];split <;> (first|lia|omega)
  show IsRangeIter _ _ (lo+((0:Nat):Int)*1) ((((hi-lo).toNat:Nat):Int)-((0:Nat):Int)) 1
  rw [e1,e2]
  exact Heap.get?_push_size _ rfl
 ·have e:b=(s.heap.push { cls := .type "range",data := .fields #[.int lo t, .int hi u, .int 1 v] }).objs.size:=by simpa using hb
  subst e
  exact I1.fpOk (Nat.le_refl _) (I1.hok.fresh (Nat.le_refl _))
noncomputable def iRng1 (ta:TA):TI:=fun σ H R=>ta σ H fun vs H1=>∃j:Int,vs=[.int j] ∧ -(2 ^ 62)≤j∧j<2 ^ 62∧R (Itr 0 j.toNat) H1
theorem pi_range1 {a:Expr} {ta:TA} {p pos:Pos} (hg:Gl X "range") (hm:X.mg "range" = none) (ha:PA X [a] ta) (hs:starEach [a] X.env=[(false,eval a X.env)]:=by rfl):PI X tg (.Call (.Name "range" p) [a] [] pos) (iRng1 ta):=by
 intro pins s σ H R I h
 refine Call_ (ld_blt I hg hm boot_range (PyProof.Rows.callWith_type1 (thn (ha s σ H _ I h) fun us s1 ⟨vs,H1,I1,r1,q1⟩ => ?_) hs rfl))
 obtain ⟨j,e,q1,q2,q⟩:=q1
 subst e
 cases r1 with
 | cons r rr=>
  cases rr
  obtain ⟨t,rfl⟩:=r
  exact call_range_1 (range_it I1 (by first|lia|omega) (by first|lia|omega) q1 q2 (by simpa using q))
noncomputable def tFor (wi:TI) (g:TG) (tb:TS):TS:=fun D σ H=>wi σ H fun J H1=>∃W:Nat→Nat→St→Hp→Prop,(∃m,W 0 m σ H1)∧∀i m σ H,W i m σ H →
 (J.stop i H∧D.nx σ H)∨(J.go i H∧∃N:St→Hp→Prop,(∀ σ' H',N σ' H'→∃m',m'<m∧W (i+1) m' σ' H')∧∀x H',J.yld i H x H'→g x σ H' fun σ2 H2=>tb { D with nx:=N,ct:=N,bk:=D.nx } σ2 H2)
noncomputable def pinsAt (fp:List Addr) (h:Heap):List (Addr×Obj):=fp.filterMap fun b=>(h.get? b).map fun o=>(b,o)
theorem mem_pinsAt {fp:List Addr} {h:Heap} {b:Addr} {o:Obj} (hb:b∈fp) (e:h.get? b=some o):(b,o)∈pinsAt fp h:=List.mem_filterMap.mpr ⟨b,hb,by rw [e];rfl⟩
theorem of_pinsAt {fp:List Addr} {h:Heap} {p:Addr×Obj} (hp:p∈pinsAt fp h):p.1∈fp∧h.get? p.1=some p.2:=by
 obtain ⟨b,hb,e⟩:=List.mem_filterMap.mp hp
 cases q:h.get? b with
 | none=>rw [q] at e;cases e
 | some o=>
  rw [q] at e
  have e':(b,o)=p:=Option.some.inj e
  subst e'
  exact ⟨hb,q⟩
theorem Inv.pinned {pins:List (Addr×Obj)} {σ:St} {H:Hp} {s:Shared} {fp:List Addr} (I:Inv X pins σ H s) (hf:∀b∈fp,FpOk X pins H b) (ho:∀b∈fp,∃o,s.heap.get? b=some o∧∀v,o.data ≠ .cell v):Inv X (pins++pinsAt fp s.heap) σ H s:=
 I.pins_of fun p hp=>(List.mem_append.mp hp).elim (fun z=>I.pin p (List.mem_append_right _ z)) fun z=>by
  obtain ⟨hb,e⟩:=of_pinsAt z
  obtain ⟨f0,f1,f2,_⟩:=hf p.1 hb
  obtain ⟨o,e',d⟩:=ho p.1 hb
  rw [e] at e';cases e'
  exact ⟨e,f0,f1,f2,d⟩
theorem Inv.unpinned {pins pl:List (Addr×Obj)} {σ:St} {H:Hp} {s:Shared} (I:Inv X (pins++pl) σ H s):Inv X pins σ H s:=I.pins_of fun p hp=>I.pin p (List.mem_append_right _ (List.mem_append_left _ hp))
theorem ps_for {iter:Expr} {body:List Stmt} {wi:TI} {g:TG} {tb:TS} {pos:Pos} (hp:PassesOwn (model X.prog X.w) X.A X.env X.xe) (hc:X.calm=true) (hi:PI X tg iter wi) (hg:PG X tg g) (hb:PSs X body tb)
  (hs:∀x,foldedSetIterable iter X.env x=pure x:=by intro _;rfl):PS X (.For tg iter body [] pos) (tFor wi g tb):=by
 intro pins s σ H D I h
 refine wpAny_For (thn (hi s σ H _ I h) fun v s1 h1=>thn h1 fun itv s2 h2 => ?_) hs
 obtain ⟨it,fp,tn,J,H2,e,I2,T,st2,f2,W,⟨m0,w0⟩,turn⟩:=h2
 subst e
 have stat:∀{H':Hp},(∀b∈fp,H' b=none)→∀b∈fp,FpOk X pins H' b:=fun hn b hb=>⟨hn b hb,(f2 b hb).2⟩
 refine codeAny_forLoop_any (fun n s'=>∃i σ' H',Inv X pins σ' H' s'∧tn i s'.heap∧(∀b∈fp,H' b=none)∧W i n σ' H') ?_ m0 ⟨0, σ,H2,I2,st2,fun b hb=>(f2 b hb).1,w0⟩
 rintro n s3 ⟨i, σ3,H3,I3,st3,fr3,w3⟩
 rcases turn i n σ3 H3 w3 with ⟨stop,qn⟩|⟨go,N,hN,step⟩
 ·refine wpAny_passesOwn hp (thn (T.done X rfl rfl rfl hc i pins s3 σ3 H3 X.xe I3 (stat fr3) st3 stop) fun r s4 ⟨hr,I4⟩ => ?_)
  subst hr
  exact wpAny_execs_nil ⟨σ3,H3,I4,qn⟩
 ·refine wpAny_passesOwn hp (thn (T.item X rfl rfl rfl hc i pins s3 σ3 H3 X.xe I3 (stat fr3) st3 go) fun r s4 ⟨u,hr,h4⟩ => ?_)
  subst hr
  refine wpAny_passesOwn hp (thn h4 fun _ s5 ⟨x,H5,I5,r5,y5,st5,fr5⟩ => ?_)
  have I5':=I5.pinned (stat fr5) (T.obj _ _ st5)
  refine wpAny_passesOwn hp (thn (hg s5 σ3 H5 x u _ I5' r5 (step x H5 y5)) fun _ s6 ⟨σ6,H6,I6,q6⟩ => ?_)
  refine wpAny_passesOwn hp (thn (hb s6 σ6 H6 _ I6 q6) fun f s7 q7 => ?_)
  have again:∀{σ7:St} {H7:Hp},Inv X (pins++pinsAt fp s5.heap) σ7 H7 s7→N σ7 H7→∃m,m<n∧∃i σ' H',Inv X pins σ' H' s7∧tn i s7.heap∧(∀b∈fp,H' b=none)∧W i m σ' H':=fun {σ7 H7} I7 n7=>by
   obtain ⟨m',hm,w7⟩:=hN σ7 H7 n7
   refine ⟨m',hm,i+1, σ7,H7,I7.unpinned,T.keep _ _ _ st5 fun b hb o e=>(I7.pin (b,o) (List.mem_append_right _ (List.mem_append_right _ (mem_pinsAt hb e)))).1,fun b hb => ?_,w7⟩
   obtain ⟨o,e,d⟩:=T.obj _ _ st5 b hb
   exact (I7.pin (b,o) (List.mem_append_right _ (List.mem_append_right _ (mem_pinsAt hb e)))).2.1
  cases f with
  | next=>obtain ⟨σ7,H7,I7,n7⟩:=q7;exact again I7 n7
  | cont=>obtain ⟨σ7,H7,I7,n7⟩:=q7;exact again I7 n7
  | brk=>obtain ⟨σ7,H7,I7,q7⟩:=q7;exact ⟨σ7,H7,I7.unpinned,q7⟩
  | ret v=>obtain ⟨x7, σ7,H7,I7,r7,q7⟩:=q7;exact ⟨x7, σ7,H7,I7.unpinned,r7,q7⟩
end
theorem for_range {lo:Int} {n:Nat} {g:TG} {tb:TS} {D:Ends} {σ:St} {H:Hp} (Pv:Nat→St→Hp→Prop) (h0:Pv 0 σ H)
  (hs:∀i σ H,i<n→Pv i σ H→g (.int (lo+i)) σ H fun σ2 H2=>tb { D with nx:=Pv (i+1),ct:=Pv (i+1),bk:=D.nx } σ2 H2) (hd:∀ σ H,Pv n σ H→D.nx σ H) :
  ∃W:Nat→Nat→St→Hp→Prop,(∃m,W 0 m σ H)∧∀i m σ H,W i m σ H →
   ((Itr lo n).stop i H∧D.nx σ H)∨((Itr lo n).go i H∧∃N:St→Hp→Prop,(∀ σ' H',N σ' H'→∃m',m'<m∧W (i+1) m' σ' H')∧∀x H',(Itr lo n).yld i H x H'→g x σ H' fun σ2 H2=>tb { D with nx:=N,ct:=N,bk:=D.nx } σ2 H2):=by
 refine ⟨fun i m σ H=>m=n-i∧i≤n∧Pv i σ H,⟨n,by simp,Nat.zero_le _,h0⟩,?_⟩
 rintro i m σ H ⟨rfl,hi,p⟩
 by_cases hlt:i<n
 ·refine .inr ⟨hlt,Pv (i+1),fun σ' H' p'=>⟨n-(i+1),by first|lia|omega,rfl,hlt,p'⟩,fun x H' y => ?_⟩
  obtain ⟨e,y⟩:=y
  subst e y
  exact hs i σ _ hlt p
 ·have e:i=n:=by (first|lia|omega)
  subst e
  exact .inl ⟨Nat.le_refl _,hd σ H p⟩
end L2
namespace L2
open PySem PySem.Spec PyProof.Rows
noncomputable abbrev R2:=V→V→Hp→VK→Prop
noncomputable def OpR (X:Cx) (f:Value→Value→Sem Value) (r:R2):Prop:=
 ∀ ⦃pins:List (Addr×Obj)⦄ (s:Shared) (σ:St) (H:Hp) (x y:V) (v u:Value) (Q:VK),Inv X pins σ H s→RelV x v→RelV y u→r x y H Q →
  wpAny (model X.prog X.w) X.A (f v u) (EP X pins σ Q) X.xe s
noncomputable def UnR (X:Cx) (f:Value→Sem Value) (r:V→Hp→VK→Prop):Prop:=
 ∀ ⦃pins:List (Addr×Obj)⦄ (s:Shared) (σ:St) (H:Hp) (x:V) (v:Value) (Q:VK),Inv X pins σ H s→RelV x v→r x H Q →
  wpAny (model X.prog X.w) X.A (f v) (EP X pins σ Q) X.xe s
noncomputable def CallR (X:Cx) (f:Value) (r:List V→Hp→VK→Prop):Prop:=
 ∀ ⦃pins:List (Addr×Obj)⦄ (s:Shared) (σ:St) (H:Hp) (xs:List V) (us:List Value) (Q:VK),Inv X pins σ H s→Vals xs us→r xs H Q →
  wpAny (model X.prog X.w) X.A (call f us) (EP X pins σ Q) X.xe s
noncomputable def TruR (X:Cx) (r:V→Hp→(Bool→Hp→Prop)→Prop):Prop:=
 ∀ ⦃pins:List (Addr×Obj)⦄ (s:Shared) (σ:St) (H:Hp) (x:V) (v:Value) (Q:Bool→Hp→Prop),Inv X pins σ H s→RelV x v→r x H Q →
  wpAny (model X.prog X.w) X.A (truthy v) (TP X pins σ Q) X.xe s
noncomputable def tOp (r:R2) (ta tb:TE):TE:=fun σ H Q=>ta σ H fun x H1=>tb σ H1 fun y H2=>r x y H2 Q
noncomputable def tUn (r:V→Hp→VK→Prop) (ta:TE):TE:=fun σ H Q=>ta σ H fun x H1=>r x H1 Q
noncomputable def rI (C:Int→Int→Prop) (g:Int→Int→V):R2:=fun x y H Q=>Ex2 fun i j=>x = .int i∧y = .int j∧C i j∧Q (g i j) H
noncomputable def rI0 (g:Int→Int→V):R2:=fun x y H Q=>Ex2 fun i j=>x = .int i∧y = .int j∧Q (g i j) H
noncomputable def rU (g:Int→V):V→Hp→VK→Prop:=fun x H Q=>∃i,x = .int i∧Q (g i) H
section
variable {X:Cx} {a b c:Expr} {ta tb tc:TE} {pos:Pos}
theorem binT (ha:PE X a ta) (hb:PE X b tb) {pins:List (Addr×Obj)} {s:Shared} {σ:St} {H:Hp} {R:V→V→Hp→Prop} (I:Inv X pins σ H s)
  (h:ta σ H fun x H1=>tb σ H1 fun y H2=>R x y H2) {Q:Value→Shared→Prop} {f:Value→Value→Sem Value}
  (hf:∀v u s2 x y H2,Inv X pins σ H2 s2→RelV x v→RelV y u→R x y H2→wpAny (model X.prog X.w) X.A (f v u) Q X.xe s2) :
  wpAny (model X.prog X.w) X.A (eval a X.env) (fun v s₁=>wpAny (model X.prog X.w) X.A (eval b X.env) (fun u s₂=>wpAny (model X.prog X.w) X.A (f v u) Q X.xe s₂) X.xe s₁) X.xe s:=by
 refine thn (ha s σ H _ I h) fun v s1 ⟨x,H1,I1,r1,q1⟩ => ?_
 refine thn (hb s1 σ H1 _ I1 q1) fun u s2 ⟨y,H2,I2,r2,q2⟩ => ?_
 exact hf v u s2 x y H2 I2 r1 r2 q2
theorem pe_op {op:Operator} {r:R2} (ho:OpR X (binaryOp op) r) (ha:PE X a ta) (hb:PE X b tb):PE X (.BinOp a op b pos) (tOp r ta tb):=by
 intro pins s σ H Q I h
 exact wpAny_BinOp (binT ha hb I h fun v u s2 x y H2 I2 rx ry q=>ho s2 σ H2 x y v u Q I2 rx ry q)
theorem pe_un {op:UnaryOp} {r:V→Hp→VK→Prop} (ho:UnR X (unaryOp op) r) (ha:PE X a ta):PE X (.UnaryOp op a pos) (tUn r ta):=by
 intro pins s σ H Q I h
 exact UnaryOp_ (thn (ha s σ H _ I h) fun v s1 ⟨x,H1,I1,r1,q1⟩=>ho s1 σ H1 x v Q I1 r1 q1)
theorem opI {f:Value→Value→Sem Value} {C:Int→Int→Prop} {g:Int→Int→Int}
  (rule:∀(i j:Int) (t u:Tok) (s:Shared) (Q:Value→Shared→Prop) (E:Value→Shared→Prop),C i j→Q (.int (g i j) s.toks) { s with toks:=s.toks+1 } → wpAny (model X.prog X.w) X.A (f (.int i t) (.int j u)) Q E s) :
  OpR X f (rI C fun i j => .int (g i j)):=by
 intro pins s σ H x y v u Q I rx ry h
 obtain ⟨i,j,rfl,rfl,hc,q⟩:=h
 obtain ⟨t,rfl⟩:=rx
 obtain ⟨t',rfl⟩:=ry
 exact rule i j t t' s _ _ hc ⟨.int (g i j),H,I.tok _,⟨_,rfl⟩,q⟩
theorem opI0 {f:Value→Value→Sem Value} {g:Int→Int→Int}
  (rule:∀(i j:Int) (t u:Tok) (s:Shared) (Q:Value→Shared→Prop) (E:Value→Shared→Prop),Q (.int (g i j) s.toks) { s with toks:=s.toks+1 } → wpAny (model X.prog X.w) X.A (f (.int i t) (.int j u)) Q E s) :
  OpR X f (rI0 fun i j => .int (g i j)):=by
 intro pins s σ H x y v u Q I rx ry h
 obtain ⟨i,j,rfl,rfl,q⟩:=h
 obtain ⟨t,rfl⟩:=rx
 obtain ⟨t',rfl⟩:=ry
 exact rule i j t t' s _ _ ⟨.int (g i j),H,I.tok _,⟨_,rfl⟩,q⟩
theorem opB0 {f:Value→Value→Sem Value} {g:Int→Int→Bool}
  (rule:∀(i j:Int) (t u:Tok) (s:Shared) (Q:Value→Shared→Prop) (E:Value→Shared→Prop),Q (.bool (g i j)) s→wpAny (model X.prog X.w) X.A (f (.int i t) (.int j u)) Q E s) :
  OpR X f (rI0 fun i j => .bl (g i j)):=by
 intro pins s σ H x y v u Q I rx ry h
 obtain ⟨i,j,rfl,rfl,q⟩:=h
 obtain ⟨t,rfl⟩:=rx
 obtain ⟨t',rfl⟩:=ry
 exact rule i j t t' s _ _ ⟨.bl (g i j),H,I,rfl,q⟩
noncomputable def CDiv (i j:Int):Prop:=0<j∧j<1073741824
noncomputable def CPow (i j:Int):Prop:=0≤j∧j≤1000000∧i.natAbs<2 ^ 64
noncomputable def CMul (i j:Int):Prop:=(-(2 ^ 64)<i∧i<2 ^ 64)∨(-(2 ^ 64)<j∧j<2 ^ 64)
theorem CMul.ok {i j:Int} (h:CMul i j):IntMulOk i j:=by
 rcases h with ⟨h1,h2⟩|⟨h1,h2⟩
 ·exact .of_left (intBits_le_64 h1 h2)
 ·exact .of_right (intBits_le_64 h1 h2)
theorem op_add:OpR X (binaryOp .Add) (rI0 fun i j => .int (i+j)):=opI0 fun _ _ _ _ _ _ _ q=>add_int q
theorem op_mul:OpR X (binaryOp .Mult) (rI CMul fun i j => .int (i*j)):=opI fun _ _ _ _ _ _ _ hc q=>mul_int q hc.ok
theorem op_fdiv:OpR X (binaryOp .FloorDiv) (rI CDiv fun i j => .int (i / j)):=opI fun i j _ _ _ _ _ hc q=>by
 have h1:(0:Int)<j:=hc.1
 have h2:j<1073741824:=hc.2
 exact floordiv_int (by first|lia|omega) (by rw [Int.fdiv_eq_ediv_of_nonneg i (by first|lia|omega)];exact q) (.inl (PyProof.noPylong_small (by first|lia|omega)))
theorem op_mod:OpR X (binaryOp .Mod) (rI (fun _ j=>0<j) fun i j => .int (i % j)):=opI fun i j _ _ _ _ _ hc q=>by
 have h1:(0:Int)<j:=hc
 exact mod_int' (by first|lia|omega) (by rw [Int.fmod_eq_emod_of_nonneg i (by first|lia|omega)];exact q)
theorem op_pow:OpR X (binaryOp .Pow) (rI CPow fun i j => .int (i ^ j.toNat)):=opI fun _ _ _ _ _ _ _ hc q=>pow_int_small hc.1 hc.2.1 hc.2.2 q
theorem unI {f:Value→Sem Value} {g:Int→Int}
  (rule:∀(i:Int) (t:Tok) (s:Shared) (Q:Value→Shared→Prop) (E:Value→Shared→Prop),Q (.int (g i) s.toks) { s with toks:=s.toks+1 } → wpAny (model X.prog X.w) X.A (f (.int i t)) Q E s) :
  UnR X f (rU fun i => .int (g i)):=by
 intro pins s σ H x v Q I rx h
 obtain ⟨i,rfl,q⟩:=h
 obtain ⟨t,rfl⟩:=rx
 exact rule i t s _ _ ⟨.int (g i),H,I.tok _,⟨_,rfl⟩,q⟩
theorem un_neg:UnR X (unaryOp .USub) (rU fun i => .int (-i)):=unI fun _ _ _ _ _ q=>neg_int q
end
noncomputable def scal:V→V→Bool
 | .non, .non=>true | .non, .int _=>true | .int _, .non=>true | .non, .bl _=>true | .bl _, .non=>true | .non, .str _=>true | .str _, .non=>true
 | .int _, .int _=>true | .bl _, .bl _=>true | .str _, .str _=>true | .byt _, .byt _=>true
 | .int _, .str _=>true | .str _, .int _=>true | .bl _, .str _=>true | .str _, .bl _=>true
 | _,_=>false
noncomputable def rEq:R2:=fun x y H Q=>scal x y=true∧Q (.bl (decide (x=y))) H
noncomputable def rNe:R2:=fun x y H Q=>scal x y=true∧Q (.bl (!decide (x=y))) H
theorem dec_int {i j:Int} : decide (V.int i=V.int j)=(i == j):=by
 rw [Bool.eq_iff_iff]
 simp
theorem dec_bl {i j:Bool} : decide (V.bl i=V.bl j)=(i == j):=by
 rw [Bool.eq_iff_iff]
 simp
theorem dec_str {i j:Str} : decide (V.str i=V.str j)=(i == j):=by
 rw [Bool.eq_iff_iff]
 simp
theorem dec_byt {i j:Array UInt8} : decide (V.byt i=V.byt j)=(i.toList == j.toList):=by
 rw [Bool.eq_iff_iff]
 cases i
 cases j
 simp
section
variable {X:Cx} {a b c:Expr} {ta tb tc:TE} {pos:Pos}
theorem fin_bl {pins:List (Addr×Obj)} {σ:St} {H:Hp} {s:Shared} {Q:VK} {k k':Bool} (I:Inv X pins σ H s) (q:Q (.bl k) H) (e:k=k'):EP X pins σ Q (.bool k') s:=by
 subst e
 exact ⟨.bl k,H,I,rfl,q⟩
theorem op_eq:OpR X (compareOp .Eq) rEq:=by
 intro pins s σ H x y v u Q I rx ry h
 obtain ⟨hs,q⟩:=h
 cases x with
 | non=>
  cases rx
  cases y with
  | non=>cases ry;exact PySem.EqNone.eq_none_none (fin_bl I q (by simp))
  | bl j=>cases ry;exact PySem.EqNone.eq_none_bool (fin_bl I q (by simp))
  | int j=>obtain ⟨t',rfl⟩:=ry;exact PySem.EqNone.eq_none_int (fin_bl I q (by simp))
  | str j=>obtain ⟨t',rfl⟩:=ry;exact PySem.EqNone.eq_none_str (fin_bl I q (by simp))
  | _=>exact absurd (show false=true from hs) Bool.false_ne_true
 | bl i=>
  cases rx
  cases y with
  | non=>cases ry;exact PySem.EqNone.eq_bool_none (fin_bl I q (by simp))
  | bl j=>cases ry;exact eq_bool (fin_bl I q dec_bl)
  | str j=>obtain ⟨t',rfl⟩:=ry;exact PySem.EqMixed.eq_bool_str (fin_bl I q (by simp))
  | _=>exact absurd (show false=true from hs) Bool.false_ne_true
 | int i=>
  obtain ⟨t,rfl⟩:=rx
  cases y with
  | non=>cases ry;exact PySem.EqNone.eq_int_none (fin_bl I q (by simp))
  | int j=>obtain ⟨t',rfl⟩:=ry;exact eq_int (fin_bl I q dec_int)
  | str j=>obtain ⟨t',rfl⟩:=ry;exact PySem.EqMixed.eq_int_str (fin_bl I q (by simp))
  | _=>exact absurd (show false=true from hs) Bool.false_ne_true
 | str i=>
  obtain ⟨t,rfl⟩:=rx
  cases y with
  | non=>cases ry;exact PySem.EqNone.eq_str_none (fin_bl I q (by simp))
  | bl j=>cases ry;exact PySem.EqMixed.eq_str_bool (fin_bl I q (by simp))
  | int j=>obtain ⟨t',rfl⟩:=ry;exact PySem.EqMixed.eq_str_int (fin_bl I q (by simp))
  | str j=>obtain ⟨t',rfl⟩:=ry;exact eq_str (fin_bl I q dec_str)
  | _=>exact absurd (show false=true from hs) Bool.false_ne_true
 | byt i=>
  obtain ⟨t,rfl⟩:=rx
  cases y with
  | byt j=>obtain ⟨t',rfl⟩:=ry;exact PySem.W.eq_bytes (fin_bl I q dec_byt)
  | _=>exact absurd (show false=true from hs) Bool.false_ne_true
 | _=>cases y <;> exact absurd (show false=true from hs) Bool.false_ne_true
theorem op_ne:OpR X (compareOp .NotEq) rNe:=by
 intro pins s σ H x y v u Q I rx ry h
 obtain ⟨hs,q⟩:=h
 cases x with
 | non=>
  cases rx
  cases y with
  | non=>cases ry;exact PySem.EqNone.ne_none_none (fin_bl I q (by simp))
  | bl j=>cases ry;exact PySem.EqNone.ne_none_bool (fin_bl I q (by simp))
  | int j=>obtain ⟨t',rfl⟩:=ry;exact PySem.EqNone.ne_none_int (fin_bl I q (by simp))
  | str j=>obtain ⟨t',rfl⟩:=ry;exact PySem.EqNone.ne_none_str (fin_bl I q (by simp))
  | _=>exact absurd (show false=true from hs) Bool.false_ne_true
 | bl i=>
  cases rx
  cases y with
  | non=>cases ry;exact PySem.EqNone.ne_bool_none (fin_bl I q (by simp))
  | bl j=>cases ry;exact ne_bool (fin_bl I q (congrArg not dec_bl))
  | str j=>obtain ⟨t',rfl⟩:=ry;exact PySem.EqMixed.ne_bool_str (fin_bl I q (by simp))
  | _=>exact absurd (show false=true from hs) Bool.false_ne_true
 | int i=>
  obtain ⟨t,rfl⟩:=rx
  cases y with
  | non=>cases ry;exact PySem.EqNone.ne_int_none (fin_bl I q (by simp))
  | int j=>obtain ⟨t',rfl⟩:=ry;exact ne_int (fin_bl I q (congrArg not dec_int))
  | str j=>obtain ⟨t',rfl⟩:=ry;exact PySem.EqMixed.ne_int_str (fin_bl I q (by simp))
  | _=>exact absurd (show false=true from hs) Bool.false_ne_true
 | str i=>
  obtain ⟨t,rfl⟩:=rx
  cases y with
  | non=>cases ry;exact PySem.EqNone.ne_str_none (fin_bl I q (by simp))
  | bl j=>cases ry;exact PySem.EqMixed.ne_str_bool (fin_bl I q (by simp))
  | int j=>obtain ⟨t',rfl⟩:=ry;exact PySem.EqMixed.ne_str_int (fin_bl I q (by simp))
  | str j=>obtain ⟨t',rfl⟩:=ry;exact ne_str (fin_bl I q (congrArg not dec_str))
  | _=>exact absurd (show false=true from hs) Bool.false_ne_true
 | byt i=>
  obtain ⟨t,rfl⟩:=rx
  cases y with
  | byt j=>obtain ⟨t',rfl⟩:=ry;exact PySem.W.ne_bytes (fin_bl I q (congrArg not dec_byt))
  | _=>exact absurd (show false=true from hs) Bool.false_ne_true
 | _=>cases y <;> exact absurd (show false=true from hs) Bool.false_ne_true
theorem op_lt:OpR X (compareOp .Lt) (rI0 fun i j => .bl (decide (i<j))):=opB0 fun _ _ _ _ _ _ _ q=>lt_int q
theorem op_gt:OpR X (compareOp .Gt) (rI0 fun i j => .bl (decide (j<i))):=opB0 fun _ _ _ _ _ _ _ q=>gt_int q
theorem op_ge:OpR X (compareOp .GtE) (rI0 fun i j => .bl (decide (j≤i))):=opB0 fun _ _ _ _ _ _ _ q=>ge_int q
theorem op_isN:OpR X (compareOp .Is) (fun x y H Q=>y = .non∧Q (.bl (decide (x = .non))) H):=by
 intro pins s σ H x y v u Q I rx ry h
 obtain ⟨rfl,q⟩:=h
 cases ry
 refine is_none_gen (fin_bl I q ?_)
 cases x <;> first
  | (cases rx;rfl)
  | (obtain ⟨t,rfl⟩:=rx;rfl)
theorem op_notN:OpR X (compareOp .IsNot) (fun x y H Q=>y = .non∧Q (.bl (!decide (x = .non))) H):=by
 intro pins s σ H x y v u Q I rx ry h
 obtain ⟨rfl,q⟩:=h
 cases ry
 refine isnot_none_gen (fin_bl I q ?_)
 cases x <;> first
  | (cases rx;rfl)
  | (obtain ⟨t,rfl⟩:=rx;rfl)
theorem OpR.or {f:Value→Value→Sem Value} {r r':R2} (h:OpR X f r) (h':OpR X f r'):OpR X f (fun x y H Q=>r x y H Q∨r' x y H Q):=by
 intro pins s σ H x y v u Q I rx ry q
 rcases q with q|q
 ·exact h s σ H x y v u Q I rx ry q
 ·exact h' s σ H x y v u Q I rx ry q
theorem nomark (b:Expr) {op:CmpOp} (h:op ≠ .In:=by decide) (h2:op ≠ .NotIn:=by decide):behindInMarks op b=false:=by
 have e1:(op == CmpOp.In)=false:=by cases op <;> first|rfl|exact absurd rfl h
 have e2:(op == CmpOp.NotIn)=false:=by cases op <;> first|rfl|exact absurd rfl h2
 cases b <;> simp [behindInMarks,e1,e2]
theorem pe_cmpR {op:CmpOp} {r:R2} (ho:OpR X (compareOp op) r) (ha:PE X a ta) (hb:PE X b tb) (hm:behindInMarks op b=false):PE X (.Compare a [op] [b] pos) (tOp r ta tb):=by
 intro pins s σ H Q I h
 exact wpAny_Compare1 (binT ha hb I h fun v u s2 x y H2 I2 rx ry q=>ho s2 σ H2 x y v u Q I2 rx ry q) hm
noncomputable def tTest (t:TE):TT:=fun σ H Q=>t σ H fun x H'=>∃k,x = .bl k∧Q k H'
theorem pt_cmpR {op:CmpOp} {r:R2} (ho:OpR X (compareOp op) r) (ha:PE X a ta) (hb:PE X b tb) (hm:behindInMarks op b=false):PT X (.Compare a [op] [b] pos) (tTest (tOp r ta tb)):=by
 intro pins s σ H Q I h
 refine wpAny_isTrue_Compare1 (thn (ha s σ H _ I h) fun v s1 ⟨x,H1,I1,r1,q1⟩=>thn (hb s1 σ H1 _ I1 q1) fun u s2 ⟨y,H2,I2,r2,q2⟩=>
  thn (ho s2 σ H2 x y v u _ I2 r1 r2 q2) fun c s3 ⟨z,H3,I3,r3,k,e,q3⟩ => ?_) hm
 subst e
 cases r3
 exact wpAny_truthy_bool ⟨H3,I3,q3⟩
noncomputable def TruV (K:PySem.W.Frag) (x:V) (H:Hp) (k:Bool):Prop:=
 match x with
 | .non=>k=false
 | .bl b=>k=b
 | .int i=>k=(i != 0)
 | .str y=>y.length≤sizeLine∧k=((y.length:Int) != 0)
 | .byt y=>y.size≤sizeLine∧k=((y.size:Int) != 0)
 | .ref p=>(∃xs,SqL K H p xs∧k = !xs.isEmpty)∨(∃xs,SqT K H p xs∧k = !xs.isEmpty)∨∃kvs,H p=some (.dK kvs)∧k = !kvs.isEmpty
 | _=>False
theorem isEmpty_kv {κ:Type} {kvs:List (κ×V)} {vs:List (κ×Value)} (r:KV kvs vs):(!vs.isEmpty) = !kvs.isEmpty:=by
 cases r <;> rfl
theorem isEmpty_of {xs:List V} {its:List Value} (r:Vals xs its):(!its.toArray.isEmpty) = !xs.isEmpty:=by
 cases r <;> simp
theorem line63:(sizeLine:Nat)<2 ^ 63:=by rw [sizeLine_eq];decide
theorem tru_ok:TruR X (fun x H Q=>∃k,TruV X.K x H k∧Q k H):=by
 intro pins s σ H x v Q I rx h
 obtain ⟨k,e,q⟩:=h
 have hl:=line63
 have hs:sizeLine=16777216:=sizeLine_eq
 cases x with
 | non=>
  cases rx
  have e':k=false:=e
  subst e'
  exact truthy_none ⟨H,I,q⟩
 | bl b=>
  cases rx
  have e':k=b:=e
  subst e'
  exact wpAny_truthy_bool ⟨H,I,q⟩
 | int i=>
  obtain ⟨t,rfl⟩:=rx
  have e':k=(i != 0):=e
  subst e'
  exact PySem.P.truthy_int ⟨H,I,q⟩
 | str y=>
  obtain ⟨t,rfl⟩:=rx
  obtain ⟨hy,e'⟩:y.length≤sizeLine∧k=((y.length:Int) != 0):=e
  subst e'
  exact PySem.P.truthy_str (by first|lia|omega) ⟨H,I.tok _,q⟩
 | byt y=>
  obtain ⟨t,rfl⟩:=rx
  obtain ⟨hy,e'⟩:y.size≤sizeLine∧k=((y.size:Int) != 0):=e
  subst e'
  exact PySem.W.truthy_bytes (by first|lia|omega) ⟨H,I.tok _,q⟩
 | ref p=>
  cases rx
  have e':(∃xs,SqL X.K H p xs∧k = !xs.isEmpty)∨(∃xs,SqT X.K H p xs∧k = !xs.isEmpty)∨∃kvs,H p=some (.dK kvs)∧k = !kvs.isEmpty:=e
  rcases e' with ⟨xs,hx,e'⟩|⟨xs,hx,e'⟩|⟨kvs,hx,e'⟩
  ·subst e'
   obtain ⟨its,r,pl,hz⟩:=I.list hx
   have hlen:=r.length
   exact wpAny_truthy_list pl.isList (by simp only [List.size_toArray]; (first|lia|omega)) ⟨H,I.tok _,by rw [isEmpty_of r];exact q⟩
  ·subst e'
   obtain ⟨its,r,pl,hz⟩:=I.tuple hx
   have hlen:=r.length
   exact truthy_tuple pl (by simp only [List.size_toArray]; (first|lia|omega)) ⟨H,I.tok _,by rw [isEmpty_of r];exact q⟩
  ·subst e'
   obtain ⟨hz,hS,vs,r,m⟩:kvs.length≤sizeLine∧(p == sysModules)=false∧∃vs,KV kvs vs∧s.heap.DictOf (mixKind X.prog X.w) p vs:=I.hok p _ hx
   have hlen:kvs.length=vs.length:=Paired.length r
   exact wpAny_truthy_dict hS m (by first|lia|omega) ⟨H,I.tok _,by rw [isEmpty_kv r];exact q⟩
 | _=>exact (show False from e).elim
theorem pt_truth (ha:PE X a ta) (he:∀whole,isTrue a X.env whole=(do let v ←whole;standAt a.pos;holding [v] (truthy v))) :
  PT X a (fun σ H Q=>ta σ H fun x H'=>∃k,TruV X.K x H' k∧Q k H'):=by
 intro pins s σ H Q I h
 exact isTrue_plain (thn (ha s σ H _ I h) fun v s1 ⟨x,H1,I1,r1,q1⟩=>tru_ok s1 σ H1 x v Q I1 r1 q1) (he _)
theorem op_add_str:OpR X (binaryOp .Add) (fun x y H Q=>∃i j,x = .str i∧y = .str j∧i.length+j.length≤sizeLine∧Q (.str (i++j)) H):=by
 intro pins s σ H x y v u Q I rx ry h
 obtain ⟨i,j,rfl,rfl,hz,q⟩:=h
 obtain ⟨t,rfl⟩:=rx
 obtain ⟨t',rfl⟩:=ry
 exact add_str (fun t' tk=>⟨.str (i++j),H,I.tok _,⟨_,rfl⟩,q⟩) hz
theorem vals1 {x:V} {us:List Value} (r:Vals [x] us):∃u,us=[u]∧RelV x u:=by
 cases r with
 | cons r1 r2=>cases r2;exact ⟨_,rfl,r1⟩
theorem vals2 {x y:V} {us:List Value} (r:Vals [x,y] us):∃u w',us=[u,w']∧RelV x u∧RelV y w':=by
 cases r with
 | cons r1 r2=>
  cases r2 with
  | cons r3 r4=>cases r4;exact ⟨_,_,rfl,r1,r3⟩
theorem call_min2 (hc:X.calm=true):CallR X (.builtin "min") (fun xs H Q=>∃i j,xs=[.int i, .int j]∧Q (.int (if j<i then j else i)) H):=by
 intro pins s σ H xs us Q I r h
 obtain ⟨i,j,rfl,q⟩:=h
 obtain ⟨u,w',rfl,⟨t,rfl⟩,⟨t',rfl⟩⟩:=vals2 r
 refine min_two_ints (I.ok.hd hc) fun h' tk k=>⟨_,H,I.kept k,?_,q⟩
 by_cases hj:j<i
 ·rw [if_pos hj,if_pos hj];exact ⟨_,rfl⟩
 ·rw [if_neg hj,if_neg hj];exact ⟨_,rfl⟩
theorem call_int1:CallR X (.type "int") (fun xs H Q=>(∃i,xs=[.int i]∧Q (.int i) H)∨∃k,xs=[.bl k]∧Q (.int (if k then 1 else 0)) H):=by
 intro pins s σ H xs us Q I r h
 rcases h with ⟨i,rfl,q⟩|⟨k,rfl,q⟩
 ·obtain ⟨u,rfl,t,rfl⟩:=vals1 r
  exact call_int_int ⟨.int i,H,I,⟨_,rfl⟩,q⟩
 ·obtain ⟨u,rfl,r1⟩:=vals1 r
  cases r1
  exact call_int_bool ⟨.int (if k then 1 else 0),H,I.tok _,⟨_,rfl⟩,q⟩
noncomputable def LenV (K:PySem.W.Frag) (x:V) (H:Hp) (n:Nat):Prop:=
 match x with
 | .str y=>y.length≤sizeLine∧n=y.length
 | .byt y=>y.size≤sizeLine∧n=y.size
 | .ref p=>(∃xs,SqL K H p xs∧n=xs.length)∨∃xs,SqT K H p xs∧n=xs.length
 | _=>False
theorem call_len:CallR X (.builtin "len") (fun xs H Q=>∃x n,xs=[x]∧LenV X.K x H n∧Q (.int n) H):=by
 intro pins s σ H xs us Q I r h
 obtain ⟨x,n,rfl,e,q⟩:=h
 obtain ⟨u,rfl,rx⟩:=vals1 r
 have hl:=line63
 have hs:sizeLine=16777216:=sizeLine_eq
 cases x with
 | str y=>
  obtain ⟨t,rfl⟩:=rx
  obtain ⟨hy,e'⟩:y.length≤sizeLine∧n=y.length:=e
  subst e'
  exact len_str (by first|lia|omega) ⟨.int _,H,I.tok _,⟨_,rfl⟩,q⟩
 | byt y=>
  obtain ⟨t,rfl⟩:=rx
  obtain ⟨hy,e'⟩:y.size≤sizeLine∧n=y.size:=e
  subst e'
  exact PySem.W.len_bytes (by first|lia|omega) ⟨.int _,H,I.tok _,⟨_,rfl⟩,q⟩
 | ref p=>
  cases rx
  have e':(∃xs,SqL X.K H p xs∧n=xs.length)∨∃xs,SqT X.K H p xs∧n=xs.length:=e
  rcases e' with ⟨xs,hx,e'⟩|⟨xs,hx,e'⟩
  ·subst e'
   obtain ⟨its,r',pl,hz⟩:=I.list hx
   have hlen:=r'.length
   exact Calls.call_len_list pl.isList (by simp only [List.size_toArray]; (first|lia|omega)) ⟨.int xs.length,H,I.tok _,⟨_,by simp only [List.size_toArray];rw [hlen]⟩,q⟩
  ·subst e'
   obtain ⟨its,r',pl,hz⟩:=I.tuple hx
   have hlen:=r'.length
   exact len_tuple pl (by simp only [List.size_toArray]; (first|lia|omega)) ⟨.int xs.length,H,I.tok _,⟨_,by simp only [List.size_toArray];rw [hlen]⟩,q⟩
 | _=>exact (show False from e).elim
theorem call_divmod:CallR X (.builtin "divmod") (fun xs H Q=>∃i j,xs=[.int i, .int j]∧CDiv i j∧∀p,H p=none→Q (.ref p) (upd H p (.tup [.int (i / j), .int (i % j)]))):=by
 intro pins s σ H xs us Q I r h
 obtain ⟨i,j,rfl,⟨h1,h2⟩,q⟩:=h
 obtain ⟨u,w',rfl,⟨t,rfl⟩,⟨t',rfl⟩⟩:=vals2 r
 refine divmod_int (by first|lia|omega) ?_ (.inl (PyProof.noPylong_small (by first|lia|omega)))
 rw [Int.fdiv_eq_ediv_of_nonneg i (by first|lia|omega),Int.fmod_eq_emod_of_nonneg i (by first|lia|omega)]
 have hn:H s.heap.objs.size=none:=I.hok.fresh (Nat.le_refl _)
 refine ⟨.ref s.heap.objs.size,_,?_,rfl,q _ hn⟩
 refine I.laid (fun b o e=>Heap.get?_push_of_some _ e) (Nat.le_refl _) ⟨by simp only [List.length_cons,List.length_nil];rw [sizeLine_eq];decide,[.int (i / j) s.toks, .int (i % j) (s.toks+1)], .cons ⟨_,rfl⟩ (.cons ⟨_,rfl⟩ .nil),?_⟩
 exact ⟨_,Heap.get?_push_size s.heap rfl,rfl,0,rfl⟩
end
end L2
namespace L2
open PySem PySem.Spec PyProof.Rows
structure ObjM (h:Heap) (x dx C:Addr) (mA:Str→Option Value):Prop where
 obj:h.get? x=some (PySem.W.instObj C dx)
 ns:h.Ns1 dx mA
 ne:dx≠x
theorem lookIn_ns {h:Heap} {dx:Addr} {mA:Str→Option Value} (n:h.Ns1 dx mA):∃od,h.get? dx=some od∧∀name,PySem.W.lookIn name od=some (mA name):=by
 obtain ⟨o,es,ep,ho,hd,hk,_,hm⟩:=n
 refine ⟨o,ho,fun name => ?_⟩
 have e:=hm name
 unfold nsFind findBy at e
 rw [←Array.find?_toList] at e
 unfold PySem.W.lookIn
 rw [hd]
 dsimp only
 split
 ·rename_i y q
  rw [q] at e
  exact congrArg some e
 ·rename_i q
  rw [q] at e
  have a:es.toList.any (·.refKey)=false:=by
   rw [List.any_eq_false]
   intro y hy
   obtain ⟨z,t,hkey⟩:=hk y (Array.mem_toList_iff.mp hy)
   simp [DictEntry.refKey,hkey]
  have a':¬es.toList.any (·.refKey)=true:=by rw [a];exact Bool.false_ne_true
  rw [if_neg a']
  exact congrArg some e
theorem ObjM.look {h:Heap} {x dx C:Addr} {mA:Str→Option Value} (I:ObjM h x dx C mA):∃od,PySem.W.InstAt h x (PySem.W.instObj C dx) C (some od)∧∀name,PySem.W.lookIn name od=some (mA name):=
 let ⟨od,ho,hl⟩:=lookIn_ns I.ns
 ⟨od,⟨I.obj,rfl,rfl,ho⟩,hl⟩
section
variable {prog:Program} {w:World} {A:Around} {E:Value→Shared→Prop} {s:Shared} {K:PySem.W.Frag} {x dx C f:Addr} {mA:Str→Option Value} {name:Str} {v:Value}
end
theorem RelO.some_of {v:V} {o:Option Value} (r:RelO (some v) o):∃u,o=some u∧RelV v u:=by
 cases o with
 | none=>exact (show False from r).elim
 | some u=>exact ⟨u,rfl,r⟩
section
variable {P:Program} {w:World} {H H':Hp} {h h':Heap} {a C dx:Addr} {fs fs':List (Str×V)}
theorem ins_get (hok:HOk P w H h) (e:H a=some (.ins C dx fs)):∃mA,ObjM h a dx C mA∧(∀f,RelO (fs.lookup f) (mA f))∧PySem.Within mA (fs.map (·.1))∧fs.length≤1000∧H dx=some (.own a):=by
 obtain ⟨d,z,ne,ob,mA,n,r,q⟩:=(show ObjOk P w H h a (.ins C dx fs) from hok a _ e)
 exact ⟨mA,⟨ob,n,ne⟩,r,q,z,d⟩
end
structure Cls (K:PySem.W.Frag) (C:Addr):Prop where
 pg:PySem.W.plainGet K C Str.empty=true
 hd:PySem.W.hasDictIn K C=true
 po:PySem.W.plainOver K C=true
 sa:PySem.W.findIn K (.ref C) "__setattr__" = some (some (.builtin "object.__setattr__"))
theorem Cls.get {K:PySem.W.Frag} {C:Addr} (c:Cls K C) (f:Str):PySem.W.plainGet K C f=true:=c.pg
section
variable {X:Cx} {pins:List (Addr×Obj)} {σ:St} {H:Hp} {s:Shared} {a C dx:Addr} {fs:List (Str×V)} {f:Str} {v:V} {A:Around} {E:Value→Shared→Prop}
end
section
variable {X:Cx} {o e value:Expr} {f:Str} {pos pos' tpos:Pos} {ta tv:TE}
end
section
variable {X:Cx} {pins:List (Addr×Obj)} {σ:St} {H:Hp} {s:Shared} {A:Around} {E:Value→Shared→Prop} {Q:Value→Shared→Prop} {c:Value} {b:Bool}
inductive TyOf (K:PySem.W.Frag) (H:Hp):V→Value→Prop where
 | non:TyOf K H .non (.type "NoneType")
 | bl (x:Bool):TyOf K H (.bl x) (.type "bool")
 | int (i:Int):TyOf K H (.int i) (.type "int")
 | str (x:Str):TyOf K H (.str x) (.type "str")
 | flt (x:UInt64):TyOf K H (.flt x) (.type "float")
 | lst {a:Addr} {xs:List V} (e:H a=some (.lst xs)):TyOf K H (.ref a) (.type "list")
 | frz {a:Addr} {o:Obj} {xs:List V} (e:H a=some (.frz o (.lst xs))):TyOf K H (.ref a) (.type "list")
 | tup {a:Addr} {xs:List V} (e:H a=some (.tup xs)):TyOf K H (.ref a) (.type "tuple")
 | dK {a:Addr} {kvs:List (Key×V)} (e:H a=some (.dK kvs)):TyOf K H (.ref a) (.type "dict")
 | dT {a:Addr} {kvs:List (List Key×V)} (e:H a=some (.dT kvs)):TyOf K H (.ref a) (.type "dict")
 | ins {a C dx:Addr} {fs:List (Str×V)} (e:H a=some (.ins C dx fs)) (cl:Cls K C) (ha:PySem.W.findIn K (.ref C) "__class__" = some (some (.builtin "object.__class__")))
   (hn:PySem.W.specialIn K (.builtin "object.__class__") "__get__" = some (some (.builtin "getset_descriptor.__get__"))) (htk:PySem.W.takesIn K (.builtin "object.__class__")=some true)
   (hm:PySem.W.mroIn K C (.type "object")=some true):TyOf K H (.ref a) (.ref C)
theorem isinst_ok {x:V} {u t:Value} (I:Inv X pins σ H s) (rx:RelV x u) (ty:TyOf X.K H x t) (e:PySem.W.kitOne X.K t c=some b) (h:∀tk,Q (.bool b) { s with toks:=tk }) :
  wpAny (model X.prog X.w) A (call (.builtin "isinstance") [u,c]) Q E s:=by
 cases ty with
 | non=>cases (show u=Value.none from rx);exact PySem.W.kia_one PySem.W.kitx_none I.kIn True.intro e (fun z=>nomatch z) h
 | bl y=>cases (show u=Value.bool y from rx);exact PySem.W.kia_one PySem.W.kitx_bool I.kIn True.intro e (fun z=>nomatch z) h
 | int i=>obtain ⟨t,q⟩:=(show ∃t,u=Value.int i t from rx);cases q;exact PySem.W.kia_one PySem.W.kitx_int I.kIn True.intro e (fun z=>nomatch z) h
 | str y=>obtain ⟨t,q⟩:=(show ∃t,u=Value.str y t from rx);cases q;exact PySem.W.kia_one PySem.W.kitx_str I.kIn True.intro e (fun z=>nomatch z) h
 | flt y=>obtain ⟨t,q⟩:=(show ∃t,u=Value.float y t from rx);cases q;exact PySem.W.kia_one PySem.W.kitx_float I.kIn True.intro e (fun z=>nomatch z) h
 | @lst a xs ea=>
  cases (show u=Value.ref a from rx)
  obtain ⟨_,_,n,_,h1⟩:=(show ObjOk X.prog X.w H s.heap a (.lst xs) from I.hok a _ ea)
  exact PySem.W.kia_one PySem.W.kitx_list I.kIn ⟨_,h1,rfl⟩ e (fun z=>nomatch z) h
 | @frz a ob xs ea=>
  cases (show u=Value.ref a from rx)
  obtain ⟨_,_,_,n,_,h1⟩:=(show ObjOk X.prog X.w H s.heap a (.frz ob (.lst xs)) from I.hok a _ ea)
  exact PySem.W.kia_one PySem.W.kitx_list I.kIn ⟨_,h1,rfl⟩ e (fun z=>nomatch z) h
 | @tup a xs ea=>
  cases (show u=Value.ref a from rx)
  obtain ⟨_,_,_,p⟩:=(show ObjOk X.prog X.w H s.heap a (.tup xs) from I.hok a _ ea)
  obtain ⟨o,h1,h2,_⟩:=p
  exact PySem.W.kia_one PySem.W.kitx_tuple I.kIn ⟨o,h1,h2⟩ e (fun z=>nomatch z) h
 | @dK a kvs ea=>
  cases (show u=Value.ref a from rx)
  obtain ⟨_,_,vs,_,p⟩:=(show ObjOk X.prog X.w H s.heap a (.dK kvs) from I.hok a _ ea)
  obtain ⟨o,es,ep,h1,h2,_⟩:=p
  exact PySem.W.kia_one PySem.W.kitx_dict I.kIn ⟨o,h1,h2.1⟩ e (fun z=>nomatch z) h
 | @dT a kvs ea=>
  cases (show u=Value.ref a from rx)
  obtain ⟨_,_,xs,_,o,es,ep,h1,h2,_⟩:=(show ObjOk X.prog X.w H s.heap a (.dT kvs) from I.hok a _ ea)
  exact PySem.W.kia_one PySem.W.kitx_dict I.kIn ⟨o,h1,h2.1⟩ e (fun z=>nomatch z) h
 | @ins a C dx fs ea cl ha hn htk hm=>
  cases (show u=Value.ref a from rx)
  obtain ⟨mA,O,_⟩:=ins_get I.hok ea
  obtain ⟨od,J,_⟩:=O.look
  exact PySem.W.kia_one (PySem.W.kitx_own (cl.get _) cl.hd ha hn htk hm) I.kIn J e (fun z=>nomatch z) h
end
end L2
namespace L2
open PySem PySem.Spec PyProof.Rows
structure Room (k:Nat) (A:Around):Prop where
 hd:A.handled=none
 dp:A.depth+3*k+5<recursionLimit
 un:A.units+16*k+200<cLine
 gd:A.guards=some []
theorem Room.mono {j k:Nat} {A:Around} (r:Room k A) (h:j≤k):Room j A:=⟨r.hd,by have:=r.dp; (first|lia|omega),by have:=r.un; (first|lia|omega),r.gd⟩
theorem Room.deeper {k:Nat} {A:Around} (r:Room (k+1) A) (env:Env):Room k (A.deeper env):=
 ⟨r.hd,by have:=r.dp;show A.depth+1+3*k+5<_; (first|lia|omega),by have:=r.un;show A.units+3+16*k+200<_; (first|lia|omega),r.gd⟩
theorem Room.in1 {k:Nat} {A:Around} (r:Room (k+1) A):Room k A.in1:=
 ⟨r.hd,by have:=r.dp;show A.depth+3*k+5<_; (first|lia|omega),by have:=r.un;show A.units+1+16*k+200<_; (first|lia|omega),r.gd⟩
theorem make_depth {A:Around} {C:Addr} {us:List Value} {kw:List (Str×Value)} : (A.under (.builtin "type.__call__" ⟨.ref C :: us,kw⟩)).depth=A.depth+1:=by
 first|rfl|simp [Around.under,Code.weight,Code.isCreation,Code.isGuard,Code.isCaller,Code.frames,Code.isFrame,guardIds]
theorem make_units {A:Around} {C:Addr} {us:List Value} {kw:List (Str×Value)} : (A.under (.builtin "type.__call__" ⟨.ref C :: us,kw⟩)).units=A.units+1:=by
 first|rfl|simp [Around.under,Code.cUnits,Code.frames,Code.isFrame]
theorem make_guards {A:Around} {C:Addr} {us:List Value} {kw:List (Str×Value)} : (A.under (.builtin "type.__call__" ⟨.ref C :: us,kw⟩)).guards=A.guards:=by
 first|rfl|simp [Around.under,Code.guards,Code.isGuard,guardIds,pushGuards]
theorem Room.make {k:Nat} {A:Around} (r:Room (k+1) A) (C:Addr) (us:List Value) (kw:List (Str×Value)):Room k (A.under (.builtin "type.__call__" ⟨.ref C :: us,kw⟩)):=
 ⟨r.hd,by have:=r.dp;rw [make_depth]; (first|lia|omega),by have:=r.un;rw [make_units]; (first|lia|omega),by rw [make_guards];exact r.gd⟩
theorem Room.depth {k:Nat} {A:Around} (r:Room k A):A.depth<recursionLimit:=by have:=r.dp; (first|lia|omega)
theorem Room.units {k:Nat} {A:Around} (r:Room k A):A.units+64<cLine:=by have:=r.un; (first|lia|omega)
noncomputable def tNil:TA:=fun _ H Q=>Q [] H
noncomputable def tCons (ta:TE) (tr:TA):TA:=fun σ H Q=>ta σ H fun x H1=>tr σ H1 fun xs H2=>Q (x :: xs) H2
section
variable {X:Cx} {e:Expr} {es:List Expr} {te:TE} {t:TA} {pos:Pos}
theorem pa_nil:PA X [] tNil:=fun _ _ _ _ H Q I h=>Calls.spliced_nil ⟨[],H,I, .nil,h⟩
theorem pa_cons (ha:PE X e te) (hr:PA X es t) (hs:starEach (e :: es) X.env=(false,eval e X.env) :: starEach es X.env:=by rfl):PA X (e :: es) (tCons te t):=by
 intro pos pins s σ H Q I h
 rw [hs]
 show wpAny _ _ (spliced ((false,eval e X.env) :: backTo pos (starEach es X.env))) _ _ s
 refine Calls.spliced_cons (thn (ha s σ H _ I h) fun u s1 ⟨x,H1,I1,r1,q1⟩ => ?_)
 exact thn (hr s1 σ H1 _ I1 q1) fun us s2 ⟨xs,H2,I2,r2,q2⟩=>⟨x :: xs,H2,I2, .cons r1 r2,q2⟩
noncomputable def tTup (t:TA):TE:=fun σ H Q=>t σ H fun xs H1=>xs.length≤sizeLine∧∀p,H1 p=none→Q (.ref p) (upd H1 p (.tup xs))
noncomputable def tLst (t:TA):TE:=fun σ H Q=>t σ H fun xs H1=>xs.length≤sizeLine∧∀p,H1 p=none→Q (.ref p) (upd H1 p (.lst xs))
theorem pe_tup {x1} (h:PA X es t):PE X (.Tuple es x1 pos) (tTup t):=by
 intro pins s σ H Q I hq
 refine wpAny_Tuple_spliced (thn (h s σ H _ I hq) fun us s1 ⟨xs,H1,I1,r,z,q⟩=>⟨by rw [←r.length];exact z,?_⟩)
 have hf:H1 s1.heap.objs.size=none:=I1.hok.fresh (Nat.le_refl _)
 refine ⟨.ref s1.heap.objs.size,upd H1 s1.heap.objs.size (.tup xs),I1.laid (t':=s1.toks) (fun b u e=>Heap.get?_push_of_some _ e) (Nat.le_refl _) ?_,rfl,q _ hf⟩
 exact ⟨z,us,r,⟨_,Heap.get?_push_size _ rfl,rfl,_,rfl⟩⟩
theorem pe_lst (h:PA X es t):PE X (.List es pos) (tLst t):=by
 intro pins s σ H Q I hq
 refine wpAny_List_spliced (thn (h s σ H _ I hq) fun us s1 ⟨xs,H1,I1,r,z,q⟩=>⟨by rw [←r.length];exact z,?_⟩)
 have hf:H1 s1.heap.objs.size=none:=I1.hok.fresh (Nat.le_refl _)
 refine ⟨.ref s1.heap.objs.size,upd H1 s1.heap.objs.size (.lst xs),I1.laid (t':=s1.toks) (fun b u e=>Heap.get?_push_of_some _ e) (Nat.le_refl _) ?_,rfl,q _ hf⟩
 exact ⟨z,us,0,r,Heap.get?_push_size _ rfl⟩
end
noncomputable abbrev Sp:=List V→Hp→VK→XK→Prop
noncomputable abbrev CXT:=List Env→Hp→Shared→XK→Value→Shared→Prop
structure Env0 (P:Program) (w:World) (K:PySem.W.Frag) (mg:Str→Option Value) (base:Heap) (A:Around) (outer:List Env) (s:Shared) (H:Hp):Prop where
 frames:A.frames=some outer
 mod:Mod K mg base
 bs:∀b o,base.get? b=some o→s.heap.get? b=some o∧H b=none
 bsz:base.objs.size≤s.heap.objs.size
 funs:s.heap.FunFrames base outer
 frf:∀b∈frs outer,H b=none
 hok:HOk P w H s.heap
 bare:AllBare s.gens
noncomputable def CE (outer:List Env) (P:Program) (w:World) (H:Hp) (s:Shared) (Q:VK) (u:Value) (s':Shared):Prop:=
 Ex2 fun v H'=>s'.os=s.os∧AllBare s'.gens∧Un (frs outer) [] H H' s.heap s'.heap∧HOk P w H' s'.heap∧RelV v u∧Q v H'
noncomputable def CR (CX:CXT) (outer:List Env) (P:Program) (w:World) (H:Hp) (s:Shared) (Q:VK) (E:XK) (r:Result) (s':Shared):Prop:=
 match r with
 | .ok (.ret u)=>CE outer P w H s Q u s'
 | .ok _=>False
 | .error e=>CX outer H s E e s'
structure FnOk (P:Program) (w:World) (K:PySem.W.Frag) (mg:Str→Option Value) (base:Heap) (CX:CXT) (k:Nat) (f:Addr) (fd:FuncData) (ps:List Str) (sp:Sp):Prop where
 len:∀vs H Q E,sp vs H Q E→vs.length=ps.length
 run:∀(A:Around) (outer:List Env) (s:Shared) (H:Hp) (args:Args) (us:List Value) (vs:List V) (Q:VK) (E:XK),Room k A→Env0 P w K mg base A outer s H→BindsTo s fd args (ps.zip us)→Vals vs us→sp vs H Q E →
  codeAny (model P w) A (.call (.ref f) args) (CR CX outer P w H s Q E) s
theorem FnOk.mono {P:Program} {w:World} {K:PySem.W.Frag} {mg:Str→Option Value} {base:Heap} {CX:CXT} {j k:Nat} {f:Addr} {fd:FuncData} {ps:List Str} {sp:Sp} (F:FnOk P w K mg base CX j f fd ps sp) (h:j≤k) :
  FnOk P w K mg base CX k f fd ps sp:=⟨F.len,fun A outer s H args us vs Q E hr=>F.run A outer s H args us vs Q E (hr.mono h)⟩
theorem FnOk.imp {P:Program} {w:World} {K:PySem.W.Frag} {mg:Str→Option Value} {base:Heap} {CX:CXT} {k:Nat} {f:Addr} {fd:FuncData} {ps:List Str} {sp sp':Sp} (F:FnOk P w K mg base CX k f fd ps sp)
  (h:∀vs H Q E,sp' vs H Q E→sp vs H Q E):FnOk P w K mg base CX k f fd ps sp':=
 ⟨fun vs H Q E q=>F.len vs H Q E (h _ _ _ _ q),fun A outer s H args us vs Q E hr he hb hv hs=>F.run A outer s H args us vs Q E hr he hb hv (h _ _ _ _ hs)⟩
theorem Env0.make {P:Program} {w:World} {K:PySem.W.Frag} {mg:Str→Option Value} {base:Heap} {A:Around} {outer:List Env} {s:Shared} {H:Hp} (e:Env0 P w K mg base A outer s H) (C:Addr) (us:List Value) (kw:List (Str×Value)) :
  Env0 P w K mg base (A.under (.builtin "type.__call__" ⟨.ref C :: us,kw⟩)) outer s H:=⟨by first|exact e.frames|(simpa [Around.under,Code.envs,Code.isFrame,pushEnvs] using e.frames),e.mod,e.bs,e.bsz,e.funs,e.frf,e.hok,e.bare⟩
theorem Env0.in1 {P:Program} {w:World} {K:PySem.W.Frag} {mg:Str→Option Value} {base:Heap} {A:Around} {outer:List Env} {s:Shared} {H:Hp} (e:Env0 P w K mg base A outer s H) :
  Env0 P w K mg base A.in1 outer s H:=⟨e.frames,e.mod,e.bs,e.bsz,e.funs,e.frf,e.hok,e.bare⟩
section
variable {X:Cx} {pins:List (Addr×Obj)} {σ:St} {H:Hp} {s s':Shared}
theorem Inv.env0 (I:Inv X pins σ H s):Env0 X.prog X.w X.K X.mg X.base X.A X.stack s H:=
 ⟨I.ok.frames,I.ok.mod,I.bs,Nat.le_trans I.ok.bsz I.sz,I.stack,I.stkFree,I.hok,I.bare⟩
theorem Inv.after {Q:VK} {u:Value} (I:Inv X pins σ H s) (h:CE X.stack X.prog X.w H s Q u s'):EP X pins σ Q u s':=by
 obtain ⟨v,H',os,bare,un,hok,r,q⟩:=h
 obtain ⟨hh,g,d,t,os'⟩:=s'
 obtain rfl:os'=s.os:=os
 exact ⟨v,H',I.call (h':=hh) (g':=g) (d':=d) (t':=t) (ch:=[]) un hok bare (fun b z=>absurd z (by simp)),r,q⟩
end
noncomputable def tCall (sp:Sp) (dvs:List V) (E:XK) (t:TA):TE:=fun σ H Q=>t σ H fun vs H1=>sp (vs++dvs) H1 Q E
noncomputable def Binds (K:PySem.W.Frag) (fd:FuncData) (ps:List Str) (ds:List Value):Prop:=
 ∀(s:Shared) (us:List Value),K.In s.heap→(us++ds).length=ps.length→BindsTo s fd ⟨us,[]⟩ (ps.zip (us++ds))
theorem Binds.all {K:PySem.W.Frag} {fd:FuncData} {ps:List Str} (h:∀us:List Value,us.length=ps.length→bindArgs fd ⟨us,[]⟩=pure (ps.zip us)):Binds K fd ps []:=fun s us _ hl=>by
 rw [List.append_nil] at hl ⊢
 exact .of_eq (h us hl)
noncomputable def Passes (CX:CXT) (X:Cx) (E:XK):Prop:=∀(pins:List (Addr×Obj)) (σ:St) (H:Hp) (s:Shared) (e:Value) (s':Shared),Inv X pins σ H s→CX X.stack H s E e s'→X.xe e s'
section
variable {X:Cx} {CX:CXT} {k:Nat} {f C:Addr} {fd:FuncData} {ps:List Str} {sp:Sp} {dvs:List V} {ds:List Value} {E:XK} {x m:Str} {p pos apos:Pos} {e o:Expr} {es:List Expr} {ta:TE} {t:TA}
theorem run_fn {pins:List (Addr×Obj)} {σ:St} {H:Hp} {s:Shared} {Q:VK} {us:List Value} {vs:List V} (F:FnOk X.prog X.w X.K X.mg X.base CX k f fd ps sp) (hr:Room k X.A) (hb:Binds X.K fd ps ds) (hd:Vals dvs ds) (hx:Passes CX X E)
  (I:Inv X pins σ H s) (r:Vals vs us) (h:sp (vs++dvs) H Q E):wpAny (model X.prog X.w) X.A (call (.ref f) us) (EP X pins σ Q) X.xe s:=by
 have r2:Vals (vs++dvs) (us++ds):=r.append hd
 have hl:(us++ds).length=ps.length:=by rw [←r2.length];exact F.len _ _ _ _ h
 refine wpAny_call (codeAny_mono (F.run X.A X.stack s H ⟨us,[]⟩ (us++ds) (vs++dvs) Q E hr I.env0 (hb s us I.kIn hl) r2 h) fun r s' hq => ?_)
 cases r with
 | error e=>exact hx pins σ H s e s' I hq
 | ok fl=>
  cases fl with
  | ret u=>exact I.after hq
  | next=>exact False.elim hq
  | brk=>exact False.elim hq
  | cont=>exact False.elim hq
theorem pe_call (F:FnOk X.prog X.w X.K X.mg X.base CX k f fd ps sp) (hr:Room k X.A) (hg:Gl X x) (hm:X.mg x=some (.ref f)) (hk:PySem.W.keepIn X.K (.ref f)=true) (hb:Binds X.K fd ps ds) (hd:Vals dvs ds) (hx:Passes CX X E)
  (ha:PA X (e :: es) t) (hdb:(x == ("__debug__" : Str))=false:=by decide) (he:starEach (e :: es) X.env=(false,eval e X.env) :: starEach es X.env:=by rfl) (hpl:(backTo pos (starEach es X.env)).any (·.1)=false:=by rfl) :
  PE X (.Call (.Name x p) (e :: es) [] pos) (tCall sp dvs E t):=by
 intro pins s σ H Q I h
 refine wpAny_Call_Name_kw (ld_glob I hg hm ?_ hdb)
 refine PySem.W.callWith_K (h₀:=X.base) I.ok.mod.kin hk (thn (ha s σ H _ I h) fun us s1 ⟨vs,H1,I1,r,q⟩=>⟨I1.kIn,?_⟩) he hpl
 exact run_fn F hr hb hd hx I1 r q
end
noncomputable def PK (X:Cx) (kws:List Keyword) (t:TA):Prop:=
 ∀ ⦃pos:Pos⦄ ⦃pins:List (Addr×Obj)⦄ (s:Shared) (σ:St) (H:Hp) (Q:List V→Hp→Prop),Inv X pins σ H s→t σ H Q→wpAny (model X.prog X.w) X.A (evalAll ((backToKw pos (keywordEach kws X.env)).map (·.2))) (AP X pins σ Q) X.xe s
section
variable {X:Cx} {CX:CXT} {k:Nat} {f C:Addr} {fd:FuncData} {ps ks:List Str} {sp:Sp} {E:XK} {x m:Str} {p pos apos kpos:Pos} {e o:Expr} {es:List Expr} {kws:List Keyword} {te ta:TE} {t tk:TA} {nm:Option Str}
theorem pk_nil:PK X [] tNil:=fun _ _ _ _ H Q I h=>wpAny_evalAll_nil ⟨[],H,I, .nil,h⟩
theorem pk_cons (ha:PE X e te) (hr:PK X kws t):PK X (⟨nm,e,kpos⟩ :: kws) (tCons te t):=by
 intro pos pins s σ H Q I h
 show wpAny _ _ (evalAll ((do let v ←eval e X.env;standAt pos;pure v) :: (backToKw pos (keywordEach kws X.env)).map (·.2))) _ _ s
 refine wpAny_evalAll_cons (wpAny_bind (thn (ha s σ H _ I h) fun u s1 ⟨x,H1,I1,r1,q1⟩=>wpAny_bind (wpAny_standAt (wpAny_pure ?_))))
 exact thn (hr s1 σ H1 _ I1 q1) fun us s2 ⟨xs,H2,I2,r2,q2⟩=>⟨x :: xs,H2,I2, .cons r1 r2,q2⟩
variable {g:List Value→List Value→List Value} {gV:List V→List V→List V}
end
structure FnScope (N P:List Str) (sc:Scope):Prop where
 kind:sc.kind = .function
 co:sc.isCoroutine=false
 gen:sc.isGenerator=false
 nd:N.Nodup
 pre:N.take P.length=P
 par:∀x∈P,sc.names.lookup x=some .local∨sc.names.lookup x=some .cell
 nofree:∀y∈sc.names,y.2 ≠ .free
theorem bindL_out {kindOf:Str→Option NameKind} {x:Str} : ∀{binds:List (Str×Value)} {m:Str→Option Value},(∀v,(x,v) ∉ binds)→bindL kindOf binds m x=m x
 | [],_,_=>rfl
 | (n,v) :: r,m,h=>by
  unfold bindL
  rw [bindL_out fun w hw=>h w (List.mem_cons_of_mem _ hw)]
  split
  ·have:x≠n:=by rintro rfl;exact h v List.mem_cons_self
   simp [this]
  ·rfl
theorem bindC_out {kindOf:Str→Option NameKind} {x:Str} : ∀{binds:List (Str×Value)} {m:Str→Option Value},(∀v,(x,v) ∉ binds)→bindC kindOf binds m x=m x
 | [],_,_=>rfl
 | (n,v) :: r,m,h=>by
  unfold bindC
  rw [bindC_out fun w hw=>h w (List.mem_cons_of_mem _ hw)]
  split
  ·rfl
  ·have:x≠n:=by rintro rfl;exact h v List.mem_cons_self
   simp [this]
theorem bindL_get {kindOf:Str→Option NameKind} {x:Str} {v:Value} : ∀{P:List Str} {vs:List Value} {i:Nat} {m:Str→Option Value},P.Nodup→P[i]? = some x→vs[i]? = some v→kindOf x=some .local →
  bindL kindOf (P.zip vs) m x=some v
 | [],_,_,_,_,h,_,_=>by simp at h
 | _ :: _,[],_,_,_,_,h,_=>by simp at h
 | p :: P,w :: vs,0,m,nd,h1,h2,hk=>by
  simp at h1 h2;subst h1;subst h2
  show bindL kindOf ((p,w) :: P.zip vs) m p=_
  unfold bindL
  rw [bindL_out fun v hv=>(List.nodup_cons.mp nd).1 (List.of_mem_zip hv).1,if_pos hk]
  simp
 | p :: P,w :: vs,i+1,m,nd,h1,h2,hk=>by
  show bindL kindOf ((p,w) :: P.zip vs) m x=_
  unfold bindL
  exact bindL_get (i:=i) (List.nodup_cons.mp nd).2 (by simpa using h1) (by simpa using h2) hk
theorem bindC_get {kindOf:Str→Option NameKind} {x:Str} {v:Value} : ∀{P:List Str} {vs:List Value} {i:Nat} {m:Str→Option Value},P.Nodup→P[i]? = some x→vs[i]? = some v→kindOf x≠some .local →
  bindC kindOf (P.zip vs) m x=some v
 | [],_,_,_,_,h,_,_=>by simp at h
 | _ :: _,[],_,_,_,_,h,_=>by simp at h
 | p :: P,w :: vs,0,m,nd,h1,h2,hk=>by
  simp at h1 h2;subst h1;subst h2
  show bindC kindOf ((p,w) :: P.zip vs) m p=_
  unfold bindC
  rw [bindC_out fun v hv=>(List.nodup_cons.mp nd).1 (List.of_mem_zip hv).1,if_neg hk]
  simp
 | p :: P,w :: vs,i+1,m,nd,h1,h2,hk=>by
  show bindC kindOf ((p,w) :: P.zip vs) m x=_
  unfold bindC
  exact bindC_get (i:=i) (List.nodup_cons.mp nd).2 (by simpa using h1) (by simpa using h2) hk
noncomputable def start (N:List Str) (vs:List V):St:=vs.map some++List.replicate (N.length-vs.length) none
noncomputable def cxOf (CX:CXT) (P:Program) (w:World) (K:PySem.W.Frag) (mg:Str→Option Value) (base:Heap) (N:List Str) (qual:Str) (scope:Scope) (f:Addr) (cd:Value) (A:Around) (outer:List Env) (s:Shared) (H:Hp) (E:XK):Cx where
 prog:=P
 w:=w
 K:=K
 mg:=mg
 base:=base
 A:=A.deeper (envOfC qual scope s.heap.objs.size f cd)
 N:=N
 s₀:=s
 H₀:=H
 env:=envOfC qual scope s.heap.objs.size f cd
 outer:=outer
 stack:=envOfC qual scope s.heap.objs.size f cd :: outer
 ex:=[]
 calm:=true
 fn:=fun _=>true
 pn:=[]
 xe:=fun e s'=>wpAny (model P w) (A.deeper (envOfC qual scope s.heap.objs.size f cd)) (leaving (envOfC qual scope s.heap.objs.size f cd) e) (fun _ s''=>CX outer H s E e s'') (fun e' s''=>CX outer H s E e' s'') s'
theorem cell_has {sc:Scope} {n:Nat} {x:Str} (h:sc.names.lookup x=some .cell):∃c,(cellsFrom n sc.names []).lookup x=some c:=by
 have q:=PySem.W.cellsFrom_some sc.names n [] (.inl h)
 exact Option.isSome_iff_exists.mp q
theorem inv_start {CX:CXT} {P:Program} {w:World} {K:PySem.W.Frag} {mg:Str→Option Value} {base:Heap} {N ps:List Str} {qual:Str} {scope:Scope} {f:Addr} {cd:Value} {A:Around} {outer:List Env} {s s1:Shared} {H:Hp} {E:XK} {us:List Value} {vs:List V}
  (S:FnScope N ps scope) (hd:A.handled=none) (e0:Env0 P w K mg base A outer s H) (hl:vs.length=ps.length) (r:Vals vs us)
  (x:InCallC s s.heap.objs.size (bindL (envOfC qual scope s.heap.objs.size f cd).kindOf (ps.zip us) fun _=>none) (cellsFrom (s.heap.objs.size+1) scope.names []) (bindC (envOfC qual scope s.heap.objs.size f cd).kindOf (ps.zip us) fun _=>none) s1) :
  Inv (cxOf CX P w K mg base N qual scope f cd A outer s H E) [] (start N vs) H s1:=by
 have hpl:ps.length≤N.length:=by have:=congrArg List.length S.pre;rw [List.length_take] at this; (first|lia|omega)
 obtain ⟨h1,tk,rfl,hk⟩:=x.done
 have noA:∀b:Addr,b ∉ (cxOf CX P w K mg base N qual scope f cd A outer s H E).ex:=fun b z=>absurd (show b∈([]:List Addr) from z) (by simp)
 refine ⟨⟨e0.mod,S.kind,rfl,rfl,Nat.le_refl _,fun y z c h1 h2 => ?_,fun y hy => ?_,fun y c _ h => ?_,fun _=>hd,Around.frames_deeper e0.frames, .inr ⟨rfl,rfl⟩,fun b z=>absurd z (noA b),e0.bs,e0.bsz,fun b _ _=>noA b,fun b z=>absurd z (noA b),e0.funs,e0.frf⟩,
  rfl,e0.bare,Un.kept hk,⟨_,x.toInCall.ns,fun i y v h1 h2 h3 => ?_⟩,fun y c h=>⟨_,x.cell y c h⟩,e0.hok.fresh (Nat.le_refl _),fun y c h => ?_,fun p hp=>absurd (show p∈([]:List (Addr×Obj)) from hp) (by simp),e0.hok.kept hk,?_⟩
 ·exact name_of_addr x.apart (PySem.mem_of_lookup h1) (PySem.mem_of_lookup h2)
 ·have hy:scope.names.lookup y=some .cell∨scope.names.lookup y=some .free:=hy
  rcases hy with hy|hy
  ·exact cell_has hy
  ·exact absurd rfl (S.nofree _ (PySem.mem_of_lookup hy))
 ·exact Nat.le_of_lt (x.above y c (PySem.mem_of_lookup h))
 ·have hi:i<vs.length:=by
   unfold start at h2
   by_cases hi:i<vs.length
   ·exact hi
   ·rw [List.getElem?_append_right (by simpa using hi)] at h2
    rw [List.getElem?_replicate] at h2
    split at h2 <;> cases h2
  have ha:vs[i]? = some v:=by
   unfold start at h2
   rw [List.getElem?_append_left (by simpa using hi),List.getElem?_map] at h2
   cases e:vs[i]? with
   | none=>rw [e] at h2;cases h2
   | some a=>rw [e] at h2;cases h2;rfl
  obtain ⟨u,hu,rv⟩:=r.get ha
  have hp:ps[i]? = some y:=by
   rw [←S.pre,List.getElem?_take_of_lt (by first|lia|omega)];exact h1
  have ndP:ps.Nodup:=by rw [←S.pre];exact S.nd.sublist (List.take_sublist _ _)
  refine ⟨u,rv,?_⟩
  rcases S.par y (List.mem_of_getElem? hp) with k|k
  ·exact .inl ⟨k,bindL_get ndP hp hu k⟩
  ·obtain ⟨c,e⟩:=cell_has (n:=s.heap.objs.size+1) k
   refine .inr ⟨.inl k,c,e,?_⟩
   have q:=x.cell y c e
   rw [bindC_get ndP hp hu (by show scope.names.lookup y≠_;rw [k];decide)] at q
   exact q
 ·exact e0.hok.fresh (Nat.le_of_lt (x.above y c (PySem.mem_of_lookup h)))
 ·unfold start
  show _=N.length
  rw [List.length_append,List.length_map,List.length_replicate]
  (first|lia|omega)
theorem fn_of {CX:CXT} {P:Program} {w:World} {K:PySem.W.Frag} {mg:Str→Option Value} {base:Heap} {k:Nat} {f:Addr} {name qual:Str} {params:Arguments} {body:List Stmt} {scope:Scope} {dV kV doc pm cdv ct oc:Value} {an od:Option Addr}
  {osl:Array (Option Value)} {N ps:List Str} {sp:Sp} (lk:K.lookup f=some ⟨oc,od, .func (PySem.W.fnOf name qual params body scope dV kV doc pm an cdv ct),osl⟩) (hcd:PySem.W.codeIn K cdv qual=true) (S:FnScope N ps scope)
  (len:∀vs H Q E,sp vs H Q E→vs.length=ps.length)
  (hbody:∀(A:Around) (outer:List Env) (s:Shared) (H:Hp) (vs:List V) (Q:VK) (E:XK),Room k (A.deeper (envOfC qual scope s.heap.objs.size f cdv))→sp vs H Q E →
   ∃t,PSs (cxOf CX P w K mg base N qual scope f cdv A outer s H E) body t∧t { nx:=fun _ H'=>Q .non H',rt:=Q } (start N vs) H) :
  FnOk P w K mg base CX (k+1) f (PySem.W.fnOf name qual params body scope dV kV doc pm an cdv ct) ps sp:=by
 refine ⟨len,fun A outer s H args us vs Q E hr e0 hb r hsp => ?_⟩
 have hl:=len _ _ _ _ hsp
 have KX:K.In s.heap:=e0.mod.kin.keeps fun b o e=>(e0.bs b o e).1
 have lim:s.heap.NoLimit:=e0.mod.nolimit.keeps fun b o e=>(e0.bs b o e).1
 have hkind:∀y∈ps.zip us,scope.names.lookup y.1=some .local∨(scope.names.lookup y.1=some .cell∧((cellsFrom (s.heap.objs.size+1) scope.names []).lookup y.1).isSome=true):=fun ⟨n,v⟩ hy=>by
  rcases S.par n (List.of_mem_zip hy).1 with q|q
  ·exact .inl q
  ·exact .inr ⟨q,PySem.W.cellsFrom_some _ _ _ (.inl q)⟩
 refine codeAny_call_function hr.depth (KX _ _ lk) rfl S.co S.gen rfl (PySem.W.codeRec_of KX hcd) (hb _ _ _ _ ?_)
 refine wpAny_newFunctionEnv_cells S.kind hkind fun env he s1 x => ?_
 subst he
 refine ⟨lim.keeps x.toInCall.keep,codeAny_func ?_⟩
 obtain ⟨t,ht,hq⟩:=hbody A outer s H vs Q E (hr.deeper _) hsp
 have I:Inv (cxOf CX P w K mg base N qual scope f cdv A outer s H E) [] (start N vs) H s1:=inv_start S hr.hd e0 hl r x
 refine wpAny_mono (ht s1 (start N vs) H _ I hq) (fun fl s' hs => ?_) fun e s' hs=>hs
 have fin:∀{σ':St} {H':Hp} {v:V} {u:Value},Inv (cxOf CX P w K mg base N qual scope f cdv A outer s H E) [] σ' H' s'→RelV v u→Q v H'→CE outer P w H s Q u s':=
  fun {σ' H' v u} J rv q=>⟨v,H',J.os,J.bare,J.base,J.hok,rv,q⟩
 cases fl with
 | ret u=>
  obtain ⟨v, σ',H',J,rv,q⟩:=hs
  exact fin J rv q
 | next=>
  obtain ⟨σ',H',J,q⟩:=hs
  exact fin (v:=V.non) (u:=Value.none) J rfl q
 | brk=>
  obtain ⟨_,_,_,q⟩:=hs
  exact False.elim q
 | cont=>
  obtain ⟨_,_,_,q⟩:=hs
  exact False.elim q
end L2
namespace L2
open PySem PySem.Spec PyProof.Rows
section
variable {X:Cx} {x:Str} {p pos:Pos} {e:Expr} {es:List Expr} {t:TA} {id T:String} {r:List V→Hp→VK→Prop}
noncomputable def tCB (r:List V→Hp→VK→Prop) (t:TA):TE:=fun σ H Q=>t σ H fun vs H1=>r vs H1 Q
theorem pe_callB (hc:CallR X (.builtin id) r) (hg:Gl X x) (hm:X.mg x=none) (hv:bootBuiltins x=some (.builtin id)) (ha:PA X (e :: es) t) (hn:x ≠ "__name__":=by decide) (hdb:(x == ("__debug__" : Str))=false:=by decide)
  (he:starEach (e :: es) X.env=(false,eval e X.env) :: starEach es X.env:=by rfl) (hpl:(backTo pos (starEach es X.env)).any (·.1)=false:=by rfl):PE X (.Call (.Name x p) (e :: es) [] pos) (tCB r t):=by
 intro pins s σ H Q I h
 refine wpAny_Call_Name_kw (ld_blt I hg hm hv ?_ hn hdb)
 exact PyProof.Rows.callWith_builtin1 (thn (ha s σ H _ I h) fun us s1 ⟨vs,H1,I1,r1,q1⟩=>hc s1 σ H1 vs us Q I1 r1 q1) he hpl
theorem pe_callTy (hc:CallR X (.type T) r) (hg:Gl X x) (hm:X.mg x=none) (hv:bootBuiltins x=some (.type T)) (ha:PA X (e :: es) t) (hn:x ≠ "__name__":=by decide) (hdb:(x == ("__debug__" : Str))=false:=by decide)
  (he:starEach (e :: es) X.env=(false,eval e X.env) :: starEach es X.env:=by rfl) (hpl:(backTo pos (starEach es X.env)).any (·.1)=false:=by rfl):PE X (.Call (.Name x p) (e :: es) [] pos) (tCB r t):=by
 intro pins s σ H Q I h
 refine wpAny_Call_Name_kw (ld_blt I hg hm hv ?_ hn hdb)
 exact PyProof.Rows.callWith_type1 (thn (ha s σ H _ I h) fun us s1 ⟨vs,H1,I1,r1,q1⟩=>hc s1 σ H1 vs us Q I1 r1 q1) he hpl
end
end L2
namespace L2
open PySem PySem.Spec PyProof.Rows
section
variable {κ:Type} [DecidableEq κ]
noncomputable def valV (kvs:List (κ×V)) (k : κ):Option V:=(kvs.find? fun kv=>decide (kv.1=k)).map (·.2)
noncomputable def putK (kvs:List (κ×V)) (k : κ) (v:V):List (κ×V):=
 if (kvs.any fun kv=>decide (kv.1=k))=true then kvs.map (fun kv=>if kv.1=k then (kv.1,v) else kv) else kvs++[(k,v)]
noncomputable def dropK (kvs:List (κ×V)) (k : κ):List (κ×V):=kvs.filter fun kv=>decide (kv.1≠k)
theorem valV_pos {p : κ×V} {r:List (κ×V)} {k : κ} (e:p.1=k):valV (p :: r) k=some p.2:=by simp [valV,List.find?_cons,e]
theorem valV_neg {p : κ×V} {r:List (κ×V)} {k : κ} (e:¬p.1=k):valV (p :: r) k=valV r k:=by simp [valV,List.find?_cons,e]
theorem valV_any (k : κ):∀kvs:List (κ×V),(kvs.any fun kv=>decide (kv.1=k))=(valV kvs k).isSome
 | []=>rfl
 | p :: r=>by
  rw [List.any_cons]
  by_cases e:p.1=k
  ·simp only [valV_pos e,decide_eq_true e,Bool.true_or,Option.isSome_some]
  ·rw [valV_neg e,decide_eq_false e,Bool.false_or];exact valV_any k r
theorem length_putK (kvs:List (κ×V)) (k : κ) (v:V):(putK kvs k v).length≤kvs.length+1:=by
 unfold putK
 split
 ·rw [List.length_map]; (first|lia|omega)
 ·rw [List.length_append,List.length_cons,List.length_nil]; (first|lia|omega)
theorem putK_new {kvs:List (κ×V)} {k : κ} (v:V) (h:valV kvs k=none):putK kvs k v=kvs++[(k,v)]:=by
 unfold putK
 rw [valV_any,h]
 exact if_neg (by decide)
theorem RelO.isSome_eq {o:Option V} {u:Option Value} (r:RelO o u):o.isSome=u.isSome:=by
 cases o with
 | none=>cases u with
  | none=>rfl
  | some _=>exact (show False from r).elim
 | some _=>cases u with
  | none=>exact (show False from r).elim
  | some _=>rfl
theorem KV.val {kvs:List (κ×V)} {vs:List (κ×Value)} (r:KV kvs vs) (k : κ):RelO (valV kvs k) (valueAt vs k):=by
 unfold KV at r
 induction r with
 | nil=>exact True.intro
 | @cons p q ps qs h t ih=>
  obtain ⟨h1,h2⟩:=h
  by_cases e:p.1=k
  ·have e':q.1=k:=h1.symm.trans e
   have b:valueAt (q :: qs) k=some q.2:=by simp [valueAt,List.find?_cons,e']
   rw [valV_pos e,b];exact h2
  ·have e':¬q.1=k:=fun z=>e (h1.trans z)
   have b:valueAt (q :: qs) k=valueAt qs k:=by simp [valueAt,List.find?_cons,e']
   rw [valV_neg e,b];exact ih
theorem KV.any {kvs:List (κ×V)} {vs:List (κ×Value)} (r:KV kvs vs) (k : κ):(kvs.any fun kv=>decide (kv.1=k))=vs.any fun kv=>decide (kv.1=k):=by
 unfold KV at r
 induction r with
 | nil=>rfl
 | cons h t ih=>rw [List.any_cons,List.any_cons,ih,h.1]
theorem KV.repl {kvs:List (κ×V)} {vs:List (κ×Value)} (r:KV kvs vs) (k : κ) {y:V} {u:Value} (ry:RelV y u) :
  KV (kvs.map fun kv=>if kv.1=k then (kv.1,y) else kv) (vs.map fun kv=>if kv.1=k then (kv.1,u) else kv):=by
 unfold KV at r ⊢
 induction r with
 | nil=>exact .nil
 | @cons p q ps qs h t ih=>
  rw [List.map_cons,List.map_cons]
  refine .cons ?_ ih
  obtain ⟨h1,h2⟩:=h
  by_cases e:p.1=k
  ·rw [if_pos e,if_pos (h1.symm.trans e)];exact ⟨h1,ry⟩
  ·rw [if_neg e,if_neg (fun z=>e (h1.trans z))];exact ⟨h1,h2⟩
theorem KV.put {kvs:List (κ×V)} {vs:List (κ×Value)} (r:KV kvs vs) (k : κ) {y:V} {u:Value} (ry:RelV y u):KV (putK kvs k y) (stored vs k u):=by
 unfold putK stored
 rw [r.any k]
 by_cases e:(vs.any fun kv=>decide (kv.1=k))=true
 ·rw [if_pos e,if_pos e];exact r.repl k ry
 ·rw [if_neg e,if_neg e];exact Paired.snoc r ⟨rfl,ry⟩
theorem KV.drop {kvs:List (κ×V)} {vs:List (κ×Value)} (r:KV kvs vs) (k : κ):KV (dropK kvs k) (without vs k):=by
 unfold KV at r ⊢
 unfold dropK without
 induction r with
 | nil=>exact .nil
 | @cons p q ps qs h t ih=>
  obtain ⟨h1,h2⟩:=h
  rw [List.filter_cons,List.filter_cons]
  by_cases e:p.1=k
  ·have a:¬decide (p.1≠k)=true:=by simp [e]
   have b:¬decide (q.1≠k)=true:=by simp [h1.symm.trans e]
   rw [if_neg a,if_neg b];exact ih
  ·have e':¬q.1=k:=fun z=>e (h1.trans z)
   have a:decide (p.1≠k)=true:=by simp [e]
   have b:decide (q.1≠k)=true:=by simp [e']
   rw [if_pos a,if_pos b];exact .cons ⟨h1,h2⟩ ih
theorem KV.length {kvs:List (κ×V)} {vs:List (κ×Value)} (r:KV kvs vs):kvs.length=vs.length:=Paired.length r
theorem dropK_le (kvs:List (κ×V)) (k : κ):(dropK kvs k).length≤kvs.length:=List.length_filter_le _ _
end
theorem kV_is {P:Program} {w:World} {k:Key} {u:Value} (r:RelV (kV k) u):(mixKind P w).is k u=true:=by
 cases k with
 | inl i=>obtain ⟨t,e⟩:=(show ∃t,u=Value.int i t from r);subst e;exact mixKind_int P w i t
 | inr x=>obtain ⟨t,e⟩:=(show ∃t,u=Value.str x t from r);subst e;exact mixKind_str P w x t
theorem items_are {P:Program} {w:World} : ∀{ks:List Key} {us:List Value},Vals (ks.map kV) us→ItemsAre (mixKind P w) ks us
 | [],_,r=>by rw [List.map_nil] at r;cases r;exact .nil
 | k :: ks,_,r=>by
  rw [List.map_cons] at r
  cases r with
  | cons h t=>exact .cons (kV_is h) (items_are t)
noncomputable abbrev KT (H:Hp):List (List Key×V)→List (List Key×Addr×Value)→Prop:=Paired fun p q=>p.1=q.1∧H q.2.1=some (.tup (p.1.map kV))∧RelV p.2 q.2.2
theorem KT.val {H:Hp} {kvs:List (List Key×V)} {xs:List (List Key×Addr×Value)} (r:KT H kvs xs) (k:List Key):RelO (valV kvs k) ((atKey xs k).map (·.2)):=by
 induction r with
 | nil=>exact True.intro
 | @cons p q ps qs h t ih=>
  obtain ⟨h1,_,h2⟩:=h
  by_cases e:p.1=k
  ·have e':q.1=k:=h1.symm.trans e
   have b:atKey (q :: qs) k=some q.2:=by simp [atKey,List.find?_cons,e']
   rw [valV_pos e,b];exact h2
  ·have e':¬q.1=k:=fun z=>e (h1.trans z)
   have b:atKey (q :: qs) k=atKey qs k:=by simp [atKey,List.find?_cons,e']
   rw [valV_neg e,b];exact ih
theorem KT.repl {H:Hp} {kvs:List (List Key×V)} {xs:List (List Key×Addr×Value)} (r:KT H kvs xs) (k:List Key) {y:V} {u:Value} (ry:RelV y u) :
  KT H (kvs.map fun kv=>if kv.1=k then (kv.1,y) else kv) (xs.map (putAt k u)):=by
 induction r with
 | nil=>exact .nil
 | @cons p q ps qs h t ih=>
  rw [List.map_cons,List.map_cons]
  refine .cons ?_ ih
  obtain ⟨h1,h2,h3⟩:=h
  unfold putAt
  by_cases e:p.1=k
  ·rw [if_pos e,if_pos (h1.symm.trans e)];exact ⟨h1,h2,ry⟩
  ·rw [if_neg e,if_neg (fun z=>e (h1.trans z))];exact ⟨h1,h2,h3⟩
theorem KT.put {H:Hp} {kvs:List (List Key×V)} {xs:List (List Key×Addr×Value)} (r:KT H kvs xs) (k:List Key) {b:Addr} {y:V} {u:Value} (hb:H b=some (.tup (k.map kV))) (ry:RelV y u) :
  KT H (putK kvs k y) (storedH xs k b u):=by
 have e:(kvs.any fun kv=>decide (kv.1=k))=(atKey xs k).isSome:=by
  rw [valV_any,(r.val k).isSome_eq,Option.isSome_map]
 unfold putK storedH
 rw [e]
 by_cases q:(atKey xs k).isSome=true
 ·rw [if_pos q,if_pos q];exact r.repl k ry
 ·rw [if_neg q,if_neg q];exact Paired.snoc r ⟨rfl,hb,ry⟩
theorem KT.keeps {H H':Hp} {kvs:List (List Key×V)} {xs:List (List Key×Addr×Value)} (r:KT H kvs xs) (ht:∀b ys,H b=some (.tup ys)→H' b=some (.tup ys)):KT H' kvs xs:=
 Paired.mapP r fun _ _ z=>⟨z.1,ht _ _ z.2.1,z.2.2⟩
section
variable {P:Program} {w:World} {H:Hp} {h:Heap} {a:Addr}
theorem rd_of {u:HO} (ok:HOk P w H h) (e:Rd H a u):ObjOk P w H h a u:=e.ok ok
theorem dk_rd {kvs:List (Key×V)} (ok:HOk P w H h) (e:Rd H a (.dK kvs)):kvs.length≤sizeLine∧(a == sysModules)=false∧∃vs,KV kvs vs∧h.DictOf (mixKind P w) a vs:=
 show ObjOk P w H h a (.dK kvs) from rd_of ok e
theorem dk_of {kvs:List (Key×V)} (ok:HOk P w H h) (e:H a=some (.dK kvs)):kvs.length≤sizeLine∧(a == sysModules)=false∧∃vs,KV kvs vs∧h.DictOf (mixKind P w) a vs:=dk_rd ok (.inl e)
theorem key_of {ks:List Key} (ok:HOk P w H h) (e:H a=some (.tup (ks.map kV))):(tupleKind (mixKind P w)).is h ks a:=by
 obtain ⟨_,its,r,o,h1,h2,n,h3⟩:=(show ObjOk P w H h a (.tup (ks.map kV)) from ok a _ e)
 exact ⟨o,its.toArray,n,h1,h2,h3,by simpa using items_are r⟩
theorem dt_rd {kvs:List (List Key×V)} (ok:HOk P w H h) (e:Rd H a (.dT kvs)):kvs.length≤sizeLine∧(a == sysModules)=false ∧
  ∃xs,KT H kvs xs∧h.DictOfH (tupleKind (mixKind P w)) a xs:=by
 obtain ⟨z,y,xs,r,o,es,ep,h1,h2,h3,h4,h5⟩:=(show ObjOk P w H h a (.dT kvs) from rd_of ok e)
 refine ⟨z,y,xs,r,o,es,ep,h1,h2,h3,h4,fun x hx => ?_,h5⟩
 have all:∀{l:List (List Key×V)} {m:List (List Key×Addr×Value)},KT H l m→∀x∈m,(tupleKind (mixKind P w)).is h x.1 x.2.1:=by
  intro l m q
  induction q with
  | nil=>intro x hx;exact nomatch hx
  | @cons p q ps qs hq t ih=>
   intro x hx
   rcases List.mem_cons.mp hx with e|hx
   ·subst e
    exact key_of ok (by rw [←hq.1];exact hq.2.1)
   ·exact ih x hx
 exact all r x hx
theorem dt_of {kvs:List (List Key×V)} (ok:HOk P w H h) (e:H a=some (.dT kvs)):kvs.length≤sizeLine∧(a == sysModules)=false ∧
  ∃xs,KT H kvs xs∧h.DictOfH (tupleKind (mixKind P w)) a xs:=dt_rd ok (.inl e)
end
noncomputable def DGet (H:Hp) (a:Addr) (y:V) (r:Option V):Prop:=
 (Ex2 fun kvs k=>Rd H a (.dK kvs)∧y=kV k∧r=valV kvs k)∨Ex3 fun kvs k b=>Rd H a (.dT kvs)∧y = .ref b∧H b=some (.tup (k.map kV))∧r=valV kvs k
noncomputable def DPut (H:Hp) (a:Addr) (y v:V) (H':Hp):Prop:=
 (Ex2 fun kvs k=>H a=some (.dK kvs)∧y=kV k∧kvs.length<sizeLine∧H'=upd H a (.dK (putK kvs k v))) ∨
 Ex3 fun kvs k b=>H a=some (.dT kvs)∧y = .ref b∧H b=some (.tup (k.map kV))∧kvs.length<sizeLine∧H'=upd H a (.dT (putK kvs k v))
theorem DGet.k {H:Hp} {a:Addr} {kvs:List (Key×V)} {k:Key} (e:H a=some (.dK kvs)):DGet H a (kV k) (valV kvs k) := .inl ⟨kvs,k, .inl e,rfl,rfl⟩
theorem DPut.k {H:Hp} {a:Addr} {kvs:List (Key×V)} {k:Key} {v:V} (e:H a=some (.dK kvs)) (hl:kvs.length<sizeLine):DPut H a (kV k) v (upd H a (.dK (putK kvs k v))) := .inl ⟨kvs,k,e,rfl,hl,rfl⟩
section
variable {X:Cx} {pins:List (Addr×Obj)} {σ:St} {H:Hp} {s:Shared} {a:Addr} {y v:V} {u r:Value} {o:Option V} {A:Around} {E:Value→Shared→Prop}
theorem Inv.big (I:Inv X pins σ H s):sysModules<s.heap.objs.size:=by
 have h:mainGlobals<s.heap.objs.size:=(I.mod.glob.keeps I.bk).lt
 exact Nat.lt_trans (by decide) h
theorem d_getItem {Q:Value→Shared→Prop} (hu:A.units+1<cLine) (I:Inv X pins σ H s) (g:DGet H a y (some v)) (ry:RelV y u) (h:∀w' s',Inv X pins σ H s'→RelV v w'→Q w' s') :
  wpAny (model X.prog X.w) A (getItem (.ref a) u) Q E s:=by
 rcases g with ⟨kvs,k,e,ey,l⟩|⟨kvs,k,b,e,ey,eb,l⟩
 ·subst ey
  obtain ⟨z,hd,vs,rel,dd⟩:=dk_rd I.hok e
  obtain ⟨w',hw,rw'⟩:=RelO.some_of (v:=v) (o:=valueAt vs k) (by rw [l];exact rel.val k)
  exact wpAny_getItem_of (kV_is ry) dd.mapOf hw (h w' _ (I.tok _) rw')
 ·subst ey
  cases (show u=Value.ref b from ry)
  obtain ⟨z,hd,xs,rel,dd⟩:=dt_rd I.hok e
  obtain ⟨w',hw,rw'⟩:=RelO.some_of (v:=v) (o:=(atKey xs k).map (·.2)) (by rw [l];exact rel.val k)
  obtain ⟨p,hp,hp2⟩:=Option.map_eq_some_iff.mp hw
  refine wpAny_getItem_heap (tupleKind_room_in1 hu) (key_of I.hok eb) dd hp ?_
  rw [hp2]
  exact h w' _ (I.tok _) rw'
theorem d_in {Q:Value→Shared→Prop} (hu:A.units+1<cLine) (I:Inv X pins σ H s) (g:DGet H a y o) (ry:RelV y u) (h:∀s',Inv X pins σ H s'→Q (.bool o.isSome) s') :
  wpAny (model X.prog X.w) A (compareOp .In u (.ref a)) Q E s:=by
 rcases g with ⟨kvs,k,e,ey,l⟩|⟨kvs,k,b,e,ey,eb,l⟩
 ·subst ey
  obtain ⟨z,hd,vs,rel,dd⟩:=dk_rd I.hok e
  refine wpAny_in_of (kV_is ry) hd dd.mapOf ?_
  rw [←(rel.val k).isSome_eq, ←l]
  exact h _ (I.tok _)
 ·subst ey
  cases (show u=Value.ref b from ry)
  obtain ⟨z,hd,xs,rel,dd⟩:=dt_rd I.hok e
  refine wpAny_in_heap (tupleKind_room_in1 hu) (key_of I.hok eb) hd dd ?_
  have q:=(rel.val k).isSome_eq
  rw [Option.isSome_map] at q
  rw [←q, ←l]
  exact h _ (I.tok _)
theorem d_notIn {Q:Value→Shared→Prop} (hu:A.units+1<cLine) (I:Inv X pins σ H s) (g:DGet H a y o) (ry:RelV y u) (h:∀s',Inv X pins σ H s'→Q (.bool (!o.isSome)) s') :
  wpAny (model X.prog X.w) A (compareOp .NotIn u (.ref a)) Q E s:=by
 rcases g with ⟨kvs,k,e,ey,l⟩|⟨kvs,k,b,e,ey,eb,l⟩
 ·subst ey
  obtain ⟨z,hd,vs,rel,dd⟩:=dk_rd I.hok e
  refine wpAny_notIn_of (kV_is ry) hd dd.mapOf ?_
  rw [←(rel.val k).isSome_eq, ←l]
  exact h _ (I.tok _)
 ·subst ey
  cases (show u=Value.ref b from ry)
  obtain ⟨z,hd,xs,rel,dd⟩:=dt_rd I.hok e
  refine wpAny_notIn_heap (tupleKind_room_in1 hu) (key_of I.hok eb) hd dd ?_
  have q:=(rel.val k).isSome_eq
  rw [Option.isSome_map] at q
  rw [←q, ←l]
  exact h _ (I.tok _)
theorem d_write {h':Heap} {t':Nat} {ob:HO} (I:Inv X pins σ H s) (mu:Mut (H a)) (hs:Heap.SameBut a s.heap h') (he:∃q,h'.get? a=some q) (new:ObjOk X.prog X.w (upd H a ob) h' a ob) :
  Inv X pins σ (upd H a ob) { s with heap:=h',toks:=t' }:=
 I.write (x:=a) (e:=a) mu (.inl rfl) (fun b q hb z=>(hs.2 b hb).trans z) he new
theorem dk_new {P:Program} {w:World} {H':Hp} {h':Heap} {kvs:List (Key×V)} {vs:List (Key×Value)} (z:kvs.length≤sizeLine) (hd:(a == sysModules)=false) (rel:KV kvs vs) (dd:h'.DictOf (mixKind P w) a vs) :
  ObjOk P w H' h' a (.dK kvs):=⟨z,hd,vs,rel,dd⟩
theorem d_setItem {H':Hp} {Q:Unit→Shared→Prop} (hu:A.units+1<cLine) (I:Inv X pins σ H s) (g:DPut H a y v H') (ry:RelV y u) (rv:RelV v r) (h:∀s',Inv X pins σ H' s'→Q () s') :
  wpAny (model X.prog X.w) A (setItem (.ref a) u r) Q E s:=by
 rcases g with ⟨kvs,k,e,ey,l,eH⟩|⟨kvs,k,b,e,ey,eb,l,eH⟩
 ·subst ey eH
  obtain ⟨z,hd,vs,rel,dd⟩:=dk_of I.hok e
  have hz:vs.length≤sizeLine:=by rw [←rel.length];exact z
  have hl:(putK kvs k v).length≤sizeLine:=by have:=length_putK kvs k v; (first|lia|omega)
  refine wpAny_setItem_pairs (hsz:=hz) (kV_is ry) dd fun h' dd' hs=>h _ ?_
  have he:∃q,h'.get? a=some q:=let ⟨q,_,_,hq,_⟩:=dd'; ⟨q,hq⟩
  exact d_write I (by rw [e];exact True.intro) hs he (dk_new hl hd (rel.put k rv) dd')
 ·subst ey eH
  cases (show u=Value.ref b from ry)
  obtain ⟨z,hd,xs,rel,dd⟩:=dt_of I.hok e
  have hz:xs.length≤sizeLine:=by rw [←Paired.length rel];exact z
  have hl:(putK kvs k v).length≤sizeLine:=by have:=length_putK kvs k v; (first|lia|omega)
  refine wpAny_setItem_heap (hsz:=hz) (tupleKind_room_in1 hu) (key_of I.hok eb) dd fun h' dd' hs=>h _ ?_
  obtain ⟨q,es,ep,hq,h2,h3,h4,_,h5⟩:=dd'
  refine d_write I (by rw [e];exact True.intro) hs ⟨q,hq⟩ ⟨hl,hd,_,(rel.put k eb rv).keeps fun c ys ec => ?_,q,es,ep,hq,h2,h3,h4,h5⟩
  rw [upd_ne (ne_of ec e (fun z=>nomatch z))]
  exact ec
end
section
variable {X:Cx} {pins:List (Addr×Obj)} {σ:St} {H:Hp} {s:Shared} {a:Addr} {kvs:List (Key×V)} {k:Key} {u:Value} {A:Around} {E:Value→Shared→Prop}
theorem d_delItem {Q:Unit→Shared→Prop} (I:Inv X pins σ H s) (e:H a=some (.dK kvs)) (ry:RelV (kV k) u) (l:(valV kvs k).isSome=true) (h:∀s',Inv X pins σ (upd H a (.dK (dropK kvs k))) s'→Q () s') :
  wpAny (model X.prog X.w) A (delItem (.ref a) u) Q E s:=by
 obtain ⟨z,hd,vs,rel,dd⟩:=dk_of I.hok e
 refine wpAny_delItem_slot dd.typeIs (by decide) PySem.F.slot_dict_delitem
  (call_meetsIn PySem.F.slot_dict_delitem dd.typeIs PySem.F.entry_dict_delitem (PySem.F.args_dict_delitem_2 _ _) (meets_dict_delitem_pairs (mixKind X.prog X.w) a (kV_is ry)) ⟨vs,dd,by rw [←rel.length];exact z,by rw [←(rel.val k).isSome_eq];exact l,fun h' dd' hs=>h _ ?_⟩)
 have he:∃q,h'.get? a=some q:=let ⟨q,_,_,hq,_⟩:=dd'; ⟨q,hq⟩
 exact d_write I (by rw [e];exact True.intro) hs he (dk_new (Nat.le_trans (dropK_le kvs k) z) hd (rel.drop k) dd')
end
noncomputable def NoSl (i:Expr):Prop:=∀ov iv,subscripted i false ov iv=operate [ov,iv] (getItem ov iv)
theorem subD_of {prog:Program} {w:World} {A:Around} {E:Value→Shared→Prop} {s:Shared} {env:Env} {value slice:Expr} {pos:Pos} {T id:String} {Q:Value→Shared→Prop}
  (hl:typeLookup (.type T) "__getitem__" = pure (some (.builtin id))) (hs:NoSl slice)
  (h:wpAny (model prog w) A (eval value env) (fun o s₁=>wpAny (model prog w) A (eval slice env) (fun i s₂=>s₂.TypeIs o T∧wpAny (model prog w) A (getItem o i) Q E s₂) E s₁) E s) :
  wpAny (model prog w) A (eval (.Subscript value slice pos) env) Q E s:=by
 refine Subscript_ (wpAny_mono h (fun o s₁ h₁=>wpAny_mono h₁ (fun i s₂ h₂ => ?_) fun _ _ x=>x) fun _ _ x=>x)
 obtain ⟨hT,h₂⟩:=h₂
 unfold subscriptTail
 refine wpAny_bind ?_
 rw [getitemInPython_of_ne hT.not_modules]
 refine wpAny_bind (wpAny_specialOf hT hl ?_)
 have fin:wpAny (model prog w) A (subscripted slice false o i) (fun r s₃=>wpAny (model prog w) A (letTemporaryGo value o r >>= fun _=>pure r) Q E s₃) E s₂:=by
  rw [hs o i]
  exact wpAny_operating (wpAny_mono h₂ (fun r s₃ h₃=>wpAny_bind (wpAny_letTemporaryGo (wpAny_pure h₃))) fun _ _ x=>x)
 first
  | exact wpAny_pure (wpAny_bind fin)
  | exact wpAny_bind (wpAny_pure (wpAny_bind fin))
  | exact wpAny_bind fin
theorem dict_typeIs {X:Cx} {pins:List (Addr×Obj)} {σ:St} {H:Hp} {s:Shared} {a:Addr} {y:V} {o:Option V} (I:Inv X pins σ H s) (g:DGet H a y o):s.TypeIs (.ref a) "dict":=by
 rcases g with ⟨kvs,k,e,_,_⟩|⟨kvs,k,b,e,_,_,_⟩
 ·obtain ⟨_,_,vs,_,dd⟩:=dk_rd I.hok e
  exact dd.typeIs
 ·obtain ⟨_,_,xs,_,dd⟩:=dt_rd I.hok e
  exact dd.typeIs
noncomputable def tDGet (td ty:TE):TE:=fun σ H Q=>td σ H fun x H1=>ty σ H1 fun y H2=>Ex2 fun a v=>x = .ref a∧DGet H2 a y (some v)∧Q v H2
noncomputable def tDIn (ty td:TE):TE:=fun σ H Q=>ty σ H fun y H1=>td σ H1 fun x H2=>Ex2 fun a o=>x = .ref a∧DGet H2 a y o∧Q (.bl o.isSome) H2
noncomputable def tDNotIn (ty td:TE):TE:=fun σ H Q=>ty σ H fun y H1=>td σ H1 fun x H2=>Ex2 fun a o=>x = .ref a∧DGet H2 a y o∧Q (.bl (!o.isSome)) H2
noncomputable def sDPut (td ty tv:TE):TS:=fun D σ H=>tv σ H fun v H1=>td σ H1 fun x H2=>ty σ H2 fun y H3=>Ex2 fun a H4=>x = .ref a∧DPut H3 a y v H4∧D.nx σ H4
noncomputable def sDDel (td ty:TE):TS:=fun D σ H=>td σ H fun x H1=>ty σ H1 fun y H2=>Ex3 fun a kvs k=>x = .ref a∧H2 a=some (.dK kvs)∧y=kV k∧(valV kvs k).isSome=true∧D.nx σ (upd H2 a (.dK (dropK kvs k)))
section
variable {X:Cx} {o i e value:Expr} {pos pos' tpos:Pos} {td ty tv:TE}
theorem pe_dget (hu:X.A.units+1<cLine) (ho:PE X o td) (hi:PE X i ty) (hs:NoSl i):PE X (.Subscript o i pos) (tDGet td ty):=by
 intro pins s σ H Q I h
 refine subD_of PySem.F.slot_dict_getitem.lookup hs (thn (ho s σ H _ I h) fun u s1 ⟨x,H1,I1,rx,q1⟩=>thn (hi s1 σ H1 _ I1 q1) fun iv s2 ⟨y,H2,I2,ry,a,v,ex,g,q2⟩ => ?_)
 subst ex
 obtain rfl:u=Value.ref a:=rx
 exact ⟨dict_typeIs I2 g,d_getItem hu I2 g ry fun w' s3 I3 rw'=>⟨v,H2,I3,rw',q2⟩⟩
theorem pc_din (hu:X.A.units+1<cLine) (hi:PE X i ty) (ho:PE X o td):PC X .In i o (tDIn ty td):=by
 intro pins s σ H Q I h
 refine thn (hi s σ H _ I h) fun iv s1 ⟨y,H1,I1,ry,q1⟩=>thn (ho s1 σ H1 _ I1 q1) fun u s2 ⟨x,H2,I2,rx,a,ov,ex,g,q2⟩ => ?_
 subst ex
 obtain rfl:u=Value.ref a:=rx
 exact d_in hu I2 g ry fun s3 I3=>⟨.bl ov.isSome,H2,I3,rfl,q2⟩
theorem pc_dnotin (hu:X.A.units+1<cLine) (hi:PE X i ty) (ho:PE X o td):PC X .NotIn i o (tDNotIn ty td):=by
 intro pins s σ H Q I h
 refine thn (hi s σ H _ I h) fun iv s1 ⟨y,H1,I1,ry,q1⟩=>thn (ho s1 σ H1 _ I1 q1) fun u s2 ⟨x,H2,I2,rx,a,ov,ex,g,q2⟩ => ?_
 subst ex
 obtain rfl:u=Value.ref a:=rx
 exact d_notIn hu I2 g ry fun s3 I3=>⟨.bl (!ov.isSome),H2,I3,rfl,q2⟩
theorem ps_dput (hu:X.A.units+1<cLine) (ho:PE X o td) (hi:PE X i ty) (hv:PE X value tv) (hs:swapsWith value (some (.Subscript o i pos')) pos.line X.env=pure false) :
  PS X (.Assign [.Subscript o i pos'] value pos) (sDPut td ty tv):=by
 intro pins s σ H D I h
 refine wpAny_Assign_Subscript (thn (hv s σ H _ I h) fun r s1 ⟨v,H1,I1,rv,q1⟩=>thn (ho s1 σ H1 _ I1 q1) fun u s2 ⟨x,H2,I2,rx,q2⟩=>thn (hi s2 σ H2 _ I2 q2) fun iv s3 ⟨y,H3,I3,ry,a,H4,ex,g,q3⟩ => ?_) hs
 subst ex
 obtain rfl:u=Value.ref a:=rx
 exact d_setItem hu I3 g ry rv fun s4 I4=>⟨σ,H4,I4,q3⟩
theorem ps_ddel (ho:PE X o td) (hi:PE X i ty):PS X (.Delete [.Subscript o i tpos] pos) (sDDel td ty):=by
 intro pins s σ H D I h
 refine wpAny_Delete (wpAny_deleteEach_cons (wpAny_delete_Subscript (thn (ho s σ H _ I h) fun u s1 ⟨x,H1,I1,rx,q1⟩=>thn (hi s1 σ H1 _ I1 q1) fun iv s2 ⟨y,H2,I2,ry,a,kvs,k,ex,e,ey,l,q2⟩ => ?_)))
 subst ex ey
 obtain rfl:u=Value.ref a:=rx
 exact d_delItem I2 e ry l fun s3 I3=>wpAny_deleteEach_nil ⟨σ,_,I3,q2⟩
end
theorem dk_empty {P:Program} {w:World} {H:Hp} (h:Heap) (hb:sysModules<h.objs.size):ObjOk P w H (h.push { cls := .type "dict",data := .dict #[] }) h.objs.size (.dK []):=
 ⟨Nat.zero_le _,beq_eq_false_iff_ne.mpr (Ne.symm (Nat.ne_of_lt hb)),[], .nil,Heap.DictOf.new h⟩
noncomputable def tDNewK:TE:=fun _ H Q=>∀p,H p=none→Q (.ref p) (upd H p (.dK []))
section
variable {X:Cx} {pos:Pos}
theorem pe_dnewK:PE X (.Dict [] [] pos) tDNewK:=fun pins s σ H Q I h=>
 wpAny_Dict_empty ⟨.ref s.heap.objs.size,_,I.laid (a:=s.heap.objs.size) (o := .dK []) (t':=s.toks) (fun _ _ q=>Heap.get?_push_of_some _ q) (Nat.le_refl _) (dk_empty s.heap I.big),rfl,h _ (I.hok.fresh (Nat.le_refl _))⟩
end
noncomputable def tPairs:List (TE×TE)→St→Hp→(List (V×V)→Hp→Prop)→Prop
 | [],_,H,Q=>Q [] H
 | (tk,tv) :: r, σ,H,Q=>tk σ H fun x H1=>tv σ H1 fun y H2=>tPairs r σ H2 fun ps H3=>Q ((x,y) :: ps) H3
noncomputable abbrev VV:List (V×V)→List (Value×Value)→Prop:=Paired fun p q=>RelV p.1 q.1∧RelV p.2 q.2
noncomputable def PPs (X:Cx) (pos:Pos) (keys:List (Option Expr)) (values:List Expr) (trs:List (TE×TE)):Prop:=
 ∀ ⦃pins:List (Addr×Obj)⦄ (s:Shared) (σ:St) (H:Hp) (Q:List (V×V)→Hp→Prop),Inv X pins σ H s→tPairs trs σ H Q →
  wpAny (model X.prog X.w) X.A (evalPairs (pairTrees keys values X.env pos)) (fun vs s'=>Ex2 fun ps H'=>Inv X pins σ H' s'∧VV ps vs∧Q ps H') X.xe s
theorem pps_nil {X:Cx} {pos:Pos} : PPs X pos [] [] []:=fun pins s σ H Q I h=>pairTrees_nil_walk ⟨[],H,I, .nil,h⟩
theorem pps_cons {X:Cx} {pos:Pos} {k v:Expr} {ks:List (Option Expr)} {vs:List Expr} {tk tv:TE} {trs:List (TE×TE)} (hk:PE X k tk) (hv:PE X v tv) (hr:PPs X pos ks vs trs) :
  PPs X pos (some k :: ks) (v :: vs) ((tk,tv) :: trs):=fun pins s σ H Q I h=>
 pairTrees_cons_walk (thn (hk s σ H _ I h) fun u s1 ⟨x,H1,I1,rx,q1⟩=>thn (hv s1 σ H1 _ I1 q1) fun w2 s2 ⟨y,H2,I2,ry,q2⟩=>
  thn (hr s2 σ H2 _ I2 q2) fun ws s3 ⟨ps,H3,I3,rel,q3⟩=>⟨(x,y) :: ps,H3,I3, .cons ⟨rx,ry⟩ rel,q3⟩)
noncomputable def mergeK (kvs more:List (Key×V)):List (Key×V):=more.foldl (fun acc kv=>putK acc kv.1 kv.2) kvs
theorem KV.merge:∀{more:List (Key×V)} {rs:List (Key×Value)} {kvs:List (Key×V)} {vs:List (Key×Value)},KV more rs→KV kvs vs→KV (mergeK kvs more) (merged vs rs):=by
 intro more rs kvs vs r
 unfold KV at r
 induction r generalizing kvs vs with
 | nil=>intro q;exact q
 | @cons p q ps qs h t ih=>
  intro r0
  have e:KV (putK kvs p.1 p.2) (stored vs q.1 q.2):=by
   have:=r0.put p.1 h.2
   rw [←h.1];exact this
  exact ih e
theorem length_mergeK:∀(more kvs:List (Key×V)),(mergeK kvs more).length≤kvs.length+more.length
 | [],kvs=>by show kvs.length≤kvs.length+0; (first|lia|omega)
 | p :: r,kvs=>by
  have h1:=length_mergeK r (putK kvs p.1 p.2)
  have h2:=length_putK kvs p.1 p.2
  show (mergeK (putK kvs p.1 p.2) r).length≤_
  rw [List.length_cons]; (first|lia|omega)
theorem carries_of {P:Program} {w:World} : ∀{kvs:List (Key×V)} {ws:List (Value×Value)},VV (kvs.map fun kv=>(kV kv.1,kv.2)) ws→∃rs,Carries (mixKind P w) ws rs∧KV kvs rs
 | [],_,r=>by rw [List.map_nil] at r;cases r;exact ⟨[],True.intro, .nil⟩
 | p :: kvs,_,r=>by
  rw [List.map_cons] at r
  cases r with
  | @cons a b as bs h t=>
   obtain ⟨rs,c,q⟩:=carries_of (P:=P) (w:=w) t
   obtain ⟨b1,b2⟩:=b
   exact ⟨(p.1,b2) :: rs,⟨kV_is h.1,rfl,c⟩, .cons ⟨rfl,h.2⟩ q⟩
noncomputable def tDisp (trs:List (TE×TE)):TE:=fun σ H Q=>∀p,H p=none→tPairs trs σ (upd H p (.dK [])) fun ps H2=>H2 p=some (.dK [])∧∃kvs:List (Key×V),ps=kvs.map (fun kv=>(kV kv.1,kv.2))∧kvs.length≤15∧Q (.ref p) (upd H2 p (.dK (mergeK [] kvs)))
theorem pe_disp {X:Cx} {pos:Pos} {keys:List (Option Expr)} {values:List Expr} {trs:List (TE×TE)} (h:PPs X pos keys values trs) (hall:keys.all (·.isSome)=true) (hl:keys.length=values.length) (h0:keys≠[])
  (h15:keys.length≤15):PE X (.Dict keys values pos) (tDisp trs):=by
 intro pins s σ H Q I q
 have hn:=I.hok.fresh (Nat.le_refl s.heap.objs.size)
 have I1:=I.laid (a:=s.heap.objs.size) (o := .dK []) (h':=s.heap.push { cls := .type "dict",data := .dict #[] }) (t':=s.toks) (fun _ _ q=>Heap.get?_push_of_some _ q) (Nat.le_refl _) (dk_empty s.heap I.big)
 refine wpAny_Dict_walk (knd:=mixKind X.prog X.w) hall hl h0 h15 (thn (h _ σ _ _ I1 (q _ hn)) fun ws s2 ⟨ps,H2,I2,rel,e,kvs,ep,lk,q2⟩ => ?_)
 subst ep
 obtain ⟨rs,c,rk⟩:=carries_of (P:=X.prog) (w:=X.w) rel
 obtain ⟨z,hd,vs0,r0,dd⟩:=dk_of I2.hok e
 cases r0
 refine ⟨rs,c,dd,fun h' dd' hs=>⟨.ref s.heap.objs.size,_,?_,rfl,q2⟩⟩
 have hz:(mergeK [] kvs).length≤sizeLine:=by
  have h1:=length_mergeK kvs []
  rw [List.length_nil] at h1
  rw [sizeLine_eq]; (first|lia|omega)
 have he:∃q,h'.get? s.heap.objs.size=some q:=let ⟨q,_,_,hq,_⟩:=dd'; ⟨q,hq⟩
 exact d_write I2 (by rw [e];exact True.intro) hs he (dk_new hz hd (rk.merge .nil) dd')
section
variable {X:Cx} {pins:List (Addr×Obj)} {σ:St} {H:Hp} {s:Shared} {a:Addr} {y d:V} {u r:Value} {o:Option V} {A:Around} {E:Value→Shared→Prop}
end
section
variable {X:Cx} {o e f:Expr} {apos cpos:Pos} {td ty tx:TE}
end
section
variable {X:Cx} {pins:List (Addr×Obj)} {σ:St} {H:Hp} {s:Shared} {a:Addr} {kvs:List (Key×V)} {A:Around} {E:Value→Shared→Prop}
end
section
variable {X:Cx} {pins:List (Addr×Obj)} {σ:St} {H:Hp} {s:Shared} {a:Addr} {y:V} {u:Value} {A:Around} {E:Value→Shared→Prop}
end
end L2
namespace HT
open PySem PyProof.Rows
section
open PySem.SeqAt
open PySem.AutoSeq1 (wpAny_loadPart')
open PySem.MeetsSeq PySem.MeetsSeq2 PySem.MeetsSeq3
end
section
variable {prog:Program} {w:World} {A:Around} {E:Value→Shared→Prop} {s:Shared}
noncomputable def sIx (n d:Nat):Option Int→Nat
 | none=>d
 | some v=>if v<0 then (v+(n:Int)).toNat else min v.toNat n
theorem sIx_none (n d:Nat):sIx n d none=d:=rfl
theorem sIx_nat (n d k:Nat):sIx n d (some (k:Int))=min k n:=by
 show (if (k:Int)<0 then ((k:Int)+(n:Int)).toNat else min (k:Int).toNat n)=min k n
 rw [if_neg (by first|lia|omega),Int.toNat_natCast]
end
end HT
namespace L2
open PySem PySem.Spec PyProof.Rows
noncomputable abbrev TO:=St→Hp→(Option Int→Hp→Prop)→Prop
noncomputable def PO (X:Cx) (e:Option Expr) (t:TO):Prop:=
 ∀ ⦃pins:List (Addr×Obj)⦄ (s:Shared) (σ:St) (H:Hp) (Q:Option Int→Hp→Prop),Inv X pins σ H s→t σ H Q →
  wpAny (model X.prog X.w) X.A (evalPart e X.env) (fun u s'=>Ex2 fun o H'=>Inv X pins σ H' s'∧IsPart u o∧Q o H') X.xe s
noncomputable def tNoPart:TO:=fun _ H Q=>Q none H
noncomputable def tPart (t:TE):TO:=fun σ H Q=>t σ H fun x H1=>∃i,x = .int i∧Q (some i) H1
section
variable {X:Cx} {e:Expr} {te:TE} {lo hi:Option Expr} {tl th:TO} {pos p2:Pos}
theorem po_none:PO X none tNoPart:=by
 intro pins s σ H Q I h
 rw [evalPart_none]
 exact wpAny_pure ⟨none,H,I, .none,h⟩
theorem po_some (h:PE X e te):PO X (some e) (tPart te):=by
 intro pins s σ H Q I hw
 rw [evalPart_some]
 refine thn (h s σ H _ I hw) fun u s1 ⟨x,H1,I1,r1,q1⟩ => ?_
 obtain ⟨i,rfl,q⟩:=q1
 obtain ⟨t,rfl⟩:=r1
 exact ⟨some i,H1,I1, .int i t,q⟩
noncomputable def SlR (X:Cx) (r:V→Option Int→Option Int→Hp→VK→Prop):Prop:=
 ∀ ⦃pins:List (Addr×Obj)⦄ (s:Shared) (σ:St) (H:Hp) (x:V) (v vl vu:Value) (lo hi:Option Int) (sl:Addr) (Q:VK),Inv X pins σ H s→RelV x v→s.heap.IsSliceOf sl vl vu .none→IsPart vl lo→IsPart vu hi→r x lo hi H Q →
  Ex2 fun T id=>typeLookup (.type T) "__getitem__" = pure (some (.builtin id))∧s.TypeIs v T∧wpAny (model X.prog X.w) X.A (getItem v (.ref sl)) (EP X pins σ Q) X.xe s
theorem SlR.or {r r':V→Option Int→Option Int→Hp→VK→Prop} (h:SlR X r) (h':SlR X r'):SlR X (fun x lo hi H Q=>r x lo hi H Q∨r' x lo hi H Q):=by
 intro pins s σ H x v vl vu lo hi sl Q I rx hs pl pu q
 rcases q with q|q
 ·exact h s σ H x v vl vu lo hi sl Q I rx hs pl pu q
 ·exact h' s σ H x v vl vu lo hi sl Q I rx hs pl pu q
noncomputable def tSl (r:V→Option Int→Option Int→Hp→VK→Prop) (te:TE) (tl th:TO):TE:=fun σ H Q=>te σ H fun x H1=>tl σ H1 fun l H2=>th σ H2 fun u H3=>r x l u H3 Q
theorem pe_slice {r:V→Option Int→Option Int→Hp→VK→Prop} (hr:SlR X r) (he:PE X e te) (hl:PO X lo tl) (hu:PO X hi th):PE X (.Subscript e (.Slice lo hi none p2) pos) (tSl r te tl th):=by
 intro pins s σ H Q I h
 refine Subscript_ (thn (he s σ H _ I h) fun v s1 ⟨x,H1,I1,r1,q1⟩ => ?_)
 refine wpAny_Slice (thn (hl s1 σ H1 _ I1 q1) fun vl s2 ⟨l,H2,I2,pl,q2⟩=>thn (hu s2 σ H2 _ I2 q2) fun vu s3 ⟨u,H3,I3,pu,q3⟩ => ?_)
 rw [evalPart_none]
 refine wpAny_pure ?_
 have I4:Inv X pins σ H3 { s3 with heap:=s3.heap.push { cls := .type "slice",data := .fields #[vl,vu, .none] } }:=I3.kept (t':=s3.toks) fun b ob q=>Heap.get?_push_of_some _ q
 obtain ⟨T,id,hT,ht,hg⟩:=hr { s3 with heap:=s3.heap.push { cls := .type "slice",data := .fields #[vl,vu, .none] } } σ H3 x v vl vu l u s3.heap.objs.size Q I4 r1 (Heap.IsSliceOf.new ..) pl pu q3
 show wpAny (model X.prog X.w) X.A (subscriptTail e (.Slice lo hi none p2) v (.ref s3.heap.objs.size)) (EP X pins σ Q) X.xe { s3 with heap:=s3.heap.push { cls := .type "slice",data := .fields #[vl,vu, .none] } }
 exact tail_any (ops:=[.ref s3.heap.objs.size,v]) ht hT hg (by with_unfolding_all rfl)
noncomputable def cutV (xs:List V) (lo hi:Option Int):List V:=(xs.drop (HT.sIx xs.length 0 lo)).take (HT.sIx xs.length xs.length hi-HT.sIx xs.length 0 lo)
theorem cutV_length (xs:List V) (lo hi:Option Int):(cutV xs lo hi).length≤xs.length:=by
 unfold cutV
 rw [List.length_take,List.length_drop]
 (first|lia|omega)
end
end L2
namespace L2
open PySem PySem.Spec PyProof.Rows
noncomputable def ixN (n:Nat) (i:Int):Option Nat:=if 0≤i then (if i<n then some i.toNat else none) else if -(n:Int)≤i then some (i+n).toNat else none
noncomputable def atI {α:Type} (xs:List α) (i:Int):Option α:=(ixN xs.length i).bind fun j=>xs[j]?
theorem ixN_seq {n:Nat} {i:Int} {j:Nat} (h:ixN n i=some j):seqIndex? i n=some j∧j<n ∧ -(n:Int)≤i∧i<n:=by
 unfold ixN at h
 by_cases h0:0≤i
 ·rw [if_pos h0] at h
  by_cases h1:i<n
  ·rw [if_pos h1] at h
   have e:i.toNat=j:=Option.some.inj h
   exact ⟨by rw [seqIndex_of h0 h1,e],by first|lia|omega,by first|lia|omega,h1⟩
  ·rw [if_neg h1] at h;cases h
 ·rw [if_neg h0] at h
  by_cases h1 : -(n:Int)≤i
  ·rw [if_pos h1] at h
   have e:(i+n).toNat=j:=Option.some.inj h
   exact ⟨by rw [seqIndex_neg (by first|lia|omega) h1,e],by first|lia|omega,h1,by first|lia|omega⟩
  ·rw [if_neg h1] at h;cases h
theorem atI_get {α:Type} {xs:List α} {i:Int} {v : α} (h:atI xs i=some v):∃j,seqIndex? i xs.length=some j∧xs[j]? = some v∧j<xs.length ∧ -(xs.length:Int)≤i∧i<xs.length:=by
 unfold atI at h
 cases e:ixN xs.length i with
 | none=>rw [e] at h;cases h
 | some j=>
  rw [e] at h
  obtain ⟨h1,h2,h3,h4⟩:=ixN_seq e
  exact ⟨j,h1,h,h2,h3,h4⟩
theorem atI_nat {α:Type} {xs:List α} {j:Nat} {v : α} (h:xs[j]? = some v):atI xs (j:Int)=some v:=by
 have hj:j<xs.length:=(List.getElem?_eq_some_iff.mp h).1
 have e:ixN xs.length (j:Int)=some j:=by
  unfold ixN
  rw [if_pos (by first|lia|omega),if_pos (by first|lia|omega)];simp
 unfold atI;rw [e];exact h
noncomputable def PlainIx (b:Expr):Prop:=∀o i,subscripted b false o i=operate [o,i] (getItem o i)
noncomputable def IxR (X:Cx) (r:R2):Prop:=
 ∀ ⦃value slice:Expr⦄ ⦃pins:List (Addr×Obj)⦄ (s:Shared) (σ:St) (H:Hp) (x y:V) (v u:Value) (Q:VK),Inv X pins σ H s→RelV x v→RelV y u→r x y H Q →
  subscripted slice false v u=operate [v,u] (getItem v u)→wpAny (model X.prog X.w) X.A (subscriptTail value slice v u) (EP X pins σ Q) X.xe s
noncomputable def MtR (X:Cx) (id:String) (r:V→List V→Hp→VK→Prop):Prop:=
 ∀ ⦃pins:List (Addr×Obj)⦄ (s:Shared) (σ:St) (H:Hp) (x:V) (xs:List V) (v:Value) (us:List Value) (Q:VK),Inv X pins σ H s→RelV x v→Vals xs us→r x xs H Q →
  wpAny (model X.prog X.w) X.A (call (.builtin id) (v :: us)) (EP X pins σ Q) X.xe s
section
variable {X:Cx} {a b:Expr} {ta tb:TE} {pos:Pos}
theorem IxR.or {r r':R2} (h:IxR X r) (h':IxR X r'):IxR X (fun x y H Q=>r x y H Q∨r' x y H Q):=by
 intro value slice pins s σ H x y v u Q I rx ry q hs
 rcases q with q|q
 ·exact h s σ H x y v u Q I rx ry q hs
 ·exact h' s σ H x y v u Q I rx ry q hs
theorem pe_ix {r:R2} (hr:IxR X r) (ha:PE X a ta) (hb:PE X b tb) (hs:PlainIx b):PE X (.Subscript a b pos) (tOp r ta tb):=by
 intro pins s σ H Q I h
 exact Subscript_ (binT ha hb I h fun v u s2 x y H2 I2 rx ry q=>hr s2 σ H2 x y v u Q I2 rx ry q (hs _ _))
noncomputable def rIxL (K:PySem.W.Frag):R2:=fun x y H Q=>Ex4 fun p xs i v=>x = .ref p∧y = .int i∧SqL K H p xs∧atI xs i=some v∧Q v H
noncomputable def rIxT (K:PySem.W.Frag):R2:=fun x y H Q=>Ex4 fun p xs i v=>x = .ref p∧y = .int i∧SqT K H p xs∧atI xs i=some v∧Q v H
noncomputable def rIxS:R2:=fun x y H Q=>Ex3 fun z i c=>x = .str z∧y = .int i∧z.length≤sizeLine∧atI z.cps.toList i=some c∧Q (.str ⟨#[c]⟩) H
theorem ix_list:IxR X (rIxL X.K):=by
 intro value slice pins s σ H x y v u Q I rx ry h hs
 obtain ⟨p,xs,i,z,rfl,rfl,hq,he,q⟩:=h
 cases rx
 obtain ⟨t,rfl⟩:=ry
 obtain ⟨its,r,pl,hz⟩:=I.list hq
 obtain ⟨j,h1,h2,h3,h4,h5⟩:=atI_get he
 obtain ⟨w,ew,rw'⟩:=r.get h2
 have hl:=r.length
 have hn:=line63
 have fin:EP X pins σ Q w s:=⟨z,H,I,rw',q⟩
 by_cases h0:0≤i
 ·have hj:i.toNat=j:=by
   rw [seqIndex_of h0 h5] at h1
   exact Option.some.inj h1
  exact item_listR pl.isList h0 (by first|lia|omega) (by rw [hj];simpa using ew) fin hs
 ·have hj:(i+(its.toArray.size:Int)).toNat=j:=by
   rw [seqIndex_neg (by first|lia|omega) h4] at h1
   rw [List.size_toArray, ←hl]
   exact Option.some.inj h1
  exact subscriptTail_builtinR (x:=w) pl.isList.typeIs slot_list_getitem.lookup
   (wpAny_getItem_list_neg (Q:=fun r s'=>r=w∧EP X pins σ Q r s') pl.isList (by first|lia|omega) (by rw [List.size_toArray] <;> (first|lia|omega)) (by first|lia|omega) (by rw [hj];simpa using ew) ⟨rfl,fin⟩) hs
theorem ix_tup:IxR X (rIxT X.K):=by
 intro value slice pins s σ H x y v u Q I rx ry h hs
 obtain ⟨p,xs,i,z,rfl,rfl,hq,he,q⟩:=h
 cases rx
 obtain ⟨t,rfl⟩:=ry
 obtain ⟨its,r,pl,hz⟩:=I.tuple hq
 obtain ⟨j,h1,h2,h3,h4,h5⟩:=atI_get he
 obtain ⟨w,ew,rw'⟩:=r.get h2
 have hl:=r.length
 have hn:=line63
 have fin:EP X pins σ Q w s:=⟨z,H,I,rw',q⟩
 exact subscriptTail_builtinR (x:=w) pl.typeIs slot_tuple_getitem.lookup
  (getItem_tuple (j:=j) (Q:=fun r s'=>r=w∧EP X pins σ Q r s') pl (by first|lia|omega) (by first|lia|omega) (by rw [List.size_toArray, ←hl];exact h1) (by simpa using ew) ⟨rfl,fin⟩) hs
theorem ix_str:IxR X rIxS:=by
 intro value slice pins s σ H x y v u Q I rx ry h hs
 obtain ⟨z,i,c,rfl,rfl,hz,he,q⟩:=h
 obtain ⟨t,rfl⟩:=rx
 obtain ⟨t',rfl⟩:=ry
 obtain ⟨j,h1,h2,h3,h4,h5⟩:=atI_get he
 have hl:z.cps.toList.length=z.length:=by simp [Str.length]
 rw [hl] at h1 h4 h5
 have hn:=line63
 exact tail_any (typeIs_str s z t) slot_str_getitem.lookup (getItem_str (c:=c) (by
  have e1:decide (i < -(2 ^ 63:Int))=false:=decide_eq_false (by first|lia|omega)
  have e2:decide (i≥2 ^ 63)=false:=decide_eq_false (by first|lia|omega)
  rw [e1,e2,Bool.or_false]) (by rw [h1];simpa using h2) ⟨.str ⟨#[c]⟩,H,I.tok _,⟨_,rfl⟩,q⟩) hs
noncomputable def rIx (K:PySem.W.Frag):R2:=fun x y H Q=>rIxL K x y H Q∨rIxT K x y H Q∨rIxS x y H Q
theorem ix_seq:IxR X (rIx X.K):=ix_list.or (ix_tup.or ix_str)
theorem mapSeq_set (its:List Value) (n j:Nat) (u:Value):Obj.mapSeq (·.setIfInBounds j u) { cls := .type "list",data := .seq its.toArray n } = { cls := .type "list",data := .seq (its.set j u).toArray n }:=by
 simp [Obj.mapSeq]
theorem Inv.lst {pins:List (Addr×Obj)} {σ:St} {H:Hp} {s:Shared} {p:Addr} {xs:List V} (I:Inv X pins σ H s) (h:H p=some (.lst xs)) :
  ∃(its:List Value) (n:Nat),Vals xs its∧s.heap.get? p=some { cls := .type "list",data := .seq its.toArray n } ∧ xs.length≤sizeLine:=by
 obtain ⟨z,its,n,r,e⟩:=I.hok p _ h
 exact ⟨its,n,r,e,z⟩
theorem Inv.lstUpd {pins:List (Addr×Obj)} {σ:St} {H:Hp} {s:Shared} {p:Addr} {xs ys:List V} {its its':List Value} {n n':Nat} {f:Obj→Obj} (I:Inv X pins σ H s) (h:H p=some (.lst xs))
  (ho:s.heap.get? p=some { cls := .type "list",data := .seq its.toArray n }) (hf:f { cls := .type "list",data := .seq its.toArray n } = { cls := .type "list",data := .seq its'.toArray n' }) (r:Vals ys its') (hz:ys.length≤sizeLine) (t:Nat) :
  Inv X pins σ (upd H p (.lst ys)) { s with heap:=s.heap.update p f,toks:=t }:=by
 have e:(s.heap.update p f).get? p=some { cls := .type "list",data := .seq its'.toArray n' }:=by
  rw [Heap.get?_update_self f ho (by rw [hf] <;> rfl),hf]
 refine I.write (x:=p) (e:=p) (by rw [h];trivial) (.inl rfl) (fun b u hb q=>(Heap.get?_update_other _ _ (Ne.symm hb)).trans q) ⟨_,e⟩ ?_
 exact ⟨hz,its',n',r,e⟩
noncomputable def rSetL:V→V→V→Hp→(Hp→Prop)→Prop:=fun o i v H Q=>Ex4 fun p xs k j=>o = .ref p∧i = .int k∧H p=some (.lst xs)∧ixN xs.length k=some j∧Q (upd H p (.lst (xs.set j v)))
theorem set_list:PSet X rSetL:=by
 intro pins s σ H o i v ov iv u Q I ro ri rv h
 obtain ⟨p,xs,k,j,rfl,rfl,hp,hj,q⟩:=h
 cases ro
 obtain ⟨t,rfl⟩:=ri
 obtain ⟨its,n,r,ho,hz⟩:=I.lst hp
 obtain ⟨h1,h2,h3,h4⟩:=ixN_seq hj
 have hl:=r.length
 have hn:=line63
 have I':Inv X pins σ (upd H p (.lst (xs.set j v))) { s with heap:=s.heap.update p (Obj.mapSeq (·.setIfInBounds j u)) }:=
  I.lstUpd hp ho (mapSeq_set its n j u) (r.set rv j) (by rw [List.length_set];exact hz) s.toks
 by_cases h0:0≤k
 ·have hk:k.toNat=j:=by
   rw [seqIndex_of h0 h4] at h1
   exact Option.some.inj h1
  exact PySem.W.ki_setAt ho h0 (by first|lia|omega) (by rw [List.size_toArray, ←hl];exact h4) (by rw [hk];exact ⟨_,I',q⟩)
 ·have hk:(k+(its.toArray.size:Int)).toNat=j:=by
   rw [seqIndex_neg (by first|lia|omega) h3] at h1
   rw [List.size_toArray, ←hl]
   exact Option.some.inj h1
  exact PySem.W.ki_setBack ho (by first|lia|omega) (by rw [List.size_toArray, ←hl];exact h3) (by first|lia|omega) (by rw [hk];exact ⟨_,I',q⟩)
theorem slice_bounds (lo hi:Option Int) (n:Nat):(sliceBounds lo hi none n).1=((HT.sIx n 0 lo:Nat):Int)∧(sliceBounds lo hi none n).2.1=((HT.sIx n n hi:Nat):Int)∧(sliceBounds lo hi none n).2.2=1:=by
 refine ⟨?_,?_,rfl⟩
 ·cases lo with
  | none=>simp [sliceBounds,HT.sIx]
  | some i=>
   simp only [sliceBounds,HT.sIx,Option.getD_none,show (1:Int)>0 by decide,if_true]
   by_cases h:i<0
   ·simp only [h,if_true] <;> (first|lia|omega)
   ·simp only [h,if_false] <;> (first|lia|omega)
 ·cases hi with
  | none=>simp [sliceBounds,HT.sIx]
  | some i=>
   simp only [sliceBounds,HT.sIx,Option.getD_none,show (1:Int)>0 by decide,if_true]
   by_cases h:i<0
   ·simp only [h,if_true] <;> (first|lia|omega)
   ·simp only [h,if_false] <;> (first|lia|omega)
theorem slicePick_cut (its:List Value) (lo hi:Option Int):slicePick its.toArray lo hi none=((its.drop (HT.sIx its.length 0 lo)).take (HT.sIx its.length its.length hi-HT.sIx its.length 0 lo)).toArray:=by
 obtain ⟨h1,h2,h3⟩:=slice_bounds lo hi its.toArray.size
 unfold slicePick
 rw [h1,h2,h3]
 simp only [sliceRange_one,pick_run,List.size_toArray] <;> rfl
noncomputable def rSlL (K:PySem.W.Frag):V→Option Int→Option Int→Hp→VK→Prop:=fun x lo hi H Q=>Ex2 fun a xs=>x = .ref a∧SqL K H a xs∧∀p,H p=none→Q (.ref p) (upd H p (.lst (cutV xs lo hi)))
theorem sl_list:SlR X (rSlL X.K):=by
 intro pins s σ H x v vl vu lo hi sl Q I rx hs pl pu h
 obtain ⟨a,xs,rfl,hx,q⟩:=h
 cases rx
 obtain ⟨its,r,ht,hz⟩:=I.list hx
 have hlen:=r.length
 refine ⟨"list",_,slot_list_getitem.lookup,ht.isList.typeIs,?_⟩
 refine wpAny_getItem_list_slice ht.isList hs pl pu .none (by simp) ?_ (by rw [List.size_toArray] <;> (first|lia|omega))
 rw [slicePick_cut, ←hlen]
 refine ⟨.ref s.heap.objs.size,_,I.laid (t':=s.toks) (o := .lst (cutV xs lo hi)) (fun b ob q=>Heap.get?_push_of_some _ q) (Nat.le_refl _) ?_,rfl,q _ (I.hok.fresh (Nat.le_refl _))⟩
 exact ⟨Nat.le_trans (cutV_length xs lo hi) hz,_,0,(r.drop (HT.sIx xs.length 0 lo)).take (HT.sIx xs.length xs.length hi-HT.sIx xs.length 0 lo),Heap.get?_push_size _ rfl⟩
noncomputable def flatV:V→Bool
 | .non=>true
 | .bl _=>true
 | .int _=>true
 | .str _=>true
 | _=>false
noncomputable def eqV:V→V→Bool
 | .non, .non=>true
 | .bl a, .bl b=>a == b
 | .bl a, .int b=>(if a then 1 else 0) == b
 | .int a, .bl b=>a == (if b then 1 else 0)
 | .int a, .int b=>a == b
 | .str a, .str b=>a == b
 | _,_=>false
theorem eqAt_V {A:Around} {s:Shared} {y x:V} {u v:Value} (ry:RelV y u) (rx:RelV x v) (fy:flatV y=true) (fx:flatV x=true):SeqAt.EqAt A s u v (eqV y x):=by
 cases y with
 | non=>
  cases ry
  cases x with
  | non=>cases rx;exact SeqAt.EqAt.same _
  | bl b=>cases rx;exact SeqAt.EqAt.none_bool b
  | int b=>obtain ⟨t,rfl⟩:=rx;exact SeqAt.EqAt.none_int b t
  | str b=>obtain ⟨t,rfl⟩:=rx;exact SeqAt.EqAt.none_str b t
  | _=>exact absurd (show false=true from fx) Bool.false_ne_true
 | bl a=>
  cases ry
  cases x with
  | non=>cases rx;exact SeqAt.EqAt.bool_none a
  | bl b=>cases rx;exact SeqAt.EqAt.bool_bool a b
  | int b=>obtain ⟨t,rfl⟩:=rx;exact SeqAt.EqAt.bool_int a b t
  | str b=>obtain ⟨t,rfl⟩:=rx;exact SeqAt.EqAt.bool_str a b t
  | _=>exact absurd (show false=true from fx) Bool.false_ne_true
 | int a=>
  obtain ⟨t',rfl⟩:=ry
  cases x with
  | non=>cases rx;exact SeqAt.EqAt.int_none a t'
  | bl b=>cases rx;exact SeqAt.EqAt.int_bool a t' b
  | int b=>obtain ⟨t,rfl⟩:=rx;exact SeqAt.EqAt.int_int a t' b t
  | str b=>obtain ⟨t,rfl⟩:=rx;exact SeqAt.EqAt.int_str a t' b t
  | _=>exact absurd (show false=true from fx) Bool.false_ne_true
 | str a=>
  obtain ⟨t',rfl⟩:=ry
  cases x with
  | non=>cases rx;exact SeqAt.EqAt.str_none a t'
  | bl b=>cases rx;exact SeqAt.EqAt.str_bool a t' b
  | int b=>obtain ⟨t,rfl⟩:=rx;exact SeqAt.EqAt.str_int a t' b t
  | str b=>obtain ⟨t,rfl⟩:=rx;exact SeqAt.EqAt.str_str a t' b t
  | _=>exact absurd (show false=true from fx) Bool.false_ne_true
 | _=>exact absurd (show false=true from fy) Bool.false_ne_true
noncomputable def eqU (x:V) (u:Value):Bool:=match u with
 | .none=>eqV .non x
 | .bool b=>eqV (.bl b) x
 | .int i _=>eqV (.int i) x
 | .str z _=>eqV (.str z) x
 | _=>false
theorem eqU_of {x y:V} {u:Value} (r:RelV y u) (f:flatV y=true):eqU x u=eqV y x:=by
 cases y with
 | non=>cases r;rfl
 | bl b=>cases r;rfl
 | int i=>obtain ⟨t,rfl⟩:=r;rfl
 | str z=>obtain ⟨t,rfl⟩:=r;rfl
 | _=>exact absurd (show false=true from f) Bool.false_ne_true
theorem any_eqU {x:V} : ∀{xs:List V} {us:List Value},Vals xs us→xs.all flatV=true→us.any (eqU x)=xs.any fun y=>eqV y x
 | _,_, .nil,_=>rfl
 | y :: xs,u :: us, .cons r t,f=>by
  rw [List.all_cons,Bool.and_eq_true] at f
  rw [List.any_cons,List.any_cons,eqU_of r f.1,any_eqU t f.2]
theorem mem_eqAt {A:Around} {s:Shared} {x:V} {v:Value} (rx:RelV x v) (fx:flatV x=true):∀{xs:List V} {us:List Value},Vals xs us→xs.all flatV=true→∀u∈us,SeqAt.EqAt A s u v (eqU x u)
 | _,_, .nil,_=>fun u hu=>by cases hu
 | y :: xs,u :: us, .cons r t,f=>fun u' hu=>by
  rw [List.all_cons,Bool.and_eq_true] at f
  rcases List.mem_cons.mp hu with rfl|hu
  ·rw [eqU_of r f.1];exact eqAt_V r rx f.1 fx
  ·exact mem_eqAt rx fx t f.2 u' hu
noncomputable def inV (x:V) (xs:List V):Bool:=xs.any fun y=>eqV y x
noncomputable def rIn (K:PySem.W.Frag) (neg:Bool):R2:=fun x y H Q=>Ex2 fun p xs=>y = .ref p∧(SqL K H p xs∨SqT K H p xs)∧flatV x=true∧xs.all flatV=true∧Q (.bl (if neg then !inV x xs else inV x xs)) H
theorem op_in_seq:OpR X (compareOp .In) (rIn X.K false):=by
 intro pins s σ H x y v u Q I rx ry h
 obtain ⟨p,xs,rfl,hq,fx,fs,q⟩:=h
 cases ry
 rcases hq with hq|hq
 ·obtain ⟨its,r,pl,hz⟩:=I.list hq
  refine SeqAt.in_listAt (eqU x) pl.isList (fun w hw=>mem_eqAt rx fx r fs w (by simpa using hw)) ⟨.bl _,H,I,rfl,?_⟩
  rw [show its.toArray.any (eqU x)=its.any (eqU x) by simp,any_eqU r fs]
  exact q
 ·obtain ⟨its,r,pl,hz⟩:=I.tuple hq
  refine SeqAt.in_tupleAt (eqU x) pl (fun w hw=>mem_eqAt rx fx r fs w (by simpa using hw)) ⟨.bl _,H,I,rfl,?_⟩
  rw [show its.toArray.any (eqU x)=its.any (eqU x) by simp,any_eqU r fs]
  exact q
theorem op_notIn_seq:OpR X (compareOp .NotIn) (rIn X.K true):=by
 intro pins s σ H x y v u Q I rx ry h
 obtain ⟨p,xs,rfl,hq,fx,fs,q⟩:=h
 cases ry
 rcases hq with hq|hq
 ·obtain ⟨its,r,pl,hz⟩:=I.list hq
  refine SeqAt.notIn_listAt (eqU x) pl.isList (fun w hw=>mem_eqAt rx fx r fs w (by simpa using hw)) ⟨.bl _,H,I,rfl,?_⟩
  rw [show its.toArray.any (eqU x)=its.any (eqU x) by simp,any_eqU r fs]
  exact q
 ·obtain ⟨its,r,pl,hz⟩:=I.tuple hq
  refine SeqAt.notIn_tupleAt (eqU x) pl (fun w hw=>mem_eqAt rx fx r fs w (by simpa using hw)) ⟨.bl _,H,I,rfl,?_⟩
  rw [show its.toArray.any (eqU x)=its.any (eqU x) by simp,any_eqU r fs]
  exact q
theorem CallR.or {f:Value} {r r':List V→Hp→VK→Prop} (h:CallR X f r) (h':CallR X f r'):CallR X f (fun xs H Q=>r xs H Q∨r' xs H Q):=by
 intro pins s σ H xs us Q I rs q
 rcases q with q|q
 ·exact h s σ H xs us Q I rs q
 ·exact h' s σ H xs us Q I rs q
theorem call_list_of:CallR X (.type "list") (fun xs H Q=>∃p ys,xs=[.ref p]∧(SqL X.K H p ys∨SqT X.K H p ys)∧∀l,H l=none→Q (.ref l) (upd H l (.lst ys))):=by
 intro pins s σ H xs us Q I r h
 obtain ⟨p,ys,rfl,hq,q⟩:=h
 obtain ⟨u,rfl,rx⟩:=vals1 r
 cases rx
 have fin:∀(its:List Value),Vals ys its→ys.length≤sizeLine→∀(h':Heap) (c':Nat),(∀b o',s.heap.get? b=some o'→h'.get? b=some o') →
   h'.get? s.heap.objs.size=some { cls := .type "list",dict:=none,data := .seq its.toArray c',slots := #[] } → EP X pins σ Q (.ref s.heap.objs.size) { s with heap:=h' }:=fun its r' hz h' c' kp e=>
  ⟨.ref s.heap.objs.size,_,I.laid (t':=s.toks) kp (Nat.le_refl _) (show ObjOk X.prog X.w _ h' _ (.lst ys) from ⟨hz,its,c',r',e⟩),rfl,q _ (I.hok.fresh (Nat.le_refl _))⟩
 rcases hq with hq|hq
 ·obtain ⟨its,r',pl,hz⟩:=I.list hq
  have hlen:=r'.length
  obtain ⟨o,ho,hc,n,hd⟩:=pl.isList
  exact call_list_seq p (.inl rfl) ho hc hd (fun h' c' kp e=>fin its r' hz h' c' kp e) (by simp only [List.size_toArray] <;> (first|lia|omega))
 ·obtain ⟨its,r',pl,hz⟩:=I.tuple hq
  have hlen:=r'.length
  obtain ⟨o,ho,hc,n,hd⟩:=pl
  exact call_list_seq p (.inr rfl) ho hc hd (fun h' c' kp e=>fin its r' hz h' c' kp e) (by simp only [List.size_toArray] <;> (first|lia|omega))
noncomputable def tyV (K:PySem.W.Frag) (T:String) (x:V) (H:Hp):Prop:=match x with
 | .str _=>T = "str"
 | .int _=>T = "int"
 | .ref p=>(T = "list" ∧ ∃xs,SqL K H p xs)∨(T = "tuple" ∧ ∃o,K.lookup p=some o∧o.cls = .type "tuple" ∧ o.dict=none) ∨
   (T = "dict" ∧ ((∃kvs,H p=some (.dK kvs))∨∃kvs,H p=some (.dT kvs)))∨(T = "set" ∧ Ex2 fun S n=>H p=some (.set S n))
 | _=>False
theorem tyV_is {pins:List (Addr×Obj)} {σ:St} {H:Hp} {s:Shared} {T:String} {x:V} {v:Value} (I:Inv X pins σ H s) (r:RelV x v) (ty:tyV X.K T x H) :
  s.TypeIs v T∧∀a,v = .ref a→∃ob,s.heap.get? a=some ob∧ob.dict=none:=by
 cases x with
 | str z=>
  obtain ⟨t,rfl⟩:=r
  cases (show T = "str" from ty)
  exact ⟨typeIs_str s z t,fun _ e=>nomatch e⟩
 | int i=>
  obtain ⟨t,rfl⟩:=r
  cases (show T = "int" from ty)
  exact ⟨typeIs_int s i t,fun _ e=>nomatch e⟩
 | ref p=>
  cases r
  rcases ty with ⟨rfl,xs,hq⟩|⟨rfl,o,hk,hc,hd⟩|⟨rfl,hk⟩|⟨rfl,S,n,hk⟩
  ·obtain ⟨its,_,pl,_⟩:=I.list hq
   refine ⟨pl.isList.typeIs,fun a e => ?_⟩
   cases e
   obtain ⟨o,n,e,c,hd,_⟩:=pl
   exact ⟨o,e,hd⟩
  ·refine ⟨⟨o,I.kIn p o hk,hc⟩,fun a e => ?_⟩
   cases e
   exact ⟨o,I.kIn _ o hk,hd⟩
  ·have z:∃o,s.heap.get? p=some o∧o.ExactDict:=by
    rcases hk with ⟨kvs,hk⟩|⟨kvs,hk⟩
    ·obtain ⟨_,_,_,_,o,_,_,e,ex,_⟩:=I.hok p _ hk
     exact ⟨o,e,ex⟩
    ·obtain ⟨_,_,_,_,o,_,_,e,ex,_⟩:=I.hok p _ hk
     exact ⟨o,e,ex⟩
   obtain ⟨o,e,ex⟩:=z
   refine ⟨⟨o,e,ex.1⟩,fun a e2 => ?_⟩
   cases e2
   exact ⟨o,e,ex.2.1⟩
  ·obtain ⟨o,_,_,_,e,ex,_⟩:=I.hok p _ hk
   refine ⟨⟨o,e,ex.1⟩,fun a e2 => ?_⟩
   cases e2
   exact ⟨o,e,ex.2.1⟩
 | _=>exact False.elim ty
noncomputable def tBM0 (K:PySem.W.Frag) (T:String) (r:V→List V→Hp→VK→Prop) (to:TE):TE:=fun σ H Q=>to σ H fun x H1=>tyV K T x H1∧r x [] H1 Q
noncomputable def tBM (K:PySem.W.Frag) (T:String) (r:V→List V→Hp→VK→Prop) (to:TE) (t:TA):TE:=fun σ H Q=>to σ H fun x H1=>tyV K T x H1∧t σ H1 fun xs H2=>r x xs H2 Q
variable {o e:Expr} {es:List Expr} {to:TE} {t:TA} {name:Str} {apos cpos:Pos} {T id:String} {r:V→List V→Hp→VK→Prop}
theorem pe_bm0 (pa:PlainAttrs T) (slot:Slot T name id) (hty:typeOf (.builtin id)=pure (.type "method_descriptor")) (hm:MtR X id r) (ho:PE X o to)
  (hbase:attributeBase o name X.env (eval o X.env)=eval o X.env:=by rfl) (hline:(apos.endLine == cpos.line)=true:=by rfl):PE X (.Call (.Attribute o name apos) [] [] cpos) (tBM0 X.K T r to):=by
 intro pins s σ H Q I h
 refine wpAny_Call_method0_late hbase hline (thn (ho s σ H _ I h) fun v s1 ⟨x,H1,I1,r1,ty,q1⟩ => ?_)
 obtain ⟨h1,h2⟩:=tyV_is I1 r1 ty
 exact ⟨T,id,pa,slot,hty,h1,h2,Calls.callWith_builtin rfl (PySem.evalArgs_none (hm s1 σ H1 x [] v [] Q I1 r1 .nil q1))⟩
theorem pe_bm (pa:PlainAttrs T) (slot:Slot T name id) (hty:typeOf (.builtin id)=pure (.type "method_descriptor")) (hm:MtR X id r) (ho:PE X o to) (ha:PA X (e :: es) t)
  (hbase:attributeBase o name X.env (eval o X.env)=eval o X.env:=by rfl)
  (hfew:((backTo cpos (starEach (e :: es) X.env)).all (fun x => !x.1)&&(backToKw cpos (keywordEach [] X.env)).all (fun x=>x.1.isSome)
   && decide ((e :: es).length+([]:List Keyword).length+(if ([]:List Keyword).isEmpty then 0 else 1)<30))=true:=by rfl)
  (hline:(apos.endLine == cpos.line)=true:=by rfl) (hs:starEach (e :: es) X.env=(false,eval e X.env) :: starEach es X.env:=by rfl) (hplain:(backTo cpos (starEach es X.env)).any (·.1)=false:=by rfl) :
  PE X (.Call (.Attribute o name apos) (e :: es) [] cpos) (tBM X.K T r to t):=by
 intro pins s σ H Q I h
 refine wpAny_Call_method_late hbase hfew hline rfl (thn (ho s σ H _ I h) fun v s1 ⟨x,H1,I1,r1,ty,q1⟩ => ?_)
 obtain ⟨h1,h2⟩:=tyV_is I1 r1 ty
 refine ⟨T,id,pa,slot,hty,h1,h2,?_⟩
 have hA:=ha (pos:=cpos) s1 σ H1 _ I1 q1
 rw [hs] at hA ⊢
 refine Calls.callWith_builtin (by show (false||(backTo cpos (starEach es X.env)).any (·.1))=false;rw [hplain] <;> rfl) (Calls.evalArgs_plain ?_)
 exact thn hA fun us s2 ⟨vs,H2,I2,r2,q2⟩=>hm s2 σ H2 x vs v us Q I2 r1 r2 q2
end
end L2
namespace L2
open PySem PySem.Spec PyProof.Rows
noncomputable def MtM (X:Cx) (id:String) (r:V→List V→Hp→VK→Prop):Prop:=
 ∀ ⦃pins:List (Addr×Obj)⦄ (s:Shared) (σ:St) (H:Hp) (x:V) (xs:List V) (v:Value) (us:List Value) (Q:VK),Inv X pins σ H s→RelV x v→Vals xs us→r x xs H Q →
  wpAny (model X.prog X.w) X.A (call (.builtin id) (v :: us)) (EP X pins σ Q) X.xe s
theorem Vals.hd {x:V} {xs:List V} {us:List Value} (h:Vals (x :: xs) us):∃u r,us=u :: r∧RelV x u∧Vals xs r:=by
 cases h with|cons a b=>exact ⟨_,_,rfl,a,b⟩
theorem Vals.one {x:V} {us:List Value} (h:Vals [x] us):∃u,us=[u]∧RelV x u:=by
 obtain ⟨u,r,rfl,a,h⟩:=h.hd
 cases h
 exact ⟨_,rfl,a⟩
theorem Vals.zero:∀{us:List Value},Vals [] us→us=[]
 | _, .nil=>rfl
theorem Vals.dropLast {xs:List V} {us:List Value} (h:Vals xs us):Vals xs.dropLast us.dropLast:=by
 induction h with
 | nil=>exact .nil
 | cons r t ih=>
  cases t with
  | nil=>exact .nil
  | cons q t'=>exact .cons r ih
theorem Vals.eraseIdx:∀{xs:List V} {us:List Value} (i:Nat),Vals xs us→Vals (xs.eraseIdx i) (us.eraseIdx i)
 | _,_,_, .nil => .nil
 | _,_,0, .cons _ t=>t
 | _,_,i+1, .cons r t => .cons r (Vals.eraseIdx i t)
theorem Vals.rep {xs:List V} {us:List Value} (h:Vals xs us):∀k:Nat,Vals (List.replicate k xs).flatten (List.replicate k us).flatten
 | 0 => .nil
 | k+1=>by
  rw [List.replicate_succ,List.replicate_succ,List.flatten_cons,List.flatten_cons]
  exact Vals.append h (Vals.rep h k)
theorem erase_last {α:Type} (l:List α):l.eraseIdx (l.length-1)=l.dropLast:=by
 induction l with
 | nil=>rfl
 | cons a r ih=>
  cases r with
  | nil=>rfl
  | cons b r=>
   have e:(a :: b :: r).length-1=((b :: r).length-1)+1:=by
    have h1:(a :: b :: r).length=r.length+2:=rfl
    have h2:(b :: r).length=r.length+1:=rfl
    (first|lia|omega)
   rw [e,List.eraseIdx_cons_succ,ih]
   all_goals rfl
theorem len_erase {α:Type} : ∀(l:List α) (i:Nat),(l.eraseIdx i).length≤l.length
 | [],_=>Nat.le_refl _
 | _ :: _,0=>Nat.le_succ _
 | _ :: r,i+1=>Nat.succ_le_succ (len_erase r i)
theorem foldl_rep (its:List Value):∀(k:Nat) (acc:List Value),
  List.foldl (fun x1 x2=>x1++x2) acc.toArray (List.replicate k its.toArray)=(acc++(List.replicate k its).flatten).toArray
 | 0,acc=>by simp
 | k+1,acc=>by
  have e:acc.toArray++its.toArray=(acc++its).toArray:=by simp
  have e2:(acc++its)++(List.replicate k its).flatten=acc++(List.replicate (k+1) its).flatten:=by
   rw [List.replicate_succ,List.flatten_cons,List.append_assoc]
  rw [←e2, ←foldl_rep its k (acc++its), ←e,List.replicate_succ,List.foldl_cons]
section
variable {X:Cx} {pins:List (Addr×Obj)} {σ:St} {H:Hp} {s:Shared} {l b:Addr} {xs ys zs:List V}
theorem Inv.lset {its its':List Value} {n:Nat} {f:Array Value→Array Value} {t':Nat} (I:Inv X pins σ H s) (hH:H l=some (.lst xs))
  (e:s.heap.get? l=some { cls := .type "list",data := .seq its.toArray n }) (hf:f its.toArray=its'.toArray) (hv:Vals ys its') (hz:ys.length≤sizeLine) :
  Inv X pins σ (upd H l (.lst ys)) { s with heap:=s.heap.update l (Obj.mapSeq f),toks:=t' }:=by
 have q:=PySem.IsL.update e f
 rw [hf] at q
 refine I.write (x:=l) (e:=l) (by rw [hH];exact trivial) (.inl rfl) (fun b' u hb hu=>(Heap.get?_update_other s.heap (Obj.mapSeq f) (Ne.symm hb)).trans hu) ⟨_,q⟩ ?_
 exact ⟨hz,its',_,hv,q⟩
theorem Inv.lnew {its:List Value} {t':Nat} (I:Inv X pins σ H s) (hv:Vals ys its) (hz:ys.length≤sizeLine) :
  Inv X pins σ (upd H s.heap.objs.size (.lst ys)) { s with heap:=s.heap.push { cls := .type "list",data := .seq its.toArray },toks:=t' }:=
 I.laid (fun _ _ q=>Heap.get?_push_of_some _ q) (Nat.le_refl _) ⟨hz,its,0,hv,Heap.get?_push_size _ rfl⟩
theorem Inv.fresh (I:Inv X pins σ H s):H s.heap.objs.size=none:=I.hok.fresh (Nat.le_refl _)
theorem Inv.lstM (I:Inv X pins σ H s) (hH:H l=some (.lst xs)):xs.length≤sizeLine∧∃(its:List Value) (n:Nat),Vals xs its∧xs.length=its.length∧s.heap.get? l=some { cls := .type "list",data := .seq its.toArray n }:=by
 obtain ⟨z,its,n,r,e⟩:=I.hok l _ hH
 exact ⟨z,its,n,r,r.length,e⟩
theorem notLongL {n:Nat} (h:n≤sizeLine):Builtin.List.listTooLong n=false:=by
 unfold Builtin.List.listTooLong
 exact decide_eq_false (by first|lia|omega)
end
section
variable {X:Cx}
noncomputable def rAppend:V→List V→Hp→VK→Prop:=fun x vs H Q=>Ex3 fun l xs y=>x = .ref l∧vs=[y]∧H l=some (.lst xs)∧xs.length<sizeLine∧Q .non (upd H l (.lst (xs++[y])))
theorem mt_append:MtM X "list.append" rAppend:=by
 intro pins s σ H x vs v us Q I rx rv h
 obtain ⟨l,xs,y,rfl,rfl,hH,hz,q⟩:=h
 cases rx
 obtain ⟨u,rfl,ru⟩:=rv.one
 obtain ⟨z,its,n,r,hl,e⟩:=I.lstM hH
 refine call_meets F.slot_list_append ⟨_,e,rfl⟩ F.entry_list_append (F.args_list_append_2 _ _) (PySem.list_append l its.toArray n u (by rw [List.size_toArray]; (first|lia|omega))) ⟨e,?_⟩
 refine ⟨.non,_,I.lset (its':=its++[u]) hH e (by simp) (r.append (.cons ru .nil)) ?_,rfl,q⟩
 rw [List.length_append,List.length_singleton]
 (first|lia|omega)
noncomputable def rExtend:V→List V→Hp→VK→Prop:=fun x vs H Q=>Ex4 fun l b xs zs=>x = .ref l∧vs=[.ref b]∧H l=some (.lst xs)∧H b=some (.lst zs)∧xs.length+zs.length≤sizeLine∧Q .non (upd H l (.lst (xs++zs)))
theorem mt_extend:MtM X "list.extend" rExtend:=by
 intro pins s σ H x vs v us Q I rx rv h
 obtain ⟨l,b,xs,zs,rfl,rfl,hH,hB,hz,q⟩:=h
 cases rx
 obtain ⟨u,rfl,ru⟩:=rv.one
 cases ru
 obtain ⟨z,its,n,r,hl,e⟩:=I.lstM hH
 obtain ⟨z2,its2,n2,r2,hl2,e2⟩:=I.lstM hB
 have hsz:its.toArray.size+its2.toArray.size≤sizeLine:=by rw [List.size_toArray,List.size_toArray]; (first|lia|omega)
 have hlong:¬(!its.toArray.isEmpty&&Builtin.List.listTooLong (its.toArray.size+its2.toArray.size))=true:=by
  rw [notLongL hsz,Bool.and_false]
  exact Bool.false_ne_true
 refine call_meets F.slot_list_extend ⟨_,e,rfl⟩ F.entry_list_extend (F.args_list_extend_2 _ _)
  (AutoSeq1.list_extend_list_list_0 l its.toArray n b its2.toArray n2 hlong (by rw [List.size_toArray]; (first|lia|omega)) (by first|lia|omega)) ⟨e,e2,?_⟩
 refine ⟨.non,_,I.lset (its':=its++its2) hH e (by simp) (r.append r2) ?_,rfl,q⟩
 rw [List.length_append]
 (first|lia|omega)
noncomputable def rPop:V→List V→Hp→VK→Prop:=fun x vs H Q=>Ex3 fun l xs y=>x = .ref l∧vs=[]∧H l=some (.lst xs)∧xs[xs.length-1]? = some y∧Q y (upd H l (.lst xs.dropLast))
theorem mt_pop:MtM X "list.pop" rPop:=by
 intro pins s σ H x vs v us Q I rx rv h
 obtain ⟨l,xs,y,rfl,rfl,hH,hy,q⟩:=h
 cases rx
 have hus:=rv.zero
 subst hus
 obtain ⟨z,its,n,r,hl,e⟩:=I.lstM hH
 obtain ⟨u,hu,ru⟩:=r.get hy
 have hy':its.toArray[its.toArray.size-1]? = some u:=by
  show its.toArray[its.length-1]? = some u
  rw [←Array.getElem?_toList, ←hl]
  exact hu
 refine call_meets F.slot_list_pop ⟨_,e,rfl⟩ F.entry_list_pop (F.args_list_pop_1 _) (MeetsSeq.list_pop_last l its.toArray n u hy' (by rw [List.size_toArray]; (first|lia|omega))) ⟨e,?_⟩
 refine ⟨y,_,I.lset (its':=its.dropLast) hH e ?_ r.dropLast ?_,ru,q⟩
 ·show its.toArray.eraseIdxIfInBounds (its.toArray.size-1)=its.dropLast.toArray
  rw [List.size_toArray,List.eraseIdxIfInBounds_toArray,erase_last]
 ·rw [List.length_dropLast]
  (first|lia|omega)
noncomputable def rPopAt:V→List V→Hp→VK→Prop:=fun x vs H Q=>Ex5 fun l xs i k y=>x = .ref l∧vs=[.int i]∧H l=some (.lst xs) ∧ -(2 ^ 63)≤i∧i<2 ^ 63∧seqIndex? i xs.length=some k∧xs[k]? = some y∧Q y (upd H l (.lst (xs.eraseIdx k)))
theorem mt_popAt:MtM X "list.pop" rPopAt:=by
 intro pins s σ H x vs v us Q I rx rv h
 obtain ⟨l,xs,i,k,y,rfl,rfl,hH,h1,h2,hk,hy,q⟩:=h
 cases rx
 obtain ⟨u,rfl,ru⟩:=rv.one
 obtain ⟨t,rfl⟩:=ru
 obtain ⟨z,its,n,r,hl,e⟩:=I.lstM hH
 obtain ⟨w,hw,rw'⟩:=r.get hy
 refine call_meets F.slot_list_pop ⟨_,e,rfl⟩ F.entry_list_pop (F.args_list_pop_2 _ _)
  (MeetsSeq.list_pop_at l its.toArray n i t k w (fitsIndex_both h1 h2) (by rw [List.size_toArray, ←hl];exact hk) (by rw [←Array.getElem?_toList];exact hw) (by rw [List.size_toArray]; (first|lia|omega))) ⟨e,?_⟩
 refine ⟨y,_,I.lset (its':=its.eraseIdx k) hH e ?_ (r.eraseIdx k) ?_,rw',q⟩
 ·show its.toArray.eraseIdxIfInBounds k=(its.eraseIdx k).toArray
  rw [List.eraseIdxIfInBounds_toArray]
 ·have:=len_erase xs k
  (first|lia|omega)
noncomputable def rCat:R2:=fun x y H Q=>Ex4 fun l b xs zs=>x = .ref l∧y = .ref b∧H l=some (.lst xs)∧H b=some (.lst zs)∧xs.length+zs.length≤sizeLine∧∀p,H p=none→Q (.ref p) (upd H p (.lst (xs++zs)))
theorem op_cat:OpR X (binaryOp .Add) rCat:=by
 intro pins s σ H x y v u Q I rx ry h
 obtain ⟨l,b,xs,zs,rfl,rfl,hH,hB,hz,q⟩:=h
 cases rx
 cases ry
 obtain ⟨z,its,n,r,hl,e⟩:=I.lstM hH
 obtain ⟨z2,its2,n2,r2,hl2,e2⟩:=I.lstM hB
 refine PySem.P.add_list e e2 ?_ (by rw [List.size_toArray,List.size_toArray]; (first|lia|omega))
 have ea:its.toArray++its2.toArray=(its++its2).toArray:=by simp
 rw [ea]
 exact ⟨.ref _,_,I.lnew (t':=s.toks) (r.append r2) (by rw [List.length_append]; (first|lia|omega)),rfl,q _ I.fresh⟩
noncomputable def rRep:R2:=fun x y H Q=>Ex3 fun l k xs=>x = .ref l∧y = .int k∧H l=some (.lst xs) ∧ -(2 ^ 63)≤k∧k<2 ^ 63∧xs.length*k.toNat≤sizeLine ∧
 ∀p,H p=none→Q (.ref p) (upd H p (.lst (List.replicate k.toNat xs).flatten))
theorem len_rep {α:Type} (xs:List α) (k:Nat):(List.replicate k xs).flatten.length=k*xs.length:=by
 induction k with
 | zero=>simp
 | succ k ih=>rw [List.replicate_succ,List.flatten_cons,List.length_append,ih,Nat.succ_mul,Nat.add_comm]
theorem op_rep:OpR X (binaryOp .Mult) rRep:=by
 intro pins s σ H x y v u Q I rx ry h
 obtain ⟨l,k,xs,rfl,rfl,hH,h1,h2,hz,q⟩:=h
 cases rx
 obtain ⟨t,rfl⟩:=ry
 obtain ⟨z,its,n,r,hl,e⟩:=I.lstM hH
 have hlen:its.toArray.size*k.toNat≤sizeLine:=by rw [List.size_toArray, ←hl];exact hz
 have hcap:¬its.toArray.size*k.toNat>(2 ^ 63-1) / 8:=by
  have:(sizeLine:Nat)≤(2 ^ 63-1) / 8:=by decide
  (first|lia|omega)
 have hfit:¬(!Builtin.List.listFitsIndex k)=true:=by
  rw [fitsIndex_both h1 h2]
  exact Bool.false_ne_true
 have hlong:¬Builtin.List.listTooLong (its.toArray.size*k.toNat)=true:=by
  rw [notLongL hlen]
  exact Bool.false_ne_true
 have hnew:List.foldl (fun x1 x2=>x1++x2) #[] (List.replicate (if its.toArray.isEmpty=true then 0 else k.toNat) its.toArray)=(List.replicate k.toNat its).flatten.toArray:=by
  have f0:∀m:Nat,List.foldl (fun x1 x2=>x1++x2) #[] (List.replicate m its.toArray)=(List.replicate m its).flatten.toArray:=fun m=>by
   have:=foldl_rep its m []
   rw [List.nil_append] at this
   exact this
  rw [f0]
  cases its with
  | nil=>simp
  | cons a r'=>rw [if_neg (by simp)]
 refine wpAny_binaryOp_repeat_ref (T := "list") (U := "int") (by decide) ⟨_,e,rfl⟩ (fun s'=>typeIs_int s' k t) noFill_list_mul F.fills_int_mul F.slot_int_rmul repeat_list F.slot_int_index.lookup
  (call_meets F.slot_int_rmul (typeIs_int s k t) F.entry_int_rmul (F.args_int_rmul_2 _ _) (int___rmul___int_list k t l its.toArray n)
   ⟨e,rfl,⟨_,e,rfl⟩,call_meets F.slot_list_mul ⟨_,e,rfl⟩ F.entry_list_mul (F.args_list_mul_2 _ _) (AutoListH.list___mul___list_int_3 l its.toArray n k t hfit hcap hlong) ⟨e,?_⟩⟩)
 rw [hnew]
 exact ⟨.ref _,_,I.lnew (t':=s.toks) (r.rep k.toNat) (by rw [len_rep,Nat.mul_comm];exact hz),rfl,q _ I.fresh⟩
end
section
variable {prog:Program} {w:World} {A:Around} {E:Value→Shared→Prop} {s:Shared}
set_option maxRecDepth 100000 in
end
section
variable {X:Cx}
end
end L2
namespace Att
open PySem PySem.W PySem.Calls PyProof.Rows
theorem ints_of_wellAll {P:Params} {h:Heap} : ∀(ns:List Int) (vs:List Value),WellAll P h vs (ns.map WData.int)→IntsAre vs ns:=by
 intro ns
 induction ns with
 | nil=>
  intro vs w
  rw [List.map_nil] at w
  cases w
  exact .nil
 | cons n ns ih=>
  intro vs w
  rw [List.map_cons] at w
  cases w with
  | cons a b=>
   cases a
   exact .cons _ _ (ih _ b)
theorem script_of {l:OpenLaw} {n:Nat} (hn:l.most=some n) {P:Params} {h:Heap} {args:List WData} {vals:List Value}
  (hpre:l.row.toRowW.claim.pre args=true) (hwl:WellAll P h vals args) :
  ∃a vs ns,vals=[Value.ref a]∧args=[WData.list (ns.map WData.int)]∧h.get? a=some { cls := .type "list",data := .seq vs.toArray } ∧ IntsAre vs ns∧ns.length≤n:=by
 have hsh:WShape.hasAll [] args [.list .int]=true:=(pre_splitW hpre).1
 have hc:l.pre.holds [] { args:=args } = true:=(pre_splitW hpre).2
 obtain ⟨d,r,rfl,h1,h2⟩:=hasAllW_cons hsh
 obtain rfl:=hasAllW_nil h2
 obtain ⟨xs,rfl,h3⟩:=hasW_list h1
 obtain ⟨ns,rfl⟩:=items_int h3
 have hlen:ns.length≤n:=by
  unfold OpenLaw.pre at hc
  have h4:(WTm.not (.lt (.lit (.int (n:Int))) (.len (.arg 0)))).holds [] { args:=[.list (ns.map .int)] } = true:=by
   have h4:=(holds_andW hc).1
   rw [hn] at h4
   exact h4
  have h5:=condW_of h4 (w_not (w_lt w_lit (w_len_list (w_arg rfl))))
  rw [List.length_map] at h5
  refine Nat.le_of_not_lt fun q => ?_
  have q':(n:Int)<((ns.length:Nat):Int):=by (first|lia|omega)
  first
   | (rw [decide_eq_true q'] at h5;exact absurd h5 (by decide))
   | (simp at h5; (first|lia|omega))
 cases hwl with
 | cons w1 w2=>
  cases w2
  cases w1 with
  | list ho hall=>exact ⟨_,_,ns,rfl,rfl,ho,ints_of_wellAll ns _ hall,hlen⟩
theorem post_true (l:OpenLaw) (args:List WData):l.row.toRowW.claim.post args (.bool true) args=true:=
 postW_of (r:=l.row.toRowW) (X:=(true == true))
  (show WShape.has [] (.bool true) .bool=true by first|rfl|decide|simp [WShape.has,WShape.arms,WShape.armsAll])
  (show (WTm.eq .res (.lit (.bool true))).value [] { args:=args,res:=some (.bool true),after:=args } = some (.bool (true == true)) from w_eq_bool (w_res rfl) w_lit) rfl
theorem attach_call {l:OpenLaw} {n:Nat} {q:Program} {loose:List Str} {XP:(Str→Option Value)→Heap→Prop} {YP:World→Heap→Prop} {d:DefRec}
  (hn:l.most=some n) (hdf:d.params.defaults=[])
  (call:∀(w:World) (s₀ s₁:Shared) (mg mb:Str→Option Value) (fa:Addr) (o:Obj) (pm cd doc:Value) (a:Addr) (vs:List Value) (ns:List Int),
   Ground q loose [] XP w s₀ mg mb s₁.heap→YP w s₁.heap →
   s₁.heap.get? fa=some o→o.data = .func (docDef d.name d.params d.body d.scope pm cd doc)→s₁.heap.CodeRec cd d.name→mg d.name=some (.ref fa) →
   s₁.heap.get? a=some { cls := .type "list",data := .seq vs.toArray } → IntsAre vs ns→ns.length≤n→s₁.gens = #[] →
   codeAny (model l.prog w) callerA (.call (.ref fa) ⟨[.ref a],[]⟩) (fun r s'=>r = .ok (.ret (.bool true))∧OldK s₁.heap s'.heap∧s'.os=s₁.os∧AllBare s'.gens) s₁) :
  WalkO q loose XP YP l.row.toRowW d [] (fun f vs=>PySem.call f vs):=by
 intro w s₀ s₁ mg mb G Y fa o pm cd doc dV kV ho hd hcd hD hmg hg args vals as hpre hlay hrd hwl hlo
 obtain rfl:dV = .none:=Dflts.none hD hdf
 obtain rfl:kV = .none:=Dflts.noKw hD
 obtain ⟨a,vs,ns,rfl,rfl,hobj,hints,hlen⟩:=script_of hn hpre hwl
 refine enter_call (codeAny_mono (call w s₀ s₁ mg mb fa o pm cd doc a vs ns G Y ho (fd_plain hd) hcd hmg hobj hints hlen hg) fun r s' hq => ?_)
 obtain ⟨rfl,h2,h3,h4⟩:=hq
 exact ⟨.inl ⟨.bool true, .bool true,[],rfl,fun _=>rfl, .bool true,post_true l _,fun _=>⟨List.Pairwise.nil,fun _ hm=>(nomatch hm)⟩⟩,h2,h3,h4⟩
section
variable {prog:Program} {w:World} {A:Around} {E:Value→Shared→Prop} {s:Shared} {K:Frag}
end
end Att
namespace L2
open PySem PySem.Spec PyProof.Rows
theorem vals_ints {vs:List Value} {ns:List Int} (h:IntsAre vs ns):Vals (ns.map V.int) vs:=by
 induction h with
 | nil=>exact .nil
 | cons n t h ih=>exact .cons ⟨t,rfl⟩ ih
noncomputable def Only (H:Hp):Prop:=∀b,H b=none∨Ex2 fun o xs=>H b=some (.frz o (.lst xs))
theorem law_call {P:Program} {w:World} {K:PySem.W.Frag} {mg mb:Str→Option Value} {CX:CXT} {k:Nat} {fa a:Addr} {fd:FuncData} {x:Str} {sp:Sp} {s₁:Shared} {vs:List Value} {ns:List Int}
  (KX:K.In s₁.heap) (hns:s₁.heap.Ns mainGlobals mg) (hb:s₁.heap.Ns builtinsNs mb) (hbb:∀x:Str,x ≠ "__name__" → mb x=bootBuiltins x) (hlim:s₁.heap.NoLimit) (hg:s₁.gens = #[])
  (ha:s₁.heap.get? a=some { cls := .type "list",data := .seq vs.toArray }) (hi:IntsAre vs ns) (hl:ns.length≤sizeLine) (hr:Room k callerA)
  (F:∀base:Heap,K.In base→base.Ns mainGlobals mg→FnOk P w K mg base CX k fa fd [x] sp) (hbind:∀(s:Shared) (u:Value),BindsTo s fd ⟨[u],[]⟩ [(x,u)])
  (hsp:∀H:Hp,Only H→SqL K H a (ns.map V.int)→sp [.ref a] H (fun v _=>v = .bl true) fun _ _ _=>False)
  (hCX:∀H e s',CX [] H s₁ (fun _ _ _=>False) e s'→False) :
  codeAny (model P w) callerA (.call (.ref fa) ⟨[.ref a],[]⟩) (fun r s'=>r = .ok (.ret (.bool true))∧OldK s₁.heap s'.heap∧s'.os=s₁.os∧AllBare s'.gens) s₁:=by
 have rv:=vals_ints hi
 have lenV:=hi.length
 have core:∀H:Hp,Only H→SqL K H a (ns.map V.int)→HOk P w H s₁.heap→(∀b,H b≠none→b=a)→(H a≠none→K.lookup a=none) →
   codeAny (model P w) callerA (.call (.ref fa) ⟨[.ref a],[]⟩) (fun r s'=>r = .ok (.ret (.bool true))∧OldK s₁.heap s'.heap∧s'.os=s₁.os∧AllBare s'.gens) s₁:=by
  intro H hO hS hok hA hK
  have base_of:∀{b:Addr} {o:Obj},s₁.heap.get? b=some o→H b=none→(hidT s₁.heap H).get? b=some o:=fun e n=>hidT_get e n
  have noA:∀{b:Addr} {o:Obj} {es:Array DictEntry} {ep:Nat},s₁.heap.get? b=some o→o.data = .dict es ep→H b=none:=fun {b o es ep} e d=>by
   cases q:H b with
   | none=>rfl
   | some u=>
    have e':b=a:=hA b (by rw [q];simp)
    subst e'
    rw [ha] at e;cases e
    have d':Data.seq vs.toArray _=Data.dict es ep:=d
    cases d'
  have nsK:∀{b:Addr} {m:Str→Option Value},s₁.heap.Ns b m→(hidT s₁.heap H).Ns b m:=fun {b m} ⟨o,es,ep,e,d,r⟩=>⟨o,es,ep,base_of e (noA e d),d,r⟩
  have hKb:K.In (hidT s₁.heap H):=fun b o e=>base_of (KX b o e) (by
   cases q:H b with
   | none=>rfl
   | some u=>
    have e':b=a:=hA b (by rw [q];simp)
    subst e'
    rw [hK (by rw [q];simp)] at e;cases e)
  have hM:Mod K mg (hidT s₁.heap H):=⟨hKb,nsK hns,⟨mb,nsK hb,hbb⟩,let ⟨mc,h1,h2⟩:=hlim; ⟨mc,nsK h1,h2⟩⟩
  have e0:Env0 P w K mg (hidT s₁.heap H) callerA [] s₁ H:=⟨rfl,hM,fun b o e=>of_hidT e,Nat.le_of_eq (hidT_size _ _),trivial,fun b hb=>absurd (show b∈([]:List Addr) from hb) (by simp),hok, .of_eq hg⟩
  refine codeAny_mono ((F _ hKb (nsK hns)).run callerA [] s₁ H ⟨[.ref a],[]⟩ [.ref a] [.ref a] _ _ hr e0 (hbind s₁ (.ref a)) (.cons rfl .nil) (hsp H hO hS)) fun r s' h => ?_
  cases r with
  | error e=>exact (hCX H e s' h).elim
  | ok fl=>
   cases fl with
   | next=>exact False.elim h
   | brk=>exact False.elim h
   | cont=>exact False.elim h
   | ret u=>
    obtain ⟨v,H',os,bare,un,hok',r',q⟩:=h
    have q':v = .bl true:=q
    subst q'
    obtain rfl:u=Value.bool true:=r'
    refine ⟨rfl,OldK.of_keep fun b o e => ?_,os,bare⟩
    cases q:H b with
    | none=>exact un.keep b o e q (by intro z;exact absurd (show b∈([]:List Addr) from z) (by simp)) (by simp)
    | some u=>
     rcases hO b with z|⟨ob,xs,z⟩
     ·rw [q] at z;cases z
     ·have z2:=un.frzs b ob _ z
      obtain ⟨e1,_⟩:=hok b _ z
      obtain ⟨e2,_⟩:=hok' b _ z2
      rw [e] at e1;cases e1
      exact e2
 cases hk:K.lookup a with
 | some o=>
  have e:=KX a o hk
  rw [ha] at e
  cases e
  refine core (fun _=>none) (fun _ => .inl rfl) (.inr ⟨_,vs.toArray,_,hk,rfl,rfl,rfl,by rw [List.size_toArray,lenV];exact hl,by simpa using rv⟩) (fun b u z=>by have z':(none:Option HO)=some u:=z;cases z') (fun b z=>absurd rfl z) fun z=>absurd rfl z
 | none=>
  refine core (fun b=>if b=a then some (.frz { cls := .type "list",data := .seq vs.toArray } (.lst (ns.map V.int))) else none) (fun b => ?_) (.inl (.inr ⟨{ cls := .type "list",data := .seq vs.toArray },if_pos rfl⟩)) (fun b u z => ?_) (fun b z => ?_) fun _=>hk
  ·by_cases hb:b=a
   ·exact .inr ⟨_,_,if_pos hb⟩
   ·exact .inl (if_neg hb)
  ·by_cases hb:b=a
   ·have z':=(if_pos hb).symm.trans z
    cases z'
    subst hb
    exact ⟨ha,by rw [List.length_map];exact hl,vs,_,rv,ha⟩
   ·have z':=(if_neg hb).symm.trans z
    cases z'
  ·by_cases hb:b=a
   ·exact hb
   ·exact absurd (if_neg hb) z
end L2
namespace L2
open PySem PySem.Spec PyProof.Rows
theorem walk_of {l:PySem.W.OpenLaw} {n k:Nat} {q:Program} {loose:List Str} {XP:(Str→Option Value)→Heap→Prop} {YP:World→Heap→Prop} {d:DefRec} {K:Params→PySem.W.Frag} {CX:World→CXT} {sp:World→Sp} {x:Str}
  (hn:l.most=some n) (hn2:n≤sizeLine) (hdf:d.params.defaults=[]) (hr:Room k callerA)
  (hY:∀(w:World) (h:Heap),YP w h→(K w.params).In h)
  (F:∀(w:World) (mg:Str→Option Value) (fa:Addr) (h:Heap),(K w.params).In h→h.Ns mainGlobals mg→mg d.name=some (.ref fa) →
   ∃fd:FuncData,(∀(s:Shared) (u:Value),BindsTo s fd ⟨[u],[]⟩ [(x,u)]) ∧
    ∀base:Heap,(K w.params).In base→base.Ns mainGlobals mg→FnOk l.prog w (K w.params) mg base (CX w) k fa fd [x] (sp w))
  (hsp:∀(w:World) (H:Hp) (a:Addr) (ns:List Int),ns.length≤n→Only H→SqL (K w.params) H a (ns.map V.int)→sp w [.ref a] H (fun v _=>v = .bl true) fun _ _ _=>False)
  (hCX:∀(w:World) (H:Hp) (s:Shared) (e:Value) (s':Shared),CX w [] H s (fun _ _ _=>False) e s'→False) :
  PySem.W.WalkO q loose XP YP l.row.toRowW d [] (fun f vs=>PySem.call f vs):=by
 refine Att.attach_call hn hdf fun w s₀ s₁ mg mb fa o pm cd doc a vs ns G Y ho hd hcd hmg hobj hints hlen hg => ?_
 have KX:=hY w _ Y
 obtain ⟨fd,hb,hF⟩:=F w mg fa _ KX G.T.g hmg
 exact law_call KX G.T.g G.T.b G.T.builtins G.T.nolimit hg hobj hints (Nat.le_trans hlen hn2) hr hF hb (fun H hO hS=>hsp w H a ns hlen hO hS) fun H e s'=>hCX w H s₁ e s'
end L2
namespace L2
open PySem PySem.Spec PyProof.Rows
noncomputable def inClass (s:Stmt) (j:Nat):Stmt:=match s with
 | .ClassDef _ _ _ body _ _ _ _ _ _ _=>body.getD j (.Pass ⟨0,0,0,0⟩)
 | _ => .Pass ⟨0,0,0,0⟩
noncomputable def defArgs (s:Stmt):Arguments:=match s with
 | .FunctionDef _ a _ _ _ _ _ _ _ _=>a
 | _=>{ posonlyargs:=[],args:=[],vararg:=none,kwonlyargs:=[],kw_defaults:=[],kwarg:=none,defaults:=[] }
noncomputable def defBody (s:Stmt):List Stmt:=match s with
 | .FunctionDef _ _ b _ _ _ _ _ _ _=>b
 | _=>[]
noncomputable def defScope (s:Stmt):Scope:=match s with
 | .FunctionDef _ _ _ _ _ _ sc _ _ _=>sc
 | _=>{ kind := .function,names:=[],isGenerator:=false,isCoroutine:=false }
noncomputable abbrev CX0:CXT:=fun _ _ _ _ _ _=>False
noncomputable abbrev E0:XK:=fun _ _ _=>False
theorem pass0 {X:Cx} : Passes CX0 X E0:=fun _ _ _ _ _ _ _ h=>h.elim
structure Fun (K:PySem.W.Frag) (x qual:Str) (st:Stmt) (f:Addr) (fd:FuncData):Prop where
 ex:∃(oc:Value) (od:Option Addr) (kV doc pm:Value) (an:Option Addr) (cdv ct:Value) (osl:Array (Option Value)),
  fd=PySem.W.fnOf x qual (defArgs st) (defBody st) (defScope st) .none kV doc pm an cdv ct∧K.lookup f=some ⟨oc,od, .func fd,osl⟩∧PySem.W.codeIn K cdv qual=true
 kp:PySem.W.keepIn K (.ref f)=true
section
variable {P:Program} {w:World} {K:PySem.W.Frag} {mg:Str→Option Value} {base:Heap}
theorem Fun.ok {x qual:Str} {st:Stmt} {f:Addr} {fd:FuncData} {N ps:List Str} {k:Nat} {sp:Sp} (F:Fun K x qual st f fd) (S:FnScope N ps (defScope st)) (len:∀vs H Q E,sp vs H Q E→vs.length=ps.length)
  (hbody:∀(cdv:Value) (A:Around) (outer:List Env) (s:Shared) (H:Hp) (vs:List V) (Q:VK) (E:XK),Room k (A.deeper (envOfC qual (defScope st) s.heap.objs.size f cdv))→sp vs H Q E →
   ∃t,PSs (cxOf CX0 P w K mg base N qual (defScope st) f cdv A outer s H E).nox (defBody st) t∧t { nx:=fun _ H'=>Q .non H',rt:=Q } (start N vs) H):FnOk P w K mg base CX0 (k+1) f fd ps sp:=by
 obtain ⟨oc,od,kV,doc,pm,an,cdv,ct,osl,rfl,lk,hcd⟩:=F.ex
 refine fn_of lk hcd S len fun A outer s H vs Q E hr hsp => ?_
 obtain ⟨t,h,q⟩:=hbody cdv A outer s H vs Q E hr hsp
 exact ⟨t,h.nox,q⟩
theorem Fun.binds {x qual:Str} {st:Stmt} {f:Addr} {fd:FuncData} {ps:List Str} (F:Fun K x qual st f fd)
  (h:∀(kV doc pm:Value) (an:Option Addr) (cdv ct:Value) (us:List Value),us.length=ps.length→bindArgs (PySem.W.fnOf x qual (defArgs st) (defBody st) (defScope st) .none kV doc pm an cdv ct) ⟨us,[]⟩=pure (ps.zip us)):Binds K fd ps []:=by
 obtain ⟨oc,od,kV,doc,pm,an,cdv,ct,osl,rfl,lk,hcd⟩:=F.ex
 exact .all (h kV doc pm an cdv ct)
theorem fun_mk {x qual:Str} {st:Stmt} {f:Addr} {oc:Value} {od an:Option Addr} {osl:Array (Option Value)} {kV doc pm cdv ct:Value} (l:K.lookup f=some ⟨oc,od, .func (PySem.W.fnOf x qual (defArgs st) (defBody st) (defScope st) .none kV doc pm an cdv ct),osl⟩)
  (c:PySem.W.codeIn K cdv qual=true) (k:PySem.W.keepIn K (.ref f)=true):Fun K x qual st f (PySem.W.fnOf x qual (defArgs st) (defBody st) (defScope st) .none kV doc pm an cdv ct):=⟨⟨oc,od,kV,doc,pm,an,cdv,ct,osl,rfl,l,c⟩,k⟩
end
theorem hu_of {A:Around} {k:Nat} (hr:Room k A):A.units+1<cLine:=Nat.lt_of_le_of_lt (Nat.add_le_add_left (by decide:1≤64) _) hr.units
section
variable {X:Cx}
theorem pv (i:Nat) {x:Str} {pos:Pos} (hN:X.N[i]? = some x:=by rfl) (hv:Vis X.env.scope x:=by first|exact Or.inl rfl|exact Or.inr (Or.inl rfl)|exact Or.inr (Or.inr rfl)) (hd:(x == ("__debug__" : Str))=false:=by decide)
  (hcd:(x == ("__classdict__" : Str))=false:=by decide):PE X (.Name x pos) (tVar i):=pe_var hN hv hd hcd
end
theorem iteF {A B:Prop} (h:B):if false=true then A else B:=by
 rw [if_neg Bool.false_ne_true]
 exact h
theorem iteT {A B:Prop} (h:A):if true=true then A else B:=by
 rw [if_pos rfl]
 exact h
theorem ite2 {c A B:Prop} [Decidable c] (h1:c→A) (h2:¬c→B):if c then A else B:=by
 by_cases h:c
 ·rw [if_pos h]
  exact h1 h
 ·rw [if_neg h]
  exact h2 h
noncomputable def Same (H H':Hp):Prop:=∀b o,H b=some o→H' b=some o
theorem Same.refl (H:Hp):Same H H:=fun _ _ h=>h
theorem Same.trans {H H1 H2:Hp} (a:Same H H1) (b:Same H1 H2):Same H H2:=fun c o h=>b c o (a c o h)
theorem Same.free {H H':Hp} (e:Same H H') {l:Addr} (h:H' l=Option.none):H l=Option.none:=by
 cases q:H l with
 | none=>rfl
 | some o=>
  rw [e l o q] at h
  cases h
theorem Same.seq {K:PySem.W.Frag} {H H':Hp} {a:Addr} {xs:List V} (e:Same H H') (h:SqL K H a xs):SqL K H' a xs:=by
 rcases h with (h|⟨o,h⟩)|h
 ·exact .inl (.inl (e _ _ h))
 ·exact .inl (.inr ⟨o,e _ _ h⟩)
 ·exact .inr h
end L2
namespace L2
open PySem PySem.Spec PyProof.Rows
section
variable {X:Cx}
end
end L2
namespace L2
open PySem PySem.Spec PyProof.Rows
section
variable {κ:Type} [DecidableEq κ]
theorem valV_not {kvs:List (κ×V)} {k : κ} (h:valV kvs k=none):¬k∈kvs.map (·.1):=by
 intro m
 obtain ⟨p,hp,e⟩:=List.mem_map.mp m
 have q:(kvs.any fun kv=>decide (kv.1=k))=true:=List.any_eq_true.mpr ⟨p,hp,decide_eq_true e⟩
 rw [valV_any,h] at q
 exact absurd q (by simp)
theorem valV_in {kvs:List (κ×V)} {k : κ} {v:V} (h:valV kvs k=some v):k∈kvs.map (·.1):=by
 have q:(kvs.any fun kv=>decide (kv.1=k))=true:=by
  rw [valV_any,h]
  all_goals rfl
 obtain ⟨p,hp,e⟩:=List.any_eq_true.mp q
 exact List.mem_map.mpr ⟨p,hp,of_decide_eq_true e⟩
theorem nd_snoc:∀{l:List κ} {k : κ},l.Nodup→¬k∈l→(l++[k]).Nodup
 | [],k,_,_=>by simp
 | a :: r,k,h,hk=>by
  obtain ⟨h1,h2⟩:=List.nodup_cons.mp h
  show (a :: (r++[k])).Nodup
  refine List.nodup_cons.mpr ⟨fun m => ?_,nd_snoc h2 fun m=>hk (List.mem_cons.mpr (Or.inr m))⟩
  rcases List.mem_append.mp m with q|q
  ·exact h1 q
  ·exact hk (List.mem_cons.mpr (Or.inl (List.mem_singleton.mp q).symm))
theorem nd_putK {kvs:List (κ×V)} {k : κ} (v:V) (hn:(kvs.map (·.1)).Nodup) (h:valV kvs k=none):((putK kvs k v).map (·.1)).Nodup:=by
 rw [putK_new v h,List.map_append]
 exact nd_snoc hn (valV_not h)
theorem dropK_pos {p : κ×V} {r:List (κ×V)} {k : κ} (e:p.1=k):dropK (p :: r) k=dropK r k:=by
 unfold dropK
 rw [List.filter_cons,if_neg (by simp [e])]
theorem dropK_neg {p : κ×V} {r:List (κ×V)} {k : κ} (e:¬p.1=k):dropK (p :: r) k=p :: dropK r k:=by
 unfold dropK
 rw [List.filter_cons,if_pos (by simp [e])]
theorem dropK_mem {kvs:List (κ×V)} {k : κ} {p : κ×V} (h:p∈dropK kvs k):p∈kvs:=(List.mem_filter.mp h).1
theorem nd_dropK:∀{kvs:List (κ×V)} {k : κ},(kvs.map (·.1)).Nodup→((dropK kvs k).map (·.1)).Nodup
 | [],_,_=>List.nodup_nil
 | p :: r,k,h=>by
  have h:(p.1 :: r.map (·.1)).Nodup:=h
  obtain ⟨h1,h2⟩:=List.nodup_cons.mp h
  by_cases e:p.1=k
  ·rw [dropK_pos e]
   exact nd_dropK h2
  ·rw [dropK_neg e]
   show (p.1 :: (dropK r k).map (·.1)).Nodup
   refine List.nodup_cons.mpr ⟨fun m=>h1 ?_,nd_dropK h2⟩
   obtain ⟨q,hq,eq⟩:=List.mem_map.mp m
   exact List.mem_map.mpr ⟨q,dropK_mem hq,eq⟩
end
end L2
set_option maxHeartbeats 4000000
namespace L2
class Elim (P:Prop) (F:outParam (Prop→Prop)):Prop where
 el:P→∀G:Prop,F G→G
noncomputable instance (priority:=low) elimBase {P:Prop} : Elim P (fun G=>P→G):=⟨fun h _ k=>k h⟩
noncomputable instance elimEx {α:Sort u} {P : α→Prop} {F : α→Prop→Prop} [h:∀x,Elim (P x) (F x)]:Elim (∃x,P x) (fun G=>∀x,F x G):=⟨fun ⟨x,hx⟩ G k=>(h x).el hx G (k x)⟩
noncomputable instance elimAnd {A B:Prop} {F:Prop→Prop} [h:Elim B F]:Elim (A∧B) (fun G=>A→F G):=⟨fun ⟨a,b⟩ G k=>h.el b G (k a)⟩
noncomputable instance elimEx2 {α0 α1:Type} {P : α0 → α1→Prop} {F : α0 → α1→Prop→Prop} [i:∀x0 x1,Elim (P x0 x1) (F x0 x1)]:Elim (Ex2 P) (fun G=>∀x0 x1,F x0 x1 G):=⟨fun ⟨x0,x1,h⟩ G k=>(i x0 x1).el h G (k x0 x1)⟩
noncomputable instance elimEx3 {α0 α1 α2:Type} {P : α0 → α1 → α2→Prop} {F : α0 → α1 → α2→Prop→Prop} [i:∀x0 x1 x2,Elim (P x0 x1 x2) (F x0 x1 x2)]:Elim (Ex3 P) (fun G=>∀x0 x1 x2,F x0 x1 x2 G):=⟨fun ⟨x0,x1,x2,h⟩ G k=>(i x0 x1 x2).el h G (k x0 x1 x2)⟩
noncomputable instance elimEx4 {α0 α1 α2 α3:Type} {P : α0 → α1 → α2 → α3→Prop} {F : α0 → α1 → α2 → α3→Prop→Prop} [i:∀x0 x1 x2 x3,Elim (P x0 x1 x2 x3) (F x0 x1 x2 x3)]:Elim (Ex4 P) (fun G=>∀x0 x1 x2 x3,F x0 x1 x2 x3 G):=⟨fun ⟨x0,x1,x2,x3,h⟩ G k=>(i x0 x1 x2 x3).el h G (k x0 x1 x2 x3)⟩
noncomputable instance elimEx5 {α0 α1 α2 α3 α4:Type} {P : α0 → α1 → α2 → α3 → α4→Prop} {F : α0 → α1 → α2 → α3 → α4→Prop→Prop} [i:∀x0 x1 x2 x3 x4,Elim (P x0 x1 x2 x3 x4) (F x0 x1 x2 x3 x4)]:Elim (Ex5 P) (fun G=>∀x0 x1 x2 x3 x4,F x0 x1 x2 x3 x4 G):=⟨fun ⟨x0,x1,x2,x3,x4,h⟩ G k=>(i x0 x1 x2 x3 x4).el h G (k x0 x1 x2 x3 x4)⟩
noncomputable instance elimEx6 {α0 α1 α2 α3 α4 α5:Type} {P : α0 → α1 → α2 → α3 → α4 → α5→Prop} {F : α0 → α1 → α2 → α3 → α4 → α5→Prop→Prop} [i:∀x0 x1 x2 x3 x4 x5,Elim (P x0 x1 x2 x3 x4 x5) (F x0 x1 x2 x3 x4 x5)]:Elim (Ex6 P) (fun G=>∀x0 x1 x2 x3 x4 x5,F x0 x1 x2 x3 x4 x5 G):=⟨fun ⟨x0,x1,x2,x3,x4,x5,h⟩ G k=>(i x0 x1 x2 x3 x4 x5).el h G (k x0 x1 x2 x3 x4 x5)⟩
end L2
namespace L2
open PySem PySem.Spec PyProof.Rows
noncomputable abbrev noE:Value→Shared→Prop:=fun _ _=>False
theorem noE_to {α:Type} {M:Model} {A:Around} {t:Sem α} {Q : α→Shared→Prop} {E:Value→Shared→Prop} {s:Shared} (h:wpAny M A t Q noE s):wpAny M A t Q E s:=
 wpAny_mono h (fun _ _ q=>q) fun _ _ z=>z.elim
theorem addr_ne {a b:Addr} {n:Nat} (h:a<n) (h':n≤b):a≠b:=fun e=>absurd (Nat.lt_of_lt_of_le h h') (by rw [e];exact Nat.lt_irrefl _)
theorem addr_ne' {a b:Addr} {n:Nat} (h:a<n) (h':n≤b):b≠a:=fun e=>addr_ne h h' e.symm
theorem closure_go (env:Env):∀(names:List (Str×NameKind)) (acc:List (Str×Addr)),
  (∀y∈names,y.2 = .free→∃c,env.cells.lookup y.1=some c)→(∀n c,acc.lookup n=some c→env.cells.lookup n=some c) →
  ∃cl,(forIn names acc fun (x:Str×NameKind) (cs:List (Str×Addr))=>(if (x.2 == NameKind.free)=true then do
    let a ←cellOf env x.1
    pure (ForInStep.yield ((x.1,a) :: cs)) else pure (ForInStep.yield cs):Sem (ForInStep (List (Str×Addr)))))=pure cl ∧
   (∀n c,cl.lookup n=some c→env.cells.lookup n=some c)∧(∀n c,acc.lookup n=some c→∃c',cl.lookup n=some c')∧∀y∈names,y.2 = .free→∃c,cl.lookup y.1=some c
 | [],acc,_,h2=>⟨acc,rfl,h2,fun _ c h=>⟨c,h⟩,fun _ h=>nomatch h⟩
 | (n,k) :: r,acc,h1,h2=>by
  have hr:∀y∈r,y.2 = .free→∃c,env.cells.lookup y.1=some c:=fun y hy=>h1 y (List.mem_cons_of_mem _ hy)
  by_cases hk:k = .free
  ·subst hk
   obtain ⟨c,hc⟩:=h1 (n, .free) List.mem_cons_self rfl
   obtain ⟨cl,e,p1,p2,p3⟩:=closure_go env r ((n,c) :: acc) hr (fun m d hm=>by
    rw [List.lookup_cons] at hm
    by_cases q:m == n
    ·rw [q] at hm
     have:m=n:=by simpa using q
     subst this
     cases hm
     exact hc
    ·have q':(m == n)=false:=by simpa using q
     rw [q'] at hm
     exact h2 m d hm)
   refine ⟨cl,?_,p1,fun m d hm => ?_,fun y hy hf => ?_⟩
   ·rw [List.forIn_cons]
    rw [←e]
    show (cellOf env n >>= fun a=>_) >>= _=_
    unfold cellOf
    rw [hc]
    rfl
   ·by_cases q:m=n
    ·subst q
     exact p2 m c (by rw [List.lookup_cons];simp)
    ·exact p2 m d (by rw [List.lookup_cons];simp only [beq_eq_false_iff_ne.mpr q];exact hm)
   ·rcases List.mem_cons.mp hy with rfl|hy
    ·exact p2 n c (by rw [List.lookup_cons];simp)
    ·exact p3 y hy hf
  ·refine Elim.el (closure_go env r acc hr h2) _ ?_
   rintro cl e p1 p2 p3
   refine ⟨cl,?_,p1,p2,fun y hy hf => ?_⟩
   ·rw [List.forIn_cons, ←e]
    have hb:(k == NameKind.free)=false:=by simpa using hk
    simp only [hb,Bool.false_eq_true,if_false]
    rfl
   ·rcases List.mem_cons.mp hy with rfl|hy
    ·exact absurd hf hk
    ·exact p3 y hy hf
theorem closure_of {scope:Scope} {env:Env} (h:∀y∈scope.names,y.2 = .free→∃c,env.cells.lookup y.1=some c) :
  ∃cl,closureFor scope env=pure cl∧(∀n c,cl.lookup n=some c→env.cells.lookup n=some c)∧∀y∈scope.names,y.2 = .free→∃c,cl.lookup y.1=some c:=by
 obtain ⟨cl,e,p1,_,p3⟩:=closure_go env scope.names [] h (fun n c h=>by simp at h)
 refine ⟨cl,?_,p1,p3⟩
 unfold closureFor
 refine Eq.trans ?_ (congrArg (fun m=>m >>= fun (cs:List (Str×Addr))=>(pure cs:Sem _)) e)
 rfl
noncomputable def testsOf (ifs:List Expr) (env:Env):Sem Bool:=forIn ifs true fun c r=>if r=true then do let ok ←isTrue c env (eval c env);pure (ForInStep.yield ok) else pure (ForInStep.yield r)
section
variable {prog:Program} {w:World} {A:Around} {R:Result→Shared→Prop} {s:Shared}
theorem comp_turns {elt target iter:Expr} {ifs:List Expr} {scope:Scope} {pos:Pos} {it acc:Value} {env:Env} (I:Nat→Shared→Prop)
  (turn:∀n s,I n s→wpAny (model prog w) A (pyNext it) (fun r s1=>match r with
   | none=>R (.ok .next) s1
   | some v=>wpAny (model prog w) A (letOwnedTupleGo target it v) (fun _ s1'=>wpAny (model prog w) A (assign target env v) (fun _ s2=>
     wpAny (model prog w) A (testsOf ifs env) (fun ok s3=>
      if ok=true then wpAny (model prog w) A (eval elt env) (fun x s4=>
       wpAny (model prog w) A (call (.builtin "list.append") [acc,x]) (fun _ s5=>∃m,m<n∧I m s5) noE s4) noE s3
      else ∃m,m<n∧I m s3) noE s2) noE s1') noE s1) noE s)
  (n:Nat) (h:I n s):codeAny (model prog w) A (.compLoop (.ListComp elt [⟨target,iter,ifs,0⟩] scope pos) 0 it acc env) R s:=by
 refine codeAny_loop rfl I (fun n s hI=>(show wpAny _ A (Sem.onRaise (compTurn (.ListComp elt [⟨target,iter,ifs,0⟩] scope pos) 0 it acc env) (fun x=>do noteFrame x env;theTreesLotGoes x)) _ _ s from wpAny_noted ?_)) n h
 rw [compTurn_list]
 refine wpAny_bind (wpAny_standAt (wpAny_bind (noE_to (thn (turn n s hI) fun r s1 h1 => ?_))))
 cases r with
 | none=>exact wpAny_pure h1
 | some v=>
  refine wpAny_bind (noE_to (thn h1 fun _ s1' h1' => ?_))
  refine wpAny_bind (noE_to (thn h1' fun _ s2 h2=>wpAny_bind (noE_to (thn h2 fun ok s3 h3 => ?_))))
  cases ok with
  | false=>exact wpAny_pure ⟨rfl,h3⟩
  | true=>exact wpAny_bind (wpAny_bind (noE_to (thn h3 fun x s4 h4=>wpAny_bind (noE_to (thn h4 fun _ s5 h5=>wpAny_pure (wpAny_pure ⟨rfl,h5⟩))))))
end
theorem HOk.adopt {P:Program} {w:World} {H:Hp} {h:Heap} {a:Addr} {o:HO} (x:HOk P w H h) (hn:H a=none) (new:ObjOk P w (upd H a o) h a o):HOk P w (upd H a o) h:=fun b u e=>by
 by_cases hb:b=a
 ·subst hb;rw [upd_same] at e;cases e;exact new
 ·rw [upd_ne hb] at e
  exact (x b u e).stay (fun c v _ q=>q) (fun c q=>by rw [upd_ne (ne_of_none q hn)];exact q) fun c xs q=>by rw [upd_ne (ne_of_none q hn)];exact q
structure CompOk (X:Cx) (scope:Scope) (Nc Fc:List Str) (js:List Nat):Prop where
 kind:scope.kind = .function
 nocell:∀y∈scope.names,y.2 ≠ .cell
 names:∀y∈scope.names,y.2 = .local→scope.names.lookup y.1=some .local
 free:∀y∈scope.names,y.2 = .free→X.env.kindOf y.1=some .cell∨X.env.kindOf y.1=some .free
 frees:∀(k:Nat) (x:Str),Fc[k]? = some x→scope.names.lookup x=some .free∧∃j,js[k]? = some j∧X.N[j]? = some x
 lens:js.length=Fc.length
noncomputable def cvals (σ:St) (js:List Nat):St:=js.map fun j=>(σ[j]?).join
noncomputable def cxC (X:Cx) (Nc Fc:List Str) (scope:Scope) (cl:List (Str×Addr)) (C:Addr) (s:Shared) (H:Hp) (fp:List Addr):Cx:=
 { X with N:=Nc++Fc,s₀:=s,H₀:=H,env:=compEnvC scope cl C X.env,outer:=X.stack,stack:=X.stack,ex:=fp,fn:=fun _=>false,pn:=[],xe:=noE }
theorem relabel_free {env:Env} : ∀{names:List (Str×NameKind)} {x:Str} {k:NameKind},(names.map fun (n,k)=>if (k == NameKind.free&&env.scope.kind == .function&&env.kindOf n == some .cell) then (n,NameKind.cell) else (n,k)).lookup x=some k →
  names.lookup x=some k∨(k = .cell∧names.lookup x=some .free)
 | [],_,_,h=>by simp at h
 | (n,k0) :: r,x,k,h=>by
  have ih := @relabel_free env r x k
  rw [List.map_cons] at h
  dsimp only at h
  by_cases hx:x=n
  ·subst hx
   by_cases hc:(k0 == NameKind.free&&env.scope.kind == .function&&env.kindOf x == some .cell)=true
   ·rw [if_pos hc] at h
    simp only [List.lookup_cons,beq_self_eq_true] at h
    have hk:k0 = .free:=by
     have:=(Bool.and_eq_true _ _).mp ((Bool.and_eq_true _ _).mp hc).1
     simpa using this.1
    subst hk
    cases h
    exact .inr ⟨rfl,by simp only [List.lookup_cons,beq_self_eq_true]⟩
   ·rw [if_neg hc] at h
    simp only [List.lookup_cons,beq_self_eq_true] at h ⊢
    exact .inl h
  ·have hb:(x == n)=false:=beq_eq_false_iff_ne.mpr hx
   have e:List.lookup x ((if (k0 == NameKind.free&&env.scope.kind == .function&&env.kindOf n == some .cell)=true then (n,NameKind.cell) else (n,k0)) :: (r.map fun (n,k)=>if (k == NameKind.free&&env.scope.kind == .function&&env.kindOf n == some .cell) then (n,NameKind.cell) else (n,k)))=some k:=h
   have e2:List.lookup x (r.map fun (n,k)=>if (k == NameKind.free&&env.scope.kind == .function&&env.kindOf n == some .cell) then (n,NameKind.cell) else (n,k))=some k:=by
    by_cases hc:(k0 == NameKind.free&&env.scope.kind == .function&&env.kindOf n == some .cell)=true
    ·rw [if_pos hc] at e;simp only [List.lookup_cons,hb] at e;exact e
    ·rw [if_neg hc] at e;simp only [List.lookup_cons,hb] at e;exact e
   simp only [List.lookup_cons,hb]
   exact ih e2
theorem relabel_of_free {env:Env} : ∀{names:List (Str×NameKind)} {x:Str},names.lookup x=some .free →
  (names.map fun (n,k)=>if (k == NameKind.free&&env.scope.kind == .function&&env.kindOf n == some .cell) then (n,NameKind.cell) else (n,k)).lookup x=some .cell ∨
  (names.map fun (n,k)=>if (k == NameKind.free&&env.scope.kind == .function&&env.kindOf n == some .cell) then (n,NameKind.cell) else (n,k)).lookup x=some .free
 | [],_,h=>by simp at h
 | (n,k0) :: r,x,h=>by
  have ih := @relabel_of_free env r x
  rw [List.map_cons]
  dsimp only
  by_cases hx:x=n
  ·subst hx
   simp only [List.lookup_cons,beq_self_eq_true] at h
   cases h
   by_cases hc:(NameKind.free == NameKind.free&&env.scope.kind == .function&&env.kindOf x == some .cell)=true
   ·rw [if_pos hc];left;simp only [List.lookup_cons,beq_self_eq_true]
   ·rw [if_neg hc];right;simp only [List.lookup_cons,beq_self_eq_true]
  ·have hb:(x == n)=false:=beq_eq_false_iff_ne.mpr hx
   simp only [List.lookup_cons,hb] at h
   by_cases hc:(k0 == NameKind.free&&env.scope.kind == .function&&env.kindOf n == some .cell)=true
   ·rw [if_pos hc];simp only [List.lookup_cons,hb];exact ih h
   ·rw [if_neg hc];simp only [List.lookup_cons,hb];exact ih h
theorem mem_of_lookup':∀{l:List (Str×NameKind)} {x:Str} {k:NameKind},l.lookup x=some k→(x,k)∈l:=fun h=>PySem.mem_of_lookup h
section
variable {X:Cx} {pins:List (Addr×Obj)} {σ:St} {H:Hp} {s:Shared} {scope:Scope} {Nc Fc:List Str} {js:List Nat} {cl:List (Str×Addr)} {C D:Addr} {fp:List Addr}
theorem cxC_kind {x:Str} : (cxC X Nc Fc scope cl C s H fp).env.kindOf x=(scope.names.map fun (n,k)=>if (k == NameKind.free&&X.env.scope.kind == .function&&X.env.kindOf n == some .cell) then (n,NameKind.cell) else (n,k)).lookup x:=rfl
theorem cxC_ok (I:Inv X pins σ H s) (c:CompOk X scope Nc Fc js) (hsub:∀n c,cl.lookup n=some c→X.env.cells.lookup n=some c) (hhas:∀y∈scope.names,y.2 = .free→∃c,cl.lookup y.1=some c)
  (hC:s.heap.objs.size≤C) (hf:∀b∈fp,FpOk X pins H b) (ho:∀b∈fp,∃o,s.heap.get? b=some o):(cxC X Nc Fc scope cl C s H fp).Ok where
 mod:=I.ok.mod
 kind:=c.kind
 glob:=I.ok.glob
 blt:=I.ok.blt
 above:=hC
 inj:=fun x y a h1 h2=>I.ok.inj x y a (hsub _ _ h1) (hsub _ _ h2)
 has:=fun x hx=>by
  have key:scope.names.lookup x=some .free:=by
   rw [cxC_kind] at hx
   rcases hx with h|h
   ·rcases relabel_free h with q|⟨_,q⟩
    ·exact absurd rfl (c.nocell _ (mem_of_lookup' q))
    ·exact q
   ·rcases relabel_free h with q|⟨q,_⟩
    ·exact q
    ·cases q
  exact hhas _ (mem_of_lookup' key) rfl
 cab:=fun _ _ h=>nomatch h
 hd:=I.ok.hd
 frames:=I.ok.frames
 stk := .inl rfl
 exf:=fun b hb=>⟨fun z=>by
   obtain ⟨o,e⟩:=ho b hb
   exact addr_ne (Heap.lt_size e) hC z,fun x a e z=>(hf b hb).2.2.2.2.1 x a (hsub _ _ e) z⟩
 bs:=fun b o e=>I.bs b o e
 bsz:=Nat.le_trans I.ok.bsz I.sz
 noex:=fun b o e hb=>by
  rcases (hf b hb).2.2.2.1 with z|z
  ·exact I.ok.noex b o e z
  ·exact absurd (Nat.lt_of_lt_of_le (Heap.lt_size (I.ok.bs b o e).1) z) (Nat.lt_irrefl _)
 exfs:=fun b hb z=>by
  rcases List.mem_cons.mp (I.stkSub b z) with q|q
  ·exact (hf b hb).2.1 q
  ·exact (hf b hb).2.2.1 q
 funs:=I.stack
 frf:=I.stkFree
theorem cxC_inv (I:Inv X pins σ H s) (c:CompOk X scope Nc Fc js) (hsub:∀n c,cl.lookup n=some c→X.env.cells.lookup n=some c) (hhas:∀y∈scope.names,y.2 = .free→∃c,cl.lookup y.1=some c)
  (hC:s.heap.objs.size≤C) (hD:s.heap.objs.size≤D) (hDC:D≠C) (hf:∀b∈fp,FpOk X pins H b) (ho:∀b∈fp,∃o,s.heap.get? b=some o) {h1:Heap} {t1:Nat} {m:Str→Option Value} {ob:Obj}
  (hk:∀b o,s.heap.get? b=some o→h1.get? b=some o) (hm:h1.Ns C m) (hob:h1.get? D=some ob) (hnc:∀v,ob.data ≠ .cell v) :
  Inv (cxC X Nc Fc scope cl C s H fp) [(D,ob)] (List.replicate Nc.length none++cvals σ js) H { s with heap:=h1,toks:=t1 }:=by
 refine ⟨cxC_ok I c hsub hhas hC hf ho,rfl,I.bare,Un.kept hk,⟨m,hm,fun i x v e1 e2 e3 => ?_⟩,fun x a e => ?_,I.hok.fresh hC,fun x a e=>I.freeC x a (hsub x a e),fun p hp => ?_,I.hok.kept hk,?_⟩
 ·have e1:(Nc++Fc)[i]? = some x:=e1
  have e2:(List.replicate Nc.length none++cvals σ js)[i]? = some (some v):=e2
  by_cases hi:i<Nc.length
  ·rw [List.getElem?_append_left (by simpa using hi),List.getElem?_replicate] at e2
   split at e2 <;> cases e2
  ·rw [List.getElem?_append_right (by first|lia|omega)] at e1
   rw [List.getElem?_append_right (by rw [List.length_replicate]; (first|lia|omega)),List.length_replicate] at e2
   refine Elim.el (c.frees _ _ e1) _ ?_
   rintro hfr j hj hN
   have hv : σ[j]? = some (some v):=by
    unfold cvals at e2
    rw [List.getElem?_map,hj] at e2
    have e2:some ((σ[j]?).join)=some (some v):=e2
    cases q : σ[j]? with
    | none=>rw [q] at e2;cases e2
    | some z=>rw [q] at e2;cases e2;rfl
   have kx:=c.free _ (mem_of_lookup' hfr) rfl
   refine Elim.el (I.loc) _ ?_
   rintro m0 hn0 hl0
   have vis:Vis X.env.scope x:=by
    rcases kx with k|k
    ·exact .inr (.inl k)
    ·exact .inr (.inr k)
   refine Elim.el (hl0 j x v hN hv vis) _ ?_
   rintro u ru lk
   refine ⟨u,ru, .inr ⟨?_,?_⟩⟩
   ·rw [cxC_kind];exact relabel_of_free hfr
   ·obtain ⟨a,ha⟩:=hhas _ (mem_of_lookup' hfr) rfl
    refine ⟨a,ha,?_⟩
    rcases lk with ⟨k,_⟩|⟨_,a',ha',hcell⟩
    ·rcases kx with q|q <;> (rw [k] at q;cases q)
    ·have e:=hsub _ _ ha
     dsimp only at e
     rw [ha'] at e;cases e
     exact hcell.keeps hk
 ·obtain ⟨v,z⟩:=I.cell x a (hsub x a e)
  exact ⟨v,z.keeps hk⟩
 ·have hp:p=(D,ob):=by
   have:p∈[(D,ob)]:=hp
   simpa using this
  subst hp
  refine ⟨hob,I.hok.fresh hD,hDC,fun z => ?_,hnc⟩
  have z:D∈frs X.stack:=z
  rcases List.mem_cons.mp (I.stkSub D z) with q|q
  ·exact addr_ne' I.lt hD q
  ·exact I.nofs hD q
 ·show (List.replicate Nc.length none++cvals σ js).length=(Nc++Fc).length
  unfold cvals
  rw [List.length_append,List.length_append,List.length_replicate,List.length_map,c.lens]
end
noncomputable def PTs (X:Cx) (ifs:List Expr) (t:TT):Prop:=
 ∀ ⦃pins:List (Addr×Obj)⦄ (s:Shared) (σ:St) (H:Hp) (Q:Bool→Hp→Prop),Inv X pins σ H s→t σ H Q→wpAny (model X.prog X.w) X.A (testsOf ifs X.env) (TP X pins σ Q) X.xe s
noncomputable def tYes:TT:=fun _ H Q=>Q true H
theorem pts_nil {X:Cx} : PTs X [] tYes:=fun _ _ _ H _ I h=>wpAny_tests_nil ⟨H,I,h⟩
theorem pts_one {X:Cx} {c:Expr} {t:TT} (h:PT X c t):PTs X [c] t:=fun pins s σ H Q I hw=>wpAny_tests_one (h s σ H Q I hw)
noncomputable def CompW (J:It) (n:Nat) (js:List Nat) (g:TG) (tc:TT) (te:TE) (σ:St) (H1:Hp) (fin:List V→Hp→Prop):Prop:=
 ∃W:Nat→Nat→List V→Hp→Prop,(∃m,W 0 m [] H1)∧∀i m ys H,W i m ys H →
  (J.stop i H∧fin ys H) ∨
  (J.go i H∧ys.length<sizeLine∧∀x H',J.yld i H x H'→g x (List.replicate n none++cvals σ js) H' fun σ2 H2=>tc σ2 H2 fun b H3=>
   if b=true then te σ2 H3 fun y H4=>∃m',m'<m∧W (i+1) m' (ys++[y]) H4 else ∃m',m'<m∧W (i+1) m' ys H3)
noncomputable def tComp (wi:TI) (n:Nat) (js:List Nat) (g:TG) (tc:TT) (te:TE):TE:=fun σ H Q=>wi σ H fun J H1=>
 CompW J n js g tc te σ H1 fun ys H2=>∀p,H2 p=none→Q (.ref p) (upd H2 p (.lst ys))
noncomputable def Gk (n:Nat) (g:TG):Prop:=∀x σ H Q,g x σ H Q→g x σ H fun σ' H'=>Q σ' H'∧(∀j,n≤j → σ'[j]? = σ[j]?) ∧ σ'.length = σ.length
noncomputable def Gks (n:Nat) (g:TGs):Prop:=∀x σ H Q,g x σ H Q→g x σ H fun σ' H'=>Q σ' H'∧(∀j,n≤j → σ'[j]? = σ[j]?) ∧ σ'.length = σ.length
theorem gk_name {n i:Nat} (h:i<n:=by decide):Gk n (gName i):=fun x σ H Q q=>⟨q,fun j hj=>List.getElem?_set_ne (by first|lia|omega),List.length_set⟩
theorem gks_nil {n:Nat} : Gks n gNil:=fun x σ H Q q=>⟨q.1,q.2,fun _ _=>rfl,rfl⟩
theorem gks_cons {n:Nat} {t:TG} {u:TGs} (h1:Gk n t) (h2:Gks n u) (mt:∀x σ H Q Q',(∀a b,Q a b→Q' a b)→t x σ H Q→t x σ H Q') (mu:∀x σ H Q Q',(∀a b,Q a b→Q' a b)→u x σ H Q→u x σ H Q'):Gks n (gCons t u):=fun x σ H Q q=>by
 obtain ⟨v,r,e,q⟩:=q
 refine ⟨v,r,e,mt _ _ _ _ _ (fun σ1 H1 z => ?_) (h1 _ _ _ _ q)⟩
 refine Elim.el (z) _ ?_
 rintro z k1 l1
 exact mu _ _ _ _ _ (fun σ2 H2 ⟨z2,k2,l2⟩=>⟨z2,fun j hj=>(k2 j hj).trans (k1 j hj),l2.trans l1⟩) (h2 _ _ _ _ z)
theorem gk_tup {K:PySem.W.Frag} {n m:Nat} {t:TGs} (h:Gks n t):Gk n (gTup K m t):=fun x σ H Q q=>by
 obtain ⟨a,xs,e,h1,h2,q⟩:=q
 exact ⟨a,xs,e,h1,h2,h _ _ _ _ q⟩
theorem comp_core {X:Cx} {elt tg iter:Expr} {ifs:List Expr} {scope:Scope} {pos:Pos} {Nc Fc:List Str} {js:List Nat} {wi:TI} {g:TG} {tc:TT} {te:TE} {use:Option (Value→Sem Unit)} {QV:Value→Shared→Prop}
  (hcalm:X.calm=true) (c:CompOk X scope Nc Fc js) (hi:PI X tg iter wi)
  (hg:∀cl C s H fp,PG (cxC X Nc Fc scope cl C s H fp) tg g) (htc:∀cl C s H fp,PTs (cxC X Nc Fc scope cl C s H fp) ifs tc) (hte:∀cl C s H fp,PE (cxC X Nc Fc scope cl C s H fp) elt te) (gk:Gk Nc.length g)
  {pins:List (Addr×Obj)} {s:Shared} {σ:St} {H:Hp} {fin:List V→Hp→Prop} (I:Inv X pins σ H s)
  (h:wi σ H fun J H1=>CompW J Nc.length js g tc te σ H1 fin)
  (behind:∀(C D:Addr) (m:Str→Option Value) (ys:List V) (H2:Hp) (s2:Shared),Inv X pins σ (upd H2 D (.lst ys)) s2→s2.heap.Ns C m→FpOk X pins (upd H2 D (.lst ys)) C→H2 D=none→fin ys H2→compPost (model X.prog X.w) X.A X.xe use QV (.ref D) C (.ok .next) s2)
  (hs:∀x,foldedSetIterable iter X.env x=pure x) :
  wpAny (model X.prog X.w) X.A (comprehension (.ListComp elt [⟨tg,iter,ifs,0⟩] scope pos) scope X.env (firstIterPos [⟨tg,iter,ifs,0⟩] pos) (newList []) false (eval iter X.env) use) QV X.xe s:=by
 obtain ⟨cl,hclos,hsub,hhas⟩:=closure_of (scope:=scope) (env:=X.env) fun y hy hf=>I.ok.has y.1 (c.free y hy hf)
 refine wpAny_comprehension_free (use:=use) rfl hs hclos c.kind c.names ?_
 refine thn (hi s σ H _ I h) fun v s1 h1=>thn h1 fun itv s2 h2 => ?_
 obtain ⟨it,fp,tn,J,H2,e,I2,T,st2,f2,W,⟨m0,w0⟩,turn⟩:=h2
 subst e
 refine wpAny_newObj_type (wpAny_newFunctionEnv c.nocell (by intro y hy;simp at hy) (fun h1 hns1 hsb1 => ?_) c.kind)
 dsimp only at hns1 hsb1 ⊢
 generalize hG:s2.heap.push { cls := .type "list",dict:=none,data := .seq ([]:List Value).toArray } = G at hns1 hsb1 ⊢
 have hC:G.objs.size=s2.heap.objs.size+1:=by rw [←hG,Heap.size_push]
 have hDC:s2.heap.objs.size≠G.objs.size:=by rw [hC];exact Nat.ne_of_lt (Nat.lt_succ_self _)
 have hle:s2.heap.objs.size≤G.objs.size:=by rw [hC];exact Nat.le_succ _
 have old:∀b o,s2.heap.get? b=some o→h1.get? b=some o:=fun b o e=>
  hsb1.extBut b o (addr_ne (Heap.lt_size e) hle) (Heap.get?_push_of_some _ (hG ▸ Heap.get?_push_of_some _ e))
 have hacc:h1.PlainList s2.heap.objs.size #[]:=⟨_,hsb1.extBut _ _ hDC (Heap.get?_push_of_some _ (hG ▸ Heap.get?_push_size _ rfl))⟩
 obtain ⟨n0,hacc⟩:=hacc
 have fo:∀b∈fp,∃o,s2.heap.get? b=some o:=fun b hb=>let ⟨o,e,_⟩:=T.obj 0 _ st2 b hb; ⟨o,e⟩
 have hDfp:∀b∈fp,b<s2.heap.objs.size:=fun b hb=>let ⟨o,e⟩:=fo b hb;Heap.lt_size e
 let Xc:Cx:=cxC X Nc Fc scope cl G.objs.size s2 H2 fp
 let D:Addr:=s2.heap.objs.size
 have stat:∀{pl:List (Addr×Obj)} {H':Hp},(∀p∈pl,p.1=D)→(∀b∈fp,H' b=none)→∀b∈fp,FpOk Xc pl H' b:=fun {pl H'} hp hn b hb=>by
  refine ⟨hn b hb,?_,?_, .inl hb,fun x a e => ?_,fun p hq => ?_⟩
  ·exact addr_ne (hDfp b hb) hle
  ·exact (cxC_ok I2 c hsub hhas hle f2 fo).exfs b hb
  ·exact (f2 b hb).2.2.2.2.1 x a (hsub _ _ e)
  ·have q:p∈([]:List (Addr×Obj))++pl:=hq
   rw [hp p (by simpa using q)]
   exact addr_ne' (hDfp b hb) (Nat.le_refl _)
 have loop:∀t1,codeAny (model X.prog X.w) X.A (.compLoop (.ListComp elt [⟨tg,iter,ifs,0⟩] scope pos) 0 (.ref it) (.ref s2.heap.objs.size) (compEnvC scope cl G.objs.size X.env))
   (compPost (model X.prog X.w) X.A X.xe use QV (.ref s2.heap.objs.size) G.objs.size) { s2 with heap:=h1,toks:=t1 }:=by
  intro t1
  refine comp_turns (fun n s'=>∃i ys H' its k,Inv Xc [(D,{ cls := .type "list",data := .seq its k })] (List.replicate Nc.length none++cvals σ js) H' s'∧Vals ys its.toList∧ys.length≤sizeLine∧tn i s'.heap∧(∀b∈fp,H' b=none)∧W i n ys H') ?_ m0
   ⟨0,[],H2, #[],n0,cxC_inv I2 c hsub hhas hle (Nat.le_refl _) hDC f2 fo old hns1 hacc (fun _ z=>nomatch z), .nil,Nat.zero_le _,T.keep _ _ _ st2 (fun b hb o e=>old b o e),fun b hb=>(f2 b hb).1,w0⟩
  intro n s3 hz_
  refine Elim.el hz_ _ ?_
  clear hz_
  rintro i ys H3 its k I3 rv hz st3 fr3 w3
  have onlyD:∀p∈[(D,({ cls := .type "list",data := .seq its k } : Obj))],p.1=D:=fun p hp=>congrArg Prod.fst (List.mem_singleton.mp hp)
  rcases turn i n ys H3 w3 with ⟨stop,qn⟩|⟨go,hlt,step⟩
  ·refine thn (T.done Xc rfl rfl rfl hcalm i _ s3 _ H3 noE I3 (stat onlyD fr3) st3 stop) fun r s4 ⟨hr,I4⟩ => ?_
   subst hr
   show compPost _ _ _ _ _ _ _ _ _
   obtain ⟨hDo,hDn,hDne,hDfs,_⟩:=I4.pin (D,_) (List.mem_append_right _ List.mem_cons_self)
   have hDC':D≠G.objs.size:=hDC
   refine Elim.el (I4.loc) _ ?_
   rintro mC hmC _
   have hCn:H3 G.objs.size=none:=I4.free
   have neD:∀b o,s2.heap.get? b=some o→b≠D:=fun b o e=>Nat.ne_of_lt (Heap.lt_size e)
   have u:Un (frs X.stack) fp H2 H3 s2.heap s4.heap:=I4.base
   have hdn2:H2 D=none:=I2.hok.fresh (Nat.le_refl _)
   have u':Un (frs X.stack) fp H2 (upd H3 D (.lst ys)) s2.heap s4.heap:=
    ⟨u.keep,u.slot,fun b o e n hx=>by rw [upd_ne (neD b o e)];exact u.free b o e n hx,u.there,
      fun b xs e=>by rw [upd_ne (ne_of_none e hdn2)];exact u.tups b xs e,fun b o xs e=>by rw [upd_ne (ne_of_none e hdn2)];exact u.frzs b o xs e,
      fun b ps e=>by rw [upd_ne (ne_of_none e hdn2)];exact u.tbls b ps e⟩
   have hok':HOk X.prog X.w (upd H3 D (.lst ys)) s4.heap:=I4.hok.adopt hDn ⟨hz,its.toList,k,rv,by simpa using hDo⟩
   have hch:∀b∈fp,(b∈X.ex∨X.s₀.heap.objs.size≤b)∧b≠X.env.locals∧(∀x c,X.env.cells.lookup x=some c→c≠b)∧∀p∈X.pn++pins,p.1≠b:=fun b hb=>
    ⟨(f2 b hb).2.2.2.1,(f2 b hb).2.1,(f2 b hb).2.2.2.2.1,(f2 b hb).2.2.2.2.2⟩
   have os4:s4.os=s2.os:=I4.os
   have J4:Inv X pins σ (upd H3 D (.lst ys)) s4:=I2.call' (H':=upd H3 D (.lst ys)) os4 u' hok' I4.bare hch
   refine behind G.objs.size D mC ys H3 s4 J4 hmC (I2.fpOk hle ?_) hDn qn
   rw [upd_ne (Ne.symm hDC')]
   exact hCn
  ·refine thn (T.item Xc rfl rfl rfl hcalm i _ s3 _ H3 noE I3 (stat onlyD fr3) st3 go) fun r s4 ⟨u,hr,h4⟩ => ?_
   subst hr
   show wpAny _ _ (letOwnedTupleGo tg (.ref it) u) _ _ _
   refine thn h4 fun _ s5 ⟨x,H5,I5,r5,y5,st5,fr5⟩ => ?_
   have I5':=I5.pinned (stat onlyD fr5) (T.obj _ _ st5)
   refine thn (hg cl G.objs.size s2 H2 fp s5 _ H5 x u _ I5' r5 (gk _ _ _ _ (step x H5 y5))) fun _ s6 ⟨σ6,H6,I6,q6,kσ,kl⟩ => ?_
   refine thn (htc cl G.objs.size s2 H2 fp s6 σ6 H6 _ I6 q6) fun b s7 ⟨H7,I7,q7⟩ => ?_
   have later:∀{σ':St} {H':Hp} {s':Shared},Inv Xc ([(D,({ cls := .type "list",data := .seq its k } : Obj))]++pinsAt fp s5.heap) σ' H' s'→tn (i+1) s'.heap∧∀b∈fp,H' b=none:=fun {σ' H' s'} Iz=>by
    refine ⟨T.keep _ _ _ st5 fun b hb o e=>(Iz.pin (b,o) (List.mem_append_right _ (List.mem_append_right _ (mem_pinsAt hb e)))).1,fun b hb => ?_⟩
    refine Elim.el (T.obj _ _ st5 b hb) _ ?_
    rintro o e d
    exact (Iz.pin (b,o) (List.mem_append_right _ (List.mem_append_right _ (mem_pinsAt hb e)))).2.1
   have back:∀{pl:List (Addr×Obj)} {H':Hp} {s':Shared},Inv Xc pl σ6 H' s'→Inv Xc pl (List.replicate Nc.length none++cvals σ js) H' s':=fun {pl H' s'} Iz=>by
    refine Iz.weak (by rw [←kl]) fun j v hj => ?_
    by_cases hn:j<Nc.length
    ·rw [List.getElem?_append_left (by simpa using hn),List.getElem?_replicate] at hj
     split at hj <;> cases hj
    ·rw [kσ j (by first|lia|omega)];exact hj
   cases b with
   | false=>
    rw [if_neg Bool.false_ne_true] at q7 ⊢
    refine Elim.el (q7) _ ?_
    rintro m' hm' w7
    obtain ⟨l1,l2⟩:=later I7
    exact ⟨m',hm',i+1,ys,H7,its,k,back I7.unpinned,rv,hz,l1,l2,w7⟩
   | true=>
    rw [if_pos rfl] at q7 ⊢
    refine thn (hte cl G.objs.size s2 H2 fp s7 σ6 H7 _ I7 q7) fun yv s8 ⟨y,H8,I8,r8,q8⟩ => ?_
    refine Elim.el (q8) _ ?_
    rintro m' hm' w8
    obtain ⟨hDo,hDn,hDne,hDfs,_⟩:=I8.pin (D,_) (List.mem_append_right _ (List.mem_append_left _ List.mem_cons_self))
    obtain ⟨l1,l2⟩:=later I8
    have hits:its.size=ys.length:=by
     have e1:=rv.length
     simp only [Array.length_toList] at e1
     (first|lia|omega)
    refine wpAny_list_append_plain (hsz:=by first|lia|omega) ⟨k,hDo⟩ fun h9 hl9 hs9 => ?_
    obtain ⟨k9,hD9⟩:=hl9
    have pinF:∀p∈pinsAt fp s5.heap,p.1≠D:=fun p hp=>by
     obtain ⟨hb,_⟩:=of_pinsAt hp
     exact addr_ne (hDfp _ hb) (Nat.le_refl _)
    have I8':Inv Xc (pinsAt fp s5.heap) σ6 H8 s8:=I8.pins_of fun p hp=>I8.pin p (List.mem_append_right _ (List.mem_append_right _ hp))
    have I9:Inv Xc (pinsAt fp s5.heap) σ6 H8 { s8 with heap:=h9,toks:=s8.toks }:=I8'.turned (it:=D) (fun b o hb e=>hs9.extBut b o hb e) hDn hDC (.inr (Nat.le_refl _))
     (fun x a e z=>by
      obtain ⟨v,q⟩:=I2.cell x a (hsub _ _ e)
      exact addr_ne q.lt (Nat.le_refl _) z) (fun p hp=>pinF p (by
       have hp:p∈([]:List (Addr×Obj))++pinsAt fp s5.heap:=hp
       simpa using hp))
    obtain ⟨st9,fr9⟩:tn (i+1) h9∧∀b∈fp,H8 b=none:=by
     refine ⟨T.keep _ _ _ l1 fun b hb o e=>hs9.extBut b o ?_ e,l2⟩
     exact addr_ne (hDfp _ hb) (Nat.le_refl _)
    refine ⟨m',hm',i+1,ys++[y],H8,its.push yv,k9,back (I9.pins_of fun p hp => ?_),?_,?_,st9,fr9,w8⟩
    ·cases List.mem_singleton.mp hp
     exact ⟨hD9,hDn,hDne,hDfs,fun _ z=>nomatch z⟩
    ·rw [Array.toList_push]
     exact rv.append (.cons r8 .nil)
    ·rw [List.length_append,List.length_singleton]; (first|lia|omega)
 exact codeAny_compStart_list (loop _) (T.self _ 0 _ _ _ (T.keep _ _ _ st2 fun b hb o e=>old b o e) (loop _))
theorem pe_lcomp {X:Cx} {elt tg iter:Expr} {ifs:List Expr} {scope:Scope} {pos:Pos} {Nc Fc:List Str} {js:List Nat} {wi:TI} {g:TG} {tc:TT} {te:TE}
  (hcalm:X.calm=true) (c:CompOk X scope Nc Fc js) (hi:PI X tg iter wi) (gk:Gk Nc.length g)
  (hg:∀cl C s H fp,PG (cxC X Nc Fc scope cl C s H fp) tg g) (htc:∀cl C s H fp,PTs (cxC X Nc Fc scope cl C s H fp) ifs tc) (hte:∀cl C s H fp,PE (cxC X Nc Fc scope cl C s H fp) elt te)
  (hs:∀x,foldedSetIterable iter X.env x=pure x:=by intro _;rfl) :
  PE X (.ListComp elt [⟨tg,iter,ifs,0⟩] scope pos) (tComp wi Nc.length js g tc te):=by
 intro pins s σ H Q I h
 rw [eval_ListComp]
 refine comp_core (use:=none) hcalm c hi hg htc hte gk I h (fun C D m ys H2 s2 I2 hm hC hD q => ?_) hs
 refine ⟨m,hm,fun h' hs' => ?_⟩
 refine ⟨.ref D,_,I2.turned (it:=C) (t':=s2.toks) (fun b o hb e=>hs'.extBut b o hb e) hC.1 (hC.2.1) hC.2.2.2.1 hC.2.2.2.2.1 hC.2.2.2.2.2,rfl,q D hD⟩
theorem ps_setcomp {X:Cx} {i:Nat} {y:Str} {elt tg iter:Expr} {ifs:List Expr} {scope:Scope} {pos pos' py:Pos} {Nc Fc:List Str} {js:List Nat} {wi:TI} {g:TG} {tc:TT} {te:TE} (hN:X.N.Nodup) (hy:X.N[i]? = some y) (hl:Loc X.env.scope y)
  (hcalm:X.calm=true) (c:CompOk X scope Nc Fc js) (hi:PI X tg iter wi) (gk:Gk Nc.length g)
  (hg:∀cl C s H fp,PG (cxC X Nc Fc scope cl C s H fp) tg g) (htc:∀cl C s H fp,PTs (cxC X Nc Fc scope cl C s H fp) ifs tc) (hte:∀cl C s H fp,PE (cxC X Nc Fc scope cl C s H fp) elt te)
  (hsw:swapsWith (.ListComp elt [⟨tg,iter,ifs,0⟩] scope pos) (some (.Name y py)) pos'.line X.env=pure true:=by rfl)
  (hs:∀x,foldedSetIterable iter X.env x=pure x:=by intro _;rfl)
  (hf:X.fn y=true∨X.env.scope.names.lookup y=some .local:=by first|exact .inl rfl|exact .inr rfl|assumption) :
  PS X (.Assign [.Name y py] (.ListComp elt [⟨tg,iter,ifs,0⟩] scope pos) pos') (tAsg (tComp wi Nc.length js g tc te) (gName i)):=by
 intro pins s σ H E I h
 rw [exec_Assign_Name_used _ _ _ _ hsw]
 refine wpAny_bind (wpAny_standAt (wpAny_bind ?_))
 show wpAny _ X.A (do let _ ←comprehension (.ListComp elt [⟨tg,iter,ifs,0⟩] scope pos) scope X.env _ (newList []) false (eval iter X.env) (some (assign (.Name y py) X.env))) _ _ s
 refine wpAny_bind (thn (comp_core (use:=some (assign (.Name y py) X.env)) (QV:=fun _ s'=>SP X pins E .next s') hcalm c hi hg htc hte gk I h (fun C D m ys H2 s2 I2 hm hC hD q => ?_) hs) fun _ s' hq=>wpAny_pure (wpAny_pure hq))
 show wpAny _ _ (assign (.Name y py) X.env (.ref D)) _ _ s2
 refine wpAny_assign_Name (store_ok2 I2 hN hy hl (v := .ref D) rfl (fun s3 I3 ⟨a,hsa,ha⟩ => ?_) hf)
 have hne:C≠a:=by
  rcases ha with e|e
  ·rw [e];exact hC.2.1
  ·exact fun z=>hC.2.2.2.2.1 _ _ e z.symm
 refine ⟨m,hm.at' fun o e=>hsa.extBut _ o hne e,fun h' hs' => ?_⟩
 exact ⟨_,_,I3.turned (it:=C) (t':=s3.toks) (fun b o hb e=>hs'.extBut b o hb e) hC.1 hC.2.1 hC.2.2.2.1 hC.2.2.2.2.1 hC.2.2.2.2.2,q D hD⟩
end L2
namespace L2
open PySem PySem.Spec PyProof.Rows
section
variable {X:Cx} {pins:List (Addr×Obj)} {σ:St} {H:Hp} {s:Shared} {p:Addr} {ys:List V}
theorem walk_list {A:Around} (hh:A.handled=none) (I:Inv X pins σ H s) (hq:SqL X.K H p ys) {R:Value→Shared→Prop} {E:Value→Shared→Prop}
  (h:∀(its:List Value) (it:Addr) (s2:Shared),Vals ys its→its.length≤sizeLine →
   Walks X.prog X.w A it [it,p] [it] its.toArray.size (fun i v=>its.toArray[i]? = some v) (fun i h=>h.IsListIter it p i∧h.IsList p its.toArray)→(s2.heap.IsListIter it p 0∧s2.heap.IsList p its.toArray)→(∀b∈[it,p],b<s2.heap.objs.size) →
   (∀h' tk,(∀b o,b ∉ [it]→s2.heap.get? b=some o→h'.get? b=some o)→Inv X pins σ H { s2 with heap:=h',toks:=tk })→R (.ref it) s2) :
  wpAny (model X.prog X.w) A (pyIter (.ref p)) R E s:=by
 obtain ⟨its,rv,pl,hz⟩:=I.list hq
 have hl:=pl.isList
 have hp:p<s.heap.objs.size:=by obtain ⟨o,e,_⟩:=hl;exact Heap.lt_size e
 refine wpAny_pyIter_list hl ?_
 refine h its s.heap.objs.size _ rv (by have:=rv.length; (first|lia|omega)) (Walks.list hh _ p (Nat.ne_of_lt hp) its.toArray) ⟨⟨_,Heap.get?_push_size _ rfl,rfl,rfl⟩,hl.push _⟩ (fun b hb => ?_) fun h' tk hk => ?_
 ·show b<(s.heap.push _).objs.size
  rw [Heap.size_push]
  rcases List.mem_cons.mp hb with rfl|hb
  ·exact Nat.lt_succ_self _
  ·rw [List.mem_singleton.mp hb];exact Nat.lt_succ_of_lt hp
 ·exact I.kept (t':=tk) fun b o e=>hk b o (fun z=>addr_ne (Heap.lt_size e) (Nat.le_refl _) (List.mem_singleton.mp z)) (Heap.get?_push_of_some _ e)
theorem vals_at {ys:List V} {its:List Value} (r:Vals ys its) {i:Nat} {v:Value} (e:its.toArray[i]? = some v):∃y,ys[i]? = some y∧RelV y v:=by
 have e':its[i]? = some v:=by simpa using e
 have hi:i<its.length:=(List.getElem?_eq_some_iff.mp e').1
 have hl:=r.length
 obtain ⟨u,h1,h2⟩:=r.get (i:=i) (x:=ys[i]'(by first|lia|omega)) (by simp)
 rw [e'] at h1;cases h1
 exact ⟨_,by simp,h2⟩
theorem range_all (bs:List Bool):(List.range bs.length).all (fun i=>bs.getD i false)=bs.all id:=by
 induction bs with
 | nil=>rfl
 | cons b r ih=>
  rw [List.length_cons,List.range_succ_eq_map,List.all_cons,List.all_map,List.all_cons, ←ih]
  rfl
theorem truth_bl {A:Around} {bs:List Bool} {its:List Value} (r:Vals (bs.map V.bl) its):TruthOf X.prog X.w A (fun i v=>its.toArray[i]? = some v) (fun i=>bs.getD i false):=by
 intro i v s Q E e hQ
 obtain ⟨y,h1,h2⟩:=vals_at r e
 rw [List.getElem?_map] at h1
 cases q:bs[i]? with
 | none=>rw [q] at h1;cases h1
 | some b=>
  rw [q] at h1;cases h1
  cases h2
  have:bs.getD i false=b:=by simp [List.getD,q]
  have hQ:Q (bs.getD i false) s:=hQ
  rw [this] at hQ
  exact wpAny_pure hQ
theorem call_all_bl (hc:X.calm=true):CallR X (.builtin "all") (fun xs H Q=>∃(p:Addr) (bs:List Bool),xs=[.ref p]∧SqL X.K H p (bs.map V.bl)∧Q (.bl (bs.all id)) H):=by
 intro pins s σ H xs us Q I r h
 obtain ⟨p,bs,rfl,hq,q⟩:=h
 obtain ⟨u,rfl,ru⟩:=vals1 r
 cases ru
 refine call_all_walk (walk_list (A:=X.A.in1) (I.ok.hd hc) I hq fun its it s2 rv hz W st hlt hI => ?_)
 refine ⟨it,_,_,_,_,_,fun i=>bs.getD i false,rfl,W,st,truth_bl rv,fun h' tk hk => ?_⟩
 have hl:its.toArray.size=bs.length:=by have:=rv.length;simp at this ⊢; (first|lia|omega)
 rw [hl,range_all]
 exact ⟨.bl _,H,hI h' tk hk,rfl,q⟩
theorem allK (K:PySem.W.Frag) (hc:X.calm=true) (hK:X.K=K:=by rfl):CallR X (.builtin "all") (fun xs H Q=>∃(p:Addr) (bs:List Bool),xs=[.ref p]∧SqL K H p (bs.map V.bl)∧Q (.bl (bs.all id)) H):=by subst hK;exact call_all_bl hc
theorem mt_startswith:MtR X "str.startswith" (fun x vs H Q=>∃a b,x = .str a∧vs=[.str b]∧Q (.bl (Txt.startswith a b)) H):=by
 intro pins s σ H x vs v us Q I rx rv h
 obtain ⟨a,b,rfl,rfl,q⟩:=h
 obtain ⟨t,rfl⟩:=rx
 obtain ⟨u,rfl,t',rfl⟩:=rv.one
 exact SC.startswith ⟨.bl _,H,I,rfl,q⟩
theorem mt_strip1:MtR X "str.strip" (fun x vs H Q=>∃a b,x = .str a∧vs=[.str b]∧a.length≤sizeLine∧Q (.str (Txt.stripChars a b)) H):=by
 intro pins s σ H x vs v us Q I rx rv h
 obtain ⟨a,b,rfl,rfl,hz,q⟩:=h
 obtain ⟨t,rfl⟩:=rx
 obtain ⟨u,rfl,t',rfl⟩:=rv.one
 exact SC.stripChars (fun t' k=>⟨.str _,H,I.tok _,⟨_,rfl⟩,q⟩) hz
theorem strs_are:∀{xs:List Str} {its:List Value},Vals (xs.map V.str) its→StrsAre its xs:=by
 intro xs its r
 induction xs generalizing its with
 | nil=>cases r;exact StrsAre.nil
 | cons x xs ih=>
  cases r with
  | cons r1 r2=>
   obtain ⟨t,rfl⟩:=r1
   exact StrsAre.cons x t (ih r2)
theorem mt_join:MtR X "str.join" (fun x vs H Q=>∃(sep:Str) (p:Addr) (xs:List Str),x = .str sep∧vs=[.ref p]∧SqL X.K H p (xs.map V.str)∧(xs.map (·.length)).sum+xs.length*sep.length≤16777216∧Q (.str (Txt.join sep xs)) H):=by
 intro pins s σ H x vs v us Q I rx rv h
 obtain ⟨sep,p,xs,rfl,rfl,hq,hz,q⟩:=h
 obtain ⟨t,rfl⟩:=rx
 obtain ⟨u,rfl,ru⟩:=rv.one
 cases ru
 obtain ⟨its,r',pl,_⟩:=I.list hq
 exact join_list pl.isList (strs_are r') hz fun t' k=>⟨.str _,H,I.tok _,⟨_,rfl⟩,q⟩
end
end L2
namespace L2
open PySem PySem.Spec PyProof.Rows
mutual
noncomputable def Den (K:PySem.W.Frag) (H:Hp):PyData→V→Prop
 | .none,v=>v = .non
 | .bool b,v=>v = .bl b
 | .int i,v=>v = .int i
 | .str x,v=>v = .str x
 | .list ds,v=>Ex2 fun a vs=>v = .ref a∧SqL K H a vs∧Dens K H ds vs
 | .tuple ds,v=>Ex2 fun a vs=>v = .ref a∧SqT K H a vs∧Dens K H ds vs
 | .dict _,_=>False
noncomputable def Dens (K:PySem.W.Frag) (H:Hp):List PyData→List V→Prop
 | [],vs=>vs=[]
 | d :: ds,vs=>Ex2 fun v r=>vs=v :: r∧Den K H d v∧Dens K H ds r
end
theorem Same.seqT {K:PySem.W.Frag} {H H':Hp} {a:Addr} {xs:List V} (e:Same H H') (h:SqT K H a xs):SqT K H' a xs:=by
 rcases h with (h|⟨o,h⟩)|h
 ·exact .inl (.inl (e _ _ h))
 ·exact .inl (.inr ⟨o,e _ _ h⟩)
 ·exact .inr h
mutual
theorem Den.same {K:PySem.W.Frag} {H H':Hp} (e:Same H H'):∀{d:PyData} {v:V},Den K H d v→Den K H' d v
 | .none,_,h=>by unfold Den at h ⊢;exact h
 | .bool _,_,h=>by unfold Den at h ⊢;exact h
 | .int _,_,h=>by unfold Den at h ⊢;exact h
 | .str _,_,h=>by unfold Den at h ⊢;exact h
 | .list ds,_,h=>by
  unfold Den at h ⊢
  obtain ⟨a,vs,h1,h2,h3⟩:=h
  exact ⟨a,vs,h1,e.seq h2,Dens.same e h3⟩
 | .tuple ds,_,h=>by
  unfold Den at h ⊢
  obtain ⟨a,vs,h1,h2,h3⟩:=h
  exact ⟨a,vs,h1,e.seqT h2,Dens.same e h3⟩
 | .dict _,_,h=>by unfold Den at h;exact h.elim
theorem Dens.same {K:PySem.W.Frag} {H H':Hp} (e:Same H H'):∀{ds:List PyData} {vs:List V},Dens K H ds vs→Dens K H' ds vs
 | [],_,h=>by unfold Dens at h ⊢;exact h
 | d :: ds,_,h=>by
  unfold Dens at h ⊢
  obtain ⟨v,r,h1,h2,h3⟩:=h
  exact ⟨v,r,h1,Den.same e h2,Dens.same e h3⟩
end
mutual
theorem Den.reads {X:Cx} {pins:List (Addr×Obj)} {σ:St} {H:Hp} {s:Shared} (I:Inv X pins σ H s):∀{d:PyData} {v:V} {u:Value},Den X.K H d v→RelV v u→∃as,Reads s.heap u d as
 | .none,_,_,h,r=>by unfold Den at h;subst h;cases r;exact ⟨_, .none⟩
 | .bool _,_,_,h,r=>by unfold Den at h;subst h;cases r;exact ⟨_, .bool _⟩
 | .int _,_,_,h,r=>by unfold Den at h;subst h;obtain ⟨t,rfl⟩:=r;exact ⟨_, .int _ _⟩
 | .str _,_,_,h,r=>by unfold Den at h;subst h;obtain ⟨t,rfl⟩:=r;exact ⟨_, .str _ _⟩
 | .list ds,_,_,h,r=>by
  unfold Den at h
  obtain ⟨a,vs,rfl,h2,h3⟩:=h
  cases r
  obtain ⟨its,rv,⟨o,n,e1,e2,_,e4⟩,_⟩:=I.list h2
  obtain ⟨as,q⟩:=Dens.reads I h3 rv
  exact ⟨_, .list e1 e2 e4 (by simpa using q)⟩
 | .tuple ds,_,_,h,r=>by
  unfold Den at h
  obtain ⟨a,vs,rfl,h2,h3⟩:=h
  cases r
  obtain ⟨its,rv,⟨o,e1,e2,n,e4⟩,_⟩:=I.tuple h2
  obtain ⟨as,q⟩:=Dens.reads I h3 rv
  exact ⟨_, .tuple e1 e2 e4 (by simpa using q)⟩
 | .dict _,_,_,h,_=>by unfold Den at h;exact h.elim
theorem Dens.reads {X:Cx} {pins:List (Addr×Obj)} {σ:St} {H:Hp} {s:Shared} (I:Inv X pins σ H s):∀{ds:List PyData} {vs:List V} {us:List Value},Dens X.K H ds vs→Vals vs us→∃as,ReadsAll s.heap us ds as
 | [],_,_,h,r=>by unfold Dens at h;subst h;cases r;exact ⟨_, .nil⟩
 | d :: ds,_,_,h,r=>by
  unfold Dens at h
  obtain ⟨v,q,rfl,h2,h3⟩:=h
  cases r with
  | cons r1 r2=>
   obtain ⟨as,q1⟩:=Den.reads I h2 r1
   obtain ⟨bs,q2⟩:=Dens.reads I h3 r2
   exact ⟨_, .cons q1 q2⟩
end
section
variable {X:Cx}
open PySem.SeqAt in
theorem op_eqD (hu:X.A.units+64<cLine):OpR X (compareOp .Eq) (fun x y H Q=>∃d e,Den X.K H d x∧Den X.K H e y∧shaped d=true∧shaped e=true∧Q (.bl (PyData.eqv d e)) H):=by
 intro pins s σ H x y v u Q I rx ry h
 obtain ⟨d,e,hd,he,sd,se,q⟩:=h
 obtain ⟨as,r1⟩:=hd.reads I rx
 obtain ⟨bs,r2⟩:=he.reads I ry
 exact eq_dataH r1 r2 sd se hu ⟨.bl _,H,I,rfl,q⟩
open PySem.SeqAt in
theorem op_neD (hu:X.A.units+64<cLine):OpR X (compareOp .NotEq) (fun x y H Q=>∃d e,Den X.K H d x∧Den X.K H e y∧shaped d=true∧shaped e=true∧Q (.bl (!PyData.eqv d e)) H):=by
 intro pins s σ H x y v u Q I rx ry h
 obtain ⟨d,e,hd,he,sd,se,q⟩:=h
 obtain ⟨as,r1⟩:=hd.reads I rx
 obtain ⟨bs,r2⟩:=he.reads I ry
 exact ne_dataH r1 r2 sd se hu ⟨.bl _,H,I,rfl,q⟩
theorem op_isB:OpR X (compareOp .Is) (fun x y H Q=>∃a b,x = .bl a∧y = .bl b∧Q (.bl (decide (a=b))) H):=by
 intro pins s σ H x y v u Q I rx ry h
 obtain ⟨a,b,rfl,rfl,q⟩:=h
 cases rx;cases ry
 refine wpAny_is_plain rfl (fin_bl I q ?_)
 cases a <;> cases b <;> rfl
theorem op_isnotB:OpR X (compareOp .IsNot) (fun x y H Q=>∃a b,x = .bl a∧y = .bl b∧Q (.bl (!decide (a=b))) H):=by
 intro pins s σ H x y v u Q I rx ry h
 obtain ⟨a,b,rfl,rfl,q⟩:=h
 cases rx;cases ry
 refine wpAny_isNot_plain rfl (fin_bl I q ?_)
 cases a <;> cases b <;> rfl
theorem call_isi:CallR X (.builtin "isinstance") (fun xs H Q=>∃x T t b,xs=[x, .ty T]∧TyOf X.K H x t∧PySem.W.kitOne X.K t (.type T)=some b∧Q (.bl b) H):=by
 intro pins s σ H xs us Q I r h
 obtain ⟨x,T,t,b,rfl,ty,e,q⟩:=h
 obtain ⟨u,w',rfl,r1,r2⟩:=vals2 r
 cases r2
 exact isinst_ok I r1 ty e fun tk=>⟨.bl b,H,I.tok _,rfl,q⟩
theorem sl_str:SlR X (fun x lo hi H Q=>∃z,x = .str z∧z.length≤sizeLine∧Q (.str (Txt.slice z lo hi)) H):=by
 intro pins s σ H x v vl vu lo hi sl Q I rx hs pl pu q
 obtain ⟨z,rfl,hz,q⟩:=q
 obtain ⟨t,rfl⟩:=rx
 refine ⟨"str",_,F.slot_str_getitem.lookup,typeIs_str _ _ _,?_⟩
 have fin:∀t' k,EP X pins σ Q (.str (Txt.slice z lo hi) t') { s with toks:=k }:=fun t' k=>⟨.str _,H,I.tok _,⟨_,rfl⟩,q⟩
 cases pl with
 | none=>
  cases pu with
  | none=>exact wpAny_getItem_str_slice (l:=none) (u:=none) (st:=none) hs rfl (post_val_or_str ⟨Nat.le_trans (Txt.slice_le z _ _) hz,fin⟩)
  | int j uj=>exact wpAny_getItem_str_slice (l:=none) (u:=some (j,uj)) (st:=none) hs rfl (post_val_or_str ⟨Nat.le_trans (Txt.slice_le z _ _) hz,fin⟩)
 | int i ui=>
  cases pu with
  | none=>exact wpAny_getItem_str_slice (l:=some (i,ui)) (u:=none) (st:=none) hs rfl (post_val_or_str ⟨Nat.le_trans (Txt.slice_le z _ _) hz,fin⟩)
  | int j uj=>exact wpAny_getItem_str_slice (l:=some (i,ui)) (u:=some (j,uj)) (st:=none) hs rfl (post_val_or_str ⟨Nat.le_trans (Txt.slice_le z _ _) hz,fin⟩)
end
end L2
namespace L2
open PySem PySem.Spec PyProof.Rows
section
variable {X:Cx} {pins:List (Addr×Obj)} {σ:St} {H:Hp} {s:Shared} {h':Heap}
theorem Inv.iter {t':Nat} {ch:List Addr} (I:Inv X pins σ H s) (hf:∀b∈ch,FpOk X pins H b) (keep:∀b o,b ∉ ch→s.heap.get? b=some o→h'.get? b=some o):Inv X pins σ H { s with heap:=h',toks:=t' }:=by
 have nch:∀b u,H b=some u→b ∉ ch:=fun b u e z=>by rw [(hf b z).1] at e;cases e
 refine I.step (g':=s.gens) (d':=s.drawn) (ch:=ch) (fun b hb=>⟨(hf b hb).2.2.2.1,(hf b hb).2.1,(hf b hb).2.2.2.2.1,(hf b hb).2.2.2.2.2⟩) (fun b o _ _ hc e _=>keep b o hc e) (fun b o _ _ hc e _=>⟨o.slots,keep b o hc e⟩)
  (fun _ _ _ _ n=>n) (fun b o hc e=>⟨o,keep b o hc e⟩) (fun _ _ e=>e) (fun _ _ _ e=>e) (fun b ps e=>⟨#[],by rw [e];simp⟩) (fun m hm=>hm.at' fun o e=>keep _ o (fun z=>(hf _ z).2.1 rfl) e) (fun b u e => ?_) I.bare
 refine (I.hok b u e).stay (fun c v hc q=>keep c v ?_ q) (fun _ q=>q) fun _ _ q=>q
 rcases hc with z|z
 ·rw [z];exact nch b u e
 ·exact nch c _ z
theorem Inv.adopt {T:Addr} {o:HO} (I:Inv X pins σ H s) (hT:FpOk X pins H T) (hex:X.s₀.heap.objs.size≤T) (new:ObjOk X.prog X.w (upd H T o) s.heap T o):Inv X pins σ (upd H T o) s:=
 ⟨I.ok,I.os,I.bare,⟨I.base.keep,I.base.slot,fun b ob e n hx=>by rw [upd_ne (addr_ne (Heap.lt_size e) hex)];exact I.base.free b ob e n hx,I.base.there,
   fun b xs e=>by rw [upd_ne (ne_of_none (I.base.tups b xs e) hT.1)];exact I.base.tups b xs e,fun b ob xs e=>by rw [upd_ne (ne_of_none (I.base.frzs b ob xs e) hT.1)];exact I.base.frzs b ob xs e,
   fun b ps e=>by
    obtain ⟨m,q⟩:=I.base.tbls b ps e
    exact ⟨m,by rw [upd_ne (ne_of_none q hT.1)];exact q⟩⟩,
  I.loc,I.cell,by rw [upd_ne (Ne.symm hT.2.1)];exact I.free,fun x c e=>by rw [upd_ne (hT.2.2.2.2.1 x c e)];exact I.freeC x c e,
  fun p hp=>by
   refine Elim.el (I.pin p hp) _ ?_
   rintro a b c d f
   exact ⟨a,by rw [upd_ne (hT.2.2.2.2.2 p hp)];exact b,c,d,f⟩,I.hok.adopt hT.1 new,I.len⟩
end
theorem vals_get {xs:List V} {its:List Value} {i:Nat} {x:V} (r:Vals xs its) (e:xs[i]? = some x):∃u,its.toArray[i]? = some u∧RelV x u:=by
 refine Elim.el (r.get e) _ ?_
 rintro u h1 h2
 exact ⟨u,by simpa using h1,h2⟩
section
variable {X:Cx}
end
end L2
namespace L2
open PySem PySem.Spec PyProof.Rows
noncomputable def Ite (K:PySem.W.Frag) (a:Addr):It:=
 ⟨fun i H=>Ex2 fun xs x=>SqL K H a xs∧xs[i]? = some x,
   fun i H v H'=>∃T,v = .ref T∧H T=none∧∀xs x,SqL K H a xs→xs[i]? = some x→H'=upd H T (.tup [.int i,x]),
   fun i H=>∃xs,SqL K H a xs∧xs.length≤i⟩
theorem turn_enum {P:Program} {w:World} {K:PySem.W.Frag} {elts:List Expr} {k:Nat} {tp:Pos} (e it l:Addr) (hei:e≠it) (hle:l≠e) (hli:l≠it) :
  Turn P w K (.Tuple elts k tp) (Ite K l) [e,it] e (fun i h=>(∃old,IsEnum h e it i old)∧h.IsListIter it l i) where
 mem:=by simp
 obj:=fun i h st b hb=>by
  obtain ⟨⟨_,h1⟩,⟨o4,h4,_,d4⟩⟩:=st
  simp at hb
  rcases hb with rfl|rfl
  ·exact ⟨_,h1,fun _ z=>nomatch z⟩
  ·exact ⟨_,h4,fun v q=>by rw [d4] at q;cases q⟩
 keep:=fun i h h' st hk=>by
  obtain ⟨⟨a,h1⟩,h4⟩:=st
  exact ⟨⟨a,hk e (by simp) _ h1⟩,h4.at fun o e=>hk it (by simp) o e⟩
 item:=fun X hP hw hK hc i pins s σ H E I hf st go=>by
  subst hP hw hK
  obtain ⟨⟨old,he⟩,h1⟩:=st
  obtain ⟨xs,x,q1,e1⟩:=go
  obtain ⟨its1,r1,p1,_⟩:=I.list q1
  obtain ⟨u1,g1,ru1⟩:=vals_get r1 e1
  refine wpAny_pyNext_enum_item he h1 p1.isList g1 hei fun h' a1 a3 a5 a6 a7=>⟨_,rfl,?_⟩
  refine wpAny_letOwnedTupleGo_enum a1 fun h'' b1 b2 => ?_
  have hTz:s.heap.objs.size≠e:=addr_ne' (Heap.lt_size he) (Nat.le_refl _)
  have kp:∀c o,c ∉ [e,it]→s.heap.get? c=some o→h''.get? c=some o:=fun c o hc z=>by
   simp only [List.mem_cons,List.not_mem_nil,or_false,not_or] at hc
   exact b2.extBut c o hc.1 (a7 c o hc.1 hc.2 z)
  have I1:Inv X pins σ H { s with heap:=h'',toks:=s.toks+1 }:=I.iter hf kp
  have fT:FpOk X pins H s.heap.objs.size:=I.fpOk (Nat.le_refl _) (I.hok.fresh (Nat.le_refl _))
  have oT:h''.get? s.heap.objs.size=some { cls := .type "tuple",data := .seq #[.int i s.toks,u1] }:=b2.extBut _ _ hTz a5
  have I2:=I1.adopt (T:=s.heap.objs.size) (o := .tup [.int i,x]) fT I.sz ⟨by show 2≤sizeLine;decide,[.int i s.toks,u1], .cons ⟨_,rfl⟩ (.cons ru1 .nil),⟨_,oT,rfl,_,rfl⟩⟩
  refine ⟨.ref s.heap.objs.size,_,I2,rfl,⟨_,rfl,fT.1,fun xs' x' q1' e1' => ?_⟩,⟨⟨_,by
   have b1:IsEnum h'' e it ((i:Int)+1) u1:=b1
   have z:(((i+1:Nat):Int))=(i:Int)+1:=by (first|lia|omega)
   show IsEnum h'' e it ((i+1:Nat):Int) _
   rw [z];exact b1⟩,a3.extBut b2.extBut (Ne.symm hei)⟩,fun c hc => ?_⟩
  ·rw [I.list_inj q1' q1] at e1'
   rw [e1] at e1';cases e1';rfl
  ·have hcs:c<s.heap.objs.size:=by
    simp at hc
    obtain ⟨_,h1,_⟩:=h1
    rcases hc with rfl|rfl
    ·exact Heap.lt_size he
    ·exact Heap.lt_size h1
   rw [upd_ne (addr_ne hcs (Nat.le_refl _))]
   exact (hf c hc).1
 done:=fun X hP hw hK hc i pins s σ H E I hf st stop=>by
  subst hP hw hK
  obtain ⟨⟨old,he⟩,h1⟩:=st
  obtain ⟨xs,q1,e⟩:=stop
  obtain ⟨its1,r1,p1,_⟩:=I.list q1
  have l1':=r1.length
  refine wpAny_pyNext_enum_end (I.ok.hd hc) he h1 p1.isList (by simp; (first|lia|omega)) fun h' kp=>⟨rfl,?_⟩
  refine I.iter (ch:=[it]) (t':=s.toks) (fun c hc=>hf c (by simp at hc ⊢;simp [hc])) fun c o hc z=>kp c o (fun q=>hc (by simp [q])) z
 self:=fun A i s Q E st hQ=>by
  obtain ⟨⟨old,he⟩,_⟩:=st
  exact wpAny_pyIter_enum he hQ
section
variable {X:Cx}
noncomputable def iEnum (K:PySem.W.Frag) (ta:TA):TI:=fun σ H R=>ta σ H fun vs H1=>∃a,vs=[.ref a]∧(∃xs,SqL K H1 a xs)∧R (Ite K a) H1
theorem pi_enum {elts:List Expr} {k:Nat} {tp:Pos} {a:Expr} {ta:TA} {p pos:Pos} (hg:Gl X "enumerate") (hm:X.mg "enumerate" = none) (ha:PA X [a] ta) (hb:bootBuiltins "enumerate" = some (.type "enumerate"):=by first|rfl|decide) (hs:starEach [a] X.env=[(false,eval a X.env)]:=by rfl) :
  PI X (.Tuple elts k tp) (.Call (.Name "enumerate" p) [a] [] pos) (iEnum X.K ta):=by
 intro pins s σ H R I h
 refine Call_ (ld_blt I hg hm hb (PyProof.Rows.callWith_type1 (thn (ha s σ H _ I h) fun us s1 ⟨vs,H1,I1,r1,q1⟩ => ?_) hs rfl))
 obtain ⟨l1,e,⟨xs,q1⟩,q⟩:=q1
 subst e
 obtain ⟨u,rfl,ru⟩:=vals1 r1
 cases ru
 obtain ⟨its1,rv1,p1,_⟩:=I1.list q1
 have a1:l1<s1.heap.objs.size:=by obtain ⟨_,e,_⟩:=p1.isList;exact Heap.lt_size e
 refine call_enumerate_list p1.isList (fun h' he hi1 hsz hk => ?_)
 refine wpAny_pyIter_enum he ?_
 have I2:Inv X pins σ H1 { s1 with heap:=h' }:=I1.kept (t':=s1.toks) hk
 refine ⟨_,_,_,_,H1,rfl,I2,turn_enum _ _ _ (Nat.succ_ne_self _) (Nat.ne_of_lt (Nat.lt_succ_of_lt a1)) (Nat.ne_of_lt a1),⟨⟨_,he⟩,hi1⟩,fun c hc => ?_,q⟩
 have hcs:s1.heap.objs.size≤c:=by
  simp at hc
  rcases hc with rfl|rfl
  ·exact Nat.le_add_right _ _
  ·exact Nat.le_refl _
 exact I1.fpOk hcs (I1.hok.fresh hcs)
end
end L2
namespace L2
open PySem PySem.Spec PyProof.Rows
section
variable {X:Cx}
noncomputable def rAddA:R2:=fun x y H Q=>(Ex2 fun i j=>x = .int i∧y = .int j∧Q (.int (i+j)) H)∨(∃i j,x = .str i∧y = .str j∧i.length+j.length≤sizeLine∧Q (.str (i++j)) H)∨rCat x y H Q
theorem g_add:OpR X (binaryOp .Add) rAddA:=op_add.or (op_add_str.or op_cat)
noncomputable def rMulA:R2:=fun x y H Q=>(Ex2 fun i j=>x = .int i∧y = .int j∧CMul i j∧Q (.int (i*j)) H)∨rRep x y H Q
theorem g_mul:OpR X (binaryOp .Mult) rMulA:=op_mul.or op_rep
structure Fn (P:Program) (w:World) (K:PySem.W.Frag) (mg:Str→Option Value) (base:Heap) (k:Nat) (x:Str) (ps:List Str) (sp:Sp):Prop where
 ex:∃f fd,FnOk P w K mg base CX0 k f fd ps sp∧Binds K fd ps []∧PySem.W.keepIn K (.ref f)=true∧mg x=some (.ref f)
theorem Fn.mono {P:Program} {w:World} {K:PySem.W.Frag} {mg:Str→Option Value} {base:Heap} {j k:Nat} {x:Str} {ps:List Str} {sp:Sp} (F:Fn P w K mg base j x ps sp) (h:j≤k):Fn P w K mg base k x ps sp:=by
 refine Elim.el (F.ex) _ ?_
 rintro f fd a b c d
 exact ⟨f,fd,a.mono h,b,c,d⟩
theorem pe_fn {k:Nat} {x:Str} {ps:List Str} {sp:Sp} {p pos:Pos} {e:Expr} {es:List Expr} {t:TA} (F:Fn X.prog X.w X.K X.mg X.base k x ps sp) (hr:Room k X.A) (hg:Gl X x)
  (ha:PA X (e :: es) t) (hdb:(x == ("__debug__" : Str))=false:=by decide) (he:starEach (e :: es) X.env=(false,eval e X.env) :: starEach es X.env:=by rfl) (hpl:(backTo pos (starEach es X.env)).any (·.1)=false:=by rfl) :
  PE X (.Call (.Name x p) (e :: es) [] pos) (tCall sp [] E0 t):=by
 refine Elim.el (F.ex) _ ?_
 rintro f fd a b c d
 exact pe_call a hr hg d c b .nil pass0 ha hdb he hpl
end
noncomputable def compChk (pn sn:List (Str×NameKind)) (N Fc:List Str) (js:List Nat):Bool:=
 sn.all (fun y=>y.2 != .cell)&&sn.all (fun y=>y.2 != .local||sn.lookup y.1 == some .local)&&sn.all (fun y=>y.2 != .free||pn.lookup y.1 == some .cell||pn.lookup y.1 == some .free)&&js.length == Fc.length &&
 (List.range Fc.length).all fun k=>match Fc[k]?,js[k]? with
  | some x,some j=>sn.lookup x == some .free&&N[j]? == some x
  | _,_=>false
theorem comp_ok {X:Cx} {scope:Scope} {Nc Fc:List Str} {js:List Nat} (hk:scope.kind = .function:=by rfl) (h:compChk X.env.scope.names scope.names X.N Fc js=true:=by rfl):CompOk X scope Nc Fc js:=by
 unfold compChk at h
 simp only [Bool.and_eq_true,List.all_eq_true,Bool.or_eq_true,bne_iff_ne,beq_iff_eq,ne_eq] at h
 obtain ⟨⟨⟨⟨h1,h2⟩,h3⟩,h4⟩,h5⟩:=h
 refine ⟨hk,h1,fun y hy hl=>(h2 y hy).resolve_left (fun z=>z hl),fun y hy hf => ?_,fun k x hx => ?_,h4⟩
 ·rcases h3 y hy with (z|z)|z
  ·exact absurd hf z
  ·exact .inl z
  ·exact .inr z
 ·have hk':k<Fc.length:=(List.getElem?_eq_some_iff.mp hx).1
  have q:=h5 k (List.mem_range.mpr hk')
  have hj:k<js.length:=by (first|lia|omega)
  rw [hx,List.getElem?_eq_getElem hj] at q
  simp only [Bool.and_eq_true,beq_iff_eq] at q
  exact ⟨q.1,_,List.getElem?_eq_getElem hj,q.2⟩
end L2
namespace L2
open PySem PySem.Spec PyProof.Rows
section
variable {X:Cx}
theorem g_eq (hu:X.A.units+64<cLine):OpR X (compareOp .Eq) (fun x y H Q=>rEq x y H Q∨(∃d e,Den X.K H d x∧Den X.K H e y∧SeqAt.shaped d=true∧SeqAt.shaped e=true∧Q (.bl (PyData.eqv d e)) H)):=op_eq.or (op_eqD hu)
theorem g_ne (hu:X.A.units+64<cLine):OpR X (compareOp .NotEq) (fun x y H Q=>rNe x y H Q∨(∃d e,Den X.K H d x∧Den X.K H e y∧SeqAt.shaped d=true∧SeqAt.shaped e=true∧Q (.bl (!PyData.eqv d e)) H)):=op_ne.or (op_neD hu)
theorem g_is:OpR X (compareOp .Is) (fun x y H Q=>(y = .non∧Q (.bl (decide (x = .non))) H)∨(∃a b,x = .bl a∧y = .bl b∧Q (.bl (decide (a=b))) H)):=op_isN.or op_isB
theorem g_isnot:OpR X (compareOp .IsNot) (fun x y H Q=>(y = .non∧Q (.bl (!decide (x = .non))) H)∨(∃a b,x = .bl a∧y = .bl b∧Q (.bl (!decide (a=b))) H)):=op_notN.or op_isnotB
theorem g_sl:SlR X (fun x lo hi H Q=>rSlL X.K x lo hi H Q∨(∃z,x = .str z∧z.length≤sizeLine∧Q (.str (Txt.slice z lo hi)) H)):=sl_list.or sl_str
structure Nm (mg:Str→Option Value):Prop where
 n_len:mg "len" = none
 n_range:mg "range" = none
 n_max:mg "max" = none
 n_min:mg "min" = none
 n_sum:mg "sum" = none
 n_all:mg "all" = none
 n_any:mg "any" = none
 n_list:mg "list" = none
 n_tuple:mg "tuple" = none
 n_int:mg "int" = none
 n_str:mg "str" = none
 n_bool:mg "bool" = none
 n_zip:mg "zip" = none
 n_enumerate:mg "enumerate" = none
 n_isinstance:mg "isinstance" = none
 n_divmod:mg "divmod" = none
end
end L2
namespace L2
open PySem PySem.Spec PyProof.Rows
theorem comp_go {J:It} {n:Nat} {js:List Nat} {g:TG} {tc:TT} {te:TE} {σ:St} {H1:Hp} {fin:List V→Hp→Prop} (N:Nat) (Pv:Nat→List V→Hp→Prop) (h0:Pv 0 [] H1)
  (go:∀i ys H (Nx:List V→Hp→Prop),i<N→Pv i ys H→(∀ys' H',Pv (i+1) ys' H'→Nx ys' H')→J.go i H∧ys.length<sizeLine ∧
   ∀x H',J.yld i H x H'→g x (List.replicate n none++cvals σ js) H' fun σ2 H2=>tc σ2 H2 fun b H3=>if b=true then te σ2 H3 fun y H4=>Nx (ys++[y]) H4 else Nx ys H3)
  (stop:∀ys H,Pv N ys H→J.stop N H∧fin ys H):CompW J n js g tc te σ H1 fin:=by
 refine ⟨fun i m ys H=>m=N-i∧i≤N∧Pv i ys H,⟨N,by simp,Nat.zero_le _,h0⟩,?_⟩
 rintro i m ys H ⟨rfl,hi,p⟩
 by_cases hlt:i<N
 ·exact .inr (go i ys H (fun ys' H'=>∃m',m'<N-i∧(m'=N-(i+1)∧i+1≤N∧Pv (i+1) ys' H')) hlt p fun ys' H' q=>⟨_,by first|lia|omega,rfl,hlt,q⟩)
 ·have e:i=N:=by (first|lia|omega)
  subst e
  exact .inl (stop ys H p)
section
variable {X:Cx} (K:PySem.W.Frag)
theorem ixK (hK:X.K=K:=by rfl):IxR X (rIx K):=by subst hK;exact ix_seq
theorem slK (hK:X.K=K:=by rfl):SlR X (fun x lo hi H Q=>rSlL K x lo hi H Q∨(∃z,x = .str z∧z.length≤sizeLine∧Q (.str (Txt.slice z lo hi)) H)):=by subst hK;exact g_sl
theorem lenK (hK:X.K=K:=by rfl):CallR X (.builtin "len") (fun xs H Q=>∃x n,xs=[x]∧LenV K x H n∧Q (.int n) H):=by subst hK;exact call_len
theorem joinK (hK:X.K=K:=by rfl):MtR X "str.join" (fun x vs H Q=>∃(sep:Str) (p:Addr) (xs:List Str),x = .str sep∧vs=[.ref p]∧SqL K H p (xs.map V.str)∧(xs.map (·.length)).sum+xs.length*sep.length≤16777216∧Q (.str (Txt.join sep xs)) H):=by subst hK;exact mt_join
theorem piK {tg l:Expr} {tl:TE} (hl:PE X l tl) (hK:X.K=K:=by rfl):PI X tg l (iList K tl):=by subst hK;exact pi_list hl
theorem tupK {pos:Pos} {es:List Expr} {k:Nat} {t:TGs} (n:Nat) (hc:X.calm=true) (h:PGs X es t) (hn:(assignEach es X.env).length=n:=by rfl) (hst:(assignEach es X.env).findIdx? (·.1)=none:=by rfl) (hK:X.K=K:=by rfl):PG X (.Tuple es k pos) (gTup K n t):=by subst hK;exact pg_tup hc h hn hst
theorem bmK {o e:Expr} {es:List Expr} {to:TE} {t:TA} {name:Str} {apos cpos:Pos} {T id:String} {r:V→List V→Hp→VK→Prop} (pa:PlainAttrs T) (slot:Slot T name id) (hty:typeOf (.builtin id)=pure (.type "method_descriptor")) (hm:MtR X id r) (ho:PE X o to) (ha:PA X (e :: es) t)
  (hbase:attributeBase o name X.env (eval o X.env)=eval o X.env:=by rfl)
  (hfew:((backTo cpos (starEach (e :: es) X.env)).all (fun x => !x.1)&&(backToKw cpos (keywordEach [] X.env)).all (fun x=>x.1.isSome)
   && decide ((e :: es).length+([]:List Keyword).length+(if ([]:List Keyword).isEmpty then 0 else 1)<30))=true:=by rfl)
  (hline:(apos.endLine == cpos.line)=true:=by rfl) (hs:starEach (e :: es) X.env=(false,eval e X.env) :: starEach es X.env:=by rfl) (hplain:(backTo cpos (starEach es X.env)).any (·.1)=false:=by rfl) (hK:X.K=K:=by rfl) :
  PE X (.Call (.Attribute o name apos) (e :: es) [] cpos) (tBM K T r to t):=by subst hK;exact pe_bm pa slot hty hm ho ha hbase hfew hline hs hplain
theorem bm0K {o:Expr} {to:TE} {name:Str} {apos cpos:Pos} {T id:String} {r:V→List V→Hp→VK→Prop} (pa:PlainAttrs T) (slot:Slot T name id) (hty:typeOf (.builtin id)=pure (.type "method_descriptor")) (hm:MtR X id r) (ho:PE X o to)
  (hbase:attributeBase o name X.env (eval o X.env)=eval o X.env:=by rfl) (hline:(apos.endLine == cpos.line)=true:=by rfl) (hK:X.K=K:=by rfl):PE X (.Call (.Attribute o name apos) [] [] cpos) (tBM0 K T r to):=by subst hK;exact pe_bm0 pa slot hty hm ho hbase hline
theorem eqK (hu:X.A.units+64<cLine) (hK:X.K=K:=by rfl):OpR X (compareOp .Eq) (fun x y H Q=>rEq x y H Q∨(∃d e,Den K H d x∧Den K H e y∧SeqAt.shaped d=true∧SeqAt.shaped e=true∧Q (.bl (PyData.eqv d e)) H)):=by subst hK;exact g_eq hu
theorem neK (hu:X.A.units+64<cLine) (hK:X.K=K:=by rfl):OpR X (compareOp .NotEq) (fun x y H Q=>rNe x y H Q∨(∃d e,Den K H d x∧Den K H e y∧SeqAt.shaped d=true∧SeqAt.shaped e=true∧Q (.bl (!PyData.eqv d e)) H)):=by subst hK;exact g_ne hu
end
end L2
namespace L2
open PySem PySem.Spec PyProof.Rows
noncomputable abbrev Keeps (g h:Heap) (c:Addr→Prop):Prop:=∀b o, ¬c b→g.get? b=some o→h.get? b=some o
structure Feed (prog:Program) (w:World) (A:Around) (it S:Addr) (T:String) (fp:Addr→Prop) (n:Nat) (P:Nat→Value→Heap→Prop) (R:Value→Value→Prop) (St:Nat→Heap→Prop):Prop where
 sfp:¬fp S
 ne:it≠S
 ty:∀i h,St i h→∃o,h.get? it=some o∧o.cls = .type T
 self:∀(s:Shared) (Q:Value→Shared→Prop) (E:Value→Shared→Prop),St 0 s.heap→Q (.ref it) s→wpAny (model prog w) A (pyIter (.ref it)) Q E s
 item:∀i (s:Shared) (Q:Option Value→Shared→Prop) (E:Value→Shared→Prop),i<n→St i s.heap→S<s.heap.objs.size →
  (∀v h' tk,Keeps s.heap h' fp→St (i+1) h'→P i v h'→(∀j u,P j u s.heap→R u v)→Q (some v) { s with heap:=h',toks:=tk })→wpAny (model prog w) A (pyNext (.ref it)) Q E s
 stop:∀(s:Shared) (Q:Option Value→Shared→Prop) (E:Value→Shared→Prop),St n s.heap→S<s.heap.objs.size→(∀h' tk,Keeps s.heap h' fp→Q none { s with heap:=h',toks:=tk })→wpAny (model prog w) A (pyNext (.ref it)) Q E s
 keepS:∀i h h',St i h→Keeps h h' (· = S)→St i h'
 keepP:∀j v h h',P j v h→Keeps h h' (fun b=>fp b∨b=S)→P j v h'
 nolen:typeLookup (.type T) "__len__" = pure none
 nohint:typeLookup (.type T) "__length_hint__" = pure none
 nl:(Value.type T == Value.type "list")=false
 nt:(Value.type T == Value.type "tuple")=false
structure Grown (h:Heap) (S:Addr) (i:Nat) (P:Nat→Value→Heap→Prop) (R:Value→Value→Prop) (acc:Array Value) (c:Nat):Prop where
 ob:h.get? S=some { cls := .type "list",data := .seq acc c }
 sz:acc.size=i
 pw:acc.toList.Pairwise R
 all:∀(j:Nat) v,acc[j]? = some v→P j v h
noncomputable abbrev RunsTo (prog:Program) (w:World) (A:Around) (R:Result→Shared→Prop):Fin→Shared→Prop:=fun fin s'=>match fin with
 | .done f=>R (.ok f) s'
 | .again c'=>c'.quiet=true∧codeAny (model prog w) A c' R s'
section
variable {prog:Program} {w:World} {A:Around} {it S:Addr} {T:String} {fp:Addr→Prop} {n:Nat} {P:Nat→Value→Heap→Prop} {R:Value→Value→Prop} {St:Nat→Heap→Prop}
noncomputable abbrev FeedEnd (g:Heap) (S:Addr) (fp:Addr→Prop) (n:Nat) (P:Nat→Value→Heap→Prop) (R:Value→Value→Prop) (s:Shared) (Z:Shared→Prop):Prop:=
 ∀h' tk acc c,Keeps g h' (fun b=>fp b∨b=S)→Grown h' S n P R acc c→Z { s with heap:=h',toks:=tk }
theorem feed_loop (Fd:Feed prog w A.in1 it S T fp n P R St) (hn:n≤sizeLine) {s:Shared} {Z:Result→Shared→Prop} {res:Value} {g:Heap} (fin:FeedEnd g S fp n P R s (Z (.ok (.ret res)))) :
  ∀(k i:Nat) (h:Heap) (tk:Nat) (acc:Array Value) (c:Nat),i+k=n→St i h→Grown h S i P R acc c→Keeps g h (fun b=>fp b∨b=S) →
   codeAny (model prog w) A (.builtin "list.extend.loop" ⟨[.ref S, .ref it,res],[]⟩) Z { s with heap:=h,toks:=tk }
 | 0,i,h,tk,acc,c,hk,hst,G,kp=>by
  have e:i=n:=by (first|lia|omega)
  subst e
  refine codeAny_builtin PySem.F.entry_extend_loop ?_
  rw [Around.under_plainId PySem.F.plain_extend_loop _]
  refine wpAny_bind (Fd.stop { s with heap:=h,toks:=tk } _ _ hst (Heap.lt_size G.ob) fun h' tk' k'=>wpAny_pure ?_)
  exact fin h' tk' acc c (fun b o nb q=>k' b o (fun z=>nb (.inl z)) (kp b o nb q)) ⟨k' _ _ Fd.sfp G.ob,G.sz,G.pw,fun j v e=>Fd.keepP _ _ _ _ (G.all j v e) fun b o nb q=>k' b o (fun z=>nb (.inl z)) q⟩
 | k+1,i,h,tk,acc,c,hk,hst,G,kp=>by
  refine codeAny_builtin PySem.F.entry_extend_loop ?_
  rw [Around.under_plainId PySem.F.plain_extend_loop _]
  refine wpAny_bind (Fd.item i { s with heap:=h,toks:=tk } _ _ (by first|lia|omega) hst (Heap.lt_size G.ob) fun v h' tk' k' st' pv rv => ?_)
  have ob':=k' _ _ Fd.sfp G.ob
  have other:Keeps h' (h'.update S (Obj.mapSeq (·.push v))) (· = S):=fun b o nb q=>(Heap.get?_update_other _ _ (Ne.symm nb)).trans q
  have k2:Keeps h (h'.update S (Obj.mapSeq (·.push v))) (fun b=>fp b∨b=S):=fun b o nb q=>other b o (fun z=>nb (.inr z)) (k' b o (fun z=>nb (.inl z)) q)
  have sz:=G.sz
  refine wpAny_bind (wpAny_updateSeq ob' rfl (wpAny_pure ⟨plainId_quiet PySem.F.plain_extend_loop _,?_⟩) (by rw [sz]; (first|lia|omega)) (by show (acc.push v).size≤sizeLine+1;rw [Array.size_push,sz]; (first|lia|omega)))
  refine feed_loop Fd hn fin k (i+1) _ tk' (acc.push v) _ (by first|lia|omega) (Fd.keepS _ _ _ st' other) ⟨Heap.get?_update_self _ ob' rfl,by rw [Array.size_push,sz],?_,fun j u e => ?_⟩ (fun b o nb q=>k2 b o nb (kp b o nb q))
  ·rw [Array.toList_push]
   refine List.pairwise_append.mpr ⟨G.pw,List.pairwise_singleton _ _,fun a ha b hb => ?_⟩
   obtain ⟨j,hj⟩:=List.mem_iff_getElem?.mp ha
   rw [List.mem_singleton.mp hb]
   exact rv j a (G.all j a (by simpa using hj))
  ·by_cases hj:j<i
   ·rw [Array.getElem?_push_lt (by first|lia|omega)] at e
    exact Fd.keepP _ _ _ _ (G.all j u (by rw [Array.getElem?_eq_getElem (by first|lia|omega)];exact e)) k2
   ·have hj':j=i:=by
     have:=(Array.getElem?_eq_some_iff.mp e).1
     rw [Array.size_push] at this
     (first|lia|omega)
    subst hj'
    have e':(acc.push v)[acc.size]? = some u:=by rw [sz];exact e
    rw [Array.getElem?_push_size] at e'
    cases e'
    exact Fd.keepP _ _ _ _ pv fun b o nb q=>other b o (fun z=>nb (.inr z)) q
theorem feed_extend (Fd:Feed prog w A.in1 it S T fp n P R St) (hn:n≤sizeLine) {s:Shared} {Z:Result→Shared→Prop} {res:Value} {c₀:Nat} (hst:St 0 s.heap) (hS:s.heap.get? S=some { cls := .type "list",data := .seq #[] c₀ })
  (fin:FeedEnd s.heap S fp n P R s (Z (.ok (.ret res)))) :
  wpAny (model prog w) A.in1 (Builtin.List.listExtendWith (.ref S) (.ref it) res) (RunsTo prog w A Z) (fun e s'=>Z (.error e) s') s:=by
 have go:∀(h:Heap) (c tk:Nat),Keeps s.heap h (· = S)→h.get? S=some { cls := .type "list",data := .seq #[] c } → codeAny (model prog w) A (.builtin "list.extend.loop" ⟨[.ref S, .ref it,res],[]⟩) Z { s with heap:=h,toks:=tk }:=
  fun h c tk k o=>feed_loop Fd hn fin n 0 h tk #[] c (by first|lia|omega) (Fd.keepS _ _ _ hst k) ⟨o,rfl, .nil,fun j v e=>by simp at e⟩ fun b o nb q=>k b o (fun z=>nb (.inr z)) q
 obtain ⟨oi,hoi,hci⟩:=Fd.ty 0 _ hst
 have hT:s.TypeIs (.ref it) T:=⟨oi,hoi,hci⟩
 have nsame:Builtin.List.listSameRef (.ref S) (.ref it)=false:=by simp [Builtin.List.listSameRef,Ne.symm Fd.ne]
 unfold Builtin.List.listExtendWith
 refine wpAny_bind (wpAny_typeOf hT ?_)
 simp only [nsame,Fd.nl,Fd.nt,Bool.or_false,Bool.false_eq_true,if_false]
 refine wpAny_bind (Fd.self s _ _ hst ?_)
 have hint:∀(Q:Bool→Shared→Prop),Q true s→wpAny (model prog w) A.in1 (Builtin.List.listLengthHint (.ref it)) Q (fun e s'=>Z (.error e) s') s:=fun Q q=>by
  unfold Builtin.List.listLengthHint
  refine wpAny_bind (wpAny_specialOf hT Fd.nolen ?_)
  refine wpAny_ite_split (fun z=>absurd z (by decide)) fun _=>wpAny_ite_split (fun z=>absurd z (by decide)) fun _ => ?_
  exact wpAny_bind (wpAny_specialOf hT Fd.nohint (wpAny_pure q))
 refine wpAny_bind (wpAny_holding (hint _ ?_))
 refine wpAny_ite_split (fun _ => ?_) fun _=>wpAny_pure ⟨plainId_quiet PySem.F.plain_extend_loop _,go _ c₀ _ (fun _ _ _ q=>q) hS⟩
 refine wpAny_bind (wpAny_rule (wpAny_bind ?_))
 have o1:=Heap.get?_update_self (Obj.mapSeq (·.push Value.none)) hS rfl
 have o2:=Heap.get?_update_self (Obj.mapSeq (·.pop)) o1 rfl
 refine wpAny_bind (wpAny_updateSeq hS rfl (wpAny_updateSeq (hz:=by seq_fits) o1 rfl (wpAny_pure ⟨plainId_quiet PySem.F.plain_extend_loop _,go _ _ _ (fun b o nb q => ?_) o2⟩)))
 exact (Heap.get?_update_other _ _ (Ne.symm nb)).trans ((Heap.get?_update_other _ _ (Ne.symm nb)).trans q)
theorem feed_init (Fd:Feed prog w A.in1 it S T fp n P R St) (hn:n≤sizeLine) {s:Shared} {Z:Result→Shared→Prop} (hst:St 0 s.heap) (hS:s.heap.get? S=some { cls := .type "list",data := .seq #[] })
  (fin:FeedEnd s.heap S fp n P R s (Z (.ok (.ret .none)))) :
  wpAny (model prog w) A.in1 (Builtin.«list.__init__» ⟨[.ref S, .ref it],[]⟩) (RunsTo prog w A Z) (fun e s'=>Z (.error e) s') s:=by
 refine wpAny_bind ?_
 unfold Builtin.List.listItems
 refine wpAny_bind (wpAny_seqItems hS rfl (wpAny_pure ?_))
 have o1:=Heap.get?_update_self (Obj.mapSeq (fun _=>(#[]:Array Value))) hS rfl
 have k1:Keeps s.heap (s.heap.update S (Obj.mapSeq (fun _=>(#[]:Array Value)))) (· = S):=fun b o nb q=>(Heap.get?_update_other _ _ (Ne.symm nb)).trans q
 refine wpAny_bind (wpAny_updateSeq hS rfl (wpAny_bind (wpAny_letGo ?_)))
 refine feed_extend (s:={ s with heap:=_ }) Fd hn (Fd.keepS _ _ _ hst k1) o1 fun h' tk acc c k G => ?_
 exact fin h' tk acc c (fun b o nb q=>k b o nb (k1 b o (fun z=>nb (.inr z)) q)) G
theorem feed_call {s:Shared} {Q:Value→Shared→Prop} {E:Value→Shared→Prop} (Fd:Feed prog w A.in1.in1 it s.heap.objs.size T fp n P R St) (hn:n≤sizeLine) (hst:∀o,St 0 (s.heap.push o))
  (fin:∀h' tk acc c,Keeps s.heap h' fp→Grown h' s.heap.objs.size n P R acc c→Q (.ref s.heap.objs.size) { s with heap:=h',toks:=tk }) :
  wpAny (model prog w) A (call (.type "list") [.ref it]) Q E s:=by
 refine callType_codes (Q₁:=fun obj s₁=>obj = .ref s.heap.objs.size∧s₁={ s with heap:=s.heap.push { cls := .type "list",data := .seq #[] } }) F.called_list (F.typeCall_list_1 _) F.entry_list_init
  (code_list_new _ ⟨rfl,rfl⟩) fun obj s₁ h₁ => ?_
 obtain ⟨rfl,rfl⟩:=h₁
 have hS:(s.heap.push { cls := .type "list",data := .seq #[] }).get? s.heap.objs.size=some { cls := .type "list",data := .seq #[] }:=Heap.get?_push_size _ rfl
 refine ⟨⟨_,hS,rfl⟩,F.args_list_init_2 _ _,feed_init (s:={ s with heap:=_ }) (A:=A.in1) Fd hn (hst _) hS fun h' tk acc c k G=>⟨rfl,fin h' tk acc c (fun b o nb q => ?_) G⟩⟩
 exact k b o (fun z=>z.elim nb fun z=>addr_ne (Heap.lt_size q) (Nat.le_refl _) z) (Heap.get?_push_of_some _ q)
end
end L2
namespace L2
open PySem PySem.Spec PyProof.Rows
noncomputable abbrev ZipOut (h:Heap) (z TI TO a:Addr) (f:Bool):Prop:=
 h.get? z=some { cls := .type "zip",dict:=none,data := .fields #[rawInt a, .bool f, .bool false, .ref TI, .ref TO],slots := #[] }
section
variable {prog:Program} {w:World} {A:Around} {E:Value→Shared→Prop} {s:Shared} {z TI TO i1 i2 l1 l2 a:Addr} {f:Bool} {oa:Obj}
theorem zip_busy {Q:Bool→Shared→Prop} (hz:ZipOut s.heap z TI TO a f) (ha:s.heap.get? a=some oa)
  (q:∀h,ZipOut h z TI TO a true→Heap.SameBut z s.heap h→Q false { s with heap:=h }):wpAny (model prog w) A (Builtin.SmallTypes.ownedTupleIsFree (.ref z)) Q E s:=by
 unfold Builtin.SmallTypes.ownedTupleIsFree
 refine wpAny_bind (wpAny_field hz rfl (x:=rawInt a) rfl ?_)
 show wpAny _ _ (loadIfAlive ((a:Int).toNat) >>= _) _ _ _
 rw [Int.toNat_natCast]
 refine wpAny_bind (PySem.W.kdx_alive ha ?_)
 simp only [Option.isNone_some,Bool.false_eq_true,if_false]
 refine wpAny_bind (wpAny_field hz rfl (x := .bool f) rfl ?_)
 cases f
 ·exact wpAny_bind (wpAny_setField_rec hz (by simp) fun h e k=>wpAny_pure (q h e k))
 ·exact wpAny_pure (q s.heap hz (Heap.SameBut.refl _ _))
theorem zip_out_item {k:Nat} {xs ys:Array Value} {x y:Value} {Q:Option Value→Shared→Prop} (D:ZipApart z TI TO i1 i2 l1 l2) (hz:ZipOut s.heap z TI TO a f) (ha:s.heap.get? a=some oa) (hTI:IsPair s.heap TI (.ref i1) (.ref i2))
  (h1:s.heap.IsListIter i1 l1 k) (h2:s.heap.IsListIter i2 l2 k) (hl1:s.heap.IsList l1 xs) (hl2:s.heap.IsList l2 ys) (hx:xs[k]? = some x) (hy:ys[k]? = some y)
  (q:∀h',ZipOut h' z TI TO a true→h'.IsListIter i1 l1 (k+1)→h'.IsListIter i2 l2 (k+1)→IsPair h' s.heap.objs.size x y→Keeps s.heap h' (fun b=>b=z∨b=i1∨b=i2)→Q (some (.ref s.heap.objs.size)) { s with heap:=h' }) :
  wpAny (model prog w) A (pyNext (.ref z)) Q E s:=by
 have hT:s.TypeIs (.ref z) "zip":=⟨_,hz,rfl⟩
 unfold pyNext
 refine wpAny_bind (wpAny_attempt (wpAny_callSpecial?_slot (name:=Str.ofString "__next__") hT F.slot_zip_next (wpAny_call_entry F.slot_zip_next hT F.entry_zip_next ?_ (F.args_zip_next_1 _))))
 change wpAny _ _ (Bind.bind (field (.ref z) 2) _) _ _ _
 refine wpAny_bind (wpAny_field hz rfl (x := .bool false) rfl ?_)
 change wpAny _ _ (Bind.bind (field (.ref z) 3) _) _ _ _
 refine wpAny_bind (wpAny_field hz rfl (x := .ref TI) rfl (wpAny_bind (wpAny_seqItems hTI rfl ?_)))
 change wpAny _ _ (Bind.bind (Builtin.SmallTypes.ownedTupleIsFree (.ref z)) _) _ _ _
 refine wpAny_bind (zip_busy hz ha fun h0 z0 k0 => ?_)
 simp only [Bool.false_eq_true,if_false, ←Array.forIn_toList,List.forIn_cons,List.forIn_nil]
 refine wpAny_bind (wpAny_bind (wpAny_bind (wpAny_holding (wpAny_bind (wpAny_nextOf_list_item (h1.extBut k0.extBut D.i1z) (hl1.extBut k0.extBut D.l1z) hx fun h4 e4 k4=>wpAny_pure (wpAny_pure ?_))))))
 refine wpAny_bind (wpAny_bind (wpAny_holding (wpAny_bind (wpAny_nextOf_list_item ((h2.extBut k0.extBut D.i2z).extBut k4.extBut D.i12.symm) ((hl2.extBut k0.extBut D.l2z).extBut k4.extBut D.l2i1) hy fun h5 e5 k5=>wpAny_pure (wpAny_pure (wpAny_pure ?_))))))
 refine wpAny_bind (wpAny_newTuple (hsz:=by show 2≤sizeLine;decide) (wpAny_pure ⟨_,rfl,wpAny_pure ?_⟩))
 have hsz:h5.objs.size=s.heap.objs.size:=by rw [k5.1,k4.1,k0.1]
 show Q (some (.ref h5.objs.size)) _
 rw [hsz]
 refine q (h5.push { cls := .type "tuple",data := .seq #[x,y] }) (Heap.get?_push_of_some _ (k5.extBut _ _ D.i2z.symm (k4.extBut _ _ D.i1z.symm z0))) ((e4.extBut k5.extBut D.i12).at fun o e=>Heap.get?_push_of_some _ e) (e5.at fun o e=>Heap.get?_push_of_some _ e) (by rw [←hsz];exact Heap.get?_push_size _ rfl) fun b o nb e => ?_
 exact Heap.get?_push_of_some _ (k5.extBut _ _ (fun z=>nb (.inr (.inr z))) (k4.extBut _ _ (fun z=>nb (.inr (.inl z))) (k0.extBut _ _ (fun z=>nb (.inl z)) e)))
theorem zip_out_stop {k:Nat} {xs ys:Array Value} {Q:Option Value→Shared→Prop} (hh:A.handled=none) (D:ZipApart z TI TO i1 i2 l1 l2) (hz:ZipOut s.heap z TI TO a f) (ha:s.heap.get? a=some oa) (hTI:IsPair s.heap TI (.ref i1) (.ref i2))
  (h1:s.heap.IsListIter i1 l1 k) (h2:s.heap.IsListIter i2 l2 k) (hl1:s.heap.IsList l1 xs) (hl2:s.heap.IsList l2 ys) (he:xs[k]? = none∨ys[k]? = none)
  (q:∀h',Keeps s.heap h' (fun b=>b=z∨b=i1∨b=i2)→Q none { s with heap:=h' }) :
  wpAny (model prog w) A (pyNext (.ref z)) Q E s:=by
 have hT:s.TypeIs (.ref z) "zip":=⟨_,hz,rfl⟩
 unfold pyNext
 refine wpAny_bind (wpAny_attempt (wpAny_callSpecial?_slot (name:=Str.ofString "__next__") hT F.slot_zip_next (wpAny_call_entry F.slot_zip_next hT F.entry_zip_next ?_ (F.args_zip_next_1 _))))
 change wpAny _ _ (Bind.bind (field (.ref z) 2) _) _ _ _
 refine wpAny_bind (wpAny_field hz rfl (x := .bool false) rfl ?_)
 change wpAny _ _ (Bind.bind (field (.ref z) 3) _) _ _ _
 refine wpAny_bind (wpAny_field hz rfl (x := .ref TI) rfl (wpAny_bind (wpAny_seqItems hTI rfl ?_)))
 change wpAny _ _ (Bind.bind (Builtin.SmallTypes.ownedTupleIsFree (.ref z)) _) _ _ _
 refine wpAny_bind (zip_busy hz ha fun h0 z0 k0 => ?_)
 simp only [Bool.false_eq_true,if_false, ←Array.forIn_toList,List.forIn_cons,List.forIn_nil]
 refine wpAny_bind (wpAny_bind (wpAny_bind (wpAny_holding ?_)))
 cases hx:xs[k]? with
 | none=>
  refine wpAny_bind (wpAny_nextOf_list_end hh (h1.extBut k0.extBut D.i1z) (hl1.extBut k0.extBut D.l1z) hx fun h4 e k4 oe => ?_)
  obtain ⟨o,ho,hc⟩:=oe
  exact wpAny_bind (wpAny_isInstance (T := "StopIteration") (b:=true) ⟨o,ho,hc⟩ isSubtype_stop (wpAny_pure (q h4 fun b o nb x=>k4 _ _ (fun z=>nb (.inr (.inl z))) (k0.extBut _ _ (fun z=>nb (.inl z)) x))))
 | some x=>
  have hy:ys[k]? = none:=he.resolve_left (by rw [hx];exact fun z=>nomatch z)
  refine wpAny_bind (wpAny_nextOf_list_item (h1.extBut k0.extBut D.i1z) (hl1.extBut k0.extBut D.l1z) hx fun h4 e4 k4=>wpAny_pure (wpAny_pure ?_))
  refine wpAny_bind (wpAny_bind (wpAny_holding (wpAny_bind (wpAny_nextOf_list_end hh ((h2.extBut k0.extBut D.i2z).extBut k4.extBut D.i12.symm) ((hl2.extBut k0.extBut D.l2z).extBut k4.extBut D.l2i1) hy fun h5 e k5 oe => ?_))))
  obtain ⟨o,ho,hc⟩:=oe
  exact wpAny_bind (wpAny_isInstance (T := "StopIteration") (b:=true) ⟨o,ho,hc⟩ isSubtype_stop (wpAny_pure (q h5 fun b o nb x=>k5 _ _ (fun z=>nb (.inr (.inr z))) (k4.extBut _ _ (fun z=>nb (.inr (.inl z))) (k0.extBut _ _ (fun z=>nb (.inl z)) x)))))
end
structure ZipFeeds (z TI TO i1 i2 l1 l2 S:Addr) (xs ys:Array Value) (i:Nat) (h:Heap):Prop where
 ti:IsPair h TI (.ref i1) (.ref i2)
 to:∃a b,IsPair h TO a b
 it1:h.IsListIter i1 l1 i
 it2:h.IsListIter i2 l2 i
 a1:h.IsList l1 xs
 a2:h.IsList l2 ys
 zp:IsZip h z TI TO .none∨0<i∧∃a f oa,ZipOut h z TI TO a f∧h.get? a=some oa∧S<a
noncomputable abbrev zipFp (z TO i1 i2:Addr) (b:Addr):Prop:=b=z∨b=TO∨b=i1∨b=i2
noncomputable abbrev ZipPair (S:Addr) (xs ys:Array Value) (j:Nat) (v:Value) (h:Heap):Prop:=Ex3 fun a x y=>v = .ref a∧S<a∧xs[j]? = some x∧ys[j]? = some y∧IsPair h a x y
noncomputable abbrev Rising (u v:Value):Prop:=∃a b:Addr,u = .ref a∧v = .ref b∧a<b
theorem zip_feed {prog:Program} {w:World} {A:Around} {z TI TO i1 i2 l1 l2 S:Addr} {xs ys:Array Value} (hh:A.handled=none) (D:ZipApart z TI TO i1 i2 l1 l2) (b1:z<S) (b2:TI<S) (b3:TO<S) (b4:i1<S) (b5:i2<S) (b6:l1<S) (b7:l2<S) :
  Feed prog w A z S "zip" (zipFp z TO i1 i2) (min xs.size ys.size) (ZipPair S xs ys) Rising (ZipFeeds z TI TO i1 i2 l1 l2 S xs ys) where
 sfp:=fun q=>by
  rcases q with q|q|q|q <;> (rw [q] at b1 b3 b4 b5;first|exact absurd b1 (Nat.lt_irrefl _)|exact absurd b3 (Nat.lt_irrefl _)|exact absurd b4 (Nat.lt_irrefl _)|exact absurd b5 (Nat.lt_irrefl _))
 ne:=Nat.ne_of_lt b1
 ty:=fun i h st=>by
  rcases st.zp with q|⟨_,a,f,oa,q,_⟩
  ·exact ⟨_,q,rfl⟩
  ·exact ⟨_,q,rfl⟩
 self:=fun s Q E st q=>by
  rcases st.zp with r|⟨r,_⟩
  ·exact wpAny_pyIter_zip r q
  ·exact absurd r (Nat.lt_irrefl _)
 item:=fun i s Q E hi st hS q=>by
  obtain ⟨ti,⟨a,b,to⟩,it1,it2,a1,a2,zp⟩:=st
  have hx:xs[i]? = some (xs[i]'(by first|lia|omega)):=Array.getElem?_eq_getElem (by first|lia|omega)
  have hy:ys[i]? = some (ys[i]'(by first|lia|omega)):=Array.getElem?_eq_getElem (by first|lia|omega)
  have old:∀j u,ZipPair S xs ys j u s.heap→Rising u (.ref s.heap.objs.size):=fun j u ⟨a,x,y,e,_,_,_,p⟩=>⟨a,_,e,rfl,Heap.lt_size p⟩
  rcases zp with r|⟨hi0,c,f,oc,r,oc',hc⟩
  ·refine wpAny_pyNext_zip_item D r ti to it1 it2 a1 a2 hx hy fun h' r1 r2 r3 r4 r5 r6 r7 => ?_
   have kp:Keeps s.heap h' (zipFp z TO i1 i2):=fun b o nb e=>r7 b o (fun z=>nb (.inl z)) (fun z=>nb (.inr (.inl z))) (fun z=>nb (.inr (.inr (.inl z)))) (fun z=>nb (.inr (.inr (.inr z)))) e
   refine q _ h' s.toks kp ⟨r7 _ _ D.TIz D.TITO D.TIi1 D.TIi2 ti,⟨_,_,r2⟩,r3,r4,a1.at fun o e=>r7 _ _ D.l1z D.l1TO D.l1i1 D.l1i2 e,a2.at fun o e=>r7 _ _ D.l2z D.l2TO D.l2i1 D.l2i2 e, .inr ⟨Nat.succ_pos _,_,_,_,r1,r5,hS⟩⟩ ⟨_,_,_,rfl,hS,hx,hy,r5⟩ old
  ·have ne:∀{b:Addr},b<S→c≠b:=fun hb=>Nat.ne_of_gt (Nat.lt_trans hb hc)
   refine zip_out_item D r oc' ti it1 it2 a1 a2 hx hy fun h' r1 r2 r3 r4 r5 => ?_
   have kp:Keeps s.heap h' (zipFp z TO i1 i2):=fun b o nb e=>r5 b o (fun z=>z.elim (fun z=>nb (.inl z)) fun z=>nb (.inr (.inr z))) e
   refine q _ h' s.toks kp ⟨r5 _ _ (fun z=>z.elim D.TIz fun z=>z.elim D.TIi1 D.TIi2) ti,⟨_,_,r5 _ _ (fun z=>z.elim D.TOz fun z=>z.elim D.TOi1 D.TOi2) to⟩,r2,r3,a1.at fun o e=>r5 _ _ (fun z=>z.elim D.l1z fun z=>z.elim D.l1i1 D.l1i2) e,a2.at fun o e=>r5 _ _ (fun z=>z.elim D.l2z fun z=>z.elim D.l2i1 D.l2i2) e,
    .inr ⟨Nat.succ_pos _,_,_,_,r1,r5 _ _ (fun z=>z.elim (ne b1) fun z=>z.elim (ne b4) (ne b5)) oc',hc⟩⟩ ⟨_,_,_,rfl,hS,hx,hy,r4⟩ old
 stop:=fun s Q E st hS q=>by
  obtain ⟨ti,⟨a,b,to⟩,it1,it2,a1,a2,zp⟩:=st
  have he:xs[min xs.size ys.size]? = none∨ys[min xs.size ys.size]? = none:=by
   rcases Nat.le_total xs.size ys.size with h|h
   ·exact .inl (Array.getElem?_eq_none (by first|lia|omega))
   ·exact .inr (Array.getElem?_eq_none (by first|lia|omega))
  rcases zp with r|⟨hi0,c,f,oc,r,oc',hc⟩
  ·exact wpAny_pyNext_zip_end hh D r ti to it1 it2 a1 a2 he fun h' k=>q h' s.toks fun b o nb e=>k b o (fun z=>nb (.inl z)) (fun z=>nb (.inr (.inl z))) (fun z=>nb (.inr (.inr (.inl z)))) (fun z=>nb (.inr (.inr (.inr z)))) e
  ·exact zip_out_stop hh D r oc' ti it1 it2 a1 a2 he fun h' k=>q h' s.toks fun b o nb e=>k b o (fun z=>z.elim (fun z=>nb (.inl z)) fun z=>nb (.inr (.inr z))) e
 keepS:=fun i h h' st k=>by
  obtain ⟨ti,⟨a,b,to⟩,it1,it2,a1,a2,zp⟩:=st
  refine ⟨k _ _ (Nat.ne_of_lt b2) ti,⟨a,b,k _ _ (Nat.ne_of_lt b3) to⟩,it1.at fun o e=>k _ o (Nat.ne_of_lt b4) e,it2.at fun o e=>k _ o (Nat.ne_of_lt b5) e,a1.at fun o e=>k _ o (Nat.ne_of_lt b6) e,a2.at fun o e=>k _ o (Nat.ne_of_lt b7) e,?_⟩
  rcases zp with r|⟨hi0,c,f,oc,r,oc',hc⟩
  ·exact .inl (k _ _ (Nat.ne_of_lt b1) r)
  ·exact .inr ⟨hi0,c,f,oc,k _ _ (Nat.ne_of_lt b1) r,k _ _ (Nat.ne_of_gt hc) oc',hc⟩
 keepP:=fun j v h h' ⟨a,x,y,e,ha,h1,h2,p⟩ k=>by
  have ne:∀{b:Addr},b<S→a≠b:=fun hb=>Nat.ne_of_gt (Nat.lt_trans hb ha)
  exact ⟨a,x,y,e,ha,h1,h2,k _ _ (fun z=>z.elim (fun z=>z.elim (ne b1) fun z=>z.elim (ne b3) fun z=>z.elim (ne b4) (ne b5)) (Nat.ne_of_gt ha)) p⟩
 nolen:=by rw [typeLookup_type,builtinLookup_eq_fast];kernel_rfl
 nohint:=by rw [typeLookup_type,builtinLookup_eq_fast];kernel_rfl
 nl:=by decide
 nt:=by decide
end L2
namespace L2
open PySem PySem.Spec PyProof.Rows
theorem Inv.adoptAll {X:Cx} {pins:List (Addr×Obj)} {σ:St} : ∀(as:List Addr) (ps:List (List V)) {H:Hp} {s:Shared},Inv X pins σ H s→as.Nodup→as.length=ps.length→(∀a∈as,FpOk X pins H a∧X.s₀.heap.objs.size≤a) →
  (∀(j:Nat) a p,as[j]? = some a→ps[j]? = some p→p.length≤sizeLine∧∃its:List Value,Vals p its∧IsTup s.heap a its.toArray) →
  ∃H',Inv X pins σ H' s∧Same H H'∧(∀b,b ∉ as→H' b=H b)∧∀(j:Nat) a p,as[j]? = some a→ps[j]? = some p→H' a=some (.tup p)
 | [],ps,H,s,I,_,_,_,_=>⟨H,I,Same.refl H,fun _ _=>rfl,fun j a p h _=>by simp at h⟩
 | a :: as,[],H,s,I,_,hl,_,_=>by simp at hl
 | a :: as,p :: ps,H,s,I,nd,hl,hf,ho=>by
  obtain ⟨na,nd'⟩:=List.nodup_cons.mp nd
  obtain ⟨fa,sa⟩:=hf a List.mem_cons_self
  obtain ⟨hz,its,rv,ht⟩:=ho 0 a p rfl rfl
  have I1:=I.adopt (T:=a) (o := .tup p) fa sa ⟨hz,its,rv,ht⟩
  obtain ⟨H',I',sm,same,all⟩:=Inv.adoptAll as ps I1 nd' (by simpa using hl) (fun b hb=>by
   obtain ⟨fb,sb⟩:=hf b (List.mem_cons_of_mem _ hb)
   exact ⟨⟨by rw [upd_ne (fun (e:b=a)=>na (by rw [←e];exact hb))];exact fb.1,fb.2⟩,sb⟩) (fun j b q h1 h2=>ho (j+1) b q h1 h2)
  refine ⟨H',I',fun b o e=>sm b o (by rw [upd_ne (ne_of_none e fa.1)];exact e),fun b hb => ?_,fun j b q h1 h2 => ?_⟩
  ·rw [same b fun z=>hb (List.mem_cons_of_mem _ z),upd_ne (fun (z:b=a)=>hb (by rw [z];exact List.mem_cons_self))]
  ·cases j with
   | zero=>
    cases h1;cases h2
    rw [same a na];exact upd_same
   | succ j=>exact all j b q h1 h2
theorem refs_of:∀{l:List Value},(∀v∈l,∃a:Addr,v = .ref a)→∃as:List Addr,l=as.map Value.ref
 | [],_=>⟨[],rfl⟩
 | v :: r,h=>by
  obtain ⟨a,rfl⟩:=h v List.mem_cons_self
  obtain ⟨as,rfl⟩:=refs_of fun u hu=>h u (List.mem_cons_of_mem _ hu)
  exact ⟨a :: as,rfl⟩
section
variable {X:Cx}
noncomputable def tLZ (K:PySem.W.Frag) (ta:TA):TE:=fun σ H Q=>ta σ H fun vs H1=>Ex4 fun l1 l2 xs ys=>vs=[.ref l1, .ref l2]∧SqL K H1 l1 xs∧SqL K H1 l2 ys ∧
 ∀H' p (as:List Addr),Same H1 H'→H1 p=none→H' p=some (.lst (as.map V.ref))→as.length=min xs.length ys.length →
  (∀(j:Nat) a x y,as[j]? = some a→xs[j]? = some x→ys[j]? = some y→H1 a=none∧H' a=some (.tup [x,y]))→Q (.ref p) H'
theorem zip_pairs {xs ys:List V} (j:Nat) (x y:V) (hx:xs[j]? = some x) (hy:ys[j]? = some y):((xs.zip ys).map fun q=>[q.1,q.2])[j]? = some [x,y]:=by
 rw [List.getElem?_map,(List.getElem?_zip_eq_some (z:=(x,y))).mpr ⟨hx,hy⟩]
 rfl
theorem pe_listzip {a b:Expr} {ta:TA} {p p2 pos pos2:Pos} (hc:X.calm=true) (hgl:Gl X "list") (hml:X.mg "list" = none) (hgz:Gl X "zip") (hmz:X.mg "zip" = none) (ha:PA X [a,b] ta)
  (hbl:bootBuiltins "list" = some (.type "list"):=by first|rfl|decide) (hbz:bootBuiltins "zip" = some (.type "zip"):=by first|rfl|decide)
  (hs0:starEach [.Call (.Name "zip" p2) [a,b] [] pos2] X.env=[(false,eval (.Call (.Name "zip" p2) [a,b] [] pos2) X.env)]:=by rfl)
  (hs:starEach [a,b] X.env=[(false,eval a X.env),(false,eval b X.env)]:=by rfl) (hs2:starEach [b] X.env=[(false,eval b X.env)]:=by rfl) :
  PE X (.Call (.Name "list" p) [.Call (.Name "zip" p2) [a,b] [] pos2] [] pos) (tLZ X.K ta):=by
 intro pins s σ H Q I h
 refine wpAny_Call_Name_kw (ld_blt I hgl hml hbl ?_)
 refine PyProof.Rows.callWith_type1 ?_ hs0 rfl
 rw [hs0]
 show wpAny _ _ (spliced ((false,eval (.Call (.Name "zip" p2) [a,b] [] pos2) X.env) :: [])) _ _ _
 refine Calls.spliced_cons ?_
 refine Call_ (ld_blt I hgz hmz hbz (PyProof.Rows.callWith_type1 (thn (ha s σ H _ I h) fun us s1 ⟨vs,H1,I1,r1,q1⟩ => ?_) (by rw [hs,hs2]) (by rw [hs2];rfl)))
 obtain ⟨l1,l2,xs,ys,e,q1,q2,q⟩:=q1
 subst e
 obtain ⟨u,w',rfl,r1,r2⟩:=vals2 r1
 cases r1;cases r2
 obtain ⟨its1,rv1,p1,hz1⟩:=I1.list q1
 refine Elim.el (I1.list q2) _ ?_
 rintro its2 rv2 p2 hz2
 have e1:=rv1.length
 have e2:=rv2.length
 have a1:l1<s1.heap.objs.size:=by obtain ⟨_,e,_⟩:=p1.isList;exact Heap.lt_size e
 have a2:l2<s1.heap.objs.size:=by obtain ⟨_,e,_⟩:=p2.isList;exact Heap.lt_size e
 refine call_zip_2 p1.isList p2.isList fun h' hz hTI hTO hi1 hi2 hsz hk => ?_
 refine Calls.spliced_nil ?_
 have hSz:s1.heap.objs.size≤h'.objs.size:=by rw [hsz];exact Nat.le_add_right _ _
 have hin:∀n,n<5→s1.heap.objs.size+n<h'.objs.size:=fun n hn=>by rw [hsz];exact Nat.add_lt_add_left hn _
 have zs:∀o,ZipFeeds (s1.heap.objs.size+4) (s1.heap.objs.size+2) (s1.heap.objs.size+3) s1.heap.objs.size (s1.heap.objs.size+1) l1 l2 h'.objs.size its1.toArray its2.toArray 0 (h'.push o):=fun o=>
  ⟨Heap.get?_push_of_some _ hTI,⟨_,_,Heap.get?_push_of_some _ hTO⟩,hi1.at fun o e=>Heap.get?_push_of_some _ e,hi2.at fun o e=>Heap.get?_push_of_some _ e,(p1.isList.at fun o e=>hk _ o e).push _,(p2.isList.at fun o e=>hk _ o e).push _, .inl (Heap.get?_push_of_some _ hz)⟩
 refine feed_call (s:={ s1 with heap:=h' }) (zip_feed (I.ok.hd hc) (zipApart_new a1 a2) (hin 4 (by decide)) (hin 2 (by decide)) (hin 3 (by decide)) (hin 0 (by decide)) (hin 1 (by decide)) (Nat.lt_of_lt_of_le a1 hSz) (Nat.lt_of_lt_of_le a2 hSz)) (by simp; (first|lia|omega)) zs fun h2 tk acc c hk2 G => ?_
 obtain ⟨hS2,hsz2,hpw,hall⟩:=G
 obtain ⟨as,hacc⟩:=refs_of (l:=acc.toList) fun v hv=>by
  obtain ⟨j,hj⟩:=List.mem_iff_getElem?.mp hv
  obtain ⟨a,_,_,e,_⟩:=hall j v (by simpa using hj)
  exact ⟨a,e⟩
 have at_as:∀(j:Nat) a,as[j]? = some a→∃x y,h'.objs.size<a∧its1.toArray[j]? = some x∧its2.toArray[j]? = some y∧IsPair h2 a x y:=fun j a h=>by
  obtain ⟨a',x,y,e,g⟩:=hall j (.ref a) (by
   have:acc.toList[j]? = some (.ref a):=by rw [hacc,List.getElem?_map,h];rfl
   simpa using this)
  cases e
  exact ⟨x,y,g⟩
 have above:∀a∈as,h'.objs.size<a:=fun a ha=>by
  obtain ⟨j,hj⟩:=List.mem_iff_getElem?.mp ha
  obtain ⟨_,_,g,_⟩:=at_as j a hj
  exact g
 have old:∀b o,s1.heap.get? b=some o→h2.get? b=some o:=fun b o e=>by
  have hb:=Heap.lt_size e
  have gt:∀n,b≠s1.heap.objs.size+n:=fun n=>Nat.ne_of_lt (Nat.lt_of_lt_of_le hb (Nat.le_add_right _ _))
  exact hk2 b o (fun z=>z.elim (gt 4) fun z=>z.elim (gt 3) fun z=>z.elim (gt 0) (gt 1)) (hk b o e)
 have I2:Inv X pins σ H1 { s1 with heap:=h2,toks:=tk }:=I1.kept old
 have hab:∀a∈as,s1.heap.objs.size≤a:=fun a ha=>Nat.le_of_lt (Nat.lt_of_le_of_lt hSz (above a ha))
 have nd:as.Nodup:=by
  rw [hacc,List.pairwise_map] at hpw
  exact hpw.imp fun ⟨a,b,e1,e2,h⟩=>by cases e1;cases e2;exact Nat.ne_of_lt h
 have fpOk:∀a,s1.heap.objs.size≤a→FpOk X pins H1 a∧X.s₀.heap.objs.size≤a:=fun a ha=>⟨I1.fpOk ha (I1.hok.fresh ha),Nat.le_trans I1.sz ha⟩
 have hal:as.length=min xs.length ys.length:=by
  have z:acc.toList.length=as.length:=by rw [hacc,List.length_map]
  simp at z hsz2
  (first|lia|omega)
 obtain ⟨H',I',sm,same,all⟩:=I2.adoptAll as ((xs.zip ys).map fun q=>[q.1,q.2]) nd (by rw [List.length_map,List.length_zip]; (first|lia|omega)) (fun a ha=>fpOk a (hab a ha)) (fun j a pp h1 h2'=>by
  refine Elim.el (at_as j a h1) _ ?_
  rintro x y _ g1 g2 g3
  refine Elim.el (vals_at rv1 g1) _ ?_
  rintro vx gx rx
  refine Elim.el (vals_at rv2 g2) _ ?_
  rintro vy gy ry
  have z:=zip_pairs j vx vy gx gy
  rw [z] at h2';cases h2'
  exact ⟨by show 2≤sizeLine;decide,[x,y], .cons rx (.cons ry .nil),⟨_,g3,rfl,_,rfl⟩⟩)
 have hSn:h'.objs.size ∉ as:=fun hm=>Nat.lt_irrefl _ (above _ hm)
 have hS1:H1 h'.objs.size=none:=I1.hok.fresh hSz
 obtain ⟨fS,sS⟩:=fpOk h'.objs.size hSz
 have fS':FpOk X pins H' h'.objs.size:=⟨by rw [same _ hSn];exact hS1,fS.2⟩
 have I3:=I'.adopt (T:=h'.objs.size) (o := .lst (as.map V.ref)) fS' sS ⟨by rw [List.length_map]; (first|lia|omega),acc.toList,c,by
  rw [hacc]
  clear hS2 hacc all same I' sm hab nd hal hSn above at_as
  induction as with
  | nil=>exact .nil
  | cons a r ih=>exact .cons rfl ih,by simpa using hS2⟩
 refine ⟨.ref h'.objs.size,_,I3,rfl,q _ _ as (fun b o e => ?_) hS1 upd_same hal fun j a x y h1 h2' h3'=>⟨(fpOk a (hab a (List.mem_of_getElem? h1))).1.1,?_⟩⟩
 ·rw [upd_ne (ne_of_none e hS1)];exact sm b o e
 ·rw [upd_ne (fun (z:a=h'.objs.size)=>hSn (by rw [←z];exact List.mem_of_getElem? h1))]
  exact all j a [x,y] h1 (zip_pairs j x y h2' h3')
end
end L2
namespace L2
open PySem PySem.Spec PyProof.Rows
structure New (H:Hp) (p:Addr) (o:HO) (H':Hp):Prop where
 nn:H p=none
 eq:H'=upd H p o
theorem New.at {H H':Hp} {p:Addr} {o:HO} (n:New H p o H'):H' p=some o:=by rw [n.eq];exact upd_same
theorem New.ne {H H':Hp} {p a:Addr} {o:HO} (n:New H p o H') (h:a≠p):H' a=H a:=by rw [n.eq];exact upd_ne h
theorem New.same {H H':Hp} {p:Addr} {o:HO} (n:New H p o H'):Same H H':=fun a u e=>by rw [n.ne (ne_of_none e n.nn)];exact e
theorem New.back {H H':Hp} {p a:Addr} {o:HO} (n:New H p o H') (h:H' a=none):H a=none:=by
 cases e:H a with
 | none=>rfl
 | some u=>rw [n.same a u e] at h;cases h
structure Chg (H:Hp) (p:Addr) (o:HO) (H':Hp):Prop where
 eq:H'=upd H p o
theorem Chg.at {H H':Hp} {p:Addr} {o:HO} (n:Chg H p o H'):H' p=some o:=by rw [n.eq];exact upd_same
theorem Chg.ne {H H':Hp} {p a:Addr} {o:HO} (n:Chg H p o H') (h:a≠p):H' a=H a:=by rw [n.eq];exact upd_ne h
theorem new_all {H:Hp} {o:HO} {F:Addr→Hp→Prop} : (∀p,H p=none→F p (upd H p o)) = ∀p H',New H p o H'→F p H':=
 propext ⟨fun h p H' n=>by rw [n.eq];exact h p n.nn,fun h p hp=>h p _ ⟨hp,rfl⟩⟩
theorem chg_all {H:Hp} {p:Addr} {o:HO} {F:Hp→Prop} : F (upd H p o) = ∀H',Chg H p o H'→F H':=
 propext ⟨fun h H' n=>by rw [n.eq];exact h,fun h=>h _ ⟨rfl⟩⟩
section
variable {X:Cx} {pos:Pos} {es:List Expr} {t:TA}
noncomputable def tTupN (t:TA):TE:=fun σ H Q=>t σ H fun xs H1=>xs.length≤sizeLine∧∀p H',New H1 p (.tup xs) H'→Q (.ref p) H'
noncomputable def tLstN (t:TA):TE:=fun σ H Q=>t σ H fun xs H1=>xs.length≤sizeLine∧∀p H',New H1 p (.lst xs) H'→Q (.ref p) H'
theorem tupN {x1} (h:PA X es t):PE X (.Tuple es x1 pos) (tTupN t):=by
 have e:tTupN t=tTup t:=by
  funext σ H Q
  show t σ H _=t σ H _
  congr 1;funext xs H1
  exact congrArg (_ ∧ ·) (new_all (F:=fun p H'=>Q (.ref p) H')).symm
 rw [e];exact pe_tup h
theorem lstN (h:PA X es t):PE X (.List es pos) (tLstN t):=by
 have e:tLstN t=tLst t:=by
  funext σ H Q
  show t σ H _=t σ H _
  congr 1;funext xs H1
  exact congrArg (_ ∧ ·) (new_all (F:=fun p H'=>Q (.ref p) H')).symm
 rw [e];exact pe_lst h
noncomputable def tDispN (trs:List (TE×TE)):TE:=fun σ H Q=>∀p H0,New H p (.dK []) H0→tPairs trs σ H0 fun ps H2=>H2 p=some (.dK [])∧∃kvs:List (Key×V),ps=kvs.map (fun kv=>(kV kv.1,kv.2))∧kvs.length≤15∧∀H3,Chg H2 p (.dK (mergeK [] kvs)) H3→Q (.ref p) H3
theorem dispN {keys:List (Option Expr)} {values:List Expr} {trs:List (TE×TE)} (h:PPs X pos keys values trs) (hall:keys.all (·.isSome)=true) (hl:keys.length=values.length) (h0:keys≠[])
  (h15:keys.length≤15):PE X (.Dict keys values pos) (tDispN trs):=by
 have e:tDispN trs=tDisp trs:=by
  funext σ H Q
  unfold tDispN tDisp
  rw [new_all (F:=fun p H0=>tPairs trs σ H0 fun ps H2=>H2 p=some (.dK [])∧∃kvs:List (Key×V),ps=kvs.map (fun kv=>(kV kv.1,kv.2))∧kvs.length≤15∧Q (.ref p) (upd H2 p (.dK (mergeK [] kvs))))]
  simp only [←chg_all (F:=fun H3=>Q (.ref _) H3)]
 rw [e];exact pe_disp h hall hl h0 h15
end
section
variable {X:Cx} (K:PySem.W.Frag)
noncomputable def rSlN (K:PySem.W.Frag):V→Option Int→Option Int→Hp→VK→Prop:=fun x lo hi H Q=>(Ex2 fun a xs=>x = .ref a∧SqL K H a xs∧∀p H',New H p (.lst (cutV xs lo hi)) H'→Q (.ref p) H')∨(∃z,x = .str z∧z.length≤sizeLine∧Q (.str (Txt.slice z lo hi)) H)
theorem slN (hK:X.K=K:=by rfl):SlR X (rSlN K):=by
 subst hK
 intro pins s σ H x v vl vu lo hi sl Q I rx hs pl pu q
 refine g_sl s σ H x v vl vu lo hi sl Q I rx hs pl pu ?_
 rcases q with ⟨a,xs,e,h,q⟩|q
 ·exact .inl ⟨a,xs,e,h,fun p hp=>q p _ ⟨hp,rfl⟩⟩
 ·exact .inr q
theorem listN (hK:X.K=K:=by rfl):CallR X (.type "list") (fun xs H Q=>∃p ys,xs=[.ref p]∧(SqL K H p ys∨SqT K H p ys)∧∀l H',New H l (.lst ys) H'→Q (.ref l) H'):=by
 subst hK
 intro pins s σ H xs us Q I r h
 refine Elim.el (h) _ ?_
 rintro p ys e h q
 exact call_list_of s σ H xs us Q I r ⟨p,ys,e,h,fun l hl=>q l _ ⟨hl,rfl⟩⟩
end
section
variable {X:Cx}
noncomputable def rAddN:R2:=fun x y H Q=>(Ex2 fun i j=>x = .int i∧y = .int j∧Q (.int (i+j)) H)∨(∃i j,x = .str i∧y = .str j∧i.length+j.length≤sizeLine∧Q (.str (i++j)) H) ∨
 Ex4 fun l b xs zs=>x = .ref l∧y = .ref b∧H l=some (.lst xs)∧H b=some (.lst zs)∧xs.length+zs.length≤sizeLine∧∀p H',New H p (.lst (xs++zs)) H'→Q (.ref p) H'
theorem addN:OpR X (binaryOp .Add) rAddN:=by
 intro pins s σ H x y v u Q I rx ry h
 refine g_add s σ H x y v u Q I rx ry ?_
 rcases h with h|h|⟨l,b,xs,zs,e1,e2,h1,h2,h3,q⟩
 ·exact .inl h
 ·exact .inr (.inl h)
 ·exact .inr (.inr ⟨l,b,xs,zs,e1,e2,h1,h2,h3,fun p hp=>q p _ ⟨hp,rfl⟩⟩)
noncomputable def rMulN:R2:=fun x y H Q=>(Ex2 fun i j=>x = .int i∧y = .int j∧CMul i j∧Q (.int (i*j)) H) ∨
 Ex3 fun l k xs=>x = .ref l∧y = .int k∧H l=some (.lst xs) ∧ -(2 ^ 63)≤k∧k<2 ^ 63∧xs.length*k.toNat≤sizeLine∧∀p H',New H p (.lst (List.replicate k.toNat xs).flatten) H'→Q (.ref p) H'
theorem mulN:OpR X (binaryOp .Mult) rMulN:=by
 intro pins s σ H x y v u Q I rx ry h
 refine g_mul s σ H x y v u Q I rx ry ?_
 rcases h with h|⟨l,k,xs,e1,e2,h1,h2,h3,h4,q⟩
 ·exact .inl h
 ·exact .inr ⟨l,k,xs,e1,e2,h1,h2,h3,h4,fun p hp=>q p _ ⟨hp,rfl⟩⟩
theorem divmodN:CallR X (.builtin "divmod") (fun xs H Q=>∃i j,xs=[.int i, .int j]∧CDiv i j∧∀p H',New H p (.tup [.int (i / j), .int (i % j)]) H'→Q (.ref p) H'):=by
 intro pins s σ H xs us Q I r h
 refine Elim.el (h) _ ?_
 rintro i j e c q
 exact call_divmod s σ H xs us Q I r ⟨i,j,e,c,fun p hp=>q p _ ⟨hp,rfl⟩⟩
theorem appendN:MtM X "list.append" (fun x vs H Q=>∃l xs y,x = .ref l∧vs=[y]∧H l=some (.lst xs)∧xs.length<sizeLine∧∀H',Chg H l (.lst (xs++[y])) H'→Q .non H'):=by
 intro pins s σ H x xs v us Q I rx rv h
 refine Elim.el (h) _ ?_
 rintro l ys y e1 e2 h1 h2 q
 exact mt_append s σ H x xs v us Q I rx rv ⟨l,ys,y,e1,e2,h1,h2,q _ ⟨rfl⟩⟩
theorem extendN:MtM X "list.extend" (fun x vs H Q=>∃l b xs zs,x = .ref l∧vs=[.ref b]∧H l=some (.lst xs)∧H b=some (.lst zs)∧xs.length+zs.length≤sizeLine∧∀H',Chg H l (.lst (xs++zs)) H'→Q .non H'):=by
 intro pins s σ H x xs v us Q I rx rv h
 refine Elim.el (h) _ ?_
 rintro l b ys zs e1 e2 h1 h2 h3 q
 exact mt_extend s σ H x xs v us Q I rx rv ⟨l,b,ys,zs,e1,e2,h1,h2,h3,q _ ⟨rfl⟩⟩
theorem popN:MtM X "list.pop" (fun x vs H Q=>∃l xs y,x = .ref l∧vs=[]∧H l=some (.lst xs)∧xs[xs.length-1]? = some y∧∀H',Chg H l (.lst xs.dropLast) H'→Q y H'):=by
 intro pins s σ H x xs v us Q I rx rv h
 refine Elim.el (h) _ ?_
 rintro l ys y e1 e2 h1 h2 q
 exact mt_pop s σ H x xs v us Q I rx rv ⟨l,ys,y,e1,e2,h1,h2,q _ ⟨rfl⟩⟩
theorem popAtN:MtM X "list.pop" (fun x vs H Q=>∃l xs i y,x = .ref l∧vs=[.int i]∧H l=some (.lst xs)∧0≤i∧i<2 ^ 63∧xs[i.toNat]? = some y∧∀H',Chg H l (.lst (xs.eraseIdx i.toNat)) H'→Q y H'):=by
 intro pins s σ H x xs v us Q I rx rv h
 refine Elim.el (h) _ ?_
 rintro l ys i y e1 e2 h1 h2 h3 h4 q
 refine mt_popAt s σ H x xs v us Q I rx rv ⟨l,ys,i,i.toNat,y,e1,e2,h1,by first|lia|omega,h3,?_,h4,q _ ⟨rfl⟩⟩
 have hl:=(List.getElem?_eq_some_iff.mp h4).1
 have q:atI ys ((i.toNat:Nat):Int)=some y:=atI_nat h4
 have ei:((i.toNat:Nat):Int)=i:=by omega
 rw [ei] at q
 obtain ⟨j,hj,hj2,_⟩:=atI_get q
 have:ixN ys.length i=some i.toNat:=by unfold ixN;rw [if_pos h2,if_pos (by first|lia|omega)]
 exact (ixN_seq this).1
end
theorem comp_goN {J:It} {n:Nat} {js:List Nat} {g:TG} {tc:TT} {te:TE} {σ:St} {H1:Hp} {Q:V→Hp→Prop} (N:Nat) (Pv:Nat→List V→Hp→Prop) (h0:Pv 0 [] H1)
  (go:∀i ys H (Nx:List V→Hp→Prop),i<N→Pv i ys H→(∀ys' H',Pv (i+1) ys' H'→Nx ys' H')→J.go i H∧ys.length<sizeLine ∧
   ∀x H',J.yld i H x H'→g x (List.replicate n none++cvals σ js) H' fun σ2 H2=>tc σ2 H2 fun b H3=>if b=true then te σ2 H3 fun y H4=>Nx (ys++[y]) H4 else Nx ys H3)
  (stop:∀ys H,Pv N ys H→J.stop N H∧∀p H',New H p (.lst ys) H'→Q (.ref p) H'):CompW J n js g tc te σ H1 fun ys H2=>∀p,H2 p=none→Q (.ref p) (upd H2 p (.lst ys)):=
 comp_go N Pv h0 go fun ys H h=>⟨(stop ys H h).1,fun p hp=>(stop ys H h).2 p _ ⟨hp,rfl⟩⟩
theorem at_nat {α:Type} {xs:List α} {i:Int} {v : α} (h0:0≤i) (h:xs[i.toNat]? = some v):atI xs i=some v:=by
 have q:=atI_nat h
 have e:((i.toNat:Nat):Int)=i:=by (first|lia|omega)
 rw [e] at q
 exact q
end L2
namespace L2
open PySem PySem.Spec PyProof.Rows
noncomputable def tyD:PyData→String
 | .none => "NoneType"
 | .bool _ => "bool"
 | .int _ => "int"
 | .str _ => "str"
 | .list _ => "list"
 | .tuple _ => "tuple"
 | .dict _ => "dict"
noncomputable def isD (d:PyData) (T:String):Bool:=tyD d == T||(tyD d == "bool" && T == "int")
theorem kitT (K:PySem.W.Frag) (d:PyData):PySem.W.kitOne K (.type (tyD d)) (.type "bool")=some (isD d "bool")∧PySem.W.kitOne K (.type (tyD d)) (.type "int")=some (isD d "int")∧PySem.W.kitOne K (.type (tyD d)) (.type "str")=some (isD d "str") ∧
  PySem.W.kitOne K (.type (tyD d)) (.type "list")=some (isD d "list")∧PySem.W.kitOne K (.type (tyD d)) (.type "tuple")=some (isD d "tuple"):=by
 cases d <;> exact ⟨rfl,rfl,rfl,rfl,rfl⟩
section
variable {X:Cx}
theorem den_kit {pins:List (Addr×Obj)} {σ:St} {H:Hp} {s:Shared} {x:V} {u:Value} {d:PyData} (I:Inv X pins σ H s) (rx:RelV x u) (h:Den X.K H d x):∃HH:Heap→Prop,PySem.W.KitX X.K u (.type (tyD d)) HH∧HH s.heap∧u ≠ .builtin "__main__.__loader__#opaque":=by
 cases d with
 | none=>unfold Den at h;subst h;cases rx;exact ⟨_,PySem.W.kitx_none,True.intro,fun z=>nomatch z⟩
 | bool b=>unfold Den at h;subst h;cases rx;exact ⟨_,PySem.W.kitx_bool,True.intro,fun z=>nomatch z⟩
 | int i=>unfold Den at h;subst h;obtain ⟨t,rfl⟩:=rx;exact ⟨_,PySem.W.kitx_int,True.intro,fun z=>nomatch z⟩
 | str y=>unfold Den at h;subst h;obtain ⟨t,rfl⟩:=rx;exact ⟨_,PySem.W.kitx_str,True.intro,fun z=>nomatch z⟩
 | list ds=>
  unfold Den at h
  refine Elim.el (h) _ ?_
  rintro a vs rfl h2 _
  cases rx
  obtain ⟨its,_,⟨o,n,e1,e2,_⟩,_⟩:=I.list h2
  exact ⟨_,PySem.W.kitx_list,⟨o,e1,e2⟩,fun z=>nomatch z⟩
 | tuple ds=>
  unfold Den at h
  refine Elim.el (h) _ ?_
  rintro a vs rfl h2 _
  cases rx
  obtain ⟨its,_,⟨o,e1,e2,_⟩,_⟩:=I.tuple h2
  exact ⟨_,PySem.W.kitx_tuple,⟨o,e1,e2⟩,fun z=>nomatch z⟩
 | dict _=>unfold Den at h;exact h.elim
theorem call_isiD:CallR X (.builtin "isinstance") (fun xs H Q=>∃(x:V) (T:String) (d:PyData) (b:Bool),xs=[x, .ty T]∧Den X.K H d x∧PySem.W.kitOne X.K (.type (tyD d)) (.type T)=some b∧Q (.bl b) H):=by
 intro pins s σ H xs us Q I r h
 refine Elim.el (h) _ ?_
 rintro x T d b rfl hd e q
 refine Elim.el (vals2 r) _ ?_
 rintro u w' rfl r1 r2
 cases r2
 refine Elim.el (den_kit I r1 hd) _ ?_
 rintro HH Z hh hx
 exact PySem.W.kia_one Z I.kIn hh e hx fun tk=>⟨.bl b,H,I.tok _,rfl,q⟩
noncomputable def rIsi (K:PySem.W.Frag):List V→Hp→VK→Prop:=fun xs H Q=>(∃(x:V) (T:String) (d:PyData) (b:Bool),xs=[x, .ty T]∧Den K H d x∧PySem.W.kitOne K (.type (tyD d)) (.type T)=some b∧Q (.bl b) H) ∨
 ∃x T t b,xs=[x, .ty T]∧TyOf K H x t∧PySem.W.kitOne K t (.type T)=some b∧Q (.bl b) H
theorem isiK (K:PySem.W.Frag) (hK:X.K=K:=by rfl):CallR X (.builtin "isinstance") (rIsi K):=by subst hK;exact call_isiD.or call_isi
end
end L2
namespace L2
open PySem PySem.Spec PyProof.Rows
section
variable {prog:Program} {w:World} {A:Around} {E:Value→Shared→Prop} {s:Shared} {k:Bool} {it a:Addr} {i:Nat} {its:Array Value}
end
section
variable {prog:Program} {w:World} {A:Around} {E:Value→Shared→Prop} {s:Shared} {k1 k2:Bool} {z TI TO i1 i2 l1 l2:Addr} {i:Nat} {xs ys:Array Value}
end
end L2
namespace L2
open PySem PySem.Spec PyProof.Rows
section
variable {prog:Program} {w:World} {A:Around} {E:Value→Shared→Prop} {s:Shared}
end
section
variable {X:Cx}
end
end L2
namespace L2
open PySem PySem.Spec PyProof.Rows
section
variable {X:Cx}
end
section
variable {X:Cx} {tg:Expr}
end
theorem fm_map {α β:Type} {f : α→Option β} {g : α → β} : ∀{l:List α},(∀k∈l,f k=some (g k))→l.filterMap f=l.map g
 | [],_=>rfl
 | a :: l,h=>by
  rw [List.filterMap_cons_some (h a List.mem_cons_self),List.map_cons,fm_map fun k hk=>h k (List.mem_cons_of_mem _ hk)]
section
variable {X:Cx} {e:Expr} {te:TE} {pos p2 p3 p4:Pos} {j:Nat}
theorem Vals.rev:∀{xs:List V} {us:List Value},Vals xs us→Vals xs.reverse us.reverse
 | _,_, .nil => .nil
 | _,_, .cons r t=>by
  rw [List.reverse_cons,List.reverse_cons]
  exact (Vals.rev t).append (.cons r .nil)
end
end L2
namespace L2
open PySem PySem.Spec PyProof.Rows
section
variable {prog:Program} {w:World} {A:Around} {R:Result→Shared→Prop} {I S:Addr} {fp wr:List Addr} {n:Nat} {P:Nat→Value→Prop} {St:Nat→Heap→Prop}
end
section
variable {X:Cx} (K:PySem.W.Frag)
end
end L2
namespace L2
open PySem
section
variable {X:Cx} (K:PySem.W.Frag)
theorem inK (hK:X.K=K:=by rfl):OpR X (compareOp .In) (rIn K false):=by subst hK;exact op_in_seq
theorem notInK (hK:X.K=K:=by rfl):OpR X (compareOp .NotIn) (rIn K true):=by subst hK;exact op_notIn_seq
theorem enumK {elts:List Expr} {k:Nat} {tp:Pos} {a:Expr} {ta:TA} {p pos:Pos} (hg:Gl X "enumerate") (hm:X.mg "enumerate" = none) (ha:PA X [a] ta) (hb:bootBuiltins "enumerate" = some (.type "enumerate"):=by first|rfl|decide) (hs:starEach [a] X.env=[(false,eval a X.env)]:=by rfl) (hK:X.K=K:=by rfl) :
  PI X (.Tuple elts k tp) (.Call (.Name "enumerate" p) [a] [] pos) (iEnum K ta):=by subst hK;exact pi_enum hg hm ha hb hs
end
end L2
namespace L2
open PySem PySem.Spec PyProof.Rows
section
variable {prog:Program} {w:World} {A:Around} {R:Result→Shared→Prop} {s:Shared}
theorem dcomp_turns {kx vx target iter:Expr} {ifs:List Expr} {scope:Scope} {pos:Pos} {it:Value} {D:Addr} {env:Env} (I:Nat→Shared→Prop)
  (turn:∀n s,I n s→wpAny (model prog w) A (pyNext it) (fun r s1=>match r with
   | none=>R (.ok .next) s1
   | some v=>wpAny (model prog w) A (letOwnedTupleGo target it v) (fun _ s1'=>wpAny (model prog w) A (assign target env v) (fun _ s2=>
     wpAny (model prog w) A (testsOf ifs env) (fun ok s3=>
      if ok=true then wpAny (model prog w) A (eval kx env) (fun kv s4=>wpAny (model prog w) A (eval vx env) (fun vv s5=>
       wpAny (model prog w) A (dictSet D kv vv) (fun _ s6=>∃m,m<n∧I m s6) noE s5) noE s4) noE s3
      else ∃m,m<n∧I m s3) noE s2) noE s1') noE s1) noE s)
  (n:Nat) (h:I n s):codeAny (model prog w) A (.compLoop (.DictComp kx vx [⟨target,iter,ifs,0⟩] scope pos) 0 it (.ref D) env) R s:=by
 refine codeAny_loop rfl I (fun n s hI=>(show wpAny _ A (Sem.onRaise (compTurn (.DictComp kx vx [⟨target,iter,ifs,0⟩] scope pos) 0 it (.ref D) env) (fun x=>do noteFrame x env;theTreesLotGoes x)) _ _ s from wpAny_noted ?_)) n h
 rw [compTurn_dict]
 refine wpAny_bind (wpAny_standAt (wpAny_bind (noE_to (thn (turn n s hI) fun r s1 h1 => ?_))))
 cases r with
 | none=>exact wpAny_pure h1
 | some v=>
  refine wpAny_bind (noE_to (thn h1 fun _ s1' h1' => ?_))
  refine wpAny_bind (noE_to (thn h1' fun _ s2 h2=>wpAny_bind (noE_to (thn h2 fun ok s3 h3 => ?_))))
  cases ok with
  | false=>exact wpAny_pure ⟨rfl,h3⟩
  | true=>
   exact wpAny_bind (wpAny_bind (noE_to (thn h3 fun kv s4 h4=>wpAny_bind (wpAny_holding (noE_to (thn h4 fun vv s5 h5=>wpAny_bind (wpAny_standAt (wpAny_holding (noE_to (thn h5 fun _ s6 h6=>wpAny_pure ⟨rfl,h6⟩))))))))))
end
section
variable {X:Cx} {pins:List (Addr×Obj)} {σ:St} {H:Hp} {s:Shared} {a:Addr} {y v:V} {u r:Value} {A:Around} {E:Value→Shared→Prop}
theorem d_dictSet {kvs:List (Key×V)} {k:Key} {Q:Unit→Shared→Prop} (I:Inv X pins σ H s) (e:H a=some (.dK kvs)) (l:kvs.length<sizeLine) (ry:RelV (kV k) u) (rv:RelV v r)
  (h:∀s',Inv X pins σ (upd H a (.dK (putK kvs k v))) s'→Q () s'):wpAny (model X.prog X.w) A (dictSet a u r) Q E s:=by
 refine Elim.el (dk_of I.hok e) _ ?_
 rintro z hd vs rel dd
 have hz:vs.length≤sizeLine:=by rw [←rel.length];exact z
 have hl:(putK kvs k v).length≤sizeLine:=by have:=length_putK kvs k v; (first|lia|omega)
 refine wpAny_dictSet_pairs (hsz:=hz) (kV_is ry) dd fun h' dd' hs=>h _ ?_
 have he:∃q,h'.get? a=some q:=let ⟨q,_,_,hq,_⟩:=dd'; ⟨q,hq⟩
 exact d_write I (by rw [e];exact True.intro) hs he (dk_new hl hd (rel.put k rv) dd')
end
section
variable {X:Cx} {pins:List (Addr×Obj)} {σ:St} {H:Hp} {s:Shared} {scope:Scope} {Nc Fc:List Str} {js:List Nat} {cl:List (Str×Addr)} {C:Addr} {fp:List Addr}
theorem cxC_inv0 (I:Inv X pins σ H s) (c:CompOk X scope Nc Fc js) (hsub:∀n c,cl.lookup n=some c→X.env.cells.lookup n=some c) (hhas:∀y∈scope.names,y.2 = .free→∃c,cl.lookup y.1=some c)
  (hC:s.heap.objs.size≤C) (hf:∀b∈fp,FpOk X pins H b) (ho:∀b∈fp,∃o,s.heap.get? b=some o) {h1:Heap} {t1:Nat} {m:Str→Option Value}
  (hk:∀b o,s.heap.get? b=some o→h1.get? b=some o) (hm:h1.Ns C m) :
  Inv (cxC X Nc Fc scope cl C s H fp) [] (List.replicate Nc.length none++cvals σ js) H { s with heap:=h1,toks:=t1 }:=by
 refine ⟨cxC_ok I c hsub hhas hC hf ho,rfl,I.bare,Un.kept hk,⟨m,hm,fun i x v e1 e2 e3 => ?_⟩,fun x a e => ?_,I.hok.fresh hC,fun x a e=>I.freeC x a (hsub x a e),fun p hp => ?_,I.hok.kept hk,?_⟩
 ·have e1:(Nc++Fc)[i]? = some x:=e1
  have e2:(List.replicate Nc.length none++cvals σ js)[i]? = some (some v):=e2
  by_cases hi:i<Nc.length
  ·rw [List.getElem?_append_left (by simpa using hi),List.getElem?_replicate] at e2
   split at e2 <;> cases e2
  ·rw [List.getElem?_append_right (by first|lia|omega)] at e1
   rw [List.getElem?_append_right (by rw [List.length_replicate]; (first|lia|omega)),List.length_replicate] at e2
   refine Elim.el (c.frees _ _ e1) _ ?_
   rintro hfr j hj hN
   have hv : σ[j]? = some (some v):=by
    unfold cvals at e2
    rw [List.getElem?_map,hj] at e2
    have e2:some ((σ[j]?).join)=some (some v):=e2
    cases q : σ[j]? with
    | none=>rw [q] at e2;cases e2
    | some z=>rw [q] at e2;cases e2;rfl
   have kx:=c.free _ (mem_of_lookup' hfr) rfl
   refine Elim.el (I.loc) _ ?_
   rintro m0 hn0 hl0
   have vis:Vis X.env.scope x:=by
    rcases kx with k|k
    ·exact .inr (.inl k)
    ·exact .inr (.inr k)
   refine Elim.el (hl0 j x v hN hv vis) _ ?_
   rintro u ru lk
   refine ⟨u,ru, .inr ⟨?_,?_⟩⟩
   ·rw [cxC_kind];exact relabel_of_free hfr
   ·obtain ⟨a,ha⟩:=hhas _ (mem_of_lookup' hfr) rfl
    refine ⟨a,ha,?_⟩
    rcases lk with ⟨k,_⟩|⟨_,a',ha',hcell⟩
    ·rcases kx with q|q <;> (rw [k] at q;cases q)
    ·have e:=hsub _ _ ha
     dsimp only at e
     rw [ha'] at e;cases e
     exact hcell.keeps hk
 ·obtain ⟨v,z⟩:=I.cell x a (hsub x a e)
  exact ⟨v,z.keeps hk⟩
 ·have hp:p∈([]:List (Addr×Obj)):=hp
  cases hp
 ·show (List.replicate Nc.length none++cvals σ js).length=(Nc++Fc).length
  unfold cvals
  rw [List.length_append,List.length_append,List.length_replicate,List.length_map,c.lens]
end
noncomputable def CompD (J:It) (n:Nat) (js:List Nat) (g:TG) (tc:TT) (tk tv:TE) (σ:St) (D:Addr) (H1:Hp) (fin:Hp→Prop):Prop:=
 ∃W:Nat→Nat→Hp→Prop,(∃m,W 0 m H1)∧∀i m H,W i m H →
  (J.stop i H∧fin H) ∨
  (J.go i H∧∀x H',J.yld i H x H'→g x (List.replicate n none++cvals σ js) H' fun σ2 H2=>tc σ2 H2 fun b H3=>
   if b=true then tk σ2 H3 fun y H4=>tv σ2 H4 fun z H5=>Ex2 fun kvs k=>H5 D=some (.dK kvs)∧y=kV k∧kvs.length<sizeLine∧∃m',m'<m∧W (i+1) m' (upd H5 D (.dK (putK kvs k z))) else ∃m',m'<m∧W (i+1) m' H3)
noncomputable def tDComp (wi:TI) (n:Nat) (js:List Nat) (g:TG) (tc:TT) (tk tv:TE):TE:=fun σ H Q=>wi σ H fun J H1=>∀D,H1 D=none→CompD J n js g tc tk tv σ D (upd H1 D (.dK [])) fun H2=>Q (.ref D) H2
theorem dcomp_core {X:Cx} {kx vx tg iter:Expr} {ifs:List Expr} {scope:Scope} {pos:Pos} {Nc Fc:List Str} {js:List Nat} {wi:TI} {g:TG} {tc:TT} {tk tv:TE} {use:Option (Value→Sem Unit)} {QV:Value→Shared→Prop}
  (hcalm:X.calm=true) (c:CompOk X scope Nc Fc js) (hi:PI X tg iter wi)
  (hg:∀cl C s H fp,PG (cxC X Nc Fc scope cl C s H fp) tg g) (htc:∀cl C s H fp,PTs (cxC X Nc Fc scope cl C s H fp) ifs tc) (htk:∀cl C s H fp,PE (cxC X Nc Fc scope cl C s H fp) kx tk) (htv:∀cl C s H fp,PE (cxC X Nc Fc scope cl C s H fp) vx tv) (gk:Gk Nc.length g)
  {pins:List (Addr×Obj)} {s:Shared} {σ:St} {H:Hp} {fin:Addr→Hp→Prop} (I:Inv X pins σ H s)
  (h:wi σ H fun J H1=>∀D,H1 D=none→CompD J Nc.length js g tc tk tv σ D (upd H1 D (.dK [])) (fin D))
  (behind:∀(C D:Addr) (m:Str→Option Value) (H2:Hp) (s2:Shared),Inv X pins σ H2 s2→s2.heap.Ns C m→FpOk X pins H2 C→fin D H2→compPost (model X.prog X.w) X.A X.xe use QV (.ref D) C (.ok .next) s2)
  (hs:∀x,foldedSetIterable iter X.env x=pure x) :
  wpAny (model X.prog X.w) X.A (comprehension (.DictComp kx vx [⟨tg,iter,ifs,0⟩] scope pos) scope X.env (firstIterPos [⟨tg,iter,ifs,0⟩] pos) newDict false (eval iter X.env) use) QV X.xe s:=by
 obtain ⟨cl,hclos,hsub,hhas⟩:=closure_of (scope:=scope) (env:=X.env) fun y hy hf=>I.ok.has y.1 (c.free y hy hf)
 refine wpAny_comprehension_free (use:=use) rfl hs hclos c.kind c.names ?_
 refine thn (hi s σ H _ I h) fun v s1 h1=>thn h1 fun itv s2 h2 => ?_
 obtain ⟨it,fp,tn,J,H2,e,I2,T,st2,f2,all⟩:=h2
 subst e
 refine wpAny_newObj_type (wpAny_newFunctionEnv c.nocell (by intro y hy;simp at hy) (fun h1 hns1 hsb1 => ?_) c.kind)
 dsimp only at hns1 hsb1 ⊢
 have hDn:H2 s2.heap.objs.size=none:=I2.hok.fresh (Nat.le_refl _)
 have I2':=I2.laid (a:=s2.heap.objs.size) (o := .dK []) (h':=s2.heap.push { cls := .type "dict",data := .dict #[] }) (t':=s2.toks) (fun _ _ q=>Heap.get?_push_of_some _ q) (Nat.le_refl _) (dk_empty s2.heap I2.big)
 obtain ⟨W,⟨m0,w0⟩,turn⟩:=all _ hDn
 have fo2:∀b∈fp,∃o,s2.heap.get? b=some o:=fun b hb=>let ⟨o,e,_⟩:=T.obj 0 _ st2 b hb; ⟨o,e⟩
 have hDfp:∀b∈fp,b<s2.heap.objs.size:=fun b hb=>let ⟨o,e⟩:=fo2 b hb;Heap.lt_size e
 generalize hG:s2.heap.push { cls := .type "dict",dict:=none,data := .dict #[] } = G at hns1 hsb1 I2' ⊢
 have toG:∀b o,s2.heap.get? b=some o→G.get? b=some o:=fun b o e=>hG ▸ Heap.get?_push_of_some _ e
 have hC:G.objs.size=s2.heap.objs.size+1:=by rw [←hG,Heap.size_push]
 have old:∀b o,G.get? b=some o→h1.get? b=some o:=fun b o e=>
  hsb1.extBut b o (addr_ne (Heap.lt_size e) (Nat.le_refl _)) (Heap.get?_push_of_some _ e)
 let D:Addr:=s2.heap.objs.size
 let s2':Shared:={ s2 with heap:=G,toks:=s2.toks }
 let H2':Hp:=upd H2 D (.dK [])
 have f2':∀b∈fp,FpOk X pins H2' b:=fun b hb=>by
  obtain ⟨a1,a2⟩:=f2 b hb
  refine ⟨?_,a2⟩
  show upd H2 D (.dK []) b=none
  rw [upd_ne (Nat.ne_of_lt (hDfp b hb))];exact a1
 have fo:∀b∈fp,∃o,s2'.heap.get? b=some o:=fun b hb=>let ⟨o,e⟩:=fo2 b hb; ⟨o,toG b o e⟩
 have hfG:∀b∈fp,b<G.objs.size:=fun b hb=>by have:=hDfp b hb;rw [hC];exact Nat.lt_succ_of_lt this
 let Xc:Cx:=cxC X Nc Fc scope cl G.objs.size s2' H2' fp
 have stat:∀{H':Hp},(∀b∈fp,H' b=none)→∀b∈fp,FpOk Xc [] H' b:=fun {H'} hn b hb=>by
  refine ⟨hn b hb,?_,?_, .inl hb,fun x a e => ?_,fun p hq => ?_⟩
  ·exact addr_ne (hfG b hb) (Nat.le_refl _)
  ·exact (cxC_ok I2' c hsub hhas (Nat.le_refl _) f2' fo).exfs b hb
  ·exact (f2 b hb).2.2.2.2.1 x a (hsub _ _ e)
  ·have q:p∈([]:List (Addr×Obj))++[]:=hq
   simp at q
 have loop:∀t1,codeAny (model X.prog X.w) X.A (.compLoop (.DictComp kx vx [⟨tg,iter,ifs,0⟩] scope pos) 0 (.ref it) (.ref s2.heap.objs.size) (compEnvC scope cl G.objs.size X.env))
   (compPost (model X.prog X.w) X.A X.xe use QV (.ref s2.heap.objs.size) G.objs.size) { s2 with heap:=h1,toks:=t1 }:=by
  intro t1
  refine dcomp_turns (fun n s'=>∃i H',Inv Xc [] (List.replicate Nc.length none++cvals σ js) H' s'∧tn i s'.heap∧(∀b∈fp,H' b=none)∧W i n H') ?_ m0
   ⟨0,H2',cxC_inv0 I2' c hsub hhas (Nat.le_refl _) f2' fo old hns1,T.keep _ _ _ st2 (fun b hb o e=>old b o (toG b o e)),fun b hb=>(f2' b hb).1,w0⟩
  intro n s3 hz_
  refine Elim.el hz_ _ ?_
  clear hz_
  rintro i H3 I3 st3 fr3 w3
  rcases turn i n H3 w3 with ⟨stop,qn⟩|⟨go,step⟩
  ·refine thn (T.done Xc rfl rfl rfl hcalm i _ s3 _ H3 noE I3 (stat fr3) st3 stop) fun r s4 ⟨hr,I4⟩ => ?_
   subst hr
   show compPost _ _ _ _ _ _ _ _ _
   refine Elim.el (I4.loc) _ ?_
   rintro mC hmC _
   have hCn:H3 G.objs.size=none:=I4.free
   have u:Un (frs X.stack) fp H2' H3 G s4.heap:=I4.base
   have hch:∀b∈fp,(b∈X.ex∨X.s₀.heap.objs.size≤b)∧b≠X.env.locals∧(∀x c,X.env.cells.lookup x=some c→c≠b)∧∀p∈X.pn++pins,p.1≠b:=fun b hb=>
    ⟨(f2 b hb).2.2.2.1,(f2 b hb).2.1,(f2 b hb).2.2.2.2.1,(f2 b hb).2.2.2.2.2⟩
   have os4:s4.os=s2'.os:=I4.os
   have J4:Inv X pins σ H3 s4:=I2'.call' (H':=H3) os4 u I4.hok I4.bare hch
   exact behind G.objs.size D mC H3 s4 J4 hmC (I2'.fpOk (Nat.le_refl _) hCn) qn
  ·refine thn (T.item Xc rfl rfl rfl hcalm i _ s3 _ H3 noE I3 (stat fr3) st3 go) fun r s4 ⟨u,hr,h4⟩ => ?_
   subst hr
   show wpAny _ _ (letOwnedTupleGo tg (.ref it) u) _ _ _
   refine thn h4 fun _ s5 ⟨x,H5,I5,r5,y5,st5,fr5⟩ => ?_
   have I5':=I5.pinned (stat fr5) (T.obj _ _ st5)
   refine thn (hg cl G.objs.size s2' H2' fp s5 _ H5 x u _ I5' r5 (gk _ _ _ _ (step x H5 y5))) fun _ s6 ⟨σ6,H6,I6,q6,kσ,kl⟩ => ?_
   refine thn (htc cl G.objs.size s2' H2' fp s6 σ6 H6 _ I6 q6) fun b s7 ⟨H7,I7,q7⟩ => ?_
   have later:∀{σ':St} {H':Hp} {s':Shared},Inv Xc ([]++pinsAt fp s5.heap) σ' H' s'→tn (i+1) s'.heap∧∀b∈fp,H' b=none:=fun {σ' H' s'} Iz=>by
    refine ⟨T.keep _ _ _ st5 fun b hb o e=>(Iz.pin (b,o) (List.mem_append_right _ (List.mem_append_right _ (mem_pinsAt hb e)))).1,fun b hb => ?_⟩
    refine Elim.el (T.obj _ _ st5 b hb) _ ?_
    rintro o e d
    exact (Iz.pin (b,o) (List.mem_append_right _ (List.mem_append_right _ (mem_pinsAt hb e)))).2.1
   have back:∀{pl:List (Addr×Obj)} {H':Hp} {s':Shared},Inv Xc pl σ6 H' s'→Inv Xc pl (List.replicate Nc.length none++cvals σ js) H' s':=fun {pl H' s'} Iz=>by
    refine Iz.weak (by rw [←kl]) fun j v hj => ?_
    by_cases hn:j<Nc.length
    ·rw [List.getElem?_append_left (by simpa using hn),List.getElem?_replicate] at hj
     split at hj <;> cases hj
    ·rw [kσ j (by first|lia|omega)];exact hj
   cases b with
   | false=>
    rw [if_neg Bool.false_ne_true] at q7 ⊢
    refine Elim.el (q7) _ ?_
    rintro m' hm' w7
    obtain ⟨l1,l2⟩:=later I7
    exact ⟨m',hm',i+1,H7,back I7.unpinned,l1,l2,w7⟩
   | true=>
    rw [if_pos rfl] at q7 ⊢
    refine thn (htk cl G.objs.size s2' H2' fp s7 σ6 H7 _ I7 q7) fun yv s8 ⟨y,H8,I8,r8,q8⟩ => ?_
    refine thn (htv cl G.objs.size s2' H2' fp s8 σ6 H8 _ I8 q8) fun zv s9 ⟨z,H9,I9,r9,q9⟩ => ?_
    refine Elim.el (q9) _ ?_
    rintro kvs k eD ey hl m' hm' w9
    subst ey
    refine d_dictSet (X:=Xc) I9 eD hl r8 r9 fun s10 I10 => ?_
    obtain ⟨l1,l2⟩:=later I10
    exact ⟨m',hm',i+1,_,back I10.unpinned,l1,l2,w9⟩
 exact codeAny_compStart_dict (loop _) (T.self _ 0 _ _ _ (T.keep _ _ _ st2 fun b hb o e=>old b o (toG b o e)) (loop _))
theorem pe_dcomp {X:Cx} {kx vx tg iter:Expr} {ifs:List Expr} {scope:Scope} {pos:Pos} {Nc Fc:List Str} {js:List Nat} {wi:TI} {g:TG} {tc:TT} {tk tv:TE}
  (hcalm:X.calm=true) (c:CompOk X scope Nc Fc js) (hi:PI X tg iter wi) (gk:Gk Nc.length g)
  (hg:∀cl C s H fp,PG (cxC X Nc Fc scope cl C s H fp) tg g) (htc:∀cl C s H fp,PTs (cxC X Nc Fc scope cl C s H fp) ifs tc) (htk:∀cl C s H fp,PE (cxC X Nc Fc scope cl C s H fp) kx tk) (htv:∀cl C s H fp,PE (cxC X Nc Fc scope cl C s H fp) vx tv)
  (hs:∀x,foldedSetIterable iter X.env x=pure x:=by intro _;rfl) :
  PE X (.DictComp kx vx [⟨tg,iter,ifs,0⟩] scope pos) (tDComp wi Nc.length js g tc tk tv):=by
 intro pins s σ H Q I h
 rw [arm_eval_DictComp]
 refine dcomp_core (use:=none) (fin:=fun D H2=>Q (.ref D) H2) hcalm c hi hg htc htk htv gk I h (fun C D m H2 s2 I2 hm hC q => ?_) hs
 refine ⟨m,hm,fun h' hs' => ?_⟩
 exact ⟨.ref D,_,I2.turned (it:=C) (t':=s2.toks) (fun b o hb e=>hs'.extBut b o hb e) hC.1 (hC.2.1) hC.2.2.2.1 hC.2.2.2.2.1 hC.2.2.2.2.2,rfl,q⟩
end L2
namespace L2
open PySem PySem.Spec PyProof.Rows
section
variable {X:Cx} (K:PySem.W.Frag)
end
end L2
namespace L2
open PySem PySem.Spec PyProof.Rows
section
variable {prog:Program} {w:World} {A:Around} {E:Value→Shared→Prop} {s:Shared} {a₀:Array Keyed} {key:Keyed→Int} {kd:SortKind}
noncomputable def Lts (prog:Program) (w:World) (A:Around) (E:Value→Shared→Prop) (s:Shared) (a₀:Array Keyed) (key:Keyed→Int) (kd:SortKind):Prop:=
 ∀(st:SortSt) (x y:Keyed) (Q:Option Bool→SortSt→Prop),x∈a₀.toList→y∈a₀.toList→kindOf st=kd→Q (some (decide (key x<key y))) st→wpS (model prog w) A E s (lt' x y) Q st
noncomputable def ky (key:Keyed→Int) (xs:Array Keyed) (i:Nat):Int:=match xs[i]? with
 | some p=>key p
 | none=>0
theorem ky_congr {xs ys:Array Keyed} {i j:Nat} (h:xs[i]? = ys[j]?):ky key xs i=ky key ys j:=by unfold ky;rw [h]
theorem ky_of {xs:Array Keyed} {i:Nat} {p:Keyed} (h:xs[i]? = some p):ky key xs i=key p:=by unfold ky;rw [h]
structure Af (a₀:Array Keyed) (kd:SortKind) (lo:Nat) (st0 st:SortSt):Prop where
 perm:(arrOf st).Perm a₀
 kind:kindOf st=kd
 failed:failedOf st=none
 pend:pendingOf st=pendingOf st0
 low:∀i,i<lo→(arrOf st)[i]? = (arrOf st0)[i]?
theorem Af.size {lo:Nat} {st0 st:SortSt} (h:Af a₀ kd lo st0 st):(arrOf st).size=a₀.size:=h.perm.size_eq
theorem Af.set {lo:Nat} {st0 st:SortSt} (h:Af a₀ kd lo st0 st) {xs:Array Keyed} (hp:xs.Perm (arrOf st)) (hl:∀i,i<lo→xs[i]? = (arrOf st)[i]?):Af a₀ kd lo st0 (setArr st xs):=
 ⟨hp.trans h.perm,h.kind,h.failed,h.pend,fun i hi=>(hl i hi).trans (h.low i hi)⟩
theorem mem_at {xs:Array Keyed} (hp:xs.Perm a₀) {i:Nat} {p:Keyed} (h:xs[i]? = some p):p∈a₀.toList:=by
 refine (Array.perm_iff_toList_perm.mp hp).mem_iff.mp ?_
 exact Array.mem_toList_iff.mpr (Array.mem_of_getElem? h)
theorem tm_elem {xs:Array Keyed} {i:Nat} {st:SortSt} {Q:Keyed→SortSt→Prop} (hi:i<xs.size) (h:∀p,xs[i]? = some p→Q p st):wpS (model prog w) A E s (elem' xs i) Q st:=by
 rw [elem'_eq,getElem?_pos xs i hi]
 exact wpS_pure (h _ (getElem?_pos xs i hi))
theorem tm_ltAt {st:SortSt} {i j:Nat} {Q:Option Bool→SortSt→Prop} (hL:Lts prog w A E s a₀ key kd) (hp:(arrOf st).Perm a₀) (hk:kindOf st=kd) (hi:i<a₀.size) (hj:j<a₀.size)
  (h:Q (some (decide (ky key (arrOf st) i<ky key (arrOf st) j))) st):wpS (model prog w) A E s (ltAt' i j) Q st:=by
 rw [ltAt'_eq]
 refine wpS_bind (wpS_get ?_)
 show wpS _ _ _ _ (do let x ←elem' (arrOf st) i;let y ←elem' (arrOf st) j;lt' x y) Q st
 have hs:=hp.size_eq
 refine wpS_bind (tm_elem (by first|lia|omega) fun p e1=>wpS_bind (tm_elem (by first|lia|omega) fun q e2 => ?_))
 refine hL _ _ _ _ (mem_at hp e1) (mem_at hp e2) hk ?_
 rw [ky_of e1,ky_of e2] at h
 exact h
theorem Af.lt {lo:Nat} {st0 st:SortSt} {i j:Nat} {Q:Option Bool→SortSt→Prop} (h:Af a₀ kd lo st0 st) (hL:Lts prog w A E s a₀ key kd) (hi:i<a₀.size) (hj:j<a₀.size)
  (q:Q (some (decide (ky key (arrOf st) i<ky key (arrOf st) j))) st):wpS (model prog w) A E s (ltAt' i j) Q st:=tm_ltAt hL h.perm h.kind hi hj q
noncomputable def Sg (key:Keyed→Int) (xs:Array Keyed) (i j:Nat):Prop:=∀p q,i≤p→p≤q→q<j→ky key xs p≤ky key xs q
noncomputable def Ng (key:Keyed→Int) (xs:Array Keyed) (i j:Nat):Prop:=∀p q,i≤p→p≤q→q<j→ky key xs q≤ky key xs p
theorem ky_mirror {xs:Array Keyed} {i j:Nat} (hj:j≤xs.size) (k:Nat) :
  ky key (mirror xs i j ((j-i) / 2)) k=if i≤k∧k<j then ky key xs (i+j-1-k) else ky key xs k:=by
 have e:=getElem?_mirror_all (i:=i) hj k
 by_cases h1:i≤k∧k<j
 ·rw [if_pos h1] at e ⊢;exact ky_congr e
 ·rw [if_neg h1] at e ⊢;exact ky_congr e
theorem mirror_low {xs:Array Keyed} {i j lo:Nat} (hj:j≤xs.size) (hi:lo≤i):∀k,k<lo→(mirror xs i j ((j-i) / 2))[k]? = xs[k]?:=fun k hk=>by
 rw [getElem?_mirror_all hj,if_neg (by first|lia|omega)]
theorem ky_mirror_equal {xs:Array Keyed} {i j:Nat} (hj:j≤xs.size) (heq:∀k,i≤k→k<j→ky key xs k=ky key xs (j-1)) (k:Nat) :
  ky key (mirror xs i j ((j-i) / 2)) k=ky key xs k:=by
 rw [ky_mirror hj]
 split
 ·rw [heq _ (by first|lia|omega) (by first|lia|omega),heq k (by first|lia|omega) (by first|lia|omega)]
 ·rfl
theorem Af.rev {lo i j:Nat} {st0 st:SortSt} (h:Af a₀ kd lo st0 st) (hi:lo≤i) (hj:j≤a₀.size):Af a₀ kd lo st0 (setArr st (mirror (arrOf st) i j ((j-i) / 2))):=
 h.set (mirror_perm _ _ _ _) (mirror_low (by rw [h.size];exact hj) hi)
noncomputable def ascL (lo a nrem:Nat):StateT SortSt Sem AscSt:=
 forIn [a:nrem] ((none,a):AscSt) fun _ c=>do
  let x ←ltAt' (lo+c.snd) (lo+c.snd-1)
  match x with
  | some smaller=>if smaller=true then pure (ForInStep.done (none,c.snd)) else pure (ForInStep.yield (none,c.snd+1))
  | _=>pure (ForInStep.done (some none,c.snd))
noncomputable def tailL (lo n nrem:Nat):StateT SortSt Sem (Option Nat):=do
 reverseSlice' lo (lo+n)
 let c ←ascL lo n nrem
 match c.fst with
 | some r=>pure r
 | none=>pure (some c.snd)
noncomputable def descL (lo n nrem:Nat):StateT SortSt Sem DescSt:=
 forIn [n:nrem] ((none,n,0):DescSt) fun _ c=>do
  let x ←ltAt' (lo+c.snd.fst) (lo+c.snd.fst-1)
  match x with
  | some smaller=>
   if smaller=true then
    if c.snd.snd>0 then do
     reverseSlice' (lo+c.snd.fst-(c.snd.snd+1)) (lo+c.snd.fst)
     pure (ForInStep.yield (none,c.snd.fst+1,0))
    else pure (ForInStep.yield (none,c.snd.fst+1,0))
   else do
    let x ←ltAt' (lo+c.snd.fst-1) (lo+c.snd.fst)
    match x with
    | some larger=>
     if larger=true then pure (ForInStep.done (none,c.snd.fst,c.snd.snd))
     else pure (ForInStep.yield (none,c.snd.fst+1,c.snd.snd+1))
    | _=>pure (ForInStep.done (some none,c.snd.fst,c.snd.snd))
  | _=>pure (ForInStep.done (some none,c.snd.fst,c.snd.snd))
noncomputable def descP (lo n nrem:Nat):StateT SortSt Sem (Option Nat):=do
 liftM (rule "list.sort.descending-run")
 let c ←descL lo (n+1) nrem
 match c.fst with
 | some r=>pure r
 | none=>
  if c.snd.snd>0 then do
   reverseSlice' (lo+c.snd.fst-(c.snd.snd+1)) (lo+c.snd.fst)
   tailL lo c.snd.fst nrem
  else tailL lo c.snd.fst nrem
theorem countL_eq (lo nrem:Nat):countRun' lo nrem=(do
  let c ←ascL lo 1 nrem
  match c.fst with
  | some r=>pure r
  | none=>
   if (c.snd == nrem)=true then pure (some c.snd)
   else if c.snd>1 then do
    let x ←ltAt' lo (lo+c.snd-1)
    match x with
    | some rose=>if rose=true then pure (some c.snd) else do
      reverseSlice' lo (lo+c.snd)
      descP lo c.snd nrem
    | _=>pure none
   else descP lo c.snd nrem):=by
 rw [countRun'_eq]
 dsimp only
 unfold descP tailL descL ascL
 congr 1
 funext c
 obtain ⟨r,n⟩:=c
 cases r with
 | some r=>rfl
 | none=>
  dsimp only
  split
  ·rfl
  ·split
   ·congr 1
    funext x
    cases x with
    | none=>rfl
    | some rose=>
     dsimp only
     split
     ·rfl
     ·congr 1
      funext _r
      congr 1;funext _u;congr 1;congr 1;funext s2;obtain ⟨r2,n2,q2⟩:=s2
      cases r2 with
      | some r2=>rfl
      | none=>(dsimp only;split; (congr 1;funext _v; (congr 1;funext _w;congr 1; (funext s3;obtain ⟨r3,n3⟩:=s3;cases r3 <;> rfl))); (congr 1;funext _w;congr 1; (funext s3;obtain ⟨r3,n3⟩:=s3;cases r3 <;> rfl)))
   ·congr 1;funext _u;congr 1;congr 1;funext s2;obtain ⟨r2,n2,q2⟩:=s2
    cases r2 with
    | some r2=>rfl
    | none=>(dsimp only;split; (congr 1;funext _v; (congr 1;funext _w;congr 1; (funext s3;obtain ⟨r3,n3⟩:=s3;cases r3 <;> rfl))); (congr 1;funext _w;congr 1; (funext s3;obtain ⟨r3,n3⟩:=s3;cases r3 <;> rfl)))
theorem tm_asc {st0 st:SortSt} {lo a nrem:Nat} {Q:AscSt→SortSt→Prop} (hL:Lts prog w A E s a₀ key kd) (hn:lo+nrem≤a₀.size) (ha:1≤a) (han:a≤nrem) (hB:Af a₀ kd lo st0 st)
  (hs:Sg key (arrOf st) lo (lo+a))
  (h:∀n,a≤n→n≤nrem→Sg key (arrOf st) lo (lo+n)→(n=nrem∨ky key (arrOf st) (lo+n)<ky key (arrOf st) (lo+n-1))→Q (none,n) st) :
  wpS (model prog w) A E s (ascL lo a nrem) Q st:=by
 unfold ascL
 refine wpS_forRange (I:=fun x c st'=>st'=st∧c=(none,x)∧Sg key (arrOf st) lo (lo+x)) ?step ?fin ⟨rfl,rfl,hs⟩
 case fin=>
  intro c st' hz_
  refine Elim.el hz_ _ ?_
  clear hz_
  rintro rfl rfl hs'
  rw [Nat.max_eq_right (by first|lia|omega)] at hs' ⊢
  exact h nrem han (Nat.le_refl _) hs' (.inl rfl)
 case step=>
  intro x c st' hax hxn hz_
  refine Elim.el hz_ _ ?_
  clear hz_
  rintro rfl rfl hs'
  dsimp only
  refine wpS_bind (hB.lt hL (by first|lia|omega) (by first|lia|omega) ?_)
  by_cases hless:ky key (arrOf st') (lo+x)<ky key (arrOf st') (lo+x-1)
  ·simp only [hless,decide_true,if_true]
   exact wpS_pure (h x hax (by first|lia|omega) hs' (.inr hless))
  ·simp only [hless,decide_false,Bool.false_eq_true,if_false]
   refine wpS_pure ⟨rfl,rfl,fun i j hl hij hj => ?_⟩
   by_cases hjx:j<lo+x
   ·exact hs' i j hl hij hjx
   ·have hj':j=lo+x:=by (first|lia|omega)
    subst hj'
    by_cases hi':i=lo+x
    ·subst hi';exact Int.le_refl _
    ·exact Int.le_trans (hs' i (lo+x-1) hl (Nat.le_sub_one_of_lt (Nat.lt_of_le_of_ne hij hi')) (by first|lia|omega)) (Int.not_lt.mp hless)
theorem tm_tail {st0 st:SortSt} {lo n nrem:Nat} {Q:Option Nat→SortSt→Prop} (hL:Lts prog w A E s a₀ key kd) (hn:lo+nrem≤a₀.size) (h1:1≤n) (hnn:n≤nrem) (hB:Af a₀ kd lo st0 st)
  (hs:Ng key (arrOf st) lo (lo+n)) (h:∀m st',Af a₀ kd lo st0 st'→1≤m→m≤nrem→Sg key (arrOf st') lo (lo+m)→Q (some m) st') :
  wpS (model prog w) A E s (tailL lo n nrem) Q st:=by
 unfold tailL
 have hsz:lo+n≤(arrOf st).size:=by rw [hB.size]; (first|lia|omega)
 refine wpS_bind (wpS_reverse ?_)
 have hB':=hB.rev (i:=lo) (j:=lo+n) (Nat.le_refl _) (by first|lia|omega)
 refine wpS_bind (tm_asc hL hn h1 hnn hB' ?_ fun m hm1 hm2 hsm _=>wpS_pure (h m _ hB' (by first|lia|omega) hm2 hsm))
 intro i j hl hij hj
 show ky key (mirror (arrOf st) lo (lo+n) ((lo+n-lo) / 2)) i≤ky key (mirror (arrOf st) lo (lo+n) ((lo+n-lo) / 2)) j
 rw [ky_mirror hsz,ky_mirror hsz,if_pos (by first|lia|omega),if_pos (by first|lia|omega)]
 exact hs _ _ (by first|lia|omega) (Nat.sub_le_sub_left hij _) (by first|lia|omega)
theorem tm_desc {st0 st:SortSt} {lo n nrem:Nat} {Q:DescSt→SortSt→Prop} (hL:Lts prog w A E s a₀ key kd) (hn:lo+nrem≤a₀.size) (h1:1≤n) (hnn:n≤nrem) (hB:Af a₀ kd lo st0 st)
  (hs:Ng key (arrOf st) lo (lo+n))
  (h:∀m neq st',Af a₀ kd lo st0 st'→n≤m→m≤nrem→Ng key (arrOf st') lo (lo+m)→neq+1≤m→(∀i,lo+m-(neq+1)≤i→i<lo+m→ky key (arrOf st') i=ky key (arrOf st') (lo+m-1))→Q (none,m,neq) st') :
  wpS (model prog w) A E s (descL lo n nrem) Q st:=by
 unfold descL
 refine wpS_forRange (I:=fun x c st'=>∃neq,c=(none,x,neq)∧Af a₀ kd lo st0 st'∧Ng key (arrOf st') lo (lo+x)∧neq+1≤x ∧
   (∀i,lo+x-(neq+1)≤i→i<lo+x→ky key (arrOf st') i=ky key (arrOf st') (lo+x-1))) ?step ?fin ⟨0,rfl,hB,hs,by first|lia|omega,fun i h1 h2=>congrArg (ky key _) (Nat.le_antisymm (Nat.le_sub_one_of_lt h2) h1)⟩
 case fin=>
  intro c st' hz_
  refine Elim.el hz_ _ ?_
  clear hz_
  rintro neq rfl hB' hs' hq he
  rw [Nat.max_eq_right hnn] at hs' hq he ⊢
  exact h nrem neq st' hB' hnn (Nat.le_refl _) hs' hq he
 case step=>
  intro x c st' hax hxn hz_
  refine Elim.el hz_ _ ?_
  clear hz_
  rintro neq rfl hB' hs' hq he
  dsimp only
  have hsz:lo+x≤(arrOf st').size:=by rw [hB'.size]; (first|lia|omega)
  have lx:lo+x-1<lo+x:=by (first|lia|omega)
  refine wpS_bind (hB'.lt hL (by first|lia|omega) (by first|lia|omega) ?_)
  by_cases hless:ky key (arrOf st') (lo+x)<ky key (arrOf st') (lo+x-1)
  ·simp only [hless,decide_true,if_true]
   have step1:∀xs:Array Keyed,(∀k,ky key xs k=ky key (arrOf st') k)→Ng key xs lo (lo+(x+1)):=by
    intro xs hk i j hl hij hj
    rw [hk,hk]
    by_cases hjx:j<lo+x
    ·exact hs' i j hl hij hjx
    ·have hj':j=lo+x:=by (first|lia|omega)
     subst hj'
     by_cases hi':i=lo+x
     ·subst hi';exact Int.le_refl _
     ·exact Int.le_trans (Int.le_of_lt hless) (hs' i (lo+x-1) hl (Nat.le_sub_one_of_lt (Nat.lt_of_le_of_ne hij hi')) lx)
   by_cases hneq:neq>0
   ·rw [if_pos hneq]
    refine wpS_bind (wpS_reverse (wpS_pure ⟨0,rfl,hB'.rev (by first|lia|omega) (by first|lia|omega),step1 _ (ky_mirror_equal hsz he),by first|lia|omega,fun i h1 h2=>congrArg (ky key _) (Nat.le_antisymm (Nat.le_sub_one_of_lt h2) h1)⟩))
   ·rw [if_neg hneq]
    exact wpS_pure ⟨0,rfl,hB',step1 _ (fun _=>rfl),by first|lia|omega,fun i h1 h2=>congrArg (ky key _) (Nat.le_antisymm (Nat.le_sub_one_of_lt h2) h1)⟩
  ·simp only [hless,decide_false,Bool.false_eq_true,if_false]
   refine wpS_bind (hB'.lt hL (by first|lia|omega) (by first|lia|omega) ?_)
   by_cases hlarger:ky key (arrOf st') (lo+x-1)<ky key (arrOf st') (lo+x)
   ·simp only [hlarger,decide_true,if_true]
    exact wpS_pure (h x neq st' hB' hax (by first|lia|omega) hs' hq he)
   ·simp only [hlarger,decide_false,Bool.false_eq_true,if_false]
    have heqx:ky key (arrOf st') (lo+x)=ky key (arrOf st') (lo+x-1):=by (first|lia|omega)
    refine wpS_pure ⟨neq+1,rfl,hB',fun i j hl hij hj => ?_,by first|lia|omega,fun i h1 h2 => ?_⟩
    ·by_cases hjx:j<lo+x
     ·exact hs' i j hl hij hjx
     ·have hj':j=lo+x:=by (first|lia|omega)
      subst hj'
      by_cases hi':i=lo+x
      ·subst hi';exact Int.le_refl _
      ·rw [heqx];exact hs' i (lo+x-1) hl (Nat.le_sub_one_of_lt (Nat.lt_of_le_of_ne hij hi')) lx
    ·rw [show lo+(x+1)-1=lo+x from Nat.add_sub_cancel (lo+x) 1]
     by_cases hix:i=lo+x
     ·subst hix;rfl
     ·rw [heqx];exact he i (Nat.le_trans (Nat.le_of_eq (Nat.succ_sub_succ (lo+x) (neq+1)).symm) h1) (Nat.lt_of_le_of_ne (Nat.le_of_lt_succ h2) hix)
theorem tm_descP {st0 st:SortSt} {lo n nrem:Nat} {Q:Option Nat→SortSt→Prop} (hL:Lts prog w A E s a₀ key kd) (hn:lo+nrem≤a₀.size) (hnn:n+1≤nrem) (hB:Af a₀ kd lo st0 st)
  (hs:Ng key (arrOf st) lo (lo+(n+1))) (h:∀m st',Af a₀ kd lo st0 st'→1≤m→m≤nrem→Sg key (arrOf st') lo (lo+m)→Q (some m) st') :
  wpS (model prog w) A E s (descP lo n nrem) Q st:=by
 unfold descP
 refine wpS_bind (wpS_lift (wpAny_rule ⟨rfl,?_⟩))
 refine wpS_bind (tm_desc hL hn (by first|lia|omega) hnn hB hs fun m neq st' hB' hm1 hm2 hs' hq he => ?_)
 dsimp only
 have hsz:lo+m≤(arrOf st').size:=by rw [hB'.size]; (first|lia|omega)
 by_cases hneq:neq>0
 ·rw [if_pos hneq]
  refine wpS_bind (wpS_reverse (tm_tail hL hn (by first|lia|omega) hm2 (hB'.rev (by first|lia|omega) (by first|lia|omega)) ?_ h))
  intro i j hl hij hj
  show ky key (mirror (arrOf st') _ _ _) j≤ky key (mirror (arrOf st') _ _ _) i
  rw [ky_mirror_equal hsz he,ky_mirror_equal hsz he]
  exact hs' i j hl hij hj
 ·rw [if_neg hneq]
  exact tm_tail hL hn (by first|lia|omega) hm2 hB' hs' h
theorem tm_count {st0 st:SortSt} {lo nrem:Nat} {Q:Option Nat→SortSt→Prop} (hL:Lts prog w A E s a₀ key kd) (hn:lo+nrem≤a₀.size) (h1:1≤nrem) (hB:Af a₀ kd lo st0 st)
  (h:∀m st',Af a₀ kd lo st0 st'→1≤m→m≤nrem→Sg key (arrOf st') lo (lo+m)→Q (some m) st') :
  wpS (model prog w) A E s (countRun' lo nrem) Q st:=by
 rw [countL_eq]
 refine wpS_bind (tm_asc hL hn (Nat.le_refl 1) h1 hB (fun i j hl hij hj=>by rw [show i=j by first|lia|omega];exact Int.le_refl _) fun n hn1 hn2 hsn hor => ?_)
 dsimp only
 by_cases hnn:n=nrem
 ·rw [if_pos (by simpa using hnn)]
  exact wpS_pure (h n st hB hn1 hn2 hsn)
 ·rw [if_neg (by simpa using hnn)]
  have hlt:ky key (arrOf st) (lo+n)<ky key (arrOf st) (lo+n-1):=hor.resolve_left hnn
  by_cases hgt:n>1
  ·rw [if_pos hgt]
   refine wpS_bind (hB.lt hL (by first|lia|omega) (by first|lia|omega) ?_)
   by_cases hrose:ky key (arrOf st) lo<ky key (arrOf st) (lo+n-1)
   ·simp only [hrose,decide_true,if_true]
    exact wpS_pure (h n st hB hn1 hn2 hsn)
   ·simp only [hrose,decide_false,Bool.false_eq_true,if_false]
    have hsz:lo+n≤(arrOf st).size:=by rw [hB.size]; (first|lia|omega)
    have hall:∀k,lo≤k→k<lo+n→ky key (arrOf st) k=ky key (arrOf st) (lo+n-1):=by
     intro k hl hk
     have a1:=hsn lo k (by first|lia|omega) hl hk
     have a2:=hsn k (lo+n-1) hl (by first|lia|omega) (by first|lia|omega)
     (first|lia|omega)
    refine wpS_bind (wpS_reverse (tm_descP hL hn (by first|lia|omega) (hB.rev (by first|lia|omega) (by first|lia|omega)) ?_ h))
    intro i j hl hij hj
    show ky key (mirror (arrOf st) _ _ _) j≤ky key (mirror (arrOf st) _ _ _) i
    rw [ky_mirror_equal hsz hall,ky_mirror_equal hsz hall]
    by_cases hjn:j<lo+n
    ·rw [hall i hl (by first|lia|omega),hall j (by first|lia|omega) hjn];exact Int.le_refl _
    ·have hj':j=lo+n:=by (first|lia|omega)
     subst hj'
     by_cases hi':i=lo+n
     ·subst hi';exact Int.le_refl _
     ·rw [hall i hl (by first|lia|omega)];exact Int.le_of_lt hlt
  ·rw [if_neg hgt]
   have hn1':n=1:=by (first|lia|omega)
   subst hn1'
   refine tm_descP hL hn (by first|lia|omega) hB ?_ h
   intro i j hl hij hj
   by_cases hi':i=j
   ·subst hi';exact Int.le_refl _
   ·have hi0:i=lo:=by (first|lia|omega)
    have hj1:j=lo+1:=by (first|lia|omega)
    subst hi0;subst hj1
    exact Int.le_of_lt hlt
theorem ky_bubble {xs:Array Keyed} {src d:Nat} (hs:src<xs.size) (hd:d≤src) (k:Nat) :
  ky key (bubble xs src d) k=if k=src-d then ky key xs src else if src-d<k∧k≤src then ky key xs (k-1) else ky key xs k:=by
 have e:=getElem?_bubble hs d hd k
 by_cases h1:k=src-d
 ·rw [if_pos h1] at e ⊢;exact ky_congr e
 ·rw [if_neg h1] at e ⊢
  by_cases h2:src-d<k∧k≤src
  ·rw [if_pos h2] at e ⊢;exact ky_congr e
  ·rw [if_neg h2] at e ⊢;exact ky_congr e
theorem tm_bin {st0 st:SortSt} {lo n ok:Nat} {Q:Bool→SortSt→Prop} (hL:Lts prog w A E s a₀ key kd) (hn:lo+n≤a₀.size) (hok:ok≤n) (hB:Af a₀ kd lo st0 st) (hs:Sg key (arrOf st) lo (lo+ok))
  (h:∀st',Af a₀ kd lo st0 st'→Sg key (arrOf st') lo (lo+n)→Q true st'):wpS (model prog w) A E s (binarySort' lo n ok) Q st:=by
 rw [binarySort'_eq]
 refine wpS_bind (wpS_mono (wpS_forRange (I:=fun k c st'=>c=(none,())∧Af a₀ kd lo st0 st'∧Sg key (arrOf st') lo (lo+min k n))
  (Q:=fun c st'=>c=(none,())∧Af a₀ kd lo st0 st'∧Sg key (arrOf st') lo (lo+n)) ?step ?fin ?init) ?post)
 case post=>
  intro c st' hz_
  refine Elim.el hz_ _ ?_
  clear hz_
  rintro rfl hB' hs'
  exact wpS_pure (h st' hB' hs')
 case init=>
  refine ⟨rfl,hB,fun i j hl hij hj => ?_⟩
  by_cases h1:ok=0
  ·subst h1
   have hj2:j<lo+1:=Nat.lt_of_lt_of_le hj (Nat.add_le_add_left (Nat.min_le_left _ _) _)
   have:i=j:=Nat.le_antisymm hij (Nat.le_trans (Nat.le_of_lt_succ hj2) hl)
   subst this;exact Int.le_refl _
  ·exact hs i j hl hij (Nat.lt_of_lt_of_le hj (Nat.add_le_add_left (Nat.le_trans (Nat.min_le_left _ _) (Nat.le_of_eq (Nat.max_eq_left (Nat.pos_of_ne_zero h1)))) _))
 case fin=>
  intro c st' hz_
  refine Elim.el hz_ _ ?_
  clear hz_
  rintro hc hB' hs'
  refine ⟨hc,hB',?_⟩
  rwa [Nat.min_eq_right (Nat.le_max_right _ _)] at hs'
 case step=>
  intro k c st' hak hkn hz_
  refine Elim.el hz_ _ ?_
  clear hz_
  rintro rfl hB' hs'
  rw [Nat.min_eq_left (Nat.le_of_lt hkn)] at hs'
  have hk:lo+k<a₀.size:=by (first|lia|omega)
  refine wpS_bind (wpS_mono (wpS_forRange (I:=fun x c st''=>st''=st'∧∃l r,c=(none,l,r)∧l≤r∧r≤k∧r+x≤k+l ∧
    (∀i,i<l→ky key (arrOf st') (lo+i)≤ky key (arrOf st') (lo+k))∧(∀i,r≤i→i<k→ky key (arrOf st') (lo+k)<ky key (arrOf st') (lo+i)))
   (Q:=fun c st''=>st''=st'∧∃l r,c=(none,l,r)∧l≤k ∧
    (∀i,i<l→ky key (arrOf st') (lo+i)≤ky key (arrOf st') (lo+k))∧(∀i,l≤i→i<k→ky key (arrOf st') (lo+k)<ky key (arrOf st') (lo+i))) ?istep ?ifin ?iinit) ?ipost)
  case iinit=>exact ⟨rfl,0,k,rfl,by first|lia|omega,by first|lia|omega,by first|lia|omega,fun i hi=>by first|lia|omega,fun i h1 h2=>by first|lia|omega⟩
  case ifin=>
   intro c st'' hz_
   refine Elim.el hz_ _ ?_
   clear hz_
   rintro rfl l r rfl hlr hrk hm hlo hhi
   have:l=r:=by (first|lia|omega)
   subst this
   exact ⟨rfl,l,l,rfl,hrk,hlo,hhi⟩
  case istep=>
   intro x c st'' _ hxk hz_
   refine Elim.el hz_ _ ?_
   clear hz_
   rintro rfl l r rfl hlr hrk hm hlo hhi
   dsimp only
   by_cases hge:l≥r
   ·rw [if_pos hge]
    have:l=r:=by (first|lia|omega)
    subst this
    exact wpS_pure ⟨rfl,l,l,rfl,hrk,hlo,hhi⟩
   ·rw [if_neg hge]
    have y1:l≤(l+r) / 2:=by (first|lia|omega)
    have y2:(l+r) / 2<r:=by (first|lia|omega)
    generalize (l+r) / 2=m at y1 y2 ⊢
    refine wpS_bind (hB'.lt hL hk (by first|lia|omega) ?_)
    by_cases hless:ky key (arrOf st'') (lo+k)<ky key (arrOf st'') (lo+m)
    ·simp only [hless,decide_true,if_true]
     refine wpS_pure ⟨rfl,l,m,rfl,y1,by first|lia|omega,by first|lia|omega,hlo,fun i h1 h2 => ?_⟩
     exact Int.lt_of_lt_of_le hless (hs' _ _ (Nat.le_add_right _ _) (by first|lia|omega) (by first|lia|omega))
    ·simp only [hless,decide_false,Bool.false_eq_true,if_false]
     refine wpS_pure ⟨rfl,m+1,r,rfl,y2,hrk,by first|lia|omega,fun i h1 => ?_,hhi⟩
     exact Int.le_trans (hs' (lo+i) (lo+m) (Nat.le_add_right _ _) (by first|lia|omega) (by first|lia|omega)) (Int.not_lt.mp hless)
  case ipost=>
   intro c st'' hz_
   refine Elim.el hz_ _ ?_
   clear hz_
   rintro rfl l r rfl hlk hlo hhi
   show wpS _ _ _ _ (do moveDown' (lo+k) (lo+l);pure (ForInStep.yield (none,()))) _ _
   rw [moveDown'_eq]
   have hks:lo+k<(arrOf st'').size:=by rw [hB'.size];exact hk
   refine wpS_bind (wpS_modify (wpS_pure ⟨rfl,hB'.set (bubble_perm _ _ _) (fun i hi => ?_),?_⟩))
   ·rw [getElem?_bubble hks _ (Nat.sub_le _ _),Nat.sub_sub_self (Nat.add_le_add_left hlk lo),if_neg (by first|lia|omega),if_neg (by first|lia|omega)]
   rw [Nat.min_eq_left hkn]
   have hlo':∀i,lo≤i→i<lo+l→ky key (arrOf st'') i≤ky key (arrOf st'') (lo+k):=fun i h1 h2=>by
    have:=hlo (i-lo) (Nat.sub_lt_left_of_lt_add h1 h2);rwa [Nat.add_sub_of_le h1] at this
   have hhi':∀i,lo+l≤i→i<lo+k→ky key (arrOf st'') (lo+k)<ky key (arrOf st'') i:=fun i h1 h2=>by
    have h0:=Nat.le_trans (Nat.le_add_right lo l) h1;have:=hhi (i-lo) (Nat.le_sub_of_add_le' h1) (Nat.sub_lt_left_of_lt_add h0 h2);rwa [Nat.add_sub_of_le h0] at this
   intro i j hl hij hj
   show ky key (bubble (arrOf st'') (lo+k) (lo+k-(lo+l))) i≤ky key (bubble (arrOf st'') (lo+k) (lo+k-(lo+l))) j
   have hj:j<lo+k+1:=hj
   have hy:lo+l≤lo+k:=Nat.add_le_add_left hlk _
   have h0:lo≤lo+l:=Nat.le_add_right _ _
   rw [ky_bubble hks (Nat.sub_le _ _),ky_bubble hks (Nat.sub_le _ _),Nat.sub_sub_self hy]
   clear hlo hhi h hB hs hn hok hak hkn hk hlk hL
   generalize lo+l=y at h0 hy hlo' hhi' ⊢
   generalize lo+k=z at hy hlo' hhi' hs' hj hks ⊢
   repeat' split
   all_goals first
    | (exfalso; (first|lia|omega))
    | exact Int.le_refl _
    | exact hlo' _ (by first|lia|omega) (by first|lia|omega)
    | exact Int.le_of_lt (hhi' _ (by first|lia|omega) (by first|lia|omega))
    | exact hs' _ _ (by first|lia|omega) (Nat.sub_le_sub_right hij 1) (by first|lia|omega)
    | exact hs' _ _ (by first|lia|omega) (by first|lia|omega) (by first|lia|omega)
end
end L2
namespace L2
open PySem PySem.Spec PyProof.Rows
noncomputable def gallop':Bool→Keyed→Array Keyed→Nat→Nat→Nat→StateT SortSt Sem (Option Nat):=sortPriv% PySem.Builtin.gallop
noncomputable def beyond' (left:Bool) (k:Keyed) (arr:Array Keyed) (base i:Nat):StateT SortSt Sem (Option Bool):=do
 let x ←elem' arr (base+i)
 if left then lt' x k else return (←lt' k x).map (!·)
section
variable {prog:Program} {w:World} {A:Around} {E:Value→Shared→Prop} {s:Shared} {a₀:Array Keyed} {key:Keyed→Int} {kd:SortKind}
noncomputable def bey (left:Bool) (k x:Int):Bool:=if left then decide (x<k) else !decide (k<x)
theorem tm_bey {left:Bool} {k:Keyed} {arr:Array Keyed} {base i:Nat} {st:SortSt} {Q:Option Bool→SortSt→Prop} (hL:Lts prog w A E s a₀ key kd) (hst:kindOf st=kd) (ha:∀p∈arr.toList,p∈a₀.toList) (hk:k∈a₀.toList)
  (hi:base+i<arr.size) (h:Q (some (bey left (key k) (ky key arr (base+i)))) st):wpS (model prog w) A E s (beyond' left k arr base i) Q st:=by
 unfold beyond'
 refine wpS_bind (tm_elem hi fun p e => ?_)
 have hp:=ha p (Array.mem_toList_iff.mpr (Array.mem_of_getElem? e))
 rw [ky_of e] at h
 cases left with
 | true=>exact hL _ _ _ _ hp hk hst h
 | false=>
  refine wpS_bind (m:=lt' k p) (hL _ _ _ _ hk hp hst ?_)
  exact wpS_pure h
theorem bey_mono {left:Bool} {k x y:Int} (h:x≤y) (hy:bey left k y=true):bey left k x=true:=by
 unfold bey at *
 cases left
 ·simp at hy ⊢; (first|lia|omega)
 ·simp at hy ⊢; (first|lia|omega)
noncomputable def Gal (left:Bool) (k:Int) (key:Keyed→Int) (arr:Array Keyed) (base n r:Nat):Prop:=
 r≤n∧(∀i,i<r→bey left k (ky key arr (base+i))=true)∧∀i,r≤i→i<n→bey left k (ky key arr (base+i))=false
theorem jpGo {α γ:Type} {m:StateT SortSt Sem α} {Q : α→SortSt→Prop} {st:SortSt} (V : γ→StateT SortSt Sem α) (G : γ→Prop) (hV:∀z,G z→wpS (model prog w) A E s (V z) Q st)
  (hm:(∀z,G z→wpS (model prog w) A E s (V z) Q st)→wpS (model prog w) A E s m Q st):wpS (model prog w) A E s m Q st:=hm hV
section
variable {α:Type} {c:Prop} [Decidable c] {m n:StateT SortSt Sem α} {Q : α→SortSt→Prop} {st:SortSt}
theorem ifP (h:c) (hm:wpS (model prog w) A E s m Q st):wpS (model prog w) A E s (if c then m else n) Q st:=by rw [if_pos h];exact hm
theorem ifN (h:¬c) (hm:wpS (model prog w) A E s n Q st):wpS (model prog w) A E s (if c then m else n) Q st:=by rw [if_neg h];exact hm
theorem ifS (h1:c→wpS (model prog w) A E s m Q st) (h2:¬c→wpS (model prog w) A E s n Q st):wpS (model prog w) A E s (if c then m else n) Q st:=by
 split
 ·exact h1 ‹_›
 ·exact h2 ‹_›
theorem ifE {x y:Nat} (h1:x=y→wpS (model prog w) A E s m Q st) (h2:¬x=y→wpS (model prog w) A E s n Q st):wpS (model prog w) A E s (if (x == y)=true then m else n) Q st:=
 ifS (fun z=>h1 (by simpa using z)) fun z=>h2 (by simpa using z)
end
theorem tm_gallop {left:Bool} {k:Keyed} {arr:Array Keyed} {base n hint:Nat} {st:SortSt} {Q:Option Nat→SortSt→Prop} (hL:Lts prog w A E s a₀ key kd) (hst:kindOf st=kd) (ha:∀p∈arr.toList,p∈a₀.toList) (hk:k∈a₀.toList)
  (hs:Sg key arr base (base+n)) (hn:base+n≤arr.size) (hh:hint<n) (h:∀r,Gal left (key k) key arr base n r→Q (some r) st):wpS (model prog w) A E s (gallop' left k arr base n hint) Q st:=by
 have up:∀i j,i≤j→j<n→bey left (key k) (ky key arr (base+j))=true→bey left (key k) (ky key arr (base+i))=true:=fun i j hij hj=>bey_mono (hs _ _ (by first|lia|omega) (by first|lia|omega) (by first|lia|omega))
 have dn:∀i j,i≤j→j<n→bey left (key k) (ky key arr (base+i))=false→bey left (key k) (ky key arr (base+j))=false:=fun i j hij hj e=>by
  cases e2:bey left (key k) (ky key arr (base+j)) with
  | false=>rfl
  | true=>rw [up i j hij hj e2] at e;cases e
 refine wpS_bind (m:=beyond' left k arr base hint) (tm_bey hL hst ha hk (by first|lia|omega) ?_)
 dsimp -zeta only
 extract_lets jp mo1 mo2
 refine jpGo (fun z:Nat×Nat×Nat×Nat=>jp () z.1 z.2.1 z.2.2.1 z.2.2.2) (fun z=>(z.2.2.1≤z.2.2.2∧z.2.2.2≤n)∧(∀i,i<z.2.2.1→bey left (key k) (ky key arr (base+i))=true)∧(∀i,z.2.2.2≤i→i<n→bey left (key k) (ky key arr (base+i))=false)) (fun z hz => ?_) fun H => ?_
 ·obtain ⟨z1,z2,lo0,hi0⟩:=z
  refine wpS_bind (wpS_mono (wpS_forRange (I:=fun x c st'=>st'=st∧∃lo hi,c=(none,lo,hi)∧lo≤hi∧hi≤n∧hi+x≤n+lo∧(∀i,i<lo→bey left (key k) (ky key arr (base+i))=true)∧(∀i,hi≤i→i<n→bey left (key k) (ky key arr (base+i))=false))
   (Q:=fun c st'=>st'=st∧∃r,c=(none,r,r)∧Gal left (key k) key arr base n r) ?stepA ?finA ⟨rfl,lo0,hi0,rfl,hz.1.1,hz.1.2,Nat.le_trans hz.1.2 (Nat.le_add_right _ _),hz.2.1,hz.2.2⟩) ?postA)
  case postA=>
   intro c st' hz_
   refine Elim.el hz_ _ ?_
   clear hz_
   rintro rfl r rfl g
   exact wpS_pure (h r g)
  case finA=>
   intro c st' hz_
   refine Elim.el hz_ _ ?_
   clear hz_
   rintro rfl lo hi rfl b1 b2 b3 b4 b5
   have:lo=hi:=by (first|lia|omega)
   subst this
   exact ⟨rfl,lo,rfl,b2,b4,b5⟩
  case stepA=>
   intro x c st' _ hx hz_
   refine Elim.el hz_ _ ?_
   clear hz_
   rintro rfl lo hi rfl b1 b2 b3 b4 b5
   dsimp only
   refine ifS (fun hge => ?_) fun hge => ?_
   ·have:lo=hi:=by (first|lia|omega)
    subst this
    exact wpS_pure ⟨rfl,lo,rfl,b2,b4,b5⟩
   ·have y1:lo≤lo+(hi-lo) / 2:=Nat.le_add_right _ _
    have y2:lo+(hi-lo) / 2<hi:=by (first|lia|omega)
    generalize lo+(hi-lo) / 2=m at y1 y2 ⊢
    refine wpS_bind (tm_bey hL hst ha hk (by first|lia|omega) ?_)
    cases e:bey left (key k) (ky key arr (base+m)) with
    | true=>
     dsimp only
     refine ifP rfl ?_
     exact wpS_pure ⟨rfl,_,_,rfl,y2,b2,by first|lia|omega,fun i hi'=>up i _ (Nat.le_of_lt_succ hi') (by first|lia|omega) e,b5⟩
    | false=>
     dsimp only
     refine ifN Bool.false_ne_true ?_
     exact wpS_pure ⟨rfl,_,_,rfl,y1,by first|lia|omega,by first|lia|omega,b4,fun i i1 i2=>dn _ i i1 i2 e⟩
 have eN:hint+(n-hint)=n:=Nat.add_sub_of_le (Nat.le_of_lt hh)
 refine ifS (fun e => ?_) fun e => ?_
 ·refine wpS_bind (wpS_mono (wpS_forRange (I:=fun x c st'=>st'=st∧∃last ofs,c=(none,last,ofs)∧last<ofs∧x+1≤ofs∧last<n-hint∧bey left (key k) (ky key arr (base+(hint+last)))=true)
   (Q:=fun c st'=>st'=st∧∃last ofs,c=(none,last,ofs)∧last<ofs∧last<n-hint∧bey left (key k) (ky key arr (base+(hint+last)))=true∧(n-hint≤ofs∨bey left (key k) (ky key arr (base+(hint+ofs)))=false)) ?step ?fin ⟨rfl,0,1,rfl,by first|lia|omega,by first|lia|omega,by first|lia|omega,e⟩) ?post)
  case post=>
   intro c st1 hz_
   refine Elim.el hz_ _ ?_
   clear hz_
   rintro rfl last ofs rfl c1 c2 c3 c4
   refine H (last,ofs,hint+last+1,hint+min ofs (n-hint)) ⟨⟨Nat.add_le_add_left (Nat.le_min.mpr ⟨c1,c2⟩) hint,Nat.le_trans (Nat.add_le_add_left (Nat.min_le_right _ _) _) (Nat.le_of_eq eN)⟩,fun i hi=>up i (hint+last) (Nat.le_of_lt_succ hi) (Nat.lt_of_lt_of_eq (Nat.add_lt_add_left c2 hint) eN) c3,fun i i1 i2 => ?_⟩
   have i1:hint+min ofs (n-hint)≤i:=i1
   rcases Nat.le_total (n-hint) ofs with t|t
   ·rw [Nat.min_eq_right t,eN] at i1
    exact absurd i2 (Nat.not_lt.mpr i1)
   ·rw [Nat.min_eq_left t] at i1
    rcases c4 with c4|c4
    ·rw [Nat.le_antisymm t c4,eN] at i1
     exact absurd i2 (Nat.not_lt.mpr i1)
    ·exact dn (hint+ofs) i i1 i2 c4
  case fin=>
   intro c st' hz_
   refine Elim.el hz_ _ ?_
   clear hz_
   rintro rfl last ofs rfl c1 c2 c3 c4
   exact ⟨rfl,last,ofs,rfl,c1,c3,c4, .inl (by first|lia|omega)⟩
  case step=>
   intro x c st' _ hx hz_
   refine Elim.el hz_ _ ?_
   clear hz_
   rintro rfl last ofs rfl c1 c2 c3 c4
   dsimp only [mo1]
   refine ifS (fun hge=>wpS_pure ⟨rfl,last,ofs,rfl,c1,c3,c4, .inl hge⟩) fun hge => ?_
   refine wpS_bind (tm_bey hL hst ha hk (by first|lia|omega) ?_)
   cases e2:bey left (key k) (ky key arr (base+(hint+ofs))) with
   | true=>
    exact wpS_pure ⟨rfl,ofs,2*ofs+1,rfl,by first|lia|omega,by first|lia|omega,by first|lia|omega,e2⟩
   | false=>
    exact wpS_pure ⟨rfl,last,ofs,rfl,c1,c3,c4, .inr e2⟩
 ·have e:=Bool.eq_false_iff.mpr e
  refine wpS_bind (wpS_mono (wpS_forRange (I:=fun x c st'=>st'=st∧∃last ofs,c=(none,last,ofs)∧last<ofs∧x+1≤ofs∧last<hint+1∧bey left (key k) (ky key arr (base+(hint-last)))=false)
   (Q:=fun c st'=>st'=st∧∃last ofs,c=(none,last,ofs)∧last<ofs∧last<hint+1∧bey left (key k) (ky key arr (base+(hint-last)))=false∧(hint+1≤ofs∨(ofs≤hint∧bey left (key k) (ky key arr (base+(hint-ofs)))=true))) ?step ?fin ⟨rfl,0,1,rfl,by first|lia|omega,by first|lia|omega,by first|lia|omega,e⟩) ?post)
  case post=>
   intro c st1 hz_
   refine Elim.el hz_ _ ?_
   clear hz_
   rintro rfl last ofs rfl c1 c2 c3 c4
   refine H (last,ofs,hint+1-min ofs (hint+1),hint-last) ⟨⟨?_,Nat.le_trans (Nat.sub_le _ _) (Nat.le_of_lt hh)⟩,fun i hi => ?_,fun i i1 i2=>dn (hint-last) i i1 i2 c3⟩
   ·show hint+1-min ofs (hint+1)≤hint-last
    rw [←Nat.succ_sub_succ hint last]
    exact Nat.sub_le_sub_left (Nat.le_min.mpr ⟨c1,c2⟩) _
   have hi:i<hint+1-min ofs (hint+1):=hi
   rcases c4 with c4|⟨c4,c5⟩
   ·rw [Nat.min_eq_right c4,Nat.sub_self] at hi
    exact absurd hi (Nat.not_lt_zero _)
   ·rw [Nat.min_eq_left (Nat.le_succ_of_le c4),Nat.succ_sub c4] at hi
    exact up i (hint-ofs) (Nat.le_of_lt_succ hi) (Nat.lt_of_le_of_lt (Nat.sub_le _ _) hh) c5
  case fin=>
   intro c st' hz_
   refine Elim.el hz_ _ ?_
   clear hz_
   rintro rfl last ofs rfl c1 c2 c3 c4
   exact ⟨rfl,last,ofs,rfl,c1,c3,c4, .inl (by first|lia|omega)⟩
  case step=>
   intro x c st' _ hx hz_
   refine Elim.el hz_ _ ?_
   clear hz_
   rintro rfl last ofs rfl c1 c2 c3 c4
   dsimp only [mo2]
   refine ifS (fun hge=>wpS_pure ⟨rfl,last,ofs,rfl,c1,c3,c4, .inl hge⟩) fun hge => ?_
   refine wpS_bind (tm_bey hL hst ha hk (by first|lia|omega) ?_)
   cases e2:bey left (key k) (ky key arr (base+(hint-ofs))) with
   | true=>
    exact wpS_pure ⟨rfl,last,ofs,rfl,c1,c3,c4, .inr ⟨by first|lia|omega,e2⟩⟩
   | false=>
    exact wpS_pure ⟨rfl,ofs,2*ofs+1,rfl,by first|lia|omega,by first|lia|omega,by first|lia|omega,e2⟩
end
end L2
namespace L2
open PySem PySem.Spec PyProof.Rows
noncomputable def setG':Nat→StateT SortSt Sem Unit:=sortPriv% PySem.Builtin.setMinGallop
noncomputable def withG (st:SortSt) (g:Nat):SortSt:=SortSt.mk' (kindOf st) (arrOf st) (pendingOf st) g (failedOf st)
noncomputable def mergeLo':Array Keyed→Array Keyed→StateT SortSt Sem (Array Keyed):=sortPriv% PySem.Builtin.mergeLo
section
variable {prog:Program} {w:World} {A:Around} {E:Value→Shared→Prop} {s:Shared} {a₀:Array Keyed} {key:Keyed→Int} {kd:SortKind}
noncomputable def Sl (key:Keyed→Int) (l:List Keyed):Prop:=l.Pairwise fun x y=>key x≤key y
structure Kp (st st':SortSt):Prop where
 kind:kindOf st'=kindOf st
 arr:arrOf st'=arrOf st
 pend:pendingOf st'=pendingOf st
 failed:failedOf st'=failedOf st
theorem Kp.refl (st:SortSt):Kp st st:=⟨rfl,rfl,rfl,rfl⟩
theorem Kp.gal {st st':SortSt} (h:Kp st st') (g:Nat):Kp st (withG st' g):=⟨h.kind,h.arr,h.pend,h.failed⟩
theorem ix {xs:Array Keyed} {i:Nat} {x:Keyed} (h:xs.toList[i]? = some x):xs[i]? = some x:=by rw [←h,Array.getElem?_toList]
theorem mem_drop {xs:Array Keyed} {i:Nat} {x:Keyed} (h:x∈xs.toList.drop i):∃j,i≤j∧j<xs.size∧ky key xs j=key x:=by
 obtain ⟨j,hj⟩:=List.mem_iff_getElem?.mp h
 rw [List.getElem?_drop] at hj
 have hl:=(List.getElem?_eq_some_iff.mp hj).1
 rw [Array.length_toList] at hl
 exact ⟨i+j,by first|lia|omega,hl,ky_of (ix hj)⟩
theorem mem_take {xs:Array Keyed} {i:Nat} {x:Keyed} (h:x∈xs.toList.take i):∃j,j<i∧j<xs.size∧ky key xs j=key x:=by
 obtain ⟨j,hj⟩:=List.mem_iff_getElem?.mp h
 have hl:=(List.getElem?_eq_some_iff.mp hj).1
 rw [List.length_take,Array.length_toList] at hl
 rw [List.getElem?_take_of_lt (by first|lia|omega)] at hj
 exact ⟨j,by first|lia|omega,by first|lia|omega,ky_of (ix hj)⟩
theorem mem_seg {xs:Array Keyed} {i k:Nat} {x:Keyed} (h:x∈(xs.toList.drop i).take k):∃j,i≤j∧j<i+k∧j<xs.size∧ky key xs j=key x:=by
 obtain ⟨j,hj⟩:=List.mem_iff_getElem?.mp h
 have hl:=(List.getElem?_eq_some_iff.mp hj).1
 rw [List.length_take,List.length_drop,Array.length_toList] at hl
 rw [List.getElem?_take_of_lt (by first|lia|omega),List.getElem?_drop] at hj
 exact ⟨i+j,by first|lia|omega,by first|lia|omega,by first|lia|omega,ky_of (ix hj)⟩
theorem seg1 {xs:Array Keyed} {i:Nat} {p:Keyed} (h:xs[i]? = some p):(xs.toList.drop i).take 1=[p]:=by
 rw [←Array.getElem?_toList] at h
 obtain ⟨hl,e⟩:=List.getElem?_eq_some_iff.mp h
 rw [List.drop_eq_getElem_cons hl,e];rfl
theorem sl_of {xs:Array Keyed} (h:Sg key xs 0 xs.size):Sl key xs.toList:=by
 refine List.pairwise_iff_getElem.mpr fun i j hi hj hij => ?_
 rw [Array.length_toList] at hi hj
 have:=h i j (by first|lia|omega) (by first|lia|omega) hj
 rwa [ky_of (getElem?_pos xs i hi),ky_of (getElem?_pos xs j hj)] at this
structure Mg (key:Keyed→Int) (a b:Array Keyed) (out:List Keyed) (ia ib:Nat):Prop where
 ha:ia≤a.size
 hb:ib≤b.size
 sa:Sg key a 0 a.size
 sb:Sg key b 0 b.size
 perm:(out++(a.toList.drop ia++b.toList.drop ib)).Perm (a.toList++b.toList)
 so:Sl key out
 la:∀x∈out,∀y∈a.toList.drop ia,key x≤key y
 lb:∀x∈out,∀y∈b.toList.drop ib,key x≤key y
theorem Mg.swap {a b:Array Keyed} {out:List Keyed} {ia ib:Nat} (h:Mg key a b out ia ib):Mg key b a out ib ia:=
 ⟨h.hb,h.ha,h.sb,h.sa,((List.perm_append_comm).append_left out).trans (h.perm.trans List.perm_append_comm),h.so,h.lb,h.la⟩
theorem Mg.tA {a b:Array Keyed} {out:List Keyed} {ia ib k:Nat} (h:Mg key a b out ia ib) (hk:ia+k≤a.size) (q:∀j,ia≤j→j<ia+k→ky key a j≤ky key b ib):Mg key a b (out++(a.toList.drop ia).take k) (ia+k) ib:=by
 have e:a.toList.drop ia=(a.toList.drop ia).take k++a.toList.drop (ia+k):=by
  rw [←List.drop_drop,List.take_append_drop]
 have sd:Sl key (a.toList.drop ia):=(sl_of h.sa).sublist (List.drop_sublist _ _)
 rw [e] at sd
 obtain ⟨s1,s2,s3⟩:=List.pairwise_append.mp sd
 refine ⟨hk,h.hb,h.sa,h.sb,?_,?_,?_,?_⟩
 ·have p:=h.perm
  rw [e] at p
  rw [List.append_assoc] at p ⊢
  exact p
 ·refine List.pairwise_append.mpr ⟨h.so,s1,fun x hx y hy=>h.la x hx y (List.mem_of_mem_take hy)⟩
 ·intro x hx y hy
  rcases List.mem_append.mp hx with hx|hx
  ·exact h.la x hx y (by rw [e];exact List.mem_append_right _ hy)
  ·exact s3 x hx y hy
 ·intro x hx y hy
  rcases List.mem_append.mp hx with hx|hx
  ·exact h.lb x hx y hy
  ·obtain ⟨j,j1,j2,j3,e1⟩:=mem_seg (key:=key) hx
   obtain ⟨i,i1,i2,e2⟩:=mem_drop (key:=key) hy
   have:=q j j1 j2
   have:=h.sb ib i (by first|lia|omega) i1 i2
   (first|lia|omega)
theorem Mg.tB {a b:Array Keyed} {out:List Keyed} {ia ib k:Nat} (h:Mg key a b out ia ib) (hk:ib+k≤b.size) (q:∀j,ib≤j→j<ib+k→ky key b j≤ky key a ia):Mg key a b (out++(b.toList.drop ib).take k) ia (ib+k):=
 (h.swap.tA hk q).swap
theorem Mg.pushA {a b out:Array Keyed} {ia ib:Nat} {p:Keyed} (h:Mg key a b out.toList ia ib) (e:a[ia]? = some p) (hk:ia<a.size) (q:ky key a ia≤ky key b ib):Mg key a b (out.push p).toList (ia+1) ib:=by
 rw [Array.toList_push, ←seg1 e]
 exact h.tA hk fun j j1 j2=>by rw [show j=ia by first|lia|omega];exact q
theorem Mg.pushB {a b out:Array Keyed} {ia ib:Nat} {p:Keyed} (h:Mg key a b out.toList ia ib) (e:b[ib]? = some p) (hk:ib<b.size) (q:ky key b ib≤ky key a ia):Mg key a b (out.push p).toList ia (ib+1):=by
 rw [Array.toList_push, ←seg1 e]
 exact h.tB hk fun j j1 j2=>by rw [show j=ib by first|lia|omega];exact q
theorem ext_toList {xs:Array Keyed} {i k:Nat} (h:i+k≤xs.size):(xs.extract i (i+k)).toList=(xs.toList.drop i).take k:=by
 rw [Array.toList_extract,List.extract_eq_take_drop]
 congr 1; (first|lia|omega)
theorem ext_end {xs:Array Keyed} {i:Nat} : (xs.extract i xs.size).toList=xs.toList.drop i:=by
 rw [Array.toList_extract,List.extract_eq_take_drop]
 refine List.take_of_length_le ?_
 rw [List.length_drop,Array.length_toList]; (first|lia|omega)
theorem Mg.exA {a b out:Array Keyed} {ia ib k:Nat} (h:Mg key a b out.toList ia ib) (hk:ia+k≤a.size) (q:∀j,ia≤j→j<ia+k→ky key a j≤ky key b ib):Mg key a b (out++a.extract ia (ia+k)).toList (ia+k) ib:=by
 rw [Array.toList_append,ext_toList hk]
 exact h.tA hk q
theorem Mg.exB {a b out:Array Keyed} {ia ib k:Nat} (h:Mg key a b out.toList ia ib) (hk:ib+k≤b.size) (q:∀j,ib≤j→j<ib+k→ky key b j≤ky key a ia):Mg key a b (out++b.extract ib (ib+k)).toList ia (ib+k):=by
 rw [Array.toList_append,ext_toList hk]
 exact h.tB hk q
noncomputable def Good (key:Keyed→Int) (a b res:Array Keyed):Prop:=res.toList.Perm (a.toList++b.toList)∧Sl key res.toList
theorem Mg.done {a b out:Array Keyed} {ia ib:Nat} (h:Mg key a b out.toList ia ib) (q:ia=a.size∨ib=b.size):Good key a b (out++a.extract ia a.size++b.extract ib b.size):=by
 unfold Good
 rw [Array.toList_append,Array.toList_append,ext_end,ext_end,List.append_assoc]
 refine ⟨h.perm,List.pairwise_append.mpr ⟨h.so,List.pairwise_append.mpr ⟨(sl_of h.sa).sublist (List.drop_sublist _ _),(sl_of h.sb).sublist (List.drop_sublist _ _),fun x hx y hy => ?_⟩,fun x hx y hy => ?_⟩⟩
 ·obtain ⟨j,j1,j2,_⟩:=mem_drop (key:=key) hx
  obtain ⟨i,i1,i2,_⟩:=mem_drop (key:=key) hy
  (first|lia|omega)
 ·rcases List.mem_append.mp hy with hy|hy
  ·exact h.la x hx y hy
  ·exact h.lb x hx y hy
theorem Mg.last {a b out:Array Keyed} {ia ib:Nat} (h:Mg key a b out.toList ia ib) (e:ia+1=a.size) (q:∀j,j<b.size→ky key b j≤ky key a (a.size-1)):Good key a b (out++b.extract ib b.size++a.extract ia a.size):=by
 unfold Good
 rw [Array.toList_append,Array.toList_append,ext_end,ext_end,List.append_assoc]
 refine ⟨(List.perm_append_comm.append_left out.toList).trans h.perm,List.pairwise_append.mpr ⟨h.so,List.pairwise_append.mpr ⟨(sl_of h.sb).sublist (List.drop_sublist _ _),(sl_of h.sa).sublist (List.drop_sublist _ _),fun x hx y hy => ?_⟩,fun x hx y hy => ?_⟩⟩
 ·obtain ⟨j,j1,j2,e1⟩:=mem_drop (key:=key) hx
  obtain ⟨i,i1,i2,e2⟩:=mem_drop (key:=key) hy
  have:=q j j2
  rw [show a.size-1=i by first|lia|omega] at this
  (first|lia|omega)
 ·rcases List.mem_append.mp hy with hy|hy
  ·exact h.lb x hx y hy
  ·exact h.la x hx y hy
theorem gal_le {k x:Int} (h:bey false k x=true):x≤k:=by unfold bey at h;simp at h;exact h
theorem gal_lt {k x:Int} (h:bey false k x=false):k<x:=by unfold bey at h;simp at h;exact h
theorem gal_le' {k x:Int} (h:bey true k x=true):x<k:=by unfold bey at h;simp at h;exact h
theorem gal_lt' {k x:Int} (h:bey true k x=false):k≤x:=by unfold bey at h;simp at h;exact h
end
end L2
namespace L2
open PySem PySem.Spec PyProof.Rows
section
variable {prog:Program} {w:World} {A:Around} {E:Value→Shared→Prop} {s:Shared} {a₀:Array Keyed} {key:Keyed→Int} {kd:SortKind}
theorem elemB {α:Type} {xs:Array Keyed} {i:Nat} {f:Keyed→StateT SortSt Sem α} {Q : α→SortSt→Prop} {st:SortSt} (hi:i<xs.size) (h:∀p,xs[i]? = some p→wpS (model prog w) A E s (f p) Q st):wpS (model prog w) A E s (elem' xs i >>= f) Q st:=wpS_bind (tm_elem hi h)
theorem ltB {α:Type} {x y:Keyed} {f:Option Bool→StateT SortSt Sem α} {Q : α→SortSt→Prop} {st:SortSt} (hL:Lts prog w A E s a₀ key kd) (hx:x∈a₀.toList) (hy:y∈a₀.toList) (hk:kindOf st=kd) (h:wpS (model prog w) A E s (f (some (decide (key x<key y)))) Q st):wpS (model prog w) A E s (lt' x y >>= f) Q st:=wpS_bind (hL _ _ _ _ hx hy hk h)
theorem gallopB {α:Type} {left:Bool} {k:Keyed} {arr:Array Keyed} {base n hint:Nat} {st:SortSt} {f:Option Nat→StateT SortSt Sem α} {Q : α→SortSt→Prop} (hL:Lts prog w A E s a₀ key kd) (hst:kindOf st=kd) (ha:∀p∈arr.toList,p∈a₀.toList) (hk:k∈a₀.toList)
  (hs:Sg key arr base (base+n)) (hn:base+n≤arr.size) (hh:hint<n) (h:∀r,Gal left (key k) key arr base n r→wpS (model prog w) A E s (f (some r)) Q st):wpS (model prog w) A E s (gallop' left k arr base n hint >>= f) Q st:=wpS_bind (tm_gallop hL hst ha hk hs hn hh h)
theorem tup6 {α β γ δ ε ζ:Type} {P : α × β × γ × δ × ε × ζ→Prop} (h:∀a b c d e f,P (a,b,c,d,e,f)):∀x,P x:=fun ⟨a,b,c,d,e,f⟩=>h a b c d e f
theorem tup7 {α β γ δ ε ζ η:Type} {P : α × β × γ × δ × ε × ζ × η→Prop} (h:∀a b c d e f g,P (a,b,c,d,e,f,g)):∀x,P x:=fun ⟨a,b,c,d,e,f,g⟩=>h a b c d e f g
theorem setGo {α:Type} {g:Nat} {f:Unit→StateT SortSt Sem α} {st st3:SortSt} {Q : α→SortSt→Prop} (kp:Kp st st3) (h:∀st4,Kp st st4→wpS (model prog w) A E s (f ()) Q st4):wpS (model prog w) A E s (setG' g >>= f) Q st3:=by
 exact wpS_bind (m:=setG' g) (wpS_modify (f:=fun s=>withG s g) (h _ (kp.gal g)))
theorem mem_of {xs:Array Keyed} {i:Nat} {p:Keyed} (h:xs[i]? = some p):p∈xs.toList:=Array.mem_toList_iff.mpr (Array.mem_of_getElem? h)
theorem sg_from {xs:Array Keyed} {i j:Nat} (h:Sg key xs 0 j):Sg key xs i j:=fun p q _ h2 h3=>h p q (Nat.zero_le _) h2 h3
noncomputable abbrev LoI0 (key:Keyed→Int) (a b:Array Keyed) (st:SortSt) (x:Nat) (c:Option (Array Keyed)×Array Keyed×Nat×Nat×Nat) (st':SortSt):Prop:=Kp st st'∧∃out ia ib g,c=(none,out,ia,ib,g)∧Mg key a b out.toList ia ib∧x+1≤ia+ib∧ia+1<a.size∧ib<b.size
noncomputable abbrev LoQ0 (key:Keyed→Int) (a b:Array Keyed) (st:SortSt) (c:Option (Array Keyed)×Array Keyed×Nat×Nat×Nat) (st':SortSt):Prop:=Kp st st'∧∃r,c.1=some r∧Good key a b r
noncomputable abbrev LoI1 (key:Keyed→Int) (a b:Array Keyed) (st1:SortSt) (x:Nat) (y:Nat) (c:Option (Array Keyed)×Array Keyed×Nat×Nat×Nat×Nat) (st':SortSt):Prop:=st'=st1∧∃out ia ib p q,c=(none,out,ia,ib,p,q)∧Mg key a b out.toList ia ib∧x+1+y≤ia+ib∧ia+1<a.size∧ib<b.size
noncomputable abbrev LoQ1 (key:Keyed→Int) (a b:Array Keyed) (st1:SortSt) (x:Nat) (c:Option (Array Keyed)×Array Keyed×Nat×Nat×Nat×Nat) (st':SortSt):Prop:=st'=st1∧((∃r,c.1=some r∧Good key a b r)∨(c.1=none∧Mg key a b c.2.1.toList c.2.2.1 c.2.2.2.1∧x+2≤c.2.2.1+c.2.2.2.1∧c.2.2.1+1<a.size∧c.2.2.2.1<b.size))
noncomputable abbrev LoI2 (key:Keyed→Int) (a b:Array Keyed) (st:SortSt) (x:Nat) (y:Nat) (c:Option (Array Keyed)×Array Keyed×Nat×Nat×Nat×Nat×Nat) (st':SortSt):Prop:=Kp st st'∧∃out ia ib g p q,c=(none,out,ia,ib,g,p,q)∧Mg key a b out.toList ia ib∧x+2≤ia+ib∧ia+1<a.size∧ib<b.size
noncomputable abbrev LoQ2 (key:Keyed→Int) (a b:Array Keyed) (st:SortSt) (x:Nat) (c:Option (Array Keyed)×Array Keyed×Nat×Nat×Nat×Nat×Nat) (st':SortSt):Prop:=Kp st st'∧((∃r,c.1=some r∧Good key a b r)∨(c.1=none∧Mg key a b c.2.1.toList c.2.2.1 c.2.2.2.1∧x+2≤c.2.2.1+c.2.2.2.1∧c.2.2.1+1<a.size∧c.2.2.2.1<b.size))
theorem tm_lo {a b:Array Keyed} {st:SortSt} {Q:Array Keyed→SortSt→Prop} (hL:Lts prog w A E s a₀ key kd) (hk:kindOf st=kd) (ham:∀p∈a.toList,p∈a₀.toList) (hbm:∀p∈b.toList,p∈a₀.toList)
  (hsa:Sg key a 0 a.size) (hsb:Sg key b 0 b.size) (ha1:1≤a.size) (hb1:1≤b.size) (h0:ky key b 0≤ky key a 0) (hl:∀j,j<b.size→ky key b j≤ky key a (a.size-1))
  (h:∀res st',Kp st st'→Good key a b res→Q res st'):wpS (model prog w) A E s (mergeLo' a b) Q st:=by
 refine wpS_bind (m:=liftM (rule "list.sort.merge-lo")) (wpS_lift (wpAny_rule ⟨rfl,?_⟩))
 refine elemB hb1 fun p e => ?_
 have mz:Mg key a b (#[]:Array Keyed).toList 0 0:=⟨Nat.zero_le _,Nat.zero_le _,hsa,hsb,by simp, .nil,(fun _ h=>by cases h),(fun _ h=>by cases h)⟩
 have m0:Mg key a b (#[p]:Array Keyed).toList 0 1:=mz.pushB e hb1 h0
 refine ifE (fun z1=>wpS_pure (h _ _ (Kp.refl _) (m0.done (.inr z1)))) fun z1 => ?_
 refine ifE (fun z2=>wpS_pure (h _ _ (Kp.refl _) (m0.last z2 hl))) fun z2 => ?_
 refine wpS_bind (wpS_get ?_)
 refine wpS_bind (wpS_mono (wpS_forRange
  (I:=LoI0 key a b st)
  (Q:=LoQ0 key a b st) ?step ?fin ⟨Kp.refl _,_,_,_,_,rfl,m0,by first|lia|omega,by first|lia|omega,by first|lia|omega⟩) ?post)
 case post=>
  rintro ⟨c1,c⟩ st' ⟨kp,r,e1,g⟩
  cases e1
  exact wpS_pure (h _ _ kp g)
 case fin=>
  intro c st' hz_
  refine Elim.el hz_ _ ?_
  clear hz_
  rintro kp out ia ib g rfl mm h1 h2 h3
  rw [Nat.zero_max] at h1
  (first|lia|omega)
 case step=>
  intro x c st1 _ hx hz_
  refine Elim.el hz_ _ ?_
  clear hz_
  rintro kp1 out ia ib g rfl mm h1 h2 h3
  dsimp -zeta only
  refine wpS_bind (wpS_mono (wpS_forRange
   (I:=LoI1 key a b st1 x)
   (Q:=LoQ1 key a b st1 x) ?step1 ?fin1 ⟨rfl,out,ia,ib,_,_,rfl,mm,by first|lia|omega,h2,h3⟩) ?post1)
  case fin1=>
   intro c st' hz_
   refine Elim.el hz_ _ ?_
   clear hz_
   rintro rfl out ia ib p q rfl mm h1 h2 h3
   exact ⟨rfl, .inr ⟨rfl,mm,by rw [Nat.zero_max] at h1;show x+2≤ia+ib; (first|lia|omega),h2,h3⟩⟩
  case step1=>
   intro y c st' _ hy hz_
   refine Elim.el hz_ _ ?_
   clear hz_
   rintro rfl out ia ib p q rfl mm h1 h2 h3
   dsimp only
   refine elemB h3 fun p1 e1=>elemB (Nat.lt_of_succ_lt h2) fun p2 e2 => ?_
   refine ltB hL (hbm _ (mem_of e1)) (ham _ (mem_of e2)) (kp1.kind.trans hk) ?_
   rw [←ky_of (key:=key) e1, ←ky_of (key:=key) e2]
   by_cases hlt:ky key b ib<ky key a ia
   ·rw [decide_eq_true hlt]
    dsimp only
    refine ifP rfl ?_
    refine elemB h3 fun p3 e3 => ?_
    have m1:=mm.pushB e3 h3 (Int.le_of_lt hlt)
    refine ifE (fun z3=>wpS_pure ⟨rfl, .inl ⟨_,rfl,m1.done (.inr z3)⟩⟩) fun z3 => ?_
    refine ifS (fun z4=>wpS_pure ⟨rfl, .inr ⟨rfl,m1,by show x+2≤ia+(ib+1); (first|lia|omega),h2,Nat.lt_of_le_of_ne h3 z3⟩⟩) fun z4 => ?_
    exact wpS_pure ⟨rfl,_,_,_,_,_,rfl,m1,by first|lia|omega,h2,Nat.lt_of_le_of_ne h3 z3⟩
   ·rw [decide_eq_false hlt]
    dsimp only
    refine ifN Bool.false_ne_true ?_
    refine elemB (Nat.lt_of_succ_lt h2) fun p3 e3 => ?_
    have m1:=mm.pushA e3 (by first|lia|omega) (Int.not_lt.mp hlt)
    refine ifE (fun z3=>wpS_pure ⟨rfl, .inl ⟨_,rfl,m1.last z3 hl⟩⟩) fun z3 => ?_
    refine ifS (fun z4=>wpS_pure ⟨rfl, .inr ⟨rfl,m1,by show x+2≤ia+1+ib; (first|lia|omega),Nat.lt_of_le_of_ne h2 z3,h3⟩⟩) fun z4 => ?_
    exact wpS_pure ⟨rfl,_,_,_,_,_,rfl,m1,by first|lia|omega,Nat.lt_of_le_of_ne h2 z3,h3⟩
  refine tup6 fun c1 out ia ib p q => ?_
  intro st2 hc
  have es:st2=st1:=hc.1
  subst es
  refine Or.elim hc.2 (fun gg => ?_) fun gg => ?_
  ·refine Elim.el gg _ ?_
   intro r e1 gd
   have e1:c1=some r:=e1
   subst e1
   exact wpS_pure ⟨kp1,r,rfl,gd⟩
  have e1:c1=none:=gg.1
  have mm:Mg key a b out.toList ia ib:=gg.2.1
  have h1:x+2≤ia+ib:=gg.2.2.1
  have h2:ia+1<a.size:=gg.2.2.2.1
  have h3:ib<b.size:=gg.2.2.2.2
  clear gg hc
  subst e1
  dsimp -zeta only
  refine wpS_bind (wpS_lift (wpAny_rule ⟨rfl,?_⟩))
  refine wpS_bind (wpS_mono (wpS_forRange
   (I:=LoI2 key a b st x)
   (Q:=LoQ2 key a b st x) ?step2 ?fin2 ⟨kp1,out,ia,ib,_,_,_,rfl,mm,by first|lia|omega,h2,h3⟩) ?post2)
  case fin2=>
   intro c st' hz_
   refine Elim.el hz_ _ ?_
   clear hz_
   rintro kp out ia ib g p q rfl mm h1 h2 h3
   exact ⟨kp, .inr ⟨rfl,mm,h1,h2,h3⟩⟩
  case post2=>
   refine tup7 fun c1 out ia ib g p q => ?_
   intro st3 hc
   have kp:Kp st st3:=hc.1
   refine Or.elim hc.2 (fun gg => ?_) fun gg => ?_
   ·refine Elim.el gg _ ?_
    intro r e1 gd
    have e1:c1=some r:=e1
    subst e1
    exact wpS_pure ⟨kp,r,rfl,gd⟩
   have e1:c1=none:=gg.1
   have mm:Mg key a b out.toList ia ib:=gg.2.1
   have h1:x+2≤ia+ib:=gg.2.2.1
   have h2:ia+1<a.size:=gg.2.2.2.1
   have h3:ib<b.size:=gg.2.2.2.2
   clear gg hc
   subst e1
   dsimp only
   exact setGo kp fun st4 kk=>wpS_pure ⟨kk,_,_,_,_,rfl,mm,by first|lia|omega,h2,h3⟩
  case step2=>
   intro y c st3 _ hy hz_
   refine Elim.el hz_ _ ?_
   clear hz_
   rintro kp out ia ib g p q rfl mm h1 h2 h3
   dsimp -zeta only
   extract_lets s1 o1 s2 i1 s3 i2 s4 mg s5 ac bc ib1 jp mg1
   refine jpGo (fun z:Nat=>jp () z) (fun _=>True) (fun g' _ => ?_) fun H => ?_
   rotate_left
   ·exact ifS (fun _=>H _ trivial) fun _=>H _ trivial
   refine setGo kp fun st4 kk => ?_
   dsimp -zeta only [s1,o1,s2,i1,s3,i2,s4,mg,s5,ac,bc,ib1]
   have hkd:kindOf st4=kd:=kk.kind.trans hk
   have eA:ia+(a.size-ia)=a.size:=Nat.add_sub_of_le (Nat.le_of_lt (Nat.lt_of_succ_lt h2))
   refine elemB h3 fun p1 e1 => ?_
   refine gallopB hL hkd ham (hbm _ (mem_of e1)) (by rw [eA];exact sg_from hsa) (Nat.le_of_eq eA) (by first|lia|omega) fun k1 g1 => ?_
   obtain ⟨g11,g12,g13⟩:=g1
   rw [←ky_of (key:=key) e1] at g12 g13
   dsimp -zeta only
   extract_lets ac2 jp2 o2 i3
   refine jpGo (fun z:Array Keyed×Nat=>jp2 () z.1 z.2) (fun z=>Mg key a b z.1.toList z.2 ib∧ia≤z.2∧z.2+1<a.size∧ky key b ib≤ky key a z.2) (fun z hz => ?_) fun H => ?_
   rotate_left
   ·refine ifS (fun ka => ?_) fun ka => ?_
    ·have ka':k1>0:=ka
     have kA:ia+k1≤a.size:=Nat.le_trans (Nat.add_le_add_left g11 ia) (Nat.le_of_eq eA)
     have m1:=mm.exA (k:=k1) kA (fun j j1 j2=>by have:=gal_le (g12 (j-ia) (Nat.sub_lt_left_of_lt_add j1 j2));rw [Nat.add_sub_of_le j1] at this;exact this)
     refine ifE (fun z1=>wpS_pure ⟨kk, .inl ⟨_,rfl,m1.last z1 hl⟩⟩) fun z1 => ?_
     refine ifE (fun z2=>wpS_pure ⟨kk, .inl ⟨_,rfl,m1.done (.inl z2)⟩⟩) fun z2 => ?_
     exact H (o2,i3) ⟨m1,Nat.le_add_right _ _,Nat.lt_of_le_of_ne (Nat.lt_of_le_of_ne kA z2) z1,Int.le_of_lt (gal_lt (g13 k1 (Nat.le_refl _) (by first|lia|omega)))⟩
    ·exact H (out,ia) ⟨mm,Nat.le_refl _,h2,Int.le_of_lt (gal_lt (g13 0 (by first|lia|omega) (by first|lia|omega)))⟩
   obtain ⟨out2,ia2⟩:=z
   have m1:Mg key a b out2.toList ia2 ib:=hz.1
   have n1:ia≤ia2:=hz.2.1
   have n2:ia2+1<a.size:=hz.2.2.1
   have n3:ky key b ib≤ky key a ia2:=hz.2.2.2
   clear hz
   refine elemB h3 fun p2 e2 => ?_
   have m2:=m1.pushB e2 h3 n3
   dsimp -zeta only [ac2]
   extract_lets o3
   refine ifE (fun z3=>wpS_pure ⟨kk, .inl ⟨_,rfl,m2.done (.inr z3)⟩⟩) fun z3 => ?_
   have eB:ib+1+(b.size-(ib+1))=b.size:=Nat.add_sub_of_le h3
   have h4:ib+1<b.size:=Nat.lt_of_le_of_ne h3 z3
   refine elemB (Nat.lt_of_succ_lt n2) fun p3 e3 => ?_
   refine gallopB hL hkd hbm (ham _ (mem_of e3)) (by rw [eB];exact sg_from hsb) (Nat.le_of_eq eB) (Nat.sub_pos_of_lt h4) fun k2 g2 => ?_
   obtain ⟨g21,g22,g23⟩:=g2
   rw [←ky_of (key:=key) e3] at g22 g23
   dsimp -zeta only
   extract_lets bc2 jp3 o4 i4
   refine jpGo (fun z:Array Keyed×Nat=>jp3 () z.1 z.2) (fun z=>Mg key a b z.1.toList ia2 z.2∧ib≤z.2∧z.2<b.size∧ky key a ia2≤ky key b z.2) (fun z hz => ?_) fun H => ?_
   rotate_left
   ·refine ifS (fun kz => ?_) fun kz => ?_
    ·have kB:ib+1+k2≤b.size:=Nat.le_trans (Nat.add_le_add_left g21 _) (Nat.le_of_eq eB)
     have m3:=m2.exB (k:=k2) kB (fun j j1 j2=>by have:=gal_le' (g22 (j-(ib+1)) (Nat.sub_lt_left_of_lt_add j1 j2));rw [Nat.add_sub_of_le j1] at this;exact Int.le_of_lt this)
     refine ifE (fun z4=>wpS_pure ⟨kk, .inl ⟨_,rfl,m3.done (.inr z4)⟩⟩) fun z4 => ?_
     exact H (o4,i4) ⟨m3,Nat.le_trans (Nat.le_succ _) (Nat.le_add_right _ _),Nat.lt_of_le_of_ne kB z4,gal_lt' (g23 k2 (Nat.le_refl _) (by first|lia|omega))⟩
    ·exact H (o3,ib+1) ⟨m2,Nat.le_succ _,h4,gal_lt' (g23 0 (by first|lia|omega) (Nat.sub_pos_of_lt h4))⟩
   obtain ⟨out3,ib3⟩:=z
   have m3:Mg key a b out3.toList ia2 ib3:=hz.1
   have n4:ib≤ib3:=hz.2.1
   have n5:ib3<b.size:=hz.2.2.1
   have n6:ky key a ia2≤ky key b ib3:=hz.2.2.2
   clear hz
   refine elemB (Nat.lt_of_succ_lt n2) fun p4 e4 => ?_
   have m4:=m3.pushA e4 (by first|lia|omega) n6
   dsimp only [bc2]
   refine ifE (fun z5=>wpS_pure ⟨kk, .inl ⟨_,rfl,m4.last z5 hl⟩⟩) fun z5 => ?_
   refine ifS (fun _ => ?_) fun _ => ?_
   ·exact wpS_pure ⟨kk, .inr ⟨rfl,m4,by dsimp only; (first|lia|omega),Nat.lt_of_le_of_ne n2 z5,n5⟩⟩
   ·exact wpS_pure ⟨kk,_,_,_,_,_,_,rfl,m4,by first|lia|omega,Nat.lt_of_le_of_ne n2 z5,n5⟩
end
end L2
namespace L2
open PySem PySem.Spec PyProof.Rows
noncomputable def mergeHi':Array Keyed→Array Keyed→StateT SortSt Sem (Array Keyed):=sortPriv% PySem.Builtin.mergeHi
section
variable {prog:Program} {w:World} {A:Around} {E:Value→Shared→Prop} {s:Shared} {a₀:Array Keyed} {key:Keyed→Int} {kd:SortKind}
theorem sg_to {xs:Array Keyed} {n:Nat} (hn:n≤xs.size) (h:Sg key xs 0 xs.size):Sg key xs 0 (0+n):=fun p q h1 h2 h3=>h p q h1 h2 (by first|lia|omega)
structure Mh (key:Keyed→Int) (a b:Array Keyed) (out:List Keyed) (na nb:Nat):Prop where
 ha:na≤a.size
 hb:nb≤b.size
 sa:Sg key a 0 a.size
 sb:Sg key b 0 b.size
 perm:(a.toList.take na++b.toList.take nb++out.reverse).Perm (a.toList++b.toList)
 so:Sl key out.reverse
 la:∀x∈a.toList.take na,∀y∈out,key x≤key y
 lb:∀x∈b.toList.take nb,∀y∈out,key x≤key y
theorem Mh.swap {a b:Array Keyed} {out:List Keyed} {na nb:Nat} (h:Mh key a b out na nb):Mh key b a out nb na:=
 ⟨h.hb,h.ha,h.sb,h.sa,((List.perm_append_comm).append_right _).trans (h.perm.trans List.perm_append_comm),h.so,h.lb,h.la⟩
theorem mem_segR {xs:Array Keyed} {t n:Nat} {x:Keyed} (h:x∈(xs.toList.take n).drop t):∃j,t≤j∧j<n∧j<xs.size∧ky key xs j=key x:=by
 rw [List.drop_take] at h
 obtain ⟨j,j1,j2,j3,e⟩:=mem_seg (key:=key) h
 exact ⟨j,j1,by first|lia|omega,j3,e⟩
theorem Mh.tA {a b:Array Keyed} {out:List Keyed} {na nb t:Nat} (h:Mh key a b out na nb) (ht:t≤na) (hn:1≤nb) (q:∀j,t≤j→j<na→ky key b (nb-1)≤ky key a j):Mh key a b (out++((a.toList.take na).drop t).reverse) t nb:=by
 have e:a.toList.take na=a.toList.take t++(a.toList.take na).drop t:=by
  have:=List.take_append_drop t (a.toList.take na)
  rw [List.take_take,Nat.min_eq_left ht] at this
  exact this.symm
 have sd:Sl key (a.toList.take na):=(sl_of h.sa).sublist (List.take_sublist _ _)
 rw [e] at sd
 refine Elim.el (List.pairwise_append.mp sd) _ ?_
 rintro s1 s2 s3
 have ha:=h.ha
 have hb:=h.hb
 refine ⟨by first|lia|omega,h.hb,h.sa,h.sb,?_,?_,?_,?_⟩
 ·have p:=h.perm
  rw [e,List.append_assoc,List.append_assoc] at p
  rw [List.reverse_append,List.reverse_reverse,List.append_assoc]
  refine List.Perm.trans (List.Perm.append_left _ ?_) p
  rw [←List.append_assoc, ←List.append_assoc]
  exact List.perm_append_comm.append_right _
 ·rw [List.reverse_append,List.reverse_reverse]
  exact List.pairwise_append.mpr ⟨s2,h.so,fun x hx y hy=>h.la x (List.mem_of_mem_drop hx) y (List.mem_reverse.mp hy)⟩
 ·intro x hx y hy
  rcases List.mem_append.mp hy with hy|hy
  ·exact h.la x (by rw [e];exact List.mem_append_left _ hx) y hy
  ·exact s3 x hx y (List.mem_reverse.mp hy)
 ·intro x hx y hy
  rcases List.mem_append.mp hy with hy|hy
  ·exact h.lb x hx y hy
  ·obtain ⟨j,j1,j2,j3,e1⟩:=mem_segR (key:=key) (List.mem_reverse.mp hy)
   obtain ⟨i,i1,i2,e2⟩:=mem_take (key:=key) hx
   have:=q j j1 j2
   have:=h.sb i (nb-1) (by first|lia|omega) (by first|lia|omega) (by first|lia|omega)
   (first|lia|omega)
theorem Mh.tB {a b:Array Keyed} {out:List Keyed} {na nb t:Nat} (h:Mh key a b out na nb) (ht:t≤nb) (hn:1≤na) (q:∀j,t≤j→j<nb→ky key a (na-1)≤ky key b j):Mh key a b (out++((b.toList.take nb).drop t).reverse) na t:=
 (h.swap.tA ht hn q).swap
theorem segR1 {xs:Array Keyed} {n:Nat} {p:Keyed} (hn:1≤n) (h:xs[n-1]? = some p):((xs.toList.take n).drop (n-1)).reverse=[p]:=by
 rw [List.drop_take,show n-(n-1)=1 by first|lia|omega,seg1 h];rfl
theorem Mh.pushA {a b out:Array Keyed} {na nb:Nat} {p:Keyed} (h:Mh key a b out.toList na nb) (hn:1≤na) (e:a[na-1]? = some p) (hb:1≤nb) (q:ky key b (nb-1)≤ky key a (na-1)):Mh key a b (out.push p).toList (na-1) nb:=by
 rw [Array.toList_push, ←segR1 hn e]
 exact h.tA (by first|lia|omega) hb fun j j1 j2=>by rw [show j=na-1 by first|lia|omega];exact q
theorem Mh.pushB {a b out:Array Keyed} {na nb:Nat} {p:Keyed} (h:Mh key a b out.toList na nb) (hn:1≤nb) (e:b[nb-1]? = some p) (hb:1≤na) (q:ky key a (na-1)≤ky key b (nb-1)):Mh key a b (out.push p).toList na (nb-1):=by
 rw [Array.toList_push, ←segR1 hn e]
 exact h.tB (by first|lia|omega) hb fun j j1 j2=>by rw [show j=nb-1 by first|lia|omega];exact q
theorem extR {xs:Array Keyed} {t n:Nat} : (xs.extract t n).toList=(xs.toList.take n).drop t:=by
 rw [Array.toList_extract,List.extract_eq_take_drop,List.drop_take]
theorem Mh.exA {a b out:Array Keyed} {na nb t:Nat} (h:Mh key a b out.toList na nb) (ht:t≤na) (hn:1≤nb) (q:∀j,t≤j→j<na→ky key b (nb-1)≤ky key a j):Mh key a b (out++(a.extract t na).reverse).toList t nb:=by
 rw [Array.toList_append,Array.toList_reverse,extR]
 exact h.tA ht hn q
theorem Mh.exB {a b out:Array Keyed} {na nb t:Nat} (h:Mh key a b out.toList na nb) (ht:t≤nb) (hn:1≤na) (q:∀j,t≤j→j<nb→ky key a (na-1)≤ky key b j):Mh key a b (out++(b.extract t nb).reverse).toList na t:=by
 rw [Array.toList_append,Array.toList_reverse,extR]
 exact h.tB ht hn q
theorem ext0 {xs:Array Keyed} {n:Nat} : (xs.extract 0 n).toList=xs.toList.take n:=by rw [extR,List.drop_zero]
theorem Mh.done {a b out:Array Keyed} {na nb:Nat} (h:Mh key a b out.toList na nb) (q:na=0∨nb=0):Good key a b (a.extract 0 na++b.extract 0 nb++out.reverse):=by
 unfold Good
 rw [Array.toList_append,Array.toList_append,ext0,ext0,Array.toList_reverse]
 refine ⟨h.perm,List.pairwise_append.mpr ⟨List.pairwise_append.mpr ⟨(sl_of h.sa).sublist (List.take_sublist _ _),(sl_of h.sb).sublist (List.take_sublist _ _),fun x hx y hy => ?_⟩,h.so,fun x hx y hy => ?_⟩⟩
 ·obtain ⟨j,j1,j2,_⟩:=mem_take (key:=key) hx
  obtain ⟨i,i1,i2,_⟩:=mem_take (key:=key) hy
  (first|lia|omega)
 ·rcases List.mem_append.mp hx with hx|hx
  ·exact h.la x hx y (List.mem_reverse.mp hy)
  ·exact h.lb x hx y (List.mem_reverse.mp hy)
theorem Mh.first {a b out:Array Keyed} {na nb:Nat} (h:Mh key a b out.toList na nb) (e:nb=1) (q:ky key b 0≤ky key a 0):Good key a b (b.extract 0 nb++a.extract 0 na++out.reverse):=by
 unfold Good
 rw [Array.toList_append,Array.toList_append,ext0,ext0,Array.toList_reverse]
 refine ⟨(List.perm_append_comm.append_right _).trans h.perm,List.pairwise_append.mpr ⟨List.pairwise_append.mpr ⟨(sl_of h.sb).sublist (List.take_sublist _ _),(sl_of h.sa).sublist (List.take_sublist _ _),fun x hx y hy => ?_⟩,h.so,fun x hx y hy => ?_⟩⟩
 ·obtain ⟨j,j1,j2,e1⟩:=mem_take (key:=key) hx
  obtain ⟨i,i1,i2,e2⟩:=mem_take (key:=key) hy
  have:=h.sa 0 i (by first|lia|omega) (by first|lia|omega) i2
  rw [show j=0 by first|lia|omega] at e1
  (first|lia|omega)
 ·rcases List.mem_append.mp hx with hx|hx
  ·exact h.lb x hx y (List.mem_reverse.mp hy)
  ·exact h.la x hx y (List.mem_reverse.mp hy)
noncomputable abbrev HiI0 (key:Keyed→Int) (a b:Array Keyed) (st:SortSt) (x:Nat) (c:Option (Array Keyed)×Nat×Nat×Array Keyed×Nat) (st':SortSt):Prop:=Kp st st'∧∃na nb out g,c=(none,na,nb,out,g)∧Mh key a b out.toList na nb∧na+nb+x+1≤a.size+b.size∧1≤na∧2≤nb
noncomputable abbrev HiQ0 (key:Keyed→Int) (a b:Array Keyed) (st:SortSt) (c:Option (Array Keyed)×Nat×Nat×Array Keyed×Nat) (st':SortSt):Prop:=Kp st st'∧∃r,c.1=some r∧Good key a b r
noncomputable abbrev HiI1 (key:Keyed→Int) (a b:Array Keyed) (st1:SortSt) (x:Nat) (y:Nat) (c:Option (Array Keyed)×Nat×Nat×Array Keyed×Nat×Nat) (st':SortSt):Prop:=st'=st1∧∃na nb out p q,c=(none,na,nb,out,p,q)∧Mh key a b out.toList na nb∧na+nb+x+1+y≤a.size+b.size∧1≤na∧2≤nb
noncomputable abbrev HiQ1 (key:Keyed→Int) (a b:Array Keyed) (st1:SortSt) (x:Nat) (c:Option (Array Keyed)×Nat×Nat×Array Keyed×Nat×Nat) (st':SortSt):Prop:=st'=st1∧((∃r,c.1=some r∧Good key a b r)∨(c.1=none∧Mh key a b c.2.2.2.1.toList c.2.1 c.2.2.1∧c.2.1+c.2.2.1+x+2≤a.size+b.size∧1≤c.2.1∧2≤c.2.2.1))
noncomputable abbrev HiI2 (key:Keyed→Int) (a b:Array Keyed) (st:SortSt) (x:Nat) (y:Nat) (c:Option (Array Keyed)×Nat×Nat×Array Keyed×Nat×Nat×Nat) (st':SortSt):Prop:=Kp st st'∧∃na nb out g p q,c=(none,na,nb,out,g,p,q)∧Mh key a b out.toList na nb∧na+nb+x+2≤a.size+b.size∧1≤na∧2≤nb
noncomputable abbrev HiQ2 (key:Keyed→Int) (a b:Array Keyed) (st:SortSt) (x:Nat) (c:Option (Array Keyed)×Nat×Nat×Array Keyed×Nat×Nat×Nat) (st':SortSt):Prop:=Kp st st'∧((∃r,c.1=some r∧Good key a b r)∨(c.1=none∧Mh key a b c.2.2.2.1.toList c.2.1 c.2.2.1∧c.2.1+c.2.2.1+x+2≤a.size+b.size∧1≤c.2.1∧2≤c.2.2.1))
theorem tm_hi {a b:Array Keyed} {st:SortSt} {Q:Array Keyed→SortSt→Prop} (hL:Lts prog w A E s a₀ key kd) (hk:kindOf st=kd) (ham:∀p∈a.toList,p∈a₀.toList) (hbm:∀p∈b.toList,p∈a₀.toList)
  (hsa:Sg key a 0 a.size) (hsb:Sg key b 0 b.size) (ha1:1≤a.size) (hb1:1≤b.size) (h0:ky key b 0≤ky key a 0) (hl:∀j,j<b.size→ky key b j≤ky key a (a.size-1))
  (h:∀res st',Kp st st'→Good key a b res→Q res st'):wpS (model prog w) A E s (mergeHi' a b) Q st:=by
 refine wpS_bind (m:=liftM (rule "list.sort.merge-hi")) (wpS_lift (wpAny_rule ⟨rfl,?_⟩))
 refine elemB (by first|lia|omega) fun p e => ?_
 have mz:Mh key a b (#[]:Array Keyed).toList a.size b.size:=⟨Nat.le_refl _,Nat.le_refl _,hsa,hsb,by rw [←Array.length_toList, ←Array.length_toList,List.take_length,List.take_length];simp, .nil,(fun _ _ _ h=>by cases h),(fun _ _ _ h=>by cases h)⟩
 have m0:Mh key a b (#[p]:Array Keyed).toList (a.size-1) b.size:=mz.pushA ha1 e hb1 (hl _ (by first|lia|omega))
 refine ifE (fun z1=>wpS_pure (h _ _ (Kp.refl _) (m0.done (.inl z1)))) fun z1 => ?_
 refine ifE (fun z2=>wpS_pure (h _ _ (Kp.refl _) (m0.first z2 h0))) fun z2 => ?_
 refine wpS_bind (wpS_get ?_)
 refine wpS_bind (wpS_mono (wpS_forRange
  (I:=HiI0 key a b st)
  (Q:=HiQ0 key a b st) ?step ?fin ⟨Kp.refl _,_,_,_,_,rfl,m0,by first|lia|omega,by first|lia|omega,by first|lia|omega⟩) ?post)
 case post=>
  rintro ⟨c1,c⟩ st' ⟨kp,r,e1,g⟩
  cases e1
  exact wpS_pure (h _ _ kp g)
 case fin=>
  intro c st' hz_
  refine Elim.el hz_ _ ?_
  clear hz_
  rintro kp na nb out g rfl mm h1 h2 h3
  rw [Nat.zero_max] at h1
  (first|lia|omega)
 case step=>
  intro x c st1 _ hx hz_
  refine Elim.el hz_ _ ?_
  clear hz_
  rintro kp1 na nb out g rfl mm h1 h2 h3
  have ua:=mm.ha
  have ub:=mm.hb
  dsimp -zeta only
  refine wpS_bind (wpS_mono (wpS_forRange
   (I:=HiI1 key a b st1 x)
   (Q:=HiQ1 key a b st1 x) ?step1 ?fin1 ⟨rfl,na,nb,out,_,_,rfl,mm,by first|lia|omega,h2,h3⟩) ?post1)
  case fin1=>
   intro c st' hz_
   refine Elim.el hz_ _ ?_
   clear hz_
   rintro rfl na nb out p q rfl mm h1 h2 h3
   exact ⟨rfl, .inr ⟨rfl,mm,by rw [Nat.zero_max] at h1;dsimp only; (first|lia|omega),h2,h3⟩⟩
  case step1=>
   intro y c st' _ hy hz_
   refine Elim.el hz_ _ ?_
   clear hz_
   rintro rfl na nb out p q rfl mm h1 h2 h3
   have ua:=mm.ha
   have ub:=mm.hb
   dsimp only
   have la:na-1<a.size:=Nat.sub_one_lt_of_le h2 mm.ha
   have nb1:1≤nb:=Nat.le_of_succ_le h3
   have lb:nb-1<b.size:=Nat.sub_one_lt_of_le nb1 mm.hb
   refine elemB (by first|assumption|(first|lia|omega)) fun p1 e1=>elemB (by first|assumption|(first|lia|omega)) fun p2 e2 => ?_
   refine ltB hL (hbm _ (mem_of e1)) (ham _ (mem_of e2)) (kp1.kind.trans hk) ?_
   rw [←ky_of (key:=key) e1, ←ky_of (key:=key) e2]
   by_cases hlt:ky key b (nb-1)<ky key a (na-1)
   ·rw [decide_eq_true hlt]
    dsimp only
    refine ifP rfl ?_
    refine elemB (by first|assumption|(first|lia|omega)) fun p3 e3 => ?_
    have m1:=mm.pushA h2 e3 nb1 (by first|exact Int.le_of_lt hlt|(first|lia|omega))
    refine ifE (fun z3=>wpS_pure ⟨rfl, .inl ⟨_,rfl,m1.done (.inl z3)⟩⟩) fun z3 => ?_
    refine ifS (fun z4=>wpS_pure ⟨rfl, .inr ⟨rfl,m1,by dsimp only; (first|lia|omega),by dsimp only; (first|lia|omega),h3⟩⟩) fun z4 => ?_
    exact wpS_pure ⟨rfl,_,_,_,_,_,rfl,m1,by first|lia|omega,by first|lia|omega,h3⟩
   ·rw [decide_eq_false hlt]
    dsimp only
    refine ifN Bool.false_ne_true ?_
    refine elemB (by first|assumption|(first|lia|omega)) fun p3 e3 => ?_
    have m1:=mm.pushB nb1 e3 h2 (Int.not_lt.mp hlt)
    refine ifE (fun z3=>wpS_pure ⟨rfl, .inl ⟨_,rfl,m1.first z3 h0⟩⟩) fun z3 => ?_
    refine ifS (fun z4=>wpS_pure ⟨rfl, .inr ⟨rfl,m1,by dsimp only; (first|lia|omega),h2,by dsimp only; (first|lia|omega)⟩⟩) fun z4 => ?_
    exact wpS_pure ⟨rfl,_,_,_,_,_,rfl,m1,by first|lia|omega,h2,by first|lia|omega⟩
  refine tup6 fun c1 na nb out p q => ?_
  intro st2 hc
  have es:st2=st1:=hc.1
  subst es
  refine Or.elim hc.2 (fun gg => ?_) fun gg => ?_
  ·refine Elim.el gg _ ?_
   intro r e1 gd
   have e1:c1=some r:=e1
   subst e1
   exact wpS_pure ⟨kp1,r,rfl,gd⟩
  have e1:c1=none:=gg.1
  have mm:Mh key a b out.toList na nb:=gg.2.1
  have h1:na+nb+x+2≤a.size+b.size:=gg.2.2.1
  have h2:1≤na:=gg.2.2.2.1
  have h3:2≤nb:=gg.2.2.2.2
  clear gg hc
  subst e1
  dsimp -zeta only
  refine wpS_bind (wpS_lift (wpAny_rule ⟨rfl,?_⟩))
  refine wpS_bind (wpS_mono (wpS_forRange
   (I:=HiI2 key a b st x)
   (Q:=HiQ2 key a b st x) ?step2 ?fin2 ⟨kp1,na,nb,out,_,_,_,rfl,mm,by first|lia|omega,h2,h3⟩) ?post2)
  case fin2=>
   intro c st' hz_
   refine Elim.el hz_ _ ?_
   clear hz_
   rintro kp na nb out g p q rfl mm h1 h2 h3
   exact ⟨kp, .inr ⟨rfl,mm,h1,h2,h3⟩⟩
  case post2=>
   refine tup7 fun c1 na nb out g p q => ?_
   intro st3 hc
   have kp:Kp st st3:=hc.1
   refine Or.elim hc.2 (fun gg => ?_) fun gg => ?_
   ·refine Elim.el gg _ ?_
    intro r e1 gd
    have e1:c1=some r:=e1
    subst e1
    exact wpS_pure ⟨kp,r,rfl,gd⟩
   have e1:c1=none:=gg.1
   have mm:Mh key a b out.toList na nb:=gg.2.1
   have h1:na+nb+x+2≤a.size+b.size:=gg.2.2.1
   have h2:1≤na:=gg.2.2.2.1
   have h3:2≤nb:=gg.2.2.2.2
   clear gg hc
   subst e1
   dsimp only
   exact setGo kp fun st4 kk=>wpS_pure ⟨kk,_,_,_,_,rfl,mm,by first|lia|omega,h2,h3⟩
  case step2=>
   intro y c st3 _ hy hz_
   refine Elim.el hz_ _ ?_
   clear hz_
   rintro kp na nb out g p q rfl mm h1 h2 h3
   have ua:=mm.ha
   have ub:=mm.hb
   dsimp -zeta only
   extract_lets s1 o1 s2 i1 s3 i2 s4 mg s5 ac bc ib1 jp mg1
   refine jpGo (fun z:Nat=>jp () z) (fun _=>True) (fun g' _ => ?_) fun H => ?_
   rotate_left
   ·exact ifS (fun _=>H _ trivial) fun _=>H _ trivial
   refine setGo kp fun st4 kk => ?_
   dsimp -zeta only [s1,o1,s2,i1,s3,i2,s4,mg,s5,ac,bc,ib1]
   have hkd:kindOf st4=kd:=kk.kind.trans hk
   have nb1:1≤nb:=Nat.le_of_succ_le h3
   have lb:nb-1<b.size:=Nat.sub_one_lt_of_le nb1 ub
   refine elemB lb fun p1 e1 => ?_
   refine gallopB hL hkd ham (hbm _ (mem_of e1)) (sg_to ua hsa) (by rw [Nat.zero_add];exact ua) (Nat.sub_one_lt (Nat.ne_of_gt h2)) fun k1 g1 => ?_
   obtain ⟨g11,g12,g13⟩:=g1
   rw [←ky_of (key:=key) e1] at g12 g13
   simp only [Nat.zero_add] at g12 g13
   dsimp -zeta only
   extract_lets kx ac2 jp2 o2 na2
   refine jpGo (fun z:Nat×Array Keyed=>jp2 () z.1 z.2) (fun z=>Mh key a b z.2.toList z.1 nb∧1≤z.1∧z.1≤na∧ky key a (z.1-1)≤ky key b (nb-1)) (fun z hz => ?_) fun H => ?_
   rotate_left
   ·refine ifS (fun ka => ?_) fun ka => ?_
    ·have ka':na-k1>0:=ka
     have m1:=mm.exA (t:=k1) g11 nb1 (fun j j1 j2=>Int.le_of_lt (gal_lt (g13 j j1 j2)))
     refine ifE (fun z1=>wpS_pure ⟨kk, .inl ⟨_,rfl,m1.done (.inl z1)⟩⟩) fun z1 => ?_
     have z2:¬k1=0:=z1
     exact H (na2,o2) ⟨m1,Nat.pos_of_ne_zero z2,g11,gal_le (g12 (k1-1) (Nat.sub_one_lt z2))⟩
    ·have ka':¬na-k1>0:=ka
     exact H (na,out) ⟨mm,h2,Nat.le_refl _,gal_le (g12 (na-1) (Nat.sub_one_lt_of_le h2 (Nat.le_of_sub_eq_zero (Nat.eq_zero_of_not_pos ka'))))⟩
   obtain ⟨na3,out2⟩:=z
   have m1:Mh key a b out2.toList na3 nb:=hz.1
   have n1:1≤na3:=hz.2.1
   have n2:na3≤na:=hz.2.2.1
   have n3:ky key a (na3-1)≤ky key b (nb-1):=hz.2.2.2
   clear hz
   refine elemB lb fun p2 e2 => ?_
   have m2:=m1.pushB nb1 e2 n1 n3
   dsimp -zeta only [ac2,kx]
   extract_lets o3
   refine ifE (fun z3=>wpS_pure ⟨kk, .inl ⟨_,rfl,m2.first z3 h0⟩⟩) fun z3 => ?_
   have la3:na3-1<a.size:=Nat.sub_one_lt_of_le n1 (Nat.le_trans n2 ua)
   have nb2:2≤nb-1:=by (first|lia|omega)
   have nb0:0<nb-1:=Nat.lt_of_lt_of_le Nat.one_pos (Nat.le_of_succ_le nb2)
   refine elemB la3 fun p3 e3 => ?_
   refine gallopB hL hkd hbm (ham _ (mem_of e3)) (sg_to (Nat.le_of_lt lb) hsb) (by rw [Nat.zero_add];exact Nat.le_of_lt lb) (Nat.sub_one_lt (Nat.ne_of_gt nb0)) fun k2 g2 => ?_
   obtain ⟨g21,g22,g23⟩:=g2
   rw [←ky_of (key:=key) e3] at g22 g23
   simp only [Nat.zero_add] at g22 g23
   dsimp -zeta only
   extract_lets ky2 bc2 jp3 o4 nb4
   refine jpGo (fun z:Nat×Array Keyed=>jp3 () z.1 z.2) (fun z=>Mh key a b z.2.toList na3 z.1∧2≤z.1∧z.1≤nb∧ky key b (z.1-1)≤ky key a (na3-1)) (fun z hz => ?_) fun H => ?_
   rotate_left
   ·refine ifS (fun kz => ?_) fun kz => ?_
    ·have kz':nb-1-k2>0:=kz
     have m3:=m2.exB (t:=k2) g21 n1 (fun j j1 j2=>gal_lt' (g23 j j1 j2))
     refine ifE (fun z4=>wpS_pure ⟨kk, .inl ⟨_,rfl,m3.first z4 h0⟩⟩) fun z4 => ?_
     refine ifE (fun z7=>wpS_pure ⟨kk, .inl ⟨_,rfl,m3.done (.inr z7)⟩⟩) fun z7 => ?_
     have y4:¬k2=1:=z4
     have y7:¬k2=0:=z7
     exact H (nb4,o4) ⟨m3,by show 2≤k2; (first|lia|omega),Nat.le_trans g21 (Nat.sub_le _ _),Int.le_of_lt (gal_le' (g22 (k2-1) (Nat.sub_one_lt y7)))⟩
    ·have kz':¬nb-1-k2>0:=kz
     exact H (nb-1,o3) ⟨m2,nb2,Nat.sub_le _ _,Int.le_of_lt (gal_le' (g22 (nb-1-1) (Nat.sub_one_lt_of_le nb0 (Nat.le_of_sub_eq_zero (Nat.eq_zero_of_not_pos kz')))))⟩
   obtain ⟨nb3,out3⟩:=z
   have m3:Mh key a b out3.toList na3 nb3:=hz.1
   have n4:2≤nb3:=hz.2.1
   have n5:nb3≤nb:=hz.2.2.1
   have n6:ky key b (nb3-1)≤ky key a (na3-1):=hz.2.2.2
   clear hz
   dsimp only [jp3]
   refine elemB la3 fun p4 e4 => ?_
   have m4:=m3.pushA n1 e4 (Nat.le_of_succ_le n4) n6
   dsimp only [bc2,ky2]
   refine ifE (fun z5=>wpS_pure ⟨kk, .inl ⟨_,rfl,m4.done (.inl z5)⟩⟩) fun z5 => ?_
   refine ifS (fun _=>wpS_pure ⟨kk, .inr ⟨rfl,m4,by dsimp only; (first|lia|omega),Nat.pos_of_ne_zero z5,n4⟩⟩) fun _ => ?_
   exact wpS_pure ⟨kk,_,_,_,_,_,_,rfl,m4,by first|lia|omega,Nat.pos_of_ne_zero z5,n4⟩
end
end L2
namespace L2
open PySem PySem.Spec PyProof.Rows
section
variable {prog:Program} {w:World} {A:Around} {E:Value→Shared→Prop} {s:Shared} {a₀:Array Keyed} {key:Keyed→Int} {kd:SortKind}
theorem wpS_set {M:Model} {σ:Type} {st st' : σ} {Q:PUnit → σ→Prop} (h:Q ⟨⟩ st'):wpS M A E s (set st':StateT σ Sem PUnit) Q st:=by
 unfold wpS
 rw [StateT.run_set];exact wpAny_pure ⟨rfl,h⟩
theorem wr_get {sa:Nat} : ∀(l:List Keyed) (n:Nat) (xs:Array Keyed),sa+n+l.length≤xs.size→∀k:Nat,
  ((l.zipIdx n).foldl (fun a (p:Keyed×Nat)=>a.setIfInBounds (sa+p.2) p.1) xs)[k]? = if sa+n≤k∧k<sa+n+l.length then l[k-(sa+n)]? else xs[k]?
 | [],n,xs,h,k=>by rw [List.zipIdx_nil,List.foldl_nil,if_neg (by simp only [List.length_nil]; (first|lia|omega))]
 | p :: l,n,xs,h,k=>by
  rw [List.length_cons] at h
  rw [List.zipIdx_cons,List.foldl_cons,wr_get l (n+1) _ (by rw [Array.size_setIfInBounds]; (first|lia|omega)),List.length_cons]
  by_cases e1:sa+(n+1)≤k∧k<sa+(n+1)+l.length
  ·rw [if_pos e1,if_pos (by first|lia|omega),show k-(sa+n)=(k-(sa+(n+1)))+1 by first|lia|omega,List.getElem?_cons_succ]
  ·rw [if_neg e1,Array.getElem?_setIfInBounds]
   by_cases e2:sa+n=k
   ·subst e2
    rw [if_pos rfl,if_pos (by first|lia|omega),if_pos (by first|lia|omega),Nat.sub_self];rfl
   ·rw [if_neg e2,if_neg (by first|lia|omega)]
noncomputable def wr (sa:Nat) (l:List Keyed) (xs:Array Keyed):Array Keyed:=l.zipIdx.foldl (fun a (p:Keyed×Nat)=>a.setIfInBounds (sa+p.2) p.1) xs
theorem wr_at {sa:Nat} {l:List Keyed} {xs:Array Keyed} (h:sa+l.length≤xs.size) (k:Nat):(wr sa l xs)[k]? = if sa≤k∧k<sa+l.length then l[k-sa]? else xs[k]?:=wr_get l 0 xs h k
theorem wr_list {sa:Nat} {l:List Keyed} {xs:Array Keyed} (h:sa+l.length≤xs.size):(wr sa l xs).toList=xs.toList.take sa++(l++xs.toList.drop (sa+l.length)):=by
 refine List.ext_getElem? fun k => ?_
 have hl:(xs.toList.take sa).length=sa:=by rw [List.length_take,Array.length_toList]; (first|lia|omega)
 rw [Array.getElem?_toList,wr_at h]
 by_cases e1:k<sa
 ·rw [if_neg (by first|lia|omega),List.getElem?_append_left (by first|lia|omega),List.getElem?_take_of_lt e1,Array.getElem?_toList]
 ·rw [List.getElem?_append_right (by first|lia|omega),hl]
  by_cases e2:k<sa+l.length
  ·rw [if_pos (by first|lia|omega),List.getElem?_append_left (by first|lia|omega)]
  ·rw [if_neg (by first|lia|omega),List.getElem?_append_right (by first|lia|omega),List.getElem?_drop, ←Array.getElem?_toList]
   congr 1; (first|lia|omega)
theorem wr_perm {sa:Nat} {l:List Keyed} {xs:Array Keyed} (h:sa+l.length≤xs.size) (hp:l.Perm ((xs.toList.drop sa).take l.length)):(wr sa l xs).Perm xs:=by
 refine Array.perm_iff_toList_perm.mpr ?_
 rw [wr_list h]
 have e:xs.toList=xs.toList.take sa++((xs.toList.drop sa).take l.length++xs.toList.drop (sa+l.length)):=by
  rw [←List.drop_drop,List.take_append_drop,List.take_append_drop]
 exact ((hp.append_right _).append_left _).trans (List.Perm.of_eq e.symm)
theorem ky_ext {xs:Array Keyed} {i j k:Nat} (hj:j≤xs.size) (hk:i+k<j):ky key (xs.extract i j) k=ky key xs (i+k):=by
 refine ky_congr ?_
 rw [Array.getElem?_extract,if_pos (by first|lia|omega)]
theorem sg_ext {xs:Array Keyed} {i j:Nat} (hj:j≤xs.size) (hij:i≤j) (h:Sg key xs i j):Sg key (xs.extract i j) 0 (xs.extract i j).size:=by
 rw [Array.size_extract,Nat.min_eq_left hj]
 intro p q _ h2 h3
 rw [ky_ext hj (by first|lia|omega),ky_ext hj (by first|lia|omega)]
 exact h _ _ (by first|lia|omega) (by first|lia|omega) (by first|lia|omega)
theorem mem_ext {xs:Array Keyed} {i j:Nat} {p:Keyed} (h:p∈(xs.extract i j).toList):p∈xs.toList:=by
 rw [extR] at h
 exact List.mem_of_mem_take (List.mem_of_mem_drop h)
structure Tb (a₀:Array Keyed) (kd:SortKind) (st:SortSt):Prop where
 perm:(arrOf st).Perm a₀
 kind:kindOf st=kd
 failed:failedOf st=none
theorem wr_sorted {xs:Array Keyed} {res:List Keyed} {sa u sb v e:Nat} (h1:sa≤u) (h2:u≤sb) (h3:sb≤v) (h4:v≤e) (h5:e≤xs.size) (h6:sa<sb) (len:u+res.length=v) (gp:res.Perm ((xs.toList.drop u).take res.length)) (gs:res.Pairwise fun a b=>key a≤key b)
  (s1:Sg key xs sa sb) (s2:Sg key xs sb e) (hA:∀p,sa≤p→p<u→ky key xs p≤ky key xs sb) (hB:∀q,v≤q→q<e→ky key xs (sb-1)≤ky key xs q):Sg key (wr u res xs) sa e:=by
 have at':=wr_at (sa:=u) (l:=res) (xs:=xs) (by first|lia|omega)
 have hout:∀p,(p<u∨v≤p)→ky key (wr u res xs) p=ky key xs p:=fun p hp'=>by
  refine ky_congr ?_
  rw [at' p,if_neg (by first|lia|omega)]
 have hin:∀p,u≤p→p<v→∃x,res[p-u]? = some x∧ky key (wr u res xs) p=key x:=fun p a1 a2=>by
  obtain ⟨x,hx⟩:∃x,res[p-u]? = some x:=⟨_,List.getElem?_eq_getElem (by first|lia|omega)⟩
  exact ⟨x,hx,ky_of ((at' p).trans ((if_pos (by first|lia|omega)).trans hx))⟩
 have hm:∀p,u≤p→p<v→∃j,u≤j∧j<v∧ky key (wr u res xs) p=ky key xs j:=fun p a1 a2=>by
  refine Elim.el (hin p a1 a2) _ ?_
  rintro x hx ex
  have hmem2:=gp.mem_iff.mp (List.mem_iff_getElem?.mpr ⟨_,hx⟩)
  obtain ⟨j,j1,j2,j3,e4⟩:=mem_seg (key:=key) hmem2
  exact ⟨j,j1,by first|lia|omega,by first|lia|omega⟩
 have sl:sb-1<sb:=by (first|lia|omega)
 intro p q g1 g2 g3
 by_cases a1:q<u
 ·have a0:=Nat.lt_of_le_of_lt g2 a1
  rw [hout p (.inl a0),hout q (.inl a1)];exact s1 p q g1 g2 (Nat.lt_of_lt_of_le a1 h2)
 have a1:=Nat.le_of_not_lt a1
 by_cases a2:q<v
 ·by_cases a3:p<u
  ·refine Elim.el (hm q a1 a2) _ ?_
   rintro j j1 j2 ej
   rw [hout p (.inl a3),ej]
   by_cases a4:j<sb
   ·exact s1 p j g1 (Nat.le_trans (Nat.le_of_lt a3) j1) a4
   ·exact Int.le_trans (hA p g1 a3) (s2 sb j (Nat.le_refl _) (Nat.le_of_not_lt a4) (Nat.lt_of_lt_of_le j2 h4))
  ·have a3:=Nat.le_of_not_lt a3
   refine Elim.el (hin p a3 (Nat.lt_of_le_of_lt g2 a2)) _ ?_
   rintro x hx ex
   refine Elim.el (hin q a1 a2) _ ?_
   rintro y hy ey
   rw [ex,ey]
   by_cases a5:p=q
   ·subst a5
    rw [hx] at hy;cases hy;exact Int.le_refl _
   ·obtain ⟨l1,e5⟩:=List.getElem?_eq_some_iff.mp hx
    obtain ⟨l2,e6⟩:=List.getElem?_eq_some_iff.mp hy
    have:=List.pairwise_iff_getElem.mp gs _ _ l1 l2 (Nat.sub_lt_sub_right a3 (Nat.lt_of_le_of_ne g2 a5))
    rw [e5,e6] at this;exact this
 ·have a2:=Nat.le_of_not_lt a2
  rw [hout q (.inr a2)]
  have hq:=hB q a2 g3
  by_cases a3:p<u
  ·rw [hout p (.inl a3)]
   exact Int.le_trans (s1 p (sb-1) g1 (by first|lia|omega) sl) hq
  ·by_cases a4:p<v
   ·refine Elim.el (hm p (Nat.le_of_not_lt a3) a4) _ ?_
    rintro j j1 j2 ej
    rw [ej]
    by_cases a5:j<sb
    ·exact Int.le_trans (s1 j (sb-1) (Nat.le_trans h1 j1) (by first|lia|omega) sl) hq
    ·exact s2 j q (Nat.le_of_not_lt a5) (Nat.le_trans (Nat.le_of_lt j2) a2) g3
   ·have a4:=Nat.le_of_not_lt a4
    rw [hout p (.inr a4)]
    exact s2 p q (Nat.le_trans h3 a4) g2 g3
theorem tm_mergeAt {st:SortSt} {i sa na sb nb p1 p2:Nat} {L R:List (Nat×Nat×Nat)} {Q:Bool→SortSt→Prop} (hL:Lts prog w A E s a₀ key kd) (hT:Tb a₀ kd st)
  (hp:(pendingOf st).toList=L++(sa,na,p1) :: (sb,nb,p2) :: R) (hi:L.length=i) (e1:sb=sa+na) (n1:1≤na) (n2:1≤nb) (hz:sb+nb≤a₀.size)
  (s1:Sg key (arrOf st) sa sb) (s2:Sg key (arrOf st) sb (sb+nb))
  (h:∀st',Tb a₀ kd st'→(pendingOf st').toList=L++(sa,na+nb,p1) :: R→(∀k,k<sa∨sb+nb≤k→(arrOf st')[k]? = (arrOf st)[k]?)→Sg key (arrOf st') sa (sb+nb)→Q true st') :
  wpS (model prog w) A E s (mergeAt' i) Q st:=by
 have hsz:=hT.perm.size_eq
 have g1:(pendingOf st)[i]? = some (sa,na,p1):=by
  rw [←Array.getElem?_toList,hp,List.getElem?_append_right (by first|lia|omega),hi,Nat.sub_self];rfl
 have g2:(pendingOf st)[i+1]? = some (sb,nb,p2):=by
  rw [←Array.getElem?_toList,hp,List.getElem?_append_right (by first|lia|omega),hi,show i+1-i=1 by first|lia|omega];rfl
 have hP:(((pendingOf st).setIfInBounds i (sa,na+nb,p1)).eraseIdxIfInBounds (i+1)).toList=L++(sa,na+nb,p1) :: R:=by
  have hlt:i+1<((pendingOf st).setIfInBounds i (sa,na+nb,p1)).size:=by
   rw [Array.size_setIfInBounds, ←Array.length_toList,hp,List.length_append,List.length_cons,List.length_cons]; (first|lia|omega)
  rw [Array.eraseIdxIfInBounds,dif_pos hlt,Array.toList_eraseIdx,Array.toList_setIfInBounds,hp]
  rw [List.set_append_right _ _ (by first|lia|omega),hi,Nat.sub_self,List.set_cons_zero,List.eraseIdx_append_of_length_le (by first|lia|omega),hi,show i+1-i=1 by first|lia|omega]
  rfl
 refine wpS_bind (m:=get) (wpS_get ?_)
 dsimp only
 rw [g1,g2]
 dsimp only
 refine wpS_bind (wpS_set ?_)
 have am:∀p∈(arrOf st).toList,p∈a₀.toList:=fun p h'=>(Array.perm_iff_toList_perm.mp hT.perm).mem_iff.mp h'
 refine wpS_bind (tm_elem (xs:=arrOf st) (by first|lia|omega) fun q1 f1 => ?_)
 refine wpS_bind (tm_gallop (arr:=arrOf st) hL (show kindOf (setPending st _)=kd from hT.kind) am (am _ (mem_of f1)) (by rw [←e1];exact s1) (by first|lia|omega) (by first|lia|omega) fun k gk => ?_)
 obtain ⟨k1,k2,k3⟩:=gk
 rw [←ky_of (key:=key) f1] at k2 k3
 obtain ⟨d,rfl⟩:∃d,na=k+d:=Nat.exists_eq_add_of_le k1
 have eD:sb=sa+k+d:=by (first|lia|omega)
 have hA:∀p,sa≤p→p<sa+k→ky key (arrOf st) p≤ky key (arrOf st) sb:=fun p h1 h2=>by
  have:=gal_le (k2 (p-sa) (by first|lia|omega));rwa [show sa+(p-sa)=p by first|lia|omega] at this
 dsimp only
 rw [Nat.add_sub_cancel_left]
 refine ifE (fun z1 => ?_) fun z1 => ?_
 ·refine wpS_pure (h _ ⟨hT.perm,hT.kind,hT.failed⟩ hP (fun _ _=>rfl) fun p q h1 h2 h3 => ?_)
  show ky key (arrOf st) p≤ky key (arrOf st) q
  by_cases c1:q<sb
  ·exact s1 p q h1 h2 c1
  ·by_cases c2:sb≤p
   ·exact s2 p q c2 h2 h3
   ·exact Int.le_trans (hA p h1 (by first|lia|omega)) (s2 sb q (Nat.le_refl _) (by first|lia|omega) h3)
 have d1:1≤d:=Nat.pos_of_ne_zero z1
 refine wpS_bind (tm_elem (xs:=arrOf st) (by first|lia|omega) fun q2 f2 => ?_)
 refine wpS_bind (tm_gallop (arr:=arrOf st) hL (show kindOf (setPending st _)=kd from hT.kind) am (am _ (mem_of f2)) s2 (by first|lia|omega) (by first|lia|omega) fun m gm => ?_)
 obtain ⟨m1,m2,m3⟩:=gm
 rw [←ky_of (key:=key) f2, ←eD] at m2 m3
 have hB:∀q,sb+m≤q→q<sb+nb→ky key (arrOf st) (sb-1)≤ky key (arrOf st) q:=fun q h1 h2=>by
  have:=gal_lt' (m3 (q-sb) (by first|lia|omega) (by first|lia|omega));rwa [show sb+(q-sb)=q by first|lia|omega] at this
 dsimp only
 have hC:=gal_lt (k3 k (Nat.le_refl _) (by first|lia|omega))
 by_cases z2:m=0
 ·have:=hB sb (by first|lia|omega) (by first|lia|omega)
  have:=s1 (sa+k) (sb-1) (by first|lia|omega) (by first|lia|omega) (by first|lia|omega)
  (first|lia|omega)
 refine ifN (by simpa using z2) ?_
 have x1:((arrOf st).extract (sa+k) sb).size=d:=by rw [Array.size_extract,Nat.min_eq_left (by first|lia|omega),eD,Nat.add_sub_cancel_left]
 have y1:((arrOf st).extract sb (sb+m)).size=m:=by rw [Array.size_extract,Nat.min_eq_left (by first|lia|omega),Nat.add_sub_cancel_left]
 have sx:=sg_ext (key:=key) (xs:=arrOf st) (i:=sa+k) (j:=sb) (by first|lia|omega) (by first|lia|omega) (fun p q h1 h2 h3=>s1 p q (by first|lia|omega) h2 h3)
 have sy:=sg_ext (key:=key) (xs:=arrOf st) (i:=sb) (j:=sb+m) (by first|lia|omega) (by first|lia|omega) (fun p q h1 h2 h3=>s2 p q h1 h2 (by first|lia|omega))
 have h0:ky key ((arrOf st).extract sb (sb+m)) 0≤ky key ((arrOf st).extract (sa+k) sb) 0:=by
  rw [ky_ext (by first|lia|omega) (by first|lia|omega),ky_ext (by first|lia|omega) (by first|lia|omega)]
  exact Int.le_of_lt hC
 have hl:∀j,j<((arrOf st).extract sb (sb+m)).size→ky key ((arrOf st).extract sb (sb+m)) j≤ky key ((arrOf st).extract (sa+k) sb) (((arrOf st).extract (sa+k) sb).size-1):=fun j hj=>by
  rw [y1] at hj
  rw [x1,ky_ext (by first|lia|omega) (by first|lia|omega),ky_ext (by first|lia|omega) (by first|lia|omega),show sa+k+(d-1)=sb-1 by rw [eD,Nat.add_sub_assoc d1]]
  have:=gal_le' (m2 j hj); (first|lia|omega)
 have wb:∀(res:Array Keyed) (st2:SortSt),Kp (setPending st (((pendingOf st).setIfInBounds i (sa,k+d+nb,p1)).eraseIdxIfInBounds (i+1))) st2→Good key ((arrOf st).extract (sa+k) sb) ((arrOf st).extract sb (sb+m)) res→Q true (setArr st2 (wr (sa+k) res.toList (arrOf st2))):=fun res st2 kp gd=>by
  have ea:arrOf st2=arrOf st:=kp.arr
  obtain ⟨gp,gs⟩:=gd
  have len:res.toList.length=d+m:=by rw [gp.length_eq,List.length_append,Array.length_toList,Array.length_toList,x1,y1]
  have hw:sa+k+res.toList.length≤(arrOf st).size:=by (first|lia|omega)
  have eM:((arrOf st).extract (sa+k) sb).toList++((arrOf st).extract sb (sb+m)).toList=((arrOf st).toList.drop (sa+k)).take res.toList.length:=by
   rw [extR,extR,List.drop_take,List.drop_take,len,Nat.add_sub_cancel_left,show sb-(sa+k)=d by rw [eD,Nat.add_sub_cancel_left],List.take_add,List.drop_drop, ←eD]
  refine h _ ⟨?_,kp.kind.trans hT.kind,kp.failed.trans hT.failed⟩ ?_ (fun p hp' => ?_) fun p q h1 h2 h3 => ?_
  ·show (wr (sa+k) res.toList (arrOf st2)).Perm a₀
   rw [ea]
   exact (wr_perm hw (gp.trans (List.Perm.of_eq eM))).trans hT.perm
  ·show (pendingOf st2).toList=_
   rw [kp.pend];exact hP
  ·show (wr (sa+k) res.toList (arrOf st2))[p]? = _
   rw [ea,wr_at hw p,if_neg (by first|lia|omega)]
  ·show ky key (wr (sa+k) res.toList (arrOf st2)) p≤ky key (wr (sa+k) res.toList (arrOf st2)) q
   rw [ea]
   exact wr_sorted (Nat.le_add_right _ _) (Nat.le_trans (Nat.le_add_right _ _) (Nat.le_of_eq eD.symm)) (Nat.le_add_right _ _) (Nat.add_le_add_left m1 _) (Nat.le_trans hz (Nat.le_of_eq hsz.symm)) (by first|lia|omega) (by first|lia|omega) (gp.trans (List.Perm.of_eq eM)) gs s1 s2 hA hB p q h1 h2 h3
 have ham:∀p∈((arrOf st).extract (sa+k) sb).toList,p∈a₀.toList:=fun p hp'=>am _ (mem_ext hp')
 have hbm:∀p∈((arrOf st).extract sb (sb+m)).toList,p∈a₀.toList:=fun p hp'=>am _ (mem_ext hp')
 have tl:∀(res:Array Keyed) (st2:SortSt),Kp (setPending st (((pendingOf st).setIfInBounds i (sa,k+d+nb,p1)).eraseIdxIfInBounds (i+1))) st2→Good key ((arrOf st).extract (sa+k) sb) ((arrOf st).extract sb (sb+m)) res →
   wpS (model prog w) A E s (do
    modify fun s=>setArr s (wr (sa+k) res.toList (arrOf s))
    return (failedOf (←get)).isNone) Q st2:=fun res st2 kp gd=>by
  refine wpS_bind (wpS_modify (wpS_bind (wpS_get (wpS_pure ?_))))
  have ef:failedOf (setArr st2 (wr (sa+k) res.toList (arrOf st2)))=none:=kp.failed.trans hT.failed
  rw [ef]
  exact wb res st2 kp gd
 refine ifS (fun _ => ?_) fun _ => ?_
 ·exact wpS_bind (tm_lo (a:=(arrOf st).extract (sa+k) sb) (b:=(arrOf st).extract sb (sb+m)) hL (show kindOf (setPending st _)=kd from hT.kind) ham hbm sx sy (by first|lia|omega) (by first|lia|omega) h0 hl fun res st2 kp gd=>tl res st2 kp gd)
 ·exact wpS_bind (tm_hi (a:=(arrOf st).extract (sa+k) sb) (b:=(arrOf st).extract sb (sb+m)) hL (show kindOf (setPending st _)=kd from hT.kind) ham hbm sx sy (by first|lia|omega) (by first|lia|omega) h0 hl fun res st2 kp gd=>tl res st2 kp gd)
end
end L2
namespace L2
open PySem PySem.Spec PyProof.Rows
section
variable {prog:Program} {w:World} {A:Around} {E:Value→Shared→Prop} {s:Shared} {a₀:Array Keyed} {key:Keyed→Int} {kd:SortKind}
noncomputable def Chn (key:Keyed→Int) (xs:Array Keyed):Nat→List (Nat×Nat×Nat)→Nat→Prop
 | lo,[],hi=>lo=hi
 | lo,(s,n,_) :: t,hi=>s=lo∧1≤n∧Sg key xs lo (lo+n)∧Chn key xs (lo+n) t hi
theorem Chn.le {xs:Array Keyed} : ∀{L:List (Nat×Nat×Nat)} {lo hi:Nat},Chn key xs lo L hi→lo+L.length≤hi
 | [],lo,hi,h=>by have h:lo=hi:=h;simp only [List.length_nil]; (first|lia|omega)
 | (s,n,p) :: t,lo,hi,h=>by
  obtain ⟨_,h1,_,h2⟩:=h
  have:=h2.le
  rw [List.length_cons]; (first|lia|omega)
theorem Chn.app {xs:Array Keyed} : ∀{L R:List (Nat×Nat×Nat)} {lo mid hi:Nat},Chn key xs lo L mid→Chn key xs mid R hi→Chn key xs lo (L++R) hi
 | [],R,lo,mid,hi,h,h'=>by have h:lo=mid:=h;rw [h];exact h'
 | (s,n,p) :: t,R,lo,mid,hi,h,h'=>⟨h.1,h.2.1,h.2.2.1,h.2.2.2.app h'⟩
theorem Chn.cut {xs:Array Keyed} : ∀{L R:List (Nat×Nat×Nat)} {lo hi:Nat},Chn key xs lo (L++R) hi→∃mid,Chn key xs lo L mid∧Chn key xs mid R hi
 | [],R,lo,hi,h=>⟨lo,rfl,h⟩
 | (s,n,p) :: t,R,lo,hi,h=>by
  obtain ⟨mid,h1,h2⟩:=Chn.cut (L:=t) h.2.2.2
  exact ⟨mid,⟨h.1,h.2.1,h.2.2.1,h1⟩,h2⟩
theorem sg_same {xs ys:Array Keyed} {i j:Nat} (e:∀k,i≤k→k<j→ys[k]? = xs[k]?) (h:Sg key xs i j):Sg key ys i j:=fun p q h1 h2 h3=>by
 rw [ky_congr (e p h1 (by first|lia|omega)),ky_congr (e q (by first|lia|omega) h3)];exact h p q h1 h2 h3
theorem Chn.same {xs ys:Array Keyed} : ∀{L:List (Nat×Nat×Nat)} {lo hi:Nat},(∀k,lo≤k→k<hi→ys[k]? = xs[k]?)→Chn key xs lo L hi→Chn key ys lo L hi
 | [],lo,hi,e,h=>h
 | (s,n,p) :: t,lo,hi,e,h=>by
  obtain ⟨h0,h1,h2,h3⟩:=h
  have:=h3.le
  exact ⟨h0,h1,sg_same (fun k a b=>e k a (by first|lia|omega)) h2,Chn.same (fun k a b=>e k (by first|lia|omega) b) h3⟩
theorem tm_mergeC {st:SortSt} {i hi:Nat} {Q:Bool→SortSt→Prop} (hL:Lts prog w A E s a₀ key kd) (hT:Tb a₀ kd st) (hc:Chn key (arrOf st) 0 (pendingOf st).toList hi) (hz:hi≤a₀.size) (hi2:i+1<(pendingOf st).size)
  (h:∀st',Tb a₀ kd st'→Chn key (arrOf st') 0 (pendingOf st').toList hi→(pendingOf st').size+1=(pendingOf st).size→(∀k,hi≤k→(arrOf st')[k]? = (arrOf st)[k]?)→Q true st'):wpS (model prog w) A E s (mergeAt' i) Q st:=by
 have hl:i+1<(pendingOf st).toList.length:=by rw [Array.length_toList];exact hi2
 obtain ⟨⟨sa,na,p1⟩,e1⟩:∃y,(pendingOf st).toList[i]'(by first|lia|omega)=y:=⟨_,rfl⟩
 obtain ⟨⟨sb,nb,p2⟩,e2⟩:∃y,(pendingOf st).toList[i+1]'hl=y:=⟨_,rfl⟩
 have ep:(pendingOf st).toList=(pendingOf st).toList.take i++(sa,na,p1) :: (sb,nb,p2) :: (pendingOf st).toList.drop (i+2):=by
  have d1:=List.drop_eq_getElem_cons (i:=i) (l:=(pendingOf st).toList) (by first|lia|omega)
  have d2:=List.drop_eq_getElem_cons (i:=i+1) (l:=(pendingOf st).toList) hl
  rw [e1] at d1
  rw [e2] at d2
  rw [←d2, ←d1,List.take_append_drop]
 have hc':=hc
 rw [ep] at hc'
 refine Elim.el (hc'.cut) _ ?_
 rintro mid c1 c2
 obtain ⟨rfl,n1,s1,c3⟩:=c2
 obtain ⟨rfl,n2,s2,c4⟩:=c3
 have c4l:=c4.le
 refine tm_mergeAt hL hT ep (by rw [List.length_take]; (first|lia|omega)) rfl n1 n2 (by first|lia|omega) s1 s2 fun st' t' p' o' s' => ?_
 refine h st' t' ?_ ?_ (fun k hk=>o' k (.inr (by first|lia|omega)))
 ·rw [p']
  refine Chn.app (mid:=sa) (c1.same fun k _ hk=>o' k (.inl hk)) ⟨rfl,by first|lia|omega,?_,?_⟩
  ·rw [←Nat.add_assoc];exact s'
  ·rw [←Nat.add_assoc];exact c4.same fun k hk _=>o' k (.inr hk)
 ·have l1:=congrArg List.length p'
  have l2:=congrArg List.length ep
  rw [Array.length_toList] at l1 l2
  rw [l1,l2]
  simp only [List.length_append,List.length_cons]
  (first|lia|omega)
theorem Chn.pow {xs:Array Keyed} {f:Nat×Nat×Nat→Nat×Nat×Nat} (hf:∀y,(f y).1=y.1∧(f y).2.1=y.2.1):∀{L:List (Nat×Nat×Nat)} {i lo hi:Nat},Chn key xs lo L hi→Chn key xs lo (L.modify i f) hi
 | [],i,lo,hi,h=>by rw [List.modify_nil];exact h
 | (s,n,p) :: t,0,lo,hi,h=>by
  rw [List.modify_zero_cons]
  obtain ⟨e1,e2⟩:=hf (s,n,p)
  generalize f (s,n,p)=y at e1 e2
  obtain ⟨y1,y2,y3⟩:=y
  dsimp only at e1 e2
  subst e1 e2
  exact h
 | (s,n,p) :: t,i+1,lo,hi,h=>by
  rw [List.modify_succ_cons]
  exact ⟨h.1,h.2.1,h.2.2.1,Chn.pow hf h.2.2.2⟩
theorem ite_lt2 {c:Prop} [Decidable c] {n:Nat} (h:1<n):(if c then n-2-1 else n-2)+1<n:=by
 by_cases z:c
 ·rw [if_pos z]; (first|lia|omega)
 ·rw [if_neg z]; (first|lia|omega)
theorem jpGoS {α γ:Type} {m:StateT SortSt Sem α} {Q : α→SortSt→Prop} {st:SortSt} (V : γ→StateT SortSt Sem α) (G : γ→SortSt→Prop) (hV:∀z st,G z st→wpS (model prog w) A E s (V z) Q st)
  (hm:(∀z st,G z st→wpS (model prog w) A E s (V z) Q st)→wpS (model prog w) A E s m Q st):wpS (model prog w) A E s m Q st:=hm hV
theorem tm_runs {st:SortSt} {Q:Unit→SortSt→Prop} (hL:Lts prog w A E s a₀ key kd) (hT:Tb a₀ kd st) (hp:pendingOf st = #[])
  (h:∀st',Tb a₀ kd st'→Sg key (arrOf st') 0 a₀.size→Q () st'):wpS (model prog w) A E s sortRuns' Q st:=by
 have hsz:=hT.perm.size_eq
 rw [sortRuns'_eq]
 refine wpS_bind (wpS_get ?_)
 dsimp -zeta only
 rw [hsz]
 refine wpS_bind (wpS_mono (wpS_forRange
  (I:=fun x c st'=>∃lo,c=(none,lo)∧Tb a₀ kd st'∧Chn key (arrOf st') 0 (pendingOf st').toList lo∧lo≤a₀.size∧(x≤lo∨lo=a₀.size))
  (Q:=fun c st'=>c=(none,a₀.size)∧Tb a₀ kd st'∧Chn key (arrOf st') 0 (pendingOf st').toList a₀.size) ?step ?fin ⟨0,rfl,hT,by rw [hp];rfl,Nat.zero_le _, .inl (Nat.le_refl _)⟩) ?post)
 case fin=>
  intro c st' hz_
  refine Elim.el hz_ _ ?_
  clear hz_
  rintro lo rfl t ch h1 h2
  have:lo=a₀.size:=by (first|lia|omega)
  subst this
  exact ⟨rfl,t,ch⟩
 case post=>
  intro c st1 hz_
  refine Elim.el hz_ _ ?_
  clear hz_
  rintro rfl t1 ch1
  dsimp only
  refine wpS_bind (wpS_mono (wpS_forRange
   (I:=fun x c st'=>c=(none,())∧Tb a₀ kd st'∧Chn key (arrOf st') 0 (pendingOf st').toList a₀.size∧((pendingOf st').size≤1∨(pendingOf st').size+x≤a₀.size))
   (Q:=fun c st'=>c=(none,())∧Tb a₀ kd st'∧Chn key (arrOf st') 0 (pendingOf st').toList a₀.size∧(pendingOf st').size≤1) ?step2 ?fin2 ⟨rfl,t1,ch1, .inr (by have:=ch1.le;rw [Array.length_toList] at this; (first|lia|omega))⟩) ?post2)
  case fin2=>
   intro c st' hz_
   refine Elim.el hz_ _ ?_
   clear hz_
   rintro rfl t ch hs
   exact ⟨rfl,t,ch,by first|lia|omega⟩
  case post2=>
   intro c st' hz_
   refine Elim.el hz_ _ ?_
   clear hz_
   rintro rfl t ch hs
   refine wpS_pure (h st' t ?_)
   cases e:(pendingOf st').toList with
   | nil=>
    rw [e] at ch
    have ch:0=a₀.size:=ch
    intro p q _ _ h3; (first|lia|omega)
   | cons y r=>
    have hl:(pendingOf st').toList.length≤1:=by rw [Array.length_toList];exact hs
    rw [e] at ch hl
    have hr:r=[]:=by
     cases r with
     | nil=>rfl
     | cons _ _=>simp only [List.length_cons] at hl; (first|lia|omega)
    subst hr
    obtain ⟨y1,y2,y3⟩:=y
    obtain ⟨_,_,g1,g2⟩:=ch
    have g2:0+y2=a₀.size:=g2
    rw [g2] at g1;exact g1
  case step2=>
   intro x c st' _ hx hz_
   refine Elim.el hz_ _ ?_
   clear hz_
   rintro rfl t ch hs
   refine wpS_bind (wpS_get ?_)
   by_cases z:(pendingOf st').size≤1
   ·rw [if_pos z]
    exact wpS_pure ⟨rfl,t,ch,z⟩
   ·rw [if_neg z]
    refine wpS_bind (tm_mergeC hL t ch (Nat.le_refl _) (ite_lt2 (by first|lia|omega)) fun st2 t2 ch2 sz2 _ => ?_)
    exact wpS_pure ⟨rfl,t2,ch2,by first|lia|omega⟩
 case step=>
  intro x c st1 _ hx hz_
  refine Elim.el hz_ _ ?_
  clear hz_
  rintro lo rfl t1 ch1 h1 h2
  dsimp -zeta only
  extract_lets l0 jp fc n2
  refine ifS (fun z => ?_) fun z => ?_
  ·have:lo=a₀.size:=Nat.le_antisymm h1 z
   subst this
   exact wpS_pure ⟨rfl,t1,ch1⟩
  have z:¬lo≥a₀.size:=z
  have tl:∀(n:Nat) (st2:SortSt),Tb a₀ kd st2→1≤n→lo+n≤a₀.size→Sg key (arrOf st2) lo (lo+n)→∀p:Array (Nat×Nat×Nat),Chn key (arrOf st2) 0 p.toList lo →
    Tb a₀ kd (setPending st2 (p.push (lo,n,0)))∧Chn key (arrOf st2) 0 (p.push (lo,n,0)).toList (lo+n):=fun n st2 t2 n1 n2 s2 p hp'=>by
   refine ⟨⟨t2.perm,t2.kind,t2.failed⟩,?_⟩
   rw [Array.toList_push]
   exact hp'.app ⟨rfl,n1,s2,rfl⟩
  have af:Af a₀ kd lo st1 st1:=⟨t1.perm,t1.kind,t1.failed,rfl,fun _ _=>rfl⟩
  have back:∀{st2:SortSt},Af a₀ kd lo st1 st2→Tb a₀ kd st2∧Chn key (arrOf st2) 0 (pendingOf st2).toList lo:=fun {st2} f=>⟨⟨f.perm,f.kind,f.failed⟩,by rw [f.pend];exact ch1.same fun k _ hk=>f.low k hk⟩
  refine jpGoS (fun n:Nat=>jp () n) (fun n st2=>Af a₀ kd lo st1 st2∧1≤n∧lo+n≤a₀.size∧Sg key (arrOf st2) lo (lo+n)) (fun m st2 hz => ?_) fun H => ?_
  rotate_left
  ·refine wpS_bind (tm_count hL (by first|lia|omega) (by first|lia|omega) af fun m st2 f2 m1 m2 s2 => ?_)
   dsimp only [l0,fc,n2]
   refine ifS (fun zm => ?_) fun zm => ?_
   ·refine wpS_bind (wpS_lift (wpAny_rule ⟨rfl,?_⟩))
    refine wpS_bind (tm_bin hL (by first|lia|omega) (by first|lia|omega) f2 s2 fun st3 f3 s3 => ?_)
    simp only [Bool.not_true,Bool.false_eq_true,if_false]
    exact H _ st3 ⟨f3,by first|lia|omega,by first|lia|omega,s3⟩
   ·exact H _ st2 ⟨f2,m1,by first|lia|omega,s2⟩
  obtain ⟨f2,m1,m2,s2⟩:=hz
  have b2:=back f2
  refine wpS_bind (wpS_get ?_)
  dsimp only [l0]
  cases hb:(pendingOf st2).back? with
  | none=>
   dsimp only
   obtain ⟨u1,u2⟩:=tl m st2 b2.1 m1 m2 s2 (pendingOf st2) b2.2
   exact wpS_bind (wpS_modify (wpS_pure ⟨_,rfl,u1,u2,m2, .inl (by first|lia|omega)⟩))
  | some y=>
   obtain ⟨y1,y2,y3⟩:=y
   dsimp only
   refine wpS_bind (wpS_mono (wpS_forRange
    (I:=fun _ c st'=>c=(none,())∧Tb a₀ kd st'∧Chn key (arrOf st') 0 (pendingOf st').toList lo∧Sg key (arrOf st') lo (lo+m))
    (Q:=fun c st'=>c=(none,())∧Tb a₀ kd st'∧Chn key (arrOf st') 0 (pendingOf st').toList lo∧Sg key (arrOf st') lo (lo+m)) ?step4 (fun _ _ hh=>hh) ⟨rfl,b2.1,b2.2,s2⟩) ?post4)
   case post4=>
    intro c st5 hz_
    refine Elim.el hz_ _ ?_
    clear hz_
    rintro rfl t5 c5 s5
    dsimp only
    have c6:Chn key (arrOf st5) 0 ((pendingOf st5).modify ((pendingOf st5).size-1) fun z=>(z.1,z.2.1,power' a₀.size (2*y1+y2) (2*y1+y2+y2+m) a₀.size)).toList lo:=by
     rw [Array.toList_modify]
     refine Chn.pow (fun _ => ?_) c5
     exact ⟨rfl,rfl⟩
    obtain ⟨u1,u2⟩:=tl m st5 t5 m1 m2 s5 _ c6
    exact wpS_bind (wpS_modify (wpS_bind (wpS_modify (wpS_pure ⟨_,rfl,u1,u2,m2, .inl (by first|lia|omega)⟩))))
   case step4=>
    intro x5 c st5 _ _ hz_
    refine Elim.el hz_ _ ?_
    clear hz_
    rintro rfl t5 c5 s5
    refine wpS_bind (wpS_get ?_)
    by_cases z5:(pendingOf st5).size>1
    ·have hb5:(pendingOf st5).size-2<(pendingOf st5).size:=by (first|lia|omega)
     rw [if_pos z5,getElem?_pos (pendingOf st5) ((pendingOf st5).size-2) hb5]
     obtain ⟨⟨v1,v2,v3⟩,ev⟩:∃v,(pendingOf st5)[(pendingOf st5).size-2]'hb5=v:=⟨_,rfl⟩
     rw [ev]
     dsimp only
     refine ifS (fun _=>wpS_pure ⟨rfl,t5,c5,s5⟩) fun _ => ?_
     refine wpS_bind (tm_mergeC hL t5 c5 h1 (by first|lia|omega) fun st6 t6 c6 _ o6 => ?_)
     exact wpS_pure ⟨rfl,t6,c6,sg_same (fun k hk _=>o6 k hk) s5⟩
    ·rw [if_neg z5]
     exact wpS_pure ⟨rfl,t5,c5,s5⟩
end
end L2
namespace L2
open PySem PySem.Spec PyProof.Rows
section
variable {prog:Program} {w:World} {A:Around} {E:Value→Shared→Prop} {s:Shared}
end
section
variable {X:Cx} (K:PySem.W.Frag)
end
end L2
namespace L2
open PySem PySem.Spec PyProof.Rows PySem.W
noncomputable def TrD (h base:Heap) (e:Addr) (cls a0:Value) (dx:Option Addr) (fl:Value):Prop:=∃oe vs T oT ts,
 h.get? e=some oe∧oe.cls=cls∧oe.dict=dx∧oe.data = .fields vs∧vs[0]? = some a0∧vs[1]? = some (.ref T)∧base.get? T=none∧T≠e∧h.get? T=some oT∧oT.data = .fields ts∧ts[3]? = some fl
noncomputable def FlyD (base:Heap) (l:List Env) (e:Addr) (cls a0:Value) (dx:Option Addr) (h:Heap):Prop:=base.StaysIn h∧base.get? e=none∧h.FunFrames base l∧TrD h base e cls a0 dx .none
noncomputable def HeldD (base:Heap) (l:List Env) (e:Addr) (cls a0:Value) (dx:Option Addr) (L:Addr) (h:Heap):Prop:=base.StaysIn h∧base.get? e=none∧h.FunFrames base l∧TrD h base e cls a0 dx (rawInt L)
theorem FlyD.own {base h:Heap} {l:List Env} {e:Addr} {cls a0:Value} {dx:Option Addr} (x:FlyD base l e cls a0 dx h):∃o,h.get? e=some o∧o.cls=cls∧o.dict=dx∧∃vs,o.data = .fields vs:=by
 obtain ⟨_,_,_,oe,vs,T,oT,ts,a1,a2,a3,a4,_⟩:=x
 exact ⟨oe,a1,a2,a3,vs,a4⟩
section
variable {M:Model} {A:Around} {E:Value→Shared→Prop} {s:Shared} {base:Heap} {env:Env} {outer:List Env} {L e:Addr} {cls a0:Value} {dx:Option Addr} {Q:Unit→Shared→Prop}
theorem trace_laid {oe:Obj} {vs:Array Value} {head:Value} {hn:Bool} (hfr:A.frames=some (env :: outer)) (fun_:s.heap.FunFrames base (env :: outer)) (hf:env.frame=some L) (he:s.heap.get? e=some oe) (stay:base.StaysIn s.heap) (new:base.get? e=none)
  (hd:oe.data = .fields vs) (sz:1<vs.size) (h0:vs[0]? = some a0)
  (q:∀h',base.StaysIn h'→h'.FunFrames base (env :: outer)→TrD h' base e oe.cls a0 oe.dict (rawInt L)→s.heap.UpToSlots h'→Q () { s with heap:=h' }) :
  wpAny M A (do let a ←frameOf env;let pl ←entryPlaceOf L hn;let b ←EntryCells.newEntry head a .none (rawInt L) .none pl;setField (.ref e) 1 b) Q E s:=by
 have apart:e ∉ (env :: outer).filterMap (·.frame):=fun m=>by
  obtain ⟨_,o,ho,nf⟩:=fun_.mem m
  rw [he] at ho;cases ho
  exact nf vs hd
 refine wpAny_bind (wpAny_frameOf_fun hfr fun_ hf fun h1 so=>wpAny_bind (wpAny_entryPlaceOf fun pl isp => ?_))
 unfold EntryCells.newEntry newFields
 refine wpAny_bind (wpAny_newObj_type ?_ (isp.sizeOk5 _ _ _ _ _))
 obtain ⟨tr,etr⟩:∃tr:Obj,tr={ cls := .type "traceback",dict:=none,data := .fields ([head, .ref L, .none,rawInt L, .none]++(if pl.isEmpty then List.replicate 6 Value.none else pl)).toArray }:=⟨_,rfl⟩
 rw [←etr]
 have e1:h1.get? e=some oe:=(so.2.1 e apart).trans he
 have st1:base.StaysIn h1:=fun b o x=>(so.2.1 b fun m=>by rw [(fun_.mem m).1] at x;cases x).trans (stay b o x)
 have e2:(h1.push tr).get? e=some oe:=Heap.get?_push_of_some _ e1
 refine wpAny_setField e2 hd sz (q _ ?_ ?_ ?_ ?_)
 all_goals have nT:h1.objs.size≠e:=Nat.ne_of_gt (Heap.lt_size e1)
 all_goals have kp:∀b o,b≠e→h1.get? b=some o→((h1.push tr).update e (Obj.mapFields (·.setIfInBounds 1 (Value.ref h1.objs.size)))).get? b=some o:=fun b o nb x=>(Heap.get?_update_other _ _ (Ne.symm nb)).trans (Heap.get?_push_of_some _ x)
 all_goals have nr:∀b o,s.heap.get? b=some o→(∀ws,o.data ≠ .fields ws)→b≠e:=fun b o x nf z=>(by rw [z,he] at x;cases x;exact nf vs hd)
 ·exact fun b o x=>kp b o (fun z=>by rw [z,new] at x;cases x) (st1 b o x)
 ·refine fun_.of_keeps fun b o x nf => ?_
  obtain ⟨sl,hs⟩:=so.2.2 b o x
  exact ⟨_,kp b _ (nr b o x nf) hs,rfl⟩
 ·have d3:=Obj.data_mapFields hd (·.setIfInBounds 1 (Value.ref h1.objs.size))
  have e3:=Heap.get?_update_self (Obj.mapFields (·.setIfInBounds 1 (Value.ref h1.objs.size))) e2 (Obj.isFreed_of_fields d3)
  refine ⟨_,_,h1.objs.size,tr,_,e3,Obj.cls_mapFields _ _,?_,d3,by rw [Array.getElem?_setIfInBounds_ne (by decide)];exact h0,by simp [sz],st1.fresh,nT,(Heap.get?_update_other _ _ (Ne.symm nT)).trans (Heap.get?_push_size h1 (by rw [etr];rfl)),by rw [etr],?_⟩
  ·obtain ⟨c1,c2,c3,c4⟩:=oe
   cases c3 <;> rfl
  ·first
    | (simp;done)
    | (rcases isp with rfl|⟨_,_,_,_,_,_,_,rfl⟩ <;> simp)
 ·intro b o x nf
  obtain ⟨sl,hs⟩:=so.2.2 b o x
  exact ⟨sl,kp b _ (nr b o x nf) hs⟩
theorem note_first {oe:Obj} {vs:Array Value} (hfr:A.frames=some (env :: outer)) (fun_:s.heap.FunFrames base (env :: outer)) (hf:env.frame=some L) (he:s.heap.get? e=some oe) (stay:base.StaysIn s.heap) (new:base.get? e=none)
  (hd:oe.data = .fields vs) (h1:vs[1]? = some .none) (h0:vs[0]? = some a0) (q:∀h',HeldD base (env :: outer) e oe.cls a0 oe.dict L h'→s.heap.UpToSlots h'→Q () { s with heap:=h' }):wpAny M A (noteFrame (.ref e) env) Q E s:=by
 unfold noteFrame
 simp only [hf]
 refine wpAny_bind (wpAny_field he hd h1 ?_)
 rw [if_neg (by decide)]
 exact trace_laid hfr fun_ hf he stay new hd (Array.getElem?_eq_some_iff.mp h1).1 h0 fun h' k1 k2 k3 k4=>q h' ⟨k1,new,k2,k3⟩ k4
theorem slot_set {T:Addr} {oT:Obj} {ts:Array Value} {x:Value} (hT:s.heap.get? T=some oT) (dT:oT.data = .fields ts) (nT:base.get? T=none) (stay:base.StaysIn s.heap) {l:List Env} (fun_:s.heap.FunFrames base l) :
  (∀b,b≠T→(s.heap.update T (Obj.mapFields (·.setIfInBounds 3 x))).get? b=s.heap.get? b)∧base.StaysIn (s.heap.update T (Obj.mapFields (·.setIfInBounds 3 x)))∧(s.heap.update T (Obj.mapFields (·.setIfInBounds 3 x))).FunFrames base l ∧
   ∀b o,s.heap.get? b=some o→(∀ws,o.data ≠ .fields ws)→(s.heap.update T (Obj.mapFields (·.setIfInBounds 3 x))).get? b=some o:=by
 have off:∀b,b≠T→(s.heap.update T (Obj.mapFields (·.setIfInBounds 3 x))).get? b=s.heap.get? b:=fun b nb=>Heap.get?_update_other _ _ (Ne.symm nb)
 have kp:∀b o,s.heap.get? b=some o→(∀ws,o.data ≠ .fields ws)→(s.heap.update T (Obj.mapFields (·.setIfInBounds 3 x))).get? b=some o:=fun b o z nf=>
  (off b fun w=>by rw [w,hT] at z;cases z;exact nf ts dT).trans z
 exact ⟨off,fun b o z=>(off b fun w=>by rw [w,nT] at z;cases z).trans (stay b o z),fun_.of_keeps fun b o z nf=>⟨o,kp b o z nf,rfl⟩,kp⟩
theorem note_on (hfr:A.frames=some (env :: outer)) (hf:env.frame=some L) (fly:FlyD base (env :: outer) e cls a0 dx s.heap) (q:∀h',HeldD base (env :: outer) e cls a0 dx L h'→s.heap.UpToSlots h'→Q () { s with heap:=h' }):wpAny M A (noteFrame (.ref e) env) Q E s:=by
 obtain ⟨stay,new,fun_,oe,vs,T,oT,ts,he,rfl,rfl,hd,h0,h1,nT,ne,hT,dT,h3⟩:=fly
 obtain ⟨off,st2,fu2,kp⟩:=slot_set (x := .none) hT dT nT stay fun_
 unfold noteFrame
 simp only [hf]
 refine wpAny_bind (wpAny_field he hd h1 ?_)
 rw [if_pos (show (Value.ref T != Value.none)=true by simp)]
 refine wpAny_bind (wpAny_field hT dT h3 ?_)
 rw [if_neg (show ¬((Value.none == rawInt L)=true) by simp [rawInt])]
 refine wpAny_bind (wpAny_setField hT dT (Array.getElem?_eq_some_iff.mp h3).1 ?_)
 refine trace_laid hfr fu2 hf ((off e (Ne.symm ne)).trans he) st2 new hd (Array.getElem?_eq_some_iff.mp h1).1 h0 fun h' k1 k2 k3 k4=>q h' ⟨k1,new,k2,k3⟩ fun b o z nf=>k4 b o (kp b o z nf) nf
theorem lands {l:List Env} {fl:Value} (stay:base.StaysIn s.heap) (new:base.get? e=none) (fun_:s.heap.FunFrames base l) (tr:TrD s.heap base e cls a0 dx fl) (q:∀h',FlyD base l e cls a0 dx h'→s.heap.UpToSlots h'→Q () { s with heap:=h' }) :
  wpAny M A (setFlight (.ref e) none) Q E s:=by
 obtain ⟨oe,vs,T,oT,ts,he,rfl,rfl,hd,h0,h1,nT,ne,hT,dT,h3⟩:=tr
 have sz3:3<ts.size:=(Array.getElem?_eq_some_iff.mp h3).1
 obtain ⟨off,st2,fu2,kp⟩:=slot_set (x:=(none:Option Addr).elim Value.none fun f=>rawInt f) hT dT nT stay fun_
 unfold setFlight
 refine wpAny_bind (wpAny_field he hd h1 ?_)
 rw [if_pos (show (Value.ref T != Value.none)=true by simp)]
 have dT':=Obj.data_mapFields dT (·.setIfInBounds 3 ((none:Option Addr).elim Value.none fun f=>rawInt f))
 exact wpAny_setField hT dT sz3 (q _ ⟨st2,new,fu2,oe,vs,T,_,_,(off e (Ne.symm ne)).trans he,rfl,rfl,hd,h0,h1,nT,ne,Heap.get?_update_self _ hT (Obj.isFreed_of_fields dT'),dT',by simp [sz3]⟩ fun b o z nf=>⟨o.slots,kp b o z nf⟩)
theorem FlyD.tail {h:Heap} (x:FlyD base (env :: outer) e cls a0 dx h):FlyD base outer e cls a0 dx h:=let ⟨a,b,⟨_,_,c⟩,d⟩:=x; ⟨a,b,c,d⟩
theorem leaves_first {oe:Obj} {vs:Array Value} (hfr:A.frames=some (env :: outer)) (fun_:s.heap.FunFrames base (env :: outer)) (hf:env.frame=some L) (he:s.heap.get? e=some oe) (stay:base.StaysIn s.heap) (new:base.get? e=none)
  (hd:oe.data = .fields vs) (h1:vs[1]? = some .none) (h0:vs[0]? = some a0) (q:∀h',FlyD base outer e oe.cls a0 oe.dict h'→s.heap.UpToSlots h'→Q () { s with heap:=h' }):wpAny M A (leaving env (.ref e)) Q E s:=by
 unfold leaving
 exact wpAny_bind (note_first hfr fun_ hf he stay new hd h1 h0 fun h1 hd up=>lands hd.1 hd.2.1 hd.2.2.1 hd.2.2.2 fun h2 fly2 up2=>q h2 fly2.tail (up.trans up2))
end
end L2
namespace L2
open PySem PySem.Spec PyProof.Rows PySem.W
theorem ObjOk.ex {P:Program} {w:World} {H:Hp} {h:Heap} {a:Addr} {o:HO} (x:ObjOk P w H h a o):∃q,h.get? a=some q:=by
 cases o with
 | lst xs=>obtain ⟨_,_,_,_,e⟩:=x;exact ⟨_,e⟩
 | tup xs=>obtain ⟨_,_,_,_,e,_⟩:=x;exact ⟨_,e⟩
 | dK kvs=>obtain ⟨_,_,_,_,_,_,_,e,_⟩:=x;exact ⟨_,e⟩
 | dT kvs=>obtain ⟨_,_,_,_,_,_,_,e,_⟩:=x;exact ⟨_,e⟩
 | set S n=>obtain ⟨_,_,_,_,e,_⟩:=x;exact ⟨_,e⟩
 | ins C dx fs=>exact ⟨_,x.2.2.2.1⟩
 | own y=>exact x
 | xd fs=>obtain ⟨_,⟨_,_,_,e,_⟩,_⟩:=x;exact ⟨_,e⟩
 | rng lo hi=>obtain ⟨_,_,_,e⟩:=x;exact ⟨_,e⟩
 | frz ob u=>exact ⟨_,x.1⟩
 | tbl ps=>exact ⟨_,x⟩
 | met f y=>exact ⟨_,x⟩
 | ext φ=>exact x.2.1
theorem HOk.part {P:Program} {w:World} {H:Hp} {h h' B:Heap} (x:HOk P w H h) (hB:B.StaysIn h) (hB':B.StaysIn h') (hin:∀b u,H b=some u→∃o,B.get? b=some o):HOk P w H h':=fun a o e=>
 (x a o e).stay (fun b u hb q=>by
  obtain ⟨o',eo⟩:∃o',B.get? b=some o':=by
   rcases hb with hb|hb
   ·subst hb;exact hin _ _ e
   ·exact hin _ _ hb
  have:=hB b o' eo
  rw [q] at this;cases this
  exact hB' b _ eo) (fun _ q=>q) fun _ _ q=>q
noncomputable def drp (H:Hp) (a:Addr):Hp:=fun b=>if b=a then none else H b
theorem drp_same {H:Hp} {a:Addr} : drp H a a=none:=if_pos rfl
theorem drp_ne {H:Hp} {a b:Addr} (h:b≠a):drp H a b=H b:=if_neg h
noncomputable def CXE (P:Program) (w:World) (base:Heap):CXT:=fun outer H s E e s'=>Ex6 fun ea cls t B H' dx=>e = .ref ea∧s'.os=s.os∧AllBare s'.gens∧Un (frs outer) [] H H' s.heap s'.heap∧HOk P w H' s'.heap ∧
 base.StaysIn B∧(∀b o,s.heap.get? b=some o→b ∉ frs outer→∃o',B.get? b=some o')∧(∀b u,H' b=some u→∃o',B.get? b=some o')∧FlyD B outer ea cls (.ref t) dx s'.heap∧E cls dx H'
theorem fun_data {base h:Heap} : ∀{l:List Env} {b:Addr},h.FunFrames base l→b∈frs l→∃o,h.get? b=some o∧∀vs,o.data ≠ .fields vs:=fun {l b} hl hb=>by
 refine Elim.el (hl.mem hb) _ ?_
 rintro _ o e n
 exact ⟨o,e,n⟩
section
variable {P:Program} {w:World} {K:PySem.W.Frag} {mg:Str→Option Value} {base:Heap} {N:List Str} {qual:Str} {scope:Scope} {f:Addr} {cd:Value} {A:Around} {outer:List Env} {s0:Shared} {H0:Hp} {E:XK}
theorem exc_leaves {pins:List (Addr×Obj)} {σ:St} {H:Hp} {s:Shared} {e t:Addr} {oe:Obj} {vs:Array Value}
  (I:Inv (cxOf (CXE P w base) P w K mg base N qual scope f cd A outer s0 H0 E) pins σ H s) (he:s.heap.get? e=some oe) (new:s0.heap.get? e=none) (hd:oe.data = .fields vs) (v1:vs[1]? = some .none) (v0:vs[0]? = some (.ref t))
  (let_:H e=none∨∃ φ,H e=some (.ext φ)) (hE:E oe.cls oe.dict (drp H e)):(cxOf (CXE P w base) P w K mg base N qual scope f cd A outer s0 H0 E).xe (.ref e) s:=by
 let env:=envOfC qual scope s0.heap.objs.size f cd
 let B:=hideAll s.heap (e :: frs (env :: outer))
 have hst:B.StaysIn s.heap:=fun b o q=>of_hideAll _ q
 have hfun:s.heap.FunFrames base (env :: outer):=I.stack
 have hfr:(A.deeper env).frames=some (env :: outer):=I.ok.frames
 have hLs:∀b o,s0.heap.get? b=some o→b≠s0.heap.objs.size:=fun b o q=>Nat.ne_of_lt (Heap.lt_size q)
 have hes:∀b o,s0.heap.get? b=some o→b≠e:=fun b o q z=>by rw [z,new] at q;cases q
 have hmem:∀b,b∈frs (env :: outer)→b=s0.heap.objs.size∨b∈frs outer:=fun b hb=>by
  have:b∈(env :: outer).filterMap (·.frame):=hb
  rw [List.filterMap_cons] at this
  exact List.mem_cons.mp this
 have hbs:∀b o,base.get? b=some o→b≠e:=fun b o q z=>by
  have q0:=I.ok.bs b o q
  exact hes b _ q0.1 z
 have hin:∀b u,drp H e b=some u→∃o,B.get? b=some o:=fun b u q=>by
  have nb:b≠e:=fun z=>by rw [z,drp_same] at q;cases q
  rw [drp_ne nb] at q
  obtain ⟨o,eo⟩:=(I.hok b u q).ex
  refine ⟨o,hideAll_get _ eo fun z => ?_⟩
  rcases List.mem_cons.mp z with z|z
  ·exact nb z
  ·have:=I.stkFree b z
   rw [q] at this;cases this
 have hbB:base.StaysIn B:=fun b o q=>by
  refine hideAll_get _ (I.bs b o q).1 fun z => ?_
  rcases List.mem_cons.mp z with z|z
  ·exact hbs b o q z
  ·have:=(hfun.mem z).1
   rw [q] at this;cases this
 have ub:Un (frs outer) [] H0 H s0.heap s.heap:=I.base
 show wpAny _ _ (leaving env (.ref e)) _ _ _
 refine leaves_first (base:=B) hfr (funFrames_hide hfun fun v hv a ha=>List.mem_cons_of_mem _ (List.mem_filterMap.mpr ⟨v,hv,ha⟩)) rfl he hst (hideAll_none _ (List.mem_cons_self ..)) hd v1 v0 fun h' fly up => ?_
 have hk:∀b o,b≠e→b ∉ frs (env :: outer)→s.heap.get? b=some o→h'.get? b=some o:=fun b o ne hb q=>fly.1 b o (hideAll_get _ q fun z=>(List.mem_cons.mp z).elim ne hb)
 have hslot:∀b o,b∈frs (env :: outer)→s.heap.get? b=some o→∃sl,h'.get? b=some { o with slots:=sl }:=fun b o hb q=>by
  refine Elim.el (fun_data hfun hb) _ ?_
  rintro o' e' nf
  rw [q] at e';cases e'
  exact up b o q nf
 have old:∀b o,s0.heap.get? b=some o→b ∉ frs outer→b ∉ frs (env :: outer):=fun b o q hb z=>(hmem b z).elim (hLs b o q) hb
 have hdrop:HOk P w (drp H e) s.heap:=fun b u q=>by
  have nb:b≠e:=fun z=>by rw [z,drp_same] at q;cases q
  rw [drp_ne nb] at q
  refine (I.hok b u q).stay (fun _ _ _ z=>z) (fun c z => ?_) fun c xs z => ?_
  all_goals
   have nc:c≠e:=fun y=>by
    rw [y] at z
    rcases let_ with l|⟨φ,l⟩ <;> (rw [l] at z;cases z)
   rw [drp_ne nc];exact z
 have keepL:∀b o,H0 b=some o→(∀ φ,H b≠some (.ext φ))→H b≠none→drp H e b=H b:=fun b o q n1 n2=>by
  refine drp_ne fun z => ?_
  rw [z] at n1 n2
  rcases let_ with l|⟨φ,l⟩
  ·exact n2 l
  ·exact n1 φ l
 refine ⟨e,oe.cls,t,B,drp H e,oe.dict,rfl,I.os,I.bare,⟨?_,?_,?_,?_,?_,?_,?_⟩,hdrop.part hst fly.1 hin,hbB,?_,hin,fly,hE⟩
 ·exact fun b o q n hb hx'=>hk b o (hes b o q) (old b o q hb) (ub.keep b o q n hb hx')
 ·intro b o q n hb hx'
  obtain ⟨sl,e1⟩:=ub.slot b o q n hb hx'
  obtain ⟨sl',e2⟩:=hslot b _ (by show b∈(env :: outer).filterMap (·.frame);rw [List.filterMap_cons];exact List.mem_cons_of_mem _ hb) e1
  exact ⟨sl',e2⟩
 ·intro b o q n hx'
  rw [drp_ne (hes b o q)]
  exact ub.free b o q n hx'
 ·intro b o q hx'
  obtain ⟨o1,e1⟩:=ub.there b o q hx'
  by_cases hb:b∈frs (env :: outer)
  ·obtain ⟨sl,e2⟩:=hslot b o1 hb e1
   exact ⟨_,e2⟩
  ·exact ⟨o1,hk b o1 (hes b o q) hb e1⟩
 ·intro b xs q
  have z:=ub.tups b xs q
  rw [keepL b _ q (fun φ y=>by rw [z] at y;cases y) (fun y=>by rw [z] at y;cases y)]
  exact z
 ·intro b o u q
  have z:=ub.frzs b o u q
  rw [keepL b _ q (fun φ y=>by rw [z] at y;cases y) (fun y=>by rw [z] at y;cases y)]
  exact z
 ·intro b ps q
  obtain ⟨m,z⟩:=ub.tbls b ps q
  refine ⟨m,?_⟩
  rw [keepL b _ q (fun φ y=>by rw [z] at y;cases y) (fun y=>by rw [z] at y;cases y)]
  exact z
 ·intro b o q hb
  obtain ⟨o1,e1⟩:=ub.there b o q (by simp)
  exact ⟨o1,hideAll_get _ e1 fun z=>(List.mem_cons.mp z).elim (hes b o q) (old b o q hb)⟩
end
end L2
namespace L2
open PySem PySem.Spec PyProof.Rows PySem.W
noncomputable def Et (X:Cx) (pins:List (Addr×Obj)) (σ0:St) (E':XK):Value→Shared→Prop:=fun e s'=>Ex3 fun pins' H s=>Inv X (pins++pins') σ0 H s∧CXE X.prog X.w X.base X.stack H s E' e s'
noncomputable def xB (X:Cx) (pins:List (Addr×Obj)) (σ0:St) (E':XK):Cx:={ X with pn:=X.pn++pins,xe:=Et X pins σ0 E' }
noncomputable def xH (X:Cx) (e:Addr):Cx:={ X with A:=X.A.mark (some (.ref e)),calm:=false,xe:=fun _ _=>False }
section
variable {X:Cx} {pins pins':List (Addr×Obj)} {σ σ0:St} {E':XK} {H:Hp} {s:Shared}
theorem Inv.toB (I:Inv X pins σ H s):Inv (xB X pins σ0 E') [] σ H s:=
 ⟨⟨I.ok.mod,I.ok.kind,I.ok.glob,I.ok.blt,I.ok.above,I.ok.inj,I.ok.has,I.ok.cab,I.ok.hd,I.ok.frames,I.ok.stk,I.ok.exf,I.ok.bs,I.ok.bsz,I.ok.noex,I.ok.exfs,I.ok.funs,I.ok.frf⟩,I.os,I.bare,I.base,I.loc,I.cell,I.free,I.freeC,
  fun p hp=>I.pin p (by have hp:p∈(X.pn++pins)++[]:=hp;simpa using hp),I.hok,I.len⟩
theorem Inv.ofB (I:Inv (xB X pins σ0 E') pins' σ H s):Inv X (pins++pins') σ H s:=
 ⟨⟨I.ok.mod,I.ok.kind,I.ok.glob,I.ok.blt,I.ok.above,I.ok.inj,I.ok.has,I.ok.cab,I.ok.hd,I.ok.frames,I.ok.stk,I.ok.exf,I.ok.bs,I.ok.bsz,I.ok.noex,I.ok.exfs,I.ok.funs,I.ok.frf⟩,I.os,I.bare,I.base,I.loc,I.cell,I.free,I.freeC,
  fun p hp=>I.pin p (by show p∈(X.pn++pins)++pins';simpa [List.append_assoc] using hp),I.hok,I.len⟩
theorem Inv.toH {e:Addr} (I:Inv X pins σ H s):Inv (xH X e) pins σ H s:=
 ⟨⟨I.ok.mod,I.ok.kind,I.ok.glob,I.ok.blt,I.ok.above,I.ok.inj,I.ok.has,I.ok.cab,fun z=>Bool.noConfusion z,I.ok.frames,I.ok.stk,I.ok.exf,I.ok.bs,I.ok.bsz,I.ok.noex,I.ok.exfs,I.ok.funs,I.ok.frf⟩,I.os,I.bare,I.base,I.loc,I.cell,I.free,I.freeC,I.pin,I.hok,I.len⟩
theorem Inv.ofH {e:Addr} (k:X.Ok) (I:Inv (xH X e) pins σ H s):Inv X pins σ H s:=
 ⟨k,I.os,I.bare,I.base,I.loc,I.cell,I.free,I.freeC,I.pin,I.hok,I.len⟩
noncomputable def tCallAt (σ0:St) (sp:Sp) (E:XK) (t:TA):TE:=fun σ H Q => σ = σ0∧t σ H fun vs H1=>sp vs H1 Q E
theorem pe_fnT {k:Nat} {f:Addr} {fd:FuncData} {ps:List Str} {sp:Sp} {x:Str} {e:Expr} {es:List Expr} {t:TA} {p pos:Pos} (F:FnOk X.prog X.w X.K X.mg X.base (CXE X.prog X.w X.base) k f fd ps sp) (hr:Room k X.A) (hg:Gl X x) (hm:X.mg x=some (.ref f))
  (hk:PySem.W.keepIn X.K (.ref f)=true) (hb:Binds X.K fd ps []) (ha:PA (xB X pins σ0 E') (e :: es) t) (hdb:(x == ("__debug__" : Str))=false:=by decide)
  (he:starEach (e :: es) X.env=(false,eval e X.env) :: starEach es X.env:=by rfl) (hpl:(backTo pos (starEach es X.env)).any (·.1)=false:=by rfl) :
  PE (xB X pins σ0 E') (.Call (.Name x p) (e :: es) [] pos) (tCallAt σ0 sp E' t):=by
 intro pl s σ H Q I h
 obtain ⟨hσ,h⟩:=h
 subst hσ
 refine wpAny_Call_Name_kw (ld_glob (X:=xB X pins σ E') I hg hm ?_ hdb)
 refine PySem.W.callWith_K (h₀:=X.base) I.ok.mod.kin hk (thn (ha s σ H _ I h) fun us s1 ⟨vs,H1,I1,r,q⟩=>⟨I1.kIn,?_⟩) he hpl
 have J1:Inv X (pins++pl) σ H1 s1:=I1.ofB
 have hl:us.length=ps.length:=by rw [←r.length];exact F.len _ _ _ _ q
 have hb1:=hb s1 us J1.kIn (by simpa using hl)
 refine wpAny_call (codeAny_mono (F.run X.A X.stack s1 H1 ⟨us,[]⟩ us vs Q E' hr J1.env0 (by simpa using hb1) r q) fun r s' hq => ?_)
 cases r with
 | error e=>exact ⟨pl,H1,s1,J1,hq⟩
 | ok fl=>
  cases fl with
  | ret u=>exact I1.after hq
  | next=>exact False.elim hq
  | brk=>exact False.elim hq
  | cont=>exact False.elim hq
end
theorem Un.land {st:List Env} {H H':Hp} {h h1 h3 B:Heap} (u:Un (frs st) [] H H' h h1) (hold:∀b o,h.get? b=some o→b ∉ frs st→∃o',B.get? b=some o') (k1:B.StaysIn h1) (k3:B.StaysIn h3) (hf:h1.FunFrames B st) (up:h1.UpToSlots h3) :
  Un (frs st) [] H H' h h3:=by
 have step:∀b o,h.get? b=some o→b ∉ frs st→∀o1,h1.get? b=some o1→h3.get? b=some o1:=fun b o q hb o1 e1=>by
  obtain ⟨o',eo⟩:=hold b o q hb
  have e2:=k1 b o' eo
  rw [e1] at e2;cases e2
  exact k3 b _ eo
 have sl:∀b o,b∈frs st→h1.get? b=some o→∃l,h3.get? b=some { o with slots:=l }:=fun b o hb q=>by
  refine Elim.el (fun_data hf hb) _ ?_
  rintro o' e' nf
  rw [q] at e';cases e'
  exact up b o q nf
 refine ⟨fun b o q n hb hx=>step b o q hb o (u.keep b o q n hb hx),fun b o q n hb hx => ?_,u.free,fun b o q hx => ?_,u.tups,u.frzs,u.tbls⟩
 ·obtain ⟨l1,e1⟩:=u.slot b o q n hb hx
  obtain ⟨l2,e2⟩:=sl b _ hb e1
  exact ⟨l2,e2⟩
 ·obtain ⟨o1,e1⟩:=u.there b o q hx
  by_cases hb:b∈frs st
  ·obtain ⟨l,e2⟩:=sl b o1 hb e1
   exact ⟨_,e2⟩
  ·exact ⟨o1,step b o q hb o1 e1⟩
theorem looks_cls {M:Model} {h:Heap} {e:Addr} {o:Obj} (he:h.get? e=some o):Looks M h (typeOf (.ref e)) o.cls:=by
 exact (Looks.ld he).andThen .now
section
variable {X:Cx} {L:Addr}
noncomputable def tTry0 (K:PySem.W.Frag) (C:Addr) (tb:St→XK→TS) (th:TS):TS:=fun D σ H=>∃E':XK,tb σ E' D σ H∧∀cls dx H',E' cls dx H'→exmOne K cls (.ref C)=some true∧th D σ H'
theorem ps_try0 {c:Str} {C:Addr} {body suite:List Stmt} {b0:Stmt} {tb:St→XK→TS} {th:TS} {np hp pos:Pos} (hst:X.stack=X.env :: X.outer) (hfm:X.env.frame=some L) (hg:Gl X c) (hm:X.mg c=some (.ref C))
  (hb:∀pins σ0 E',PSs (xB X pins σ0 E') body (tb σ0 E')) (hh:∀e,PSs (xH X e) (b0 :: suite) th) (hd:(c == ("__debug__" : Str))=false:=by decide) :
  PS X (.Try body [.ExceptHandler (some (.Name c np)) none (b0 :: suite) hp] [] [] pos) (tTry0 X.K C tb th):=by
 intro pins s σ H D I h
 obtain ⟨E',hb',hc⟩:=h
 refine wpAny_Try_except (wpAny_mono (hb pins σ E' s σ H D I.toB hb') (fun f s1 q => ?_) fun ev s1 q => ?_)
 ·cases f with
  | next=>
   obtain ⟨σ',H',J,q⟩:=q
   have J:=J.ofB
   rw [List.append_nil] at J
   exact wpAny_execs_nil ⟨σ',H',J,q⟩
  | brk=>
   obtain ⟨σ',H',J,q⟩:=q
   have J:=J.ofB
   rw [List.append_nil] at J
   exact ⟨σ',H',J,q⟩
  | cont=>
   obtain ⟨σ',H',J,q⟩:=q
   have J:=J.ofB
   rw [List.append_nil] at J
   exact ⟨σ',H',J,q⟩
  | ret u=>
   obtain ⟨v, σ',H',J,r,q⟩:=q
   have J:=J.ofB
   rw [List.append_nil] at J
   exact ⟨v, σ',H',J,r,q⟩
 ·obtain ⟨pins',H1,s0,J,ea,cls,t,B,H',dx,rfl,os',bare',u1,hok',hbB,hold,hin,fly,q⟩:=q
  obtain ⟨hx,ht⟩:=hc _ _ _ q
  have hfr:X.A.frames=some (X.env :: X.outer):=by rw [←hst];exact J.ok.frames
  have fly':=fly
  rw [hst] at fly'
  refine note_on hfr hfm fly' fun h4 held4 up4 => ?_
  refine lands held4.1 held4.2.1 held4.2.2.1 held4.2.2.2 fun h5 fly5 up5 => ?_
  have at_:∀{h9:Heap},B.StaysIn h9→s1.heap.UpToSlots h9→Inv X pins σ H' { s1 with heap:=h9 }:=fun {h9} k9 up9=>
   (J.call' (s':={ s1 with heap:=h9 }) (ch:=[]) os' (u1.land hold fly.1 k9 fly.2.2.1 up9) (hok'.part fly.1 k9 hin) bare' (fun b z=>absurd z (by simp))).unpinned
  have J5:=at_ fly5.1 (up4.trans up5)
  obtain ⟨ob,hob,hcl,_⟩:=fly5.own
  refine wpAny_handleBy_cons (codeAny_handlers_test (ld_glob (X:=xH X ea) J5.toH hg hm ?_ hd)) (by intro z;cases z)
  refine exm_one (K:=X.K) J5.kIn (by rw [←hcl];exact looks_cls hob) hx _ _ _ _ (fun b o z=>z) ?_
  refine codeAny_handlers_suite (lands fly5.1 fly5.2.1 fly5.2.2.1 fly5.2.2.2 fun h6 fly6 up6 => ?_)
  have J6:=at_ fly6.1 ((up4.trans up5).trans up6)
  refine wpAny_mono (hh ea _ σ H' D J6.toH ht) (fun f s7 q7 => ?_) fun _ _ z=>False.elim z
  cases f with
  | next=>obtain ⟨σ',H7,J7,q7⟩:=q7;exact ⟨σ',H7,J7.ofH J.ok,q7⟩
  | brk=>obtain ⟨σ',H7,J7,q7⟩:=q7;exact ⟨σ',H7,J7.ofH J.ok,q7⟩
  | cont=>obtain ⟨σ',H7,J7,q7⟩:=q7;exact ⟨σ',H7,J7.ofH J.ok,q7⟩
  | ret u=>obtain ⟨v, σ',H7,J7,r,q7⟩:=q7;exact ⟨v, σ',H7,J7.ofH J.ok,r,q7⟩
end
section
variable {X:Cx} {L:Addr} {pins:List (Addr×Obj)} {σ:St} {H:Hp} {s:Shared}
end
section
variable {X:Cx} {L:Addr} {pins:List (Addr×Obj)} {σ:St} {H:Hp} {s:Shared}
theorem Inv.adoptE {e:Addr} {o:HO} (I:Inv X pins σ H s) (h0:H e=none) (h1:e≠X.env.locals) (h2:∀x c,X.env.cells.lookup x=some c→c≠e) (h3:∀p∈X.pn++pins,p.1≠e) (h4:∀b u,X.s₀.heap.get? b=some u→b≠e)
  (new:ObjOk X.prog X.w (upd H e o) s.heap e o):Inv X pins σ (upd H e o) s:=by
 refine ⟨I.ok,I.os,I.bare,⟨I.base.keep,I.base.slot,fun b u q n hx => ?_,I.base.there,fun b xs q => ?_,fun b u xs q => ?_,fun b ps q => ?_⟩,I.loc,I.cell,?_,fun x c q => ?_,fun p hp => ?_,I.hok.adopt h0 new,I.len⟩
 ·rw [upd_ne (h4 b u q)];exact I.base.free b u q n hx
 ·have z:=I.base.tups b xs q
  rw [upd_ne (ne_of_none z h0)];exact z
 ·have z:=I.base.frzs b u xs q
  rw [upd_ne (ne_of_none z h0)];exact z
 ·obtain ⟨m,z⟩:=I.base.tbls b ps q
  exact ⟨m,by rw [upd_ne (ne_of_none z h0)];exact z⟩
 ·rw [upd_ne (Ne.symm h1)];exact I.free
 ·rw [upd_ne (h2 x c q)];exact I.freeC x c q
 ·obtain ⟨p1,p2,p3⟩:=I.pin p hp
  exact ⟨p1,by rw [upd_ne (h3 p hp)];exact p2,p3⟩
end
section
variable {P:Program} {w:World} {K:PySem.W.Frag} {mg:Str→Option Value} {base:Heap}
theorem Fun.okX {x qual:Str} {st:Stmt} {f:Addr} {fd:FuncData} {N ps:List Str} {k:Nat} {sp:Sp} (F:Fun K x qual st f fd) (S:FnScope N ps (defScope st)) (len:∀vs H Q E,sp vs H Q E→vs.length=ps.length)
  (hbody:∀(cdv:Value) (A:Around) (outer:List Env) (s:Shared) (H:Hp) (vs:List V) (Q:VK) (E:XK),Room k (A.deeper (envOfC qual (defScope st) s.heap.objs.size f cdv))→sp vs H Q E →
   ∃t,PSs (cxOf (CXE P w base) P w K mg base N qual (defScope st) f cdv A outer s H E) (defBody st) t∧t { nx:=fun _ H'=>Q .non H',rt:=Q } (start N vs) H):FnOk P w K mg base (CXE P w base) (k+1) f fd ps sp:=by
 refine Elim.el (F.ex) _ ?_
 rintro oc od kV doc pm an cdv ct osl rfl lk hcd
 exact fn_of lk hcd S len fun A outer s H vs Q E hr hsp=>hbody cdv A outer s H vs Q E hr hsp
structure FnX (P:Program) (w:World) (K:PySem.W.Frag) (mg:Str→Option Value) (base:Heap) (k:Nat) (x:Str) (ps:List Str) (sp:Sp):Prop where
 ex:∃f fd,FnOk P w K mg base (CXE P w base) k f fd ps sp∧Binds K fd ps []∧PySem.W.keepIn K (.ref f)=true∧mg x=some (.ref f)
theorem FnX.mono {j k:Nat} {x:Str} {ps:List Str} {sp:Sp} (F:FnX P w K mg base j x ps sp) (h:j≤k):FnX P w K mg base k x ps sp:=by
 refine Elim.el (F.ex) _ ?_
 rintro f fd a b c d
 exact ⟨f,fd,a.mono h,b,c,d⟩
theorem pe_fnC {X:Cx} {pins:List (Addr×Obj)} {σ0:St} {E':XK} {k:Nat} {x:Str} {ps:List Str} {sp:Sp} {p pos:Pos} {e:Expr} {es:List Expr} {t:TA} (F:FnX X.prog X.w X.K X.mg X.base k x ps sp) (hr:Room k X.A) (hg:Gl X x)
  (ha:PA (xB X pins σ0 E') (e :: es) t) (hdb:(x == ("__debug__" : Str))=false:=by decide) (he:starEach (e :: es) X.env=(false,eval e X.env) :: starEach es X.env:=by rfl) (hpl:(backTo pos (starEach es X.env)).any (·.1)=false:=by rfl) :
  PE (xB X pins σ0 E') (.Call (.Name x p) (e :: es) [] pos) (tCallAt σ0 sp E' t):=by
 refine Elim.el (F.ex) _ ?_
 rintro f fd a b c d
 exact pe_fnT a hr hg d c b ha hdb he hpl
end
end L2
namespace L2
open PySem PySem.Spec PyProof.Rows PySem.W
theorem vals_refs:∀{as:List Addr} {us:List Value},Vals (as.map V.ref) us→us=as.map Value.ref
 | [],_, .nil=>rfl
 | a :: as,_, .cons r t=>by rw [vals_refs t];cases r;rfl
section
variable {prog:Program} {w:World} {A:Around} {E:Value→Shared→Prop} {s:Shared}
end
section
variable {X:Cx} (K:PySem.W.Frag)
end
end L2
namespace L2
open PySem PySem.Spec PyProof.Rows
section
variable {X:Cx} {pos:Pos}
noncomputable def tDNewN:TE:=fun _ H Q=>∀p H',New H p (.dK []) H'→Q (.ref p) H'
theorem dnewN:PE X (.Dict [] [] pos) tDNewN:=by
 have e:tDNewN=tDNewK:=by
  funext σ H Q
  exact (new_all (F:=fun p H'=>Q (.ref p) H')).symm
 rw [e];exact pe_dnewK
end
end L2
namespace L2
open PySem PySem.Spec PyProof.Rows PySem.W
end L2
namespace L2
open PySem PySem.Spec PyProof.Rows PySem.W
end L2
namespace L2
open PySem PySem.Spec PyProof.Rows PySem.W PySem.Calls Builtin Builtin.ObjectAttr Builtin.Getset_descriptor
section
variable {K:Frag} {e C:Addr}
variable {prog:Program} {w:World} {A:Around} {E:Value→Shared→Prop} {s:Shared}
theorem exm_sub {C D:Addr} {cd} (h1:subIn K (.ref D) (.type "BaseException")=some true) (h2:clsIn K D=some cd) (h3:typeIn K (.ref D)=some (.type "type")) (h4:subIn K (.ref C) (.ref D)=some true):exmOne K (.ref C) (.ref D)=some true:=by
 unfold exmOne kitCls
 rw [h1]
 simp [h2,h3,h4]
end
section
variable {X:Cx}
end
end L2
namespace L2
open PySem PySem.Spec PyProof.Rows
section
variable {X:Cx}
theorem op_mulS:OpR X (binaryOp .Mult) (fun x y H Q=>∃(z:Str) (n:Int),x = .str z∧y = .int n∧MulOk z n∧Q (.str (Txt.mul z n)) H):=by
 intro pins s σ H x y v u Q I rx ry h
 obtain ⟨z,n,rfl,rfl,ok,q⟩:=h
 obtain ⟨t,rfl⟩:=rx
 obtain ⟨t',rfl⟩:=ry
 exact SB.mul ok fun t' k=>⟨.str _,H,I.tok _,⟨_,rfl⟩,q⟩
noncomputable def rMulS:R2:=fun x y H Q=>rMulN x y H Q∨∃(z:Str) (n:Int),x = .str z∧y = .int n∧MulOk z n∧Q (.str (Txt.mul z n)) H
theorem mulS:OpR X (binaryOp .Mult) rMulS:=mulN.or op_mulS
theorem mulOk_small {z:Str} {n:Int} (h1:z.length≤1000) (h2:n≤1000) (h3 : -1000≤n):MulOk z n:=by
 refine ⟨?_,fun a _ => ?_,fun a _ => ?_⟩
 ·rw [decide_eq_false (by first|lia|omega),decide_eq_false (by first|lia|omega)];rfl
 ·have:(1000:Int)≤(2 ^ 63-1) / n:=by
   rw [Int.le_ediv_iff_mul_le (by first|lia|omega)]
   (first|lia|omega)
  (first|lia|omega)
 ·have:z.length*n.toNat≤1000*1000:=Nat.mul_le_mul h1 (by first|lia|omega)
  show decide (_>sizeLine)=false
  simp
  exact Nat.le_trans this (by decide)
end
end L2
namespace L2
open PySem PySem.Spec PyProof.Rows
section
variable {prog:Program} {w:World} {K:Type} [DecidableEq K] {knd:PySem.KeyKind prog w K}
variable {A:Around} {R:Result→Shared→Prop} {I:Addr} {fp wr:List Addr} {G:Array GenState→Array GenState→Prop} {n:Nat} {P:Nat→Value→Prop} {St:Nat→Shared→Prop}
end
section
variable {prog:Program} {w:World} {K:Type} [DecidableEq K] {knd:PySem.KeyKind prog w K} {A:Around} {E:Value→Shared→Prop} {s:Shared}
end
section
variable {X:Cx}
end
end L2
namespace L2
open PySem PySem.Spec PyProof.Rows
section
variable {prog:Program} {w:World} {K:Type} [DecidableEq K] {knd:PySem.KeyKind prog w K} {A:Around} {E:Value→Shared→Prop} {s:Shared} {a:Addr}
end
end L2
namespace L2
open PySem PySem.Spec PyProof.Rows
section
variable {X:Cx} {pins:List (Addr×Obj)} {σ:St} {H:Hp} {s:Shared}
end
end L2
namespace L2
open PySem PySem.Spec PyProof.Rows
section
variable {prog:Program} {w:World} {A:Around} {R:Result→Shared→Prop} {s:Shared}
end
section
end
end L2
namespace L2
open PySem PySem.Spec PyProof.Rows
section
variable {X:Cx}
theorem reverseN:MtM X "list.reverse" (fun x vs H Q=>∃l xs,x = .ref l∧vs=[]∧H l=some (.lst xs)∧∀H',Chg H l (.lst xs.reverse) H'→Q .non H'):=by
 intro pins s σ H x vs v us Q I rx rv h
 obtain ⟨l,xs,rfl,rfl,hH,q⟩:=h
 cases rx
 cases rv
 obtain ⟨z,its,n,r,hl,e⟩:=I.lstM hH
 refine call_meets F.slot_list_reverse ⟨_,e,rfl⟩ F.entry_list_reverse (F.args_list_reverse_1 _) (AutoListH.list_reverse_list_0 l its.toArray n (by rw [List.size_toArray]; (first|lia|omega))) ⟨e,?_⟩
 exact ⟨.non,_,I.lset (its':=its.reverse) hH e (by simp) r.rev (by rw [List.length_reverse]; (first|lia|omega)),rfl,q _ ⟨rfl⟩⟩
theorem pe_gstr {x:Str} {z:Str} {t:Tok} {pos:Pos} (hg:Gl X x) (hm:X.mg x=some (.str z t)) (hd:(x == ("__debug__" : Str))=false:=by decide):PE X (.Name x pos) (tC (.str z)):=pe_glob (v := .str z) hg hm ⟨t,rfl⟩ hd
end
end L2
namespace L2
open PySem PySem.Spec PyProof.Rows
section
variable {X:Cx} (K:PySem.W.Frag)
end
section
variable {X:Cx}
end
end L2
namespace L2
open PySem PySem.Spec PyProof.Rows PySem.W
section
variable {X:Cx} {H Hj:Hp} {s sj:Shared} {pins:List (Addr×Obj)} {σ:St}
structure Run (X:Cx) (H:Hp) (s:Shared) (Hj:Hp) (sj:Shared):Prop where
 un:Un (frs X.stack) [] H Hj s.heap sj.heap
 hok:HOk X.prog X.w Hj sj.heap
 os:sj.os=s.os
 bare:AllBare sj.gens
theorem Run.inv (r:Run X H s Hj sj) (I:Inv X pins σ H s):Inv X pins σ Hj sj:=I.call' (ch:=[]) r.os r.un r.hok r.bare fun _ z=>by cases z
theorem Run.start (I:Inv X pins σ H s):Run X H s H s:=⟨Un.refl,I.hok,rfl,I.bare⟩
theorem Run.kept {h':Heap} (r:Run X H s Hj sj) (k:∀b u,sj.heap.get? b=some u→h'.get? b=some u):Run X H s Hj { sj with heap:=h' }:=⟨r.un.trans (Un.kept k),r.hok.kept k,r.os,r.bare⟩
theorem Run.alter {h':Heap} {b:Addr} (r:Run X H s Hj sj) (hb:s.heap.get? b=none) (hn:Hj b=none) (k:∀c u,c≠b→sj.heap.get? c=some u→h'.get? c=some u):Run X H s Hj { sj with heap:=h' }:=by
 have ne:∀{c:Addr} {o:Obj},s.heap.get? c=some o→c≠b:=fun e z=>by rw [z,hb] at e;cases e
 refine ⟨⟨fun c o q n h1 h2=>k c o (ne q) (r.un.keep c o q n h1 h2),fun c o q n h1 h2 => ?_,r.un.free,fun c o q h1 => ?_,r.un.tups,r.un.frzs,r.un.tbls⟩,fun a o e=>(r.hok a o e).stay (fun c u hc q=>k c u ?_ q) (fun _ q=>q) fun _ _ q=>q,r.os,r.bare⟩
 ·obtain ⟨sl,e⟩:=r.un.slot c o q n h1 h2
  exact ⟨sl,k c _ (ne q) e⟩
 ·obtain ⟨o',e⟩:=r.un.there c o q h1
  exact ⟨o',k c _ (ne q) e⟩
 ·rintro rfl
  rcases hc with rfl|hc
  ·rw [hn] at e;cases e
  ·rw [hn] at hc;cases hc
theorem Run.told {b:Addr} {o:HO} (r:Run X H s Hj sj) (hb:s.heap.get? b=none) (hn:Hj b=none) (new:ObjOk X.prog X.w (upd Hj b o) sj.heap b o):Run X H s (upd Hj b o) sj:=by
 have ne:∀{c:Addr} {o:Obj},s.heap.get? c=some o→c≠b:=fun e z=>by rw [z,hb] at e;cases e
 have hH:∀{c:Addr} {q:HO},Hj c=some q→c≠b:=fun e z=>by rw [z,hn] at e;cases e
 refine ⟨⟨r.un.keep,r.un.slot,fun c o q n h1=>by rw [upd_ne (ne q)];exact r.un.free c o q n h1,r.un.there,fun c xs q => ?_,fun c o u q => ?_,fun c ps q => ?_⟩,fun a u e => ?_,r.os,r.bare⟩
 ·have:=r.un.tups c xs q;rw [upd_ne (hH this)];exact this
 ·have:=r.un.frzs c o u q;rw [upd_ne (hH this)];exact this
 ·obtain ⟨more,e⟩:=r.un.tbls c ps q
  exact ⟨more,by rw [upd_ne (hH e)];exact e⟩
 ·by_cases z:a=b
  ·subst z;rw [upd_same] at e;cases e;exact new
  ·rw [upd_ne z] at e
   exact (r.hok a u e).stay (fun _ _ _ q=>q) (fun c q=>by rw [upd_ne (hH q)];exact q) fun c xs q=>by rw [upd_ne (hH q)];exact q
theorem Run.called {Q:VK} {u:Value} {s':Shared} (r:Run X H s Hj sj) (c:CE X.stack X.prog X.w Hj sj Q u s'):∃v H',Run X H s H' s'∧RelV v u∧Q v H'∧Un (frs X.stack) [] Hj H' sj.heap s'.heap:=by
 obtain ⟨v,H',os,bare,un,hok,rv,q⟩:=c
 exact ⟨v,H',⟨r.un.trans un,hok,os.trans r.os,bare⟩,rv,q,un⟩
end
noncomputable def KeyR (X:Cx) (f:Value) (r:V→Hp→VK→Prop):Prop:=
 ∀ ⦃pins:List (Addr×Obj)⦄ (s:Shared) (σ:St) (H:Hp) (x:V) (u:Value) (Q:VK),Inv X pins σ H s→RelV x u→r x H Q →
  wpAny (model X.prog X.w) X.A.in1.in1 (call f [u]) (CE X.stack X.prog X.w H s Q) (fun _ _=>False) s
theorem key_fn {X:Cx} {k:Nat} {f:Addr} {fd:FuncData} {ps:List Str} {sp:Sp} (F:FnOk X.prog X.w X.K X.mg X.base CX0 k f fd ps sp) (hr:Room (k+2) X.A) (hb:Binds X.K fd ps []):KeyR X (.ref f) fun x H Q=>sp [x] H Q E0:=by
 intro pins s σ H x u Q I rx h
 have rv:Vals [x] [u] := .cons rx .nil
 have hl:([u]++([]:List Value)).length=ps.length:=F.len _ _ _ _ h
 have b:=hb s [u] I.kIn hl
 rw [List.append_nil] at b
 refine wpAny_call (codeAny_mono (F.run X.A.in1.in1 X.stack s H ⟨[u],[]⟩ [u] [x] Q E0 hr.in1.in1 I.env0.in1.in1 b rv h) fun r s' hq => ?_)
 cases r with
 | error e=>exact hq.elim
 | ok fl=>cases fl with
  | ret u=>exact hq
  | next=>exact False.elim hq
  | brk=>exact False.elim hq
  | cont=>exact False.elim hq
noncomputable def lfLt (a b:Str):Prop:=a.length<b.length∨(a.length=b.length∧a.cps.toList<b.cps.toList)
noncomputable instance (a b:Str):Decidable (lfLt a b):=by unfold lfLt;infer_instance
theorem str_cps {x y:Str} (h:x.cps.toList=y.cps.toList):x=y:=by
 cases x;cases y;congr 1;exact Array.toList_inj.mp h
theorem lfLt_irrefl (a:Str):¬lfLt a a:=fun h=>by
 rcases h with h|⟨_,h⟩
 ·(first|lia|omega)
 ·exact List.lt_irrefl _ h
theorem lfLt_trans {a b c:Str} (h1:lfLt a b) (h2:lfLt b c):lfLt a c:=by
 rcases h1 with h1|⟨e1,h1⟩ <;> rcases h2 with h2|⟨e2,h2⟩
 ·exact .inl (by first|lia|omega)
 ·exact .inl (by first|lia|omega)
 ·exact .inl (by first|lia|omega)
 ·exact .inr ⟨by first|lia|omega,List.lt_trans h1 h2⟩
theorem lfLt_or {a b:Str} (h:a≠b):lfLt a b∨lfLt b a:=by
 by_cases h1:a.length<b.length
 ·exact .inl (.inl h1)
 by_cases h2:b.length<a.length
 ·exact .inr (.inl h2)
 by_cases h3:a.cps.toList<b.cps.toList
 ·exact .inl (.inr ⟨by first|lia|omega,h3⟩)
 ·refine .inr (.inr ⟨by first|lia|omega,?_⟩)
  rcases List.le_iff_lt_or_eq.mp (List.not_lt.mp h3) with z|z
  ·exact z
  ·exact absurd (str_cps z).symm h
noncomputable def rk (L:List Str) (t:Str):Nat:=L.countP fun u=>decide (lfLt u t)
theorem countP_lt {α:Type} {p q : α→Bool} : ∀{L:List α} {t : α},(∀v∈L,p v=true→q v=true)→t∈L→q t=true→p t=false→L.countP p<L.countP q
 | [],_,_,m,_,_=>by cases m
 | v :: L,t,h,m,h1,h2=>by
  have hle:L.countP p≤L.countP q:=List.countP_mono_left fun v hv=>h v (List.mem_cons_of_mem _ hv)
  rw [List.countP_cons,List.countP_cons]
  rcases List.mem_cons.mp m with rfl|m
  ·rw [h1,h2];simp; (first|lia|omega)
  ·have:=countP_lt (fun v hv=>h v (List.mem_cons_of_mem _ hv)) m h1 h2
   by_cases hp:p v=true
   ·rw [hp,h v List.mem_cons_self hp];simp; (first|lia|omega)
   ·rw [if_neg hp]; (first|lia|omega)
theorem rk_lt {L:List Str} {t u:Str} (ht:t∈L) (h:lfLt t u):rk L t<rk L u:=
 countP_lt (fun v _ hv=>decide_eq_true (lfLt_trans (of_decide_eq_true hv) h)) ht (decide_eq_true h) (decide_eq_false (lfLt_irrefl t))
theorem rk_iff {L:List Str} {t u:Str} (ht:t∈L) (hu:u∈L):lfLt t u ↔ rk L t<rk L u:=by
 refine ⟨rk_lt ht,fun h => ?_⟩
 by_cases e:t=u
 ·subst e; (first|lia|omega)
 rcases lfLt_or e with z|z
 ·exact z
 ·have:=rk_lt hu z; (first|lia|omega)
noncomputable def txtAt (H:Hp) (v:Value):Str:=match v with
 | .ref q=>match H q with
  | some (.tup [_, .str t])=>t
  | _=>⟨#[]⟩
 | _=>⟨#[]⟩
noncomputable def txK (H:Hp) (L:List Str) (p:Keyed):Int:=rk L (txtAt H p.1)
noncomputable def KeyAt (H:Hp) (t:Str) (v:Value):Prop:=∃q,v = .ref q∧H q=some (.tup [.int t.length, .str t])
theorem KeyAt.txt {H:Hp} {t:Str} {v:Value} (h:KeyAt H t v):txtAt H v=t:=by
 obtain ⟨q,rfl,e⟩:=h
 unfold txtAt;simp only [e]
theorem KeyAt.obj {P:Program} {w:World} {H:Hp} {t:Str} {v:Value} {h:Heap} (k:KeyAt H t v) (ok:HOk P w H h):∃q o n t1 t2,v = .ref q∧h.get? q=some o∧o.cls = .type "tuple" ∧ o.data = .seq #[.int t.length t1, .str t t2] n:=by
 obtain ⟨q,rfl,e⟩:=k
 obtain ⟨_,its,r,o,e1,c,n,d⟩:=ok q _ e
 obtain ⟨w1,w2,rfl,⟨t1,rfl⟩,⟨t2,rfl⟩⟩:=vals2 r
 exact ⟨q,o,n,t1,t2,rfl,e1,c,d⟩
noncomputable abbrev kdTup:SortKind:=tuples' (Value.type "int" != Value.type "tuple")
section
variable {prog:Program} {w:World} {A:Around} {E:Value→Shared→Prop} {s:Shared}
theorem lts_lf {H:Hp} {L:List Str} {a₀:Array Keyed} (ok:HOk prog w H s.heap) (h0:∀x∈a₀.toList,∃t,t∈L∧KeyAt H t x.1):Lts prog w A E s a₀ (txK H L) kdTup:=fun st x y Q hx hy hk q=>by
 obtain ⟨t,mt,kt⟩:=h0 x hx
 obtain ⟨u,mu,ku⟩:=h0 y hy
 have q':Q (some (decide (lfLt t u))) st:=by
  have e:decide (txK H L x<txK H L y)=decide (lfLt t u):=decide_eq_decide.mpr (by unfold txK;rw [kt.txt,ku.txt,Int.ofNat_lt];exact (rk_iff mt mu).symm)
  rw [e] at q;exact q
 clear q
 obtain ⟨q1,o1,n1,t1,t2,e1,g1,_,d1⟩:=kt.obj ok
 obtain ⟨q2,o2,n2,u1,u2,e2,g2,_,d2⟩:=ku.obj ok
 rw [lt'_eq]
 refine wpS_bind (wpS_get ?_)
 rw [hk,e1,e2]
 refine wpS_bind (wpS_lift (wpAny_attempt (wpAny_mono (kat_lt g1 d1 g2 d2 (Q:=fun b s'=>b=decide (lfLt t u)∧s'=s) ?_) (fun b s' hb => ?_) (fun _ _ z=>False.elim z))))
 ·show KatLex _ _ _ _ _ _ [(_,_),(_,_)] 0 s
  refine kat_cons (wpAny_eqBool_int ?_)
  by_cases c:t.length=u.length
  ·rw [show ((t.length:Int) == (u.length:Int))=true by simp [c]]
   refine kat_yes (kat_cons (wpAny_eqBool_str ?_))
   by_cases d:t=u
   ·rw [decide_eq_true d]
    refine kat_yes (kat_nil ⟨?_,rfl⟩)
    subst d
    exact (decide_eq_false (lfLt_irrefl t)).symm
   ·rw [decide_eq_false d]
    refine kat_no (kat_one _ _ (lt_str ?_))
    refine ⟨?_,rfl⟩
    refine decide_eq_decide.mpr ⟨fun z => .inr ⟨c,z⟩,fun z => ?_⟩
    rcases z with z|z
    ·(first|lia|omega)
    ·exact z.2
  ·rw [show ((t.length:Int) == (u.length:Int))=false by simp; (first|lia|omega)]
   refine kat_no (oneLt_int ⟨?_,rfl⟩)
   refine decide_eq_decide.mpr ⟨fun z => .inl (by first|lia|omega),fun z => ?_⟩
   rcases z with z|z
   ·(first|lia|omega)
   ·exact absurd z.1 c
 ·obtain ⟨rfl,rfl⟩:=hb
  exact ⟨rfl,wpS_pure q'⟩
end
section
variable {X:Cx} {H:Hp} {s0:Shared} {pins:List (Addr×Obj)} {σ:St} {D kS:Addr} {ts:List Str} {vs:List Value}
structure Kj (X:Cx) (H:Hp) (s0:Shared) (D kS:Addr) (e1:Nat) (ts:List Str) (Hj:Hp) (ks:List Value) (sj:Shared):Prop where
 run:Run X H s0 Hj sj
 same:Same H Hj
 dn:Hj D=none
 kn:Hj kS=none
 d0:s0.heap.get? D=none
 k0:s0.heap.get? kS=none
 ne:kS≠D
 dat:sj.heap.get? D=some (seqObj "list" #[] e1)
 kat:∃e,sj.heap.get? kS=some (seqObj "list" ks.toArray e)
 keys:Paired (KeyAt Hj) ts ks
theorem pairedSnoc {α β:Type} {R : α → β→Prop} {a : α} {b : β} : ∀{l₁:List α} {l₂:List β},Paired R l₁ l₂→R a b→Paired R (l₁++[a]) (l₂++[b])
 | _,_, .nil,h => .cons h .nil
 | _,_, .cons r t,h => .cons r (pairedSnoc t h)
theorem notFr (I:Inv X pins σ H s0) {b:Addr} (h:s0.heap.get? b=none):b ∉ frs X.stack:=fun hb=>by
 obtain ⟨_,o,e,_⟩:=I.stack.mem hb
 rw [h] at e;cases e
theorem KeyAt.new {H H':Hp} {t:Str} {v:Value} {q:Addr} {o:HO} (k:KeyAt H t v) (n:New H q o H'):KeyAt H' t v:=by
 obtain ⟨a,rfl,e⟩:=k
 exact ⟨a,rfl,n.same _ _ e⟩
theorem Kj.more {e1:Nat} {Hj:Hp} {ks:List Value} {sj s':Shared} {t:Str} {u:Value} (I:Inv X pins σ H s0) (k:Kj X H s0 D kS e1 ts Hj ks sj) (hz:ks.length<sizeLine)
  (c:CE X.stack X.prog X.w Hj sj (fun v H'=>∃q,v = .ref q∧New Hj q (.tup [.int t.length, .str t]) H') u s') :
  ∃e,s'.heap.get? kS=some (seqObj "list" ks.toArray e)∧∃Hi,Kj X H s0 D kS e1 (ts++[t]) Hi (ks++[u]) { s' with heap:=s'.heap.update kS (Obj.mapSeq (·.push u)) }:=by
 obtain ⟨v,H',r',rv,⟨q,rfl,n⟩,un⟩:=k.run.called c
 cases rv
 obtain ⟨e,hk⟩:=k.kat
 have nd:=un.keep D _ k.dat k.dn (notFr I k.d0) (by simp)
 have nk:=un.keep kS _ hk k.kn (notFr I k.k0) (by simp)
 have fd:=un.free D _ k.dat k.dn (by simp)
 have fk:=un.free kS _ hk k.kn (by simp)
 refine ⟨e,nk,H',?_⟩
 refine ⟨r'.alter k.k0 fk fun c u hc q=>by rw [Heap.get?_update_ne _ _ _ _ hc];exact q,fun a o z=>n.same _ _ (k.same a o z),fd,fk,k.d0,k.k0,k.ne,?_,?_,?_⟩
 ·show (s'.heap.update _ _).get? D=_
  rw [Heap.get?_update_ne _ _ _ _ k.ne.symm];exact nd
 ·have ea:ks.toArray.push (Value.ref q)=List.toArray (ks++[.ref q]):=by simp
  exact ⟨_,by rw [←ea];exact get?_update_seq nk (·.push (Value.ref q))⟩
 ·exact pairedSnoc (Paired.imp' (fun a b z=>KeyAt.new z n) k.keys) ⟨q,rfl,n.at⟩
theorem zip_keys {Hn:Hp} : ∀{ts:List Str} {ks vs:List Value},Paired (KeyAt Hn) ts ks→Vals (ts.map V.str) vs→(ks.zip vs).map (fun p=>txtAt Hn p.1)=ts∧∀p∈ks.zip vs,∃t,t∈ts∧KeyAt Hn t p.1∧RelV (.str t) p.2
 | [],_,_, .nil, .nil=>⟨rfl,fun _ h=>by cases h⟩
 | t :: ts,_,_, .cons r a, .cons q b=>by
  obtain ⟨e,m⟩:=zip_keys a b
  refine ⟨?_,fun p hp => ?_⟩
  ·rw [List.zip_cons_cons,List.map_cons,e]
   show txtAt Hn _ :: ts=_
   rw [r.txt]
  ·rw [List.zip_cons_cons] at hp
   rcases List.mem_cons.mp hp with rfl|hp
   ·exact ⟨t,List.mem_cons_self,r,q⟩
   ·obtain ⟨t,h1,h2⟩:=m p hp
    exact ⟨t,List.mem_cons_of_mem _ h1,h2⟩
theorem vals_txt {Hn:Hp} : ∀{l:List Keyed},(∀p∈l,RelV (.str (txtAt Hn p.1)) p.2)→Vals ((l.map fun p=>txtAt Hn p.1).map V.str) (l.map (·.2))
 | [],_ => .nil
 | p :: l,h => .cons (h p List.mem_cons_self) (vals_txt fun q hq=>h q (List.mem_cons_of_mem _ hq))
noncomputable def KEnd (X:Cx) (H:Hp) (s0:Shared) (D:Addr) (ts:List Str) (P:Shared→Prop):Prop:=
 ∀(us:List Str) (out:Array Value) (Hn:Hp) (sn:Shared) (e:Nat),Run X H s0 Hn sn→Same H Hn→Hn D=none→sn.heap.get? D=some (seqObj "list" out e)→Vals (us.map V.str) out.toList→us.Perm ts→us.Pairwise (fun a b => ¬lfLt b a)→P sn
theorem sortK_tail {A:Around} {E:Value→Shared→Prop} {e1:Nat} {Hn:Hp} {ks:List Value} {sn:Shared} {P:PySem.Fin→Shared→Prop} {st:SortSt} (k:Kj X H s0 D kS e1 ts Hn ks sn) (rv:Vals (ts.map V.str) vs) (hz:ts.length≤sizeLine)
  (hp:(arrOf st).Perm (ks.toArray.zip vs.toArray)) (hf:failedOf st=none) (hs:Sg (txK Hn ts) (arrOf st) 0 (arrOf st).size) (h:KEnd X H s0 D ts fun sn=>P (.done (.ret .none)) sn) :
  wpAny (model X.prog X.w) A (ksk_tail D false e1 (.ref kS) st) P E sn:=by
 obtain ⟨e,hk⟩:=k.kat
 have lk:ks.length=ts.length:=k.keys.length.symm
 have hpl:(arrOf st).toList.Perm (ks.zip vs):=by
  have:=Array.perm_iff_toList_perm.mp hp
  rw [ksk_zip] at this;exact this
 obtain ⟨z1,z2⟩:=zip_keys k.keys rv
 have z3:∀p∈(arrOf st).toList,∃t,t∈ts∧KeyAt Hn t p.1∧RelV (.str t) p.2:=fun p h=>z2 p (hpl.subset h)
 have up:((arrOf st).toList.map fun p=>txtAt Hn p.1).Perm ts:=by rw [←z1];exact hpl.map _
 have ul:=up.length_eq
 rw [List.length_map,Array.length_toList] at ul
 have d1:(sn.heap.update kS (Obj.mapSeq fun _=>(#[]:Array Value))).get? D=some (seqObj "list" #[] e1):=by rw [Heap.get?_update_ne _ _ _ _ k.ne.symm];exact k.dat
 unfold ksk_tail
 try dsimp only
 refine wpAny_bind (listUpdate_at hk rfl ?_ (by rw [List.size_toArray]; (first|lia|omega)) (Nat.zero_le _))
 refine wpAny_bind (wpAny_letGo ?_)
 refine wpAny_bind (seqEpoch_at d1 rfl ?_)
 simp only [Bool.false_eq_true,if_false]
 refine wpAny_bind (listUpdate_at d1 rfl ?_ (Nat.zero_le _) (by rw [Array.size_map]; (first|lia|omega)))
 rw [hf]
 simp only [bne_self_eq_false,Bool.false_eq_true,if_false]
 obtain ⟨e2,g2⟩:∃e2,((sn.heap.update kS (Obj.mapSeq fun _=>(#[]:Array Value))).update D (Obj.mapSeq fun _=>(arrOf st).map (·.2))).get? D=some (seqObj "list" ((arrOf st).map (·.2)) e2):=⟨_,get?_update_seq d1 fun _=>(arrOf st).map (·.2)⟩
 have r1:=k.run.alter (h':=sn.heap.update kS (Obj.mapSeq fun _=>(#[]:Array Value))) k.k0 k.kn fun c u hc q=>by rw [Heap.get?_update_ne _ _ _ _ hc];exact q
 have r2:=r1.alter (h':=(sn.heap.update kS (Obj.mapSeq fun _=>(#[]:Array Value))).update D (Obj.mapSeq fun _=>(arrOf st).map (·.2))) k.d0 k.dn fun c u hc q=>by rw [Heap.get?_update_ne _ _ _ _ hc];exact q
 refine wpAny_pure (h _ _ Hn _ e2 r2 k.same k.dn g2 ?_ up ?_)
 ·rw [Array.toList_map]
  exact vals_txt fun p hp=>by
   obtain ⟨t,_,h2,h3⟩:=z3 p hp
   rw [h2.txt];exact h3
 ·rw [List.pairwise_map,List.pairwise_iff_getElem]
  intro i j hi hj hij
  rw [Array.length_toList] at hi hj
  have q:=hs i j (Nat.zero_le _) (Nat.le_of_lt hij) hj
  have ki:∀{i:Nat} (hi:i<(arrOf st).size),ky (txK Hn ts) (arrOf st) i=rk ts (txtAt Hn ((arrOf st)[i]).1):=fun {i} hi=>by unfold ky;rw [Array.getElem?_eq_getElem hi];rfl
  rw [ki hi,ki hj] at q
  rw [Array.getElem_toList,Array.getElem_toList]
  obtain ⟨t,m1,k1,_⟩:=z3 (arrOf st)[i] (by rw [←Array.getElem_toList];exact List.getElem_mem _)
  obtain ⟨u,m2,k2,_⟩:=z3 (arrOf st)[j] (by rw [←Array.getElem_toList];exact List.getElem_mem _)
  rw [k1.txt,k2.txt] at q ⊢
  intro z
  have:=(rk_iff m2 m1).mp z
  (first|lia|omega)
theorem keyTups {P:Program} {w:World} {Hn:Hp} {h:Heap} (ok:HOk P w Hn h):∀{ts:List Str} {ks:List Value},Paired (KeyAt Hn) ts ks→∃fs,KatTups h ks fs∧fs.length=ks.length∧∀v∈fs,∃z t,v=Value.int z t
 | [],_, .nil=>⟨[], .nil,rfl,fun v hv=>by cases hv⟩
 | t :: ts,_, .cons r k=>by
  obtain ⟨fs,a,l,q⟩:=keyTups ok k
  obtain ⟨x,o,n,t1,t2,rfl,e1,e2,e3⟩:=r.obj ok
  refine ⟨.int t.length t1 :: fs, .cons e1 e2 e3 rfl a,by rw [List.length_cons,List.length_cons,l],fun v hv => ?_⟩
  rcases List.mem_cons.mp hv with rfl|hv
  ·exact ⟨_,_,rfl⟩
  ·exact q v hv
theorem sortK_end {A:Around} {E:Value→Shared→Prop} {e1:Nat} {Hn:Hp} {ks:List Value} {sn:Shared} {P:PySem.Fin→Shared→Prop} (k:Kj X H s0 D kS e1 ts Hn ks sn) (rv:Vals (ts.map V.str) vs) (hz:ts.length≤sizeLine)
  (h:KEnd X H s0 D ts fun sn=>P (.done (.ret .none)) sn):wpAny (model X.prog X.w) A (ksk_end D false vs.toArray e1 (.ref kS) ks.toArray) P E sn:=by
 have lk:ks.length=ts.length:=k.keys.length.symm
 have lv:vs.length=ts.length:=by have:=rv.length;rw [List.length_map] at this;exact this.symm
 obtain ⟨z1,z2⟩:=zip_keys k.keys rv
 unfold ksk_end
 try dsimp only
 simp only [Bool.false_eq_true,if_false]
 by_cases h2:vs.toArray.size<2
 ·rw [if_pos h2,if_pos h2]
  refine wpAny_bind (wpAny_pure ?_)
  rw [StateT.run_pure]
  refine wpAny_bind (wpAny_pure ?_)
  refine sortK_tail k rv hz (Array.Perm.refl _) rfl (fun i j _ hij hj => ?_) h
  have:(arrOf (SortSt.mk' general' (ks.toArray.zip vs.toArray) #[] 7 none)).size<2:=by
   show (ks.toArray.zip vs.toArray).size<2
   rw [Array.size_zip,List.size_toArray,List.size_toArray]
   rw [List.size_toArray] at h2
   (first|lia|omega)
  have hj2:j<1:=Nat.lt_of_lt_of_le hj (Nat.le_of_lt_succ this)
  rw [show i=j by first|lia|omega]
  exact Int.le_refl _
 ·rw [if_neg h2,if_neg h2]
  rw [List.size_toArray] at h2
  obtain ⟨fs,kt,lf,hf⟩:=keyTups k.run.hok k.keys
  refine wpAny_bind (wpAny_mono (kat_kind (Q:=fun κ s' => κ=kdTup∧s'=sn) kt (by first|lia|omega) (fun v hv => ?_) (by decide) ⟨rfl,rfl⟩) (fun κ s' hk => ?_) (fun _ _ z=>z))
  ·obtain ⟨z,t,rfl⟩:=hf v hv
   exact Looks.of_pure rfl
  obtain ⟨rfl,rfl⟩:=hk
  have hL:Lts X.prog X.w A E s' (ks.toArray.zip vs.toArray) (txK Hn ts) kdTup:=lts_lf k.run.hok fun x hx=>by
   rw [ksk_zip] at hx
   obtain ⟨t,h1,h2,_⟩:=z2 x hx
   exact ⟨t,h1,h2⟩
  refine wpAny_bind (wpAny_mono (tm_runs (a₀:=ks.toArray.zip vs.toArray) (key:=txK Hn ts) (kd:=kdTup) (st:=SortSt.mk' kdTup (ks.toArray.zip vs.toArray) #[] 7 none) (Q:=fun _ st=>Tb (ks.toArray.zip vs.toArray) kdTup st∧Sg (txK Hn ts) (arrOf st) 0 (ks.toArray.zip vs.toArray).size) hL ⟨Array.Perm.refl _,rfl,rfl⟩ rfl fun _ t g=>⟨t,g⟩) ?_ fun _ _ z=>z)
  rintro ⟨⟨⟩,st⟩ s2 ⟨rfl,t,g⟩
  exact sortK_tail k rv hz t.perm t.failed (by rw [t.perm.size_eq];exact g) h
theorem sortK_tree {E:Value→Shared→Prop} {f:Value} {r:V→Hp→VK→Prop} {n:Nat} {s:Shared} {P:PySem.Fin→Shared→Prop} (I:Inv X pins σ H s0) (F:KeyR X f r) (hr:∀t∈ts,∀Hj,r (.str t) Hj fun v H'=>∃q,v = .ref q∧New Hj q (.tup [.int t.length, .str t]) H')
  (r0:Run X H s0 H s) (d0:s0.heap.get? D=none) (hd:s.heap.get? D=some (seqObj "list" vs.toArray n)) (dn:H D=none) (rv:Vals (ts.map V.str) vs) (hz:ts.length≤sizeLine) (hs0:∀b o,s0.heap.get? b=some o→b<s.heap.objs.size)
  (h:KEnd X H s0 D ts fun sn=>P (.done (.ret .none)) sn):wpAny (model X.prog X.w) X.A.in1.in1 (ksk_tree D f false) P E s:=by
 have lv:vs.length=ts.length:=by have:=rv.length;rw [List.length_map] at this;exact this.symm
 obtain ⟨e1,g1⟩:∃e1,(s.heap.update D (Obj.mapSeq fun _=>(#[]:Array Value))).get? D=some (seqObj "list" #[] e1):=⟨_,get?_update_seq hd fun _ => #[]⟩
 have k1:((s.heap.update D (Obj.mapSeq fun _=>(#[]:Array Value))).push (seqObj "tuple" vs.toArray 0)).objs.size=s.heap.objs.size+1:=by rw [size_push',Heap.size_update]
 have lD:D<s.heap.objs.size:=Heap.lt_size hd
 unfold ksk_tree
 refine wpAny_bind (listItems_at hd rfl ?_)
 refine wpAny_bind (listUpdate_at hd rfl ?_ (by rw [List.size_toArray]; (first|lia|omega)) (Nat.zero_le _))
 refine wpAny_bind (seqEpoch_at g1 rfl ?_)
 refine wpAny_bind (wpAny_newTuple ?_ (by show vs.length≤_; (first|lia|omega)))
 refine wpAny_bind (wpAny_newList ?_ (Nat.zero_le _))
 refine wpAny_holding ?_
 show wpAny _ _ (ksk_rest D f false vs.toArray e1 (.ref ((s.heap.update D (Obj.mapSeq fun _=>(#[]:Array Value))).push (seqObj "tuple" vs.toArray 0)).objs.size)) P E { s with heap:=((s.heap.update D (Obj.mapSeq fun _=>(#[]:Array Value))).push (seqObj "tuple" vs.toArray 0)).push (seqObj "list" #[] 0) }
 rw [k1]
 have g3:(((s.heap.update D (Obj.mapSeq fun _=>(#[]:Array Value))).push (seqObj "tuple" vs.toArray 0)).push (seqObj "list" #[] 0)).get? (s.heap.objs.size+1)=some (seqObj "list" #[] 0):=by rw [←k1];exact Heap.get?_push_size _ rfl
 have ra:=r0.alter (h':=s.heap.update D (Obj.mapSeq fun _=>(#[]:Array Value))) d0 dn fun c u hc q=>by rw [Heap.get?_update_ne _ _ _ _ hc];exact q
 have rb:=ra.kept (h':=((s.heap.update D (Obj.mapSeq fun _=>(#[]:Array Value))).push (seqObj "tuple" vs.toArray 0)).push (seqObj "list" #[] 0)) fun b u q=>Heap.get?_push_of_some _ (Heap.get?_push_of_some _ q)
 have kk:Kj X H s0 D (s.heap.objs.size+1) e1 (ts.take 0) H ([]:List Value) { s with heap:=((s.heap.update D (Obj.mapSeq fun _=>(#[]:Array Value))).push (seqObj "tuple" vs.toArray 0)).push (seqObj "list" #[] 0) }:=
  ⟨rb,fun _ _ z=>z,dn,r0.hok.fresh (Nat.le_succ _),d0,by
   cases q:s0.heap.get? (s.heap.objs.size+1) with
   | none=>rfl
   | some o=>exact absurd (hs0 _ _ q) (by show ¬s.heap.objs.size+1<s.heap.objs.size; (first|lia|omega)),Nat.ne_of_gt (Nat.lt_succ_of_lt lD),Heap.get?_push_of_some _ (Heap.get?_push_of_some _ g1),⟨0,g3⟩, .nil⟩
 unfold ksk_rest
 refine wpAny_bind (wpAny_rule ?_)
 first
  | rw [List.forIn_toArray]
  | (rw [←Array.forIn_toList];simp only [List.toList_toArray])
  | rw [←Array.forIn_toList]
 refine wpAny_bind (ksk_fold (I:=fun j s'=>∃Hj ks,Kj X H s0 D (s.heap.objs.size+1) e1 (ts.take j) Hj ks s') vs 0 _ ⟨_,_,kk⟩ (fun j x s' hx hI => ?_) fun s' hI => ?_)
 ·obtain ⟨Hj,ks,k⟩:=hI
  rw [Nat.zero_add] at k ⊢
  have hj:j<ts.length:=by have:=(List.getElem?_eq_some_iff.mp hx).1; (first|lia|omega)
  obtain ⟨u,hu,ru⟩:=rv.get (i:=j) (x := .str ts[j]) (by rw [List.getElem?_map,List.getElem?_eq_getElem hj];rfl)
  rw [hx] at hu;cases hu
  have lk:ks.length=j:=by have:=k.keys.length;rw [List.length_take] at this; (first|lia|omega)
  refine wpAny_bind (wpAny_attempt (wpAny_mono (F s' σ Hj _ _ _ (k.run.inv I) ru (hr ts[j] (List.getElem_mem hj) Hj)) (fun v s2 c => ?_) fun _ _ z=>z.elim))
  obtain ⟨e,nk,Hi,k'⟩:=k.more I (by first|lia|omega) c
  try dsimp only
  refine wpAny_bind (listUpdate_at nk rfl ?_ (by rw [List.size_toArray]; (first|lia|omega)) (Nat.le_trans (Nat.le_of_eq (Array.size_push ..)) (by rw [List.size_toArray]; (first|lia|omega))))
  refine wpAny_pure ⟨rfl,Hi,ks++[v],?_⟩
  rw [List.take_succ_eq_append_getElem hj]
  exact k'
 ·obtain ⟨Hj,ks,k⟩:=hI
  rw [Nat.zero_add,lv,List.take_length] at k
  obtain ⟨e,hk⟩:=k.kat
  try dsimp only
  refine wpAny_bind (listItems_at hk rfl ?_)
  exact sortK_end k rv hz h
end
end L2
namespace L2
open PySem PySem.Spec PyProof.Rows PySem.W
noncomputable def CallKR (X:Cx) (id:String) (ks:List Str) (r:List V→List V→Hp→VK→Prop):Prop:=
 ∀ ⦃pins:List (Addr×Obj)⦄ (s:Shared) (σ:St) (H:Hp) (xs:List V) (us:List Value) (zs:List V) (ws:List Value) (Q:VK),Inv X pins σ H s→Vals xs us→Vals zs ws→r xs zs H Q →
  wpAny (model X.prog X.w) X.A (call (.builtin id) us (ks.zip ws)) (EP X pins σ Q) X.xe s
section
variable {X:Cx} {x:Str} {p pos:Pos} {e:Expr} {es:List Expr} {kws:List Keyword} {t tk:TA} {id:String} {ks:List Str} {r:List V→List V→Hp→VK→Prop}
noncomputable def tCBK (r:List V→List V→Hp→VK→Prop) (t tk:TA):TE:=fun σ H Q=>t σ H fun vs H1=>tk σ H1 fun zs H2=>r vs zs H2 Q
theorem pe_callBK (hc:CallKR X id ks r) (hg:Gl X x) (hm:X.mg x=none) (hv:bootBuiltins x=some (.builtin id)) (ha:PA X (e :: es) t) (hkw:PK X kws tk) (hn:x ≠ "__name__":=by decide) (hdb:(x == ("__debug__" : Str))=false:=by decide)
  (he:backTo pos (starEach (e :: es) X.env)=(false,eval e X.env) :: backTo pos (starEach es X.env):=by rfl) (hpl:(backTo pos (starEach (e :: es) X.env)).any (·.1)=false:=by rfl)
  (hall:(backToKw pos (keywordEach kws X.env)).all (·.1.isSome)=true:=by rfl) (hno:(backToKw pos (keywordEach kws X.env)).any (·.1.isNone)=false:=by rfl) (hks:(backToKw pos (keywordEach kws X.env)).filterMap (·.1)=ks:=by rfl) :
  PE X (.Call (.Name x p) (e :: es) kws pos) (tCBK r t tk):=by
 intro pins s σ H Q I h
 refine wpAny_Call_Name_kw (ld_blt I hg hm hv ?_ hn hdb)
 refine callWith_kw (thn (ha s σ H _ I h) fun us s1 ⟨vs,H1,I1,r1,q1⟩ => ?_) he hpl hall hno
 refine thn (hkw s1 σ H1 _ I1 q1) fun ws s2 ⟨zs,H2,I2,r2,q2⟩ => ?_
 rw [hks]
 exact hc s2 σ H2 vs us zs ws Q I2 r1 r2 q2
end
section
variable {X:Cx} (K:PySem.W.Frag)
theorem sortedKT {f:Addr} {r:V→Hp→VK→Prop} (F:KeyR X (.ref f) r) (hK:X.K=K:=by rfl):CallKR X "sorted" [Str.ofString "key"] (fun xs zs H Q=>Ex2 fun (p:Addr) (ts:List Str)=>xs=[.ref p]∧zs=[.ref f]∧SqL K H p (ts.map V.str) ∧
  (∀t∈ts,∀Hj,r (.str t) Hj fun v H'=>∃q,v = .ref q∧New Hj q (.tup [.int t.length, .str t]) H') ∧
  ∀(us:List Str) (q:Addr) (H':Hp),us.Perm ts→us.Pairwise (fun a b => ¬lfLt b a)→Same H H'→H q=none→H' q=some (.lst (us.map V.str))→Q (.ref q) H'):=by
 subst hK
 intro pins s σ H xs us zs ws Q I r1 r2 h
 obtain ⟨p,ts,rfl,rfl,hq,hr,q⟩:=h
 obtain ⟨u,rfl,ru⟩:=vals1 r1
 obtain ⟨z,rfl,rz⟩:=vals1 r2
 cases ru;cases rz
 obtain ⟨its,rv,pl,hz⟩:=I.list hq
 have ht:ts.length≤sizeLine:=by rw [List.length_map] at hz;exact hz
 have hi:its.length≤sizeLine:=by rw [←rv.length];exact hz
 have k1:((s.heap.push (seqObj "list" #[] 0)).update s.heap.objs.size (Obj.mapSeq (· ++ its.toArray))).objs.size=s.heap.objs.size+1:=(Heap.size_update ..).trans (size_push' _ _)
 have k2:(((s.heap.push (seqObj "list" #[] 0)).update s.heap.objs.size (Obj.mapSeq (· ++ its.toArray))).push (seqObj "list" its.toArray 0)).get? _=some (seqObj "list" its.toArray 0):=Heap.get?_push_size _ rfl
 have keep:∀b o,s.heap.get? b=some o→(((s.heap.push (seqObj "list" #[] 0)).update s.heap.objs.size (Obj.mapSeq (· ++ its.toArray))).push (seqObj "list" its.toArray 0)).get? b=some o:=fun b o e=>
  Heap.get?_push_of_some _ (by rw [Heap.get?_update_ne _ _ _ _ (Nat.ne_of_lt (Heap.lt_size e))];exact Heap.get?_push_of_some _ e)
 show wpAny _ _ (call (.builtin "sorted") [.ref p] [(Str.ofString "key", .ref f)]) _ _ _
 refine call_function_entry_kw kind_sorted plain_sorted entry_sorted (ksk_s1 _ _) ?_
 unfold Builtin.«sorted»
 refine wpAny_bind (m:=checkCount "sorted" 1 1 _) (wpAny_pure (wpAny_bind (collect_list pl.isList (wpAny_bind (wpAny_newList ?_ hi)) hi)))
 rw [k1] at k2
 show wpAny _ _ _ _ _ { s with heap:=Heap.push _ (seqObj "list" its.toArray 0) }
 rw [k1]
 refine wpAny_bind (wpAny_holding (wpAny_call_entry_kw slot_list_sort ⟨_,k2,rfl⟩ entry_list_sort ?_ (ksk_l1 _ _)))
 rw [ksk_t1]
 have d0:s.heap.get? (s.heap.objs.size+1)=none:=Heap.get?_none_of_le (Nat.le_succ _)
 refine sortK_tree (ts:=ts) I F hr ((Run.start I).kept keep) d0 k2 (I.hok.fresh (Nat.le_succ _)) rv ht (fun b o e=>Heap.lt_size (keep b o e)) ?_
 intro vs out Hn sn e run same dn hD rv' up pw
 have lo:vs.length≤sizeLine:=by rw [up.length_eq];exact ht
 have new:=run.told (o := .lst (vs.map V.str)) d0 dn ⟨by rw [List.length_map];exact lo,out.toList,e,rv',by simpa [seqObj] using hD⟩
 refine ⟨_,rfl,wpAny_pure ⟨_,rfl, .ref (s.heap.objs.size+1),_,new.inv I,rfl,q vs _ _ up pw (fun a o z => ?_) (I.hok.fresh (Nat.le_succ _)) upd_same⟩⟩
 rw [upd_ne (fun h=>by rw [h,I.hok.fresh (Nat.le_succ _)] at z;cases z)]
 exact same a o z
end
end L2
namespace L2
open PySem PySem.Spec PyProof.Rows
inductive Lx (d:Bool):List (Value×Value)→Bool→Prop
 | nil:Lx d [] d
 | eq {x y:Value} {l:List (Value×Value)} {r:Bool} (h:∀A s,SeqAt.EqAt A s x y true) (t:Lx d l r):Lx d ((x,y) :: l) r
 | ne {x y:Value} {l:List (Value×Value)} {r:Bool} (h:∀A s,SeqAt.EqAt A s x y false) (c:∀(A:Around) (s:Shared) (prog:Program) (w:World) (E:Value→Shared→Prop) (Q:Value→Shared→Prop),Q (.bool r) s→wpAny (model prog w) A (richCompare .Lt x y) Q E s):Lx d ((x,y) :: l) r
section
open PySem.SeqAt
open PySem.AutoSeq1 (wpAny_loadPart')
open PySem.MeetsSeq PySem.MeetsSeq2 PySem.MeetsSeq3
theorem tuple_lx (l b:Addr) (items items2:Array Value) (n n2:Nat) (dd dd2:Option Addr) (sl sl2:Array (Option Value)) (v:Bool) (hx:Lx (decide (items.size<items2.size)) (items.toList.zip items2.toList) v) :
  Meets (Builtin.«tuple.__lt__» ⟨[.ref l, .ref b],[]⟩)
   (fun _ R s=>s.heap.get? l=some { cls := .type "tuple",dict:=dd,data := .seq items n,slots:=sl } ∧ s.heap.get? b=some { cls := .type "tuple",dict:=dd2,data := .seq items2 n2,slots:=sl2 } ∧ R (.ok (.ret (.bool v))) s):=
 .of_wp fun prog w A R s h=>by
  obtain ⟨hp,g,d,tk,os⟩:=s
  obtain ⟨hl,hb,h⟩:=h
  have f2:=AutoSeq1.sub_tuple_tuple
  wp_walk using wpAny_loadPart' hl,wpAny_loadPart' hb,wpAny_forIn_list _ (fun rest b s'=>b.1=none∧s'=⟨hp,g,d,tk,os⟩∧∃r,Lx (decide (items.size<items2.size)) rest r∧R (.ok (.ret (.bool r))) ⟨hp,g,d,tk,os⟩) _
  case turn=>
   rintro ⟨y,x⟩ rest b s' ⟨hb',rfl,r,hr,hR⟩
   cases hr with
   | eq he t=>
    refine wpAny_bind (he _ _ prog w _ _ ?_)
    wp_walk
    exact ⟨rfl,rfl,r,t,hR⟩
   | ne he c=>
    refine wpAny_bind (he _ _ prog w _ _ ?_)
    have hri:=c A.in1 ⟨hp,g,d,tk,os⟩ prog w
    wp_walk using hri
    exact ⟨_,rfl,by simpa using hR⟩
  case fin=>
   rintro ⟨b1,b2⟩ s' ⟨hb',rfl,r,hr,hR⟩
   simp only at hb'
   subst hb'
   cases hr
   wp_walk
   exact ⟨_,rfl,by simpa [Builtin.Tuple.tupleCompareSizes] using hR⟩
  case h=>
   exact ⟨rfl,rfl,v,hx,h⟩
end
noncomputable def prLt (n m:Int) (x y:Str):Bool:=if n=m then decide (x.cps.toList<y.cps.toList) else decide (n<m)
theorem lx_pair (n m:Int) (x y:Str) (t1 t2 u1 u2:Tok):Lx false [(.int n t1, .int m u1),(.str x t2, .str y u2)] (prLt n m x y):=by
 unfold prLt
 by_cases e:n=m
 ·rw [if_pos e]
  refine .eq (fun A s => ?_) ?_
  ·have:=SeqAt.EqAt.int_int (A:=A) (s:=s) n t1 m u1
   rwa [show (n == m)=true by simpa using e] at this
  ·by_cases e2:x=y
   ·subst e2
    rw [decide_eq_false (List.lt_irrefl _)]
    refine .eq (fun A s => ?_) .nil
    have:=SeqAt.EqAt.str_str (A:=A) (s:=s) x t2 x u2
    simpa using this
   ·refine .ne (fun A s => ?_) fun A s prog w E Q h=>lt_str h
    have:=SeqAt.EqAt.str_str (A:=A) (s:=s) x t2 y u2
    rwa [show (x == y)=false from beq_eq_false_iff_ne.mpr e2] at this
 ·rw [if_neg e]
  refine .ne (fun A s => ?_) fun A s prog w E Q h=>lt_int h
  have:=SeqAt.EqAt.int_int (A:=A) (s:=s) n t1 m u1
  rwa [show (n == m)=false by simpa using e] at this
section
variable {prog:Program} {w:World} {A:Around} {E:Value→Shared→Prop} {s:Shared}
theorem lt_pair {l b:Addr} {n m:Int} {x y:Str} {t1 t2 u1 u2:Tok} {Q:Value→Shared→Prop} (hl:IsTup s.heap l #[.int n t1, .str x t2]) (hb:IsTup s.heap b #[.int m u1, .str y u2]) (hu:A.units<cLine) (h:Q (.bool (prLt n m x y)) s) :
  wpAny (model prog w) A (compareOp .Lt (.ref l) (.ref b)) Q E s:=by
 obtain ⟨⟨cls,dd,data,sl⟩,ho,hc,k,hd⟩:=id hl
 obtain ⟨⟨cls2,dd2,data2,sl2⟩,ho2,hc2,k2,hd2⟩:=id hb
 simp only at hc hd hc2 hd2
 subst hc hd hc2 hd2
 exact richCompare_meets_room (op := .Lt) ⟨_,ho,rfl⟩ ⟨_,ho2,rfl⟩ PySem.F.slot_tuple_lt PySem.F.entry_tuple_lt (PySem.F.args_tuple_lt_2 _ _) (tuple_lx l b #[.int n t1, .str x t2] #[.int m u1, .str y u2] k k2 dd dd2 sl sl2 (prLt n m x y) (lx_pair n m x y t1 t2 u1 u2))
  ⟨ho,ho2,show Value.bool (prLt n m x y)≠Value.notImplemented∧Q (.bool (prLt n m x y)) s from ⟨(fun x=>nomatch x),h⟩⟩ hu
end
section
variable {X:Cx}
theorem op_ltP (hu:X.A.units<cLine):OpR X (compareOp .Lt) (fun x y H Q=>∃(a b:Addr) (n m:Int) (t u:Str),x = .ref a∧y = .ref b∧SqT X.K H a [.int n, .str t]∧SqT X.K H b [.int m, .str u]∧Q (.bl (prLt n m t u)) H):=by
 intro pins s σ H x y v u Q I rx ry h
 obtain ⟨a,b,n,m,t,u',rfl,rfl,ha,hb,q⟩:=h
 cases rx;cases ry
 obtain ⟨its,r1,p1,_⟩:=I.tuple ha
 obtain ⟨its2,r2,p2,_⟩:=I.tuple hb
 obtain ⟨v1,v2,rfl,⟨t1,rfl⟩,⟨t2,rfl⟩⟩:=vals2 r1
 obtain ⟨w1,w2,rfl,⟨u1,rfl⟩,⟨u2,rfl⟩⟩:=vals2 r2
 exact lt_pair p1 p2 hu ⟨.bl _,H,I,rfl,q⟩
end
theorem prLt_lf (x y:Str):prLt x.length y.length x y=decide (lfLt x y):=by
 unfold prLt lfLt
 by_cases e:(x.length:Int)=y.length
 ·rw [if_pos e]
  refine decide_eq_decide.mpr ⟨fun h => .inr ⟨by first|lia|omega,h⟩,fun h => ?_⟩
  rcases h with h|h
  ·(first|lia|omega)
  ·exact h.2
 ·rw [if_neg e]
  refine decide_eq_decide.mpr ⟨fun h => .inl (by first|lia|omega),fun h => ?_⟩
  rcases h with h|h
  ·(first|lia|omega)
  ·exact absurd h.1 (by first|lia|omega)
end L2
namespace L2
open PySem PySem.Spec PyProof.Rows PySem.W
noncomputable def KeyR1 (X:Cx) (f:Value) (r:V→Hp→VK→Prop):Prop:=
 ∀ ⦃pins:List (Addr×Obj)⦄ (s:Shared) (σ:St) (H:Hp) (x:V) (u:Value) (Q:VK),Inv X pins σ H s→RelV x u→r x H Q →
  wpAny (model X.prog X.w) X.A.in1 (call f [u]) (CE X.stack X.prog X.w H s Q) (fun _ _=>False) s
theorem key_fn1 {X:Cx} {k:Nat} {f:Addr} {fd:FuncData} {ps:List Str} {sp:Sp} (F:FnOk X.prog X.w X.K X.mg X.base CX0 k f fd ps sp) (hr:Room (k+1) X.A) (hb:Binds X.K fd ps []):KeyR1 X (.ref f) fun x H Q=>sp [x] H Q E0:=by
 intro pins s σ H x u Q I rx h
 have rv:Vals [x] [u] := .cons rx .nil
 have b:=hb s [u] I.kIn (F.len _ _ _ _ h)
 rw [List.append_nil] at b
 refine wpAny_call (codeAny_mono (F.run X.A.in1 X.stack s H ⟨[u],[]⟩ [u] [x] Q E0 hr.in1 I.env0.in1 b rv h) fun r s' hq => ?_)
 cases r with
 | error e=>exact hq.elim
 | ok fl=>cases fl with
  | ret u=>exact hq
  | next=>exact False.elim hq
  | brk=>exact False.elim hq
  | cont=>exact False.elim hq
noncomputable def Fst (kt:Nat→Str) (n i:Nat):Prop:=i<n∧(∀j,j<n→¬lfLt (kt j) (kt i))∧∀j,j<i→lfLt (kt i) (kt j)
theorem Fst.keep {kt:Nat→Str} {n i:Nat} (h:Fst kt n i) (q:¬lfLt (kt n) (kt i)):Fst kt (n+1) i:=
 ⟨Nat.lt_succ_of_lt h.1,fun j hj=>(Nat.lt_succ_iff_lt_or_eq.mp hj).elim (h.2.1 j) fun e=>e ▸ q,h.2.2⟩
theorem lf_ntrans {a b c:Str} (h1:lfLt a b) (h2:¬lfLt c b):lfLt a c:=by
 by_cases e:c=b
 ·rw [e];exact h1
 ·exact lfLt_trans h1 ((lfLt_or e).resolve_left h2)
theorem Fst.take {kt:Nat→Str} {n i:Nat} (h:Fst kt n i) (q:lfLt (kt n) (kt i)):Fst kt (n+1) n:=
 ⟨Nat.lt_succ_self _,fun j hj=>(Nat.lt_succ_iff_lt_or_eq.mp hj).elim (fun hj z=>h.2.1 j hj (lfLt_trans z q)) fun e=>e ▸ lfLt_irrefl _,fun j hj=>lf_ntrans q (h.2.1 j hj)⟩
section
variable {X:Cx} {H:Hp} {s0:Shared} {pins:List (Addr×Obj)} {σ:St} {I S p:Addr} {as:List Addr} {kt:Nat→Str} {f:Addr} {r:V→Hp→VK→Prop}
structure Mj (X:Cx) (H:Hp) (s0:Shared) (I S p:Addr) (as:List Addr) (kt:Nat→Str) (j b:Nat) (Hj:Hp) (sj:Shared):Prop where
 run:Run X H s0 Hj sj
 same:Same H Hj
 iN:Hj I=none
 sN:Hj S=none
 i0:s0.heap.get? I=none
 s0':s0.heap.get? S=none
 ne:S≠I
 it:sj.heap.IsListIter I p j
 st:∃a kb c,as[b]? = some a∧sj.heap.get? S=some { cls := .type "list",data := .seq #[.ref a,kb] c } ∧ KeyAt Hj (kt b) kb
 fst:Fst kt j b
theorem min_turns (I0:Inv X pins σ H s0) (hc:X.calm=true) (hu:X.A.units+64<cLine) (F:KeyR1 X (.ref f) r) (hq:SqL X.K H p (as.map V.ref)) (hpI:p≠I) {R:Result→Shared→Prop}
  (hr:∀i a,as[i]? = some a→∀Hj,Same H Hj→r (.ref a) Hj fun v H'=>∃q,v = .ref q∧New Hj q (.tup [.int (kt i).length, .str (kt i)]) H')
  (fin:∀b a Hn sn,as[b]? = some a→Fst kt as.length b→Run X H s0 Hn sn→Same H Hn→R (.ok (.ret (.ref a))) sn) :
  ∀(m j b:Nat) (Hj:Hp) (sj:Shared),j+m=as.length→Mj X H s0 I S p as kt j b Hj sj→codeAny (model X.prog X.w) X.A (.builtin "min.loop" ⟨[.ref I, .ref f, .ref S],[]⟩) R sj:=by
 have hname:(toString "min" ++ toString ".loop" : String) = "min.loop":=by decide
 intro m
 induction m with
 | zero=>
  intro j b Hj sj hj M
  obtain ⟨a,kb,c,ea,eS,_⟩:=M.st
  obtain ⟨its,rv,pl,_⟩:=(M.run.inv I0).list (M.same.seq hq)
  have e:=vals_refs rv
  subst e
  have W:=Walks.list (prog:=X.prog) (w:=X.w) (A:=X.A.in1) (I0.ok.hd hc) I p hpI (as.map Value.ref).toArray
  have hsz:(as.map Value.ref).toArray.size=as.length:=by simp
  have hj:j=as.length:=by (first|lia|omega)
  subst hj
  refine codeAny_builtin PySem.F.entry_min_loop ?_
  rw [Around.under_plainId PySem.F.plain_min_loop _]
  refine wpAny_bind (wpAny_seqItems eS rfl ?_)
  change wpAny _ X.A.in1 (Bind.bind (tryCatch (pyNext (.ref I)) _) _) _ _ _
  refine wpAny_bind (wpAny_tryCatch (W.done sj _ _ ⟨by rw [hsz];exact M.it,pl.isList⟩ fun h' tk k' => ?_))
  have eS':=k' S _ (by simpa using M.ne) eS
  have r1:Run X H s0 Hj { sj with heap:=h',toks:=tk }:=by
   have:=M.run.alter (h':=h') M.i0 M.iN fun c u hc q=>k' c u (by simpa using hc) q
   exact ⟨this.un,this.hok,this.os,this.bare⟩
  change wpAny _ X.A.in1 (Bind.bind (updateSeq S (fun _ => #[])) _) _ _ _
  refine wpAny_bind (wpAny_updateSeq eS' rfl (wpAny_bind (wpAny_letGo (wpAny_pure ?_))))
  exact fin b a Hj _ ea M.fst (r1.alter M.s0' M.sN fun c u hc q=>by rw [Heap.get?_update_ne _ _ _ _ hc];exact q) M.same
 | succ m ih=>
  intro j b Hj sj hj M
  obtain ⟨a,kb,c,ea,eS,kB⟩:=M.st
  obtain ⟨its,rv,pl,_⟩:=(M.run.inv I0).list (M.same.seq hq)
  have e:=vals_refs rv
  subst e
  have W:=Walks.list (prog:=X.prog) (w:=X.w) (A:=X.A.in1) (I0.ok.hd hc) I p hpI (as.map Value.ref).toArray
  have hsz:(as.map Value.ref).toArray.size=as.length:=by simp
  have hlt:j<as.length:=by (first|lia|omega)
  refine codeAny_builtin PySem.F.entry_min_loop ?_
  rw [Around.under_plainId PySem.F.plain_min_loop _]
  refine wpAny_bind (wpAny_seqItems eS rfl ?_)
  change wpAny _ X.A.in1 (Bind.bind (tryCatch (pyNext (.ref I)) _) _) _ _ _
  refine wpAny_bind (wpAny_tryCatch (W.item j sj _ _ (by rw [hsz];exact hlt) ⟨M.it,pl.isList⟩ fun v h' tk hv st' k' => ?_))
  have ej:as[j]? = some as[j]:=List.getElem?_eq_getElem hlt
  have hv:v = .ref as[j]:=by simpa [hlt,eq_comm] using hv
  subst hv
  have eS':=k' S _ (by simpa using M.ne) eS
  have r1:Run X H s0 Hj { sj with heap:=h',toks:=tk }:=by
   have:=M.run.alter (h':=h') M.i0 M.iN fun c u hc q=>k' c u (by simpa using hc) q
   exact ⟨this.un,this.hok,this.os,this.bare⟩
  change wpAny _ X.A.in1 (Bind.bind (tryCatch (holding [.ref as[j]] (call (.ref f) [.ref as[j]])) _) _) _ _ _
  refine wpAny_bind (wpAny_tryCatch (wpAny_holding (wpAny_mono (F _ σ Hj (.ref as[j]) _ _ (r1.inv I0) rfl (hr j _ ej Hj M.same)) (fun kv s2 hk => ?_) fun _ _ z=>z.elim)))
  obtain ⟨v',H2,r2,rv2,⟨q2,rfl,n2⟩,un⟩:=r1.called hk
  cases rv2
  obtain ⟨oI,eI,cI,dI⟩:=id st'.1
  have eI2:=un.keep I _ eI M.iN (notFr I0 M.i0) (by simp)
  have eS2:=un.keep S _ eS' M.sN (notFr I0 M.s0') (by simp)
  have fI:=un.free I _ eI M.iN (by simp)
  have fS:=un.free S _ eS' M.sN (by simp)
  have it2:s2.heap.IsListIter I p (j+1):=⟨oI,eI2,cI,dI⟩
  have kB2:=kB.new n2
  have kN:KeyAt H2 (kt j) (.ref q2):=⟨q2,rfl,n2.at⟩
  have sm2:Same H H2:=fun x o z=>n2.same _ _ (M.same x o z)
  obtain ⟨x1,o1,m1,t1,t2,ex1,g1,c1,d1⟩:=kN.obj r2.hok
  obtain ⟨x2,o2,m2,u1,u2,rfl,g2,c2,d2⟩:=kB2.obj r2.hok
  cases ex1
  have hu1:X.A.in1.units<cLine:=by
   have:X.A.in1.units=X.A.units+1:=rfl
   (first|lia|omega)
  change wpAny _ X.A.in1 (Bind.bind (tryCatch (holding [.ref as[j], .ref q2] (Bind.bind (richCompare .Lt (.ref q2) (.ref x2)) _)) _) _) _ _ _
  refine wpAny_bind (wpAny_tryCatch (wpAny_holding (wpAny_bind (lt_pair (n:=(kt j).length) (m:=(kt b).length) (x:=kt j) (y:=kt b) ⟨o1,g1,c1,m1,d1⟩ ⟨o2,g2,c2,m2,d2⟩ hu1 ?_))))
  rw [prLt_lf]
  refine wpAny_bind (wpAny_holding (wpAny_truthy_bool (wpAny_bind (wpAny_letGo (wpAny_pure ?_)))))
  by_cases hb:lfLt (kt j) (kt b)
  ·rw [decide_eq_true hb]
   simp only [if_true]
   refine wpAny_bind (wpAny_updateSeq eS2 rfl (wpAny_bind (wpAny_letGo ?_)))
   rw [hname]
   have r3:=r2.alter (h':=s2.heap.update S (Obj.mapSeq fun _ => #[.ref as[j], .ref q2])) M.s0' fS fun c u hc q=>by rw [Heap.get?_update_ne _ _ _ _ hc];exact q
   refine wpAny_pure ⟨plainId_quiet PySem.F.plain_min_loop _,ih (j+1) j H2 _ (by first|lia|omega) ⟨r3,sm2,fI,fS,M.i0,M.s0',M.ne,⟨oI,by show (s2.heap.update _ _).get? I=_;rw [Heap.get?_update_ne _ _ _ _ M.ne.symm];exact eI2,cI,dI⟩,⟨_,_,_,ej,Heap.get?_update_self _ eS2 rfl,kN⟩,M.fst.take hb⟩⟩
  ·rw [decide_eq_false hb]
   simp only [Bool.false_eq_true,if_false]
   refine wpAny_bind (wpAny_letGo ?_)
   rw [hname]
   exact wpAny_pure ⟨plainId_quiet PySem.F.plain_min_loop _,ih (j+1) b H2 _ (by first|lia|omega) ⟨r2,sm2,fI,fS,M.i0,M.s0',M.ne,it2,⟨_,_,_,ea,eS2,kB2⟩,M.fst.keep hb⟩⟩
end
section
variable {X:Cx} (K:PySem.W.Frag)
theorem minKT {f:Addr} {r:V→Hp→VK→Prop} (F:KeyR1 X (.ref f) r) (hc:X.calm=true) (hu:X.A.units+64<cLine) (hK:X.K=K:=by rfl):CallKR X "min" [Str.ofString "key"] (fun xs zs H Q=>Ex3 fun (p:Addr) (as:List Addr) (kt:Nat→Str)=>xs=[.ref p]∧zs=[.ref f]∧SqL K H p (as.map V.ref)∧as≠[] ∧
  (∀i a,as[i]? = some a→∀Hj,Same H Hj→r (.ref a) Hj fun v H'=>∃q,v = .ref q∧New Hj q (.tup [.int (kt i).length, .str (kt i)]) H') ∧
  ∀(i:Nat) (a:Addr) (H':Hp),as[i]? = some a→Fst kt as.length i→Same H H'→Q (.ref a) H'):=by
 subst hK
 intro pins s σ H xs us zs ws Q I0 r1 r2 h
 obtain ⟨p,as,kt,rfl,rfl,hq,hne,hr,q⟩:=h
 obtain ⟨u,rfl,ru⟩:=vals1 r1
 obtain ⟨z,rfl,rz⟩:=vals1 r2
 cases ru;cases rz
 have hname:(toString "min" ++ toString ".loop" : String) = "min.loop":=by decide
 have hn0:0<as.length:=List.length_pos_iff.mpr hne
 obtain ⟨its,rv,pl,_⟩:=I0.list hq
 have e:=vals_refs rv
 subst e
 have hp:p<s.heap.objs.size:=by obtain ⟨o,e,_⟩:=pl.isList;exact Heap.lt_size e
 have hpI:p≠s.heap.objs.size:=Nat.ne_of_lt hp
 have W:=Walks.list (prog:=X.prog) (w:=X.w) (A:=X.A.in1) (I0.ok.hd hc) s.heap.objs.size p hpI (as.map Value.ref).toArray
 have hsz:(as.map Value.ref).toArray.size=as.length:=by simp
 show wpAny _ _ (call (.builtin "min") [.ref p] [(Str.ofString "key", .ref f)]) _ _ _
 refine kmk_tree PySem.F.kind_min PySem.F.plain_min PySem.F.entry_min (kmk_min_key _ _) ?_
 change wpAny _ X.A.in1 (Bind.bind (Builtin.Builtins.bindParams "min" ["key", "default"] 0 ⟨[],[(Str.ofString "key", .ref f)]⟩) _) _ _ s
 refine wpAny_bind (wpAny_of_eq (show Builtin.Builtins.bindParams "min" ["key", "default"] 0 ⟨[],[(Str.ofString "key", .ref f)]⟩=pure [some (.ref f),none] from rfl) (wpAny_bind (wpAny_pure ?_)))
 refine wpAny_bind (wpAny_pyIter_list pl.isList ?_)
 refine wpAny_bind (wpAny_newObj_type ?_)
 rw [hname]
 refine wpAny_pure ⟨plainId_quiet PySem.F.plain_min_loop _,?_⟩
 have k0:∀b o,s.heap.get? b=some o→((s.heap.push { cls := .type "list_iterator",data := .fields #[.ref p, .int 0 0] }).push { cls := .type "list",data := .seq #[] }).get? b=some o:=fun b o e=>Heap.get?_push_of_some _ (Heap.get?_push_of_some _ e)
 have sz1:(s.heap.push { cls := .type "list_iterator",data := .fields #[.ref p, .int 0 0] }).objs.size=s.heap.objs.size+1:=size_push' _ _
 have eI0:((s.heap.push { cls := .type "list_iterator",data := .fields #[.ref p, .int 0 0] }).push { cls := .type "list",data := .seq #[] }).get? s.heap.objs.size=some { cls := .type "list_iterator",data := .fields #[.ref p, .int 0 0] }:=Heap.get?_push_of_some _ (Heap.get?_push_size _ rfl)
 have eS0:((s.heap.push { cls := .type "list_iterator",data := .fields #[.ref p, .int 0 0] }).push { cls := .type "list",data := .seq #[] }).get? (s.heap.objs.size+1)=some { cls := .type "list",data := .seq #[] }:=by rw [←sz1];exact Heap.get?_push_size _ rfl
 have i0:s.heap.get? s.heap.objs.size=none:=Heap.get?_none_of_le (Nat.le_refl _)
 have s00:s.heap.get? (s.heap.objs.size+1)=none:=Heap.get?_none_of_le (Nat.le_succ _)
 have iN:=I0.hok.fresh (Nat.le_refl s.heap.objs.size)
 have sN:=I0.hok.fresh (Nat.le_succ s.heap.objs.size)
 have ne:s.heap.objs.size+1≠s.heap.objs.size:=Nat.succ_ne_self _
 show codeAny _ X.A (.builtin "min.loop" ⟨[.ref s.heap.objs.size, .ref f, .ref (s.heap.push { cls := .type "list_iterator",data := .fields #[.ref p, .int 0 0] }).objs.size],[]⟩) _ { s with heap:=(s.heap.push { cls := .type "list_iterator",data := .fields #[.ref p, .int 0 0] }).push { cls := .type "list",data := .seq #[] } }
 rw [sz1]
 have r0:=(Run.start I0).kept (h':=(s.heap.push { cls := .type "list_iterator",data := .fields #[.ref p, .int 0 0] }).push { cls := .type "list",data := .seq #[] }) k0
 have plS:Heap.IsList ((s.heap.push { cls := .type "list_iterator",data := .fields #[.ref p, .int 0 0] }).push { cls := .type "list",data := .seq #[] }) p (as.map Value.ref).toArray:=(pl.isList.push _).push _
 generalize (s.heap.push { cls := .type "list_iterator",data := .fields #[.ref p, .int 0 0] }).push { cls := .type "list",data := .seq #[] } = h1 at k0 eI0 eS0 r0 plS ⊢
 refine codeAny_builtin PySem.F.entry_min_loop ?_
 rw [Around.under_plainId PySem.F.plain_min_loop _]
 refine wpAny_bind (wpAny_seqItems eS0 rfl ?_)
 change wpAny _ X.A.in1 (Bind.bind (tryCatch (pyNext (.ref s.heap.objs.size)) _) _) _ _ _
 refine wpAny_bind (wpAny_tryCatch (W.item 0 _ _ _ (by rw [hsz];exact hn0) ⟨⟨_,eI0,rfl,rfl⟩,plS⟩ fun v h' tk hv st' k' => ?_))
 have e0:as[0]? = some as[0]:=List.getElem?_eq_getElem hn0
 have hv:v = .ref as[0]:=by simpa [hn0,eq_comm] using hv
 subst hv
 have eS':=k' (s.heap.objs.size+1) _ (by simp) eS0
 have r1':Run X H s H { s with heap:=h',toks:=tk }:=by
  have:=r0.alter (h':=h') i0 iN fun c u hc q=>k' c u (by simpa using hc) q
  exact ⟨this.un,this.hok,this.os,this.bare⟩
 change wpAny _ X.A.in1 (Bind.bind (tryCatch (holding [.ref as[0]] (call (.ref f) [.ref as[0]])) _) _) _ _ _
 refine wpAny_bind (wpAny_tryCatch (wpAny_holding (wpAny_mono (F _ σ H (.ref as[0]) _ _ (r1'.inv I0) rfl (hr 0 _ e0 H (Same.refl _))) (fun kv s2 hk => ?_) fun _ _ z=>z.elim)))
 obtain ⟨v',H2,r2',rv2,⟨q2,rfl,n2⟩,un⟩:=r1'.called hk
 cases rv2
 obtain ⟨oI,eI,cI,dI⟩:=id st'.1
 have eI2:=un.keep _ _ eI iN (notFr I0 i0) (by simp)
 have eS2:=un.keep _ _ eS' sN (notFr I0 s00) (by simp)
 have fI:=un.free _ _ eI iN (by simp)
 have fS:=un.free _ _ eS' sN (by simp)
 change wpAny _ X.A.in1 (Bind.bind (updateSeq (s.heap.objs.size+1) (fun _ => #[.ref as[0], .ref q2])) _) _ _ _
 refine wpAny_bind (wpAny_updateSeq eS2 rfl ?_)
 rw [hname]
 have r3:=r2'.alter (h':=s2.heap.update (s.heap.objs.size+1) (Obj.mapSeq fun _ => #[.ref as[0], .ref q2])) s00 fS fun c u hc q=>by rw [Heap.get?_update_ne _ _ _ _ hc];exact q
 refine wpAny_pure ⟨plainId_quiet PySem.F.plain_min_loop _,min_turns (kt:=kt) I0 hc hu F hq hpI hr (fun b a Hn sn ea fs run same => ?_) (as.length-1) 1 0 H2 _ (by first|lia|omega) ⟨r3,n2.same,fI,fS,i0,s00,ne,⟨oI,by show (s2.heap.update _ _).get? _=_;rw [Heap.get?_update_ne _ _ _ _ ne.symm];exact eI2,cI,dI⟩,⟨_,_,_,e0,Heap.get?_update_self _ eS2 rfl,⟨q2,rfl,n2.at⟩⟩,⟨Nat.one_pos,fun j hj=>by rw [show j=0 by first|lia|omega];exact lfLt_irrefl _,fun j hj=>absurd hj (Nat.not_lt_zero _)⟩⟩⟩
 exact ⟨.ref a,Hn,run.inv I0,rfl,q b a Hn ea fs same⟩
end
end L2
namespace L2
open PySem PySem.Spec PyProof.Rows
section
variable {X:Cx} {tg:Expr}
end
end L2
namespace L2
open PySem PySem.Spec PyProof.Rows
section
variable {X:Cx}
end
end L2
namespace L2
open PySem PySem.Spec PyProof.Rows
section
variable {X:Cx} {K:PySem.W.Frag}
end
end L2
namespace L2
open PySem PySem.Spec PyProof.Rows PySem.W
section
variable {X:Cx} {pins:List (Addr×Obj)} {σ:St} {H:Hp} {s:Shared}
end
section
variable {X:Cx}
end
end L2
namespace L2
open PySem PySem.Spec PyProof.Rows
section
variable {X:Cx}
theorem vals_erase:∀{xs:List V} {us:List Value} (j:Nat),Vals xs us→Vals (xs.eraseIdx j) (us.eraseIdx j)
 | _,_,_, .nil=>by simp;exact .nil
 | _,_,0, .cons _ t=>by simpa using t
 | _,_,j+1, .cons h t=>by simpa using .cons h (vals_erase j t)
end
end L2
namespace L2
open PySem PySem.Spec PyProof.Rows
noncomputable def tRevT (te:TE):TE:=fun σ H Q=>te σ H fun x H1=>∃z:Str,x = .str z∧z.length≤sizeLine∧∀y:Str,y.cps.toList=z.cps.toList.reverse→Q (.str y) H1
theorem rngD (l:List Nat):(List.range l.length).map (fun k=>l.getD k 0)=l:=by
 refine List.ext_getElem? fun i => ?_
 rw [List.getElem?_map]
 by_cases h:i<l.length
 ·rw [List.getElem?_range h,List.getElem?_eq_getElem h]
  simp [List.getD,h]
 ·rw [List.getElem?_eq_none (by rw [List.length_range]; (first|lia|omega)),List.getElem?_eq_none (by first|lia|omega)]
  rfl
theorem sp_rev (x:Str) (t:Tok):slicePicked x none none (some (-1,t))=(List.range x.length).map fun k=>x.length-1-k:=by
 have e:=PyProof.Rows.picked_rev x.length
 rw [←e]
 rfl
theorem pick_txt (x:Str) (t:Tok):(slicePicked x none none (some (-1,t))).filterMap (x.cps[·]?)=x.cps.toList.reverse:=by
 rw [sp_rev,List.filterMap_map]
 have hl:x.length=x.cps.toList.length:=by simp [Str.length]
 have hm:∀k∈List.range x.length,((fun i=>x.cps[i]?) ∘ fun k=>x.length-1-k) k=some (x.cps.toList.reverse.getD k 0):=fun k hk=>by
  have hk:=List.mem_range.mp hk
  simp only [Function.comp]
  rw [List.getD_eq_getElem?_getD,List.getElem?_reverse (by first|lia|omega), ←hl]
  rw [←Array.getElem?_toList,List.getElem?_eq_getElem (by first|lia|omega)]
  rfl
 rw [fm_map hm]
 have hr:x.length=x.cps.toList.reverse.length:=by rw [List.length_reverse];exact hl
 rw [hr]
 exact rngD _
section
variable {X:Cx} {e:Expr} {te:TE} {j p2 p3 p4 pos}
theorem pe_revT (he:PE X e te):PE X (.Subscript e (.Slice none none (some (.UnaryOp .USub (.Constant (.int 1) j p4) p3)) p2) pos) (tRevT te):=by
 intro pins s σ H Q I h
 refine Subscript_ (thn (he s σ H _ I h) fun v s1 ⟨x,H1,I1,r1,q1⟩ => ?_)
 obtain ⟨z,rfl,hz,q⟩:=q1
 obtain ⟨t,rfl⟩:=r1
 refine wpAny_Slice ?_
 rw [evalPart_none]
 refine wpAny_pure ?_
 refine wpAny_pure ?_
 have hs:PE X (.UnaryOp .USub (.Constant (.int 1) j p4) p3) (tUn (rU fun i => .int (-i)) (tC (.int 1))):=pe_un un_neg pe_int
 have hp:=po_some hs s1 σ H1 (fun o H2=>o=some (-1)∧H2=H1) I1 ⟨1,rfl, -1,rfl,rfl,rfl⟩
 refine thn hp fun vs s3 ⟨o,H3,I3,ps,eo,eh⟩ => ?_
 subst eo eh
 have I4:Inv X pins σ H3 { s3 with heap:=s3.heap.push { cls := .type "slice",data := .fields #[.none, .none,vs] } }:=I3.kept (t':=s3.toks) fun b ob q=>Heap.get?_push_of_some _ q
 cases ps with
 | int i t'=>
  refine tail_any (ops:=[.str z t, .ref s3.heap.objs.size]) (typeIs_str _ _ _) F.slot_str_getitem.lookup ?_ (by with_unfolding_all rfl)
  refine wpAny_getItem_str_slice (l:=none) (u:=none) (st:=some (-1,t')) ⟨_,Heap.get?_push_size _ rfl,rfl,rfl⟩ rfl ?_
  unfold sliceMade
  rw [if_neg (by simp)]
  have ey:=pick_txt z t'
  refine ⟨?_,?_⟩
  ·show (Str.mk _).length≤sizeLine
   rw [ey]
   simp only [Str.length,List.size_toArray,List.length_reverse]
   exact Nat.le_trans (Nat.le_of_eq (by simp [Str.length])) hz
  ·exact ⟨.str _,H3,I4.tok _,⟨_,rfl⟩,q _ (by rw [ey])⟩
end
end L2
namespace L2
open PySem PySem.Spec PyProof.Rows
section
variable {X:Cx} {K:PySem.W.Frag}
end
section
variable {X:Cx} {o i:Expr} {td ty:TE} {pos:Pos}
end
section
variable {X:Cx} {pins:List (Addr×Obj)} {σ:St} {H:Hp} {s:Shared}
open Classical in
end
section
variable {X:Cx}
end
section
variable {X:Cx}
end
end L2
namespace L2
open PySem PySem.Spec PyProof.Rows PySem.W PySem.Calls Builtin Builtin.ObjectAttr
noncomputable abbrev tailVE:List Value:=[.type "ValueError", .type "Exception", .type "BaseException", .type "object"]
structure ExcSt (K:Frag) (C:Addr) (f:Str):Prop where
 sa:findIn K (.ref C) "__setattr__" = some (some (.builtin "object.__setattr__"))
 na:findIn K (.ref C) f=some none
 mo:mroIn K C (.type "object")=some true
 cl:∃cd D,clsIn K C=some cd∧cd.mro = .ref C :: .ref D :: tailVE∧cd.hasDict=true
noncomputable def Raw (o:Obj):Prop:=∃t,o.data = .fields #[.ref t, .none, .none, .none, .bool false, .none]
theorem Raw.nc {o:Obj} (h:Raw o):notCls o=true:=by
 obtain ⟨_,_,dt,_⟩:=o
 obtain ⟨t,h⟩:=h
 cases h;rfl
noncomputable def excN (e C:Addr):HO := .ext fun h=>∃o,h.get? e=some o∧o.cls = .ref C∧o.dict=none∧Raw o
noncomputable def excF (e C dx:Addr):HO := .ext fun h=>∃o,h.get? e=some o∧o.cls = .ref C∧o.dict=some dx∧Raw o
section
variable {prog:Program} {w:World} {A:Around} {K:Frag} {C e:Addr} {s:Shared} {E:Value→Shared→Prop} {f:Str} {v:Value}
theorem exc_store {o:Obj} {Q:Unit→Shared→Prop} (X:K.In s.heap) (O:ExcSt K C f) (hx:s.heap.get? e=some o) (hc:o.cls = .ref C) (hd:o.dict=none) (hn:notCls o=true)
  (k:∀h' tk,h'.get? e=some { o with dict:=some s.heap.objs.size } → h'.Ns1 s.heap.objs.size (fun y=>if y=f then some v else none)→(∀b ob,b≠e→s.heap.get? b=some ob→h'.get? b=some ob)→Q () { s with heap:=h',toks:=tk }) :
  wpAny (model prog w) A (setAttr (.ref e) f v) Q E s:=by
 have J:InstAt s.heap e o C none:=⟨hx,hc,hn,by rw [hd];trivial⟩
 obtain ⟨cd,D,c1,c2,c3⟩:=O.cl
 have SF:=PySem.F.store_object
 have top:Looks (model prog w) s.heap (isInstance (.ref e) (.type "object")) true:=J.type.andThen (looks_mroIn X O.mo)
 have mros:Looks (model prog w) s.heap (mroOf (.ref C)) cd.mro:=(looks_clsIn X c1).andThen .now
 refine set_plain X J O.sa ?_
 refine codeAny_call_builtin SF.slot.plain SF.entry ?_
 refine @check_slot (model prog w) _ _ { s with toks:=s.toks+1 } "object.__setattr__" "object" "__setattr__" (.ref e) [.str f s.toks,v] [] _ SF.kind SF.split top (SF.args (.ref e) (.str f s.toks) v) ?_
 rw [osa_eq,refuse_eq]
 refine wpAny_bind (wpAny_bind (J.type.here (s:={ s with toks:=s.toks+1 }) (wpAny_bind (mros.here (s:={ s with toks:=s.toks+1 }) ?_))))
 rw [c2,refuseLoop_ref,refuseLoop_ref,PySem.F.store_ValueError.passes]
 refine wpAny_pure (wpAny_bind (J.type.here (s:={ s with toks:=s.toks+1 }) ?_))
 refine wpAny_bind ((looks_findIn X O.na).here (s:={ s with toks:=s.toks+1 }) ?_)
 refine wpAny_bind (wpAny_pure ?_)
 show wpAny _ _ (storeInOwnDict (.ref e) (.ref C) (.str f s.toks) f v false) _ _ _
 obtain ⟨oc,od,odt,osl⟩:=o
 dsimp only at hc hd
 subst hc hd
 have hfr:=(Heap.get?_some_iff.mp hx).2
 have hes:e≠s.heap.objs.size:=Nat.ne_of_lt (Heap.lt_size hx)
 refine wpAny_bind (wpAny_pure (wpAny_bind ?_))
 show wpAny _ _ (instanceDict e true) _ _ _
 unfold instanceDict
 refine wpAny_bind (wpAny_loadPart hx ?_)
 refine wpAny_bind ((looks_clsIn X c1).here (s:={ s with toks:=s.toks+1 }) ?_)
 rw [c3]
 dsimp only
 rw [if_neg (by decide),if_neg (by simp [typeHasDict])]
 split
 ·rename_i c
  exact absurd hn (by simp [notCls])
 have hx1:(s.heap.push { cls := .type "dict",data := .dict #[] }).get? e=some ⟨.ref C,none,odt,osl⟩:=Heap.get?_push_of_some _ hx
 refine wpAny_bind (wpAny_alloc' ?_)
 refine wpAny_bind (wpAny_update' hx1 ?_)
 refine wpAny_pure ?_
 obtain ⟨G,hG⟩:∃G,G=(s.heap.push { cls := .type "dict",data := .dict #[] }).update e fun o=>{ cls:=o.cls,dict:=some s.heap.objs.size,data:=o.data,slots:=o.slots }:=⟨_,rfl⟩
 have gd:G.get? s.heap.objs.size=some { cls := .type "dict",data := .dict #[] }:=by
  rw [hG]
  exact (Heap.get?_update_ne _ _ _ _ hes.symm).trans (Heap.get?_push_at rfl rfl)
 have ge:G.get? e=some ⟨.ref C,some s.heap.objs.size,odt,osl⟩:=by
  rw [hG]
  refine Heap.get?_update_self _ hx1 ?_
  cases odt <;> first|rfl|exact hfr
 have go:∀b ob,b≠e→s.heap.get? b=some ob→G.get? b=some ob:=fun b ob nb q=>by
  rw [hG]
  exact (Heap.get?_update_ne _ _ _ _ nb).trans (Heap.get?_push_of_some _ q)
 have ns0:G.Ns s.heap.objs.size (fun _=>none):=⟨_, #[],_,gd,rfl,(fun a ha=>absurd ha (by simp)),fun _=>rfl⟩
 rw [←hG]
 show wpAny _ _ (storeInDict s.heap.objs.size (.str f s.toks) f v) _ _ _
 unfold storeInDict newKeyGuard
 refine wpAny_bind (wpAny_pure (wpAny_bind (wpAny_nsSet1 (Heap.Ns1.of_empty ns0) fun h2 ns2 sb => ?_)))
 obtain ⟨oD,eD,pD,hoD,dD,cD⟩:=ns2.count (Within.cons f v Within.nil)
 refine wpAny_bind (wpAny_lookBehind hoD ?_ ?_)
 ·rw [dD]
  refine pastItsLine_dict (Nat.le_trans cD ?_)
  rw [List.length_cons,List.length_nil,sizeLine_eq]
  (first|lia|omega)
 exact wpAny_pure (k h2 _ ((sb.2 e hes).trans ge) ns2 fun b ob nb q=>(sb.2 b (Nat.ne_of_lt (Heap.lt_size q))).trans (go b ob nb q))
end
section
variable {prog:Program} {w:World} {A:Around} {E:Value→Shared→Prop} {h0:Heap} {g0:Array GenState} {d0:Drawn} {t0:Nat} {os0:OsState} {nm qn:Str} {C N fi:Addr} {bs up tail:List Value} {hdct:Bool} {sn:List Str} {sub:List Value} {ab:Bool}
 {col:Option Bool} {dd:Option Addr} {k0 k1 k2 k3 k5:Option Value} {B newId initId:String}
theorem xcls_call (FB:ExcBaseFacts B newId initId tail) (TL:OwnTail h0 tail up) {vs:List Value} {oi:Obj} {Q:Fin→Shared→Prop}
  (hcl:h0.get? C=some (excClassObj nm qn C N bs up hdct sn sub ab col dd k0 k1 k2 k3 k5 newId)) (hin:∀h1:Heap,(∀b o,h0.get? b=some o→h1.get? b=some o)→Looks (model prog w) h1 (typeLookup (.ref C) "__init__") (some (.ref fi))) (hfi:h0.get? fi=some oi) (hfk:oi.cls = .type "function") (fit:vs.length≤sizeLine)
  (run:∀h' e,Heap.MadeExcOf h0 h' e (.ref C) vs→wpAny (model prog w) A (call (.ref fi) (.ref e :: vs)) (fun r s'=>r = .none∧Q (.done (.ret (.ref e))) s') E ⟨h',g0,d0,t0,os0⟩) :
  wpAny (model prog w) A (Builtin.«type.__call__» ⟨.ref C :: vs,[]⟩) Q E ⟨h0,g0,d0,t0,os0⟩:=by
 repeat (first
  | with_reducible refine wpAny_loadPart_at hcl ?_
  | with_reducible refine wpAny_madeBy_exc hcl ?_
  | wp_step)
 refine codeAny_call_builtin_code (Code.quiet_builtin _ FB.quiet) ?_
 refine wpAny_check_new_subT FB TL hcl ?_
 refine codeAny_exc_new_subT FB TL hcl ?_ fit
 show wpAny _ _ _ _ _ _
 obtain ⟨H1,e1⟩:∃H1,H1=(h0.push { cls := .type "tuple",data := .seq vs.toArray }).push { cls := .ref C,data := .fields #[.ref h0.objs.size, .none, .none, .none, .bool false, .none] }:=⟨_,rfl⟩
 have kp:∀b o,h0.get? b=some o→H1.get? b=some o:=fun b o z=>by
  rw [e1]
  exact Heap.get?_push_of_some _ (Heap.get?_push_of_some _ z)
 have me:H1.get? (h0.objs.size+1)=some { cls := .ref C,data := .fields #[.ref h0.objs.size, .none, .none, .none, .bool false, .none] }:=by
  rw [e1]
  heap_get
 have mt:H1.get? h0.objs.size=some { cls := .type "tuple",data := .seq vs.toArray }:=by
  rw [e1]
  exact Heap.get?_push_of_some _ (Heap.get?_push_at rfl rfl)
 rw [←e1]
 have hcl1:=kp _ _ hcl
 have self:(Value.ref C :: up).contains (.ref C)=true:=by simp
 unfold isInstance
 repeat (first
  | with_reducible refine wpAny_loadPart_at me ?_
  | (with_reducible refine wpAny_isSubtype_exc hcl1 ?_;rw [self])
  | wp_step)
 show wpAny _ _ (typeLookup (.ref C) _) _ _ _
 refine (hin H1 kp).at ?_
 refine wpAny_holding (wpAny_bind ?_)
 unfold bindSpecial
 refine wpAny_bind (wpAny_typeOf (T := "function") ⟨_,kp _ _ hfi,hfk⟩ ?_)
 rw [if_pos (by decide)]
 have made:Heap.MadeExcOf h0 H1 (h0.objs.size+1) (.ref C) vs:=⟨kp,Heap.get?_none_of_le (Nat.le_succ _),h0.objs.size,me,Heap.get?_none_of_le (Nat.le_refl _),mt⟩
 refine wpAny_pure (wpAny_bind (wpAny_mono (run H1 _ made) (fun r s' hr => ?_) fun _ _ x=>x))
 obtain ⟨rfl,q⟩:=hr
 wp_walk
 exact q
theorem xcall (FB:ExcBaseFacts B newId initId tail) (TL:OwnTail h0 tail up) {vs:List Value} {oi:Obj} {Q:Value→Shared→Prop}
  (hcl:h0.get? C=some (excClassObj nm qn C N bs up hdct sn sub ab col dd k0 k1 k2 k3 k5 newId)) (hin:∀h1:Heap,(∀b o,h0.get? b=some o→h1.get? b=some o)→Looks (model prog w) h1 (typeLookup (.ref C) "__init__") (some (.ref fi))) (hfi:h0.get? fi=some oi) (hfk:oi.cls = .type "function") (fit:vs.length≤sizeLine)
  (run:∀h' e,Heap.MadeExcOf h0 h' e (.ref C) vs→wpAny (model prog w) (A.under (.builtin "type.__call__" ⟨.ref C :: vs,[]⟩)) (call (.ref fi) (.ref e :: vs)) (fun r s'=>r = .none∧Q (.ref e) s') E ⟨h',g0,d0,t0,os0⟩) :
  wpAny (model prog w) A (call (.ref C) vs) Q E ⟨h0,g0,d0,t0,os0⟩:=by
 have b1:=tc_lookup
 have b2:=tc_bind (.ref C)
 have ty:(⟨h0,g0,d0,t0,os0⟩:Shared).TypeIs (.ref C) "type":=⟨_,hcl,rfl⟩
 refine wpAny_call (codeAny_of_tree ?_)
 show wpAny _ _ (callAny (.ref C) _) _ _ _
 repeat (any_goals (first
  | assumption
  | with_reducible refine wpAny_loadPart_at hcl ?_
  | wp_step))
 refine ⟨rfl,codeAny_call_builtin_at (Code.quiet_builtin _ (by decide +kernel)) entry_typeCall ?_⟩
 exact wpAny_check_type_call_sub hcl (xcls_call FB TL hcl hin hfi hfk fit fun h' e m=>run h' e m)
end
section
variable {X:Cx} {pins:List (Addr×Obj)} {σ:St} {H:Hp} {s:Shared} {e C:Addr}
theorem excN_ok {P:Program} {w:World} {H:Hp} {h:Heap} {o:Obj} (h1:h.get? e=some o) (h2:o.cls = .ref C) (h3:o.dict=none) (h4:Raw o):ObjOk P w H h e (excN e C):=
 ⟨⟨o,h1,h2,h3,h4⟩,⟨o,h1⟩,fun a b ⟨o,e1,r⟩ k=>⟨o,k _ e1,r⟩⟩
theorem excF_ok {P:Program} {w:World} {H:Hp} {h:Heap} {o:Obj} {dx:Addr} (h1:h.get? e=some o) (h2:o.cls = .ref C) (h3:o.dict=some dx) (h4:Raw o):ObjOk P w H h e (excF e C dx):=
 ⟨⟨o,h1,h2,h3,h4⟩,⟨o,h1⟩,fun a b ⟨o,e1,r⟩ k=>⟨o,k _ e1,r⟩⟩
theorem Inv.noObj (I:Inv X pins σ H s) (h:s.heap.get? e=none):H e=none:=by
 cases z:H e with
 | none=>rfl
 | some o=>obtain ⟨q,hq⟩:=(I.hok e o z).ex;rw [hq] at h;cases h
theorem Inv.madeE {h':Heap} {us:List Value} {tk:Nat} (I:Inv X pins σ H s) (m:Heap.MadeExcOf s.heap h' e (.ref C) us) (hex:X.ex=[]):Inv X pins σ (upd H e (excN e C)) { s with heap:=h',toks:=tk }:=by
 obtain ⟨k,ne,t0,me,nt,mt⟩:=m
 have I2:Inv X pins σ H { s with heap:=h',toks:=tk }:=I.kept k
 have hs:∀b o,s.heap.get? b=some o→b≠e:=fun b o q z=>by rw [z,ne] at q;cases q
 refine I2.adoptE (I.noObj ne) (fun z => ?_) (fun x c q => ?_) (fun p hp => ?_) (fun b u q => ?_) (excN_ok me rfl rfl ⟨_,rfl⟩)
 ·obtain ⟨m,⟨oL,_,_,q,_⟩,_⟩:=I.loc
  exact hs _ _ q z.symm
 ·obtain ⟨v,o,e1,_⟩:=I.cell x c q
  exact hs _ _ e1
 ·exact hs _ _ (I.pin p hp).1
 ·obtain ⟨o',q'⟩:=I.base.there b u q (by rw [hex];exact fun z=>nomatch z)
  exact hs _ _ q'
structure XMk (K:Frag) (C fi:Addr):Prop where
 cl:∃nm qn N bs D hdct sn sub ab col dd k0 k1 k2 k3 k5,K.lookup C=some (excClassObj nm qn C N bs (.ref D :: tailVE) hdct sn sub ab col dd k0 k1 k2 k3 k5 "ValueError.__new__")∧∀h:Heap,K.In h→OwnTail h tailVE (.ref D :: tailVE)
 ini:findIn K (.ref C) "__init__" = some (some (.ref fi))
 fn:∃oi:Obj,K.lookup fi=some oi∧oi.cls = .type "function"
 kp:keepIn K (.ref C)=true
noncomputable def tXMake (C:Addr) (sp:Sp) (t:TA):TE:=fun σ H Q=>t σ H fun vs H1=>vs.length≤1000∧∀e,H1 e=none→sp (.ref e :: vs) (upd H1 e (excN e C)) (fun v H2=>v = .non∧Q (.ref e) H2) E0
theorem run_xmake {k:Nat} {fi:Addr} {fd:FuncData} {ps:List Str} {sp:Sp} {Q:VK} {us:List Value} {vs:List V} (M:XMk X.K C fi) (F:FnOk X.prog X.w X.K X.mg X.base CX0 k fi fd ps sp) (hr:Room (k+1) X.A) (hb:Binds X.K fd ps []) (hex:X.ex=[])
  (I:Inv X pins σ H s) (r:Vals vs us) (hl:vs.length≤1000) (h:∀e,H e=none→sp (.ref e :: vs) (upd H e (excN e C)) (fun v H2=>v = .non∧Q (.ref e) H2) E0):wpAny (model X.prog X.w) X.A (call (.ref C) us) (EP X pins σ Q) X.xe s:=by
 obtain ⟨nm,qn,N,bs,D,hdct,sn,sub,ab,col,dd,k0,k1,k2,k3,k5,lk,TL⟩:=M.cl
 obtain ⟨oi,l2,ft⟩:=M.fn
 have kin:=I.kIn
 refine xcall (h0:=s.heap) (g0:=s.gens) (d0:=s.drawn) (t0:=s.toks) (os0:=s.os) PySem.F.excBase_ValueError (TL _ kin) (kin _ _ lk) (fun h1 kp=>looks_findIn (fun a o z=>kp a o (kin a o z)) M.ini) (kin _ _ l2) ft (by rw [←r.length];exact Nat.le_trans hl (by decide)) fun h' e m => ?_
 have I2:Inv X pins σ (upd H e (excN e C)) { s with heap:=h',toks:=s.toks }:=I.madeE m hex
 have hq:=h e (I.noObj m.2)
 have r2:Vals (V.ref e :: vs) (Value.ref e :: us) := .cons rfl r
 have hlen:(Value.ref e :: us).length=ps.length:=by rw [←r2.length];exact F.len _ _ _ _ hq
 have hb2:=hb { s with heap:=h',toks:=s.toks } (Value.ref e :: us) I2.kIn (by rw [List.append_nil];exact hlen)
 rw [List.append_nil] at hb2
 refine wpAny_call (codeAny_mono (F.run _ X.stack { s with heap:=h',toks:=s.toks } _ ⟨Value.ref e :: us,[]⟩ (Value.ref e :: us) _ _ E0 (hr.make C us []) (I2.env0.make C us []) hb2 r2 hq) fun rr s' hq' => ?_)
 cases rr with
 | error x=>exact hq'.elim
 | ok fl=>
  cases fl with
  | ret u=>
   obtain ⟨v,H',I3,rv,ev,q3⟩:=I2.after hq'
   subst ev
   exact ⟨rv,⟨V.ref e,H',I3,rfl,q3⟩⟩
  | next=>exact hq'.elim
  | brk=>exact hq'.elim
  | cont=>exact hq'.elim
theorem pe_xmake {k:Nat} {fi:Addr} {fd:FuncData} {ps:List Str} {sp:Sp} {x:Str} {p pos:Pos} {a:Expr} {as:List Expr} {t:TA} (M:XMk X.K C fi) (F:FnOk X.prog X.w X.K X.mg X.base CX0 k fi fd ps sp) (hr:Room (k+1) X.A) (hg:Gl X x) (hm:X.mg x=some (.ref C))
  (hb:Binds X.K fd ps []) (ha:PA X (a :: as) t) (hex:X.ex=[]:=by rfl) (hdb:(x == ("__debug__" : Str))=false:=by decide) (he:starEach (a :: as) X.env=(false,eval a X.env) :: starEach as X.env:=by rfl) (hpl:(backTo pos (starEach as X.env)).any (·.1)=false:=by rfl) :
  PE X (.Call (.Name x p) (a :: as) [] pos) (tXMake C sp t):=by
 intro pins s σ H Q I h
 refine wpAny_Call_Name_kw (ld_glob I hg hm ?_ hdb)
 refine PySem.W.callWith_K (h₀:=X.base) I.ok.mod.kin M.kp (thn (ha s σ H _ I h) fun us s1 ⟨vs,H1,I1,r,q⟩=>⟨I1.kIn,?_⟩) he hpl
 exact run_xmake M F hr hb hex I1 r q.1 q.2
noncomputable def sXFld (K:Frag) (to tv:TE) (f:Str):TS:=fun D σ H=>tv σ H fun v H1=>to σ H1 fun x H2=>∃e C,x = .ref e∧H2 e=some (excN e C)∧ExcSt K C f∧∀dx,H2 dx=none→dx≠e→D.nx σ (upd (upd H2 e (excF e C dx)) dx (.xd [(f,v)]))
theorem ps_xfld {o value:Expr} {f:Str} {to tv:TE} {pos pos':Pos} (ho:PE X o to) (hv:PE X value tv) (hs:swapsWith value (some (.Attribute o f pos')) pos.line X.env=pure false):PS X (.Assign [.Attribute o f pos'] value pos) (sXFld X.K to tv f):=by
 intro pins s σ H D I h
 refine plainObj_wpAny_Assign_Attribute (thn (hv s σ H _ I h) fun u s1 ⟨v,H1,I1,ru,q⟩=>thn (ho s1 σ H1 _ I1 q) fun ov s2 ⟨x,H2,I2,rx,e,C,ex,ee,S,q2⟩ => ?_) hs
 subst ex
 obtain rfl:ov=Value.ref e:=rx
 obtain ⟨ob,b1,b2,b3,b4⟩:=(show ObjOk X.prog X.w H2 s2.heap e (excN e C) from I2.hok e _ ee).1
 have hes:e≠s2.heap.objs.size:=Nat.ne_of_lt (Heap.lt_size b1)
 refine exc_store I2.kIn S b1 b2 b3 b4.nc fun h' tk a1 a2 a3 => ?_
 have I3:Inv X pins σ (upd H2 e (excF e C s2.heap.objs.size)) { s2 with heap:=h',toks:=tk }:=I2.write (x:=e) (e:=e) (by rw [ee];exact True.intro) (.inl rfl) a3 ⟨_,a1⟩ (excF_ok a1 b2 rfl b4)
 have hd:H2 s2.heap.objs.size=none:=I2.hok.fresh (Nat.le_refl _)
 have fp:=I2.fpOk (H':=H2) (Nat.le_refl _) hd
 refine ⟨σ,_,?_,q2 _ hd hes.symm⟩
 refine I3.adoptE (by rw [upd_ne hes.symm];exact hd) fp.2.1 fp.2.2.2.2.1 fp.2.2.2.2.2 (fun b u q z => ?_) ⟨_,a2,fun g => ?_⟩
 ·have:=Heap.lt_size q
  rw [z] at this
  exact absurd (Nat.lt_of_lt_of_le this I2.sz) (Nat.lt_irrefl _)
 ·show RelO (List.lookup g [(f,v)]) (if g=f then some u else none)
  by_cases z:g=f
  ·rw [if_pos z,z,List.lookup_cons_self];exact ru
  ·rw [if_neg z]
   have:List.lookup g [(f,v)]=none:=by
    rw [List.lookup_cons]
    have:(g == f)=false:=by simpa using z
    rw [this];rfl
   rw [this];trivial
end
section
variable {K:Frag} {C D N:Addr} {nm qn:Str} {bs up:List Value} {hdct:Bool} {sn:List Str} {sub:List Value} {ab:Bool} {col:Option Bool} {dd:Option Addr} {k0 k1 k2 k3 k5:Option Value}
theorem exc_parts (lk:K.lookup C=some (excClassObj nm qn C N bs up hdct sn sub ab col dd k0 k1 k2 k3 k5 "ValueError.__new__")) (made:excIn K C tailVE "ValueError.__new__" = true):nsOkIn K N=true∧nsIn K N "__init__" = some none:=by
 have h:(C == C && "ValueError.__new__" == "ValueError.__new__" && !false&&tailIn K tailVE up&&nsOkIn K N&&nsIn K N "__init__" == some none)=true:=by
  unfold excIn at made
  rw [lk] at made
  exact made
 have h1:=Bool.and_eq_true_iff.mp h
 exact ⟨(Bool.and_eq_true_iff.mp h1.1).2,beq_iff_eq.mp h1.2⟩
theorem own_tail (lk:K.lookup C=some (excClassObj nm qn C N bs tailVE hdct sn sub ab col dd k0 k1 k2 k3 k5 "ValueError.__new__")) (made:excIn K C tailVE "ValueError.__new__" = true) (h:Heap) (kin:K.In h):OwnTail h tailVE (.ref C :: tailVE):=by
 obtain ⟨a,b⟩:=exc_parts lk made
 exact .own (kin _ _ lk) (.of_isNs (isNs_of_in kin a)) (nsMap_none_of_in kin a b) .base
theorem excSt_mk {f:Str} (lk:K.lookup C=some (excClassObj nm qn C N bs (.ref D :: tailVE) true sn sub ab col dd k0 k1 k2 k3 k5 "ValueError.__new__")) (sa:findIn K (.ref C) "__setattr__" = some (some (.builtin "object.__setattr__"))) (na:findIn K (.ref C) f=some none)
  (mo:mroIn K C (.type "object")=some true):ExcSt K C f:=by
 refine ⟨sa,na,mo,⟨{ name:=nm,bases:=bs,mro := .ref C :: .ref D :: tailVE,ns:=N,qualname:=qn,hasDict:=true,slotNames:=sn,subclasses:=sub,abstract:=ab,collection:=col,hasDel:=false },D,?_,rfl,rfl⟩⟩
 unfold clsIn
 rw [lk]
end
section
variable {prog:Program} {w:World} {A:Around} {E:Value→Shared→Prop}
theorem drawn_list {j l:Addr} {xs:Array Value} (ne:l≠j):∀(m i:Nat) (s:Shared) (Q:List Value→Shared→Prop),s.heap.IsListIter j l i→s.heap.IsList l xs→i+m≤xs.size →
  (∀h',h'.IsListIter j l (i+m)→Heap.SameBut j s.heap h'→Q ((xs.toList.drop i).take m) { s with heap:=h' })→wpAny (model prog w) A (draw (.ref j) m) Q E s:=by
 intro m
 induction m with
 | zero=>
  intro i s Q a b c k
  show wpAny _ _ (pure ([]:List Value)) Q E s
  refine wpAny_pure ?_
  have z:=k s.heap a (Heap.SameBut.refl ..)
  rw [List.take_zero] at z
  exact z
 | succ m ih=>
  intro i s Q a b c k
  have lt:i<xs.size:=by (first|lia|omega)
  show wpAny _ _ (pyNext (.ref j) >>= _) Q E s
  refine wpAny_bind (wpAny_pyNext_list_item a b (x:=xs[i]) (by rw [Array.getElem?_eq_getElem lt]) fun h1 a1 s1 => ?_)
  have b1:h1.IsList l xs:=by
   obtain ⟨o,e1,e2⟩:=b
   exact ⟨o,(s1.2 l ne).trans e1,e2⟩
  refine wpAny_bind (wpAny_holding (ih (i+1) { s with heap:=h1 } _ a1 b1 (by first|lia|omega) fun h2 a2 s2=>wpAny_pure ?_))
  have z:=k h2 (by rw [show i+(m+1)=i+1+m by first|lia|omega];exact a2) (s1.trans s2)
  have dr:xs.toList.drop i=xs[i] :: xs.toList.drop (i+1):=by
   rw [List.drop_eq_getElem_cons (by simpa using lt)]
   simp
  rw [dr,List.take_succ_cons] at z
  exact z
theorem unpacked_list {l:Addr} {xs:Array Value} {s:Shared} {Q:List Value→Shared→Prop} (calm:A.handled=none) (b:s.heap.IsList l xs) (k:∀h',Heap.ExtBut s.heap.objs.size s.heap h'→Q xs.toList { s with heap:=h' }) :
  wpAny (model prog w) A (unpackItems (.ref l) xs.size none) Q E s:=by
 have ne:l≠s.heap.objs.size:=by
  obtain ⟨o,e,_⟩:=b
  exact Nat.ne_of_lt (Heap.lt_size e)
 unfold unpackItems
 refine wpAny_bind ?_
 unfold notIterableAtAll
 refine wpAny_bind (wpAny_specialOf b.typeIs slot_list_iter.lookup (wpAny_pure ?_))
 simp only [Bool.false_eq_true,if_false]
 refine wpAny_bind (wpAny_holding (wpAny_pyIter_list b ?_))
 have b0:(s.heap.push { cls := .type "list_iterator",data := .fields #[.ref l, .int 0 0] }).IsList l xs:=by
  obtain ⟨o,e1,e2⟩:=b
  exact ⟨o,Heap.get?_push_of_some _ e1,e2⟩
 refine wpAny_bind (wpAny_holding (drawn_list ne xs.size 0 _ _ ⟨_,Heap.get?_push_size _ rfl,rfl,rfl⟩ b0 (by first|lia|omega) fun h1 a1 s1 => ?_))
 have whole:List.take xs.size (List.drop 0 xs.toList)=xs.toList:=by
  rw [List.drop_zero]
  exact List.take_of_length_le (by simp)
 rw [whole,if_neg (by simp)]
 have b1:h1.IsList l xs:=by
  obtain ⟨o,e1,e2⟩:=b0
  exact ⟨o,(s1.2 l ne).trans e1,e2⟩
 refine wpAny_bind (wpAny_holding (wpAny_pyNext_list_end calm a1 b1 (by simp) fun h2 x2 => ?_))
 simp only [Option.isSome_none,Bool.false_eq_true,if_false]
 refine wpAny_pure (k h2 fun c o nc e => ?_)
 exact x2 c o nc ((s1.2 c nc).trans (Heap.get?_push_of_some _ e))
end
noncomputable def gLst (K:Frag) (n:Nat) (t:TGs):TG:=fun v σ H Q=>Ex2 fun a xs=>v = .ref a∧SqL K H a xs∧xs.length=n∧t xs σ H Q
theorem pg_lst {X:Cx} {pos:Pos} {es:List Expr} {k:Nat} {t:TGs} (K:Frag) (n:Nat) (hc:X.calm=true) (h:PGs X es t) (hn:(assignEach es X.env).length=n:=by rfl) (hst:(assignEach es X.env).findIdx? (·.1)=none:=by rfl) (hK:X.K=K:=by rfl):PG X (.Tuple es k pos) (gLst K n t):=by
 subst hK
 intro pins s σ H v u Q I r hw
 obtain ⟨a,xs,rfl,hq,hl,hw⟩:=hw
 cases r
 obtain ⟨its,rv,ht,hz⟩:=I.list hq
 have hsz:its.toArray.size=(assignEach es X.env).length:=by rw [List.size_toArray, ←rv.length,hl,hn]
 rw [assign_Tuple]
 refine wpAny_bind (wpAny_standAt ?_)
 unfold unpack
 rw [hst, ←hsz]
 refine wpAny_bind (wpAny_holding (unpacked_list (I.ok.hd hc) ht.isList fun h' x' => ?_))
 have I1:Inv X pins σ H { s with heap:=h' }:=I.kept (t':=s.toks) fun b o e=>x' b o (Nat.ne_of_lt (Heap.lt_size e)) e
 exact h _ σ H xs _ Q I1 (by simpa using rv) hw
end L2
namespace L2
open PySem PySem.Spec PyProof.Rows PySem.Builtin PySem.Builtin.Str
end L2
namespace L2
open PySem PySem.Spec PyProof.Rows
end L2
namespace L2
open PySem PySem.Spec PyProof.Rows
section
variable {X:Cx} {pins:List (Addr×Obj)} {σ:St} {H:Hp} {s:Shared} {a:Addr} {u v:HO}
theorem Inv.relet (I:Inv X pins σ H s) (hu:H a=some u) (nt:∀xs,u ≠ .tup xs) (nf:∀o w,X.H₀ a≠some (.frz o w)) (nb:∀ps,u ≠ .tbl ps) (no:∀y,u ≠ .own y) (hv:∀H',(∀b,H b=some (.own a)→H' b=some (.own a))→(∀b xs,H b=some (.tup xs)→H' b=some (.tup xs))→ObjOk X.prog X.w H' s.heap a v) :
  Inv X pins σ (upd H a v) s:=by
 have hne:∀{b:Addr},H b=none→b≠a:=fun e z=>by rw [z,hu] at e;cases e
 have own:∀b y,H b=some (.own y)→upd H a v b=some (.own y):=fun b y e=>by
  rw [upd_ne (fun z=>by rw [z,hu] at e;exact no y (Option.some.inj e))];exact e
 have tup:∀b xs,H b=some (.tup xs)→upd H a v b=some (.tup xs):=fun b xs e=>by
  rw [upd_ne (fun z=>by rw [z,hu] at e;exact nt xs (Option.some.inj e))];exact e
 refine ⟨I.ok,I.os,I.bare,⟨I.base.keep,I.base.slot,fun b o q n hx => ?_,I.base.there,fun b xs q=>tup b xs (I.base.tups b xs q),fun b o w q => ?_,fun b ps q => ?_⟩,I.loc,I.cell,?_,fun x c e => ?_,fun p hp => ?_,fun b o e => ?_,I.len⟩
 ·have:=I.base.free b o q n hx
  rw [upd_ne (hne this)];exact this
 ·have:=I.base.frzs b o w q
  rw [upd_ne (fun z=>by rw [z] at q;exact nf _ _ q)];exact this
 ·obtain ⟨more,e⟩:=I.base.tbls b ps q
  exact ⟨more,by rw [upd_ne (fun z=>by rw [z,hu] at e;exact nb _ (Option.some.inj e))];exact e⟩
 ·rw [upd_ne (hne I.free)];exact I.free
 ·rw [upd_ne (hne (I.freeC x c e))];exact I.freeC x c e
 ·obtain ⟨p1,p2,p3⟩:=I.pin p hp
  exact ⟨p1,by rw [upd_ne (hne p2)];exact p2,p3⟩
 ·by_cases z:b=a
  ·subst z
   rw [upd_same] at e
   cases e
   exact hv _ (fun b e=>own b _ e) tup
  ·rw [upd_ne z] at e
   exact (I.hok b o e).stay (fun _ _ _ q=>q) (fun b e=>own b _ e) tup
theorem Inv.freeze {kvs:List (Key×V)} (I:Inv X pins σ H s) (h:H a=some (.dK kvs)):∃ob ep vs,s.heap.get? a=some ob∧KV kvs vs∧(a == sysModules)=false∧(∀h':Heap,h'.get? a=some ob→h'.DictAt (mixKind X.prog X.w) a vs ep)∧Inv X pins σ (upd H a (.frz ob (.dK kvs))) s:=by
 obtain ⟨z,ns,vs,kv,o,es,ep,e,r⟩:=I.hok a _ h
 refine ⟨o,ep,vs,e,kv,ns,fun h' e'=>⟨o,es,e',r⟩,I.relet h (fun _ z=>nomatch z) (fun o w q => ?_) (fun _ z=>nomatch z) (fun _ z=>nomatch z) fun H' _ _=>⟨e,z,ns,vs,kv,o,es,ep,e,r⟩⟩
 have:=I.base.frzs a o w q
 rw [h] at this;cases this
theorem Inv.thaw {ob:Obj} {kvs:List (Key×V)} (I:Inv X pins σ H s) (h:H a=some (.frz ob (.dK kvs))) (nf:∀o w,X.H₀ a≠some (.frz o w)):Inv X pins σ (upd H a (.dK kvs)) s:=by
 obtain ⟨e,z,ns,vs,kv,o,es,ep,e',r⟩:=I.hok a _ h
 exact I.relet h (fun _ z=>nomatch z) nf (fun _ z=>nomatch z) (fun _ z=>nomatch z) fun H' _ _=>⟨z,ns,vs,kv,o,es,ep,e',r⟩
end
noncomputable def Itd (ob:Obj) (a:Addr) (kvs:List (Key×V)):It:=⟨fun i H=>H a=some (.frz ob (.dK kvs))∧i<kvs.length,fun i H x H'=>H'=H∧∃q,kvs[i]? = some q∧x=kV q.1,fun i H=>H a=some (.frz ob (.dK kvs))∧kvs.length≤i⟩
theorem kv_atK:∀{kvs:List (Key×V)} {vs:List (Key×Value)} {i:Nat} {q:Key×V},KV kvs vs→kvs[i]? = some q→∃z,vs[i]? = some (q.1,z)
 | _ :: _,_ :: _,0,_, .cons h _,e=>by cases e;exact ⟨_,by rw [h.1];rfl⟩
 | _ :: _,_ :: _,i+1,_, .cons _ t,e=>kv_atK (i:=i) t e
theorem turn_dkeys {P:Program} {w:World} {K:PySem.W.Frag} {tg:Expr} {a it:Addr} {ob:Obj} {ep:Nat} {kvs:List (Key×V)} {vs:List (Key×Value)} (kv:KV kvs vs) (D:∀h':Heap,h'.get? a=some ob→h'.DictAt (mixKind P w) a vs ep) :
  Turn P w K tg (Itd ob a kvs) [it] it (fun i h=>h.IsKeyIter it a i vs.length ep) where
 mem:=by simp
 obj:=fun i h st b hb=>by
  have e:b=it:=by simpa using hb
  subst e
  obtain ⟨o,e,c,d⟩:=st
  exact ⟨o,e,fun v z=>by rw [d] at z;cases z⟩
 keep:=fun i h h' st k=>by
  obtain ⟨o,e,c,d⟩:=st
  exact ⟨o,k it (by simp) o e,c,d⟩
 item:=by
  intro X hP hw hK hc i pins s σ H E I hf st hg
  subst hP hw hK
  obtain ⟨ha,hi⟩:=hg
  obtain ⟨f0,f1,f2,f3,f4,f5⟩:=hf it (by simp)
  obtain ⟨z,hz⟩:=kv_atK kv (List.getElem?_eq_getElem hi)
  refine wpAny_pyNext_dict_item (knd:=mixKind X.prog X.w) st (D _ (I.hok a _ ha).1) hz fun key h' hk st' sb => ?_
  have I1:Inv X pins σ H { s with heap:=h' }:=I.turned (t':=s.toks) (fun b o hb e=>(sb.2 b hb).trans e) f0 f1 f3 f4 f5
  obtain ⟨o,e,c,d⟩:=id st'
  have rk:RelV (kV kvs[i].1) key:=by
   rcases keyIs_shape hk with ⟨n,t,e1,e2⟩|⟨x,t,e1,e2⟩
   ·rw [e1,e2];exact ⟨t,rfl⟩
   ·rw [e1,e2];exact ⟨t,rfl⟩
  exact ⟨_,rfl,go_of (s:={ s with heap:=h' }) e c d (by decide) ⟨_,H,I1,rk,⟨rfl,_,List.getElem?_eq_getElem hi,rfl⟩,st',fun b hb=>(hf b hb).1⟩⟩
 done:=by
  intro X hP hw hK hc i pins s σ H E I hf st hg
  subst hP hw hK
  obtain ⟨ha,hi⟩:=hg
  obtain ⟨f0,f1,f2,f3,f4,f5⟩:=hf it (by simp)
  exact wpAny_pyNext_dict_end (knd:=mixKind X.prog X.w) (I.ok.hd hc) st (D _ (I.hok a _ ha).1) (List.getElem?_eq_none (by rw [←kv.length];exact hi)) fun h' eb=>⟨rfl,I.turned (t':=s.toks) (fun b o hb e=>eb b o hb e) f0 f1 f3 f4 f5⟩
 self:=fun A i s Q E st h=>wpAny_pyIter_keyiter st h
noncomputable def iDKeys (tl:TE):TI:=fun σ H R=>tl σ H fun x H1=>Ex2 fun (a:Addr) (kvs:List (Key×V))=>x = .ref a∧H1 a=some (.dK kvs)∧∀ob,R (Itd ob a kvs) (upd H1 a (.frz ob (.dK kvs)))
theorem pi_dkeys {X:Cx} {tg l:Expr} {tl:TE} (hl:PE X l tl):PI X tg l (iDKeys tl):=by
 intro pins s σ H R I h
 refine thn (hl s σ H _ I h) fun v s1 ⟨x,H1,I1,r1,a,kvs,e,ha,q⟩ => ?_
 subst e
 cases r1
 obtain ⟨ob,ep,vs,eo,kv,ns,D,I2⟩:=I1.freeze ha
 refine wpAny_pyIter_dict (knd:=mixKind X.prog X.w) ns (D _ eo) ?_
 have hk:∀b o,s1.heap.get? b=some o→(s1.heap.push { cls := .type "dict_keyiterator",data := .fields #[.ref a, .int 0 0, .int vs.length 0, .int ep 0] }).get? b=some o:=fun b o e=>Heap.get?_push_of_some _ e
 have I3:=I2.kept (t':=s1.toks) hk
 refine ⟨_,_,_,_,_,rfl,I3,turn_dkeys kv D,⟨_,Heap.get?_push_size _ rfl,rfl,rfl⟩,fun c hc => ?_,q ob⟩
 have hcs:s1.heap.objs.size≤c:=by
  simp at hc
  rw [hc];exact Nat.le_refl _
 exact I2.fpOk hcs (I2.hok.fresh hcs)
noncomputable def tThaw (te:TE):TE:=fun σ H Q=>∃a,(∃kvs,H a=some (.dK kvs))∧te σ H fun v H'=>∃ob kvs,H' a=some (.frz ob (.dK kvs))∧Q v (upd H' a (.dK kvs))
theorem pe_thaw {X:Cx} {e:Expr} {te:TE} (h:PE X e te):PE X e (tThaw te):=by
 intro pins s σ H Q I hq
 obtain ⟨a,⟨kvs,ha⟩,q⟩:=hq
 have nf:∀o w,X.H₀ a≠some (.frz o w):=fun o w z=>by
  have:=I.base.frzs a o w z
  rw [ha] at this;cases this
 refine thn (h s σ H _ I q) fun u s1 ⟨v,H1,I1,r1,ob,kvs',h1,q1⟩=>⟨v,_,I1.thaw h1 nf,r1,q1⟩
end L2
namespace L2
open PySem PySem.Spec PyProof.Rows
section
variable {X:Cx}
theorem indexS:MtM X "list.index" (fun x vs H Q=>∃(l:Addr) (xs:List Str) (y:Str) (j:Nat),x = .ref l∧vs=[.str y]∧H l=some (.lst (xs.map V.str))∧xs[j]? = some y∧(∀m,m<j→xs[m]? ≠ some y)∧Q (.int (j:Nat)) H):=by
 intro pins s σ H x vs v us Q I rx rv h
 refine Elim.el (h) _ ?_
 rintro l xs y j rfl rfl hH hj hno q
 cases rx
 refine Elim.el (vals1 rv) _ ?_
 rintro u rfl ru
 obtain ⟨t,rfl⟩:=ru
 refine Elim.el (I.lstM hH) _ ?_
 rintro z its n r hl e
 have hlen:=r.length
 rw [List.length_map] at hlen
 have jl:j<xs.length:=(List.getElem?_eq_some_iff.mp hj).1
 let ev:Value→Bool:=fun u=>match u with | .str a _=>decide (a=y)|_=>false
 have at':∀m (hm:m<its.length),∃t',its[m] = .str (xs[m]'(by first|lia|omega)) t':=fun m hm=>by
  obtain ⟨a,h1,h2⟩:=vals_at r (i:=m) (v:=its[m]) (by simp [hm])
  rw [List.getElem?_map,List.getElem?_eq_getElem (by first|lia|omega)] at h1
  cases h1
  exact h2
 have hn:=line63
 refine call_meets F.slot_list_index ⟨_,e,rfl⟩ F.entry_list_index (F.args_list_index_2 _ _) (SeqAt.list_indexAt l its.toArray n none #[] (.str y t) ev j (by rw [List.size_toArray]; (first|lia|omega)) (by
  have:xs.length≤sizeLine:=by rw [List.length_map] at z;exact z
  (first|lia|omega)) ?_ ?_) ⟨e,fun w hw => ?_,?_⟩
 ·obtain ⟨t',e'⟩:=at' j (by first|lia|omega)
  show ev its[j]=true
  rw [e']
  exact decide_eq_true (List.getElem?_eq_some_iff.mp hj).2
 ·intro m hm hmj
  have hm':m<its.length:=by rw [List.size_toArray] at hm;exact hm
  obtain ⟨t',e'⟩:=at' m hm'
  show ev its[m]=false
  rw [e']
  refine decide_eq_false fun z=>hno m hmj ?_
  rw [List.getElem?_eq_getElem (by first|lia|omega),z]
 ·have hw:w∈its:=by simpa using hw
  refine Elim.el (List.mem_iff_getElem.mp hw) _ ?_
  rintro i hi ew
  obtain ⟨t',e'⟩:=at' i hi
  rw [←ew,e']
  exact SeqAt.EqAt.str_str _ t' y t
 ·exact ⟨.int _,H,I.tok _,⟨_,rfl⟩,q⟩
end
end L2
namespace L2
open PySem PySem.Spec PyProof.Rows PySem.W
theorem keys_rel {prog:Program} {w:World} : ∀{kvs:List (Key×V)} {vs:List (Key×Value)} {its:List Value},KV kvs vs→its.length=vs.length →
  (∀(j:Nat) v,its[j]? = some v→∃k x,vs[j]? = some (k,x)∧(mixKind prog w).is k v=true)→Vals (kvs.map fun q=>kV q.1) its
 | [],[],[],_,_,_ => .nil
 | [],[],_ :: _,_,h,_=>by cases h
 | _ :: _,_ :: _,[],_,h,_=>by cases h
 | p :: kvs,q :: vs,v :: its, .cons h1 h2,hl,h=>by
  refine .cons ?_ (keys_rel h2 (Nat.succ.inj hl) fun j u e=>h (j+1) u e)
  obtain ⟨k,x,e1,e2⟩:=h 0 v rfl
  cases e1
  show RelV (kV p.1) v
  rw [show p.1=k from h1.1]
  rcases keyIs_shape e2 with ⟨n,t,z1,z2⟩|⟨y,t,z1,z2⟩
  ·rw [z1,z2];exact ⟨t,rfl⟩
  ·rw [z1,z2];exact ⟨t,rfl⟩
section
variable {X:Cx}
theorem listD (hc:X.calm=true):CallR X (.type "list") (fun xs H Q=>Ex2 fun (d:Addr) (kvs:List (Key×V))=>xs=[.ref d]∧H d=some (.dK kvs)∧∀p H',New H p (.lst (kvs.map fun q=>kV q.1)) H'→Q (.ref p) H'):=by
 intro pins s σ H xs us Q I r h
 obtain ⟨d,kvs,rfl,hd,q⟩:=h
 obtain ⟨u,rfl,ru⟩:=vals1 r
 cases ru
 obtain ⟨z,ns,vs,kv,o,es,ep,e,rr⟩:=I.hok d _ hd
 have kl:=kv.length
 refine kdl_call (kdl_dict (knd:=mixKind X.prog X.w) (kvs:=vs) (ep:=ep) ns) (I.ok.hd hc) ⟨o,es,e,rr⟩ (by first|lia|omega) fun h' tk acc c k hS items => ?_
 refine ⟨.ref s.heap.objs.size,_,I.laid (a:=s.heap.objs.size) (o := .lst (kvs.map fun q=>kV q.1)) (t':=tk) k (Nat.le_refl _) ⟨by rw [List.length_map];exact z,acc.toList,c,?_,by simpa using hS⟩,rfl,q _ _ ⟨I.hok.fresh (Nat.le_refl _),rfl⟩⟩
 exact keys_rel kv (by rw [Array.length_toList];exact items.1) fun j v ej=>items.2 j v (by rw [←Array.getElem?_toList];exact ej)
end
end L2
namespace L2
open PySem PySem.Spec PyProof.Rows
section
variable {prog:Program} {w:World} {K:Type} [DecidableEq K] {knd:KeyKind prog w K} {A:Around} {E:Value→Shared→Prop} {s:Shared}
end
section
variable {prog:Program} {w:World} {A:Around} {it S:Addr} {fp:Addr→Prop} {n:Nat} {P:Nat→Value→Heap→Prop} {R:Value→Value→Prop} {St:Nat→Heap→Prop}
end
section
variable {prog:Program} {w:World} {K:Type} [DecidableEq K] {knd:KeyKind prog w K}
end
section
variable {X:Cx}
end
end L2
namespace L2
open PySem PySem.Spec PyProof.Rows
open AutoSeq1 (wpAny_loadPart')
section
variable {prog:Program} {w:World} {A:Around} {E:Value→Shared→Prop} {s:Shared}
end
end L2
namespace L2
open PySem PySem.Spec PyProof.Rows
end L2
namespace L2
open PySem PySem.Spec PyProof.Rows
section
variable {prog:Program} {w:World} {A:Around} {E:Value→Shared→Prop} {s:Shared} {a:Addr} {es:Array (Int×Value)} {ep:Nat} {t:SetTable} {o:Obj} {lo:Nat}
end
end L2
namespace L2
open PySem PySem.Spec PyProof.Rows
section
variable {prog:Program} {w:World} {a:Addr} {es:Array (Int×Value)} {ep:Nat} {t:SetTable} {lo:Nat}
end
end L2
namespace L2
open PySem PySem.Spec PyProof.Rows
section
variable {prog:Program} {w:World} {A:Around} {E:Value→Shared→Prop} {h:Heap} {g:Array GenState} {d:Drawn} {t:Nat} {os:OsState} {a:Addr} {o:Obj}
end
end L2
namespace L2
open PySem PySem.Spec PyProof.Rows
section
variable {prog:Program} {w:World} {K:Type} [DecidableEq K] {knd:KeyKind prog w K} {A:Around} {E:Value→Shared→Prop}
end
section
variable {X:Cx} {pins:List (Addr×Obj)} {σ:St} {H:Hp} {s:Shared}
end
end L2
namespace L2
open PySem PySem.Spec PyProof.Rows
section
variable {prog:Program} {w:World} {K:Type} [DecidableEq K] {knd:PySem.KeyKind prog w K}
variable {A:Around} {R:Result→Shared→Prop} {I:Addr} {fp wr:List Addr} {G:Array GenState→Array GenState→Prop} {n:Nat} {P:Nat→Value→Prop} {St:Nat→Shared→Prop}
end
section
variable {prog:Program} {w:World} {K:Type} [DecidableEq K] {knd:PySem.KeyKind prog w K} {A:Around} {E:Value→Shared→Prop} {s:Shared}
end
section
variable {X:Cx}
theorem removeS:MtM X "list.remove" (fun x vs H Q=>∃(l:Addr) (xs:List Str) (y:Str),x = .ref l∧vs=[.str y]∧H l=some (.lst (xs.map V.str))∧y∈xs∧∀H',Chg H l (.lst ((xs.erase y).map V.str)) H'→Q .non H'):=by
 intro pins s σ H x vs v us Q I rx rv h
 obtain ⟨l,xs,y,rfl,rfl,hH,hy,q⟩:=h
 cases rx
 obtain ⟨u,rfl,ru⟩:=vals1 rv
 obtain ⟨t,rfl⟩:=ru
 obtain ⟨z,its,n,r,hl,e⟩:=I.lstM hH
 have hlen:=r.length
 rw [List.length_map] at hlen
 obtain ⟨j,hj⟩:∃j,j=xs.idxOf y:=⟨_,rfl⟩
 have jl:j<xs.length:=by rw [hj];exact List.idxOf_lt_length_iff.mpr hy
 have jy:xs[j]=y:=by simp only [hj];exact List.getElem_idxOf (by rw [←hj];exact jl)
 have jn:∀m (hm:m<xs.length),m<j→xs[m]≠y:=fun m hm hmj w=>by
  have:m<List.findIdx (· == y) xs:=by rw [hj] at hmj;exact hmj
  have:=List.not_of_lt_findIdx this
  rw [w] at this
  simp at this
 let ev:Value→Bool:=fun u=>match u with | .str a _=>a == y|_=>false
 have at':∀m (hm:m<its.length),∃t',its[m] = .str (xs[m]'(by first|lia|omega)) t':=fun m hm=>by
  obtain ⟨a,h1,h2⟩:=vals_at r (i:=m) (v:=its[m]) (by simp [hm])
  rw [List.getElem?_map,List.getElem?_eq_getElem (by first|lia|omega)] at h1
  cases h1
  exact h2
 refine call_meets F.slot_list_remove ⟨_,e,rfl⟩ F.entry_list_remove (F.args_list_remove_2 _ _) (MeetsSeq.list_remove l its.toArray n (.str y t) ev (fun w hw => ?_) j (by rw [List.size_toArray]; (first|lia|omega)) ?_ ?_ (by rw [List.size_toArray]; (first|lia|omega))) ⟨e,?_⟩
 ·have hw:w∈its:=by simpa using hw
  obtain ⟨i,hi,ew⟩:=List.mem_iff_getElem.mp hw
  obtain ⟨t',e'⟩:=at' i hi
  rw [←ew,e']
  have z:=SeqRoads2.EqGives.str (xs[i]'(by first|lia|omega)) y t' t
  rw [show ((xs[i]'(by first|lia|omega)).cps.toList == y.cps.toList)=((xs[i]'(by first|lia|omega)) == y) from by rw [Bool.eq_iff_iff,beq_iff_eq,beq_iff_eq,Array.toList_inj];exact ⟨fun q=>by generalize xs[i]'(by first|lia|omega)=x at q ⊢;cases x;cases y;simp_all,fun q=>by rw [q]⟩] at z
  exact z
 ·obtain ⟨t',e'⟩:=at' j (by first|lia|omega)
  show ev its[j]=true
  rw [e']
  show (xs[j] == y)=true
  rw [jy];simp
 ·intro m hm hmj
  have hm':m<its.length:=by rw [List.size_toArray] at hm;exact hm
  obtain ⟨t',e'⟩:=at' m hm'
  show ev its[m]=false
  rw [e']
  show (xs[m] == y)=false
  simpa using jn m (by first|lia|omega) hmj
 ·have ex:(xs.map V.str).eraseIdx j=(xs.erase y).map V.str:=by
   rw [List.erase_eq_eraseIdx_of_idxOf (i:=j) hj.symm,List.eraseIdx_eq_take_drop_succ,List.eraseIdx_eq_take_drop_succ,List.map_append,List.map_take,List.map_drop]
  refine ⟨.non,_,I.lset (ys:=(xs.map V.str).eraseIdx j) (its':=its.eraseIdx j) hH e ?_ (vals_erase j r) (by rw [List.length_eraseIdx];split <;> (first|lia|omega)),rfl,?_⟩
  ·simp [Array.eraseIdxIfInBounds,show j<its.length by first|lia|omega]
  ·exact q _ ⟨by rw [ex]⟩
end
end L2
namespace L2
open PySem PySem.Spec PyProof.Rows PySem.W PySem.Calls
section
variable {M:Model} {A:Around} {E:Value→Shared→Prop} {s:Shared} {env:Env}
variable {nm q:Str} {C N:Addr} {bs bm:List Value} {hdct:Bool} {sn:List Str} {sub:List Value} {ab:Bool} {col:Option Bool} {dd:Option Addr} {k0 k1 k2 k3 k5:Option Value} {newId:String}
theorem raise_obj {x:Expr} {pos:Pos} {Q:Flow→Shared→Prop} (hh:A.handled=none) (hb:bm.contains (.type "BaseException")=true)
  (h:wpAny M A (eval x env) (fun v s1=>∃e o,v = .ref e∧s1.heap.get? C=some (excClassObj nm q C N bs bm hdct sn sub ab col dd k0 k1 k2 k3 k5 newId)∧s1.heap.get? e=some o∧o.cls = .ref C∧Raw o∧E (.ref e) s1) E s) :
  wpAny M A (exec (.Raise (some x) none pos) env) Q E s:=by
 have hcB:(Value.ref C :: bm).contains (.type "BaseException")=true:=by rw [List.contains_cons,hb,Bool.or_true]
 rw [arm_exec_Raise]
 show wpAny M A (do standAt pos;raiseStmt env (some (do let v ←eval x env;standAt pos;pure v)) none) Q E s
 refine wpAny_bind (wpAny_standAt ?_)
 unfold raiseStmt
 refine wpAny_bind (wpAny_bind (wpAny_mono h (fun v s1 h1=>wpAny_bind (wpAny_standAt (wpAny_pure ?_))) fun _ _ z=>z))
 obtain ⟨e,o,rfl,hC,he,hc,⟨t,hd⟩,hE⟩:=h1
 obtain ⟨oc,od,odt,osl⟩:=o
 dsimp only at hc hd
 subst hc hd
 obtain ⟨hp,g,d,tk,os⟩:=s1
 repeat (first|with_reducible refine wpAny_loadPart_at he ?_|with_reducible refine wpAny_loadPart_at hC ?_|(with_reducible refine wpAny_isSubtype_exc hC ?_;rw [hcB])|wp_step)
 exact wpAny_raiseNew_none hh hE
end
section
variable {P:Program} {w:World} {K:PySem.W.Frag} {mg:Str→Option Value} {base:Heap} {N:List Str} {qual:Str} {scope:Scope} {f:Addr} {cd:Value} {A:Around} {outer:List Env} {s0:Shared} {H0:Hp} {E:XK}
noncomputable def sRaiseM (C:Addr) (H0:Hp) (E:XK) (sp:Sp) (t:TA):TS:=fun _ σ H=>tXMake C sp t σ H fun v H2=>∃e dx,v = .ref e∧H2 e=some (excF e C dx)∧H0 e=none∧E (.ref C) (some dx) (drp H2 e)
theorem ps_raiseM {k:Nat} {fi C:Addr} {fd:FuncData} {ps:List Str} {sp:Sp} {x:Str} {p cpos pos:Pos} {a:Expr} {as:List Expr} {t:TA} (M:XMk K C fi) (F:FnOk P w K mg base CX0 k fi fd ps sp) (hr:Room (k+1) (A.deeper (envOfC qual scope s0.heap.objs.size f cd)))
  (hg:Gl (cxOf (CXE P w base) P w K mg base N qual scope f cd A outer s0 H0 E) x) (hm:mg x=some (.ref C)) (hb:Binds K fd ps []) (ha:PA (cxOf (CXE P w base) P w K mg base N qual scope f cd A outer s0 H0 E) (a :: as) t) (hdb:(x == ("__debug__" : Str))=false:=by decide)
  (he:starEach (a :: as) (envOfC qual scope s0.heap.objs.size f cd)=(false,eval a (envOfC qual scope s0.heap.objs.size f cd)) :: starEach as (envOfC qual scope s0.heap.objs.size f cd):=by rfl) (hpl:(backTo cpos (starEach as (envOfC qual scope s0.heap.objs.size f cd))).any (·.1)=false:=by rfl) :
  PS (cxOf (CXE P w base) P w K mg base N qual scope f cd A outer s0 H0 E) (.Raise (some (.Call (.Name x p) (a :: as) [] cpos)) none pos) (sRaiseM C H0 E sp t):=by
 intro pins s σ H D I h
 obtain ⟨nm,qn,Nn,bs,Db,hdct,sn,sub,ab,col,dd,k0,k1,k2,k3,k5,lk,TL⟩:=id M.cl
 have ev:=pe_xmake (X:=cxOf (CXE P w base) P w K mg base N qual scope f cd A outer s0 H0 E) (pos:=cpos) (p:=p) M F hr hg hm hb ha rfl hdb he hpl s σ H _ I h
 refine raise_obj (C:=C) (nm:=nm) (q:=qn) (N:=Nn) (bs:=bs) (bm := .ref Db :: tailVE) (hdct:=hdct) (sn:=sn) (sub:=sub) (ab:=ab) (col:=col) (dd:=dd) (k0:=k0) (k1:=k1) (k2:=k2) (k3:=k3) (k5:=k5) (newId := "ValueError.__new__")
  (I.ok.hd rfl) (by simp [tailVE]) (thn ev fun v s1 ⟨y,H1,I1,ry,e,dx,ey,ee,h0,hE⟩ => ?_)
 subst ey
 obtain rfl:v=Value.ref e:=ry
 obtain ⟨ob,b1,b2,b3,b4⟩:=(show ObjOk P w H1 s1.heap e (excF e C dx) from I1.hok e _ ee).1
 obtain ⟨t0,b5⟩:=id b4
 have ub:Un (frs outer) [] H0 H1 s0.heap s1.heap:=I1.base
 refine ⟨e,ob,rfl,I1.kIn _ _ lk,b1,b2,b4,exc_leaves (t:=t0) I1 b1 ?_ b5 rfl rfl (.inr ⟨_,ee⟩) (by rw [b2,b3];exact hE)⟩
 cases z:s0.heap.get? e with
 | none=>rfl
 | some o=>
  have:=ub.free e o z h0 (by simp)
  rw [ee] at this;cases this
end
section
variable {X:Cx}
end
end L2
namespace Z
open PySem L2
noncomputable def top (i:Nat):Stmt:=PySem.Challenge.pw_oddlong_k17_books_of_known_readings.main.body.getD i (.Pass ⟨0,0,0,0⟩)
noncomputable abbrev i_made_of:Nat:=2
noncomputable abbrev i_is_code:Nat:=3
noncomputable abbrev i_rest_of:Nat:=4
noncomputable abbrev i_length_first:Nat:=5
noncomputable abbrev i_rests_of_codes:Nat:=6
noncomputable abbrev i_rests_with:Nat:=7
noncomputable abbrev i_two_readings:Nat:=9
noncomputable abbrev i_first_stands:Nat:=10
noncomputable abbrev i_stands_behind:Nat:=11
noncomputable abbrev i_keep_least:Nat:=12
noncomputable abbrev i_least_stand:Nat:=13
noncomputable abbrev i_stand_order:Nat:=14
noncomputable abbrev i_in_order:Nat:=15
noncomputable abbrev i_rests_of:Nat:=16
noncomputable abbrev i_OddError:Nat:=18
noncomputable abbrev i_NoName:Nat:=19
noncomputable abbrev i_written:Nat:=21
noncomputable abbrev i_text_of:Nat:=22
noncomputable abbrev i_shows_one:Nat:=24
noncomputable abbrev i_holds_all:Nat:=25
noncomputable abbrev i_shows_two:Nat:=26
noncomputable abbrev i_law_begin:Nat:=28
noncomputable abbrev i_law_take:Nat:=29
noncomputable abbrev i_law_names:Nat:=30
noncomputable abbrev i_law_free:Nat:=31
noncomputable abbrev i_law_none:Nat:=32
noncomputable abbrev i_law_noughts_right:Nat:=33
noncomputable abbrev i_law_even_right:Nat:=34
noncomputable abbrev i_law:Nat:=35
end Z
namespace Z
open PySem L2
theorem sizeOk {n:Nat} (h:n≤10000000):n≤sizeLine:=Nat.le_trans h (by decide)
end Z
namespace Z
open PySem L2
structure Box (H:Hp) (b c:Addr) (t:Int) (ns:List Int):Prop where
 d:H b=some (.dK [(.inr "cells", .ref c),(.inr "turn", .int t)])
 l:H c=some (.lst (ns.map V.int))
 ne:0<ns.length
 le:ns.length≤64
noncomputable def hid (H:Hp) (b c:Addr):Hp:=fun a=>if a=b∨a=c then none else H a
theorem hid_of {H:Hp} {b c a:Addr} (h1:a≠b) (h2:a≠c):hid H b c a=H a:=if_neg (fun z=>z.elim h1 h2)
theorem of_hid {H:Hp} {b c a:Addr} {o:HO} (h:hid H b c a=some o):H a=some o∧a≠b∧a≠c:=by
 unfold hid at h
 split at h
 ·cases h
 ·rename_i n
  exact ⟨h,fun z=>n (.inl z),fun z=>n (.inr z)⟩
theorem hid_le {H:Hp} {b c:Addr} : Same (hid H b c) H:=fun a o h=>(of_hid h).1
theorem Box.bc {H:Hp} {b c:Addr} {t:Int} {ns:List Int} (x:Box H b c t ns):b≠c:=ne_of x.d x.l (by intro z;cases z)
theorem Box.get_turn {H:Hp} {b c:Addr} {t:Int} {ns:List Int} (x:Box H b c t ns):DGet H b (.str "turn") (some (.int t)):=DGet.k (k:=Sum.inr "turn") x.d
theorem Box.get_cells {H:Hp} {b c:Addr} {t:Int} {ns:List Int} (x:Box H b c t ns):DGet H b (.str "cells") (some (.ref c)):=DGet.k (k:=Sum.inr "cells") x.d
theorem Box.put_turn {H:Hp} {b c:Addr} {t:Int} {ns:List Int} (x:Box H b c t ns) (t':Int):DPut H b (.str "turn") (.int t') (upd H b (.dK [(.inr "cells", .ref c),(.inr "turn", .int t')])):=
 DPut.k (k:=Sum.inr "turn") x.d (by show 2<sizeLine;decide)
theorem Box.turned {H:Hp} {b c:Addr} {t:Int} {ns:List Int} (x:Box H b c t ns) (t':Int):Box (upd H b (.dK [(.inr "cells", .ref c),(.inr "turn", .int t')])) b c t' ns:=
 ⟨upd_same,by rw [upd_ne (Ne.symm x.bc)];exact x.l,x.ne,x.le⟩
theorem hid_upd_b {H:Hp} {b c:Addr} {o:HO} : hid (upd H b o) b c=hid H b c:=by
 funext a;unfold hid;split
 ·rfl
 ·rename_i n;exact upd_ne (fun z=>n (.inl z))
theorem hid_upd_c {H:Hp} {b c:Addr} {o:HO} : hid (upd H c o) b c=hid H b c:=by
 funext a;unfold hid;split
 ·rfl
 ·rename_i n;exact upd_ne (fun z=>n (.inr z))
noncomputable def spTake:Sp:=fun vs H Q _=>Ex5 fun (b c:Addr) (t:Int) (ns:List Int) (many:Int)=>vs=[.ref b, .int many]∧Box H b c t ns∧0≤t∧t<100000000∧0<many∧many<1073741824 ∧
 ∀(r:Int) (H':Hp) (ns':List Int),0≤r→r<many→Box H' b c (t+1) ns'→Same (hid H b c) (hid H' b c)→Q (.int r) H'
theorem at_of {ns:List Int} {p:Int} (h0:0≤p) (h1:p<ns.length):∃v,atI (ns.map V.int) p=some (.int v)∧ns[p.toNat]? = some v:=by
 have hk:p.toNat<ns.length:=by (first|lia|omega)
 have ek:p=((p.toNat:Nat):Int):=by (first|lia|omega)
 have q:atI (ns.map V.int) ((p.toNat:Nat):Int)=some (.int ns[p.toNat]):=atI_nat (by rw [List.getElem?_map,List.getElem?_eq_getElem hk] <;> rfl)
 rw [←ek] at q
 exact ⟨_,q,List.getElem?_eq_getElem hk⟩
theorem cm_mod {a j m:Int} (h0:0<m) (h:m<2 ^ 64):CMul (a % m) j:=by
 have h1:=Int.emod_nonneg a (b:=m) (by first|lia|omega)
 have h2:=Int.emod_lt_of_pos a h0
 exact .inl ⟨by first|lia|omega,by first|lia|omega⟩
theorem ixN_of {n:Nat} {p:Int} (h0:0≤p) (h1:p<n):ixN n p=some p.toNat:=by unfold ixN;rw [if_pos h0,if_pos h1]
theorem hid_more {H H':Hp} {b c:Addr} (h:∀a o,a≠b→a≠c→H a=some o→H' a=some o):Same (hid H b c) (hid H' b c):=fun a o e=>by
 refine Elim.el (of_hid e) _ ?_
 rintro e h1 h2
 rw [hid_of h1 h2]
 exact h a o h1 h2 e
end Z
namespace L2
open PySem
noncomputable def Gm (t:TG):Prop:=∀x σ H (Q Q':St→Hp→Prop),(∀a b,Q a b→Q' a b)→t x σ H Q→t x σ H Q'
noncomputable def Gms (t:TGs):Prop:=∀x σ H (Q Q':St→Hp→Prop),(∀a b,Q a b→Q' a b)→t x σ H Q→t x σ H Q'
theorem gm_name {i:Nat} : Gm (gName i):=fun _ _ _ _ _ h q=>h _ _ q
theorem gms_nil:Gms gNil:=fun _ _ _ _ _ h q=>⟨q.1,h _ _ q.2⟩
theorem gms_cons {t:TG} {u:TGs} (a:Gm t) (b:Gms u):Gms (gCons t u):=fun _ _ _ _ _ h ⟨v,r,e,q⟩=>⟨v,r,e,a _ _ _ _ _ (fun _ _ z=>b _ _ _ _ _ h z) q⟩
theorem Dens.get {K:PySem.W.Frag} {H:Hp} : ∀{ds:List PyData} {vs:List V} {i:Nat} {d:PyData},Dens K H ds vs→ds[i]? = some d→∃v,vs[i]? = some v∧Den K H d v
 | [],_,_,_,_,e=>by simp at e
 | d :: ds,vs,i,d',h,e=>by
  unfold Dens at h
  obtain ⟨v,r,rfl,h1,h2⟩:=h
  cases i with
  | zero=>cases e;exact ⟨v,rfl,h1⟩
  | succ i=>exact Dens.get (i:=i) h2 e
theorem Dens.len {K:PySem.W.Frag} {H:Hp} : ∀{ds:List PyData} {vs:List V},Dens K H ds vs→vs.length=ds.length
 | [],_,h=>by unfold Dens at h;subst h;rfl
 | d :: ds,vs,h=>by
  unfold Dens at h
  obtain ⟨v,r,rfl,h1,h2⟩:=h
  rw [List.length_cons,List.length_cons,Dens.len h2]
theorem Den.pair {K:PySem.W.Frag} {H:Hp} {a b:Str} {v:V} (h:Den K H (.tuple [.str a, .str b]) v):∃p,v = .ref p∧SqT K H p [.str a, .str b]:=by
 unfold Den at h
 obtain ⟨p,vs,e,h1,h2⟩:=h
 unfold Dens at h2
 obtain ⟨v1,r1,rfl,d1,h2⟩:=h2
 unfold Dens at h2
 obtain ⟨v2,r2,rfl,d2,h2⟩:=h2
 unfold Dens at h2
 subst h2
 unfold Den at d1 d2
 subst d1 d2
 exact ⟨p,e,h1⟩
end L2
namespace Z
open PySem L2
theorem same_new {H:Hp} {p:Addr} (h:H p=none) (o:HO):Same H (upd H p o):=fun b u q=>by rw [upd_ne (ne_of_none q h)];exact q
end Z
namespace L2
open PySem
theorem for_go {J:It} {g:TG} {tb:TS} {D:Ends} {σ:St} {H:Hp} (N:Nat) (Pv:Nat→St→Hp→Prop) (h0:Pv 0 σ H)
  (go:∀i σ H,i<N→Pv i σ H→J.go i H∧∀x H',J.yld i H x H'→g x σ H' fun σ2 H2=>tb { D with nx:=Pv (i+1),ct:=Pv (i+1),bk:=D.nx } σ2 H2)
  (stop:∀ σ H,Pv N σ H→J.stop N H∧D.nx σ H) :
  ∃W:Nat→Nat→St→Hp→Prop,(∃m,W 0 m σ H)∧∀i m σ H,W i m σ H →
   (J.stop i H∧D.nx σ H)∨(J.go i H∧∃N:St→Hp→Prop,(∀ σ' H',N σ' H'→∃m',m'<m∧W (i+1) m' σ' H')∧∀x H',J.yld i H x H'→g x σ H' fun σ2 H2=>tb { D with nx:=N,ct:=N,bk:=D.nx } σ2 H2):=by
 refine ⟨fun i m σ H=>m=N-i∧i≤N∧Pv i σ H,⟨N,by simp,Nat.zero_le _,h0⟩,?_⟩
 rintro i m σ H ⟨rfl,hi,p⟩
 by_cases hlt:i<N
 ·obtain ⟨g1,g2⟩:=go i σ H hlt p
  exact .inr ⟨g1,Pv (i+1),fun σ' H' p'=>⟨N-(i+1),by first|lia|omega,rfl,hlt,p'⟩,g2⟩
 ·have e:i=N:=by (first|lia|omega)
  subst e
  exact .inl (stop σ H p)
end L2
namespace L2
open PySem
theorem seqCut {t u:TS} {D:Ends} {σ:St} {H:Hp} (Ex:St→Hp→Prop) (h:∀Nx:St→Hp→Prop,(∀ σ H,Ex σ H→Nx σ H)→t { D with nx:=Nx } σ H) (fin:∀ σ H,Ex σ H→u D σ H):tSeq t u D σ H:=h (u D) fin
theorem whileGo {c:TT} {tb:TS} {D:Ends} {σ:St} {H:Hp} (Pv:Nat→St→Hp→Prop) (h0:∃m,Pv m σ H)
  (hs:∀m σ H,Pv m σ H→c σ H fun b H1=>if b=true then ∃N:St→Hp→Prop,(∀ σ' H',N σ' H'→∃m',m'<m∧Pv m' σ' H')∧tb { D with nx:=N,ct:=N,bk:=D.nx } σ H1 else D.nx σ H1):tWhile c tb D σ H:=⟨Pv,h0,hs⟩
end L2
namespace L2
open PySem
theorem asgCut {te:TE} {g:TG} {u:TS} {D:Ends} {σ:St} {H:Hp} (Ex:V→Hp→Prop) (h:∀Qn:VK,(∀v H,Ex v H→Qn v H)→te σ H Qn) (fin:∀v H,Ex v H→g v σ H (u D)):tSeq (tAsg te g) u D σ H:=h _ fin
end L2
namespace L2
open PySem
theorem gn {i:Nat} {v:V} {σ:St} {H:Hp} {Q:St→Hp→Prop} (h:Q (σ.set i (some v)) H):gName i v σ H Q:=h
end L2
namespace Z
open PySem L2
noncomputable def Bx (H:Hp) (b c:Addr) (t:Int):Prop:=∃ns,Box H b c t ns
structure Step (b c:Addr) (H H':Hp) (t t' N:Int):Prop where
 le:t≤t'
 ub:t'≤t+N
 bx:Bx H' b c t'
 sm:Same (hid H b c) (hid H' b c)
theorem Step.refl {b c:Addr} {H:Hp} {t:Int} (h:Bx H b c t):Step b c H H t t 0:=⟨Int.le_refl _,by first|lia|omega,h,Same.refl _⟩
theorem Step.trans {b c:Addr} {H H' H2:Hp} {t t' t2 N M:Int} (x:Step b c H H' t t' N) (y:Step b c H' H2 t' t2 M):Step b c H H2 t t2 (N+M):=
 ⟨by have:=x.le;have:=y.le; (first|lia|omega),by have:=x.ub;have:=y.ub; (first|lia|omega),y.bx,x.sm.trans y.sm⟩
theorem Step.more {b c:Addr} {H H':Hp} {t t' N M:Int} (x:Step b c H H' t t' N) (h:N≤M):Step b c H H' t t' M:=⟨x.le,by have:=x.ub; (first|lia|omega),x.bx,x.sm⟩
theorem Bx.ne_new {H:Hp} {b c p:Addr} {t:Int} (x:Bx H b c t) (h:H p=none):p≠b∧p≠c:=by
 obtain ⟨ns,x⟩:=x
 exact ⟨fun z=>(by rw [z,x.d] at h;cases h),fun z=>(by rw [z,x.l] at h;cases h)⟩
theorem Bx.upd {H:Hp} {b c p:Addr} {t:Int} {o:HO} (x:Bx H b c t) (h1:p≠b) (h2:p≠c):Bx (upd H p o) b c t:=by
 obtain ⟨ns,x⟩:=x
 exact ⟨ns,by rw [upd_ne (Ne.symm h1)];exact x.d,by rw [upd_ne (Ne.symm h2)];exact x.l,x.ne,x.le⟩
theorem Step.new {b c p:Addr} {H H':Hp} {t t' N:Int} (x:Step b c H H' t t' N) (h:H' p=none) (o:HO):Step b c H (upd H' p o) t t' N:=
 ⟨x.le,x.ub,x.bx.upd (x.bx.ne_new h).1 (x.bx.ne_new h).2,x.sm.trans (hid_more fun a u _ _ e=>by rw [upd_ne (ne_of_none e h)];exact e)⟩
theorem Step.chg {b c p:Addr} {H H':Hp} {t t' N:Int} (x:Step b c H H' t t' N) (h:H p=none) (h1:p≠b) (h2:p≠c) (o:HO):Step b c H (upd H' p o) t t' N:=
 ⟨x.le,x.ub,x.bx.upd h1 h2,fun a u e=>by
  have q:=x.sm a u e
  obtain ⟨q,n1,n2⟩:=of_hid q
  rw [hid_of n1 n2,upd_ne (fun z => ?_)]
  ·exact q
  ·rw [z] at e
   rw [(of_hid e).1] at h;cases h⟩
theorem Step.old {b c a:Addr} {H H':Hp} {t t' N:Int} {o:HO} (x:Step b c H H' t t' N) (h:H a=some o) (h1:a≠b) (h2:a≠c):H' a=some o:=
 (of_hid (x.sm a o (by rw [hid_of h1 h2];exact h))).1
theorem Step.fresh {b c a:Addr} {H H':Hp} {t t' N:Int} (x:Step b c H H' t t' N) (hb:Bx H b c t) (h:H' a=none):H a=none:=by
 obtain ⟨h1,h2⟩:=x.bx.ne_new h
 cases e:H a with
 | none=>rfl
 | some o=>rw [x.old e h1 h2] at h;cases h
theorem Same.hid {H H':Hp} {b c:Addr} (s:Same H H'):Same (hid H b c) (hid H' b c):=hid_more fun a o _ _ e=>s a o e
theorem Bx.same {H H':Hp} {b c:Addr} {t:Int} (x:Bx H b c t) (s:Same H H'):Bx H' b c t:=by
 obtain ⟨ns,x⟩:=x
 exact ⟨ns,s _ _ x.d,s _ _ x.l,x.ne,x.le⟩
theorem Step.same {b c:Addr} {H H':Hp} {t:Int} (x:Bx H b c t) (s:Same H H'):Step b c H H' t t 0:=⟨Int.le_refl _,by first|lia|omega,x.same s,Same.hid s⟩
noncomputable def spTk:Sp:=fun vs H Q _=>Ex4 fun (b c:Addr) (t many:Int)=>vs=[.ref b, .int many]∧Bx H b c t∧0≤t∧t<100000000∧0<many∧many<1073741824 ∧
 ∀(r:Int) (H':Hp),0≤r→r<many→Step b c H H' t (t+1) 1→Q (.int r) H'
theorem spTk_of {vs:List V} {H:Hp} {Q:VK} {E:XK} (h:spTk vs H Q E):spTake vs H Q E:=by
 obtain ⟨b,c,t,many,e,⟨ns,bx⟩,h1,h2,h3,h4,q⟩:=h
 exact ⟨b,c,t,ns,many,e,bx,h1,h2,h3,h4,fun r H' ns' r0 r1 bx' sm=>q r H' r0 r1 ⟨by first|lia|omega,by first|lia|omega,⟨ns',bx'⟩,sm⟩⟩
theorem cut_to (vs:List V) (j:Nat):cutV vs none (some (j:Int))=vs.take j:=by
 unfold cutV
 rw [HT.sIx_none,HT.sIx_nat,List.drop_zero,Nat.sub_zero]
 rcases Nat.le_total j vs.length with h|h
 ·rw [Nat.min_eq_left h]
 ·rw [Nat.min_eq_right h,List.take_of_length_le (Nat.le_refl _),List.take_of_length_le h]
theorem cut_from (vs:List V) (j:Nat):cutV vs (some (j:Int)) none=vs.drop j:=by
 unfold cutV
 rw [HT.sIx_none,HT.sIx_nat]
 rcases Nat.le_total j vs.length with h|h
 ·rw [Nat.min_eq_left h,List.take_of_length_le (by rw [List.length_drop];exact Nat.le_refl _)]
 ·rw [Nat.min_eq_right h,List.drop_of_length_le (Nat.le_refl _),List.drop_of_length_le h];simp
theorem Fn.imp {P:Program} {w:World} {K:PySem.W.Frag} {mg:Str→Option Value} {base:Heap} {k:Nat} {x:Str} {ps:List Str} {sp sp':Sp} (F:Fn P w K mg base k x ps sp) (h:∀vs H Q E,sp' vs H Q E→sp vs H Q E):Fn P w K mg base k x ps sp':=by
 obtain ⟨f,fd,a,b,c,d⟩:=F.ex
 exact ⟨f,fd,a.imp h,b,c,d⟩
end Z
namespace Z
open PySem L2
theorem Step.newN {b c p:Addr} {H H' H2:Hp} {t t' N:Int} {o:HO} (x:Step b c H H' t t' N) (n:New H' p o H2):Step b c H H2 t t' N:=by rw [n.eq];exact x.new n.nn _
theorem Step.chgN {b c p:Addr} {H H' H2:Hp} {t t' N:Int} {o:HO} (x:Step b c H H' t t' N) (n:Chg H' p o H2) (h:H p=none) (h1:p≠b) (h2:p≠c):Step b c H H2 t t' N:=by rw [n.eq];exact x.chg h h1 h2 _
end Z
namespace Z
open PySem L2
theorem Box.same {H H':Hp} {b c:Addr} {t:Int} {ns:List Int} (x:Box H b c t ns) (s:Same H H'):Box H' b c t ns:=⟨s _ _ x.d,s _ _ x.l,x.ne,x.le⟩
section
variable {P:Program} {w:World} {K:PySem.W.Frag} {mg:Str→Option Value} {base:Heap} {f:Addr} {fd:FuncData}
theorem sc_law_take:FnScope ["_law_state", "_law_many", "_law_turn", "_law_place", "_law_cell", "_law_digit", "_law_mixed"] ["_law_state", "_law_many"] (defScope (top i_law_take)):=⟨rfl,rfl,rfl,by decide +kernel,rfl,by decide +kernel,by decide +kernel⟩
theorem ok_take (F:Fun K "_law_take" "_law_take" (top i_law_take) f fd) (T:Nm mg):FnOk P w K mg base CX0 1 f fd ["_law_state", "_law_many"] spTake:=by
 refine F.ok sc_law_take (fun vs H Q E h => ?_) (fun cdv A outer s H vs Q E hr h => ?_)
 ·obtain ⟨b,c,t,ns,many,rfl,_⟩:=h
  rfl
 obtain ⟨b,c,t,ns,many,rfl,bx,t0,t1,m0,m1,q⟩:=h
 have hu:=hu_of hr
 refine ⟨_,(pss_cons (ps_set (i:=2) sc_law_take.nd rfl (Or.inl rfl) (pe_op addN (pe_dget hu (pv 0) pe_str (fun _ _=>rfl)) pe_int))
  (pss_cons (ps_dput hu (pv 0) pe_str (pv 2) rfl)
  (pss_cons (ps_set (i:=3) sc_law_take.nd rfl (Or.inl rfl) (pe_op op_mod (pv 2) (pe_callB (lenK K) rfl T.n_len (by rfl) (pa_cons (pe_dget hu (pv 0) pe_str (fun _ _=>rfl)) pa_nil))))
  (pss_cons (ps_set (i:=4) sc_law_take.nd rfl (Or.inl rfl) (pe_ix (ixK K) (pe_dget hu (pv 0) pe_str (fun _ _=>rfl)) (pv 3) (fun _ _=>rfl)))
  (pss_cons (ps_if (pt_cmpR op_ge (pv 4) (pe_op op_pow pe_int pe_int) (nomark _)) (pss_cons (ps_asg (pe_callB divmodN rfl T.n_divmod (by rfl) (pa_cons (pv 4) (pa_cons (pv 1) pa_nil))) (tupK K 2 rfl (pgs_cons (pg_sub (pe_dget hu (pv 0) pe_str (fun _ _=>rfl)) (pv 3) set_list) (pgs_cons (pg_name (i:=5) sc_law_take.nd rfl (Or.inl rfl)) pgs_nil))))
  (pss_one (ps_ret (pv 5)))) pss_nil)
  (pss_cons (ps_set (i:=6) sc_law_take.nd rfl (Or.inl rfl) (pe_op op_mod (pe_op mulN (pe_op addN (pe_op addN (pe_op op_mod (pv 4) pe_int) (pe_op mulN (pe_op mulN (pv 2) (pv 2)) pe_int)) pe_int) pe_int) pe_int))
  (pss_cons (ps_set (i:=6) sc_law_take.nd rfl (Or.inl rfl) (pe_op op_mod (pe_op mulN (pv 6) (pv 6)) pe_int))
  (pss_one (ps_ret (pe_op op_mod (pe_op op_fdiv (pe_op op_mod (pe_op mulN (pe_op addN (pv 6) (pe_op mulN (pv 2) pe_int)) pe_int) pe_int) pe_int) (pv 1))))))))))),?_⟩
 refine ⟨_,rfl,b,_,rfl,bx.get_turn, .inl ⟨_,_,rfl,rfl,?_⟩⟩
 refine ⟨_,rfl,_,rfl,b,_,rfl,bx.put_turn (t+1),?_⟩
 have bx1:=bx.turned (t+1)
 refine ⟨_,rfl,_,rfl,b,_,rfl,bx1.get_cells,_,_,rfl, .inl ⟨_,SqL.of bx1.l,rfl⟩,_,_,rfl,rfl,?_,?_⟩
 ·rw [List.length_map];have:=bx1.ne; (first|lia|omega)
 have hlen:(ns.map V.int).length=ns.length:=List.length_map _
 have hp0:0≤(t+1) % ((ns.map V.int).length:Int):=Int.emod_nonneg _ (by have:=bx1.ne; (first|lia|omega))
 have hp1:(t+1) % ((ns.map V.int).length:Int)<ns.length:=by rw [hlen];exact Int.emod_lt_of_pos _ (by have:=bx1.ne; (first|lia|omega))
 refine Elim.el (at_of hp0 hp1) _ ?_
 rintro v hv hv'
 refine ⟨_,rfl,b,_,rfl,bx1.get_cells,_,rfl, .inl ⟨c,_,_,_,rfl,rfl,SqL.of bx1.l,hv,?_⟩⟩
 refine ⟨_,rfl,_,_,rfl,rfl,⟨by decide,by decide,by decide⟩,_,_,rfl,rfl,_,rfl,?_⟩
 refine ite2 (fun _ => ?_) (fun _ => ?_)
 ·refine ⟨_,rfl,_,rfl,v,many,rfl,⟨m0,by first|lia|omega⟩,fun pt H2 n2 => ?_⟩
  obtain ⟨hpb,hpc⟩:pt≠b∧pt≠c:=⟨fun z=>(by have:=n2.nn;rw [z,bx1.d] at this;cases this),fun z=>(by have:=n2.nn;rw [z,bx1.l] at this;cases this)⟩
  have bx2:=bx1.same n2.same
  refine ⟨pt,_,rfl,SqT.of n2.at,rfl,_,_,rfl,?_⟩
  refine ⟨_,rfl,b,_,rfl,bx2.get_cells,_,rfl,c,_,_,_,rfl,rfl,bx2.l,ixN_of hp0 (by simpa only [hlen] using hp1),?_⟩
  refine ⟨_,_,rfl,rfl,_,rfl,?_⟩
  refine q (v % many) _ (ns.set ((t+1) % ((ns.map V.int).length:Int)).toNat (v / many)) (Int.emod_nonneg _ (by first|lia|omega)) (Int.emod_lt_of_pos _ m0) ⟨?_,?_,?_,?_⟩ ?_
  ·rw [upd_ne bx2.bc];exact bx2.d
  ·rw [upd_same,List.map_set]
  ·rw [List.length_set];exact bx1.ne
  ·rw [List.length_set];exact bx1.le
  ·rw [hid_upd_c]
   refine hid_more fun a o h1 h2 e => ?_
   rw [n2.ne (fun z => ?_),upd_ne h1]
   ·exact e
   ·have z2:=n2.nn
    rw [upd_ne hpb, ←z,e] at z2
    cases z2
 ·refine ⟨_,rfl,_,_,rfl,rfl,(by dsimp only;decide),_,rfl,_,rfl, .inl ⟨_,_,rfl,rfl, .inl ⟨by first|lia|omega,by first|lia|omega⟩, .inl ⟨_,_,rfl,rfl, .inr ⟨by decide,by decide⟩, .inl ⟨_,_,rfl,rfl, .inl ⟨_,_,rfl,rfl, .inl ⟨_,_,rfl,rfl, .inr ⟨by decide,by decide⟩,_,_,rfl,rfl,(by dsimp only;decide),?_⟩⟩⟩⟩⟩⟩
  have cm:∀(x y p:Int),0<p→p<2 ^ 64→CMul (x % p) y:=fun x y p h0 h1=>cm_mod h0 h1
  refine ⟨_,rfl,_,rfl, .inl ⟨_,_,rfl,rfl,cm _ _ _ (by decide) (by decide),?_⟩⟩
  refine ⟨_,_,rfl,rfl,(by dsimp only;decide),?_⟩
  refine ⟨_,rfl,_,rfl, .inl ⟨_,_,rfl,rfl, .inl ⟨by first|lia|omega,by first|lia|omega⟩, .inl ⟨_,_,rfl,rfl, .inl ⟨_,_,rfl,rfl, .inr ⟨by decide,by decide⟩,_,_,rfl,rfl,(by dsimp only;decide),_,_,rfl,rfl,⟨by decide,by decide⟩,_,rfl,_,_,rfl,rfl,m0,?_⟩⟩⟩⟩
  exact q _ _ ns (Int.emod_nonneg _ (by first|lia|omega)) (Int.emod_lt_of_pos _ m0) bx1 (by rw [hid_upd_b];exact Same.refl _)
end
end Z
namespace Z
open PySem L2
noncomputable def Bin (x:Str):Prop:=∀c∈x.cps.toList,c=48∨c=49
theorem glued_list (g:Str):∀(parts:List Str) (acc:Array Nat),(parts.foldl (fun acc p=>acc++g.cps++p.cps) acc).toList=acc.toList++parts.flatMap (fun p=>g.cps.toList++p.cps.toList)
 | [],acc=>by simp
 | p :: r,acc=>by rw [List.foldl_cons,glued_list g r];simp
theorem join_list0 (xs:List Str):(Txt.join "" xs).cps.toList=xs.flatMap (fun p=>p.cps.toList):=by
 cases xs with
 | nil=>rfl
 | cons x r=>
  show ((r.foldl (fun acc p=>acc++(Str.ofString "").cps++p.cps) x.cps)).toList=_
  rw [glued_list]
  have e:(Str.ofString "").cps.toList=[]:=rfl
  simp [e]
end Z
namespace Z
open PySem L2
noncomputable abbrev abc:Str := "abcdefghijklmnopqrstuvwxyz"
theorem abc_list:abc.cps.toList=(List.range 26).map (97 + ·):=by decide +kernel
theorem abc_at {r:Int} (h0:0≤r) (h1:r<26):atI abc.cps.toList r=some (97+r.toNat):=by
 refine at_nat h0 ?_
 rw [abc_list,List.getElem?_map,List.getElem?_range (by first|lia|omega)]
 rfl
theorem str_append_list (x y:Str):(x++y).cps.toList=x.cps.toList++y.cps.toList:=by
 show (x.cps++y.cps).toList=_
 simp
theorem str_len (x:Str):x.length=x.cps.toList.length:=by simp [Str.length]
theorem len_append (x y:Str):(x++y).length=x.length+y.length:=by rw [str_len,str_append_list,List.length_append, ←str_len, ←str_len]
theorem len_one (ch:Nat):(⟨#[ch]⟩:Str).length=1:=rfl
end Z
namespace Z
open PySem L2
mutual
theorem eqv_refl:∀(d:PyData),d.canLay0=true→PyData.eqv d d=true
 | .none,_=>by simp [PyData.eqv]
 | .bool _,_=>by simp [PyData.eqv]
 | .int _,_=>by simp [PyData.eqv]
 | .str _,_=>by simp [PyData.eqv]
 | .list ds,h=>by
  simp only [PyData.eqv]
  exact eqvAll_refl ds (by simpa [PyData.canLay0] using h)
 | .tuple ds,h=>by
  simp only [PyData.eqv]
  exact eqvAll_refl ds (by simpa [PyData.canLay0] using h)
 | .dict _,h=>by simp [PyData.canLay0] at h
theorem eqvAll_refl:∀(ds:List PyData),PyData.canLayAll0 ds=true→PyData.eqvAll ds ds=true
 | [],_=>by simp [PyData.eqvAll]
 | d :: ds,h=>by
  simp only [PyData.canLayAll0,Bool.and_eq_true] at h
  simp only [PyData.eqvAll,Bool.and_eq_true]
  exact ⟨eqv_refl d h.1,eqvAll_refl ds h.2⟩
end
noncomputable def Sh (n:Nat) (d:PyData):Prop:=d.canLay0=true∧d.depth≤n
theorem Sh.all {n:Nat} : ∀{ds:List PyData},(∀d∈ds,Sh n d)→PyData.canLayAll0 ds=true∧PyData.depthAll ds≤n
 | [],_=>⟨by simp [PyData.canLayAll0],by simp [PyData.depthAll]⟩
 | d :: ds,h=>by
  obtain ⟨h1,h2⟩:=h d List.mem_cons_self
  obtain ⟨h3,h4⟩:=Sh.all fun e he=>h e (List.mem_cons_of_mem _ he)
  exact ⟨by simp [PyData.canLayAll0,h1,h3],by simp only [PyData.depthAll]; (first|lia|omega)⟩
theorem Sh.list {n:Nat} {ds:List PyData} (h:∀d∈ds,Sh n d):Sh (n+1) (.list ds):=by
 obtain ⟨h1,h2⟩:=Sh.all h
 exact ⟨by simpa [PyData.canLay0] using h1,by simp only [PyData.depth]; (first|lia|omega)⟩
theorem Sh.tuple {n:Nat} {ds:List PyData} (h:∀d∈ds,Sh n d):Sh (n+1) (.tuple ds):=by
 obtain ⟨h1,h2⟩:=Sh.all h
 exact ⟨by simpa [PyData.canLay0] using h1,by simp only [PyData.depth]; (first|lia|omega)⟩
theorem Sh.shaped {n:Nat} {d:PyData} (h:Sh n d) (hn:n≤64):SeqAt.shaped d=true:=by
 unfold SeqAt.shaped
 rw [h.1,decide_eq_true (Nat.le_trans h.2 hn)]
 rfl
theorem Sh.str {n:Nat} {x:Str} (h:PyData.canLay0 (.str x)=true):Sh n (.str x):=⟨h,by simp [PyData.depth]⟩
theorem Sh.int {n:Nat} {i:Int} : Sh n (.int i):=⟨by simp [PyData.canLay0],by simp [PyData.depth]⟩
theorem canLay_small {x:Str} (h:∀ch∈x.cps.toList,ch<128):PyData.canLay0 (.str x)=true:=by
 simp only [PyData.canLay0,PyData.strOk]
 rw [←Array.all_toList,List.all_eq_true]
 intro ch hc
 have:=h ch hc
 exact decide_eq_true (by first|lia|omega)
theorem Den.strs {K:PySem.W.Frag} {H:Hp} : ∀(xs:List Str),Dens K H (xs.map PyData.str) (xs.map V.str)
 | []=>by unfold Dens;rfl
 | x :: xs=>by
  rw [List.map_cons]
  unfold Dens
  exact ⟨_,_,rfl,by unfold Den;rfl,Den.strs xs⟩
theorem Den.list {K:PySem.W.Frag} {H:Hp} {l:Addr} {ds:List PyData} {vs:List V} (h:SqL K H l vs) (hd:Dens K H ds vs):Den K H (.list ds) (.ref l):=by
 unfold Den
 exact ⟨l,vs,rfl,h,hd⟩
end Z
namespace Z
open PySem L2
theorem Dens.of_get {K:PySem.W.Frag} {H:Hp} : ∀{ds:List PyData} {vs:List V},ds.length=vs.length→(∀(j:Nat) d v,ds[j]? = some d→vs[j]? = some v→Den K H d v)→Dens K H ds vs
 | [],[],_,_=>by unfold Dens;rfl
 | [],_ :: _,h,_=>by simp at h
 | _ :: _,[],h,_=>by simp at h
 | d :: ds,v :: vs,h,g=>by
  unfold Dens
  exact ⟨v,vs,rfl,g 0 d v rfl rfl,Dens.of_get (by simpa using h) fun j d' v' h1 h2=>g (j+1) d' v' h1 h2⟩
theorem Den.pairOf {K:PySem.W.Frag} {H:Hp} {a:Addr} {x y:Str} (h:H a=some (.tup [.str x, .str y])):Den K H (.tuple [.str x, .str y]) (.ref a):=by
 unfold Den
 refine ⟨a,_,rfl,SqT.of h,?_⟩
 unfold Dens
 refine ⟨_,_,rfl,by unfold Den;rfl,?_⟩
 unfold Dens
 refine ⟨_,_,rfl,by unfold Den;rfl,?_⟩
 unfold Dens
 rfl
noncomputable def BookAt (K:PySem.W.Frag) (H:Hp) (bk:List (Str×Str)) (v:V):Prop:=Ex2 fun (l:Addr) (vs:List V)=>v = .ref l∧H l=some (.lst vs)∧Dens K H (bk.map fun q => .tuple [.str q.1, .str q.2]) vs
theorem book_zip {K:PySem.W.Frag} {H1 H':Hp} {b c p:Addr} {t:Int} {as:List Addr} {ns cs:List Str} (bx:Bx H1 b c t) (hp:H1 p=none) (hl:H' p=some (.lst (as.map V.ref))) (hle:ns.length=cs.length)
  (hal:as.length=min (ns.map V.str).length (cs.map V.str).length) (h:∀(j:Nat) a x y,as[j]? = some a→(ns.map V.str)[j]? = some x→(cs.map V.str)[j]? = some y→H1 a=none∧H' a=some (.tup [x,y])) :
  BookAt K (hid H' b c) (ns.zip cs) (.ref p):=by
 have hal':as.length=ns.length:=by rw [hal,List.length_map,List.length_map, ←hle,Nat.min_self]
 obtain ⟨pb,pc⟩:=bx.ne_new hp
 refine ⟨p,_,rfl,by rw [hid_of pb pc];exact hl,Dens.of_get ?_ fun j d v hd hv => ?_⟩
 ·rw [List.length_map,List.length_map,List.length_zip]; (first|lia|omega)
 ·rw [List.getElem?_map] at hd hv
  have hj:j<as.length:=by
   cases e:as[j]? with
   | none=>rw [e] at hv;cases hv
   | some a=>exact (List.getElem?_eq_some_iff.mp e).1
  have e1:as[j]? = some as[j]:=List.getElem?_eq_getElem hj
  have e2:ns[j]? = some (ns[j]'(by first|lia|omega)):=List.getElem?_eq_getElem (by first|lia|omega)
  have e3:cs[j]? = some (cs[j]'(by first|lia|omega)):=List.getElem?_eq_getElem (by first|lia|omega)
  rw [e1] at hv;cases hv
  rw [(List.getElem?_zip_eq_some (z:=(ns[j]'(by first|lia|omega),cs[j]'(by first|lia|omega)))).mpr ⟨e2,e3⟩] at hd
  cases hd
  obtain ⟨h1,h2⟩:=h j as[j] _ _ e1 (by rw [List.getElem?_map,e2];rfl) (by rw [List.getElem?_map,e3];rfl)
  obtain ⟨ab,ac⟩:=bx.ne_new h1
  exact Den.pairOf (by rw [hid_of ab ac];exact h2)
structure CodeOk (n:Nat) (x:Str):Prop where
 bin:Bin x
 pos:1≤x.length
 le:x.length≤n
theorem CodeOk.mono {n m:Nat} {x:Str} (h:CodeOk n x) (le:n≤m):CodeOk m x:=⟨h.bin,h.pos,Nat.le_trans h.le le⟩
theorem Bin.app {x y:Str} (h:Bin x) (h':Bin y):Bin (x++y):=fun ch hc=>by
 rw [str_append_list] at hc
 rcases List.mem_append.mp hc with q|q
 ·exact h ch q
 ·exact h' ch q
theorem ne_nil_eq (cs:List Str):(!PyData.eqv (.list (cs.map PyData.str)) (.list [])) = !cs.isEmpty:=by
 cases cs <;> simp [PyData.eqv,PyData.eqvAll]
end Z
namespace Z
open PySem L2
noncomputable abbrev sg (x:Str):List Nat:=x.cps.toList
noncomputable def RF (a b:Str):Prop := ¬(sg a <+: sg b)∧¬(sg b <+: sg a)
theorem RF.symm {a b:Str} (h:RF a b):RF b a:=⟨h.2,h.1⟩
theorem sg_app (x y:Str):sg (x++y)=sg x++sg y:=str_append_list x y
theorem RF.ext {a b u v:Str} (h:RF a b):RF (a++u) (b++v):=by
 refine ⟨fun z => ?_,fun z => ?_⟩
 ·rw [sg_app,sg_app] at z
  rcases List.prefix_or_prefix_of_prefix ((List.prefix_append _ _).trans z) (List.prefix_append (sg b) (sg v)) with q|q
  ·exact h.1 q
  ·exact h.2 q
 ·rw [sg_app,sg_app] at z
  rcases List.prefix_or_prefix_of_prefix ((List.prefix_append _ _).trans z) (List.prefix_append (sg a) (sg u)) with q|q
  ·exact h.2 q
  ·exact h.1 q
noncomputable abbrev Free (cs:List Str):Prop:=cs.Pairwise RF
theorem Free.perm {cs ds:List Str} (h:Free cs) (p:cs.Perm ds):Free ds:=(p.pairwise_iff fun h=>RF.symm h).mp h
theorem Free.sub {cs ds:List Str} (h:Free cs) (s:ds.Sublist cs):Free ds:=List.Pairwise.sublist s h
noncomputable abbrev s0:Str := "0"
noncomputable abbrev s1:Str := "1"
theorem RF.two (x:Str):RF (x++s0) (x++s1):=by
 have e0:sg (x++s0)=sg x++[48]:=str_append_list x s0
 have e1:sg (x++s1)=sg x++[49]:=str_append_list x s1
 refine ⟨fun z => ?_,fun z => ?_⟩
 ·rw [e0,e1] at z
  have:=z.eq_of_length (by simp)
  simp at this
 ·rw [e0,e1] at z
  have:=z.eq_of_length (by simp)
  simp at this
theorem RF.one {x y u:Str} (h:RF y x):RF y (x++u):=by
 have z:=h.ext (u:=Str.empty) (v:=u)
 have e:y++Str.empty=y:=by
  show (⟨y.cps ++ #[]⟩:Str)=y
  simp
 rw [e] at z
 exact z
theorem Free.split {A B:List Str} {x:Str} (h:Free (A++x :: B)):Free (A++[x++s0,x++s1]++B):=by
 rw [List.append_assoc]
 obtain ⟨hA,hxB,hAB⟩:=List.pairwise_append.mp h
 obtain ⟨hx,hB⟩:=List.pairwise_cons.mp hxB
 refine List.pairwise_append.mpr ⟨hA,?_,fun a ha y hy => ?_⟩
 ·refine List.pairwise_append.mpr ⟨List.pairwise_cons.mpr ⟨fun y hy=>by rw [List.mem_singleton.mp hy];exact RF.two x,List.pairwise_singleton _ _⟩,hB,fun y hy z hz => ?_⟩
  have q:=(hx z hz).symm
  simp at hy
  rcases hy with rfl|rfl
  ·exact q.one.symm
  ·exact q.one.symm
 ·rcases List.mem_append.mp hy with hy|hy
  ·have q:=hAB a ha x List.mem_cons_self
   simp at hy
   rcases hy with rfl|rfl
   ·exact q.one
   ·exact q.one
  ·exact hAB a ha y (List.mem_cons_of_mem _ hy)
theorem split_at {cs:List Str} {k:Nat} {x:Str} (h:cs[k]? = some x):cs=cs.take k++x :: cs.drop (k+1):=by
 obtain ⟨hk,e⟩:=List.getElem?_eq_some_iff.mp h
 rw [←e, ←List.drop_eq_getElem_cons hk,List.take_append_drop]
theorem pop_perm {cs:List Str} {k:Nat} {x:Str} (h:cs[k]? = some x):cs.Perm (x :: cs.eraseIdx k):=by
 have e:=split_at h
 have e2:cs.eraseIdx k=cs.take k++cs.drop (k+1):=List.eraseIdx_eq_take_drop_succ _ _
 rw [e2]
 conv=>lhs;rw [e]
 exact List.perm_middle
theorem free0:Free [s0,s1]:=by
 refine List.pairwise_cons.mpr ⟨fun y hy => ?_,List.pairwise_singleton _ _⟩
 rw [List.mem_singleton.mp hy]
 have:=RF.two Str.empty
 exact this
end Z
namespace Z
open PySem L2
theorem str_eq {x y:Str} (h:sg x=sg y):x=y:=by
 cases x;cases y
 simp only [sg] at h
 rw [Array.toList_inj.mp h]
end Z
namespace Z
open PySem L2
end Z
namespace Z
open PySem L2
noncomputable def spBegin (K:PySem.W.Frag):Sp:=fun vs H Q _=>Ex2 fun (a:Addr) (ns:List Int)=>vs=[.ref a]∧SqL K H a (ns.map V.int)∧ns.length≤63 ∧
 ∀(b c:Addr) (H':Hp),Bx H' b c 0→H b=none→H c=none→Same H (hid H' b c)→Q (.ref b) H'
theorem Den.ints {K:PySem.W.Frag} {H:Hp} : ∀(ns:List Int),Dens K H (ns.map PyData.int) (ns.map V.int)
 | []=>by unfold Dens;rfl
 | n :: ns=>by
  rw [List.map_cons,List.map_cons]
  unfold Dens
  exact ⟨_,_,rfl,by unfold Den;rfl,Den.ints ns⟩
theorem eqvNil (ds:List PyData):PyData.eqv (.list ds) (.list [])=ds.isEmpty:=by
 cases ds <;> simp [PyData.eqv,PyData.eqvAll]
theorem sh_ints {n:Nat} (ns:List Int):Sh (n+1) (.list (ns.map PyData.int)):=Sh.list fun d hd=>by
 obtain ⟨i,_,rfl⟩:=List.mem_map.mp hd
 exact Sh.int
section
variable {P:Program} {w:World} {K:PySem.W.Frag} {mg:Str→Option Value} {base:Heap} {f:Addr} {fd:FuncData}
theorem sc_law_begin:FnScope ["_law_script", "_law_cells"] ["_law_script"] (defScope (top i_law_begin)):=⟨rfl,rfl,rfl,by decide +kernel,rfl,by decide +kernel,by decide +kernel⟩
theorem ok_begin (F:Fun K "_law_begin" "_law_begin" (top i_law_begin) f fd) (T:Nm mg):FnOk P w K mg base CX0 1 f fd ["_law_script"] (spBegin K):=by
 refine F.ok sc_law_begin (fun vs H Q E h => ?_) (fun cdv A outer s H vs Q E hr h => ?_)
 ·obtain ⟨a,ns,rfl,_⟩:=h
  rfl
 obtain ⟨a,ns,rfl,hS,hlen,q⟩:=h
 have hu6:=hr.units
 refine ⟨_,(pss_cons (ps_set (i:=1) sc_law_begin.nd rfl (Or.inl rfl) (pe_callTy (listN K) rfl T.n_list (by rfl) (pa_cons (pe_slice (slN K) (pv 0) po_none (po_some pe_int)) pa_nil)))
  (pss_cons (ps_if (pt_cmpR (eqK K hu6) (pv 1) (lstN pa_nil) (nomark _)) (pss_one (ps_set (i:=1) sc_law_begin.nd rfl (Or.inl rfl) (lstN (pa_cons pe_int pa_nil)))) pss_nil)
  (pss_one (ps_ret (dispN (pps_cons pe_str (pv 1) (pps_cons pe_str pe_int pps_nil)) rfl rfl (by decide) (by decide)))))),?_⟩
 refine ⟨_,rfl,_,rfl, .inl ⟨a,_,rfl,hS,fun r1 H1 n1 => ?_⟩⟩
 refine ⟨r1,_,rfl, .inl (SqL.of n1.at),fun r2 H2 n2=>gn ?_⟩
 have hc:cutV (ns.map V.int) none (some 63)=ns.map V.int:=by
  have e:=cut_to (ns.map V.int) 63
  rw [List.take_of_length_le (by rw [List.length_map];exact hlen)] at e
  exact e
 have hn2:H2 r2=some (.lst (ns.map V.int)):=by rw [←hc];exact n2.at
 have sm2:=n1.same.trans n2.same
 dsimp only
 refine seqCut (t:=tIfS _ _ _) (fun σ H'=>∃(r:Addr) (ns':List Int), σ=[some (.ref a),some (.ref r)]∧H' r=some (.lst (ns'.map V.int))∧0<ns'.length∧ns'.length≤64∧H r=none∧Same H H') (fun Nx nx => ?_) ?_
 ·refine ⟨_,rfl,by show 0≤sizeLine;decide,fun r3 H3 n3 => ?_⟩
  have d2:Den K H3 (.list (ns.map PyData.int)) (.ref r2):=Den.list (SqL.of (n3.same _ _ hn2)) (Den.ints ns)
  have d3:Den K H3 (.list []) (.ref r3):=Den.list (SqL.of n3.at) (Den.ints [])
  refine .inr ⟨_,_,d2,d3,(sh_ints (n:=1) ns).shaped (by decide),by decide +kernel,_,rfl,?_⟩
  rw [eqvNil]
  refine ite2 (fun e => ?_) (fun e => ?_)
  ·refine ⟨by show 1≤sizeLine;decide,fun r4 H4 n4=>gn (nx _ _ ⟨r4,[_],rfl,n4.at,by decide,by decide,(sm2.trans n3.same).free n4.nn,sm2.trans (n3.same.trans n4.same)⟩)⟩
  ·refine nx _ _ ⟨r2,ns,rfl,n3.same _ _ hn2,?_,by first|lia|omega,n1.same.free n2.nn,sm2.trans n3.same⟩
   cases ns with
   | nil=>exact absurd rfl e
   | cons _ _=>exact Nat.succ_pos _
 rintro σ H3 ⟨r,ns',rfl,hr',l0,l1,hn,sm⟩
 intro p H0 n0
 refine ⟨_,rfl,?_⟩
 refine ⟨n0.at,[(.inr "cells", .ref r),(.inr "turn", .int 0)],rfl,by show 2≤15;decide,fun H6 n6 => ?_⟩
 have hpr:r≠p:=ne_of_none hr' n0.nn
 have hp:H p=none:=sm.free n0.nn
 refine q p r H6 ⟨ns',?_,?_,l0,l1⟩ hp hn (fun b o e => ?_)
 ·rw [n6.at];rfl
 ·rw [n6.ne hpr,n0.ne hpr];exact hr'
 ·have hb1:b≠p:=ne_of_none e hp
  have hb2:b≠r:=ne_of_none e hn
  rw [hid_of hb1 hb2,n6.ne hb1,n0.ne hb1]
  exact sm _ _ e
end
end Z
namespace Z
open PySem L2
theorem take_next {α:Type} {l:List α} {i:Nat} (h:i<l.length):l.take (i+1)=l.take i++[l[i]]:=by
 rw [List.take_succ,List.getElem?_eq_getElem h];rfl
noncomputable def byName (bk:List (Str×Str)):List (Key×V):=bk.map fun q=>(.inr q.1, .str q.2)
theorem val_map {α:Type} {f : α→Key×V} {k:Key} : ∀{l:List α} {x : α},x∈l→(f x).1=k→(∀y∈l,(f y).1=k→(f y).2=(f x).2)→valV (l.map f) k=some (f x).2
 | y :: l,x,hx,hk,hu=>by
  rw [List.map_cons]
  by_cases e:(f y).1=k
  ·rw [valV_pos e,hu y List.mem_cons_self e]
  ·rw [valV_neg e]
   refine val_map ((List.mem_cons.mp hx).resolve_left fun z=>e (by rw [←z];exact hk)) hk fun z hz=>hu z (List.mem_cons_of_mem _ hz)
theorem val_none {α:Type} {f : α→Key×V} {k:Key} : ∀{l:List α},(∀y∈l,(f y).1≠k)→valV (l.map f) k=none
 | [],_=>rfl
 | y :: l,h=>by
  rw [List.map_cons,valV_neg (h y List.mem_cons_self)]
  exact val_none fun z hz=>h z (List.mem_cons_of_mem _ hz)
theorem one_of {α β:Type} {g : α → β} {l:List α} (nd:(l.map g).Nodup) {x y : α} (hx:x∈l) (hy:y∈l) (e:g x=g y):x=y:=by
 obtain ⟨i,hi,rfl⟩:=List.mem_iff_getElem.mp hx
 obtain ⟨j,hj,rfl⟩:=List.mem_iff_getElem.mp hy
 have:=(List.nodup_iff_pairwise_ne.mp nd)
 have key:i=j:=by
  rcases Nat.lt_trichotomy i j with h|h|h
  ·exact absurd (by rw [List.getElem_map,List.getElem_map];exact e) (List.pairwise_iff_getElem.mp this i j (by rw [List.length_map];exact hi) (by rw [List.length_map];exact hj) h)
  ·exact h
  ·exact absurd (by rw [List.getElem_map,List.getElem_map];exact e.symm) (List.pairwise_iff_getElem.mp this j i (by rw [List.length_map];exact hj) (by rw [List.length_map];exact hi) h)
 subst key;rfl
noncomputable def Of (bk:List (Str×Str)) (ps:List (Str×Str)):Prop:=∀q∈ps,q∈bk
noncomputable def tx (ps:List (Str×Str)):List Nat:=ps.flatMap fun q=>sg q.2
noncomputable def txS (ps:List (Str×Str)):Str:=⟨(tx ps).toArray⟩
theorem sg_tx (ps:List (Str×Str)):sg (txS ps)=tx ps:=by simp [txS]
end Z
set_option maxRecDepth 200000
namespace Z
open PySem L2
noncomputable def BkL (K:PySem.W.Frag) (H:Hp) (bk:List (Str×Str)) (l:Addr):Prop:=∃vs,SqL K H l vs∧Dens K H (bk.map fun q => .tuple [.str q.1, .str q.2]) vs
theorem BkL.same {K:PySem.W.Frag} {H H':Hp} {bk:List (Str×Str)} {l:Addr} (h:BkL K H bk l) (s:Same H H'):BkL K H' bk l:=by
 obtain ⟨vs,h1,h2⟩:=h
 exact ⟨vs,s.seq h1,h2.same s⟩
theorem bk_at {K:PySem.W.Frag} {H:Hp} {bk:List (Str×Str)} {vs:List V} (h:Dens K H (bk.map fun q => .tuple [.str q.1, .str q.2]) vs) {i:Nat} (hi:i<bk.length):∃tp,vs[i]? = some (.ref tp)∧SqT K H tp [.str bk[i].1, .str bk[i].2]:=by
 obtain ⟨v,h1,h2⟩:=h.get (i:=i) (d := .tuple [.str bk[i].1, .str bk[i].2]) (by rw [List.getElem?_map,List.getElem?_eq_getElem hi];rfl)
 obtain ⟨tp,rfl,h3⟩:=h2.pair
 exact ⟨tp,h1,h3⟩
theorem bk_len {K:PySem.W.Frag} {H:Hp} {bk:List (Str×Str)} {vs:List V} (h:Dens K H (bk.map fun q => .tuple [.str q.1, .str q.2]) vs):vs.length=bk.length:=by rw [h.len,List.length_map]
theorem dbook {K:PySem.W.Frag} {bk:List (Str×Str)} {l:Addr} {tk tv:TE} {f:Str×Str→Key×V} (nd:(bk.map fun q=>(f q).1).Nodup) (hle:bk.length≤100) (hk:∀(q:Str×Str) (H:Hp) (Q:VK),Q (kV (f q).1) H→tk [some (.str q.1),some (.str q.2)] H Q)
  (hv:∀(q:Str×Str) (H:Hp) (Q:VK),Q (f q).2 H→tv [some (.str q.1),some (.str q.2)] H Q) {σ:St} {D:Addr} {H:Hp} (hB:BkL K H bk l) (hD:H D=none) {fin:Hp→Prop} (q:fin (upd H D (.dK (bk.map f)))) :
  CompD (Itl K l) 2 [] (gTup K 2 (gCons (gName 0) (gCons (gName 1) gNil))) tYes tk tv σ D (upd H D (.dK [])) fin:=by
 obtain ⟨vs,hl,hd⟩:=hB
 have hlen:=bk_len hd
 refine ⟨fun i m H'=>m=bk.length-i∧i≤bk.length∧H'=upd H D (.dK ((bk.take i).map f)),⟨_,rfl,Nat.zero_le _,rfl⟩,?_⟩
 rintro i m H' ⟨rfl,hi,rfl⟩
 have sm:Same H (upd H D (.dK ((bk.take i).map f))):=same_new hD _
 by_cases hlt:i<bk.length
 ·obtain ⟨tp,h1,h2⟩:=bk_at hd hlt
  refine .inr ⟨⟨_,_,sm.seq hl,h1⟩,?_⟩
  rintro x H2 ⟨rfl,hy⟩
  have e:=hy _ (sm.seq hl)
  rw [h1] at e;cases e
  refine ⟨tp,_,rfl,sm.seqT h2,rfl,_,_,rfl,_,_,rfl,rfl,?_⟩
  dsimp only [tYes]
  rw [if_pos rfl]
  refine hk bk[i] _ _ (hv bk[i] _ _ ⟨(bk.take i).map f,(f bk[i]).1,upd_same,rfl,?_,bk.length-(i+1),by first|lia|omega,rfl,hlt,?_⟩)
  ·rw [List.length_map,List.length_take]
   exact Nat.lt_of_le_of_lt (show min i bk.length≤20000 by first|lia|omega) (by decide)
  ·rw [putK_new _ (val_none fun y hy e => ?_),upd_upd,take_next hlt,List.map_append]
   ·rfl
   ·have h3:=List.nodup_iff_pairwise_ne.mp nd
    obtain ⟨j,hj,rfl⟩:=List.mem_iff_getElem.mp hy
    rw [List.length_take] at hj
    rw [List.getElem_take] at e
    exact absurd (by rw [List.getElem_map,List.getElem_map];exact e) (List.pairwise_iff_getElem.mp h3 j i (by rw [List.length_map]; (first|lia|omega)) (by rw [List.length_map]; (first|lia|omega)) (by first|lia|omega))
 ·have e:i=bk.length:=by (first|lia|omega)
  subst e
  refine .inl ⟨⟨_,sm.seq hl,by first|lia|omega⟩,?_⟩
  rw [List.take_length];exact q
theorem inr_nodup {bk:List (Str×Str)} {g:Str×Str→Str} (h:(bk.map g).Nodup):(bk.map fun q=>(Sum.inr (g q):Key)).Nodup:=by
 have e:(bk.map fun q=>(Sum.inr (g q):Key))=(bk.map g).map Sum.inr:=by rw [List.map_map];rfl
 rw [e]
 refine List.nodup_iff_pairwise_ne.mpr (List.pairwise_map.mpr ((List.nodup_iff_pairwise_ne.mp h).imp fun hab z=>hab (by injection z)))
theorem tx_app (a b:List (Str×Str)):tx (a++b)=tx a++tx b:=List.flatMap_append
theorem nm_at {ps:List (Str×Str)} {i:Nat} (hi:i<ps.length):((ps.map (·.1)).map V.str)[i]? = some (.str ps[i].1):=by rw [List.getElem?_map,List.getElem?_map,List.getElem?_eq_getElem hi];rfl
theorem nm_len {ps:List (Str×Str)} : ((ps.map (·.1)).map V.str).length=ps.length:=by rw [List.length_map,List.length_map]
theorem sum_tx:∀(ps:List (Str×Str)),((ps.map (·.2)).map (·.length)).sum=(tx ps).length
 | []=>rfl
 | q :: ps=>by
  rw [List.map_cons,List.map_cons,List.sum_cons,sum_tx ps,str_len]
  show (sg q.2).length+_=(sg q.2++tx ps).length
  rw [List.length_append]
theorem join_tx (ps:List (Str×Str)):Txt.join "" (ps.map (·.2))=txS ps:=by
 refine str_eq ?_
 rw [sg_tx]
 show (Txt.join "" (ps.map (·.2))).cps.toList=_
 rw [join_list0,List.flatMap_map]
 rfl
end Z
namespace Z
open PySem L2
end Z
namespace Z
open PySem L2
structure EndAt (i:Nat) (x:Str):Prop where
 le:x.length≤8
 last:x.cps.toList.getLast? = some (97+i)
theorem EndAt.nodup {xs:List Str} (h:∀(i:Nat) x,xs[i]? = some x→EndAt i x):xs.Nodup:=by
 refine List.nodup_iff_pairwise_ne.mpr (List.pairwise_iff_getElem.mpr fun i j hi hj hij e => ?_)
 have h1:=(h i _ (List.getElem?_eq_getElem hi)).last
 have h2:=(h j _ (List.getElem?_eq_getElem hj)).last
 rw [e,h2] at h1
 have h1:=Option.some.inj h1
 (first|lia|omega)
theorem ones_len:∀{xs:List Str},(∀x∈xs,∃ch:Nat,x=⟨#[ch]⟩)→(xs.flatMap (fun p=>p.cps.toList)).length=xs.length∧(xs.map (·.length)).sum=xs.length
 | [],_=>⟨rfl,rfl⟩
 | x :: r,h=>by
  obtain ⟨ch,rfl⟩:=h x List.mem_cons_self
  obtain ⟨h1,h3⟩:=ones_len fun y hy=>h y (List.mem_cons_of_mem _ hy)
  refine ⟨by simp at h1 ⊢; (first|lia|omega),?_⟩
  rw [List.map_cons,List.sum_cons,h3]
  show 1+_=_
  simp; (first|lia|omega)
section
variable {P:Program} {w:World} {K:PySem.W.Frag} {mg:Str→Option Value} {base:Heap} {f:Addr} {fd:FuncData}
theorem sc_law_names:FnScope ["_law_state", "_law_many", "_law_letters", "_law_found", "_law_k"] ["_law_state", "_law_many"] (defScope (top i_law_names)):=⟨rfl,rfl,rfl,by decide +kernel,rfl,by decide +kernel,by decide +kernel⟩
end
end Z
namespace Z
open PySem L2
noncomputable def spFr:Sp:=fun vs H Q _=>∃(b c:Addr) (t many most:Int),vs=[.ref b, .int many, .int most]∧Bx H b c t∧0≤t∧t<900000∧1≤many∧many≤8∧1≤most∧most≤8 ∧
 ∀(cs:List Str) (l:Addr) (H':Hp) (t':Int),cs≠[]→(cs.length:Int)≤many→Free cs→(∀x∈cs,CodeOk most.toNat x)→Step b c H H' t t' 40→H l=none→H' l=some (.lst (cs.map V.str))→Q (.ref l) H'
theorem code0 {n:Nat} (h:1≤n):CodeOk n s0:=⟨fun ch hc => .inl (by have:ch∈[48]:=hc;simpa using this),by decide +kernel,h⟩
theorem code1 {n:Nat} (h:1≤n):CodeOk n s1:=⟨fun ch hc => .inr (by have:ch∈[49]:=hc;simpa using this),by decide +kernel,h⟩
theorem CodeOk.app0 {n:Nat} {x:Str} (h:CodeOk n x) (hl:x.length<n):CodeOk n (x++s0):=by
 have e:s0.length=1:=by decide +kernel
 exact ⟨h.bin.app (code0 (n:=1) (by decide)).bin,by rw [len_append]; (first|lia|omega),by rw [len_append]; (first|lia|omega)⟩
theorem CodeOk.app1 {n:Nat} {x:Str} (h:CodeOk n x) (hl:x.length<n):CodeOk n (x++s1):=by
 have e:s1.length=1:=by decide +kernel
 exact ⟨h.bin.app (code1 (n:=1) (by decide)).bin,by rw [len_append]; (first|lia|omega),by rw [len_append]; (first|lia|omega)⟩
theorem erase_map (xs:List Str) (k:Nat):(xs.map V.str).eraseIdx k=(xs.eraseIdx k).map V.str:=by
 rw [List.eraseIdx_eq_take_drop_succ,List.eraseIdx_eq_take_drop_succ,List.map_append,List.map_take,List.map_drop]
theorem sh_bins {cs:List Str} (h:∀x∈cs,Bin x):SeqAt.shaped (.list (cs.map PyData.str))=true:=(Sh.list (n:=0) fun d hd=>by
   obtain ⟨x,hx,rfl⟩:=List.mem_map.mp hd
   exact Sh.str (canLay_small fun ch hc=>by rcases h x hx ch hc with e|e <;> (first|lia|omega))).shaped (by decide)
theorem sh_nil:SeqAt.shaped (.list [])=true:=(Sh.list (n:=0) fun d hd=>by simp at hd).shaped (by decide)
section
variable {P:Program} {w:World} {K:PySem.W.Frag} {mg:Str→Option Value} {base:Heap} {f:Addr} {fd:FuncData}
theorem sc_law_free:FnScope ["_law_state", "_law_many", "_law_most", "_law_leaves", "_law_more", "_law_turn", "_law_some", "_law_leaf", "_law_found"] ["_law_state", "_law_many", "_law_most"] (defScope (top i_law_free)):=⟨rfl,rfl,rfl,by decide +kernel,rfl,by decide +kernel,by decide +kernel⟩
theorem ok_free (F:Fun K "_law_free" "_law_free" (top i_law_free) f fd) (T:Nm mg) (f_law_take:Fn P w K mg base 1 "_law_take" ["_law_state", "_law_many"] spTk):FnOk P w K mg base CX0 2 f fd ["_law_state", "_law_many", "_law_most"] spFr:=by
 refine F.ok sc_law_free (fun vs H Q E h => ?_) (fun cdv A outer s H vs Q E hr h => ?_)
 ·obtain ⟨b,c,t,many,most,rfl,_⟩:=h
  rfl
 obtain ⟨b,c,t,many,most,rfl,bx,t0,t1,m0,m1,o0,o1,q⟩:=h
 have hu6:=hr.units
 have z1:sizeLine≥10000000:=by decide
 refine ⟨_,(pss_cons (ps_set (i:=3) sc_law_free.nd rfl (Or.inl rfl) (lstN (pa_cons pe_str (pa_cons pe_str pa_nil))))
  (pss_cons (ps_set (i:=4) sc_law_free.nd rfl (Or.inl rfl) (pe_fn (f_law_take.mono (by first|decide|exact Nat.le_refl _|(first|lia|omega))) hr rfl (pa_cons (pv 0) (pa_cons pe_int pa_nil))))
  (pss_cons (ps_for PassesOwn.never rfl (pi_range1 rfl T.n_range (pa_cons (pv 1) pa_nil)) (pg_name (i:=5) sc_law_free.nd rfl (Or.inl rfl)) (pss_cons (ps_setcomp (i:=6) sc_law_free.nd rfl (Or.inl rfl) rfl (comp_ok (Nc:=["_law_leaf"]) (Fc:=["_law_most"]) (js:=[2])) (piK K (pv 3)) (gk_name (i:=0) (n:=1) (by decide)) (fun _ _ _ _ _=>(pg_name (i:=0) (show (["_law_leaf", "_law_most"]:List Str).Nodup by decide +kernel) rfl (Or.inl rfl))) (fun _ _ _ _ _=>(pts_one (pt_cmpR op_lt (pe_callB (lenK K) rfl T.n_len (by rfl) (pa_cons (pv 0) pa_nil)) (pv 1) (nomark _)))) (fun _ _ _ _ _=>(pv 0)))
  (pss_one (ps_if (PW.pt (pw_and (pt_cmpR (neK K hu6) (pv 6) (lstN pa_nil) (nomark _)) (pw_and1 (pt_cmpR op_lt (pe_callB (lenK K) rfl T.n_len (by rfl) (pa_cons (pv 3) pa_nil)) (pe_op addN (pv 1) (pv 4)) (nomark _))))) (pss_cons (ps_set (i:=7) sc_law_free.nd rfl (Or.inl rfl) (pe_ix (ixK K) (pv 6) (pe_fn (f_law_take.mono (by first|decide|exact Nat.le_refl _|(first|lia|omega))) hr rfl (pa_cons (pv 0) (pa_cons (pe_callB (lenK K) rfl T.n_len (by rfl) (pa_cons (pv 6) pa_nil)) pa_nil))) (fun _ _=>rfl)))
  (pss_cons (ps_expr (bmK K PySem.F.plainAttrs_list PySem.F.slot_list_remove PySem.F.type_list_remove removeS (pv 3) (pa_cons (pv 7) pa_nil)))
  (pss_one (ps_set (i:=3) sc_law_free.nd rfl (Or.inl rfl) (pe_op addN (pv 3) (lstN (pa_cons (pe_op addN (pv 7) pe_str) (pa_cons (pe_op addN (pv 7) pe_str) pa_nil)))))))) pss_nil))))
  (pss_cons (ps_set (i:=8) sc_law_free.nd rfl (Or.inl rfl) (lstN pa_nil))
  (pss_cons (ps_while PassesOwn.never (PW.pt (pw_and (pt_cmpR (neK K hu6) (pv 3) (lstN pa_nil) (nomark _)) (pw_and1 (pt_cmpR op_lt (pe_callB (lenK K) rfl T.n_len (by rfl) (pa_cons (pv 8) pa_nil)) (pv 1) (nomark _))))) (pss_one (ps_expr (bmK K PySem.F.plainAttrs_list PySem.F.slot_list_append PySem.F.type_list_append appendN (pv 8) (pa_cons (bmK K PySem.F.plainAttrs_list PySem.F.slot_list_pop PySem.F.type_list_pop popAtN (pv 3) (pa_cons (pe_fn (f_law_take.mono (by first|decide|exact Nat.le_refl _|(first|lia|omega))) hr rfl (pa_cons (pv 0) (pa_cons (pe_callB (lenK K) rfl T.n_len (by rfl) (pa_cons (pv 3) pa_nil)) pa_nil))) pa_nil)) pa_nil)))))
  (pss_one (ps_ret (pv 8)))))))),?_⟩
 refine ⟨by show 2≤sizeLine;decide,fun l1 H1 n1=>gn ?_⟩
 obtain ⟨lb1,lc1⟩:=bx.ne_new n1.nn
 have st1:=(Step.refl bx).newN n1
 refine ⟨_,rfl,b,c,t,3,rfl,st1.bx,by first|lia|omega,by first|lia|omega,by decide,by decide,fun mo H2 mo0 mo1 st2=>gn ?_⟩
 have hl2:=st2.old n1.at lb1 lc1
 have st2:=st1.trans st2
 dsimp only
 refine seqCut (t:=tFor _ _ _) (fun σ H'=>∃cs l t' x5 x6 x7, σ=[some (.ref b),some (.int many),some (.int most),some (.ref l),some (.int mo),x5,x6,x7,none]∧1≤cs.length∧(cs.length:Int)≤many+mo+1∧Free cs∧(∀x∈cs,CodeOk most.toNat x) ∧
  Step b c H H' t t' 9∧H l=none∧l≠b∧l≠c∧H' l=some (.lst (cs.map V.str))) (fun Nx nx => ?_) ?_
 ·refine ⟨_,rfl,_,rfl,by first|lia|omega,by first|lia|omega,?_⟩
  refine for_range (lo:=0) (n:=many.toNat) (fun i σ H'=>∃cs l t' x5 x6 x7, σ=[some (.ref b),some (.int many),some (.int most),some (.ref l),some (.int mo),x5,x6,x7,none]∧1≤cs.length∧(cs.length:Int)≤many+mo+1∧Free cs∧(∀x∈cs,CodeOk most.toNat x) ∧
   Step b c H H' t t' (1+i)∧H l=none∧l≠b∧l≠c∧H' l=some (.lst (cs.map V.str))) ⟨[s0,s1],l1,_,_,_,_,rfl,by decide,by show (2:Int)≤many+mo+1; (first|lia|omega),free0,?_,st2.more (by first|lia|omega),n1.nn,lb1,lc1,hl2⟩ ?_ ?_
  ·intro x hx
   simp at hx
   rcases hx with rfl|rfl
   ·exact code0 (by first|lia|omega)
   ·exact code1 (by first|lia|omega)
  ·rintro i σ H3 hi ⟨cs,l,t3,x5,x6,x7,rfl,hc1,hcm,fr,ok,st3,hl,lb,lc,hl3⟩
   have hub:=st3.ub
   have hlo:=st3.le
   have hlen:(cs.map V.str).length=cs.length:=List.length_map _
   have atc:∀{k:Nat} (hk:k<cs.length),(cs.map V.str)[k]? = some (.str cs[k]):=fun hk=>by rw [List.getElem?_map,List.getElem?_eq_getElem hk];rfl
   dsimp only
   refine asgCut (te:=tComp _ _ _ _ _ _) (fun v H'=>∃(ss:List Str) (p:Addr),v = .ref p∧New H3 p (.lst (ss.map V.str)) H'∧ss.length≤cs.length∧∀x∈ss,x∈cs∧(x.length:Int)<most) (fun Qn qn => ?_) ?_
   ·refine ⟨_,rfl,l,rfl,⟨_,SqL.of hl3⟩,?_⟩
    refine comp_goN (N:=cs.length) (fun k ys H'=>H'=H3∧∃ss:List Str,ys=ss.map V.str∧ss.length≤k∧∀x∈ss,x∈cs∧(x.length:Int)<most) ⟨rfl,[],rfl,Nat.le_refl _,(fun _ h=>nomatch h)⟩ ?_ ?_
    ·rintro k ys H4 Ny hk ⟨rfl,ss,rfl,hss,hs⟩ ny
     refine ⟨⟨_,_,SqL.of hl3,atc hk⟩,by rw [List.length_map]; (first|lia|omega),?_⟩
     rintro x H5 ⟨rfl,hy⟩
     have e:=hy _ (SqL.of hl3)
     rw [atc hk] at e;cases e
     have hle:=(ok _ (List.getElem_mem hk)).le
     refine gn ⟨_,rfl,_,_,rfl,⟨sizeOk (by first|lia|omega),rfl⟩,_,rfl,_,_,rfl,rfl,_,rfl,ite2 (fun e => ?_) (fun e=>ny _ _ ⟨rfl,ss,rfl,by first|lia|omega,hs⟩)⟩
     have e:=of_decide_eq_true e
     refine ⟨_,rfl,ny _ _ ⟨rfl,ss++[cs[k]],by rw [List.map_append];rfl,by rw [List.length_append];show _+1≤_; (first|lia|omega),fun x hx => ?_⟩⟩
     rcases List.mem_append.mp hx with hx|hx
     ·exact hs x hx
     ·rw [List.mem_singleton.mp hx];exact ⟨List.getElem_mem hk,e⟩
    ·rintro ys H4 ⟨rfl,ss,rfl,hss,hs⟩
     exact ⟨⟨_,SqL.of hl3,by first|lia|omega⟩,fun p H5 n5=>qn _ _ ⟨ss,p,rfl,n5,hss,hs⟩⟩
   rintro v H4 ⟨ss,p,rfl,n4,hss,hs⟩
   refine gn ?_
   have hl4:=n4.same _ _ hl3
   have st4:=st3.newN n4
   obtain ⟨pb,pc⟩:=st3.bx.ne_new n4.nn
   have bins:∀x∈ss,Bin x:=fun x hx=>(ok x (hs x hx).1).bin
   refine ⟨_,rfl,by show 0≤sizeLine;decide,fun p5 H5 n5 => .inr ⟨_,_,Den.list (SqL.of (n5.same _ _ n4.at)) (Den.strs _),Den.list (SqL.of n5.at) (by unfold Dens;rfl),sh_bins bins,sh_nil,_,rfl,?_⟩⟩
   rw [ne_nil_eq]
   have hl5:=n5.same _ _ hl4
   have hp5:=n5.same _ _ n4.at
   have st5:=st4.newN n5
   by_cases hss0:ss=[]
   ·have e:(!ss.isEmpty)=false:=by rw [hss0];rfl
    rw [e]
    exact iteF (iteF ⟨cs,l,_,_,_,_,rfl,hc1,hcm,fr,ok,st5.more (by first|lia|omega),hl,lb,lc,hl5⟩)
   have e:(!ss.isEmpty)=true:=by cases ss with|nil=>exact absurd rfl hss0|cons _ _=>rfl
   rw [e]
   have hpos:0<ss.length:=List.length_pos_iff.mpr hss0
   refine iteT ⟨_,rfl,_,_,rfl, .inl ⟨_,SqL.of hl5,rfl⟩,_,rfl,_,rfl, .inl ⟨_,_,rfl,rfl,_,_,rfl,rfl,_,rfl,ite2 (fun e2 => ?_) (fun e2=>⟨cs,l,_,_,_,_,rfl,hc1,hcm,fr,ok,st5.more (by first|lia|omega),hl,lb,lc,hl5⟩)⟩⟩
   have e2:(cs.length:Int)<many+mo:=by have:=of_decide_eq_true e2;rw [hlen] at this;exact this
   have slen:(ss.map V.str).length=ss.length:=List.length_map _
   refine ⟨_,rfl,_,rfl,_,rfl,_,_,rfl, .inl ⟨_,SqL.of hp5,rfl⟩,b,c,_,_,rfl,st5.bx,by first|lia|omega,by first|lia|omega,by first|lia|omega,by first|lia|omega,fun r H6 r0 r1 st6 => ?_⟩
   have hr':r.toNat<ss.length:=by (first|lia|omega)
   have hp6:=st6.old hp5 pb pc
   have hl6:=st6.old hl5 lb lc
   have st6:=st5.trans st6
   have hat:atI (ss.map V.str) r=some (.str ss[r.toNat]):=at_nat r0 (by rw [List.getElem?_map,List.getElem?_eq_getElem hr'];rfl)
   obtain ⟨hin,hlt⟩:=hs _ (List.getElem_mem hr')
   generalize ss[r.toNat]=x at hat hin hlt
   refine .inl ⟨p,_,_,_,rfl,rfl,SqL.of hp6,hat,gn ?_⟩
   dsimp only
   refine ⟨_,rfl, .inl ⟨rfl,_,SqL.of hl6⟩,_,rfl,l,cs,x,rfl,rfl,hl6,hin,fun H7 c7 => ?_⟩
   have st7:=st6.chgN c7 hl lb lc
   have e0:s0.length=1:=by decide +kernel
   have e1:s1.length=1:=by decide +kernel
   refine ⟨_,rfl,_,rfl, .inr (.inl ⟨_,_,rfl,rfl,sizeOk (by rw [e0]; (first|lia|omega)),_,rfl, .inr (.inl ⟨_,_,rfl,rfl,sizeOk (by rw [e1]; (first|lia|omega)),by show 2≤sizeLine;decide,fun p8 H8 n8 => ?_⟩)⟩)⟩
   have hel:(cs.erase x).length=cs.length-1:=List.length_erase_of_mem hin
   refine .inr (.inr ⟨l,p8,_,_,rfl,rfl,n8.same _ _ c7.at,n8.at,by rw [List.length_map,hel];exact sizeOk (by show _+2≤_; (first|lia|omega)),fun p9 H9 n9=>gn ?_⟩)
   have st8:=st7.newN n8
   obtain ⟨pb9,pc9⟩:=st8.bx.ne_new n9.nn
   have okx:=ok x hin
   refine ⟨cs.erase x++[x++s0,x++s1],p9,_,_,_,_,rfl,by rw [List.length_append];show _≤_+2; (first|lia|omega),?_,?_,fun y hy => ?_,(st8.newN n9).more (by first|lia|omega),st8.fresh bx n9.nn,pb9,pc9,?_⟩
   ·rw [List.length_append,hel]
    show (((cs.length-1+2:Nat)):Int)≤_
    (first|lia|omega)
   ·have h2:Free (cs.erase x++x :: []):=fr.perm ((List.perm_cons_erase hin).trans (List.perm_append_singleton x _).symm)
    have h3:=Free.split h2
    rwa [List.append_nil] at h3
   ·rcases List.mem_append.mp hy with hy|hy
    ·exact ok y (List.mem_of_mem_erase hy)
    ·simp at hy
     rcases hy with rfl|rfl
     ·exact okx.app0 (by first|lia|omega)
     ·exact okx.app1 (by first|lia|omega)
   ·rw [n9.at,List.map_append];rfl
  ·rintro σ H3 ⟨cs,l,t3,x5,x6,x7,rfl,hc1,hcm,fr,ok,st3,hl,lb,lc,hl3⟩
   exact nx _ _ ⟨cs,l,t3,x5,x6,x7,rfl,hc1,hcm,fr,ok,st3.more (by first|lia|omega),hl,lb,lc,hl3⟩
 rintro σ H3 ⟨cs,l,t3,x5,x6,x7,rfl,hc1,hcm,fr,ok,st3,hl,lb,lc,hl3⟩
 have hub:=st3.ub
 have hlo:=st3.le
 refine ⟨by show 0≤sizeLine;decide,fun fp H4 n4=>gn ?_⟩
 dsimp only
 have hf:H fp=none:=st3.fresh bx n4.nn
 obtain ⟨fb,fc⟩:=st3.bx.ne_new n4.nn
 have lf:l≠fp:=fun z=>by have:=n4.nn;rw [←z,hl3] at this;cases this
 refine seqCut (t:=tWhile _ _) (fun σ H'=>∃(fs:List Str) (t':Int) (x3:Option V), σ=[some (.ref b),some (.int many),some (.int most),x3,some (.int mo),x5,x6,x7,some (.ref fp)]∧fs≠[]∧(fs.length:Int)≤many∧Free fs∧(∀x∈fs,CodeOk most.toNat x)∧Step b c H H' t t' 40∧H' fp=some (.lst (fs.map V.str))) (fun Nx nx => ?_) ?_
 ·refine whileGo (fun m σ H'=>∃(fs ds:List Str) (t':Int),m=ds.length ∧ σ=[some (.ref b),some (.int many),some (.int most),some (.ref l),some (.int mo),x5,x6,x7,some (.ref fp)]∧(fs++ds).Perm cs∧(fs.length:Int)≤many∧Step b c H H' t t' (9+fs.length)∧H' fp=some (.lst (fs.map V.str))∧H' l=some (.lst (ds.map V.str))) ⟨_,[],cs,t3,rfl,rfl,List.Perm.refl _,by show (0:Int)≤_; (first|lia|omega),(st3.newN n4).more (by show (9:Int)≤9+0;decide),n4.at,n4.same _ _ hl3⟩ ?_
  rintro m σ H5 ⟨fs,ds,t5,rfl,rfl,pm,hfl,st5,hf5,hl5⟩
  have hub5:=st5.ub
  have hlo5:=st5.le
  have hll:fs.length+ds.length=cs.length:=by rw [←List.length_append];exact pm.length_eq
  have okd:∀x∈ds,CodeOk most.toNat x:=fun x hx=>ok x (pm.subset (List.mem_append_right _ hx))
  have okf:∀x∈fs,CodeOk most.toNat x:=fun x hx=>ok x (pm.subset (List.mem_append_left _ hx))
  have frf:Free fs:=(fr.perm pm.symm).sub (List.sublist_append_left _ _)
  have dlen:(ds.map V.str).length=ds.length:=List.length_map _
  have flen:(fs.map V.str).length=fs.length:=List.length_map _
  have fin:∀{H':Hp},(ds=[]∨¬(fs.length:Int)<many)→Step b c H H' t t5 (9+fs.length)→H' fp=some (.lst (fs.map V.str))→Nx [some (.ref b),some (.int many),some (.int most),some (.ref l),some (.int mo),x5,x6,x7,some (.ref fp)] H':=fun {H'} hend st' hf'=>by
   refine nx _ _ ⟨fs,t5,_,rfl,fun z => ?_,hfl,frf,okf,st'.more (by first|lia|omega),hf'⟩
   have hz:fs.length=0:=by rw [z];rfl
   rcases hend with h|h
   ·have:ds.length=0:=by rw [h];rfl
    (first|lia|omega)
   ·(first|lia|omega)
  refine ⟨_,rfl,by show 0≤sizeLine;decide,fun p6 H6 n6 => .inr ⟨_,_,Den.list (SqL.of (n6.same _ _ hl5)) (Den.strs _),Den.list (SqL.of n6.at) (by unfold Dens;rfl),sh_bins (fun x hx=>(okd x hx).bin),sh_nil,_,rfl,?_⟩⟩
  rw [ne_nil_eq]
  have hl6:=n6.same _ _ hl5
  have hf6:=n6.same _ _ hf5
  have st6:=st5.newN n6
  by_cases hds:ds=[]
  ·have e:(!ds.isEmpty)=false:=by rw [hds];rfl
   rw [e]
   exact iteF (iteF (fin (.inl hds) st6 hf6))
  have e:(!ds.isEmpty)=true:=by cases ds with|nil=>exact absurd rfl hds|cons _ _=>rfl
  rw [e]
  have dpos:0<ds.length:=List.length_pos_iff.mpr hds
  refine iteT ⟨_,rfl,_,_,rfl, .inl ⟨_,SqL.of hf6,rfl⟩,_,rfl,_,_,rfl,rfl,_,rfl,ite2 (fun e2 => ?_) (fun e2=>fin (.inr fun z=>e2 (decide_eq_true (by rw [flen];exact z))) st6 hf6)⟩
  have e2:(fs.length:Int)<many:=by have:=of_decide_eq_true e2;rw [flen] at this;exact this
  refine ⟨fun σ' H'=>∃m',m'<ds.length∧_,fun _ _ h=>h,?_⟩
  refine ⟨_,rfl, .inl ⟨rfl,_,SqL.of hf6⟩,_,rfl, .inl ⟨rfl,_,SqL.of hl6⟩,_,rfl,_,rfl,_,_,rfl, .inl ⟨_,SqL.of hl6,rfl⟩,b,c,t5,_,rfl,st6.bx,by first|lia|omega,by first|lia|omega,by first|lia|omega,by first|lia|omega,fun a H7 a0 a1 st7 => ?_⟩
  have hl7:=st7.old hl6 lb lc
  have hf7:=st7.old hf6 fb fc
  have st7:=st6.trans st7
  obtain ⟨x,hx⟩:∃x,ds[a.toNat]? = some x:=⟨_,List.getElem?_eq_getElem (by first|lia|omega)⟩
  refine ⟨l,_,a,_,rfl,rfl,hl7,a0,by first|lia|omega,by rw [List.getElem?_map,hx];rfl,fun H8 c8 => ?_⟩
  have hf8:H8 fp=some (.lst (fs.map V.str)):=by rw [c8.ne (Ne.symm lf)];exact hf7
  have st8:=st7.chgN c8 hl lb lc
  refine ⟨fp,_,_,rfl,rfl,hf8,by rw [flen]; (first|lia|omega),fun H9 c9 => ?_⟩
  refine ⟨(ds.eraseIdx a.toNat).length,by rw [List.length_eraseIdx_of_lt (by first|lia|omega)]; (first|lia|omega),fs++[x],ds.eraseIdx a.toNat,_,rfl,rfl,?_,by rw [List.length_append];show ((fs.length+1:Nat):Int)≤_; (first|lia|omega),(st8.chgN c9 hf fb fc).more (by rw [List.length_append];show _≤(9:Int)+((fs.length+1:Nat):Int); (first|lia|omega)),by rw [c9.at,List.map_append];rfl,by rw [c9.ne lf,c8.at,erase_map]⟩
  refine List.Perm.trans ?_ pm
  rw [List.append_assoc]
  exact List.Perm.append_left fs (pop_perm hx).symm
 rintro σ H5 ⟨fs,t5,x3,rfl,hne,hfl,frf,okf,st5,hf5⟩
 exact ⟨_,rfl,q fs fp H5 t5 hne hfl frf okf st5 hf hf5⟩
end
end Z
namespace Z
open PySem L2
noncomputable def spNl:Sp:=fun vs H Q _=>Ex4 fun (b c:Addr) (t many:Int)=>vs=[.ref b, .int many]∧Bx H b c t∧0≤t∧t<1000000∧0≤many∧many≤26 ∧
 ∀(xs:List Str) (l:Addr) (H':Hp) (t':Int),(xs.length:Int)=many→xs.Nodup→(∀x∈xs,x.length≤8∧∀ch∈x.cps.toList,ch≤122)→Step b c H H' t t' 300→H l=none→H' l=some (.lst (xs.map V.str))→Q (.ref l) H'
structure EndL (i:Nat) (x:Str):Prop extends EndAt i x where
 sm:∀ch∈x.cps.toList,ch≤122
section
variable {P:Program} {w:World} {K:PySem.W.Frag} {mg:Str→Option Value} {base:Heap} {f:Addr} {fd:FuncData}
theorem ok_nl16 (F:Fun K "_law_names" "_law_names" (top i_law_names) f fd) (T:Nm mg) (f_law_take:Fn P w K mg base 1 "_law_take" ["_law_state", "_law_many"] spTk):FnOk P w K mg base CX0 2 f fd ["_law_state", "_law_many"] spNl:=by
 refine F.ok sc_law_names (fun vs H Q E h => ?_) (fun cdv A outer s H vs Q E hr h => ?_)
 ·obtain ⟨b,c,t,many,rfl,_⟩:=h
  rfl
 obtain ⟨b,c,t,many,rfl,bx,t0,t1,m0,m1,q⟩:=h
 refine ⟨_,(pss_cons (ps_set (i:=2) sc_law_names.nd rfl (Or.inr rfl) pe_str)
  (pss_cons (ps_set (i:=3) sc_law_names.nd rfl (Or.inl rfl) (lstN pa_nil))
  (pss_cons (ps_for PassesOwn.never rfl (pi_range1 rfl T.n_range (pa_cons (pv 1) pa_nil)) (pg_name (i:=4) sc_law_names.nd rfl (Or.inl rfl)) (pss_one (ps_expr (bmK K PySem.F.plainAttrs_list PySem.F.slot_list_append PySem.F.type_list_append appendN (pv 3) (pa_cons (pe_op addN (bmK K PySem.F.plainAttrs_str PySem.F.slot_str_join PySem.F.type_str_join (joinK K) pe_str (pa_cons (pe_lcomp rfl (comp_ok (Nc:=["_law_j"]) (Fc:=["_law_letters", "_law_state"]) (js:=[2,0])) (pi_range1 rfl T.n_range (pa_cons (pe_fn (f_law_take.mono (by first|decide|exact Nat.le_refl _|(first|lia|omega))) hr rfl (pa_cons (pv 0) (pa_cons pe_int pa_nil))) pa_nil)) (gk_name (i:=0) (n:=1) (by decide)) (fun _ _ _ _ _=>(pg_name (i:=0) (show (["_law_j", "_law_letters", "_law_state"]:List Str).Nodup by decide +kernel) rfl (Or.inl rfl))) (fun _ _ _ _ _=>pts_nil) (fun _ _ _ _ _=>(pe_ix (ixK K) (pv 1) (pe_fn (f_law_take.mono (by first|decide|exact Nat.le_refl _|(first|lia|omega))) hr rfl (pa_cons (pv 2) (pa_cons pe_int pa_nil))) (fun _ _=>rfl)))) pa_nil)) (pe_ix (ixK K) (pv 2) (pv 4) (fun _ _=>rfl))) pa_nil)))))
  (pss_one (ps_ret (pv 3)))))),?_⟩
 refine gn ⟨by show 0≤sizeLine;decide,fun l H2 n2=>gn ?_⟩
 have hl:H l=none:=n2.nn
 obtain ⟨lb,lc⟩:=bx.ne_new n2.nn
 have st2:Step b c H H2 t t 0:=(Step.refl bx).newN n2
 refine ⟨_,rfl,many,rfl,by first|lia|omega,by first|lia|omega,?_⟩
 refine for_range (lo:=0) (n:=many.toNat) (fun i σ H'=>∃xs t' x4, σ=[some (.ref b),some (.int many),some (.str abc),some (.ref l),x4]∧xs.length=i ∧
  (∀(j:Nat) x,xs[j]? = some x→EndL j x)∧Step b c H H' t t' (10*i)∧H' l=some (.lst (xs.map V.str))) ⟨[],t,_,rfl,rfl,by simp,by simpa using st2,n2.at⟩ ?_ ?_
 ·rintro i σ H3 hi ⟨xs,t3,x4,rfl,hxl,hx,st3,hl3⟩
  have hub:=st3.ub
  have hlo:=st3.le
  refine ⟨_,rfl, .inl ⟨rfl,_,SqL.of hl3⟩,?_⟩
  refine ⟨rfl,_,rfl,b,c,t3,8,rfl,st3.bx,by first|lia|omega,by first|lia|omega,by decide,by decide,fun m H4 m0 m1 st4 => ?_⟩
  have hl4:H4 l=some (.lst (xs.map V.str)):=st4.old hl3 lb lc
  have st4:=(st3.trans st4)
  refine ⟨m,rfl,by first|lia|omega,by first|lia|omega,?_⟩
  refine comp_go (N:=m.toNat) (fun k ys H'=>∃(zs:List Str) (t':Int),ys=zs.map V.str∧zs.length=k∧(∀x∈zs,∃ch:Nat,x=⟨#[ch]⟩∧ch≤122)∧Step b c H H' t t' (10*i+1+k)∧H' l=some (.lst (xs.map V.str))) ⟨[],_,rfl,rfl,(fun _ h=>nomatch h),st4.more (by first|lia|omega),hl4⟩ ?_ ?_
  ·rintro k ys H5 Nx hk ⟨zs,t5,rfl,hzl,hz,st5,hl5⟩ nx
   have hub5:=st5.ub
   have hlo5:=st5.le
   refine ⟨hk,by rw [List.length_map,hzl];exact Nat.lt_of_lt_of_le (show k<1000 by first|lia|omega) (by decide),?_⟩
   rintro x H6 ⟨rfl,rfl⟩
   refine ⟨_,rfl,_,rfl,b,c,t5,26,rfl,st5.bx,by first|lia|omega,by first|lia|omega,by decide,by decide,fun d H7 d0 d1 st7 => ?_⟩
   refine .inr (.inr ⟨_,d,_,rfl,rfl,by decide +kernel,abc_at d0 d1,nx _ _ ⟨zs++[⟨#[97+d.toNat]⟩],_,by rw [List.map_append];rfl,by rw [List.length_append,hzl];rfl,fun x hx => ?_,(st5.trans st7).more (by first|lia|omega),st7.old hl5 lb lc⟩⟩)
   rcases List.mem_append.mp hx with h|h
   ·exact hz x h
   ·exact ⟨_,List.mem_singleton.mp h,by first|lia|omega⟩
  ·rintro ys H5 ⟨zs,t5,rfl,hzl,hz,st5,hl5⟩
   refine ⟨Nat.le_refl _,fun p hp=>⟨_,p,zs,rfl,rfl,SqL.of upd_same,?_,?_⟩⟩
   ·rw [(ones_len fun x hx=>by obtain ⟨k,e,_⟩:=hz x hx;exact ⟨k,e⟩).2]
    show zs.length+zs.length*0≤16777216
    (first|lia|omega)
   ·have hn:New H5 p (.lst (zs.map V.str)) (upd H5 p (.lst (zs.map V.str))):=⟨hp,rfl⟩
    generalize upd H5 p (.lst (zs.map V.str))=H6 at hn ⊢
    have hl6:=hn.same _ _ hl5
    have st6:=st5.newN hn
    have hjl:(Txt.join "" zs).length=zs.length:=by
     rw [str_len]
     rw [join_list0]
     exact (ones_len fun x hx=>by obtain ⟨k,e,_⟩:=hz x hx;exact ⟨k,e⟩).1
    have h0:0≤(0:Int)+i:=by (first|lia|omega)
    have h1:(0:Int)+i<26:=by (first|lia|omega)
    refine ⟨_,rfl,_,rfl, .inr (.inr ⟨_,_,_,rfl,rfl,by decide +kernel,abc_at h0 h1, .inr (.inl ⟨_,_,rfl,rfl,by rw [len_one,hjl];exact sizeOk (by first|lia|omega),l,_,_,rfl,rfl,hl6,?_,fun H7 c7 => ?_⟩)⟩)⟩
    ·rw [List.length_map,hxl];exact Nat.lt_of_lt_of_le (show i<1000 by first|lia|omega) (by decide)
    ·refine ⟨xs++[Txt.join "" zs++⟨#[97+((0:Int)+i).toNat]⟩],t5,_,rfl,by rw [List.length_append,hxl];rfl,fun j y hy => ?_,?_,?_⟩
     ·by_cases hj:j<xs.length
      ·rw [List.getElem?_append_left hj] at hy
       exact hx j y hy
      ·rw [List.getElem?_append_right (by first|lia|omega)] at hy
       have e:j-xs.length=0:=by
        have:=(List.getElem?_eq_some_iff.mp hy).1
        simp at this
        (first|lia|omega)
       rw [e] at hy
       cases hy
       have ej:j=i:=by (first|lia|omega)
       subst ej
       refine ⟨⟨by rw [len_append,len_one]; (first|lia|omega),?_⟩,fun ch hc => ?_⟩
       rotate_left
       ·rw [str_append_list] at hc
        rcases List.mem_append.mp hc with hc|hc
        ·rw [join_list0] at hc
         obtain ⟨u,hu,hc⟩:=List.mem_flatMap.mp hc
         obtain ⟨k,rfl,hk⟩:=hz u hu
         have:ch∈[k]:=hc
         rw [List.mem_singleton.mp this];exact hk
        ·have:ch∈[97+((0:Int)+j).toNat]:=hc
         rw [List.mem_singleton.mp this]; (first|lia|omega)
       rw [str_append_list,List.getLast?_append]
       have:((0:Int)+j).toNat=j:=by (first|lia|omega)
       rw [this]
       rfl
     ·exact (st6.chgN c7 hl lb lc).more (by first|lia|omega)
     ·rw [c7.at,List.map_append]
      rfl
 ·rintro σ H3 ⟨xs,t3,x4,rfl,hxl,hx,st3,hl3⟩
  exact ⟨_,rfl,q xs l H3 t3 (by first|lia|omega) (EndAt.nodup fun i x h=>(hx i x h).toEndAt) (fun x hx'=>by obtain ⟨j,hj⟩:=List.mem_iff_getElem?.mp hx';exact ⟨(hx j x hj).le,(hx j x hj).sm⟩) (st3.more (by first|lia|omega)) hl hl3⟩
end
end Z
namespace Z
open PySem L2 PyProof.Rows
structure GoodN (bk:List (Str×Str)):Prop where
 le:bk.length≤16
 nm:(bk.map (·.1)).Nodup
 cd:∀q∈bk,CodeOk 12 q.2
 nl:∀q∈bk,q.1.length≤8
 sm:∀q∈bk,∀ch∈q.1.cps.toList,ch≤122
theorem sl_fromN {x:Str} (p:Nat):sg (Txt.slice x (some (p:Int)) none)=(sg x).drop p:=by
 have key:∀p:Nat,p≤x.length→sg (Txt.slice x (some (p:Int)) none)=(sg x).drop p:=fun p h=>by
  rw [PyProof.Rows.slice_from_eq (b:=(x.length:Int)) (by first|lia|omega) (by first|lia|omega) rfl]
  show (((sg x).drop (p:Int).toNat).take ((x.length:Int)-p).toNat).toArray.toList=_
  rw [List.toList_toArray,List.take_of_length_le]
  ·rfl
  ·rw [List.length_drop, ←str_len]; (first|lia|omega)
 by_cases h:p≤x.length
 ·exact key p h
 ·have e:Txt.slice x (some (p:Int)) none=Txt.slice x (some ((x.length:Nat):Int)) none:=by
   unfold Txt.slice
   have:PySem.Builtin.Str.strSliceIndices (some (p:Int)) none 1 x.length=PySem.Builtin.Str.strSliceIndices (some ((x.length:Nat):Int)) none 1 x.length:=by
    unfold PySem.Builtin.Str.strSliceIndices
    dsimp only
    congr 1
    all_goals (first|lia|omega)
   rw [this]
  rw [e,key _ (Nat.le_refl _),List.drop_of_length_le (Nat.le_of_eq (str_len x).symm),List.drop_of_length_le (by have:=str_len x;show (sg x).length≤p;change x.length=(sg x).length at this; (first|lia|omega))]
theorem len_of_nodup {α:Type} [DecidableEq α]:∀{l m:List α},l.Nodup→(∀x∈l,x∈m)→l.length≤m.length
 | [],_,_,_=>Nat.zero_le _
 | a :: l,m,nd,h=>by
  obtain ⟨na,nd'⟩:=List.nodup_cons.mp nd
  have hm:=h a List.mem_cons_self
  have ih:=len_of_nodup (l:=l) (m:=m.erase a) nd' fun x hx=>by
   have hne:x≠a:=fun z=>na (z ▸ hx)
   exact (List.mem_erase_of_ne hne).mpr (h x (List.mem_cons_of_mem _ hx))
  rw [List.length_erase_of_mem hm] at ih
  have:0<m.length:=List.length_pos_of_mem hm
  rw [List.length_cons]
  (first|lia|omega)
noncomputable def Sfx (B:List (Str×Str)) (r:Str):Prop:=∃q∈B,sg r <:+ sg q.2
noncomputable def sfxs (B:List (Str×Str)):List Str:=B.flatMap fun q=>(List.range (q.2.length+1)).map fun i=>⟨((sg q.2).drop i).toArray⟩
theorem Sfx.mem {B:List (Str×Str)} {r:Str} (h:Sfx B r):r∈sfxs B:=by
 obtain ⟨q,hq,hs⟩:=h
 refine List.mem_flatMap.mpr ⟨q,hq,List.mem_map.mpr ⟨(sg q.2).length-(sg r).length,List.mem_range.mpr ?_,?_⟩⟩
 ·have e:q.2.length=(sg q.2).length:=str_len q.2
  (first|lia|omega)
 ·refine str_eq ?_
  show ((sg q.2).drop _).toArray.toList=_
  rw [List.toList_toArray]
  exact (List.suffix_iff_eq_drop.mp hs).symm
theorem sfxs_len {B:List (Str×Str)} (cd:∀q∈B,CodeOk 12 q.2):(sfxs B).length≤13*B.length:=by
 induction B with
 | nil=>exact Nat.le_refl _
 | cons q B ih=>
  have h1:=ih fun x hx=>cd x (List.mem_cons_of_mem _ hx)
  have h2:=(cd q List.mem_cons_self).le
  show (((List.range (q.2.length+1)).map _)++sfxs B).length≤_
  rw [List.length_append,List.length_map,List.length_range,List.length_cons]
  (first|lia|omega)
theorem Sfx.len {B:List (Str×Str)} {r:Str} (cd:∀q∈B,CodeOk 12 q.2) (h:Sfx B r):r.length≤12:=by
 obtain ⟨q,hq,hs⟩:=h
 have h1:=hs.length_le
 have h2:=(cd q hq).le
 have e1:r.length=(sg r).length:=str_len r
 have e2:q.2.length=(sg q.2).length:=str_len q.2
 (first|lia|omega)
theorem Sfx.cut {B:List (Str×Str)} {r:Str} (h:Sfx B r) (p:Nat):Sfx B (Txt.slice r (some (p:Int)) none):=by
 obtain ⟨q,hq,hs⟩:=h
 refine ⟨q,hq,?_⟩
 rw [sl_fromN]
 exact (List.drop_suffix _ _).trans hs
noncomputable def Rdg (B:List (Str×Str)) (t r:Str) (ns ms:List Str):Prop:=∃a b ps qs,Of B (a :: ps)∧Of B (b :: qs)∧a≠b∧ns=(a :: ps).map (·.1)∧ms=(b :: qs).map (·.1)∧tx (a :: ps)=sg t∧tx (a :: ps)=tx (b :: qs)++sg r
theorem of_one {B:List (Str×Str)} {x:Str×Str} (h:x∈B):Of B [x]:=fun q hq=>by rw [List.mem_singleton.mp hq];exact h
theorem tx_one (x:Str×Str):tx [x]=sg x.2:=by unfold tx;simp
theorem of_snoc {B ps:List (Str×Str)} {a z:Str×Str} (o:Of B (a :: ps)) (h:z∈B):Of B (a :: (ps++[z])):=fun y hy=>by
 rw [←List.cons_append] at hy
 rcases List.mem_append.mp hy with hy|hy
 ·exact o y hy
 ·exact of_one h y hy
theorem tx_end (a:Str×Str) (ps:List (Str×Str)) (z:Str×Str):tx (a :: (ps++[z]))=tx (a :: ps)++sg z.2:=by rw [←List.cons_append,tx_app,tx_one]
theorem Rdg.behind {B:List (Str×Str)} {t r r':Str} {ns ms:List Str} {z:Str×Str} (h:Rdg B t r ns ms) (hz:z∈B) (e:sg r=sg z.2++sg r'):Rdg B t r' ns (ms++[z.1]):=by
 obtain ⟨a,b,ps,qs,o1,o2,hab,rfl,rfl,e1,e2⟩:=h
 refine ⟨a,b,ps,qs++[z],o1,of_snoc o2 hz,hab,rfl,?_,e1,?_⟩
 ·rw [←List.cons_append,List.map_append];rfl
 ·rw [tx_end,List.append_assoc, ←e];exact e2
theorem Rdg.over {B:List (Str×Str)} {t r r':Str} {ns ms:List Str} {z:Str×Str} (h:Rdg B t r ns ms) (hz:z∈B) (e:sg z.2=sg r++sg r'):Rdg B (t++r') r' (ms++[z.1]) ns:=by
 obtain ⟨a,b,ps,qs,o1,o2,hab,rfl,rfl,e1,e2⟩:=h
 refine ⟨b,a,qs++[z],ps,of_snoc o2 hz,o1,hab.symm,?_,rfl,?_,?_⟩
 ·rw [←List.cons_append,List.map_append];rfl
 ·rw [tx_end,e, ←List.append_assoc, ←e2,e1,sg_app]
 ·rw [tx_end,e, ←List.append_assoc, ←e2]
theorem Rdg.two {B:List (Str×Str)} {r':Str} {a z:Str×Str} (ha:a∈B) (hz:z∈B) (ne:a≠z) (e:sg a.2=sg z.2++sg r'):Rdg B a.2 r' [a.1] [z.1]:=
 ⟨a,z,[],[],of_one ha,of_one hz,ne,rfl,rfl,tx_one _,by rw [tx_one,tx_one];exact e⟩
theorem Rdg.swap {B:List (Str×Str)} {r':Str} {a z:Str×Str} (ha:a∈B) (hz:z∈B) (ne:a≠z) (e:sg z.2=sg a.2++sg r'):Rdg B (a.2++r') r' [z.1] [a.1]:=
 ⟨z,a,[],[],of_one hz,of_one ha,ne.symm,rfl,rfl,by rw [tx_one,sg_app];exact e,by rw [tx_one,tx_one];exact e⟩
structure Gst (B:List (Str×Str)) (n:Nat) (t' r':Str) (ns ms:List Str):Prop where
 t:t'.length≤12*n
 r:Sfx B r'
 a:ns≠[]
 ni:∀x∈ns,x∈B.map (·.1)
 mi:∀x∈ms,x∈B.map (·.1)
 nl:ns.length≤n
 ml:ms.length≤n
 rd:ms≠[]→Rdg B t' r' ns ms
theorem Gst.mono {B:List (Str×Str)} {n m:Nat} {t r:Str} {ns ms:List Str} (h:Gst B n t r ns ms) (le:n≤m):Gst B m t r ns ms:=
 ⟨Nat.le_trans h.t (Nat.mul_le_mul_left _ le),h.r,h.a,h.ni,h.mi,Nat.le_trans h.nl le,Nat.le_trans h.ml le,h.rd⟩
noncomputable def Sd (H:Hp) (a:Addr) (t r:Str) (ns ms:List Str):Prop:=∃p q,H a=some (.tup [.str t, .str r, .ref p, .ref q])∧H p=some (.lst (ns.map V.str))∧H q=some (.lst (ms.map V.str))
theorem Sd.same {H H':Hp} {a:Addr} {t r:Str} {ns ms:List Str} (h:Sd H a t r ns ms) (s:Same H H'):Sd H' a t r ns ms:=by
 obtain ⟨p,q,h1,h2,h3⟩:=h
 exact ⟨p,q,s _ _ h1,s _ _ h2,s _ _ h3⟩
noncomputable def Std (B:List (Str×Str)) (n:Nat) (H:Hp) (a:Addr) (r:Str):Prop:=∃t ns ms,Sd H a t r ns ms∧Gst B n t r ns ms∧ms≠[]
theorem Std.same {B:List (Str×Str)} {n:Nat} {H H':Hp} {a:Addr} {r:Str} (h:Std B n H a r) (s:Same H H'):Std B n H' a r:=by
 obtain ⟨t,ns,ms,h1,h2⟩:=h
 exact ⟨t,ns,ms,h1.same s,h2⟩
theorem Std.mono {B:List (Str×Str)} {n m:Nat} {H:Hp} {a:Addr} {r:Str} (h:Std B n H a r) (le:n≤m):Std B m H a r:=by
 obtain ⟨t,ns,ms,h1,h2,h3⟩:=h
 exact ⟨t,ns,ms,h1,h2.mono le,h3⟩
noncomputable def Off (d:Addr) (H H':Hp):Prop:=∀b o,b≠d→H b=some o→H' b=some o
theorem Off.trans {d:Addr} {H H1 H2:Hp} (a:Off d H H1) (b:Off d H1 H2):Off d H H2:=fun c o n h=>b c o n (a c o n h)
theorem Std.off {B:List (Str×Str)} {n:Nat} {H H':Hp} {a d:Addr} {r:Str} {kvs:List (Key×V)} (h:Std B n H a r) (s:Off d H H') (hd:H d=some (.dK kvs)):Std B n H' a r:=by
 obtain ⟨t,ns,ms,⟨p,q,h1,h2,h3⟩,h4⟩:=h
 refine ⟨t,ns,ms,⟨p,q,s _ _ (fun z => ?_) h1,s _ _ (fun z => ?_) h2,s _ _ (fun z => ?_) h3⟩,h4⟩
 ·rw [z,hd] at h1;cases h1
 ·rw [z,hd] at h2;cases h2
 ·rw [z,hd] at h3;cases h3
structure Wt (B:List (Str×Str)) (n:Nat) (H:Hp) (kvs:List (Key×V)):Prop where
 nd:(kvs.map (·.1)).Nodup
 st:∀z∈kvs,∃r a,z=(.inr r, .ref a)∧Std B n H a r
theorem inr_nd {l:List Str} {ks:List Key} (e:ks=l.map Sum.inr) (h:ks.Nodup):l.Nodup:=by
 subst e
 exact List.nodup_iff_pairwise_ne.mpr ((List.pairwise_map.mp (List.nodup_iff_pairwise_ne.mp h)).imp fun hab z=>hab (by rw [z]))
theorem keys_le {B:List (Str×Str)} {ks:List Key} (h:ks.Nodup) (hs:∀k∈ks,∃r,k = .inr r∧Sfx B r):ks.length≤(sfxs B).length:=by
 have:ks.length≤((sfxs B).map (Sum.inr:Str→Key)).length:=len_of_nodup h fun k hk=>by
  obtain ⟨r,rfl,hr⟩:=hs k hk
  exact List.mem_map_of_mem hr.mem
 rwa [List.length_map] at this
theorem Wt.sfx {B:List (Str×Str)} {n:Nat} {H:Hp} {kvs:List (Key×V)} (h:Wt B n H kvs):∀k∈kvs.map (·.1),∃r,k = .inr r∧Sfx B r:=fun k hk=>by
 obtain ⟨z,hz,rfl⟩:=List.mem_map.mp hk
 obtain ⟨r,a,rfl,t,ns,ms,_,g,_⟩:=h.st z hz
 exact ⟨r,rfl,g.r⟩
theorem valV_mem {kvs:List (Key×V)} {k:Key} {v:V} (h:valV kvs k=some v):(k,v)∈kvs:=by
 induction kvs with
 | nil=>cases h
 | cons p r ih=>
  by_cases e:p.1=k
  ·rw [valV_pos e] at h
   cases h
   rw [←e];exact List.mem_cons_self
  ·rw [valV_neg e] at h
   exact List.mem_cons_of_mem _ (ih h)
theorem mem_valV {kvs:List (Key×V)} {k:Key} {v:V} (nd:(kvs.map (·.1)).Nodup) (h:(k,v)∈kvs):valV kvs k=some v:=by
 induction kvs with
 | nil=>cases h
 | cons p r ih=>
  rw [List.map_cons,List.nodup_cons] at nd
  rcases List.mem_cons.mp h with rfl|h
  ·exact valV_pos rfl
  ·rw [valV_neg fun z=>nd.1 (by rw [z];exact List.mem_map_of_mem (f:=(·.1)) h)]
   exact ih nd.2 h
theorem keys_put {kvs:List (Key×V)} {k:Key} {v w:V} (h:valV kvs k=some w):(putK kvs k v).map (·.1)=kvs.map (·.1):=by
 unfold putK
 rw [valV_any,h]
 rw [if_pos (show (some w).isSome=true from rfl),List.map_map]
 refine List.map_congr_left fun z _ => ?_
 show (if z.1=k then (z.1,v) else z).1=z.1
 split <;> rfl
theorem mem_put {kvs:List (Key×V)} {k:Key} {v:V} {z:Key×V} (h:z∈putK kvs k v):z=(k,v)∨z∈kvs:=by
 unfold putK at h
 split at h
 ·obtain ⟨y,hy,rfl⟩:=List.mem_map.mp h
  split
  ·rename_i e;exact .inl (by rw [e])
  ·exact .inr hy
 ·rcases List.mem_append.mp h with h|h
  ·exact .inr h
  ·exact .inl (List.mem_singleton.mp h)
theorem Wt.put {B:List (Str×Str)} {n:Nat} {H:Hp} {kvs:List (Key×V)} {r:Str} {a:Addr} (h:Wt B n H kvs) (s:Std B n H a r):Wt B n H (putK kvs (.inr r) (.ref a)):=by
 refine ⟨?_,fun z hz => ?_⟩
 ·cases e:valV kvs (.inr r) with
  | none=>exact nd_putK _ h.nd e
  | some w=>rw [keys_put e];exact h.nd
 ·rcases mem_put hz with rfl|hz
  ·exact ⟨r,a,rfl,s⟩
  ·exact h.st z hz
theorem Wt.step {B:List (Str×Str)} {n:Nat} {H H':Hp} {kvs:List (Key×V)} (h:Wt B n H kvs) (f:∀a r,Std B n H a r→Std B n H' a r):Wt B n H' kvs:=⟨h.nd,fun z hz=>by
 obtain ⟨r,a,e,s⟩:=h.st z hz
 exact ⟨r,a,e,f a r s⟩⟩
end Z
namespace Z
open PySem L2 PyProof.Rows
noncomputable def spLf:Sp:=fun vs H Q _=>∃t:Str,vs=[.str t]∧t.length≤100000∧∀z H',New H z (.tup [.int t.length, .str t]) H'→Q (.ref z) H'
noncomputable def spSo:Sp:=fun vs H Q _=>∃(a:Addr) (t r:Str) (ns ms:List Str),vs=[.ref a]∧Sd H a t r ns ms∧t.length≤100000∧∀z H',New H z (.tup [.int t.length, .str t]) H'→Q (.ref z) H'
theorem stands_of {B:List (Str×Str)} {n:Nat} {H:Hp} : ∀{kvs:List (Key×V)},(∀z∈kvs,∃r a,z=(.inr r, .ref a)∧Std B n H a r) →
  ∃L:List (Str×Addr×Str),kvs=L.map (fun x=>(.inr x.1, .ref x.2.1))∧∀x∈L,∃ns ms,Sd H x.2.1 x.2.2 x.1 ns ms∧Gst B n x.2.2 x.1 ns ms∧ms≠[]
 | [],_=>⟨[],rfl,fun _ h=>nomatch h⟩
 | z :: kvs,h=>by
  obtain ⟨L,rfl,hL⟩:=stands_of fun y hy=>h y (List.mem_cons_of_mem _ hy)
  obtain ⟨r,a,rfl,t,ns,ms,h1⟩:=h z List.mem_cons_self
  refine ⟨(r,a,t) :: L,rfl,fun x hx => ?_⟩
  rcases List.mem_cons.mp hx with rfl|hx
  ·exact ⟨ns,ms,h1⟩
  ·exact hL x hx
section
variable {P:Program} {w:World} {K:PySem.W.Frag} {mg:Str→Option Value} {base:Heap} {f:Addr} {fd:FuncData}
theorem sc_length_first:FnScope ["text"] ["text"] (defScope (top i_length_first)):=⟨rfl,rfl,rfl,by decide +kernel,rfl,by decide +kernel,by decide +kernel⟩
theorem ok_lf (F:Fun K "length_first" "length_first" (top i_length_first) f fd) (T:Nm mg):FnOk P w K mg base CX0 1 f fd ["text"] spLf:=by
 refine F.ok sc_length_first (fun vs H Q E h => ?_) (fun cdv A outer s H vs Q E hr h => ?_)
 ·obtain ⟨t,rfl,_⟩:=h
  rfl
 obtain ⟨t,rfl,ht,q⟩:=h
 refine ⟨_,(pss_one (ps_ret (tupN (pa_cons (pe_callB (lenK K) rfl T.n_len (by rfl) (pa_cons (pv 0) pa_nil)) (pa_cons (pv 0) pa_nil))))),?_⟩
 exact ⟨_,rfl,_,_,rfl,⟨sizeOk (by first|lia|omega),rfl⟩,_,rfl,by show 2≤sizeLine;decide,fun p H' n=>q p H' n⟩
theorem sc_stand_order:FnScope ["stand"] ["stand"] (defScope (top i_stand_order)):=⟨rfl,rfl,rfl,by decide +kernel,rfl,by decide +kernel,by decide +kernel⟩
theorem ok_so (F:Fun K "stand_order" "stand_order" (top i_stand_order) f fd) (T:Nm mg) (f_length_first:Fn P w K mg base 1 "length_first" ["text"] spLf):FnOk P w K mg base CX0 2 f fd ["stand"] spSo:=by
 refine F.ok sc_stand_order (fun vs H Q E h => ?_) (fun cdv A outer s H vs Q E hr h => ?_)
 ·obtain ⟨a,t,r,ns,ms,rfl,_⟩:=h
  rfl
 obtain ⟨a,t,r,ns,ms,rfl,⟨p,q',h1,_⟩,ht,q⟩:=h
 refine ⟨_,(pss_one (ps_ret (pe_fn (f_length_first.mono (by first|decide|exact Nat.le_refl _|(first|lia|omega))) hr rfl (pa_cons (pe_ix (ixK K) (pv 0) pe_int (fun _ _=>rfl)) pa_nil)))),?_⟩
 exact ⟨_,rfl, .inr (.inl ⟨a,_,0, .str t,rfl,rfl,SqT.of h1,rfl,t,rfl,ht,q⟩)⟩
end
end Z
namespace Z
open PySem L2 PyProof.Rows
theorem lf_ge {a b c:Str} (h1:¬lfLt b a) (h2:¬lfLt c b):¬lfLt c a:=fun h=>h2 (lf_ntrans h h1)
theorem lf_refl (a:Str):¬lfLt a a:=lfLt_irrefl a
theorem lf_anti {a b:Str} (h1:¬lfLt a b) (h2:¬lfLt b a):a=b:=by
 by_cases e:a=b
 ·exact e
 ·exact ((lfLt_or e).elim h1 h2).elim
theorem lt_app:∀{a b o:List Nat},a.length=b.length→a++o<b++o→a<b
 | [],[],o,_,h=>by rw [List.nil_append] at h;exact absurd h (List.lt_irrefl _)
 | [],_ :: _,_,e,_=>by cases e
 | _ :: _,[],_,e,_=>by cases e
 | x :: a,y :: b,o,e,h=>by
  rw [List.cons_append,List.cons_append,List.cons_lt_cons_iff] at h
  rw [List.cons_lt_cons_iff]
  rcases h with h|⟨h1,h2⟩
  ·exact .inl h
  ·exact .inr ⟨h1,lt_app (Nat.succ.inj e) h2⟩
theorem lf_app {t u:Str} (o:Str) (h:¬lfLt u t):¬lfLt (u++o) (t++o):=fun z=>by
 rcases z with z|⟨z1,z2⟩
 ·rw [len_append,len_append] at z
  exact h (.inl (by first|lia|omega))
 ·rw [len_append,len_append] at z1
  have e:u.length=t.length:=by (first|lia|omega)
  refine h (.inr ⟨e,lt_app (o:=sg o) ?_ ?_⟩)
  ·rw [←str_len, ←str_len];exact e
  ·have:=z2
   change sg (u++o)<sg (t++o) at this
   rw [sg_app,sg_app] at this
   exact this
theorem lf_pre {u t:Str} (h:sg u <+: sg t):¬lfLt t u:=fun z=>by
 have hl:=h.length_le
 have e1:t.length=(sg t).length:=str_len t
 have e2:u.length=(sg u).length:=str_len u
 rcases z with z|⟨z1,z2⟩
 ·(first|lia|omega)
 ·have:sg u=sg t:=h.eq_of_length (by first|lia|omega)
  have z2:sg t<sg u:=z2
  rw [this] at z2
  exact List.lt_irrefl _ z2
noncomputable def Nx (z:Str×Str) (t r t' r':Str):Prop:=(sg r=sg z.2++sg r'∧t'=t)∨(¬sg z.2 <+: sg r∧sg z.2=sg r++sg r'∧t'=t++r')
theorem Nx.one {z:Str×Str} {t r t1 r1 t2 r2:Str} (h:Nx z t r t1 r1) (g:Nx z t r t2 r2):t1=t2∧r1=r2:=by
 rcases h with ⟨h1,rfl⟩|⟨h0,h1,rfl⟩ <;> rcases g with ⟨g1,rfl⟩|⟨g0,g1,rfl⟩
 ·rw [h1] at g1
  exact ⟨rfl,str_eq (List.append_cancel_left g1)⟩
 ·exact absurd (h1 ▸ List.prefix_append _ _) g0
 ·exact absurd (g1 ▸ List.prefix_append _ _) h0
 ·rw [h1] at g1
  have e:r1=r2:=str_eq (List.append_cancel_left g1)
  rw [e];exact ⟨rfl,rfl⟩
theorem Nx.mono {z:Str×Str} {t u r u' r':Str} (h:Nx z u r u' r') (le:¬lfLt u t):∃t',Nx z t r t' r'∧¬lfLt u' t':=by
 rcases h with ⟨h1,rfl⟩|⟨h0,h1,rfl⟩
 ·exact ⟨t, .inl ⟨h1,rfl⟩,le⟩
 ·exact ⟨t++r', .inr ⟨h0,h1,rfl⟩,lf_app _ le⟩
theorem Nx.up {z:Str×Str} {t r t' r':Str} (h:Nx z t r t' r'):¬lfLt t' t:=by
 rcases h with ⟨h1,rfl⟩|⟨h0,h1,rfl⟩
 ·exact lf_refl _
 ·exact lf_pre (by rw [sg_app];exact List.prefix_append _ _)
noncomputable def Sta (B:List (Str×Str)) (t r:Str):Prop:=∃(i:Nat) (hi:i<B.length),∃z∈B.take i,Nx z B[i].2 B[i].2 t r
inductive Rch (B:List (Str×Str)):Str→Str→Prop
 | start {t r:Str} : Sta B t r→Rch B t r
 | step {t r t' r':Str} {z:Str×Str} : Rch B t r→r ≠ "" → z∈B→Nx z t r t' r'→Rch B t' r'
noncomputable def Amb (B:List (Str×Str)) (t:Str):Prop:=∃ps qs,Of B ps∧Of B qs∧ps≠qs∧tx ps=sg t∧tx qs=sg t
structure Dij (B:List (Str×Str)) (W D:Str→Str→Prop):Prop where
 ws:∀{t r},W t r→Rch B t r
 st:∀{t r},Sta B t r→∃t',(W t' r∨D t' r)∧¬lfLt t t'
 ed:∀{t r z t' r'},D t r→z∈B→Nx z t r t' r'→∃t'',(W t'' r'∨D t'' r')∧¬lfLt t' t''
 mn:∀{t r u},D t r→Rch B u r→¬lfLt u t
 ne:∀{t r},D t r→r ≠ ""
theorem Dij.or {B:List (Str×Str)} {W D:Str→Str→Prop} (h:Dij B W D) {u r:Str} (hu:Rch B u r):(∃t,D t r∧¬lfLt u t)∨∃t r',W t r'∧¬lfLt u t:=by
 induction hu with
 | start hs=>
  obtain ⟨t',h1|h1,h2⟩:=h.st hs
  ·exact .inr ⟨t',_,h1,h2⟩
  ·exact .inl ⟨t',h1,h2⟩
 | step hu hr hz hn ih=>
  rcases ih with ⟨t0,h1,h2⟩|⟨t0,r0,h1,h2⟩
  ·obtain ⟨t1,g1,g2⟩:=hn.mono h2
   obtain ⟨t2,h3|h3,h4⟩:=h.ed h1 hz g1
   ·exact .inr ⟨t2,_,h3,lf_ge h4 g2⟩
   ·exact .inl ⟨t2,h3,lf_ge h4 g2⟩
  ·exact .inr ⟨t0,r0,h1,lf_ge h2 hn.up⟩
theorem Dij.none {B:List (Str×Str)} {W D:Str→Str→Prop} (h:Dij B W D) (hw:∀t r, ¬W t r) (u:Str):¬Rch B u "":=fun hu=>by
 rcases h.or hu with ⟨t,h1,_⟩|⟨t,r,h1,_⟩
 ·exact h.ne h1 rfl
 ·exact hw _ _ h1
theorem Dij.least {B:List (Str×Str)} {W D:Str→Str→Prop} (h:Dij B W D) {t r:Str} (hd:∀t', ¬D t' r) (hm:∀t' r',W t' r'→¬lfLt t' t) {u:Str} (hu:Rch B u r):¬lfLt u t:=by
 rcases h.or hu with ⟨t',h1,_⟩|⟨t',r',h1,h2⟩
 ·exact absurd h1 (hd _)
 ·exact lf_ge (hm _ _ h1) h2
theorem Dij.next {B:List (Str×Str)} {W D W':Str→Str→Prop} (h:Dij B W D) {t r:Str} (hw:W t r) (hr:r ≠ "") (fn:∀t',W t' r→t'=t) (hd:∀t', ¬D t' r) (hm:∀t' r',W t' r'→¬lfLt t' t)
  (ws:∀t' r',W' t' r'→W t' r'∨∃z∈B,Nx z t r t' r') (cv:∀t' r',W t' r'→r'≠r→∃t'',W' t'' r'∧¬lfLt t' t'')
  (ce:∀z t' r',z∈B→Nx z t r t' r'→r'≠r→(∀u, ¬D u r')→∃t'',W' t'' r'∧¬lfLt t' t''):Dij B W' fun a b=>D a b∨(a=t∧b=r):=by
 have hR:=h.ws hw
 have move:∀{t1 r1:Str},(∃t',(W t' r1∨D t' r1)∧¬lfLt t1 t')→∃t',(W' t' r1∨(D t' r1∨(t'=t∧r1=r)))∧¬lfLt t1 t':=fun {t1 r1} ⟨t',h1,h2⟩=>by
  rcases h1 with h1|h1
  ·by_cases e:r1=r
   ·subst e
    exact ⟨t', .inr (.inr ⟨fn _ h1,rfl⟩),h2⟩
   ·obtain ⟨t'',g1,g2⟩:=cv _ _ h1 e
    exact ⟨t'', .inl g1,lf_ge g2 h2⟩
  ·exact ⟨t', .inr (.inl h1),h2⟩
 have mn:∀{t1 r1 u:Str},(D t1 r1∨(t1=t∧r1=r))→Rch B u r1→¬lfLt u t1:=fun {t1 r1 u} hx hu=>by
  rcases hx with hx|⟨rfl,rfl⟩
  ·exact h.mn hx hu
  ·exact h.least hd hm hu
 refine ⟨fun {t1 r1} hx => ?_,fun hs=>move (h.st hs),fun {t1 r1 z t2 r2} hx hz hn => ?_,mn,fun {t1 r1} hx => ?_⟩
 ·rcases ws _ _ hx with hx|⟨z,hz,hn⟩
  ·exact h.ws hx
  ·exact .step hR hr hz hn
 ·rcases hx with hx|⟨rfl,rfl⟩
  ·exact move (h.ed hx hz hn)
  ·have hR2:Rch B t2 r2 := .step hR hr hz hn
   by_cases e:r2=r1
   ·exact ⟨t1, .inr (.inr ⟨rfl,e⟩),h.least hd hm (e ▸ hR2)⟩
   ·by_cases hD:∃u,D u r2
    ·obtain ⟨u,hu⟩:=hD
     exact ⟨u, .inr (.inl hu),h.mn hu hR2⟩
    ·obtain ⟨t'',g1,g2⟩:=ce z t2 r2 hz hn e fun u hu=>hD ⟨u,hu⟩
     exact ⟨t'', .inl g1,g2⟩
 ·rcases hx with hx|⟨rfl,rfl⟩
  ·exact h.ne hx
  ·exact hr
theorem Rch.amb' {B:List (Str×Str)} (nd:B.Nodup) {t r:Str} (h:Rch B t r):∃a b ps qs,Of B (a :: ps)∧Of B (b :: qs)∧a≠b∧tx (a :: ps)=sg t∧tx (a :: ps)=tx (b :: qs)++sg r:=by
 have of1:∀{x:Str×Str},x∈B→Of B [x]:=fun h q hq=>by rw [List.mem_singleton.mp hq];exact h
 have tx1:∀x:Str×Str,tx [x]=sg x.2:=fun x=>by unfold tx;simp
 induction h with
 | @start t r hs=>
  obtain ⟨i,hi,z,hz,hn⟩:=hs
  have hm:=List.mem_of_mem_take hz
  have hne:B[i]≠z:=fun e=>by
   obtain ⟨j,hj,e2⟩:=List.mem_iff_getElem.mp hz
   rw [List.length_take] at hj
   rw [List.getElem_take] at e2
   have:=(List.getElem_inj nd).mp (e.trans e2.symm)
   (first|lia|omega)
  rcases hn with ⟨h1,rfl⟩|⟨h0,h1,rfl⟩
  ·exact ⟨B[i],z,[],[],of1 (List.getElem_mem hi),of1 hm,hne,tx1 _,by rw [tx1,tx1];exact h1⟩
  ·exact ⟨z,B[i],[],[],of1 hm,of1 (List.getElem_mem hi),hne.symm,by rw [tx1,sg_app];exact h1,by rw [tx1,tx1];exact h1⟩
 | @step t r t' r' z hu hr hz hn ih=>
  obtain ⟨a,b,ps,qs,o1,o2,hab,e1,e2⟩:=ih
  have o3:Of B (b :: (qs++[z])):=fun y hy=>by
   rw [←List.cons_append] at hy
   rcases List.mem_append.mp hy with hy|hy
   ·exact o2 y hy
   ·exact of1 hz y hy
  have e3:tx (b :: (qs++[z]))=tx (b :: qs)++sg z.2:=by rw [←List.cons_append,tx_app,tx1]
  rcases hn with ⟨h1,rfl⟩|⟨h0,h1,rfl⟩
  ·exact ⟨a,b,ps,qs++[z],o1,o3,hab,e1,by rw [e3,List.append_assoc, ←h1];exact e2⟩
  ·refine ⟨b,a,qs++[z],ps,o3,o1,hab.symm,?_,?_⟩
   ·rw [e3,h1, ←List.append_assoc, ←e2,e1,sg_app]
   ·rw [e3,h1, ←List.append_assoc, ←e2]
theorem Rch.amb {B:List (Str×Str)} (nd:B.Nodup) {t:Str} (h:Rch B t ""):Amb B t:=by
 obtain ⟨a,b,ps,qs,o1,o2,hab,e1,e2⟩:=h.amb' nd
 have:sg "" = []:=by decide +kernel
 rw [this,List.append_nil] at e2
 exact ⟨_,_,o1,o2,fun z=>hab (by injection z),e1,e2 ▸ e1⟩
theorem tx_cons (a:Str×Str) (ps:List (Str×Str)):tx (a :: ps)=sg a.2++tx ps:=List.flatMap_cons
theorem Rch.go {B:List (Str×Str)} : ∀(n:Nat) {t r:Str} {ps qs:List (Str×Str)},ps.length+qs.length≤n→Rch B t r→Of B ps→Of B qs→tx qs=sg r++tx ps→∃u,Rch B u "" ∧ sg u <+: sg t++tx ps
 | n,t,r,ps,qs,hn,h,o1,o2,e=>by
  have e0:sg "" = []:=by decide +kernel
  by_cases hr:r = ""
  ·subst hr
   exact ⟨t,h,List.prefix_append _ _⟩
  have hrn:sg r≠[]:=fun z=>hr (str_eq (z.trans e0.symm))
  cases qs with
  | nil=>
   have:sg r++tx ps=[]:=e.symm
   exact absurd (List.append_eq_nil_iff.mp this).1 hrn
  | cons q qs=>
   rw [tx_cons] at e
   have oq:q∈B:=o2 q List.mem_cons_self
   have o3:Of B qs:=fun y hy=>o2 y (List.mem_cons_of_mem _ hy)
   cases n with
   | zero=>simp at hn
   | succ n=>
    rw [List.length_cons] at hn
    by_cases hp:sg q.2 <+: sg r
    ·obtain ⟨r',hr'⟩:=hp
     have hs:Rch B t ⟨r'.toArray⟩ := .step h hr oq (.inl ⟨by rw [←hr'],rfl⟩)
     refine Rch.go n (qs:=qs) (by first|lia|omega) hs o1 o3 ?_
     rw [←hr',List.append_assoc] at e
     have:=List.append_cancel_left e
     rw [this]
    ·have:sg r <+: sg q.2:=by
      rcases List.prefix_or_prefix_of_prefix (l₁:=sg q.2) (l₂:=sg r) (l₃:=sg q.2++tx qs) (List.prefix_append _ _) (e ▸ List.prefix_append _ _) with z|z
      ·exact absurd z hp
      ·exact z
     obtain ⟨r',hr'⟩:=this
     have e1:sg (⟨r'.toArray⟩:Str)=r':=by simp
     have hs:Rch B (t++⟨r'.toArray⟩) ⟨r'.toArray⟩ := .step h hr oq (.inr ⟨hp,by rw [e1];exact hr'.symm,rfl⟩)
     rw [←hr',List.append_assoc] at e
     have e2:=List.append_cancel_left e
     obtain ⟨u,h1,h2⟩:=Rch.go n (ps:=qs) (qs:=ps) (by first|lia|omega) hs o3 o1 (by rw [e1];exact e2.symm)
     refine ⟨u,h1,?_⟩
     rw [sg_app,e1,List.append_assoc,e2] at h2
     exact h2
theorem Amb.strip {B:List (Str×Str)} (cd:∀q∈B,CodeOk 12 q.2):∀{ps qs:List (Str×Str)},Of B ps→Of B qs→ps≠qs→tx ps=tx qs→∃c a b ps' qs',ps=c++a :: ps'∧qs=c++b :: qs'∧a≠b
 | [],[],_,_,h,_=>absurd rfl h
 | [],q :: qs,_,o2,_,e=>by
  have:=(cd q (o2 q List.mem_cons_self)).pos
  rw [str_len] at this
  have e2:([]:List Nat)=sg q.2++tx qs:=(tx_cons q qs) ▸ e
  have:=congrArg List.length e2
  rw [List.length_append] at this
  change 0=(sg q.2).length+_ at this
  have h3:1≤(sg q.2).length:=by assumption
  (first|lia|omega)
 | p :: ps,[],o1,_,_,e=>by
  have:=(cd p (o1 p List.mem_cons_self)).pos
  rw [str_len] at this
  have e2:sg p.2++tx ps=([]:List Nat):=(tx_cons p ps) ▸ e
  have:=congrArg List.length e2
  rw [List.length_append] at this
  change (sg p.2).length+_=0 at this
  have h3:1≤(sg p.2).length:=by assumption
  (first|lia|omega)
 | p :: ps,q :: qs,o1,o2,h,e=>by
  by_cases hpq:p=q
  ·subst hpq
   rw [tx_cons,tx_cons] at e
   obtain ⟨c,a,b,ps',qs',e1,e2,e3⟩:=Amb.strip cd (fun y hy=>o1 y (List.mem_cons_of_mem _ hy)) (fun y hy=>o2 y (List.mem_cons_of_mem _ hy)) (fun z=>h (by rw [z])) (List.append_cancel_left e)
   exact ⟨p :: c,a,b,ps',qs',by rw [e1];rfl,by rw [e2];rfl,e3⟩
  ·exact ⟨[],p,q,ps,qs,rfl,rfl,hpq⟩
theorem tx_nil:tx []=[]:=rfl
theorem Amb.rch {B:List (Str×Str)} (cd:∀q∈B,CodeOk 12 q.2) {t:Str} (h:Amb B t):∃u,Rch B u "" ∧ ¬lfLt t u:=by
 obtain ⟨ps,qs,o1,o2,hne,e1,e2⟩:=h
 obtain ⟨c,a,b,ps',qs',rfl,rfl,hab⟩:=Amb.strip cd o1 o2 hne (e1.trans e2.symm)
 rw [tx_app] at e1 e2
 have e3:tx (a :: ps')=tx (b :: qs'):=List.append_cancel_left (e1.trans e2.symm)
 rw [tx_cons,tx_cons] at e3
 have oa:a∈B:=o1 a (List.mem_append_right _ List.mem_cons_self)
 have ob:b∈B:=o2 b (List.mem_append_right _ List.mem_cons_self)
 have op:Of B ps':=fun y hy=>o1 y (List.mem_append_right _ (List.mem_cons_of_mem _ hy))
 have oq:Of B qs':=fun y hy=>o2 y (List.mem_append_right _ (List.mem_cons_of_mem _ hy))
 have key:∀{a b:Str×Str} {ps qs:List (Str×Str)},Of B ps→Of B qs→sg a.2++tx ps=sg b.2++tx qs→(∃(i:Nat) (hi:i<B.length),B[i]=a∧b∈B.take i)→∃u,Rch B u "" ∧ sg u <+: sg a.2++tx ps:=by
  rintro a b ps qs o1 o2 e ⟨i,hi,rfl,hb⟩
  by_cases hp:sg b.2 <+: sg B[i].2
  ·obtain ⟨r',hr'⟩:=hp
   have ea:sg (⟨r'.toArray⟩:Str)=r':=by simp
   have hs:Rch B B[i].2 ⟨r'.toArray⟩ := .start ⟨i,hi,b,hb, .inl ⟨by rw [ea];exact hr'.symm,rfl⟩⟩
   rw [←hr',List.append_assoc] at e
   exact hs.go _ (qs:=qs) (Nat.le_refl _) o1 o2 (by rw [ea];exact (List.append_cancel_left e).symm)
  ·have:sg B[i].2 <+: sg b.2:=by
    rcases List.prefix_or_prefix_of_prefix (l₁:=sg b.2) (l₂:=sg B[i].2) (l₃:=sg b.2++tx qs) (List.prefix_append _ _) (e ▸ List.prefix_append _ _) with z|z
    ·exact absurd z hp
    ·exact z
   obtain ⟨r',hr'⟩:=this
   have ea:sg (⟨r'.toArray⟩:Str)=r':=by simp
   have hs:Rch B (B[i].2++⟨r'.toArray⟩) ⟨r'.toArray⟩ := .start ⟨i,hi,b,hb, .inr ⟨hp,by rw [ea];exact hr'.symm,rfl⟩⟩
   rw [←hr',List.append_assoc] at e
   have e2:=List.append_cancel_left e
   obtain ⟨u,h1,h2⟩:=hs.go _ (ps:=qs) (qs:=ps) (Nat.le_refl _) o2 o1 (by rw [ea];exact e2)
   refine ⟨u,h1,?_⟩
   rw [sg_app,ea,List.append_assoc, ←e2] at h2
   exact h2
 have fin:∀{u:Str},(sg u <+: sg a.2++tx ps')→¬lfLt t u:=fun {u} hu=>by
  have hx:sg (⟨(sg a.2++tx ps').toArray⟩:Str)=sg a.2++tx ps':=by simp
  have h1:¬lfLt (⟨(sg a.2++tx ps').toArray⟩:Str) u:=lf_pre (by rw [hx];exact hu)
  refine lf_ge h1 ?_
  rintro (z|⟨z1,z2⟩)
  ·rw [str_len,str_len] at z
   have z:(sg t).length<(sg (⟨(sg a.2++tx ps').toArray⟩:Str)).length:=z
   rw [hx, ←e1,tx_cons,List.length_append] at z
   (first|lia|omega)
  ·rw [str_len,str_len] at z1
   have z1:(sg t).length=(sg (⟨(sg a.2++tx ps').toArray⟩:Str)).length:=z1
   have z2:sg t<sg (⟨(sg a.2++tx ps').toArray⟩:Str):=z2
   rw [hx] at z1 z2
   rw [←e1,tx_cons,List.length_append] at z1
   have hc:tx c=[]:=List.eq_nil_of_length_eq_zero (by first|lia|omega)
   rw [←e1,tx_cons,hc,List.nil_append] at z2
   exact List.lt_irrefl _ z2
 obtain ⟨i,hi,ei⟩:=List.mem_iff_getElem.mp oa
 obtain ⟨j,hj,ej⟩:=List.mem_iff_getElem.mp ob
 rcases Nat.lt_trichotomy i j with hij|hij|hij
 ·obtain ⟨u,h1,h2⟩:=key (a:=b) (b:=a) oq op e3.symm ⟨j,hj,ej,ei ▸ List.mem_take_iff_getElem.mpr ⟨i,by first|lia|omega,rfl⟩⟩
  exact ⟨u,h1,fin (e3 ▸ h2)⟩
 ·subst hij;exact absurd (ei.symm.trans ej) hab
 ·obtain ⟨u,h1,h2⟩:=key (a:=a) (b:=b) op oq e3 ⟨i,hi,ei,ej ▸ List.mem_take_iff_getElem.mpr ⟨j,by first|lia|omega,rfl⟩⟩
  exact ⟨u,h1,fin h2⟩
end Z
namespace Z
open PySem L2 PyProof.Rows
noncomputable def St3 (B:List (Str×Str)) (n:Nat) (H:Hp) (a:Addr) (t r:Str):Prop:=∃ns ms,Sd H a t r ns ms∧Gst B n t r ns ms∧ms≠[]
section
variable {B:List (Str×Str)} {n m:Nat} {H H':Hp} {a d:Addr} {t r t' r':Str} {kvs kvs':List (Key×V)}
theorem St3.std (h:St3 B n H a t r):Std B n H a r:=⟨t,h⟩
theorem Std.st3 (h:Std B n H a r):∃t,St3 B n H a t r:=h
theorem St3.one (h:St3 B n H a t r) (g:St3 B m H a t' r'):t=t'∧r=r':=by
 obtain ⟨_,_,⟨_,_,h1,_⟩,_⟩:=h
 obtain ⟨_,_,⟨_,_,g1,_⟩,_⟩:=g
 rw [h1] at g1
 injection g1 with g1
 injection g1 with g1
 injection g1 with e1 g1
 injection g1 with e2 g1
 injection e1 with e1
 injection e2 with e2
 exact ⟨e1,e2⟩
theorem St3.same (h:St3 B n H a t r) (s:Same H H'):St3 B n H' a t r:=by
 obtain ⟨ns,ms,h1,h2⟩:=h
 exact ⟨ns,ms,h1.same s,h2⟩
theorem St3.mono (h:St3 B n H a t r) (le:n≤m):St3 B m H a t r:=by
 obtain ⟨ns,ms,h1,h2,h3⟩:=h
 exact ⟨ns,ms,h1,h2.mono le,h3⟩
theorem St3.off (h:St3 B n H a t r) (s:Off d H H') (hd:H d=some (.dK kvs)):St3 B n H' a t r:=by
 obtain ⟨ns,ms,⟨p,q,h1,h2,h3⟩,h4⟩:=h
 refine ⟨ns,ms,⟨p,q,s _ _ (fun z => ?_) h1,s _ _ (fun z => ?_) h2,s _ _ (fun z => ?_) h3⟩,h4⟩
 ·rw [z,hd] at h1;cases h1
 ·rw [z,hd] at h2;cases h2
 ·rw [z,hd] at h3;cases h3
noncomputable def In (B:List (Str×Str)) (n:Nat) (H:Hp) (kvs:List (Key×V)) (t r:Str):Prop:=∃a,((.inr r:Key),V.ref a)∈kvs∧St3 B n H a t r
theorem In.step (h:In B n H kvs t r) (f:∀a t r,St3 B n H a t r→St3 B m H' a t r):In B m H' kvs t r:=by
 obtain ⟨a,h1,h2⟩:=h
 exact ⟨a,h1,f _ _ _ h2⟩
theorem pair_one {ps:List (Key×V)} (nd:(ps.map (·.1)).Nodup) {k:Key} {u v:V} (h:(k,u)∈ps) (g:(k,v)∈ps):u=v:=by
 have h1:=mem_valV nd h
 have h2:=mem_valV nd g
 rw [h1] at h2
 exact Option.some.inj h2
theorem In.one (nd:(kvs.map (·.1)).Nodup) (h:In B n H kvs t r) (g:In B m H kvs t' r):t=t':=by
 obtain ⟨a,h1,h2⟩:=h
 obtain ⟨a',g1,g2⟩:=g
 have:=pair_one nd h1 g1
 injection this with this
 subst this
 exact (h2.one g2).1
end
noncomputable def spLs3:Sp:=fun vs H Q _=>∃(d:Addr) (kvs:List (Key×V)) (B:List (Str×Str)) (n:Nat),vs=[.ref d]∧H d=some (.dK kvs)∧Wt B n H kvs∧kvs.length≤1000∧n≤1000∧kvs≠[] ∧
 ∀t r a H',(.inr r, .ref a)∈kvs→St3 B n H a t r→(∀t' r',In B n H kvs t' r'→¬lfLt t' t)→Same H H'→Q (.ref a) H'
section
variable {P:Program} {w:World} {K:PySem.W.Frag} {mg:Str→Option Value} {base:Heap} {f:Addr} {fd:FuncData}
theorem sc_least_stand:FnScope ["waiting"] ["waiting"] (defScope (top i_least_stand)):=⟨rfl,rfl,rfl,by decide +kernel,rfl,by decide +kernel,by decide +kernel⟩
theorem ok_ls3 (F:Fun K "least_stand" "least_stand" (top i_least_stand) f fd) (T:Nm mg) (f_stand_order:Fn P w K mg base 2 "stand_order" ["stand"] spSo):FnOk P w K mg base CX0 5 f fd ["waiting"] spLs3:=by
 obtain ⟨ky_stand_order,fdk,FK_stand_order,BK_stand_order,_,GK_stand_order⟩:=f_stand_order.ex
 refine F.ok sc_least_stand (fun vs H Q E h => ?_) (fun cdv A outer s H vs Q E hr h => ?_)
 ·obtain ⟨d,kvs,B,n,rfl,_⟩:=h
  rfl
 obtain ⟨d,kvs,B,n,rfl,hd,wt,hk,hn,hne,q⟩:=h
 have hu:=hu_of hr
 have hu6:=hr.units
 refine ⟨_,(pss_one (ps_ret (pe_callBK (minKT K (key_fn1 FK_stand_order (hr.mono (by decide)) BK_stand_order) rfl hu6) rfl T.n_min (by rfl) (pa_cons (pe_thaw (pe_lcomp rfl (comp_ok (Nc:=["rest"]) (Fc:=["waiting"]) (js:=[0])) (pi_dkeys (pv 0)) (gk_name (i:=0) (n:=1) (by decide)) (fun _ _ _ _ _=>(pg_name (i:=0) (show (["rest", "waiting"]:List Str).Nodup by decide +kernel) rfl (Or.inl rfl))) (fun _ _ _ _ _=>pts_nil) (fun _ _ _ _ _=>(pe_dget hu (pv 1) (pv 0) (fun _ _=>rfl))))) pa_nil) (pk_cons (pe_glob (v := .ref ky_stand_order) rfl GK_stand_order rfl) pk_nil)))),?_⟩
 refine ⟨d,⟨kvs,hd⟩,_,rfl,d,kvs,rfl,hd,fun ob => ?_⟩
 obtain ⟨L,rfl,hL⟩:=stands_of wt.st
 rw [List.length_map] at hk
 have at1:∀{i:Nat} (hi:i<L.length),(L.map fun x=>((.inr x.1:Key),V.ref x.2.1))[i]? = some (.inr L[i].1, .ref L[i].2.1):=fun hi=>by rw [List.getElem?_map,List.getElem?_eq_getElem hi];rfl
 refine comp_go (N:=L.length) (fun i ys H'=>H'=upd H d (.frz ob (.dK (L.map fun x=>(.inr x.1, .ref x.2.1))))∧ys=(L.take i).map fun x=>V.ref x.2.1) ⟨rfl,rfl⟩ ?_ ?_
 ·rintro i ys H1 Ny hi ⟨rfl,rfl⟩ ny
  refine ⟨⟨upd_same,by rw [List.length_map];exact hi⟩,by rw [List.length_map,List.length_take];exact Nat.lt_of_le_of_lt (show min i L.length≤1000 by first|lia|omega) (by decide),?_⟩
  rintro x H2 ⟨rfl,z,hz,rfl⟩
  rw [at1 hi] at hz
  cases hz
  refine gn ⟨_,rfl,_,rfl,d, .ref L[i].2.1,rfl, .inl ⟨_, .inr L[i].1, .inr ⟨_,upd_same⟩,rfl,?_⟩,ny _ _ ⟨rfl,?_⟩⟩
  ·exact (mem_valV wt.nd (List.mem_map.mpr ⟨L[i],List.getElem_mem hi,rfl⟩)).symm
  ·rw [take_next hi,List.map_append];rfl
 ·rintro ys H1 ⟨rfl,rfl⟩
  refine ⟨⟨upd_same,by rw [List.length_map];exact Nat.le_refl _⟩,fun p hp => ?_⟩
  rw [List.take_length]
  have dp:d≠p:=fun z=>by rw [z,upd_same] at hp;cases hp
  have e:upd (upd (upd H d (.frz ob (.dK (L.map fun x=>(.inr x.1, .ref x.2.1))))) p (.lst (L.map fun x=>V.ref x.2.1))) d (.dK (L.map fun x=>(.inr x.1, .ref x.2.1)))=upd H p (.lst (L.map fun x=>V.ref x.2.1)):=by
   funext b
   by_cases b1:b=d
   ·rw [b1,upd_same,upd_ne dp,hd]
   ·rw [upd_ne b1]
    by_cases b2:b=p
    ·rw [b2,upd_same,upd_same]
    ·rw [upd_ne b2,upd_ne b2,upd_ne b1]
  have hp0:H p=none:=by rw [upd_ne (Ne.symm dp)] at hp;exact hp
  refine ⟨ob,_,by rw [upd_ne dp];exact upd_same,?_⟩
  rw [e]
  have n1:New H p (.lst (L.map fun x=>V.ref x.2.1)) (upd H p (.lst (L.map fun x=>V.ref x.2.1))):=⟨hp0,rfl⟩
  generalize upd H p (.lst (L.map fun x=>V.ref x.2.1))=H1 at n1 ⊢
  have em:(L.map fun x=>V.ref x.2.1)=(L.map fun x=>x.2.1).map V.ref:=by rw [List.map_map];rfl
  refine ⟨p,L.map fun x=>x.2.1,fun i=>((L[i]?).map fun x=>x.2.2).getD "",rfl,rfl,em ▸ SqL.of n1.at,fun z=>hne ?_,fun i a hi Hj sj => ?_,fun i a H' hi fst s' => ?_⟩
  ·have:L=[]:=List.map_eq_nil_iff.mp z
   rw [this];rfl
  ·rw [List.getElem?_map] at hi
   cases hx:L[i]? with
   | none=>rw [hx] at hi;cases hi
   | some x=>
    rw [hx] at hi
    cases hi
    obtain ⟨ns,ms,h1,h2,h3⟩:=hL x (List.mem_of_getElem? hx)
    refine ⟨x.2.1,x.2.2,x.1,ns,ms,rfl,(h1.same n1.same).same sj,?_,fun z H' n=>⟨z,rfl,?_⟩⟩
    ·have:=h2.t
     (first|lia|omega)
    ·dsimp only;rw [hx];exact n
  ·rw [List.getElem?_map] at hi
   cases hx:L[i]? with
   | none=>rw [hx] at hi;cases hi
   | some x=>
    rw [hx] at hi
    cases hi
    obtain ⟨ns,ms,h1⟩:=hL x (List.mem_of_getElem? hx)
    refine q x.2.2 x.1 x.2.1 H' (List.mem_map.mpr ⟨x,List.mem_of_getElem? hx,rfl⟩) ⟨ns,ms,h1⟩ (fun t' r' hin => ?_) (n1.same.trans s')
    obtain ⟨a',g1,g2⟩:=hin
    obtain ⟨y,hy,ey⟩:=List.mem_map.mp g1
    injection ey with ey1 ey2
    injection ey1 with ey1
    injection ey2 with ey2
    obtain ⟨ns',ms',h1'⟩:=hL y hy
    have h1':St3 B n H y.2.1 y.2.2 y.1:=⟨ns',ms',h1'⟩
    rw [ey2] at h1'
    rw [(g2.one h1').1]
    obtain ⟨j,hj,ej⟩:=List.mem_iff_getElem.mp hy
    have:=fst.2.1 j (by rw [List.length_map];exact hj)
    dsimp only at this
    rw [hx,List.getElem?_eq_getElem hj,ej] at this
    exact this
end
end Z
namespace Z
open PySem L2 PyProof.Rows
theorem put_self {kvs:List (Key×V)} {k:Key} {v:V} : (k,v)∈putK kvs k v:=by
 unfold putK
 split
 ·rename_i h
  obtain ⟨z,hz,e⟩:=List.any_eq_true.mp h
  refine List.mem_map.mpr ⟨z,hz,?_⟩
  have e:z.1=k:=by simpa using e
  rw [if_pos e,e]
 ·exact List.mem_append_right _ (List.mem_singleton.mpr rfl)
theorem put_keep {kvs:List (Key×V)} {k k':Key} {v u:V} (h:(k',u)∈kvs) (ne:k'≠k):(k',u)∈putK kvs k v:=by
 unfold putK
 split
 ·exact List.mem_map.mpr ⟨_,h,if_neg ne⟩
 ·exact List.mem_append_left _ h
theorem put_only {kvs:List (Key×V)} {k k':Key} {v u:V} (h:(k',u)∈putK kvs k v):(k'=k∧u=v)∨(k'≠k∧(k',u)∈kvs):=by
 unfold putK at h
 split at h
 ·obtain ⟨z,hz,e⟩:=List.mem_map.mp h
  by_cases ek:z.1=k
  ·rw [if_pos ek] at e
   injection e with e1 e2
   exact .inl ⟨e1 ▸ ek,e2.symm⟩
  ·rw [if_neg ek] at e
   subst e
   exact .inr ⟨ek,hz⟩
 ·rename_i hn
  rcases List.mem_append.mp h with h|h
  ·refine .inr ⟨fun e=>hn (List.any_eq_true.mpr ⟨_,h,by simpa using e⟩),h⟩
  ·have:=List.mem_singleton.mp h
   injection this with e1 e2
   exact .inl ⟨e1,e2⟩
structure KlS (B:List (Str×Str)) (n:Nat) (H:Hp) (kvs:List (Key×V)) (as:List (Str×Addr)) (i:Nat) (H':Hp) (kvs':List (Key×V)):Prop where
 snd:∀t r,In B n H' kvs' t r→In B n H kvs t r∨∃x∈as,x.1=r∧St3 B n H x.2 t r
 cv1:∀t r,In B n H kvs t r→∃t',In B n H' kvs' t' r∧¬lfLt t t'
 cv2:∀x∈as.take i,∀t,St3 B n H x.2 t x.1→∃t',In B n H' kvs' t' x.1∧¬lfLt t t'
section
variable {B:List (Str×Str)} {n i:Nat} {H H' H4:Hp} {kvs kvs':List (Key×V)} {as:List (Str×Addr)} {t:Str}
theorem In.back (wt:Wt B n H' kvs') (f:∀a t r,St3 B n H' a t r→St3 B n H4 a t r) {t r:Str} (h:In B n H4 kvs' t r):In B n H' kvs' t r:=by
 obtain ⟨a,h1,h2⟩:=h
 obtain ⟨r',a',e,t',g⟩:=wt.st _ h1
 cases e
 have g:St3 B n H' a t' r:=g
 have:=((f _ _ _ g).one h2).1
 subst this
 exact ⟨a,h1,g⟩
theorem KlS.keep (k:KlS B n H kvs as i H' kvs') (wt:Wt B n H' kvs') (hi:i<as.length) (f:∀a t r,St3 B n H' a t r→St3 B n H4 a t r) (hs:St3 B n H as[i].2 t as[i].1) (hx:∃t',In B n H' kvs' t' as[i].1∧¬lfLt t t'):KlS B n H kvs as (i+1) H4 kvs':=by
 refine ⟨fun t r h=>k.snd t r (h.back wt f),fun t r h => ?_,fun x hx' t1 h1 => ?_⟩
 ·obtain ⟨t',h1,h2⟩:=k.cv1 t r h
  exact ⟨t',h1.step f,h2⟩
 ·rw [take_next hi] at hx'
  rcases List.mem_append.mp hx' with hx'|hx'
  ·obtain ⟨t',g1,g2⟩:=k.cv2 x hx' t1 h1
   exact ⟨t',g1.step f,g2⟩
  ·have e:=List.mem_singleton.mp hx'
   subst e
   rw [(h1.one hs).1]
   obtain ⟨t',g1,g2⟩:=hx
   exact ⟨t',g1.step f,g2⟩
theorem KlS.put (k:KlS B n H kvs as i H' kvs') (wt:Wt B n H' kvs') (hi:i<as.length) (f:∀a t r,St3 B n H' a t r→St3 B n H4 a t r) (hs:St3 B n H as[i].2 t as[i].1) (h4:St3 B n H4 as[i].2 t as[i].1) (lt:∀t',In B n H' kvs' t' as[i].1→¬lfLt t' t):KlS B n H kvs as (i+1) H4 (putK kvs' (.inr as[i].1) (.ref as[i].2)):=by
 have self:In B n H4 (putK kvs' (.inr as[i].1) (.ref as[i].2)) t as[i].1:=⟨_,put_self,h4⟩
 have cov:∀{t1 r1:Str},(∃t',In B n H' kvs' t' r1∧¬lfLt t1 t')→∃t',In B n H4 (putK kvs' (.inr as[i].1) (.ref as[i].2)) t' r1∧¬lfLt t1 t':=fun {t1 r1} ⟨t',h1,h2⟩=>by
  by_cases e:r1=as[i].1
  ·subst e
   exact ⟨t,self,lf_ge (lt _ h1) h2⟩
  ·obtain ⟨a,g1,g2⟩:=h1
   exact ⟨t',⟨a,put_keep g1 (fun z=>e (Sum.inr.inj z)),f _ _ _ g2⟩,h2⟩
 refine ⟨fun t1 r1 h => ?_,fun t1 r1 h=>cov (k.cv1 t1 r1 h),fun x hx' t1 h1 => ?_⟩
 ·obtain ⟨a,g1,g2⟩:=h
  rcases put_only g1 with ⟨e1,e2⟩|⟨_,g1⟩
  ·have e1:=Sum.inr.inj e1
   injection e2 with e2
   subst e1 e2
   rw [(g2.one h4).1]
   exact .inr ⟨_,List.getElem_mem hi,rfl,hs⟩
  ·exact k.snd t1 r1 (In.back wt f ⟨a,g1,g2⟩)
 ·rw [take_next hi] at hx'
  rcases List.mem_append.mp hx' with hx'|hx'
  ·exact cov (k.cv2 x hx' t1 h1)
  ·have e:=List.mem_singleton.mp hx'
   subst e
   rw [(h1.one hs).1]
   exact ⟨t,self,lf_refl _⟩
end
noncomputable def spKl3 (K:PySem.W.Frag):Sp:=fun vs H Q _=>∃(d l:Addr) (kvs:List (Key×V)) (as:List (Str×Addr)) (B:List (Str×Str)) (n:Nat),vs=[.ref d, .ref l]∧H d=some (.dK kvs)∧H l=some (.lst (as.map fun x=>V.ref x.2))∧Wt B n H kvs∧(sfxs B).length≤1000∧n≤1000∧as.length≤1000∧(∀x∈as,Std B n H x.2 x.1) ∧
 ∀kvs' H',Off d H H'→H' d=some (.dK kvs')→Wt B n H' kvs'→(∀k∈kvs'.map (·.1),k∈kvs.map (·.1)∨∃x∈as,k = .inr x.1)→KlS B n H kvs as as.length H' kvs'→Q .non H'
section
variable {P:Program} {w:World} {K:PySem.W.Frag} {mg:Str→Option Value} {base:Heap} {f:Addr} {fd:FuncData}
theorem sc_keep_least:FnScope ["waiting", "stands", "stand", "rest"] ["waiting", "stands"] (defScope (top i_keep_least)):=⟨rfl,rfl,rfl,by decide +kernel,rfl,by decide +kernel,by decide +kernel⟩
theorem ok_kl3 (F:Fun K "keep_least" "keep_least" (top i_keep_least) f fd) (T:Nm mg) (f_stand_order:Fn P w K mg base 2 "stand_order" ["stand"] spSo):FnOk P w K mg base CX0 3 f fd ["waiting", "stands"] (spKl3 K):=by
 refine F.ok sc_keep_least (fun vs H Q E h => ?_) (fun cdv A outer s H vs Q E hr h => ?_)
 ·obtain ⟨d,l,kvs,as,B,n,rfl,_⟩:=h
  rfl
 obtain ⟨d,l,kvs,as,B,n,rfl,hd,hl,wt,hB,hn,has,hst,q⟩:=h
 have hu:=hu_of hr
 have hu6:=hr.units
 refine ⟨_,(pss_one (ps_for PassesOwn.never rfl (piK K (pv 1)) (pg_name (i:=2) sc_keep_least.nd rfl (Or.inl rfl)) (pss_cons (ps_set (i:=3) sc_keep_least.nd rfl (Or.inl rfl) (pe_ix (ixK K) (pv 2) pe_int (fun _ _=>rfl)))
  (pss_one (ps_if (PW.pt (pw_or (pt_cmp (pc_dnotin hu (pv 3) (pv 0))) (pw_or1 (pt_cmpR (op_ltP (Nat.lt_of_le_of_lt (Nat.le_add_right _ 64) hu6)) (pe_fn (f_stand_order.mono (by first|decide|exact Nat.le_refl _|(first|lia|omega))) hr rfl (pa_cons (pv 2) pa_nil)) (pe_fn (f_stand_order.mono (by first|decide|exact Nat.le_refl _|(first|lia|omega))) hr rfl (pa_cons (pe_dget hu (pv 0) (pv 3) (fun _ _=>rfl)) pa_nil)) (nomark _))))) (pss_one (ps_dput hu (pv 0) (pv 3) (pv 2) rfl)) pss_nil))))),?_⟩
 have ld:l≠d:=fun z=>by rw [z,hd] at hl;cases hl
 have at1:∀{i:Nat} (hi:i<as.length),(as.map fun x=>V.ref x.2)[i]? = some (.ref as[i].2):=fun hi=>by rw [List.getElem?_map,List.getElem?_eq_getElem hi];rfl
 refine ⟨_,rfl,l,rfl,⟨_,SqL.of hl⟩,?_⟩
 refine for_go (N:=as.length) (fun i σ H'=>∃x2 x3 kvs', σ=[some (.ref d),some (.ref l),x2,x3]∧Off d H H'∧H' d=some (.dK kvs')∧Wt B n H' kvs'∧(∀k∈kvs'.map (·.1),k∈kvs.map (·.1)∨∃x∈as,k = .inr x.1)∧KlS B n H kvs as i H' kvs') ⟨_,_,kvs,rfl,fun _ _ _ h=>h,hd,wt,fun k hk => .inl hk,fun t r h => .inl h,fun t r h=>⟨t,h,lf_refl _⟩,fun x hx=>nomatch hx⟩ ?_ ?_
 ·rintro i σ H1 hi ⟨x2,x3,kvs',rfl,of1,hd1,wt1,hk1,ks1⟩
  have hl1:=of1 _ _ ld hl
  refine ⟨⟨_,_,SqL.of hl1,at1 hi⟩,?_⟩
  rintro x H2 ⟨rfl,hy⟩
  have e:=hy _ (SqL.of hl1)
  rw [at1 hi] at e;cases e
  have hm:=List.getElem_mem hi
  obtain ⟨t,sx⟩:=(hst _ hm).st3
  have sd3:St3 B n H2 as[i].2 t as[i].1:=sx.off of1 hd
  have ksP:=fun {H4:Hp} (f:∀a t r,St3 B n H2 a t r→St3 B n H4 a t r) (lt:∀t',In B n H2 kvs' t' as[i].1→¬lfLt t' t)=>ks1.put wt1 hi f sx (f _ _ _ sd3) lt
  have ksK:=fun {H4:Hp} (f:∀a t r,St3 B n H2 a t r→St3 B n H4 a t r) (h:∃t',In B n H2 kvs' t' as[i].1∧¬lfLt t t')=>ks1.keep wt1 hi f sx h
  have sd:=sd3.std
  generalize as[i]=x at hm sd sd3 ksP ksK
  obtain ⟨ns,ms,⟨p,p',h1,h2,h3⟩,g,hms⟩:=id sd3
  have ht:=g.t
  have hlen:=keys_le wt1.nd wt1.sfx
  rw [List.length_map] at hlen
  have put:∀{H3:Hp},Same H2 H3→(∀t',In B n H2 kvs' t' x.1→¬lfLt t' t)→∃H4,DPut H3 d (.str x.1) (.ref x.2) H4∧(∃(x2 x3:Option V) (kvs':List (Key×V)),([some (.ref d),some (.ref l),some (.ref x.2),some (.str x.1)]:L2.St)=[some (.ref d),some (.ref l),x2,x3]∧Off d H H4∧H4 d=some (.dK kvs')∧Wt B n H4 kvs'∧(∀k∈kvs'.map (·.1),k∈kvs.map (·.1)∨∃x∈as,k = .inr x.1)∧KlS B n H kvs as (i+1) H4 kvs'):=fun {H3} s3 lt=>by
   have hd3:=s3 _ _ hd1
   have of4:Off d H3 (upd H3 d (.dK (putK kvs' (.inr x.1) (.ref x.2)))):=fun b o nb h=>by rw [upd_ne nb];exact h
   refine ⟨_, .inl ⟨_, .inr x.1,hd3,rfl,Nat.lt_of_le_of_lt (Nat.le_trans hlen hB) (by decide),rfl⟩,_,_,_,rfl,(of1.trans fun b o _ h=>s3 b o h).trans of4,upd_same,?_,fun k hk => ?_,ksP (fun a t r h=>(h.same s3).off of4 hd3) lt⟩
   ·exact (wt1.put sd).step fun a r h=>(h.same s3).off of4 hd3
   ·obtain ⟨z,hz,rfl⟩:=List.mem_map.mp hk
    rcases mem_put hz with rfl|hz
    ·exact .inr ⟨x,hm,rfl⟩
    ·exact hk1 _ (List.mem_map_of_mem hz)
  refine gn ⟨_,rfl, .inr (.inl ⟨_,_,1, .str x.1,rfl,rfl,SqT.of h1,rfl,gn ?_⟩)⟩
  dsimp only
  cases hv:valV kvs' (.inr x.1) with
  | none=>
   refine ⟨_,rfl,_,rfl,d,none,rfl, .inl ⟨_, .inr x.1, .inl hd1,rfl,hv.symm⟩,_,rfl,iteT (iteT ⟨_,rfl,_,rfl,_,rfl,?_⟩)⟩
   obtain ⟨H4,h4,r4⟩:=put (fun _ _ h=>h) fun t' ⟨a,h1,_⟩=>absurd (List.mem_map_of_mem (f:=(·.1)) h1) (valV_not hv)
   exact ⟨d,H4,rfl,h4,r4⟩
  | some v=>
   obtain ⟨r',a',e',t',ns',ms',sd',g',hm'⟩:=wt1.st _ (valV_mem hv)
   cases e'
   have in':In B n H2 kvs' t' x.1:=⟨a',valV_mem hv,ns',ms',sd',g',hm'⟩
   have ht':=g'.t
   refine ⟨_,rfl,_,rfl,d,some (.ref a'),rfl, .inl ⟨_, .inr x.1, .inl hd1,rfl,hv.symm⟩,_,rfl,iteF ?_⟩
   refine ⟨_,rfl,x.2,t,x.1,ns,ms,rfl,⟨p,p',h1,h2,h3⟩,by first|lia|omega,fun z3 H3 n3 => ?_⟩
   refine ⟨_,rfl,_,rfl,d, .ref a',rfl, .inl ⟨_, .inr x.1, .inl (n3.same _ _ hd1),rfl,hv.symm⟩,a',t',x.1,ns',ms',rfl,sd'.same n3.same,by first|lia|omega,fun z4 H4 n4 => ?_⟩
   refine ⟨z3,z4,_,_,t,t',rfl,rfl,SqT.of (n4.same _ _ n3.at),SqT.of n4.at,_,rfl,?_⟩
   rw [prLt_lf]
   refine ite2 (fun c=>⟨_,rfl,_,rfl,_,rfl,?_⟩) fun c => ?_
   ·obtain ⟨H5,h5,r5⟩:=put (n3.same.trans n4.same) fun t1 h1=>by
     rw [h1.one wt1.nd in']
     have c:lfLt t t':=by simpa using c
     exact fun z=>lfLt_irrefl _ (lfLt_trans c z)
    exact ⟨d,H5,rfl,h5,r5⟩
   ·have s4:=n3.same.trans n4.same
    exact ⟨_,_,kvs',rfl,of1.trans fun b o _ h=>s4 b o h,s4 _ _ hd1,wt1.step fun a r h=>h.same s4,hk1,ksK (fun a t r h=>h.same s4) ⟨t',in',by simpa using c⟩⟩
 ·rintro σ H1 ⟨x2,x3,kvs',rfl,of1,hd1,wt1,hk1,ks1⟩
  exact ⟨⟨_,SqL.of (of1 _ _ ld hl),by rw [List.length_map];exact Nat.le_refl _⟩,q kvs' H1 of1 hd1 wt1 hk1 ks1⟩
end
end Z
namespace Z
open PySem L2 PyProof.Rows
theorem starts_iff (x y:Str):Txt.startswith x y=true ↔ sg y <+: sg x:=by
 have hl:y.length=(sg y).length:=str_len y
 have hx:x.length=(sg x).length:=str_len x
 have e:(x.cps.extract 0 (0+y.length) == y.cps)=true ↔ (sg x).take y.length=sg y:=by
  rw [beq_iff_eq, ←Array.toList_inj]
  simp [Array.toList_extract]
 show (decide (0+y.length≤x.length)&&(x.cps.extract 0 (0+y.length) == y.cps))=true ↔ _
 rw [Bool.and_eq_true,decide_eq_true_iff,e]
 constructor
 ·rintro ⟨_,h⟩
  rw [←h]
  exact List.take_prefix _ _
 ·intro h
  exact ⟨by have:=h.length_le; (first|lia|omega),by rw [hl];exact (List.prefix_iff_eq_take.mp h).symm⟩
theorem sg_drop {x y:Str} (c:sg x <+: sg y):sg y=sg x++sg (Txt.slice y (some ((x.length:Nat):Int)) none):=by
 rw [sl_fromN,show x.length=(sg x).length from str_len x]
 exact List.prefix_iff_eq_append.mp c |>.symm
theorem nx_no {z:Str×Str} {t r:Str} (c1:¬sg z.2 <+: sg r) (c2:¬sg r <+: sg z.2) (t' r':Str):¬Nx z t r t' r':=fun h=>by
 rcases h with ⟨h1,_⟩|⟨_,h1,_⟩
 ·exact c1 (h1 ▸ List.prefix_append _ _)
 ·exact c2 (h1 ▸ List.prefix_append _ _)
theorem Same.off {d:Addr} {H H':Hp} (h:Same H H'):Off d H H':=fun b o _ e=>h b o e
theorem chgOff {d:Addr} {H H':Hp} {o:HO} (h:Chg H d o H'):Off d H H':=fun b o n e=>by rw [h.ne n];exact e
noncomputable def spSb3 (K:PySem.W.Frag):Sp:=fun vs H Q _=>∃(l a:Addr) (bk B:List (Str×Str)) (n:Nat) (t r:Str) (ns ms:List Str),vs=[.ref l, .ref a]∧BkL K H bk l∧(∀q∈bk,q∈B)∧bk.length≤16∧(∀q∈B,CodeOk 12 q.2)∧Sd H a t r ns ms∧Gst B n t r ns ms∧n≤999∧(ms=[]→∃a∈B,a ∉ bk∧ns=[a.1]∧t=a.2∧r=a.2) ∧
 ∀(as:List (Str×Addr)) (p:Addr) (H':Hp),Same H H'→H p=none→H' p=some (.lst (as.map fun x=>V.ref x.2))→as.length≤bk.length→(∀x∈as,∃z∈bk,∃t',Nx z t r t' x.1∧St3 B (n+1) H' x.2 t' x.1)→(∀z∈bk,∀t' r',Nx z t r t' r'→∃x∈as,x.1=r'∧St3 B (n+1) H' x.2 t' r')→Q (.ref p) H'
noncomputable def Sdy (l:Addr) (B:List (Str×Str)) (n:Nat) (H:Hp) (a:Addr) (t r:Str):Prop:=∃ns ms p q,H a=some (.tup [.str t, .str r, .ref p, .ref q])∧H p=some (.lst (ns.map V.str))∧H q=some (.lst (ms.map V.str))∧p≠l∧q≠l∧Gst B n t r ns ms∧ms≠[]
theorem Sdy.st3 {l:Addr} {B:List (Str×Str)} {n:Nat} {H:Hp} {a:Addr} {t r:Str} (h:Sdy l B n H a t r):St3 B n H a t r:=by
 obtain ⟨ns,ms,p,q,h1,h2,h3,_,_,g,hm⟩:=h
 exact ⟨ns,ms,⟨p,q,h1,h2,h3⟩,g,hm⟩
theorem Sdy.off {l:Addr} {B:List (Str×Str)} {n:Nat} {H H':Hp} {a:Addr} {t r:Str} {xs:List V} (h:Sdy l B n H a t r) (hl:H l=some (.lst xs)) (s:Off l H H'):Sdy l B n H' a t r:=by
 obtain ⟨ns,ms,p,q,h1,h2,h3,hp,hq,g⟩:=h
 exact ⟨ns,ms,p,q,s _ _ (fun z=>by rw [z,hl] at h1;cases h1) h1,s _ _ hp h2,s _ _ hq h3,hp,hq,g⟩
noncomputable def SbJ (H:Hp) (l a:Addr) (t r:Str) (pA pB fp:Addr) (B:List (Str×Str)) (n:Nat) (L:List (Str×Str)) (σ:L2.St) (H':Hp):Prop:=
 ∃(x7 x8 x9:Option V) (as:List (Str×Addr)), σ=[some (.ref l),some (.ref a),some (.str t),some (.str r),some (.ref pA),some (.ref pB),some (.ref fp),x7,x8,x9]∧Same H H'∧H' fp=some (.lst (as.map fun x=>V.ref x.2))∧as.length≤L.length∧(∀x∈as,∃z∈L,∃t',Nx z t r t' x.1∧Sdy fp B (n+1) H' x.2 t' x.1)∧∀z∈L,∀t' r',Nx z t r t' r'→∃x∈as,x.1=r'∧Sdy fp B (n+1) H' x.2 t' r'
theorem SbJ.more {H H2 H3 H4 H5 H6:Hp} {l a:Addr} {t r t' r' nm:Str} {pA pB fp p1 p2 a' u v:Addr} {B L:List (Str×Str)} {z:Str×Str} {n:Nat} {as:List (Str×Addr)} {ms ns' ms':List Str} {x7 x8 x9:Option V} (sm:Same H H2) (h0:H fp=none) (hf:H2 fp=some (.lst (as.map fun x=>V.ref x.2))) (hal:as.length≤L.length) (hst:∀x∈as,∃z∈L,∃t',Nx z t r t' x.1∧Sdy fp B (n+1) H2 x.2 t' x.1)
  (hcv:∀z∈L,∀t' r',Nx z t r t' r'→∃x∈as,x.1=r'∧Sdy fp B (n+1) H2 x.2 t' r') (nx:Nx z t r t' r')
  (n3:New H2 p1 (.lst [.str nm]) H3) (n4:New H3 p2 (.lst (ms.map V.str++[.str nm])) H4) (n5:New H4 a' (.tup [.str t', .str r', .ref u, .ref v]) H5) (c6:Chg H5 fp (.lst (as.map (fun x=>V.ref x.2)++[.ref a'])) H6)
  (hu:H5 u=some (.lst (ns'.map V.str))) (hv:H5 v=some (.lst (ms'.map V.str))) (uf:u≠fp) (vf:v≠fp) (g:Gst B (n+1) t' r' ns' ms') (hm:ms'≠[]) :
  SbJ H l a t r pA pB fp B n (L++[z]) [some (.ref l),some (.ref a),some (.str t),some (.str r),some (.ref pA),some (.ref pB),some (.ref fp),x7,x8,x9] H6:=by
 have s5:Same H2 H5:=n3.same.trans (n4.same.trans n5.same)
 have hf5:=s5 _ _ hf
 have of:Off fp H2 H6:=(Same.off s5).trans (chgOff c6)
 have af:a'≠fp:=fun z=>by
  have:=n5.nn
  rw [z,n4.same _ _ (n3.same _ _ hf)] at this;cases this
 have new:Sdy fp B (n+1) H6 a' t' r':=⟨ns',ms',u,v,by rw [c6.ne af];exact n5.at,by rw [c6.ne uf];exact hu,by rw [c6.ne vf];exact hv,uf,vf,g,hm⟩
 refine ⟨x7,x8,x9,as++[(r',a')],rfl,fun b o e=>of b o (ne_of_none e h0) (sm b o e),?_,?_,fun x hx => ?_,fun y hy t1 r1 hn => ?_⟩
 ·rw [c6.at,List.map_append];rfl
 ·rw [List.length_append,List.length_append];exact Nat.succ_le_succ hal
 ·rcases List.mem_append.mp hx with hx|hx
  ·obtain ⟨y,hy,t1,h1,h2⟩:=hst x hx
   exact ⟨y,List.mem_append_left _ hy,t1,h1,h2.off hf of⟩
  ·rw [List.mem_singleton.mp hx]
   exact ⟨z,List.mem_append_right _ (List.mem_singleton.mpr rfl),t',nx,new⟩
 ·rcases List.mem_append.mp hy with hy|hy
  ·obtain ⟨x,hx,e,h2⟩:=hcv y hy t1 r1 hn
   exact ⟨x,List.mem_append_left _ hx,e,h2.off hf of⟩
  ·rw [List.mem_singleton.mp hy] at hn
   obtain ⟨e1,e2⟩:=nx.one hn
   subst e1 e2
   exact ⟨(r',a'),List.mem_append_right _ (List.mem_singleton.mpr rfl),rfl,new⟩
section
variable {P:Program} {w:World} {K:PySem.W.Frag} {mg:Str→Option Value} {base:Heap} {f:Addr} {fd:FuncData}
theorem sc_stands_behind:FnScope ["book", "stand", "text", "rest", "ahead", "behind", "stands", "name", "code", "over"] ["book", "stand"] (defScope (top i_stands_behind)):=⟨rfl,rfl,rfl,by decide +kernel,rfl,by decide +kernel,by decide +kernel⟩
theorem ok_sb3 (F:Fun K "stands_behind" "stands_behind" (top i_stands_behind) f fd) (T:Nm mg):FnOk P w K mg base CX0 1 f fd ["book", "stand"] (spSb3 K):=by
 refine F.ok sc_stands_behind (fun vs H Q E h => ?_) (fun cdv A outer s H vs Q E hr h => ?_)
 ·obtain ⟨l,a,bk,B,n,t,r,ns,ms,rfl,_⟩:=h
  rfl
 obtain ⟨l,a,bk,B,n,t,r,ns,ms,rfl,hB,sub,hbl,cd,⟨pA,pB,h1,h2,h3⟩,g,hn,h0,q⟩:=h
 refine ⟨_,(pss_cons (ps_asg (pv 1) (tupK K 4 rfl (pgs_cons (pg_name (i:=2) sc_stands_behind.nd rfl (Or.inl rfl)) (pgs_cons (pg_name (i:=3) sc_stands_behind.nd rfl (Or.inl rfl)) (pgs_cons (pg_name (i:=4) sc_stands_behind.nd rfl (Or.inl rfl)) (pgs_cons (pg_name (i:=5) sc_stands_behind.nd rfl (Or.inl rfl)) pgs_nil))))))
  (pss_cons (ps_set (i:=6) sc_stands_behind.nd rfl (Or.inl rfl) (lstN pa_nil))
  (pss_cons (ps_for PassesOwn.never rfl (piK K (pv 0)) (tupK K 2 rfl (pgs_cons (pg_name (i:=7) sc_stands_behind.nd rfl (Or.inl rfl)) (pgs_cons (pg_name (i:=8) sc_stands_behind.nd rfl (Or.inl rfl)) pgs_nil))) (pss_one (ps_if (pt_val (bmK K PySem.F.plainAttrs_str PySem.F.slot_str_startswith PySem.F.type_str_startswith mt_startswith (pv 3) (pa_cons (pv 8) pa_nil))) (pss_one (ps_expr (bmK K PySem.F.plainAttrs_list PySem.F.slot_list_append PySem.F.type_list_append appendN (pv 6) (pa_cons (tupN (pa_cons (pv 2) (pa_cons (pe_slice (slN K) (pv 3) (po_some (pe_callB (lenK K) rfl T.n_len (by rfl) (pa_cons (pv 8) pa_nil))) po_none) (pa_cons (pv 4) (pa_cons (pe_op addN (pv 5) (lstN (pa_cons (pv 7) pa_nil))) pa_nil))))) pa_nil)))) (pss_one (ps_if (pt_val (bmK K PySem.F.plainAttrs_str PySem.F.slot_str_startswith PySem.F.type_str_startswith mt_startswith (pv 8) (pa_cons (pv 3) pa_nil))) (pss_cons (ps_set (i:=9) sc_stands_behind.nd rfl (Or.inl rfl) (pe_slice (slN K) (pv 8) (po_some (pe_callB (lenK K) rfl T.n_len (by rfl) (pa_cons (pv 3) pa_nil))) po_none))
  (pss_one (ps_expr (bmK K PySem.F.plainAttrs_list PySem.F.slot_list_append PySem.F.type_list_append appendN (pv 6) (pa_cons (tupN (pa_cons (pe_op addN (pv 2) (pv 9)) (pa_cons (pv 9) (pa_cons (pe_op addN (pv 5) (lstN (pa_cons (pv 7) pa_nil))) (pa_cons (pv 4) pa_nil))))) pa_nil))))) pss_nil)))))
  (pss_one (ps_ret (pv 6)))))),?_⟩
 refine ⟨_,rfl,a,_,rfl,SqT.of h1,rfl,_,_,rfl,_,_,rfl,_,_,rfl,_,_,rfl,rfl,?_⟩
 refine ⟨by show 0≤sizeLine;decide,fun fp H1 n1=>gn ?_⟩
 dsimp only
 obtain ⟨vs,hl,hd⟩:=id (hB.same n1.same)
 have hlen:=bk_len hd
 have hr12:=g.r.len cd
 have ht:=g.t
 have hms:=g.ml
 have hf0:H fp=none:=n1.nn
 have pAf:pA≠fp:=ne_of_none h2 n1.nn
 have pBf:pB≠fp:=ne_of_none h3 n1.nn
 refine seqCut (t:=tFor _ _ _) (SbJ H l a t r pA pB fp B n bk) (fun Nn nx => ?_) ?_
 ·refine ⟨_,rfl,l,rfl,⟨_,hl⟩,?_⟩
  refine for_go (N:=bk.length) (fun i=>SbJ H l a t r pA pB fp B n (bk.take i)) ⟨_,_,_,[],rfl,n1.same,n1.at,Nat.zero_le _,(fun _ h=>nomatch h),fun _ h=>nomatch h⟩ ?_ ?_
  ·rintro i σ H2 hi ⟨x7,x8,x9,as,rfl,sm,hf2,hal,hst,hcv⟩
   have hal':as.length≤16:=by rw [List.length_take] at hal; (first|lia|omega)
   have htk:=take_next hi
   obtain ⟨vs2,hl2,hd2⟩:=id (hB.same sm)
   obtain ⟨tp,e1,e2⟩:=bk_at hd2 hi
   refine ⟨⟨_,_,hl2,e1⟩,?_⟩
   rintro x H3 ⟨rfl,hy⟩
   have e:=hy _ hl2
   rw [e1] at e;cases e
   have hq:=sub _ (List.getElem_mem hi)
   have hqb:=List.getElem_mem hi
   generalize bk[i]=z at e2 hq htk hqb
   have rdA:∀{r':Str},sg r=sg z.2++sg r'→Rdg B t r' ns (ms++[z.1]):=fun {r'} e=>by
    cases hm:ms with
    | nil=>
     obtain ⟨a,ha,hab,rfl,rfl,rfl⟩:=h0 hm
     exact Rdg.two ha hq (fun y=>hab (y ▸ hqb)) e
    | cons m ms'=>exact hm ▸ (g.rd (by rw [hm];exact List.cons_ne_nil _ _)).behind hq e
   have rdB:∀{r':Str},sg z.2=sg r++sg r'→Rdg B (t++r') r' (ms++[z.1]) ns:=fun {r'} e=>by
    cases hm:ms with
    | nil=>
     obtain ⟨a,ha,hab,rfl,rfl,rfl⟩:=h0 hm
     exact Rdg.swap ha hq (fun y=>hab (y ▸ hqb)) e
    | cons m ms'=>exact hm ▸ (g.rd (by rw [hm];exact List.cons_ne_nil _ _)).over hq e
   have hz:=(cd z hq).le
   have hnm:z.1∈B.map (·.1):=List.mem_map_of_mem hq
   refine ⟨tp,_,rfl,e2,rfl,_,_,rfl,_,_,rfl,rfl,?_⟩
   refine ⟨_,rfl,rfl,_,rfl,_,_,rfl,rfl,_,rfl,ite2 (fun c1 => ?_) (fun c1 => ?_)⟩
   ·have c1:=(starts_iff _ _).mp (by simpa using c1)
    refine ⟨_,rfl, .inl ⟨rfl,_,SqL.of hf2⟩,_,rfl,_,rfl,_,rfl,_,_,rfl,⟨sizeOk (by first|lia|omega),rfl⟩,_,rfl, .inr ⟨r,rfl,sizeOk (by first|lia|omega),_,rfl,_,rfl,_,rfl,by show 1≤sizeLine;decide,fun p1 H3 n3 => ?_⟩⟩
    refine .inr (.inr ⟨pB,p1,_,_,rfl,rfl,n3.same _ _ (sm _ _ h3),n3.at,by rw [List.length_map];exact sizeOk (by show _+1≤_; (first|lia|omega)),fun p2 H4 n4=>⟨by show 4≤sizeLine;decide,fun a' H5 n5 => ?_⟩⟩)
    have hf5:=n5.same _ _ (n4.same _ _ (n3.same _ _ hf2))
    refine ⟨fp,_,_,rfl,rfl,hf5,by rw [List.length_map];exact Nat.lt_of_le_of_lt (show as.length≤1000 by first|lia|omega) (by decide),fun H6 c6 => ?_⟩
    refine htk ▸ SbJ.more (ns':=ns) (ms':=ms++[z.1]) sm hf0 hf2 hal hst hcv (.inl ⟨sg_drop c1,rfl⟩) n3 n4 n5 c6 (n5.same _ _ (n4.same _ _ (n3.same _ _ (sm _ _ h2)))) ?_ pAf (fun y => ?_) ⟨by first|lia|omega,g.r.cut _,g.a,g.ni,fun x hx => ?_,Nat.le_succ_of_le g.nl,?_,fun _=>rdA (sg_drop c1)⟩ (by simp)
    ·rw [n5.same _ _ n4.at,List.map_append];rfl
    ·have:=n4.nn
     rw [y,n3.same _ _ hf2] at this;cases this
    ·rcases List.mem_append.mp hx with hx|hx
     ·exact g.mi x hx
     ·rw [List.mem_singleton.mp hx];exact hnm
    ·rw [List.length_append];exact Nat.succ_le_succ g.ml
   ·have c1:¬sg z.2 <+: sg r:=fun z=>c1 (by simpa using (starts_iff _ _).mpr z)
    refine ⟨_,rfl,rfl,_,rfl,_,_,rfl,rfl,_,rfl,ite2 (fun c2 => ?_) (fun c2 => ?_)⟩
    rotate_left
    ·have c2:¬sg r <+: sg z.2:=fun z=>c2 (by simpa using (starts_iff _ _).mpr z)
     refine ⟨_,_,_,as,rfl,sm,hf2,by rw [htk,List.length_append]; (first|lia|omega),fun x hx => ?_,fun y hy t1 r1 hn => ?_⟩
     ·obtain ⟨y,hy,h⟩:=hst x hx
      exact ⟨y,htk ▸ List.mem_append_left _ hy,h⟩
     ·rw [htk] at hy
      rcases List.mem_append.mp hy with hy|hy
      ·exact hcv y hy t1 r1 hn
      ·rw [List.mem_singleton.mp hy] at hn
       exact absurd hn (nx_no c1 c2 _ _)
    have c2:=(starts_iff _ _).mp (by simpa using c2)
    have ec:=sg_drop c2
    refine ⟨_,rfl,_,rfl,_,_,rfl,⟨sizeOk (by first|lia|omega),rfl⟩,_,rfl, .inr ⟨z.2,rfl,sizeOk (by first|lia|omega),gn ?_⟩⟩
    have hov:(Txt.slice z.2 (some ((r.length:Nat):Int)) none).length≤12:=by
     rw [str_len]
     show (sg _).length≤12
     rw [sl_fromN,List.length_drop]
     have:z.2.length=(sg z.2).length:=str_len z.2
     (first|lia|omega)
    have hsx:Sfx B (Txt.slice z.2 (some ((r.length:Nat):Int)) none):=⟨z,hq,by rw [sl_fromN];exact List.drop_suffix _ _⟩
    generalize Txt.slice z.2 (some ((r.length:Nat):Int)) none=ov at hov hsx ec
    refine ⟨_,rfl, .inl ⟨rfl,_,SqL.of hf2⟩,_,rfl,_,rfl, .inr (.inl ⟨_,_,rfl,rfl,sizeOk (by first|lia|omega),_,rfl,_,rfl,_,rfl,by show 1≤sizeLine;decide,fun p1 H3 n3 => ?_⟩)⟩
    refine .inr (.inr ⟨pB,p1,_,_,rfl,rfl,n3.same _ _ (sm _ _ h3),n3.at,by rw [List.length_map];exact sizeOk (by show _+1≤_; (first|lia|omega)),fun p2 H4 n4=>⟨_,rfl,by show 4≤sizeLine;decide,fun a' H5 n5 => ?_⟩⟩)
    have hf5:=n5.same _ _ (n4.same _ _ (n3.same _ _ hf2))
    refine ⟨fp,_,_,rfl,rfl,hf5,by rw [List.length_map];exact Nat.lt_of_le_of_lt (show as.length≤1000 by first|lia|omega) (by decide),fun H6 c6 => ?_⟩
    refine htk ▸ SbJ.more (ns':=ms++[z.1]) (ms':=ns) sm hf0 hf2 hal hst hcv (.inr ⟨c1,ec,rfl⟩) n3 n4 n5 c6 ?_ (n5.same _ _ (n4.same _ _ (n3.same _ _ (sm _ _ h2)))) (fun y => ?_) pAf ⟨by rw [len_append]; (first|lia|omega),hsx,by simp,fun x hx => ?_,g.ni,?_,Nat.le_succ_of_le g.nl,fun _=>rdB ec⟩ g.a
    ·rw [n5.same _ _ n4.at,List.map_append];rfl
    ·have:=n4.nn
     rw [y,n3.same _ _ hf2] at this;cases this
    ·rcases List.mem_append.mp hx with hx|hx
     ·exact g.mi x hx
     ·rw [List.mem_singleton.mp hx];exact hnm
    ·rw [List.length_append];exact Nat.succ_le_succ g.ml
  ·rintro σ H2 ⟨x7,x8,x9,as,rfl,sm,hf2,hal,hst,hcv⟩
   obtain ⟨vs2,hl2,hd2⟩:=id (hB.same sm)
   exact ⟨⟨_,hl2,by rw [bk_len hd2];exact Nat.le_refl _⟩,nx _ _ (by rw [List.take_length] at hal hst hcv;exact ⟨_,_,_,as,rfl,sm,hf2,hal,hst,hcv⟩)⟩
 rintro σ H2 ⟨x7,x8,x9,as,rfl,sm,hf2,hal,hst,hcv⟩
 exact ⟨_,rfl,q as fp H2 sm hf0 hf2 hal (fun x hx=>by obtain ⟨z,hz,t',h1,h2⟩:=hst x hx;exact ⟨z,hz,t',h1,h2.st3⟩) fun z hz t' r' hn=>by obtain ⟨x,hx,e,h2⟩:=hcv z hz t' r' hn;exact ⟨x,hx,e,h2.st3⟩⟩
end
end Z
namespace Z
open PySem L2 PyProof.Rows
theorem index_of {xs:List Str} {y:Str} (h:y∈xs):∃j:Nat,xs[j]? = some y∧∀m,m<j→xs[m]? ≠ some y:=by
 induction xs with
 | nil=>cases h
 | cons x xs ih=>
  by_cases e:x=y
  ·exact ⟨0,by rw [e];rfl,fun m hm=>absurd hm (Nat.not_lt_zero _)⟩
  ·obtain ⟨j,h1,h2⟩:=ih ((List.mem_cons.mp h).resolve_left (Ne.symm e))
   refine ⟨j+1,h1,fun m hm => ?_⟩
   cases m with
   | zero=>exact fun z=>e (Option.some.inj z)
   | succ m=>exact h2 m (by first|lia|omega)
theorem cut_take (vs:List V) (j:Nat) (h:j≤vs.length):cutV vs none (some (j:Int))=vs.take j:=by
 unfold cutV
 have e:HT.sIx vs.length vs.length (some (j:Int))=j:=by
  unfold HT.sIx
  dsimp only
  rw [if_neg (show ¬((j:Int)<0) by first|lia|omega)]
  (first|lia|omega)
 rw [e]
 rfl
theorem dens_take {K:PySem.W.Frag} {H:Hp} : ∀{ds:List PyData} {vs:List V} (i:Nat),Dens K H ds vs→Dens K H (ds.take i) (vs.take i)
 | _,_,0,_=>by rw [List.take_zero,List.take_zero];unfold Dens;rfl
 | [],vs,i+1,h=>by unfold Dens at h;rw [h];unfold Dens;rfl
 | d :: ds,vs,i+1,h=>by
  unfold Dens at h
  obtain ⟨v,r,rfl,h1,h2⟩:=h
  rw [List.take_succ_cons,List.take_succ_cons]
  unfold Dens
  exact ⟨v,r.take i,rfl,h1,dens_take i h2⟩
noncomputable def Rd2 (B:List (Str×Str)) (t:Str) (ns ms:List Str):Prop:=∃(i j:Nat) (a b:Str×Str) (ps qs:List (Str×Str)),i<j∧B[i]? = some a∧B[j]? = some b∧Of B (a :: ps)∧Of B (b :: qs)∧ns=(a :: ps).map (·.1)∧ms=(b :: qs).map (·.1)∧tx (a :: ps)=sg t∧tx (b :: qs)=sg t
theorem GoodN.nodup {B:List (Str×Str)} (g:GoodN B):B.Nodup:=(List.nodup_iff_pairwise_ne.mpr ((List.pairwise_map.mp (List.nodup_iff_pairwise_ne.mp g.nm)).imp fun h e=>h (by rw [e])))
noncomputable def spFs3 (K:PySem.W.Frag):Sp:=fun vs H Q _=>∃(l:Addr) (B:List (Str×Str)),vs=[.ref l]∧BkL K H B l∧GoodN B ∧
 ∀(as:List (Str×Addr)) (p:Addr) (H':Hp),Same H H'→H p=none→H' p=some (.lst (as.map fun x=>V.ref x.2))→as.length≤256→(∀x∈as,∃t',Sta B t' x.1∧St3 B 2 H' x.2 t' x.1)→(∀t' r',Sta B t' r'→∃x∈as,x.1=r'∧St3 B 2 H' x.2 t' r')→Q (.ref p) H'
noncomputable def spIo3 (K:PySem.W.Frag):Sp:=fun vs H Q _=>∃(l a:Addr) (B:List (Str×Str)) (n:Nat) (t:Str),vs=[.ref l, .ref a]∧BkL K H B l∧GoodN B∧n≤1000∧St3 B n H a t "" ∧
 ∀(z p q:Addr) (ns ms:List Str) (H':Hp),Same H H'→H' z=some (.tup [.str t, .ref p, .ref q])→H' p=some (.lst (ns.map V.str))→H' q=some (.lst (ms.map V.str))→Rd2 B t ns ms→ns.length≤n→ms.length≤n→Q (.ref z) H'
theorem St3.offL {B:List (Str×Str)} {n:Nat} {H H':Hp} {a d:Addr} {t r:Str} {as:List (Str×Addr)} (h:St3 B n H a t r) (s:Off d H H') (hd:H d=some (.lst (as.map fun x=>V.ref x.2))):St3 B n H' a t r:=by
 obtain ⟨ns,ms,⟨p,q,h1,h2,h3⟩,g,hm⟩:=h
 have ne:∀{zs:List Str} {u:Addr},zs≠[]→H u=some (.lst (zs.map V.str))→u≠d:=fun {zs u} hz hu z=>by
  rw [z,hd] at hu
  cases zs with
  | nil=>exact hz rfl
  | cons y ys=>cases as <;> simp at hu
 exact ⟨ns,ms,⟨p,q,s _ _ (fun z=>by rw [z,hd] at h1;cases h1) h1,s _ _ (ne g.a h2) h2,s _ _ (ne hm h3) h3⟩,g,hm⟩
noncomputable def StaI (B:List (Str×Str)) (k:Nat) (t r:Str):Prop:=∃(i:Nat) (hi:i<B.length),i<k∧∃z∈B.take i,Nx z B[i].2 B[i].2 t r
noncomputable def FsJ (H:Hp) (l fp:Addr) (B:List (Str×Str)) (i:Nat) (σ:L2.St) (H':Hp):Prop:=
 ∃(x2 x3 x4:Option V) (as:List (Str×Addr)), σ=[some (.ref l),some (.ref fp),x2,x3,x4]∧Same H H'∧H' fp=some (.lst (as.map fun x=>V.ref x.2))∧as.length≤16*i∧(∀x∈as,∃t',Sta B t' x.1∧St3 B 2 H' x.2 t' x.1)∧∀t' r',StaI B i t' r'→∃x∈as,x.1=r'∧St3 B 2 H' x.2 t' r'
section
variable {P:Program} {w:World} {K:PySem.W.Frag} {mg:Str→Option Value} {base:Heap} {f:Addr} {fd:FuncData}
theorem sc_in_order:FnScope ["book", "stand", "text", "rest", "one", "other", "names"] ["book", "stand"] (defScope (top i_in_order)):=⟨rfl,rfl,rfl,by decide +kernel,rfl,by decide +kernel,by decide +kernel⟩
theorem ok_io3 (F:Fun K "in_order" "in_order" (top i_in_order) f fd) (T:Nm mg):FnOk P w K mg base CX0 1 f fd ["book", "stand"] (spIo3 K):=by
 refine F.ok sc_in_order (fun vs H Q E h => ?_) (fun cdv A outer s H vs Q E hr h => ?_)
 ·obtain ⟨l,a,B,n,t,rfl,_⟩:=h
  rfl
 obtain ⟨l,a,B,n,t,rfl,hB,gB,hn,⟨ns,ms,⟨pA,pB,h1,h2,h3⟩,g,hms⟩,q⟩:=h
 refine ⟨_,(pss_cons (ps_asg (pv 1) (tupK K 4 rfl (pgs_cons (pg_name (i:=2) sc_in_order.nd rfl (Or.inl rfl)) (pgs_cons (pg_name (i:=3) sc_in_order.nd rfl (Or.inl rfl)) (pgs_cons (pg_name (i:=4) sc_in_order.nd rfl (Or.inl rfl)) (pgs_cons (pg_name (i:=5) sc_in_order.nd rfl (Or.inl rfl)) pgs_nil))))))
  (pss_cons (ps_setcomp (i:=6) sc_in_order.nd rfl (Or.inl rfl) rfl (comp_ok (Nc:=["name", "code"]) (Fc:=[]) (js:=[])) (piK K (pv 0)) (gk_tup (gks_cons (gk_name (i:=0) (n:=2) (by decide)) (gks_cons (gk_name (i:=1) (n:=2) (by decide)) gks_nil gm_name gms_nil) gm_name (gms_cons gm_name gms_nil))) (fun _ _ _ _ _=>(tupK K 2 rfl (pgs_cons (pg_name (i:=0) (show (["name", "code"]:List Str).Nodup by decide +kernel) rfl (Or.inl rfl)) (pgs_cons (pg_name (i:=1) (show (["name", "code"]:List Str).Nodup by decide +kernel) rfl (Or.inl rfl)) pgs_nil)))) (fun _ _ _ _ _=>pts_nil) (fun _ _ _ _ _=>(pv 0)))
  (pss_cons (ps_if (pt_cmpR op_lt (bmK K PySem.F.plainAttrs_list PySem.F.slot_list_index PySem.F.type_list_index indexS (pv 6) (pa_cons (pe_ix (ixK K) (pv 5) pe_int (fun _ _=>rfl)) pa_nil)) (bmK K PySem.F.plainAttrs_list PySem.F.slot_list_index PySem.F.type_list_index indexS (pv 6) (pa_cons (pe_ix (ixK K) (pv 4) pe_int (fun _ _=>rfl)) pa_nil)) (nomark _)) (pss_one (ps_ret (tupN (pa_cons (pv 2) (pa_cons (pv 5) (pa_cons (pv 4) pa_nil)))))) pss_nil)
  (pss_one (ps_ret (tupN (pa_cons (pv 2) (pa_cons (pv 4) (pa_cons (pv 5) pa_nil))))))))),?_⟩
 refine ⟨_,rfl,a,_,rfl,SqT.of h1,rfl,_,_,rfl,_,_,rfl,_,_,rfl,_,_,rfl,rfl,?_⟩
 obtain ⟨vs,hl,hd⟩:=id hB
 have hlen:=bk_len hd
 have hle:=gB.le
 obtain ⟨y,ns',rfl⟩:∃y ns',ns=y :: ns':=by cases ns with|nil=>exact absurd rfl g.a|cons y r=>exact ⟨y,r,rfl⟩
 obtain ⟨y2,ms',rfl⟩:∃y ms',ms=y :: ms':=by cases ms with|nil=>exact absurd rfl hms|cons y r=>exact ⟨y,r,rfl⟩
 dsimp only
 refine asgCut (te:=tComp _ _ _ _ _ _) (fun v H'=>∃p,v = .ref p∧New H p (.lst ((B.map (·.1)).map V.str)) H') (fun Qn qn => ?_) ?_
 ·refine ⟨_,rfl,l,rfl,⟨_,hl⟩,?_⟩
  refine comp_goN (N:=B.length) (fun i ys H'=>H'=H∧ys=((B.take i).map (·.1)).map V.str) ⟨rfl,rfl⟩ ?_ ?_
  ·rintro i ys H1 Ny hi ⟨rfl,rfl⟩ ny
   obtain ⟨tp,e1,e2⟩:=bk_at hd hi
   refine ⟨⟨_,_,hl,e1⟩,by rw [List.length_map,List.length_map,List.length_take];exact Nat.lt_of_le_of_lt (show min i B.length≤1000 by first|lia|omega) (by decide),?_⟩
   rintro x H2 ⟨rfl,hy⟩
   have e:=hy _ hl
   rw [e1] at e;cases e
   refine ⟨tp,_,rfl,e2,rfl,_,_,rfl,_,_,rfl,rfl,?_⟩
   refine ⟨_,rfl,ny _ _ ⟨rfl,?_⟩⟩
   rw [take_next hi,List.map_append,List.map_append];rfl
  ·rintro ys H1 ⟨rfl,rfl⟩
   refine ⟨⟨_,hl,by first|lia|omega⟩,fun p H' n=>qn _ _ ⟨p,rfl,?_⟩⟩
   rwa [List.take_length] at n
 rintro v H1 ⟨pn,rfl,n1⟩
 refine gn ?_
 have k2:=n1.same _ _ h2
 have k3:=n1.same _ _ h3
 obtain ⟨j,hj,hj'⟩:=index_of (g.ni y List.mem_cons_self)
 obtain ⟨j2,hj2,hj2'⟩:=index_of (g.mi y2 List.mem_cons_self)
 refine ⟨_,rfl, .inl ⟨rfl,_,SqL.of n1.at⟩,_,rfl, .inl ⟨pB,_,0, .str y2,rfl,rfl,SqL.of k3,at_nat (by decide) rfl,pn,_,y2,j2,rfl,rfl,n1.at,hj2,hj2',?_⟩⟩
 refine ⟨_,rfl, .inl ⟨rfl,_,SqL.of n1.at⟩,_,rfl, .inl ⟨pA,_,0, .str y,rfl,rfl,SqL.of k2,at_nat (by decide) rfl,pn,_,y,j,rfl,rfl,n1.at,hj,hj',?_⟩⟩
 obtain ⟨a1,b1,ps,qs,oa,ob,hab,en,em,e1,e2⟩:=g.rd hms
 have e0:sg "" = []:=by decide +kernel
 rw [e0,List.append_nil] at e2
 have ixB:∀{x:Str×Str} {y:Str} {k:Nat},x∈B→x.1=y→(B.map (·.1))[k]? = some y→B[k]? = some x:=fun {x y k} hx e hk=>by
  rw [List.getElem?_map] at hk
  cases hb:B[k]? with
  | none=>rw [hb] at hk;cases hk
  | some x'=>
   rw [hb] at hk
   have hk:x'.1=y:=Option.some.inj hk
   rw [one_of gB.nm (List.mem_of_getElem? hb) hx (hk.trans e.symm)]
 have ea:a1.1=y:=by rw [List.map_cons] at en;injection en with h _;exact h.symm
 have eb:b1.1=y2:=by rw [List.map_cons] at em;injection em with h _;exact h.symm
 have ia:=ixB (oa a1 List.mem_cons_self) ea hj
 have ib:=ixB (ob b1 List.mem_cons_self) eb hj2
 refine ⟨_,_,rfl,rfl,_,rfl,ite2 (fun c => ?_) (fun c => ?_)⟩
 ·exact ⟨_,rfl,_,rfl,_,rfl,by show 3≤sizeLine;decide,fun z H2 n2=>q z pB pA (y2 :: ms') (y :: ns') H2 (n1.same.trans n2.same) n2.at (n2.same _ _ k3) (n2.same _ _ k2) ⟨j2,j,b1,a1,qs,ps,by have:=of_decide_eq_true c; (first|lia|omega),ib,ia,ob,oa,em,en,e2 ▸ e1,e1⟩ g.ml g.nl⟩
 ·exact ⟨_,rfl,_,rfl,_,rfl,by show 3≤sizeLine;decide,fun z H2 n2=>q z pA pB (y :: ns') (y2 :: ms') H2 (n1.same.trans n2.same) n2.at (n2.same _ _ k2) (n2.same _ _ k3) ⟨j,j2,a1,b1,ps,qs,by
   have h1:¬((j2:Int)<j):=fun z=>c (decide_eq_true z)
   have h2:j≠j2:=fun z=>hab (Option.some.inj ((z ▸ ia).symm.trans ib))
   (first|lia|omega),ia,ib,oa,ob,en,em,e1,e2 ▸ e1⟩ g.nl g.ml⟩
theorem sc_first_stands:FnScope ["book", "stands", "at", "name", "code"] ["book"] (defScope (top i_first_stands)):=⟨rfl,rfl,rfl,by decide +kernel,rfl,by decide +kernel,by decide +kernel⟩
theorem ok_fs3 (F:Fun K "first_stands" "first_stands" (top i_first_stands) f fd) (T:Nm mg) (f_stands_behind:Fn P w K mg base 1 "stands_behind" ["book", "stand"] (spSb3 K)):FnOk P w K mg base CX0 2 f fd ["book"] (spFs3 K):=by
 refine F.ok sc_first_stands (fun vs H Q E h => ?_) (fun cdv A outer s H vs Q E hr h => ?_)
 ·obtain ⟨l,B,rfl,_⟩:=h
  rfl
 obtain ⟨l,B,rfl,hB,gB,q⟩:=h
 refine ⟨_,(pss_cons (ps_set (i:=1) sc_first_stands.nd rfl (Or.inl rfl) (lstN pa_nil))
  (pss_cons (ps_for PassesOwn.never rfl (enumK K rfl T.n_enumerate (pa_cons (pv 0) pa_nil)) (tupK K 2 rfl (pgs_cons (pg_name (i:=2) sc_first_stands.nd rfl (Or.inl rfl)) (pgs_cons (tupK K 2 rfl (pgs_cons (pg_name (i:=3) sc_first_stands.nd rfl (Or.inl rfl)) (pgs_cons (pg_name (i:=4) sc_first_stands.nd rfl (Or.inl rfl)) pgs_nil))) pgs_nil))) (pss_one (ps_expr (bmK K PySem.F.plainAttrs_list PySem.F.slot_list_extend PySem.F.type_list_extend extendN (pv 1) (pa_cons (pe_fn (f_stands_behind.mono (by first|decide|exact Nat.le_refl _|(first|lia|omega))) hr rfl (pa_cons (pe_slice (slN K) (pv 0) po_none (po_some (pv 2))) (pa_cons (tupN (pa_cons (pv 4) (pa_cons (pv 4) (pa_cons (lstN (pa_cons (pv 3) pa_nil)) (pa_cons (lstN pa_nil) pa_nil))))) pa_nil))) pa_nil)))))
  (pss_one (ps_ret (pv 1))))),?_⟩
 refine ⟨by show 0≤sizeLine;decide,fun fp H1 n1=>gn ?_⟩
 dsimp only
 obtain ⟨vs,hl,hd⟩:=id hB
 have hlen:=bk_len hd
 have hle:=gB.le
 have hf0:H fp=none:=n1.nn
 refine seqCut (t:=tFor _ _ _) (FsJ H l fp B B.length) (fun Nn nx => ?_) ?_
 ·refine ⟨_,rfl,l,rfl,⟨_,n1.same.seq hl⟩,?_⟩
  refine for_go (N:=B.length) (FsJ H l fp B) ⟨_,_,_,[],rfl,n1.same,n1.at,Nat.le_refl _,(fun _ h=>nomatch h),fun t' r' ⟨i,hi,h0,_⟩=>absurd h0 (Nat.not_lt_zero _)⟩ ?_ ?_
  ·rintro i σ H2 hi ⟨x2,x3,x4,as,rfl,sm,hf2,hal,hst,hcv⟩
   obtain ⟨tp,e1,e2⟩:=bk_at hd hi
   refine ⟨⟨_,_,sm.seq hl,e1⟩,?_⟩
   rintro x H3 ⟨t1,rfl,ht1,hy⟩
   have e:=hy _ _ (sm.seq hl) e1
   have n3:New H2 t1 (.tup [.int i, .ref tp]) H3:=⟨ht1,e⟩
   have hq:=List.getElem_mem hi
   have zno:B[i] ∉ B.take i:=fun z=>by
    obtain ⟨j,hj,e2⟩:=List.mem_iff_getElem.mp z
    rw [List.length_take] at hj
    rw [List.getElem_take] at e2
    have:=(List.getElem_inj gB.nodup).mp e2
    (first|lia|omega)
   have sta:∀{y:Str×Str} {t' r':Str},y∈B.take i→Nx y B[i].2 B[i].2 t' r'→Sta B t' r':=fun hy hn=>⟨i,hi,_,hy,hn⟩
   have stI:∀{t' r':Str},StaI B (i+1) t' r'→StaI B i t' r'∨∃y∈B.take i,Nx y B[i].2 B[i].2 t' r':=fun {t' r'} ⟨j,hj,h1,h2⟩=>by
    by_cases e:j=i
    ·subst e;exact .inr h2
    ·exact .inl ⟨j,hj,by first|lia|omega,h2⟩
   generalize B[i]=z at e2 hq sta stI zno
   have hz:=(gB.cd z hq).le
   have hnm:z.1∈B.map (·.1):=List.mem_map_of_mem hq
   have s3:=sm.trans n3.same
   refine ⟨t1,_,rfl,SqT.of n3.at,rfl,_,_,rfl,_,_,rfl,tp,_,rfl,s3.seqT e2,rfl,_,_,rfl,_,_,rfl,rfl,rfl,?_⟩
   refine ⟨_,rfl, .inl ⟨rfl,_,SqL.of (n3.same _ _ hf2)⟩,_,rfl,_,rfl,_,rfl, .inl ⟨l,_,rfl,s3.seq hl,fun p4 H4 n4 => ?_⟩⟩
   rw [cut_take vs i (by first|lia|omega)] at n4
   refine ⟨_,rfl,_,rfl,_,rfl,by show 1≤sizeLine;decide,fun p5 H5 n5=>⟨by show 0≤sizeLine;decide,fun p6 H6 n6=>⟨by show 4≤sizeLine;decide,fun a7 H7 n7 => ?_⟩⟩⟩
   have s7:Same H4 H7:=n5.same.trans (n6.same.trans n7.same)
   have s2:Same H2 H7:=n3.same.trans (n4.same.trans s7)
   refine ⟨p4,a7,B.take i,B,1,z.2,z.2,[z.1],[],rfl,⟨_,SqL.of (s7 _ _ n4.at),?_⟩,fun y hy=>List.mem_of_mem_take hy,by rw [List.length_take]; (first|lia|omega),gB.cd,⟨p5,p6,n7.at,n7.same _ _ (n6.same _ _ n5.at),n7.same _ _ n6.at⟩,⟨by first|lia|omega,⟨z,hq,List.suffix_refl _⟩,(by simp),fun x hx=>by rw [List.mem_singleton.mp hx];exact hnm,(fun _ h=>nomatch h),Nat.le_refl _,Nat.zero_le _,fun h=>absurd rfl h⟩,by decide,(fun _=>⟨z,hq,zno,rfl,rfl,rfl⟩),fun as2 p8 H8 s8 hp8 h8 hl8 hst8 hcv8 => ?_⟩
   ·rw [List.map_take]
    exact dens_take i ((hd.same (sm.trans s2)))
   ·have hf8:=s8 _ _ (s2 _ _ hf2)
    refine ⟨fp,p8,_,_,rfl,rfl,hf8,h8,?_,fun H9 c9 => ?_⟩
    ·rw [List.length_map,List.length_map]
     rw [List.length_take] at hl8
     exact sizeOk (by first|lia|omega)
    ·have of9:Off fp H8 H9:=chgOff c9
     refine ⟨_,_,_,as++as2,rfl,fun b o e=>of9 b o (ne_of_none e hf0) (s8 _ _ (s2 _ _ (sm b o e))),by rw [c9.at,List.map_append],?_,fun x hx => ?_,fun t' r' hs => ?_⟩
     ·rw [List.length_append]
      rw [List.length_take] at hl8
      (first|lia|omega)
     ·rcases List.mem_append.mp hx with hx|hx
      ·obtain ⟨t',h1,h2⟩:=hst x hx
       exact ⟨t',h1,(h2.same (s2.trans s8)).offL of9 hf8⟩
      ·obtain ⟨y,hy,t',h1,h2⟩:=hst8 x hx
       exact ⟨t',sta hy h1,h2.offL of9 hf8⟩
     ·rcases stI hs with hs|⟨y,hy,hn⟩
      ·obtain ⟨x,hx,e,h2⟩:=hcv t' r' hs
       exact ⟨x,List.mem_append_left _ hx,e,(h2.same (s2.trans s8)).offL of9 hf8⟩
      ·obtain ⟨x,hx,e,h2⟩:=hcv8 y hy t' r' hn
       exact ⟨x,List.mem_append_right _ hx,e,h2.offL of9 hf8⟩
  ·rintro σ H2 ⟨x2,x3,x4,as,rfl,sm,hf2,hal,hst,hcv⟩
   exact ⟨⟨_,sm.seq hl,by first|lia|omega⟩,nx _ _ ⟨_,_,_,as,rfl,sm,hf2,hal,hst,hcv⟩⟩
 rintro σ H2 ⟨x2,x3,x4,as,rfl,sm,hf2,hal,hst,hcv⟩
 exact ⟨_,rfl,q as fp H2 sm hf0 hf2 (by first|lia|omega) hst fun t' r' ⟨i,hi,h2⟩=>hcv t' r' ⟨i,hi,hi,h2⟩⟩
end
end Z
namespace Z
open PySem L2 PyProof.Rows
noncomputable def spTr3 (K:PySem.W.Frag):Sp:=fun vs H Q _=>∃(l:Addr) (B:List (Str×Str)),vs=[.ref l]∧BkL K H B l∧GoodN B∧((∀u, ¬Amb B u)→∀H',Same H H'→Q .non H') ∧
 ∀(z p q:Addr) (t:Str) (ns ms:List Str) (H':Hp),Amb B t→(∀u,Amb B u→¬lfLt u t)→t.length≤5000→Same H H'→H' z=some (.tup [.str t, .ref p, .ref q])→H' p=some (.lst (ns.map V.str))→H' q=some (.lst (ms.map V.str))→Rd2 B t ns ms→ns.length≤300→ms.length≤300→Q (.ref z) H'
structure Trn (H:Hp) (d dn:Addr) (B:List (Str×Str)) (kvs done:List (Key×V)) (H':Hp):Prop where
 sm:Same H H'
 hd:H' d=some (.dK kvs)
 hn:H' dn=some (.dK done)
 wt:Wt B (done.length+2) H' kvs
 nd:(done.map (·.1)).Nodup
 sx:∀k∈done.map (·.1),∃r,k = .inr r∧Sfx B r
 dj:∀k∈kvs.map (·.1),k ∉ done.map (·.1)
theorem Wt.mono {B:List (Str×Str)} {n m:Nat} {H:Hp} {kvs:List (Key×V)} (h:Wt B n H kvs) (le:n≤m):Wt B m H kvs:=⟨h.nd,fun z hz=>by
 obtain ⟨r,a,e,s⟩:=h.st z hz
 exact ⟨r,a,e,s.mono le⟩⟩
theorem Wt.drop {B:List (Str×Str)} {n:Nat} {H:Hp} {kvs:List (Key×V)} (h:Wt B n H kvs) (k:Key):Wt B n H (dropK kvs k):=⟨nd_dropK h.nd,fun z hz=>h.st z (dropK_mem hz)⟩
structure Trn3 (H:Hp) (d dn:Addr) (B:List (Str×Str)) (kvs done:List (Key×V)) (D:Str→Str→Prop) (H':Hp):Prop extends Trn H d dn B kvs done H' where
 dij:Dij B (In B (done.length+2) H' kvs) D
 dk:∀r,((.inr r:Key)∈done.map (·.1)) ↔ ∃t,D t r
noncomputable def TrJ (H:Hp) (l d dn:Addr) (B:List (Str×Str)) (m:Nat) (σ:L2.St) (H':Hp):Prop:=
 ∃(x3 x4:Option V) (kvs done:List (Key×V)) (D:Str→Str→Prop), σ=[some (.ref l),some (.ref d),some (.ref dn),x3,x4]∧m=(sfxs B).length-done.length∧Trn3 H d dn B kvs done D H'
theorem In.back2 {B:List (Str×Str)} {n m:Nat} {H H4:Hp} {kvs:List (Key×V)} (wt:Wt B n H kvs) (f:∀a t r,St3 B n H a t r→St3 B m H4 a t r) {t r:Str} (h:In B m H4 kvs t r):In B n H kvs t r:=by
 obtain ⟨a,h1,h2⟩:=h
 obtain ⟨r',a',e,t',g⟩:=wt.st _ h1
 cases e
 have g:St3 B n H a t' r:=g
 have:=((f _ _ _ g).one h2).1
 subst this
 exact ⟨a,h1,g⟩
theorem in_drop {kvs:List (Key×V)} {k k':Key} {v:V} (h:(k',v)∈kvs) (ne:k'≠k):(k',v)∈dropK kvs k:=List.mem_filter.mpr ⟨h,decide_eq_true ne⟩
section
variable {P:Program} {w:World} {K:PySem.W.Frag} {mg:Str→Option Value} {base:Heap} {f:Addr} {fd:FuncData}
theorem sc_two_readings:FnScope ["book", "waiting", "done", "stand", "rest"] ["book"] (defScope (top i_two_readings)):=⟨rfl,rfl,rfl,by decide +kernel,rfl,by decide +kernel,by decide +kernel⟩
theorem ok_tr3 (F:Fun K "two_readings" "two_readings" (top i_two_readings) f fd) (T:Nm mg) (f_stands_behind:Fn P w K mg base 1 "stands_behind" ["book", "stand"] (spSb3 K)) (f_first_stands:Fn P w K mg base 2 "first_stands" ["book"] (spFs3 K)) (f_keep_least:Fn P w K mg base 3 "keep_least" ["waiting", "stands"] (spKl3 K)) (f_least_stand:Fn P w K mg base 5 "least_stand" ["waiting"] spLs3) (f_in_order:Fn P w K mg base 1 "in_order" ["book", "stand"] (spIo3 K)):FnOk P w K mg base CX0 6 f fd ["book"] (spTr3 K):=by
 refine F.ok sc_two_readings (fun vs H Q E h => ?_) (fun cdv A outer s H vs Q E hr h => ?_)
 ·obtain ⟨l,B,rfl,_⟩:=h
  rfl
 obtain ⟨l,B,rfl,hB,gB,qN,qY⟩:=h
 have hu:=hu_of hr
 have hu6:=hr.units
 have hle:=gB.le
 have hsx:=sfxs_len gB.cd
 refine ⟨_,(pss_cons (ps_set (i:=1) sc_two_readings.nd rfl (Or.inl rfl) dnewN)
  (pss_cons (ps_expr (pe_fn (f_keep_least.mono (by first|decide|exact Nat.le_refl _|(first|lia|omega))) hr rfl (pa_cons (pv 1) (pa_cons (pe_fn (f_first_stands.mono (by first|decide|exact Nat.le_refl _|(first|lia|omega))) hr rfl (pa_cons (pv 0) pa_nil)) pa_nil))))
  (pss_cons (ps_set (i:=2) sc_two_readings.nd rfl (Or.inr rfl) dnewN)
  (pss_cons (ps_while PassesOwn.never (pt_truth (pv 1) fun _=>rfl) (pss_cons (ps_set (i:=3) sc_two_readings.nd rfl (Or.inl rfl) (pe_fn (f_least_stand.mono (by first|decide|exact Nat.le_refl _|(first|lia|omega))) hr rfl (pa_cons (pv 1) pa_nil)))
  (pss_cons (ps_set (i:=4) sc_two_readings.nd rfl (Or.inl rfl) (pe_ix (ixK K) (pv 3) pe_int (fun _ _=>rfl)))
  (pss_cons (ps_if (pt_cmpR (eqK K hu6) (pv 4) pe_str (nomark _)) (pss_one (ps_ret (pe_fn (f_in_order.mono (by first|decide|exact Nat.le_refl _|(first|lia|omega))) hr rfl (pa_cons (pv 0) (pa_cons (pv 3) pa_nil))))) pss_nil)
  (pss_cons (ps_ddel (pv 1) (pv 4))
  (pss_cons (ps_dput hu (pv 2) (pv 4) pe_bl rfl)
  (pss_one (ps_expr (pe_fn (f_keep_least.mono (by first|decide|exact Nat.le_refl _|(first|lia|omega))) hr rfl (pa_cons (pv 1) (pa_cons (pe_lcomp rfl (comp_ok (Nc:=["later"]) (Fc:=["done"]) (js:=[2])) (piK K (pe_fn (f_stands_behind.mono (by first|decide|exact Nat.le_refl _|(first|lia|omega))) hr rfl (pa_cons (pv 0) (pa_cons (pv 3) pa_nil)))) (gk_name (i:=0) (n:=1) (by decide)) (fun _ _ _ _ _=>(pg_name (i:=0) (show (["later", "done"]:List Str).Nodup by decide +kernel) rfl (Or.inl rfl))) (fun _ _ _ _ _=>(pts_one (pt_cmp (pc_dnotin hu (pe_ix (ixK K) (pv 0) pe_int (fun _ _=>rfl)) (pv 1))))) (fun _ _ _ _ _=>(pv 0))) pa_nil)))))))))))
  (pss_one (ps_ret pe_non)))))),?_⟩
 refine fun d H1 n1=>gn ?_
 refine ⟨_,rfl,_,rfl,l,B,rfl,hB.same n1.same,gB,fun as p H2 s2 hp h2 hal hst hcv => ?_⟩
 have hd2:=s2 _ _ n1.at
 refine ⟨d,p,[],as,B,2,rfl,hd2,h2,⟨List.nodup_nil,fun z hz=>nomatch hz⟩,by first|lia|omega,by decide,by first|lia|omega,(fun x hx=>by obtain ⟨t',_,h⟩:=hst x hx;exact h.std),fun kvs H3 of3 hd3 wt3 hk3 ks3 => ?_⟩
 have sm3:Same H H3:=fun b o e=>of3 b o (ne_of_none e n1.nn) (s2 _ _ (n1.same b o e))
 refine fun dn H4 n4=>gn ?_
 have ddn:d≠dn:=ne_of_none hd3 n4.nn
 have hdn0:H dn=none:=by
  cases e:H dn with
  | none=>rfl
  | some o=>have:=n4.nn;rw [sm3 _ _ e] at this;cases this
 have d4:Dij B (In B 2 H4 kvs) (fun _ _=>False):=by
  refine ⟨fun {t r} hin => ?_,fun {t r} hs => ?_,fun h=>h.elim,fun h=>h.elim,fun h=>h.elim⟩
  ·have hin:In B 2 H3 kvs t r:=In.back wt3 (fun a t r h=>h.same n4.same) hin
   rcases ks3.snd t r hin with ⟨a,h,_⟩|⟨x,hx,rfl,h⟩
   ·cases h
   ·obtain ⟨t',h1,h2⟩:=hst x hx
    rw [(h.one h2).1]
    exact .start h1
  ·obtain ⟨x,hx,rfl,h⟩:=hcv t r hs
   obtain ⟨t',g1,g2⟩:=ks3.cv2 x (by rw [List.take_length];exact hx) t h
   exact ⟨t', .inl (g1.step fun a t r h=>h.same n4.same),g2⟩
 have rA:∀{u:Str},Rch B u "" → Amb B u:=fun h=>h.amb gB.nodup
 have aR:∀{t u:Str},(∀u,Rch B u "" → ¬lfLt u t)→Amb B u→¬lfLt u t:=fun h ha=>by
  obtain ⟨v,h1,h2⟩:=ha.rch gB.cd
  exact lf_ge (h v h1) h2
 dsimp only
 refine seqCut (t:=tWhile _ _) (fun σ H'=>Same H H'∧∀u, ¬Amb B u) (fun Nn nx => ?_) ?_
 ·refine whileGo (TrJ H l d dn B) ⟨_,_,_,kvs,[],_,rfl,rfl,⟨⟨sm3.trans n4.same,n4.same _ _ hd3,n4.at,wt3.step fun a r h=>h.same n4.same,List.nodup_nil,(fun _ h=>nomatch h),fun _ _ h=>nomatch h⟩,d4,fun r=>⟨(fun h=>nomatch h),fun ⟨_,h⟩=>h.elim⟩⟩⟩ ?_
  clear d4 ks3 wt3 hk3
  rintro m σ H5 ⟨x3,x4,kvs,done,D,rfl,rfl,t5⟩
  refine ⟨_,rfl, !kvs.isEmpty, .inr (.inr ⟨kvs,t5.hd,rfl⟩),?_⟩
  by_cases hne:kvs=[]
  ·have e:(!kvs.isEmpty)=false:=by rw [hne];rfl
   rw [e]
   refine iteF (nx _ _ ⟨t5.sm,fun u ha => ?_⟩)
   obtain ⟨v,h1,_⟩:=ha.rch gB.cd
   exact t5.dij.none (fun t r ⟨a,h,_⟩=>by rw [hne] at h;cases h) v h1
  have e:(!kvs.isEmpty)=true:=by cases kvs with|nil=>exact absurd rfl hne|cons _ _=>rfl
  rw [e]
  refine iteT ⟨fun σ' H'=>∃m',m'<(sfxs B).length-done.length∧TrJ H l d dn B m' σ' H',fun _ _ h=>h,?_⟩
  have hkl:=keys_le t5.wt.nd t5.wt.sfx
  rw [List.length_map] at hkl
  have hdl:=keys_le t5.nd t5.sx
  rw [List.length_map] at hdl
  refine ⟨_,rfl,d,kvs,B,_,rfl,t5.hd,t5.wt,by first|lia|omega,by first|lia|omega,hne,fun t r a H6 hmem st5 least s6=>gn ?_⟩
  have st6:=st5.same s6
  have std6:=st6.std
  obtain ⟨ns,ms,⟨pA,pB,h1,h2,h3⟩,g,hms⟩:=id st6
  refine ⟨_,rfl, .inr (.inl ⟨a,_,1, .str r,rfl,rfl,SqT.of h1,rfl,gn ?_⟩)⟩
  refine ⟨_,rfl, .inl ⟨rfl,_,rfl,ite2 (fun c => ?_) (fun c => ?_)⟩⟩
  ·have er:r = "":=by
    have:=of_decide_eq_true c
    injection this
   subst er
   have hd0:∀t', ¬D t' "":=fun t' h=>t5.dij.ne h rfl
   have l0:∀u,Rch B u "" → ¬lfLt u t:=fun u hu=>t5.dij.least hd0 (fun t' r' h=>least t' r' h) hu
   exact ⟨_,rfl,_,rfl,l,a,B,_,t,rfl,hB.same (t5.sm.trans s6),gB,by first|lia|omega,st6,fun z p q ns ms H' s' hz hp hq rd l1 l2=>qY z p q t ns ms H' (rA (t5.dij.ws ⟨a,hmem,st5⟩)) (fun u hu=>aR l0 hu) (by have:=g.t; (first|lia|omega)) ((t5.sm.trans s6).trans s') hz hp hq rd (by first|lia|omega) (by first|lia|omega)⟩
  have rne:r ≠ "":=fun e=>c (by rw [e];exact decide_eq_true rfl)
  have hd6:=s6 _ _ t5.hd
  have hn6:=s6 _ _ t5.hn
  refine ⟨_,rfl,_,rfl,d,kvs, .inr r,rfl,hd6,rfl,by rw [mem_valV t5.wt.nd hmem];rfl,?_⟩
  have c7:Chg H6 d (.dK (dropK kvs (.inr r))) (upd H6 d (.dK (dropK kvs (.inr r)))):=⟨rfl⟩
  generalize upd H6 d (.dK (dropK kvs (.inr r)))=H7 at c7 ⊢
  have hn7:H7 dn=some (.dK done):=by rw [c7.ne (Ne.symm ddn)];exact hn6
  have rin:(.inr r:Key)∈kvs.map (·.1):=List.mem_map_of_mem (f:=(·.1)) hmem
  have rno:=t5.dj _ rin
  have vno:valV done (.inr r)=none:=by
   cases e:valV done (.inr r) with
   | none=>rfl
   | some v=>exact absurd (valV_in e) rno
  refine ⟨_,rfl,_,rfl,dn,_,rfl, .inl ⟨done, .inr r,hn7,rfl,Nat.lt_of_le_of_lt (show done.length≤1000 by first|lia|omega) (by decide),rfl⟩,?_⟩
  rw [putK_new _ vno]
  have c8:Chg H7 dn (.dK (done++[(.inr r, .bl true)])) (upd H7 dn (.dK (done++[(.inr r, .bl true)]))):=⟨rfl⟩
  generalize upd H7 dn (.dK (done++[(.inr r, .bl true)]))=H8 at c8 ⊢
  have hd8:H8 d=some (.dK (dropK kvs (.inr r))):=by rw [c8.ne ddn];exact c7.at
  have of7:=chgOff c7
  have of8:=chgOff c8
  have std8:∀a r,Std B (done.length+2) H6 a r→Std B (done.length+2) H8 a r:=fun a r h=>(h.off of7 hd6).off of8 hn7
  have st8:∀a t r,St3 B (done.length+2) H6 a t r→St3 B (done.length+2) H8 a t r:=fun a t r h=>(h.off of7 hd6).off of8 hn7
  have sm8:Same H H8:=fun b o e=>of8 b o (ne_of_none e hdn0) (of7 b o (ne_of_none e n1.nn) (s6 _ _ (t5.sm b o e)))
  obtain ⟨ns8,ms8,sd8,g8,hm8⟩:=st8 a t r st6
  have nd9:((done++[((.inr r:Key),V.bl true)]).map (·.1)).Nodup:=by
   rw [List.map_append]
   exact nd_snoc t5.nd rno
  have sx9:∀k∈(done++[((.inr r:Key),V.bl true)]).map (·.1),∃r,k = .inr r∧Sfx B r:=fun k hk=>by
   rw [List.map_append] at hk
   rcases List.mem_append.mp hk with hk|hk
   ·exact t5.sx k hk
   ·exact ⟨r,List.mem_singleton.mp hk,g8.r⟩
  have hdl9:=keys_le nd9 sx9
  rw [List.length_map,List.length_append,List.length_singleton] at hdl9
  refine ⟨_,rfl,_,rfl,_,rfl,l,a,B,B,_,t,r,ns8,ms8,rfl,hB.same sm8,(fun _ h=>h),hle,gB.cd,sd8,g8,by first|lia|omega,(fun h=>absurd h hm8),fun as p9 H9 s9 hp9 h9 hal9 hst9 hcv9=>⟨p9,rfl,⟨_,SqL.of h9⟩,?_⟩⟩
  have hd9:=s9 _ _ hd8
  have hn9:=s9 _ _ c8.at
  have at1:∀{i:Nat} (hi:i<as.length),(as.map fun x=>V.ref x.2)[i]? = some (.ref as[i].2):=fun hi=>by rw [List.getElem?_map,List.getElem?_eq_getElem hi];rfl
  refine comp_go (N:=as.length) (fun i ys H'=>H'=H9∧∃bs:List (Str×Addr),ys=bs.map (fun x=>V.ref x.2)∧bs.length≤i∧(∀x∈bs,x∈as∧(.inr x.1:Key) ∉ (done++[((.inr r:Key),V.bl true)]).map (·.1))∧∀x∈as.take i,(.inr x.1:Key) ∉ (done++[((.inr r:Key),V.bl true)]).map (·.1)→x∈bs) ⟨rfl,[],rfl,Nat.le_refl _,(fun _ h=>nomatch h),fun _ h=>nomatch h⟩ ?_ ?_
  ·rintro i ys H10 Ny hi ⟨rfl,bs,rfl,hbl,hbs,hbc⟩ ny
   refine ⟨⟨_,_,SqL.of h9,at1 hi⟩,by rw [List.length_map];exact Nat.lt_of_le_of_lt (show bs.length≤1000 by first|lia|omega) (by decide),?_⟩
   rintro x H11 ⟨rfl,hy⟩
   have e:=hy _ (SqL.of h9)
   rw [at1 hi] at e;cases e
   have hm:=List.getElem_mem hi
   have htk:=take_next hi
   generalize as[i]=x at hm htk
   obtain ⟨_,_,tx,_,nx',mx,⟨u1,u2,k1,_⟩,_⟩:=hst9 x hm
   refine gn ⟨_,rfl, .inr (.inl ⟨x.2,_,1, .str x.1,rfl,rfl,SqT.of k1,rfl,?_⟩)⟩
   cases hv:valV (done++[((.inr r:Key),V.bl true)]) (.inr x.1) with
   | none=>
    refine ⟨_,rfl,dn,none,rfl, .inl ⟨_, .inr x.1, .inl hn9,rfl,hv.symm⟩,_,rfl,iteT ⟨_,rfl,ny _ _ ⟨rfl,bs++[x],by rw [List.map_append];rfl,by rw [List.length_append];exact Nat.succ_le_succ hbl,fun y hy => ?_,fun y hy hn => ?_⟩⟩⟩
    ·rcases List.mem_append.mp hy with hy|hy
     ·exact hbs y hy
     ·rw [List.mem_singleton.mp hy];exact ⟨hm,valV_not hv⟩
    ·rw [htk] at hy
     rcases List.mem_append.mp hy with hy|hy
     ·exact List.mem_append_left _ (hbc y hy hn)
     ·exact List.mem_append_right _ hy
   | some v=>
    exact ⟨_,rfl,dn,some v,rfl, .inl ⟨_, .inr x.1, .inl hn9,rfl,hv.symm⟩,_,rfl,iteF (ny _ _ ⟨rfl,bs,rfl,by first|lia|omega,hbs,fun y hy hn=>by
     rw [htk] at hy
     rcases List.mem_append.mp hy with hy|hy
     ·exact hbc y hy hn
     ·rw [List.mem_singleton.mp hy] at hn
      exact absurd (valV_in hv) hn⟩)⟩
  ·rintro ys H10 ⟨rfl,bs,rfl,hbl,hbs,hbc⟩
   rw [List.take_length] at hbc
   refine ⟨⟨_,SqL.of h9,by rw [List.length_map];exact Nat.le_refl _⟩,fun p11 hp11 => ?_⟩
   have n11:New H10 p11 (.lst (bs.map fun x=>V.ref x.2)) (upd H10 p11 (.lst (bs.map fun x=>V.ref x.2))):=⟨hp11,rfl⟩
   generalize upd H10 p11 (.lst (bs.map fun x=>V.ref x.2))=H11 at n11 ⊢
   have s11:Same H8 H11:=s9.trans n11.same
   have hd11:=n11.same _ _ hd9
   have hn11:=n11.same _ _ hn9
   have wt8:Wt B (done.length+2) H8 (dropK kvs (.inr r)):=(t5.wt.drop _).step fun a r h=>std8 a r (h.same s6)
   refine ⟨d,p11,_,bs,B,done.length+3,rfl,hd11,n11.at,(wt8.mono (by first|lia|omega)).step fun a r h=>h.same s11,by first|lia|omega,by first|lia|omega,by first|lia|omega,fun x hx=>(by obtain ⟨_,_,t',_,h⟩:=hst9 x (hbs x hx).1;exact (h.same n11.same).std),fun kvs' H12 of12 hd12 wt12 hk12 ks12 => ?_⟩
   have hn12:H12 dn=some (.dK (done++[((.inr r:Key),V.bl true)])):=of12 _ _ (Ne.symm ddn) hn11
   have f11:∀a t r,St3 B (done.length+2) H5 a t r→St3 B (done.length+3) H11 a t r:=fun a t r h=>((st8 a t r (h.same s6)).same s11).mono (by first|lia|omega)
   have dij:Dij B (In B (done.length+3) H12 kvs') (fun a b=>D a b∨(a=t∧b=r)):=by
    refine t5.dij.next ⟨a,hmem,st5⟩ rne (fun t' h=>h.one t5.wt.nd ⟨a,hmem,st5⟩) (fun t' h=>rno ((t5.dk r).mpr ⟨t',h⟩)) least (fun t' r' h => ?_) (fun t' r' h hne' => ?_) (fun z t' r' hz hn hne' hD => ?_)
    ·rcases ks12.snd t' r' h with ⟨b,g1,g2⟩|⟨x,hx,rfl,g⟩
     ·exact .inl (In.back2 t5.wt f11 ⟨b,dropK_mem g1,g2⟩)
     ·obtain ⟨z,hz,t2,h1,h2⟩:=hst9 x (hbs x hx).1
      rw [(g.one (h2.same n11.same)).1]
      exact .inr ⟨z,hz,h1⟩
    ·obtain ⟨b,g1,g2⟩:=h
     exact ks12.cv1 t' r' ⟨b,in_drop g1 (fun e=>hne' (Sum.inr.inj e)),f11 _ _ _ g2⟩
    ·obtain ⟨x,hx,rfl,g⟩:=hcv9 z hz t' r' hn
     have hxb:x∈bs.take bs.length:=by
      rw [List.take_length]
      refine hbc x hx fun h => ?_
      rw [List.map_append] at h
      rcases List.mem_append.mp h with h|h
      ·obtain ⟨u,hu⟩:=(t5.dk x.1).mp h
       exact hD u hu
      ·exact hne' (Sum.inr.inj (List.mem_singleton.mp h))
     exact ks12.cv2 x hxb t' (g.same n11.same)
   refine ⟨_,?_,_,_,kvs',done++[((.inr r:Key),V.bl true)],(fun a b=>D a b∨(a=t∧b=r)),rfl,rfl,⟨⟨fun b o e=>of12 b o (ne_of_none e n1.nn) (s11 _ _ (sm8 b o e)),hd12,hn12,?_,nd9,sx9,fun k hk hk2 => ?_⟩,by rw [List.length_append,List.length_singleton];exact dij,fun r1 => ?_⟩⟩
   ·rw [List.length_append,List.length_singleton]; (first|lia|omega)
   ·rw [List.length_append,List.length_singleton];exact wt12
   ·rcases hk12 k hk with h|⟨x,hx,rfl⟩
    ·have hk3:=hk2
     rw [List.map_append] at hk3
     rcases List.mem_append.mp hk3 with h3|h3
     ·obtain ⟨z,hz,rfl⟩:=List.mem_map.mp h
      exact t5.dj _ (List.mem_map_of_mem (dropK_mem hz)) h3
     ·obtain ⟨z,hz,rfl⟩:=List.mem_map.mp h
      have:=(List.mem_filter.mp hz).2
      have:=of_decide_eq_true this
      exact this (List.mem_singleton.mp h3)
    ·exact (hbs x hx).2 hk2
   ·rw [List.map_append]
    refine ⟨fun h => ?_,fun ⟨u,hu⟩ => ?_⟩
    ·rcases List.mem_append.mp h with h|h
     ·obtain ⟨u,hu⟩:=(t5.dk r1).mp h
      exact ⟨u, .inl hu⟩
     ·exact ⟨t, .inr ⟨rfl,Sum.inr.inj (List.mem_singleton.mp h)⟩⟩
    ·rcases hu with hu|⟨_,rfl⟩
     ·exact List.mem_append_left _ ((t5.dk r1).mpr ⟨u,hu⟩)
     ·exact List.mem_append_right _ (List.mem_singleton.mpr rfl)
 rintro σ H5 ⟨sm5,no⟩
 exact qN no H5 sm5
end
end Z
namespace Z
open PySem L2
noncomputable def restV (a b:Str):V:=if Txt.startswith a b=true then .str (Txt.slice a (some (b.length:Nat)) none) else if Txt.startswith b a=true then .str (Txt.slice b (some (a.length:Nat)) none) else .non
noncomputable def spRest:Sp:=fun vs H Q _=>∃a b:Str,vs=[.str a, .str b]∧a.length≤1000000∧b.length≤1000000∧Q (restV a b) H
section
variable {P:Program} {w:World} {K:PySem.W.Frag} {mg:Str→Option Value} {base:Heap} {f:Addr} {fd:FuncData}
theorem sc_rest:FnScope ["one", "other"] ["one", "other"] (defScope (top i_rest_of)):=⟨rfl,rfl,rfl,by decide +kernel,rfl,by decide +kernel,by decide +kernel⟩
theorem ok_rest (F:Fun K "rest_of" "rest_of" (top i_rest_of) f fd) (T:Nm mg):FnOk P w K mg base CX0 1 f fd ["one", "other"] spRest:=by
 refine F.ok sc_rest (fun vs H Q E h => ?_) (fun cdv A outer s H vs Q E hr h => ?_)
 ·obtain ⟨a,b,rfl,_⟩:=h
  rfl
 obtain ⟨a,b,rfl,ha,hb,q⟩:=h
 refine ⟨_,(pss_cons (ps_if (pt_val (bmK K PySem.F.plainAttrs_str PySem.F.slot_str_startswith PySem.F.type_str_startswith mt_startswith (pv 0) (pa_cons (pv 1) pa_nil))) (pss_one (ps_ret (pe_slice (slK K) (pv 0) (po_some (pe_callB (lenK K) rfl T.n_len (by rfl) (pa_cons (pv 1) pa_nil))) po_none))) pss_nil)
  (pss_cons (ps_if (pt_val (bmK K PySem.F.plainAttrs_str PySem.F.slot_str_startswith PySem.F.type_str_startswith mt_startswith (pv 1) (pa_cons (pv 0) pa_nil))) (pss_one (ps_ret (pe_slice (slK K) (pv 1) (po_some (pe_callB (lenK K) rfl T.n_len (by rfl) (pa_cons (pv 0) pa_nil))) po_none))) pss_nil)
  (pss_one (ps_ret pe_non)))),?_⟩
 unfold restV at q
 refine ⟨_,rfl,rfl,_,rfl,a,b,rfl,rfl,_,rfl,?_⟩
 refine ite2 (fun c => ?_) (fun c => ?_)
 ·rw [if_pos c] at q
  exact ⟨_,rfl,_,rfl,_,_,rfl,⟨sizeOk (Nat.le_trans hb (by decide)),rfl⟩,_,rfl, .inr ⟨a,rfl,sizeOk (Nat.le_trans ha (by decide)),q⟩⟩
 ·rw [if_neg c] at q
  refine ⟨_,rfl,rfl,_,rfl,b,a,rfl,rfl,_,rfl,?_⟩
  refine ite2 (fun c => ?_) (fun c => ?_)
  ·rw [if_pos c] at q
   exact ⟨_,rfl,_,rfl,_,_,rfl,⟨sizeOk (Nat.le_trans ha (by decide)),rfl⟩,_,rfl, .inr ⟨b,rfl,sizeOk (Nat.le_trans hb (by decide)),q⟩⟩
  ·rw [if_neg c] at q
   exact q
end
end Z
namespace Z
open PySem L2 PyProof.Rows
noncomputable abbrev sSigns:Str := "01"
noncomputable def madeOf (x y:Str):Bool:=decide (V.str (Txt.stripChars x y)=V.str (Str.ofString ""))
theorem split_not {g:Nat→Bool} : ∀(l:List Nat),l.all g=false→∃p c r,l=p++c :: r∧(∀a∈p,g a=true)∧g c=false
 | [],h=>by cases h
 | a :: l,h=>by
  cases ha:g a with
  | false=>exact ⟨[],a,l,rfl,(fun _ z=>nomatch z),ha⟩
  | true=>
   rw [List.all_cons,ha,Bool.true_and] at h
   obtain ⟨p,c,r,rfl,hp,hc⟩:=split_not l h
   refine ⟨a :: p,c,r,rfl,fun x hx => ?_,hc⟩
   rcases List.mem_cons.mp hx with rfl|hx
   ·exact ha
   ·exact hp x hx
theorem madeOf_all (x y:Str):madeOf x y=x.cps.toList.all y.cps.contains:=by
 unfold madeOf Txt.stripChars
 rw [PyProof.Rows.stripBy_eq]
 generalize y.cps.contains=g
 unfold stripHi stripLo
 simp only [if_true]
 have sub:∀i j:Nat,decide (V.str (Builtin.Str.strSub x i j)=V.str (Str.ofString ""))=decide (min j x.length≤i):=fun i j=>by
  congr 1
  refine propext ⟨fun h => ?_,fun h => ?_⟩
  ·injection h with h
   have h:=congrArg (fun s:Str=>s.cps.size) h
   have e0:(Str.ofString "").cps.size=0:=rfl
   simp only [Builtin.Str.strSub,Array.size_extract,e0] at h
   have:x.cps.size=x.length:=rfl
   (first|lia|omega)
  ·congr 1
   unfold Builtin.Str.strSub
   have e:x.cps.extract i j = #[]:=by
    apply Array.eq_empty_of_size_eq_zero
    rw [Array.size_extract]
    have:x.cps.size=x.length:=rfl
    (first|lia|omega)
   rw [e]
   rfl
 rw [sub]
 have hlen:x.length=x.cps.toList.length:=by simp [Str.length]
 rw [hlen]
 generalize x.cps.toList=l
 by_cases h:l.all g=true
 ·rw [h]
  have e:l.takeWhile g=l:=by
   clear sub hlen
   induction l with
   | nil=>rfl
   | cons a l ih=>
    rw [List.all_cons,Bool.and_eq_true] at h
    rw [List.takeWhile_cons,if_pos h.1,ih h.2]
  rw [e]
  exact decide_eq_true (by first|lia|omega)
 ·have hf:l.all g=false:=by simpa using h
  rw [hf]
  apply decide_eq_false
  intro z
  obtain ⟨p,c,r,rfl,hp,hc⟩:=split_not l hf
  have e:(p++c :: r).takeWhile g=p:=by
   clear z hlen sub h hf
   induction p with
   | nil=>rw [List.nil_append,List.takeWhile_cons,hc];rfl
   | cons a p ih=>
    rw [List.cons_append,List.takeWhile_cons,if_pos (hp a List.mem_cons_self),ih fun x hx=>hp x (List.mem_cons_of_mem _ hx)]
  have ed:(p++c :: r).drop p.length=c :: r:=List.drop_left
  rw [e,ed] at z
  have hl:(p++c :: r).length=p.length+(r.length+1):=by rw [List.length_append,List.length_cons]
  have tl:((c :: r).reverse.takeWhile g).length≤r.length:=by
   rw [List.reverse_cons]
   have:((r.reverse++[c]).takeWhile g).length≤r.reverse.length:=by
    rw [List.takeWhile_append]
    split
    ·rw [List.length_append]
     have e:[c].takeWhile g=[]:=by simp [List.takeWhile,hc]
     rw [e];simp
    ·exact (List.takeWhile_prefix g).length_le
   rw [List.length_reverse] at this
   exact this
  (first|lia|omega)
theorem bin_made {x:Str} (h:Bin x):madeOf x sSigns=true:=by
 rw [madeOf_all,List.all_eq_true]
 intro c hc
 rcases h c hc with rfl|rfl <;> decide +kernel
noncomputable def NxR (z:Str×Str) (r r':Str):Prop:=sg r=sg z.2++sg r'∨sg z.2=sg r++sg r'
theorem NxR.nx {z:Str×Str} {r r':Str} (h:NxR z r r') (t:Str):∃t',Nx z t r t' r':=by
 rcases h with h|h
 ·exact ⟨t, .inl ⟨h,rfl⟩⟩
 ·by_cases c:sg z.2 <+: sg r
  ·refine ⟨t, .inl ⟨?_,rfl⟩⟩
   have hl:=c.length_le
   have h2:=congrArg List.length h
   rw [List.length_append] at h2
   have e:sg r'=[]:=List.eq_nil_of_length_eq_zero (by first|lia|omega)
   rw [e,List.append_nil] at h ⊢
   exact h.symm
  ·exact ⟨t++r', .inr ⟨c,h,rfl⟩⟩
theorem Nx.r {z:Str×Str} {t r t' r':Str} (h:Nx z t r t' r'):NxR z r r':=h.elim (fun h => .inl h.1) fun h => .inr h.2.1
theorem restV_iff {z:Str×Str} {r:Str} : (∀r',restV z.2 r = .str r' ↔ NxR z r r')∧(restV z.2 r = .non∨∃r',restV z.2 r = .str r'):=by
 unfold restV
 by_cases c:Txt.startswith z.2 r=true
 ·rw [if_pos c]
  have c':=(starts_iff _ _).mp c
  have e:=sg_drop c'
  refine ⟨fun r'=>⟨fun h => ?_,fun h => ?_⟩, .inr ⟨_,rfl⟩⟩
  ·injection h with h
   rw [h] at e
   exact .inr e
  ·congr 1
   refine str_eq ?_
   rcases h with h|h
   ·have hl:=c'.length_le
    have h2:=congrArg List.length h
    rw [List.length_append] at h2
    have h3:=congrArg List.length e
    rw [List.length_append] at h3
    have e1:sg r'=[]:=List.eq_nil_of_length_eq_zero (by first|lia|omega)
    have e2:sg (Txt.slice z.2 (some ((r.length:Nat):Int)) none)=[]:=List.eq_nil_of_length_eq_zero (by first|lia|omega)
    rw [e1,e2]
   ·rw [h] at e
    exact (List.append_cancel_left e).symm
 ·rw [if_neg c]
  have nc:¬sg r <+: sg z.2:=fun h=>c ((starts_iff _ _).mpr h)
  by_cases d:Txt.startswith r z.2=true
  ·rw [if_pos d]
   have e:=sg_drop ((starts_iff _ _).mp d)
   refine ⟨fun r'=>⟨fun h => ?_,fun h => ?_⟩, .inr ⟨_,rfl⟩⟩
   ·injection h with h
    rw [h] at e
    exact .inl e
   ·congr 1
    refine str_eq ?_
    rcases h with h|h
    ·rw [h] at e
     exact (List.append_cancel_left e).symm
    ·exact absurd (h ▸ List.prefix_append _ _) nc
  ·rw [if_neg d]
   have nd:¬sg z.2 <+: sg r:=fun h=>d ((starts_iff _ _).mpr h)
   refine ⟨fun r'=>⟨(fun h=>nomatch h),fun h => ?_⟩, .inl rfl⟩
   rcases h with h|h
   ·exact absurd (h ▸ List.prefix_append _ _) nd
   ·exact absurd (h ▸ List.prefix_append _ _) nc
theorem Rch.sfx {B:List (Str×Str)} {t r:Str} (h:Rch B t r):Sfx B r:=by
 have key:∀{z:Str×Str} {t r t' r':Str},z∈B→Sfx B r→Nx z t r t' r'→Sfx B r':=fun {z t r t' r'} hz hr hn=>by
  rcases hn.r with h|h
  ·obtain ⟨q,hq,hs⟩:=hr
   exact ⟨q,hq,(h ▸ List.suffix_append _ _:sg r' <:+ sg r).trans hs⟩
  ·exact ⟨z,hz,h ▸ List.suffix_append _ _⟩
 induction h with
 | start hs=>
  obtain ⟨i,hi,z,hz,hn⟩:=hs
  exact key (List.mem_of_mem_take hz) ⟨B[i],List.getElem_mem hi,List.suffix_refl _⟩ hn
 | step _ _ hz hn ih=>exact key hz ih hn
theorem Sfx.bin {B:List (Str×Str)} {r:Str} (cd:∀q∈B,CodeOk 12 q.2) (h:Sfx B r):Bin r:=fun ch hc=>by
 obtain ⟨q,hq,hs⟩:=h
 exact (cd q hq).bin ch (hs.subset hc)
theorem some_key {kvs:List (Key×V)} {k:Key} : (valV kvs k).isSome=true ↔ k∈kvs.map (·.1):=by
 cases hv:valV kvs k with
 | none=>exact ⟨(fun h=>nomatch h),fun h=>absurd h (valV_not hv)⟩
 | some v=>exact ⟨fun _=>valV_in hv,fun _=>rfl⟩
noncomputable def spMade:Sp:=fun vs H Q _=>∃x y:Str,vs=[.str x, .str y]∧x.length≤1000000∧Q (.bl (madeOf x y)) H
noncomputable def spIsc:Sp:=fun vs H Q _=>∃x:Str,vs=[.str x]∧x.length≤1000∧Bin x∧Q (.bl (!decide (x = ""))) H
noncomputable def spRw (K:PySem.W.Frag):Sp:=fun vs H Q _=>∃(l:Addr) (x:Str) (bk:List (Str×Str)),vs=[.ref l, .str x]∧BkL K H bk l∧bk.length≤16∧(∀q∈bk,CodeOk 12 q.2)∧x.length≤1000 ∧
 ∀(rs:List Str) (p:Addr) (H':Hp),Same H H'→H p=none→H' p=some (.lst (rs.map V.str))→rs.length≤bk.length→(∀r',r'∈rs ↔ ∃z∈bk,NxR z x r')→Q (.ref p) H'
noncomputable def spRc (K:PySem.W.Frag):Sp:=fun vs H Q _=>∃(l:Addr) (B:List (Str×Str)),vs=[.ref l]∧BkL K H B l∧GoodN B ∧
 ∀(rs:List Str) (p:Addr) (H':Hp),Same H H'→H p=none→H' p=some (.lst (rs.map V.str))→rs.length≤256→(∀r',r'∈rs ↔ ∃t,Sta B t r')→Q (.ref p) H'
noncomputable def spHa:Sp:=fun vs H Q _=>∃(d p:Addr) (kvs:List (Key×V)) (rs:List Str),vs=[.ref d, .ref p]∧Rd H d (.dK kvs)∧H p=some (.lst (rs.map V.str))∧rs.length≤1000∧∀b H',(b=true ↔ ∀r∈rs,(.inr r:Key)∈kvs.map (·.1))→Same H H'→Q (.bl b) H'
section
variable {P:Program} {w:World} {K:PySem.W.Frag} {mg:Str→Option Value} {base:Heap} {f:Addr} {fd:FuncData} {t3:Tok}
theorem sc_made_of:FnScope ["text", "signs"] ["text", "signs"] (defScope (top i_made_of)):=⟨rfl,rfl,rfl,by decide +kernel,rfl,by decide +kernel,by decide +kernel⟩
theorem ok_made (F:Fun K "made_of" "made_of" (top i_made_of) f fd) (T:Nm mg):FnOk P w K mg base CX0 1 f fd ["text", "signs"] spMade:=by
 refine F.ok sc_made_of (fun vs H Q E h => ?_) (fun cdv A outer s H vs Q E hr h => ?_)
 ·obtain ⟨x,y,rfl,_⟩:=h
  rfl
 obtain ⟨x,y,rfl,hx,q⟩:=h
 have hu6:=hr.units
 refine ⟨_,(pss_one (ps_ret (pe_cmpR (eqK K hu6) (bmK K PySem.F.plainAttrs_str PySem.F.slot_str_strip PySem.F.type_str_strip mt_strip1 (pv 0) (pa_cons (pv 1) pa_nil)) pe_str (nomark _)))),?_⟩
 exact ⟨_,rfl,rfl,_,rfl,x,y,rfl,rfl,sizeOk (by first|lia|omega), .inl ⟨rfl,q⟩⟩
theorem sc_is_code:FnScope ["thing"] ["thing"] (defScope (top i_is_code)):=⟨rfl,rfl,rfl,by decide +kernel,rfl,by decide +kernel,by decide +kernel⟩
theorem ok_isc (F:Fun K "is_code" "is_code" (top i_is_code) f fd) (T:Nm mg) (v_SIGNS:mg "SIGNS" = some (.str sSigns t3)) (f_made_of:Fn P w K mg base 1 "made_of" ["text", "signs"] spMade):FnOk P w K mg base CX0 2 f fd ["thing"] spIsc:=by
 refine F.ok sc_is_code (fun vs H Q E h => ?_) (fun cdv A outer s H vs Q E hr h => ?_)
 ·obtain ⟨x,rfl,_⟩:=h
  rfl
 obtain ⟨x,rfl,hx,hb,q⟩:=h
 have hu6:=hr.units
 refine ⟨_,(pss_one (ps_ret (pe_and (pe_callB (isiK K) rfl T.n_isinstance (by rfl) (pa_cons (pv 0) (pa_cons (pe_bltn rfl T.n_str (by rfl) (v := .ty "str") rfl) pa_nil))) (pe_and (pe_cmpR (neK K hu6) (pv 0) pe_str (nomark _)) (pe_one (pe_fn (f_made_of.mono (by first|decide|exact Nat.le_refl _|(first|lia|omega))) hr rfl (pa_cons (pv 0) (pa_cons (pe_gstr rfl v_SIGNS) pa_nil)))))))),?_⟩
 refine ⟨_,rfl, .inl ⟨_, "str", .str x,_,rfl,(by unfold Den;rfl),(kitT K (.str x)).2.2.1,_,rfl,?_⟩⟩
 have ed:decide (V.str x=V.str (Str.ofString ""))=decide (x = ""):=decide_eq_decide.mpr ⟨fun h=>(by injection h),fun h=>by rw [h]⟩
 refine iteT ⟨_,rfl, .inl ⟨rfl,_,rfl,?_⟩⟩
 rw [ed]
 refine ite2 (fun c1 => ?_) (fun c1 => ?_)
 ·rw [c1] at q
  refine ⟨_,rfl,x,_,rfl,by first|lia|omega,?_⟩
  rw [bin_made hb];exact q
 ·rw [Bool.eq_false_iff.mpr c1] at q
  exact q
theorem sc_rests_with:FnScope ["book", "text", "rests"] ["book", "text"] (defScope (top i_rests_with)):=⟨rfl,rfl,rfl,by decide +kernel,rfl,by decide +kernel,by decide +kernel⟩
theorem ok_rw (F:Fun K "rests_with" "rests_with" (top i_rests_with) f fd) (T:Nm mg) (f_rest_of:Fn P w K mg base 1 "rest_of" ["one", "other"] spRest):FnOk P w K mg base CX0 2 f fd ["book", "text"] (spRw K):=by
 refine F.ok sc_rests_with (fun vs H Q E h => ?_) (fun cdv A outer s H vs Q E hr h => ?_)
 ·obtain ⟨l,x,bk,rfl,_⟩:=h
  rfl
 obtain ⟨l,x,bk,rfl,hB,hl,cd,hx,q⟩:=h
 refine ⟨_,(pss_cons (ps_setcomp (i:=2) sc_rests_with.nd rfl (Or.inl rfl) rfl (comp_ok (Nc:=["name", "code"]) (Fc:=["text"]) (js:=[1])) (piK K (pv 0)) (gk_tup (gks_cons (gk_name (i:=0) (n:=2) (by decide)) (gks_cons (gk_name (i:=1) (n:=2) (by decide)) gks_nil gm_name gms_nil) gm_name (gms_cons gm_name gms_nil))) (fun _ _ _ _ _=>(tupK K 2 rfl (pgs_cons (pg_name (i:=0) (show (["name", "code", "text"]:List Str).Nodup by decide +kernel) rfl (Or.inl rfl)) (pgs_cons (pg_name (i:=1) (show (["name", "code", "text"]:List Str).Nodup by decide +kernel) rfl (Or.inl rfl)) pgs_nil)))) (fun _ _ _ _ _=>pts_nil) (fun _ _ _ _ _=>(pe_fn (f_rest_of.mono (by first|decide|exact Nat.le_refl _|(first|lia|omega))) hr rfl (pa_cons (pv 1) (pa_cons (pv 2) pa_nil)))))
  (pss_one (ps_ret (pe_lcomp rfl (comp_ok (Nc:=["rest"]) (Fc:=[]) (js:=[])) (piK K (pv 2)) (gk_name (i:=0) (n:=1) (by decide)) (fun _ _ _ _ _=>(pg_name (i:=0) (show (["rest"]:List Str).Nodup by decide +kernel) rfl (Or.inl rfl))) (fun _ _ _ _ _=>(pts_one (pt_cmpR g_isnot (pv 0) pe_non (nomark _)))) (fun _ _ _ _ _=>(pv 0)))))),?_⟩
 obtain ⟨vs,hv,hd⟩:=hB
 have hlen:=bk_len hd
 refine asgCut (te:=tComp _ _ _ _ _ _) (fun v H'=>∃p,v = .ref p∧New H p (.lst (bk.map fun z=>restV z.2 x)) H') (fun Qn qn => ?_) ?_
 ·refine ⟨_,rfl,l,rfl,⟨_,hv⟩,?_⟩
  refine comp_goN (N:=bk.length) (fun i ys H'=>H'=H∧ys=(bk.take i).map fun z=>restV z.2 x) ⟨rfl,rfl⟩ ?_ ?_
  ·rintro i ys H1 Ny hi ⟨rfl,rfl⟩ ny
   obtain ⟨tp,e1,e2⟩:=bk_at hd hi
   refine ⟨⟨_,_,hv,e1⟩,by rw [List.length_map,List.length_take];exact Nat.lt_of_le_of_lt (show min i bk.length≤1000 by first|lia|omega) (by decide),?_⟩
   rintro y H2 ⟨rfl,hy⟩
   have e:=hy _ hv
   rw [e1] at e;cases e
   have hc:=(cd _ (List.getElem_mem hi)).le
   refine ⟨tp,_,rfl,e2,rfl,_,_,rfl,_,_,rfl,rfl,?_⟩
   refine ⟨_,rfl,_,rfl,bk[i].2,x,rfl,by first|lia|omega,by first|lia|omega,ny _ _ ⟨rfl,?_⟩⟩
   rw [take_next hi,List.map_append];rfl
  ·rintro ys H1 ⟨rfl,rfl⟩
   refine ⟨⟨_,hv,by first|lia|omega⟩,fun p H' n=>qn _ _ ⟨p,rfl,?_⟩⟩
   rwa [List.take_length] at n
 rintro v H1 ⟨p1,rfl,n1⟩
 refine gn ?_
 have at1:∀{i:Nat} (hi:i<bk.length),(bk.map fun z=>restV z.2 x)[i]? = some (restV bk[i].2 x):=fun hi=>by rw [List.getElem?_map,List.getElem?_eq_getElem hi];rfl
 refine ⟨_,rfl,p1,rfl,⟨_,SqL.of n1.at⟩,?_⟩
 refine comp_go (N:=bk.length) (fun i ys H'=>H'=H1∧∃rs:List Str,ys=rs.map V.str∧rs.length≤i∧∀r',r'∈rs ↔ ∃z∈bk.take i,NxR z x r') ⟨rfl,[],rfl,Nat.le_refl _,fun r'=>⟨(fun h=>nomatch h),fun ⟨z,hz,_⟩=>nomatch hz⟩⟩ ?_ ?_
 ·rintro i ys H2 Ny hi ⟨rfl,rs,rfl,hrl,hrs⟩ ny
  refine ⟨⟨_,_,SqL.of n1.at,at1 hi⟩,by rw [List.length_map];exact Nat.lt_of_le_of_lt (show rs.length≤1000 by first|lia|omega) (by decide),?_⟩
  rintro y H3 ⟨rfl,hy⟩
  have e:=hy _ (SqL.of n1.at)
  rw [at1 hi] at e;cases e
  have htk:=take_next hi
  generalize bk[i]=z at htk
  obtain ⟨iff,or⟩:=restV_iff (z:=z) (r:=x)
  have old:∀{r':Str},(∃y∈bk.take (i+1),NxR y x r') ↔ (r'∈rs∨NxR z x r'):=fun {r'}=>by
   rw [htk]
   refine ⟨fun ⟨y,hy,h⟩ => ?_,fun h => ?_⟩
   ·rcases List.mem_append.mp hy with hy|hy
    ·exact .inl ((hrs r').mpr ⟨y,hy,h⟩)
    ·rw [List.mem_singleton.mp hy] at h;exact .inr h
   ·rcases h with h|h
    ·obtain ⟨y,hy,h⟩:=(hrs r').mp h
     exact ⟨y,List.mem_append_left _ hy,h⟩
    ·exact ⟨z,List.mem_append_right _ (List.mem_singleton.mpr rfl),h⟩
  rcases or with e|⟨r1,e⟩
  ·rw [e]
   refine gn ⟨_,rfl, .inl ⟨rfl,_,rfl,iteF (ny _ _ ⟨rfl,rs,rfl,by first|lia|omega,fun r' => ?_⟩)⟩⟩
   rw [old]
   refine ⟨.inl,fun h=>h.elim id fun h => ?_⟩
   have:=(iff r').mpr h
   rw [e] at this;cases this
  ·rw [e]
   refine gn ⟨_,rfl, .inl ⟨rfl,_,rfl,iteT ⟨_,rfl,ny _ _ ⟨rfl,rs++[r1],by rw [List.map_append];rfl,by rw [List.length_append];exact Nat.succ_le_succ hrl,fun r' => ?_⟩⟩⟩⟩
   rw [old,List.mem_append]
   refine or_congr Iff.rfl ⟨fun h => ?_,fun h => ?_⟩
   ·rw [List.mem_singleton.mp h];exact (iff r1).mp e
   ·have:=(iff r').mpr h
    rw [e] at this
    injection this with this
    rw [this];exact List.mem_singleton.mpr rfl
 ·rintro ys H2 ⟨rfl,rs,rfl,hrl,hrs⟩
  rw [List.take_length] at hrs
  refine ⟨⟨_,SqL.of n1.at,by rw [List.length_map];exact Nat.le_refl _⟩,fun p hp => ?_⟩
  exact q rs p _ (n1.same.trans (same_new hp _)) (n1.back hp) upd_same hrl hrs
theorem sc_holds_all:FnScope ["held", "rests"] ["held", "rests"] (defScope (top i_holds_all)):=⟨rfl,rfl,rfl,by decide +kernel,rfl,by decide +kernel,by decide +kernel⟩
theorem ok_ha (F:Fun K "holds_all" "holds_all" (top i_holds_all) f fd) (T:Nm mg):FnOk P w K mg base CX0 1 f fd ["held", "rests"] spHa:=by
 refine F.ok sc_holds_all (fun vs H Q E h => ?_) (fun cdv A outer s H vs Q E hr h => ?_)
 ·obtain ⟨d,p,kvs,rs,rfl,_⟩:=h
  rfl
 obtain ⟨d,p,kvs,rs,rfl,hd,hp,hl,q⟩:=h
 have hu:=hu_of hr
 refine ⟨_,(pss_one (ps_ret (pe_callB (allK K rfl) rfl T.n_all (by rfl) (pa_cons (pe_lcomp rfl (comp_ok (Nc:=["rest"]) (Fc:=["held"]) (js:=[0])) (piK K (pv 1)) (gk_name (i:=0) (n:=1) (by decide)) (fun _ _ _ _ _=>(pg_name (i:=0) (show (["rest", "held"]:List Str).Nodup by decide +kernel) rfl (Or.inl rfl))) (fun _ _ _ _ _=>pts_nil) (fun _ _ _ _ _=>(pe_cmp (pc_din hu (pv 0) (pv 1))))) pa_nil)))),?_⟩
 have at1:∀{i:Nat} (hi:i<rs.length),(rs.map V.str)[i]? = some (.str rs[i]):=fun hi=>by rw [List.getElem?_map,List.getElem?_eq_getElem hi];rfl
 refine ⟨_,rfl,p,rfl,⟨_,SqL.of hp⟩,?_⟩
 refine comp_go (N:=rs.length) (fun i ys H'=>H'=H∧ys=(rs.take i).map fun r=>V.bl ((valV kvs (.inr r)).isSome)) ⟨rfl,rfl⟩ ?_ ?_
 ·rintro i ys H1 Ny hi ⟨rfl,rfl⟩ ny
  refine ⟨⟨_,_,SqL.of hp,at1 hi⟩,by rw [List.length_map,List.length_take];exact Nat.lt_of_le_of_lt (show min i rs.length≤1000 by first|lia|omega) (by decide),?_⟩
  rintro y H2 ⟨rfl,hy⟩
  have e:=hy _ (SqL.of hp)
  rw [at1 hi] at e;cases e
  refine gn ⟨_,rfl,_,rfl,d,valV kvs (.inr rs[i]),rfl, .inl ⟨_, .inr rs[i],hd,rfl,rfl⟩,?_⟩
  refine ny _ _ ⟨rfl,?_⟩
  rw [take_next hi,List.map_append];rfl
 ·rintro ys H1 ⟨rfl,rfl⟩
  refine ⟨⟨_,SqL.of hp,by rw [List.length_map];exact Nat.le_refl _⟩,fun p3 hp3 => ?_⟩
  rw [List.take_length]
  have em:(rs.map fun r=>V.bl ((valV kvs (.inr r)).isSome))=(rs.map fun r=>(valV kvs (.inr r)).isSome).map V.bl:=by rw [List.map_map];rfl
  refine ⟨p3,_,rfl,SqL.of (by rw [em];exact upd_same),q _ _ ?_ (same_new hp3 _)⟩
  rw [List.all_map,List.all_eq_true]
  exact ⟨fun h r hr=>some_key.mp (h r hr),fun h r hr=>some_key.mpr (h r hr)⟩
end
end Z
namespace Z
open PySem L2 PyProof.Rows
noncomputable def RcJ (H:Hp) (l fp:Addr) (B:List (Str×Str)) (i:Nat) (σ:L2.St) (H':Hp):Prop:=
 ∃(x2 x3 x4:Option V) (rs:List Str), σ=[some (.ref l),some (.ref fp),x2,x3,x4]∧Same H H'∧H' fp=some (.lst (rs.map V.str))∧rs.length≤16*i∧∀r',r'∈rs ↔ ∃t',StaI B i t' r'
structure RoS (B:List (Str×Str)) (ks:List Key) (ws:List Str):Prop where
 nd:ks.Nodup
 ok:∀k∈ks,∃r,k = .inr r∧∃t,Rch B t r
 wk:∀r∈ws,∃t,Rch B t r
 st:∀t r,Sta B t r→r∈ws∨(.inr r:Key)∈ks
 ed:∀r,(.inr r:Key)∈ks→r ≠ "" → ∀z∈B,∀r',NxR z r r'→r'∈ws∨(.inr r':Key)∈ks
theorem RoS.all {B:List (Str×Str)} {ks:List Key} (h:RoS B ks []) {t r:Str} (hr:Rch B t r):(.inr r:Key)∈ks:=by
 induction hr with
 | start hs=>exact (h.st _ _ hs).resolve_left (fun z=>nomatch z)
 | step _ hne hz hn ih=>exact (h.ed _ ih hne _ hz _ hn.r).resolve_left (fun z=>nomatch z)
theorem RoS.drop {B:List (Str×Str)} {ks:List Key} {ws:List Str} {r:Str} (h:RoS B ks (ws++[r])) (hr:(.inr r:Key)∈ks):RoS B ks ws:=by
 have mv:∀{r':Str},(r'∈ws++[r]∨(.inr r':Key)∈ks)→r'∈ws∨(.inr r':Key)∈ks:=fun {r'} h=>by
  rcases h with h|h
  ·rcases List.mem_append.mp h with h|h
   ·exact .inl h
   ·rw [List.mem_singleton.mp h];exact .inr hr
  ·exact .inr h
 exact ⟨h.nd,h.ok,fun r' hr'=>h.wk r' (List.mem_append_left _ hr'),fun t r' hs=>mv (h.st t r' hs),fun r' hk hne z hz r2 hn=>mv (h.ed r' hk hne z hz r2 hn)⟩
theorem RoS.add {B:List (Str×Str)} {ks:List Key} {ws rs:List Str} {r:Str} (h:RoS B ks (ws++[r])) (hr:(.inr r:Key) ∉ ks) (hrs:r ≠ "" → ∀r',r'∈rs ↔ ∃z∈B,NxR z r r') (h0:r = "" → rs=[]):RoS B (ks++[.inr r]) (ws++rs):=by
 obtain ⟨t,ht⟩:=h.wk r (List.mem_append_right _ (List.mem_singleton.mpr rfl))
 have mv:∀{r':Str},(r'∈ws++[r]∨(.inr r':Key)∈ks)→r'∈ws++rs∨(.inr r':Key)∈ks++[.inr r]:=fun {r'} h=>by
  rcases h with h|h
  ·rcases List.mem_append.mp h with h|h
   ·exact .inl (List.mem_append_left _ h)
   ·rw [List.mem_singleton.mp h];exact .inr (List.mem_append_right _ (List.mem_singleton.mpr rfl))
  ·exact .inr (List.mem_append_left _ h)
 refine ⟨nd_snoc h.nd hr,fun k hk => ?_,fun r' hr' => ?_,fun t r' hs=>mv (h.st t r' hs),fun r' hk hne z hz r2 hn => ?_⟩
 ·rcases List.mem_append.mp hk with hk|hk
  ·exact h.ok k hk
  ·exact ⟨r,List.mem_singleton.mp hk,t,ht⟩
 ·rcases List.mem_append.mp hr' with hr'|hr'
  ·exact h.wk r' (List.mem_append_left _ hr')
  ·by_cases e:r = ""
   ·rw [h0 e] at hr';cases hr'
   ·obtain ⟨z,hz,hn⟩:=(hrs e r').mp hr'
    obtain ⟨t',hn⟩:=hn.nx t
    exact ⟨t', .step ht e hz hn⟩
 ·rcases List.mem_append.mp hk with hk|hk
  ·exact mv (h.ed r' hk hne z hz r2 hn)
  ·have e:=Sum.inr.inj (List.mem_singleton.mp hk)
   subst e
   exact .inl (List.mem_append_right _ ((hrs hne r2).mpr ⟨z,hz,hn⟩))
noncomputable def RoI (H:Hp) (l d wp:Addr) (B:List (Str×Str)) (m:Nat) (σ:L2.St) (H':Hp):Prop:=
 ∃(x3:Option V) (kvs:List (Key×V)) (ws:List Str), σ=[some (.ref l),some (.ref d),some (.ref wp),x3]∧m=((sfxs B).length-kvs.length)*17+ws.length∧m≤4000∧Same H H'∧H' d=some (.dK kvs)∧H' wp=some (.lst (ws.map V.str))∧RoS B (kvs.map (·.1)) ws
noncomputable def spRo (K:PySem.W.Frag):Sp:=fun vs H Q _=>∃(l:Addr) (B:List (Str×Str)),vs=[.ref l]∧BkL K H B l∧GoodN B ∧
 ∀(rs:List Str) (p:Addr) (H':Hp),Same H H'→H p=none→H' p=some (.lst (rs.map V.str))→rs.length≤300→rs.Nodup→(∀r,r∈rs ↔ ∃t,Rch B t r)→Q (.ref p) H'
theorem keys_strs {B:List (Str×Str)} : ∀{kvs:List (Key×V)},(∀k∈kvs.map (·.1),∃r,k = .inr r∧∃t,Rch B t r)→∃ts:List Str,kvs.map (·.1)=ts.map Sum.inr∧(kvs.map fun q=>kV q.1)=ts.map V.str
 | [],_=>⟨[],rfl,rfl⟩
 | q :: kvs,h=>by
  obtain ⟨ts,h1,h2⟩:=keys_strs (kvs:=kvs) fun k hk=>h k (List.mem_cons_of_mem _ hk)
  obtain ⟨r,e,_⟩:=h q.1 List.mem_cons_self
  refine ⟨r :: ts,by rw [List.map_cons,List.map_cons,h1,e],?_⟩
  rw [List.map_cons,List.map_cons,h2,e]
  rfl
section
variable {P:Program} {w:World} {K:PySem.W.Frag} {mg:Str→Option Value} {base:Heap} {f:Addr} {fd:FuncData}
theorem sc_rests_of_codes:FnScope ["book", "rests", "at", "name", "code"] ["book"] (defScope (top i_rests_of_codes)):=⟨rfl,rfl,rfl,by decide +kernel,rfl,by decide +kernel,by decide +kernel⟩
theorem ok_rc (F:Fun K "rests_of_codes" "rests_of_codes" (top i_rests_of_codes) f fd) (T:Nm mg) (f_rests_with:Fn P w K mg base 2 "rests_with" ["book", "text"] (spRw K)):FnOk P w K mg base CX0 3 f fd ["book"] (spRc K):=by
 refine F.ok sc_rests_of_codes (fun vs H Q E h => ?_) (fun cdv A outer s H vs Q E hr h => ?_)
 ·obtain ⟨l,B,rfl,_⟩:=h
  rfl
 obtain ⟨l,B,rfl,hB,gB,q⟩:=h
 refine ⟨_,(pss_cons (ps_set (i:=1) sc_rests_of_codes.nd rfl (Or.inl rfl) (lstN pa_nil))
  (pss_cons (ps_for PassesOwn.never rfl (enumK K rfl T.n_enumerate (pa_cons (pv 0) pa_nil)) (tupK K 2 rfl (pgs_cons (pg_name (i:=2) sc_rests_of_codes.nd rfl (Or.inl rfl)) (pgs_cons (tupK K 2 rfl (pgs_cons (pg_name (i:=3) sc_rests_of_codes.nd rfl (Or.inl rfl)) (pgs_cons (pg_name (i:=4) sc_rests_of_codes.nd rfl (Or.inl rfl)) pgs_nil))) pgs_nil))) (pss_one (ps_expr (bmK K PySem.F.plainAttrs_list PySem.F.slot_list_extend PySem.F.type_list_extend extendN (pv 1) (pa_cons (pe_fn (f_rests_with.mono (by first|decide|exact Nat.le_refl _|(first|lia|omega))) hr rfl (pa_cons (pe_slice (slN K) (pv 0) po_none (po_some (pv 2))) (pa_cons (pv 4) pa_nil))) pa_nil)))))
  (pss_one (ps_ret (pv 1))))),?_⟩
 refine ⟨by show 0≤sizeLine;decide,fun fp H1 n1=>gn ?_⟩
 dsimp only
 obtain ⟨vs,hl,hd⟩:=id hB
 have hlen:=bk_len hd
 have hle:=gB.le
 have hf0:H fp=none:=n1.nn
 refine seqCut (t:=tFor _ _ _) (RcJ H l fp B B.length) (fun Nn nx => ?_) ?_
 ·refine ⟨_,rfl,l,rfl,⟨_,n1.same.seq hl⟩,?_⟩
  refine for_go (N:=B.length) (RcJ H l fp B) ⟨_,_,_,[],rfl,n1.same,n1.at,Nat.le_refl _,fun r'=>⟨(fun h=>nomatch h),fun ⟨t',i,hi,h0,_⟩=>absurd h0 (Nat.not_lt_zero _)⟩⟩ ?_ ?_
  ·rintro i σ H2 hi ⟨x2,x3,x4,rs,rfl,sm,hf2,hal,hst⟩
   obtain ⟨tp,e1,e2⟩:=bk_at hd hi
   refine ⟨⟨_,_,sm.seq hl,e1⟩,?_⟩
   rintro x H3 ⟨t1,rfl,ht1,hy⟩
   have e:=hy _ _ (sm.seq hl) e1
   have n3:New H2 t1 (.tup [.int i, .ref tp]) H3:=⟨ht1,e⟩
   have hq:=List.getElem_mem hi
   have stI:∀{r':Str},(∃t',StaI B (i+1) t' r') ↔ (∃t',StaI B i t' r')∨∃y∈B.take i,NxR y B[i].2 r':=fun {r'}=>by
    constructor
    ·rintro ⟨t',j,hj,h1,y,hm,hn⟩
     by_cases e:j=i
     ·subst e;exact .inr ⟨y,hm,hn.r⟩
     ·exact .inl ⟨t',j,hj,by first|lia|omega,y,hm,hn⟩
    ·rintro (⟨t',j,hj,h1,y,hm,hn⟩|⟨y,hm,hn⟩)
     ·exact ⟨t',j,hj,by first|lia|omega,y,hm,hn⟩
     ·obtain ⟨t',hn⟩:=hn.nx B[i].2
      exact ⟨t',i,hi,by first|lia|omega,y,hm,hn⟩
   generalize B[i]=z at e2 hq stI
   have hz:=(gB.cd z hq).le
   have s3:=sm.trans n3.same
   refine ⟨t1,_,rfl,SqT.of n3.at,rfl,_,_,rfl,_,_,rfl,tp,_,rfl,s3.seqT e2,rfl,_,_,rfl,_,_,rfl,rfl,rfl,?_⟩
   refine ⟨_,rfl, .inl ⟨rfl,_,SqL.of (n3.same _ _ hf2)⟩,_,rfl,_,rfl,_,rfl, .inl ⟨l,_,rfl,s3.seq hl,fun p4 H4 n4 => ?_⟩⟩
   rw [cut_take vs i (by first|lia|omega)] at n4
   have s24:=n3.same.trans n4.same
   refine ⟨_,rfl,p4,z.2,B.take i,rfl,⟨_,SqL.of n4.at,?_⟩,by rw [List.length_take]; (first|lia|omega),fun y hy=>gB.cd y (List.mem_of_mem_take hy),by first|lia|omega,fun rs2 p8 H8 s8 hp8 h8 hl8 hiff => ?_⟩
   ·rw [List.map_take]
    exact dens_take i ((hd.same (sm.trans s24)))
   ·have hf8:=s8 _ _ (s24 _ _ hf2)
    refine ⟨fp,p8,_,_,rfl,rfl,hf8,h8,?_,fun H9 c9 => ?_⟩
    ·rw [List.length_map,List.length_map]
     rw [List.length_take] at hl8
     exact sizeOk (by first|lia|omega)
    ·have of9:Off fp H8 H9:=chgOff c9
     refine ⟨_,_,_,rs++rs2,rfl,fun b o e=>of9 b o (ne_of_none e hf0) (s8 _ _ (s24 _ _ (sm b o e))),by rw [c9.at,List.map_append],?_,fun r' => ?_⟩
     ·rw [List.length_append]
      rw [List.length_take] at hl8
      (first|lia|omega)
     ·rw [List.mem_append,stI,hst r',hiff r']
  ·rintro σ H2 ⟨x2,x3,x4,rs,rfl,sm,hf2,hal,hst⟩
   exact ⟨⟨_,sm.seq hl,by first|lia|omega⟩,nx _ _ ⟨_,_,_,rs,rfl,sm,hf2,hal,hst⟩⟩
 rintro σ H2 ⟨x2,x3,x4,rs,rfl,sm,hf2,hal,hst⟩
 refine ⟨_,rfl,q rs fp H2 sm hf0 hf2 (by first|lia|omega) fun r'=>(hst r').trans ⟨fun ⟨t',i,hi,_,h⟩=>⟨t',i,hi,h⟩,fun ⟨t',i,hi,h⟩=>⟨t',i,hi,hi,h⟩⟩⟩
theorem sc_rests_of:FnScope ["book", "found", "waiting", "rest"] ["book"] (defScope (top i_rests_of)):=⟨rfl,rfl,rfl,by decide +kernel,rfl,by decide +kernel,by decide +kernel⟩
theorem ok_ro (F:Fun K "rests_of" "rests_of" (top i_rests_of) f fd) (T:Nm mg) (n_sorted:mg "sorted" = none) (f_rests_of_codes:Fn P w K mg base 3 "rests_of_codes" ["book"] (spRc K)) (f_rests_with:Fn P w K mg base 2 "rests_with" ["book", "text"] (spRw K)) (f_length_first:Fn P w K mg base 1 "length_first" ["text"] spLf):FnOk P w K mg base CX0 4 f fd ["book"] (spRo K):=by
 obtain ⟨ky_length_first,fdk,FK_length_first,BK_length_first,_,GK_length_first⟩:=f_length_first.ex
 refine F.ok sc_rests_of (fun vs H Q E h => ?_) (fun cdv A outer s H vs Q E hr h => ?_)
 ·obtain ⟨l,B,rfl,_⟩:=h
  rfl
 obtain ⟨l,B,rfl,hB,gB,q⟩:=h
 have hu:=hu_of hr
 have hu6:=hr.units
 have hle:=gB.le
 have hsx:=sfxs_len gB.cd
 refine ⟨_,(pss_cons (ps_set (i:=1) sc_rests_of.nd rfl (Or.inl rfl) dnewN)
  (pss_cons (ps_set (i:=2) sc_rests_of.nd rfl (Or.inl rfl) (pe_fn (f_rests_of_codes.mono (by first|decide|exact Nat.le_refl _|(first|lia|omega))) hr rfl (pa_cons (pv 0) pa_nil)))
  (pss_cons (ps_while PassesOwn.never (pt_truth (pv 2) fun _=>rfl) (pss_cons (ps_set (i:=3) sc_rests_of.nd rfl (Or.inl rfl) (bm0K K PySem.F.plainAttrs_list PySem.F.slot_list_pop PySem.F.type_list_pop popN (pv 2)))
  (pss_one (ps_if (pt_cmp (pc_dnotin hu (pv 3) (pv 1))) (pss_cons (ps_dput hu (pv 1) (pv 3) pe_bl rfl)
  (pss_one (ps_if (pt_cmpR (neK K hu6) (pv 3) pe_str (nomark _)) (pss_one (ps_expr (bmK K PySem.F.plainAttrs_list PySem.F.slot_list_extend PySem.F.type_list_extend extendN (pv 2) (pa_cons (pe_fn (f_rests_with.mono (by first|decide|exact Nat.le_refl _|(first|lia|omega))) hr rfl (pa_cons (pv 0) (pa_cons (pv 3) pa_nil))) pa_nil)))) pss_nil))) pss_nil))))
  (pss_one (ps_ret (pe_callBK (sortedKT K (key_fn FK_length_first (hr.mono (by decide)) BK_length_first)) rfl n_sorted (by rfl) (pa_cons (pe_callTy (listD rfl) rfl T.n_list (by rfl) (pa_cons (pv 1) pa_nil)) pa_nil) (pk_cons (pe_glob (v := .ref ky_length_first) rfl GK_length_first rfl) pk_nil))))))),?_⟩
 refine fun d H1 n1=>gn ?_
 refine ⟨_,rfl,l,B,rfl,hB.same n1.same,gB,fun rs wp H2 s2 hw0 hw2 hrl hrs=>gn ?_⟩
 have hd2:=s2 _ _ n1.at
 have hwp0:H wp=none:=n1.back hw0
 have dw:d≠wp:=ne_of_none n1.at hw0
 dsimp only
 refine seqCut (t:=tWhile _ _) (fun σ H'=>∃(x3:Option V) (kvs:List (Key×V)), σ=[some (.ref l),some (.ref d),some (.ref wp),x3]∧Same H H'∧H' d=some (.dK kvs)∧RoS B (kvs.map (·.1)) []) (fun Nn nx => ?_) ?_
 ·refine whileGo (RoI H l d wp B) ⟨_,_,[],rs,rfl,rfl,by show (_-0)*17+_≤_; (first|lia|omega),n1.same.trans s2,hd2,hw2,⟨List.nodup_nil,(fun k hk=>nomatch hk),fun r hr => ?_,fun t r hs => .inl ((hrs r).mpr ⟨t,hs⟩),fun r hk=>nomatch hk⟩⟩ ?_
  ·obtain ⟨t,hs⟩:=(hrs r).mp hr
   exact ⟨t, .start hs⟩
  rintro m σ H3 ⟨x3,kvs,ws,rfl,rfl,hm,sm3,hd3,hw3,ro⟩
  have kl:∀{ks:List Key},RoS B ks ws→ks.length≤(sfxs B).length:=fun h=>keys_le h.nd fun k hk=>by
   obtain ⟨r,e,t,ht⟩:=h.ok k hk
   exact ⟨r,e,ht.sfx⟩
  refine ⟨_,rfl, !ws.isEmpty, .inl ⟨_,SqL.of hw3,by cases ws <;> rfl⟩,?_⟩
  rcases List.eq_nil_or_concat ws with rfl|⟨ws,r,rfl⟩
  ·exact iteF (nx _ _ ⟨_,kvs,rfl,sm3,hd3,ro⟩)
  rw [List.concat_eq_append] at hw3 ro kl ⊢
  have e1:(!(ws++[r]).isEmpty)=true:=by simp
  rw [e1]
  have hm':((sfxs B).length-kvs.length)*17+(ws++[r]).length≤4000:=by rw [List.concat_eq_append] at hm;exact hm
  rw [List.length_append,List.length_singleton] at hm' ⊢
  refine iteT ⟨fun σ' H'=>∃m',m'<((sfxs B).length-kvs.length)*17+(ws.length+1)∧RoI H l d wp B m' σ' H',fun _ _ h=>h,?_⟩
  have em:(ws++[r]).map V.str=ws.map V.str++[.str r]:=by rw [List.map_append];rfl
  rw [em] at hw3
  refine ⟨_,rfl, .inl ⟨rfl,_,SqL.of hw3⟩,wp,_, .str r,rfl,rfl,hw3,by simp,fun H4 c4=>gn ?_⟩
  rw [List.dropLast_concat] at c4
  have hd4:H4 d=some (.dK kvs):=by rw [c4.ne dw];exact hd3
  have sm4:Same H H4:=fun b o e=>by rw [c4.ne (ne_of_none e hwp0)];exact sm3 b o e
  have hkl:=keys_le ro.nd fun k hk=>by
   obtain ⟨r,e,t,ht⟩:=ro.ok k hk
   exact ⟨r,e,ht.sfx⟩
  rw [List.length_map] at hkl
  obtain ⟨tr,hR⟩:=ro.wk r (List.mem_append_right _ (List.mem_singleton.mpr rfl))
  have hrl:=hR.sfx.len gB.cd
  cases hv:valV kvs (.inr r) with
  | some v=>
   refine ⟨_,rfl,_,rfl,d,some v,rfl, .inl ⟨_, .inr r, .inl hd4,rfl,hv.symm⟩,_,rfl,iteF ⟨_,?_,_,kvs,ws,rfl,rfl,by first|lia|omega,sm4,hd4,c4.at,ro.drop (valV_in hv)⟩⟩
   (first|lia|omega)
  | none=>
   have hno:=valV_not hv
   refine ⟨_,rfl,_,rfl,d,none,rfl, .inl ⟨_, .inr r, .inl hd4,rfl,hv.symm⟩,_,rfl,iteT ⟨_,rfl,_,rfl,d,_,rfl, .inl ⟨kvs, .inr r,hd4,rfl,Nat.lt_of_le_of_lt (show kvs.length≤1000 by first|lia|omega) (by decide),rfl⟩,?_⟩⟩
   rw [putK_new _ hv]
   have c5:Chg H4 d (.dK (kvs++[(.inr r, .bl true)])) (upd H4 d (.dK (kvs++[(.inr r, .bl true)]))):=⟨rfl⟩
   generalize upd H4 d (.dK (kvs++[(.inr r, .bl true)]))=H5 at c5 ⊢
   have hw5:H5 wp=some (.lst (ws.map V.str)):=by rw [c5.ne (Ne.symm dw)];exact c4.at
   have sm5:Same H H5:=fun b o e=>by rw [c5.ne (ne_of_none e n1.nn)];exact sm4 b o e
   have ek:(kvs++[((.inr r:Key),V.bl true)]).map (·.1)=kvs.map (·.1)++[.inr r]:=by rw [List.map_append];rfl
   have lk:(kvs++[((.inr r:Key),V.bl true)]).length=kvs.length+1:=by rw [List.length_append];rfl
   have hnl:kvs.length+1≤(sfxs B).length:=by
    have:=keys_le (nd_snoc ro.nd hno) fun k hk=>(by
     rcases List.mem_append.mp hk with hk|hk
     ·obtain ⟨r,e,t,ht⟩:=ro.ok k hk
      exact ⟨r,e,ht.sfx⟩
     ·exact ⟨r,List.mem_singleton.mp hk,hR.sfx⟩)
    rw [List.length_append,List.length_map] at this
    exact this
   have ed:(!decide (V.str r=V.str (Str.ofString ""))) = !decide (r = ""):=congrArg (! ·) (decide_eq_decide.mpr ⟨fun h=>(by injection h),fun h=>by rw [h]⟩)
   refine ⟨_,rfl, .inl ⟨rfl,_,rfl,?_⟩⟩
   rw [ed]
   by_cases er:r = ""
   ·rw [decide_eq_true er]
    refine iteF ⟨((sfxs B).length-(kvs.length+1))*17+ws.length,by first|lia|omega,_,_,ws,rfl,by rw [lk],by first|lia|omega,sm5,c5.at,hw5,?_⟩
    rw [ek]
    have:=ro.add (rs:=[]) hno (fun h=>absurd er h) fun _=>rfl
    rwa [List.append_nil] at this
   ·rw [decide_eq_false er]
    refine iteT ⟨_,rfl, .inl ⟨rfl,_,SqL.of hw5⟩,_,rfl,_,rfl,l,r,B,rfl,hB.same sm5,hle,gB.cd,by first|lia|omega,fun rs2 p6 H6 s6 hp6 h6 hl6 hiff => ?_⟩
    refine ⟨wp,p6,_,_,rfl,rfl,s6 _ _ hw5,h6,by rw [List.length_map,List.length_map];exact sizeOk (by first|lia|omega),fun H7 c7 => ?_⟩
    refine ⟨((sfxs B).length-(kvs.length+1))*17+(ws.length+rs2.length),by first|lia|omega,_,_,ws++rs2,rfl,by rw [lk,List.length_append],by first|lia|omega,fun b o e=>by rw [c7.ne (ne_of_none e hwp0)];exact s6 _ _ (sm5 b o e),by rw [c7.ne dw];exact s6 _ _ c5.at,by rw [c7.at,List.map_append],?_⟩
    rw [ek]
    exact ro.add hno (fun _=>hiff) fun h=>absurd h er
 rintro σ H3 ⟨x3,kvs,rfl,sm3,hd3,ro⟩
 obtain ⟨ts,e1,e2⟩:=keys_strs ro.ok
 have hkl:=keys_le ro.nd fun k hk=>by
  obtain ⟨r,e,t,ht⟩:=ro.ok k hk
  exact ⟨r,e,ht.sfx⟩
 have tl:ts.length=kvs.length:=by
  have:=congrArg List.length e1
  rw [List.length_map,List.length_map] at this
  exact this.symm
 rw [List.length_map] at hkl
 have mem:∀r,r∈ts ↔ ∃t,Rch B t r:=fun r=>by
  have e3:(.inr r:Key)∈kvs.map (·.1) ↔ r∈ts:=by
   rw [e1,List.mem_map]
   exact ⟨fun ⟨y,hy,e⟩=>Sum.inr.inj e ▸ hy,fun h=>⟨r,h,rfl⟩⟩
  refine e3.symm.trans ⟨fun h => ?_,fun ⟨t,h⟩=>ro.all h⟩
  obtain ⟨r',e,t,ht⟩:=ro.ok _ h
  rw [Sum.inr.inj e];exact ⟨t,ht⟩
 have tnd:ts.Nodup:=inr_nd e1 ro.nd
 refine ⟨_,rfl,d,kvs,rfl,hd3,fun p4 H4 n4 => ?_⟩
 rw [e2] at n4
 refine ⟨p4,ts,rfl,rfl,SqL.of n4.at,fun t ht Hj => ?_,fun us p5 H5 perm _ s5 hp5 h5 => ?_⟩
 ·obtain ⟨u,hu⟩:=(mem t).mp ht
  have:=hu.sfx.len gB.cd
  exact ⟨t,rfl,by first|lia|omega,fun z H' n=>⟨z,rfl,n⟩⟩
 ·refine q us p5 H5 (sm3.trans (n4.same.trans s5)) ?_ h5 (by rw [perm.length_eq]; (first|lia|omega)) (perm.nodup_iff.mpr tnd) fun r=>(perm.mem_iff).trans (mem r)
  cases e:H p5 with
  | none=>rfl
  | some o=>rw [n4.same _ _ (sm3 _ _ e)] at hp5;cases hp5
end
end Z
namespace Z
open PySem L2 PyProof.Rows
noncomputable def spO1 (K:PySem.W.Frag):Sp:=fun vs H Q _=>∃(l p:Addr) (B:List (Str×Str)) (rs:List Str),vs=[.ref l, .ref p]∧BkL K H B l∧GoodN B∧H p=some (.lst (rs.map V.str))∧rs.length≤300∧rs.Nodup∧(∀r,r∈rs ↔ ∃t,Rch B t r) ∧
 ∀b H',(b=true ↔ ("" : Str) ∉ rs)→Same H H'→Q (.bl b) H'
section
variable {P:Program} {w:World} {K:PySem.W.Frag} {mg:Str→Option Value} {base:Heap} {f:Addr} {fd:FuncData}
theorem sc_shows_one:FnScope ["book", "thing", "held"] ["book", "thing"] (defScope (top i_shows_one)):=⟨rfl,rfl,rfl,by decide +kernel,rfl,by decide +kernel,by decide +kernel⟩
theorem ok_o1 (F:Fun K "shows_one" "shows_one" (top i_shows_one) f fd) (T:Nm mg) (f_is_code:Fn P w K mg base 2 "is_code" ["thing"] spIsc) (f_holds_all:Fn P w K mg base 1 "holds_all" ["held", "rests"] spHa) (f_rests_of_codes:Fn P w K mg base 3 "rests_of_codes" ["book"] (spRc K)) (f_rests_with:Fn P w K mg base 2 "rests_with" ["book", "text"] (spRw K)):FnOk P w K mg base CX0 4 f fd ["book", "thing"] (spO1 K):=by
 refine F.ok sc_shows_one (fun vs H Q E h => ?_) (fun cdv A outer s H vs Q E hr h => ?_)
 ·obtain ⟨l,p,B,rs,rfl,_⟩:=h
  rfl
 obtain ⟨l,p,B,rs,rfl,hB,gB,hp,hrl,rnd,mem,q⟩:=h
 have hu:=hu_of hr
 have hle:=gB.le
 have at1:∀{i:Nat} (hi:i<rs.length),(rs.map V.str)[i]? = some (.str rs[i]):=fun hi=>by rw [List.getElem?_map,List.getElem?_eq_getElem hi];rfl
 have rin:∀{r:Str},r∈rs→Bin r∧r.length≤12:=fun h=>by
  obtain ⟨t,ht⟩:=(mem _).mp h
  exact ⟨ht.sfx.bin gB.cd,ht.sfx.len gB.cd⟩
 refine ⟨_,(pss_cons (ps_if (PW.pt (pw_or (pt_not (pt_val (pe_callB (isiK K) rfl T.n_isinstance (by rfl) (pa_cons (pv 1) (pa_cons (pe_bltn rfl T.n_list (by rfl) (v := .ty "list") rfl) pa_nil))))) (pw_or1 (pt_not (pt_val (pe_callB (allK K rfl) rfl T.n_all (by rfl) (pa_cons (pe_lcomp rfl (comp_ok (Nc:=["text"]) (Fc:=[]) (js:=[])) (piK K (pv 1)) (gk_name (i:=0) (n:=1) (by decide)) (fun _ _ _ _ _=>(pg_name (i:=0) (show (["text"]:List Str).Nodup by decide +kernel) rfl (Or.inl rfl))) (fun _ _ _ _ _=>pts_nil) (fun _ _ _ _ _=>(pe_fn (f_is_code.mono (by first|decide|exact Nat.le_refl _|(first|lia|omega))) hr rfl (pa_cons (pv 0) pa_nil)))) pa_nil))))))) (pss_one (ps_ret pe_bl)) pss_nil)
  (pss_cons (ps_set (i:=2) sc_shows_one.nd rfl (Or.inr rfl) (pe_dcomp rfl (comp_ok (Nc:=["text"]) (Fc:=[]) (js:=[])) (piK K (pv 1)) (gk_name (i:=0) (n:=1) (by decide)) (fun _ _ _ _ _=>(pg_name (i:=0) (show (["text"]:List Str).Nodup by decide +kernel) rfl (Or.inl rfl))) (fun _ _ _ _ _=>pts_nil) (fun _ _ _ _ _=>(pv 0)) (fun _ _ _ _ _=>pe_bl)))
  (pss_cons (ps_if (pt_not (pt_val (pe_fn (f_holds_all.mono (by first|decide|exact Nat.le_refl _|(first|lia|omega))) hr rfl (pa_cons (pv 2) (pa_cons (pe_fn (f_rests_of_codes.mono (by first|decide|exact Nat.le_refl _|(first|lia|omega))) hr rfl (pa_cons (pv 0) pa_nil)) pa_nil))))) (pss_one (ps_ret pe_bl)) pss_nil)
  (pss_one (ps_ret (pe_callB (allK K rfl) rfl T.n_all (by rfl) (pa_cons (pe_thaw (pe_lcomp rfl (comp_ok (Nc:=["text"]) (Fc:=["held", "book"]) (js:=[2,0])) (pi_dkeys (pv 2)) (gk_name (i:=0) (n:=1) (by decide)) (fun _ _ _ _ _=>(pg_name (i:=0) (show (["text", "held", "book"]:List Str).Nodup by decide +kernel) rfl (Or.inl rfl))) (fun _ _ _ _ _=>pts_nil) (fun _ _ _ _ _=>(pe_fn (f_holds_all.mono (by first|decide|exact Nat.le_refl _|(first|lia|omega))) hr rfl (pa_cons (pv 1) (pa_cons (pe_fn (f_rests_with.mono (by first|decide|exact Nat.le_refl _|(first|lia|omega))) hr rfl (pa_cons (pv 2) (pa_cons (pv 0) pa_nil))) pa_nil)))))) pa_nil))))))),?_⟩
 refine ⟨_,rfl, .inl ⟨_, "list", .list (rs.map PyData.str),_,rfl,Den.list (SqL.of hp) (Den.strs _),(kitT K (.list _)).2.2.2.1,_,rfl,iteF ?_⟩⟩
 refine ⟨_,rfl,p,rfl,⟨_,SqL.of hp⟩,?_⟩
 refine comp_go (N:=rs.length) (fun i ys H'=>H'=H∧ys=((rs.take i).map fun r:Str => !decide (r = "")).map V.bl) ⟨rfl,rfl⟩ ?_ ?_
 ·rintro i ys H1 Ny hi ⟨rfl,rfl⟩ ny
  refine ⟨⟨_,_,SqL.of hp,at1 hi⟩,by rw [List.length_map,List.length_map,List.length_take];exact Nat.lt_of_le_of_lt (show min i rs.length≤1000 by first|lia|omega) (by decide),?_⟩
  rintro y H2 ⟨rfl,hy⟩
  have e:=hy _ (SqL.of hp)
  rw [at1 hi] at e;cases e
  obtain ⟨b1,b2⟩:=rin (List.getElem_mem hi)
  refine gn ⟨_,rfl,rs[i],rfl,by first|lia|omega,b1,ny _ _ ⟨rfl,?_⟩⟩
  rw [take_next hi,List.map_append,List.map_append];rfl
 ·rintro ys H1 ⟨rfl,rfl⟩
  refine ⟨⟨_,SqL.of hp,by rw [List.length_map];exact Nat.le_refl _⟩,fun p3 hp3 => ?_⟩
  rw [List.take_length]
  have n3:New H1 p3 (.lst ((rs.map fun r:Str => !decide (r = "")).map V.bl)) (upd H1 p3 (.lst ((rs.map fun r:Str => !decide (r = "")).map V.bl))):=⟨hp3,rfl⟩
  generalize upd H1 p3 (.lst ((rs.map fun r:Str => !decide (r = "")).map V.bl))=H3 at n3 ⊢
  refine ⟨p3,_,rfl,SqL.of n3.at,_,rfl,?_⟩
  by_cases hE:("" : Str)∈rs
  ·have e:(rs.map fun r:Str => !decide (r = "")).all id=false:=by
    rw [List.all_map,List.all_eq_false]
    exact ⟨("" : Str),hE,by decide⟩
   rw [e]
   exact iteT ((q false H3 ⟨(fun h=>nomatch h),fun h=>absurd hE h⟩ n3.same))
  have e:(rs.map fun r:Str => !decide (r = "")).all id=true:=by
   rw [List.all_map,List.all_eq_true]
   intro r hr
   have:r ≠ "":=fun z=>hE (z ▸ hr)
   show (!decide (r = ""))=true
   rw [decide_eq_false this];rfl
  rw [e]
  refine iteF ?_
  have hp3':=n3.same _ _ hp
  dsimp only [tNext]
  refine asgCut (te:=tDComp _ _ _ _ _ _ _) (fun v H'=>∃D,v = .ref D∧New H3 D (.dK (rs.map fun r=>((.inr r:Key),V.bl true))) H') (fun Qn qn => ?_) ?_
  ·refine ⟨_,rfl,p,rfl,⟨_,SqL.of hp3'⟩,fun D hD => ?_⟩
   refine ⟨fun i m H'=>m=rs.length-i∧i≤rs.length∧H'=upd H3 D (.dK ((rs.take i).map fun r=>((.inr r:Key),V.bl true))),⟨_,rfl,Nat.zero_le _,rfl⟩,?_⟩
   rintro i m H' ⟨rfl,hi,rfl⟩
   have sm:Same H3 (upd H3 D (.dK ((rs.take i).map fun r=>((.inr r:Key),V.bl true)))):=same_new hD _
   by_cases hlt:i<rs.length
   ·refine .inr ⟨⟨_,_,sm.seq (SqL.of hp3'),at1 hlt⟩,?_⟩
    rintro y H4 ⟨rfl,hy⟩
    have e:=hy _ (sm.seq (SqL.of hp3'))
    rw [at1 hlt] at e;cases e
    refine gn ?_
    dsimp only [tYes]
    rw [if_pos rfl]
    refine ⟨_,rfl,(rs.take i).map fun r=>((.inr r:Key),V.bl true), .inr rs[i],upd_same,rfl,?_,rs.length-(i+1),by first|lia|omega,rfl,hlt,?_⟩
    ·rw [List.length_map,List.length_take]
     exact Nat.lt_of_le_of_lt (show min i rs.length≤20000 by first|lia|omega) (by decide)
    ·rw [putK_new _ (val_none fun y hy e => ?_),upd_upd,take_next hlt,List.map_append]
     ·rfl
     ·have e:=Sum.inr.inj e
      obtain ⟨j,hj,rfl⟩:=List.mem_iff_getElem.mp hy
      rw [List.length_take] at hj
      rw [List.getElem_take] at e
      have:=(List.getElem_inj rnd).mp e
      (first|lia|omega)
   ·have e:i=rs.length:=by (first|lia|omega)
    subst e
    rw [List.take_length]
    exact .inl ⟨⟨_,(same_new hD _).seq (SqL.of hp3'),by rw [List.length_map];exact Nat.le_refl _⟩,qn _ _ ⟨D,rfl,hD,rfl⟩⟩
  rintro v H4 ⟨D,rfl,n4⟩
  refine gn ?_
  have ek:(rs.map fun r=>((.inr r:Key),V.bl true)).map (·.1)=rs.map Sum.inr:=by rw [List.map_map];rfl
  have kin:∀{r:Str},(.inr r:Key)∈(rs.map fun r=>((.inr r:Key),V.bl true)).map (·.1) ↔ r∈rs:=fun {r}=>by
   rw [ek,List.mem_map]
   exact ⟨fun ⟨y,hy,e⟩=>Sum.inr.inj e ▸ hy,fun h=>⟨r,h,rfl⟩⟩
  have sm4:=n3.same.trans n4.same
  have hD0:H1 D=none:=n3.back n4.nn
  refine ⟨_,rfl,_,rfl,l,B,rfl,hB.same sm4,gB,fun rs2 p5 H5 s5 hp5 h5 hl5 hiff => ?_⟩
  refine ⟨D,p5,_,rs2,rfl, .inl (s5 _ _ n4.at),h5,by first|lia|omega,fun b H6 hb s6 => ?_⟩
  have eb:b=true:=hb.mpr fun r hr=>kin.mpr ((mem r).mpr (by obtain ⟨t,ht⟩:=(hiff r).mp hr;exact ⟨t, .start ht⟩))
  rw [eb]
  refine ⟨_,rfl,iteF ?_⟩
  dsimp only [tNext]
  have hD6:=s6 _ _ (s5 _ _ n4.at)
  have sm6:=sm4.trans (s5.trans s6)
  refine ⟨D,⟨_,hD6⟩,_,rfl,D,_,rfl,hD6,fun ob => ?_⟩
  have kl:(rs.map fun r=>((.inr r:Key),V.bl true)).length=rs.length:=List.length_map _
  have atk:∀{i:Nat} (hi:i<rs.length),(rs.map fun r=>((.inr r:Key),V.bl true))[i]? = some (.inr rs[i], .bl true):=fun hi=>by rw [List.getElem?_map,List.getElem?_eq_getElem hi];rfl
  generalize hkv:(rs.map fun r=>((.inr r:Key),V.bl true))=kvs at kl atk kin hD6
  have smF:∀{H':Hp},Same (upd H6 D (.frz ob (.dK kvs))) H'→Same H1 H':=fun s b o e=>s b o (by rw [upd_ne (ne_of_none e hD0)];exact sm6 b o e)
  refine comp_go (N:=rs.length) (fun i ys H'=>Same (upd H6 D (.frz ob (.dK kvs))) H'∧ys=(List.replicate i true).map V.bl) ⟨Same.refl _,rfl⟩ ?_ ?_
  ·rintro i ys H7 Ny hi ⟨s7,rfl⟩ ny
   refine ⟨⟨s7 _ _ upd_same,by first|lia|omega⟩,by rw [List.length_map,List.length_replicate];exact Nat.lt_of_le_of_lt (show i≤1000 by first|lia|omega) (by decide),?_⟩
   rintro y H8 ⟨rfl,z,hz,rfl⟩
   rw [atk hi] at hz
   cases hz
   have hr:=List.getElem_mem hi
   obtain ⟨b1,b2⟩:=rin hr
   generalize rs[i]=r at hr b1 b2
   refine gn ⟨_,rfl,_,rfl,_,rfl,l,r,B,rfl,hB.same (smF s7),hle,gB.cd,by first|lia|omega,fun rs3 p9 H9 s9 hp9 h9 hl9 hiff9 => ?_⟩
   refine ⟨D,p9,kvs,rs3,rfl, .inr ⟨ob,s9 _ _ (s7 _ _ upd_same)⟩,h9,by first|lia|omega,fun b9 H10 hb9 s10 => ?_⟩
   have e9:b9=true:=hb9.mpr fun r' hr'=>kin.mpr ((mem r').mpr (by
    obtain ⟨z,hz,hn⟩:=(hiff9 r').mp hr'
    obtain ⟨t,ht⟩:=(mem r).mp hr
    obtain ⟨t',hn⟩:=hn.nx t
    exact ⟨t', .step ht (fun z=>hE (z ▸ hr)) hz hn⟩))
   rw [e9]
   refine ny _ _ ⟨s7.trans (s9.trans s10),?_⟩
   rw [List.replicate_succ',List.map_append];rfl
  ·rintro ys H7 ⟨s7,rfl⟩
   refine ⟨⟨s7 _ _ upd_same,by first|lia|omega⟩,fun p8 hp8 => ?_⟩
   have hF:=s7 _ _ (upd_same (H:=H6) (a:=D) (o := .frz ob (.dK kvs)))
   have dp:D≠p8:=fun z=>by rw [z,hp8] at hF;cases hF
   refine ⟨ob,kvs,by rw [upd_ne dp];exact hF,p8,List.replicate rs.length true,rfl,SqL.of (by rw [upd_ne (Ne.symm dp)];exact upd_same),?_⟩
   have ea:(List.replicate rs.length true).all id=true:=by
    rw [List.all_eq_true]
    intro x hx
    rw [(List.mem_replicate.mp hx).2];rfl
   rw [ea]
   refine q true _ ⟨fun _=>hE,fun _=>rfl⟩ fun b o e => ?_
   rw [upd_ne (ne_of_none e hD0)]
   have h7:=smF s7 b o e
   rw [upd_ne (ne_of_none h7 hp8)]
   exact h7
end
end Z
namespace Z
open PySem L2 PyProof.Rows
theorem free_rf {B:List (Str×Str)} (h:Free (B.map (·.2))) {a b:Str×Str} (ha:a∈B) (hb:b∈B) (ne:a≠b):RF a.2 b.2:=by
 obtain ⟨i,hi,rfl⟩:=List.mem_iff_getElem.mp ha
 obtain ⟨j,hj,rfl⟩:=List.mem_iff_getElem.mp hb
 have h:=List.pairwise_iff_getElem.mp h
 rcases Nat.lt_trichotomy i j with hij|hij|hij
 ·have:=h i j (by rw [List.length_map];exact hi) (by rw [List.length_map];exact hj) hij
  rw [List.getElem_map,List.getElem_map] at this
  exact this
 ·subst hij;exact absurd rfl ne
 ·have:=h j i (by rw [List.length_map];exact hj) (by rw [List.length_map];exact hi) hij
  rw [List.getElem_map,List.getElem_map] at this
  exact this.symm
theorem free_one {B:List (Str×Str)} (cd:∀q∈B,CodeOk 12 q.2) (hf:∀a∈B,∀b∈B,a≠b→RF a.2 b.2) (u:Str):¬Amb B u:=by
 rintro ⟨ps,qs,o1,o2,hne,e1,e2⟩
 obtain ⟨c,a,b,ps',qs',rfl,rfl,hab⟩:=Amb.strip cd o1 o2 hne (e1.trans e2.symm)
 rw [tx_app] at e1 e2
 have e3:=List.append_cancel_left (e1.trans e2.symm)
 rw [tx_cons,tx_cons] at e3
 have rf:=hf a (o1 a (List.mem_append_right _ List.mem_cons_self)) b (o2 b (List.mem_append_right _ List.mem_cons_self)) hab
 rcases List.prefix_or_prefix_of_prefix (l₁:=sg a.2) (l₂:=sg b.2) (l₃:=sg a.2++tx ps') (List.prefix_append _ _) (e3 ▸ List.prefix_append _ _) with z|z
 ·exact rf.1 z
 ·exact rf.2 z
noncomputable def rvE (q:Str×Str):Str×Str:=(q.1,⟨(sg q.2).reverse.toArray⟩)
theorem rvE_sg (q:Str×Str):sg (rvE q).2=(sg q.2).reverse:=by show sg (⟨(sg q.2).reverse.toArray⟩:Str)=_;simp
theorem rvE_inj {a b:Str×Str} (h:rvE a=rvE b):a=b:=by
 have h1:a.1=b.1:=congrArg (·.1) h
 have h2:sg (rvE a).2=sg (rvE b).2:=by rw [h]
 rw [rvE_sg,rvE_sg] at h2
 exact Prod.ext h1 (str_eq (List.reverse_inj.mp h2))
theorem tx_rev:∀ps:List (Str×Str),tx (ps.reverse.map rvE)=(tx ps).reverse
 | []=>rfl
 | q :: ps=>by
  rw [List.reverse_cons,List.map_append,tx_app,tx_rev ps,tx_cons,List.reverse_append]
  rw [List.map_cons,List.map_nil,tx_one,rvE_sg]
theorem Amb.rev {B:List (Str×Str)} {u:Str} (h:Amb B u):Amb (B.map rvE) ⟨(sg u).reverse.toArray⟩:=by
 obtain ⟨ps,qs,o1,o2,hne,e1,e2⟩:=h
 have of:∀{ps:List (Str×Str)},Of B ps→Of (B.map rvE) (ps.reverse.map rvE):=fun o y hy=>by
  obtain ⟨z,hz,rfl⟩:=List.mem_map.mp hy
  exact List.mem_map_of_mem (o z (List.mem_reverse.mp hz))
 have inj:∀(a b:List (Str×Str)),a.map rvE=b.map rvE→a=b:=fun a b h=>by
  induction a generalizing b with
  | nil=>cases b with|nil=>rfl|cons _ _=>cases h
  | cons x a ih=>
   cases b with
   | nil=>cases h
   | cons y b=>
    rw [List.map_cons,List.map_cons] at h
    injection h with h1 h2
    rw [rvE_inj h1,ih _ h2]
 refine ⟨_,_,of o1,of o2,fun z=>hne (List.reverse_inj.mp (inj _ _ z)),?_,?_⟩
 ·rw [tx_rev,e1]
 ·rw [tx_rev,e2]
theorem free_back {B:List (Str×Str)} (cd:∀q∈B,CodeOk 12 q.2) (hf:∀a∈B,∀b∈B,a≠b→RF (rvE a).2 (rvE b).2) (u:Str):¬Amb B u:=fun h=>by
 refine free_one (B:=B.map rvE) (fun q hq => ?_) (fun a ha b hb ne => ?_) _ h.rev
 ·obtain ⟨z,hz,rfl⟩:=List.mem_map.mp hq
  have c:=cd z hz
  have hl:(rvE z).2.length=z.2.length:=by
   rw [str_len,str_len]
   show (sg (rvE z).2).length=(sg z.2).length
   rw [rvE_sg,List.length_reverse]
  exact ⟨fun ch hc=>c.bin ch (by have hc:ch∈sg (rvE z).2:=hc;rw [rvE_sg] at hc;exact List.mem_reverse.mp hc),by rw [hl];exact c.pos,by rw [hl];exact c.le⟩
 ·obtain ⟨x,hx,rfl⟩:=List.mem_map.mp ha
  obtain ⟨y,hy,rfl⟩:=List.mem_map.mp hb
  exact hf x hx y hy fun z=>ne (by rw [z])
noncomputable def Lst (B:List (Str×Str)) (x:Str):Prop:=Amb B x∧∀u,Amb B u→¬lfLt u x
theorem Lst.one {B:List (Str×Str)} {x y:Str} (h:Lst B x) (g:Lst B y):x=y:=lf_anti (g.2 x h.1) (h.2 y g.1)
theorem rep_tx {B:List (Str×Str)} (h:∀q∈B,∀ch∈sg q.2,ch=48) {ps:List (Str×Str)} (o:Of B ps):tx ps=List.replicate (tx ps).length 48:=by
 refine List.eq_replicate_iff.mpr ⟨rfl,fun ch hc => ?_⟩
 obtain ⟨r,hr,hc⟩:=List.mem_flatMap.mp hc
 exact h r (o r hr) ch hc
theorem tx_reps {a:Str×Str} : ∀(k:Nat),(tx (List.replicate k a)).length=k*(sg a.2).length
 | 0=>by simp [tx]
 | k+1=>by rw [List.replicate_succ,tx_cons,List.length_append,tx_reps k,Nat.succ_mul,Nat.add_comm]
theorem all_a {a b:Str×Str} {B:List (Str×Str)} (hB:∀q∈B,q=a∨q=b):∀{ps:List (Str×Str)},Of B ps→(tx ps).length<(sg b.2).length→ps=List.replicate ps.length a
 | [],_,_=>rfl
 | q :: ps,o,h=>by
  rw [tx_cons,List.length_append] at h
  have ih:=all_a hB (ps:=ps) (fun y hy=>o y (List.mem_cons_of_mem _ hy)) (by first|lia|omega)
  rcases hB q (o q List.mem_cons_self) with rfl|rfl
  ·rw [List.length_cons,List.replicate_succ, ←ih]
  ·(first|lia|omega)
theorem noughts {B:List (Str×Str)} {a b:Str×Str} {s l size:Nat} (ha:a∈B) (hb:b∈B) (hB:∀q∈B,q=a∨q=b) (hab:a≠b) (ea:sg a.2=List.replicate s 48) (eb:sg b.2=List.replicate l 48) (cd:∀q∈B,CodeOk 12 q.2) (h1:1≤s) (hsl:s<l)
  (hsz:size=if l % s=0 then l else l+s) {x:Str} (ex:sg x=List.replicate size 48):Lst B x:=by
 have la:(sg a.2).length=s:=by rw [ea,List.length_replicate]
 have lb:(sg b.2).length=l:=by rw [eb,List.length_replicate]
 have z48:∀q∈B,∀ch∈sg q.2,ch=48:=fun q hq ch hc=>by
  rcases hB q hq with rfl|rfl
  ·rw [ea] at hc;exact (List.mem_replicate.mp hc).2
  ·rw [eb] at hc;exact (List.mem_replicate.mp hc).2
 have ofr:∀k,Of B (List.replicate k a):=fun k y hy=>by rw [(List.mem_replicate.mp hy).2];exact ha
 have of2:∀{y z:Str×Str},y∈B→z∈B→Of B [y,z]:=fun hy hz q hq=>by
  rcases List.mem_cons.mp hq with rfl|hq
  ·exact hy
  ·rw [List.mem_singleton.mp hq];exact hz
 refine ⟨?_,fun u hu => ?_⟩
 ·by_cases d:l % s=0
  ·rw [if_pos d] at hsz
   have hk:l / s*s=l:=Nat.div_mul_cancel (Nat.dvd_of_mod_eq_zero d)
   refine ⟨List.replicate (l / s) a,[b],ofr _,of_one hb,fun z => ?_,?_,?_⟩
   ·have:b∈List.replicate (l / s) a:=z ▸ List.mem_singleton.mpr rfl
    exact hab (List.mem_replicate.mp this).2.symm
   ·rw [rep_tx z48 (ofr _),tx_reps,la,hk,ex,hsz]
   ·rw [tx_one,eb,ex,hsz]
  ·rw [if_neg d] at hsz
   have two:∀{y z:Str×Str},y∈B→z∈B→(sg y.2).length+(sg z.2).length=size→tx [y,z]=sg x:=fun {y z} hy hz e=>by
    rw [rep_tx z48 (of2 hy hz),tx_cons,tx_one,List.length_append,e,ex]
   exact ⟨[a,b],[b,a],of2 ha hb,of2 hb ha,fun z=>hab (by injection z),two ha hb (by first|lia|omega),two hb ha (by first|lia|omega)⟩
 ·obtain ⟨ps,qs,o1,o2,hne,e1,e2⟩:=hu
  have eu:sg u=List.replicate (sg u).length 48:=by rw [←e1];exact rep_tx z48 o1
  have lx:x.length=size:=by rw [str_len];show (sg x).length=size;rw [ex,List.length_replicate]
  have lu:u.length=(sg u).length:=str_len u
  have key:size≤(sg u).length:=by
   obtain ⟨c,e,g,ps',qs',rfl,rfl,heg⟩:=Amb.strip cd o1 o2 hne (e1.trans e2.symm)
   rw [tx_app] at e1 e2
   have e3:=List.append_cancel_left (e1.trans e2.symm)
   have oe:=o1 e (List.mem_append_right _ List.mem_cons_self)
   have og:=o2 g (List.mem_append_right _ List.mem_cons_self)
   have op:Of B ps':=fun y hy=>o1 y (List.mem_append_right _ (List.mem_cons_of_mem _ hy))
   have oq:Of B qs':=fun y hy=>o2 y (List.mem_append_right _ (List.mem_cons_of_mem _ hy))
   have hl:(tx (e :: ps')).length≤(sg u).length:=by rw [←e1,List.length_append]; (first|lia|omega)
   have main:∀{ps qs:List (Str×Str)},Of B ps→Of B qs→tx (a :: ps)=tx (b :: qs)→size≤(tx (a :: ps)).length:=fun {ps qs} op oq e=>by
    have hlen:=congrArg List.length e
    rw [tx_cons,tx_cons,List.length_append,List.length_append,la,lb] at hlen
    rw [tx_cons,List.length_append,la]
    by_cases d:l % s=0
    ·rw [if_pos d] at hsz; (first|lia|omega)
    ·rw [if_neg d] at hsz
     cases qs with
     | nil=>
      rw [tx_nil,List.length_nil] at hlen
      have h2:=all_a hB (ps:=ps) op (by rw [lb]; (first|lia|omega))
      rw [h2,tx_reps,la] at hlen
      refine absurd ?_ d
      have:l=(ps.length+1)*s:=by rw [Nat.succ_mul]; (first|lia|omega)
      rw [this,Nat.mul_mod_left]
     | cons q qs=>
      have hq:s≤(sg q.2).length:=by
       rcases hB q (oq q List.mem_cons_self) with rfl|rfl
       ·rw [la];exact Nat.le_refl _
       ·rw [lb]; (first|lia|omega)
      rw [tx_cons,List.length_append] at hlen
      (first|lia|omega)
   rcases hB e oe with rfl|rfl <;> rcases hB g og with rfl|rfl
   ·exact absurd rfl heg
   ·exact Nat.le_trans (main op oq e3) hl
   ·have:=main oq op e3.symm
    rw [←e3] at this
    exact Nat.le_trans this hl
   ·exact absurd rfl heg
  rintro (z|⟨z1,z2⟩)
  ·(first|lia|omega)
  ·have z2:sg u<sg x:=z2
   rw [ex,eu,show (sg u).length=size by first|lia|omega] at z2
   exact List.lt_irrefl _ z2
end Z
namespace Z
open PySem L2 PyProof.Rows
theorem GoodN.name {bk:List (Str×Str)} (g:GoodN bk) {q:Str×Str} (h:q∈bk):valV (byName bk) (.inr q.1)=some (.str q.2):=
 val_map (f:=fun q:Str×Str=>((.inr q.1:Key),V.str q.2)) h rfl fun y hy e=>by
  rw [one_of g.nm hy h (by injection e)]
theorem name_none {bk:List (Str×Str)} {n:Str} (h:n ∉ bk.map (·.1)):valV (byName bk) (.inr n)=none:=
 val_none fun y hy e=>h (by injection e with e;rw [←e];exact List.mem_map_of_mem hy)
theorem txn_len {bk ps:List (Str×Str)} (g:GoodN bk) (o:Of bk ps):(tx ps).length≤12*ps.length:=by
 induction ps with
 | nil=>exact Nat.le_refl _
 | cons q ps ih=>
  have h1:=ih fun r hr=>o r (List.mem_cons_of_mem _ hr)
  have h2:=(g.cd q (o q List.mem_cons_self)).le
  rw [str_len] at h2
  show (sg q.2++tx ps).length≤_
  rw [List.length_append,List.length_cons]
  have h2:(sg q.2).length≤12:=h2
  (first|lia|omega)
noncomputable def bad (bk:List (Str×Str)) (ns:List Str):List Str:=ns.filter fun n => !decide (n∈bk.map (·.1))
theorem bad_nil {bk:List (Str×Str)} {ns:List Str} : bad bk ns=[] ↔ ∀n∈ns,n∈bk.map (·.1):=by
 unfold bad
 rw [List.filter_eq_nil_iff]
 refine ⟨fun h n hn => ?_,fun h n hn => ?_⟩
 ·have:=h n hn
  simpa using this
 ·simp only [h n hn,decide_true,Bool.not_true];decide
theorem pairs_of {bk:List (Str×Str)} : ∀{ns:List Str},(∀n∈ns,n∈bk.map (·.1))→∃ps,Of bk ps∧ns=ps.map (·.1)
 | [],_=>⟨[],(fun _ h=>nomatch h),rfl⟩
 | n :: ns,h=>by
  obtain ⟨q,hq,e⟩:=List.mem_map.mp (h n List.mem_cons_self)
  obtain ⟨ps,o,rfl⟩:=pairs_of fun m hm=>h m (List.mem_cons_of_mem _ hm)
  refine ⟨q :: ps,fun z hz => ?_,by rw [List.map_cons,e]⟩
  rcases List.mem_cons.mp hz with rfl|hz
  ·exact hq
  ·exact o z hz
theorem bad_at {bk:List (Str×Str)} {ns:List Str} {i:Nat} (hi:i<ns.length) (h:∀n∈ns.take i,n∈bk.map (·.1)) (hn:ns[i] ∉ bk.map (·.1)):∃xs,bad bk ns=ns[i] :: xs:=by
 refine ⟨bad bk (ns.drop (i+1)),?_⟩
 have e:ns=ns.take i++ns[i] :: ns.drop (i+1):=by rw [List.getElem_cons_drop,List.take_append_drop]
 have e2:bad bk ns=bad bk (ns.take i)++bad bk (ns[i] :: ns.drop (i+1)):=by
  unfold bad
  rw [←List.filter_append, ←e]
 rw [e2,bad_nil.mpr h,List.nil_append]
 unfold bad
 rw [List.filter_cons_of_pos (by simp only [hn,decide_false,Bool.not_false])]
noncomputable def spIni (C:Addr) (f:Str):Sp:=fun vs H Q _=>∃(e:Addr) (v:V),vs=[.ref e,v]∧H e=some (excN e C)∧∀dx,H dx=none→dx≠e→Q .non (upd (upd H e (excF e C dx)) dx (.xd [(f,v)]))
noncomputable def spWrX (K:PySem.W.Frag) (C:Addr):Sp:=fun vs H Q E=>∃(l np:Addr) (bk:List (Str×Str)) (ns:List Str),vs=[.ref l, .ref np]∧BkL K H bk l∧GoodN bk∧ns.length≤1000∧SqL K H np (ns.map V.str) ∧
 (∀ps,Of bk ps→ns=ps.map (·.1)→∀H',Same H H'→Q (.str (txS ps)) H') ∧
 (∀x xs,bad bk ns=x :: xs→∀dx H',Same H H'→H' dx=some (.xd [("name", .str x)])→E (.ref C) (some dx) H')
section
variable {P:Program} {w:World} {K:PySem.W.Frag} {mg:Str→Option Value} {base:Heap} {f fi:Addr} {fd fdi:FuncData} {C cO c1 c2 c3 c4 c5 c6 c7:Addr}
theorem sc_ini_NoName:FnScope ["self", "name"] ["self", "name"] (defScope (inClass (top i_NoName) 0)):=⟨rfl,rfl,rfl,by decide +kernel,rfl,by decide +kernel,by decide +kernel⟩
theorem ok_ini_NoName (F:Fun K "__init__" "NoName.__init__" (inClass (top i_NoName) 0) f fd) (S:ExcSt K C "name"):FnOk P w K mg base CX0 1 f fd ["self", "name"] (spIni C "name"):=by
 refine F.ok sc_ini_NoName (fun vs H Q E h => ?_) (fun cdv A outer s H vs Q E hr h => ?_)
 ·obtain ⟨e,v,rfl,_⟩:=h
  rfl
 obtain ⟨e,v,rfl,he,q⟩:=h
 refine ⟨_,(pss_one (ps_xfld (pv 0) (pv 1) rfl)),?_⟩
 exact ⟨_,rfl,_,rfl,e,C,rfl,he,S,fun dx h1 h2=>q dx h1 h2⟩
theorem sc_written:FnScope ["book", "names", "codes", "name"] ["book", "names"] (defScope (top i_written)):=⟨rfl,rfl,rfl,by decide +kernel,rfl,by decide +kernel,by decide +kernel⟩
theorem ok_wrx (F:Fun K "written" "written" (top i_written) f fd) (T:Nm mg) (g_NoName:mg "NoName" = some (.ref C)) (M_NoName:XMk K C fi) (F_NoName:FnOk P w K mg base CX0 1 fi fdi ["self", "name"] (spIni C "name")) (b_NoName:Binds K fdi ["self", "name"] []) :
  FnOk P w K mg base (CXE P w base) 3 f fd ["book", "names"] (spWrX K C):=by
 refine F.okX sc_written (fun vs H Q E h => ?_) (fun cdv A outer s H vs Q E hr h => ?_)
 ·obtain ⟨l,np,bk,ns,rfl,_⟩:=h
  rfl
 obtain ⟨l,np,bk,ns,rfl,hB,g,hns,hN,qY,qN⟩:=h
 have hu:=hu_of hr
 have hgl:=g.le
 refine ⟨_,(pss_cons (ps_set (i:=2) sc_written.nd rfl (Or.inr rfl) (pe_dcomp rfl (comp_ok (Nc:=["name", "code"]) (Fc:=[]) (js:=[])) (piK K (pv 0)) (gk_tup (gks_cons (gk_name (i:=0) (n:=2) (by decide)) (gks_cons (gk_name (i:=1) (n:=2) (by decide)) gks_nil gm_name gms_nil) gm_name (gms_cons gm_name gms_nil))) (fun _ _ _ _ _=>(tupK K 2 rfl (pgs_cons (pg_name (i:=0) (show (["name", "code"]:List Str).Nodup by decide +kernel) rfl (Or.inl rfl)) (pgs_cons (pg_name (i:=1) (show (["name", "code"]:List Str).Nodup by decide +kernel) rfl (Or.inl rfl)) pgs_nil)))) (fun _ _ _ _ _=>pts_nil) (fun _ _ _ _ _=>(pv 0)) (fun _ _ _ _ _=>(pv 1))))
  (pss_cons (ps_for PassesOwn.leaving rfl (piK K (pv 1)) (pg_name (i:=3) sc_written.nd rfl (Or.inl rfl)) (pss_one (ps_if (pt_cmp (pc_dnotin hu (pv 3) (pv 2))) (pss_one (ps_raiseM (k:=1) M_NoName F_NoName (hr.mono (by decide)) rfl g_NoName b_NoName (pa_cons (pv 3) pa_nil))) pss_nil)))
  (pss_one (ps_ret (bmK K PySem.F.plainAttrs_str PySem.F.slot_str_join PySem.F.type_str_join (joinK K) pe_str (pa_cons (pe_lcomp rfl (comp_ok (Nc:=["name"]) (Fc:=["codes"]) (js:=[2])) (piK K (pv 1)) (gk_name (i:=0) (n:=1) (by decide)) (fun _ _ _ _ _=>(pg_name (i:=0) (show (["name", "codes"]:List Str).Nodup by decide +kernel) rfl (Or.inl rfl))) (fun _ _ _ _ _=>pts_nil) (fun _ _ _ _ _=>(pe_dget hu (pv 1) (pv 0) (fun _ _=>rfl)))) pa_nil)))))),?_⟩
 refine asgCut (te:=tDComp _ _ _ _ _ _ _) (fun v H'=>∃D,v = .ref D∧New H D (.dK (byName bk)) H') (fun Qn qn => ?_) ?_
 ·obtain ⟨vs,hl,hd⟩:=id hB
  exact ⟨_,rfl,l,rfl,⟨_,hl⟩,fun D hD=>dbook (f:=fun q=>(.inr q.1, .str q.2)) (inr_nodup g.nm) (by first|lia|omega) (fun q H Q h=>⟨_,rfl,h⟩) (fun q H Q h=>⟨_,rfl,h⟩) hB hD (qn _ _ ⟨D,rfl,hD,rfl⟩)⟩
 rintro v H1 ⟨D,rfl,n1⟩
 refine gn ?_
 have hN1:=n1.same.seq hN
 have ats:∀{i:Nat} (hi:i<ns.length),(ns.map V.str)[i]? = some (.str ns[i]):=fun hi=>by rw [List.getElem?_map,List.getElem?_eq_getElem hi];rfl
 refine seqCut (t:=tFor _ _ _) (fun σ H'=>∃x3, σ=[some (.ref l),some (.ref np),some (.ref D),x3]∧H'=H1∧∀n∈ns,n∈bk.map (·.1)) (fun Nx nx => ?_) ?_
 ·refine ⟨_,rfl,np,rfl,⟨_,hN1⟩,?_⟩
  refine for_go (N:=ns.length) (fun i σ H'=>∃x3, σ=[some (.ref l),some (.ref np),some (.ref D),x3]∧H'=H1∧∀n∈ns.take i,n∈bk.map (·.1)) ⟨_,rfl,rfl,fun n hn=>by simp at hn⟩ ?_ ?_
  ·rintro i σ H2 hi ⟨x3,rfl,rfl,hk⟩
   refine ⟨⟨_,_,hN1,ats hi⟩,?_⟩
   rintro x H3 ⟨rfl,hy⟩
   have e:=hy _ hN1
   rw [ats hi] at e;cases e
   by_cases hin:ns[i]∈bk.map (·.1)
   ·obtain ⟨z,hz,ez⟩:=List.mem_map.mp hin
    refine gn ⟨_,rfl,_,rfl,D,some (.str z.2),rfl, .inl ⟨_, .inr ns[i], .inl n1.at,rfl,(by rw [←ez];exact (g.name hz).symm)⟩,_,rfl,iteF ⟨_,rfl,rfl,fun n hn => ?_⟩⟩
    rw [take_next hi] at hn
    rcases List.mem_append.mp hn with hn|hn
    ·exact hk n hn
    ·rw [List.mem_singleton.mp hn];exact hin
   ·refine gn ⟨_,rfl,_,rfl,D,none,rfl, .inl ⟨_, .inr ns[i], .inl n1.at,rfl,(name_none hin).symm⟩,_,rfl,iteT ?_⟩
    obtain ⟨xs,hbad⟩:=bad_at hi hk hin
    refine ⟨_,rfl,by show 1≤1000;decide,fun e he=>⟨e, .str ns[i],rfl,upd_same,fun dx d1 d2=>⟨rfl,e,dx,rfl,?_,n1.back he,qN _ _ hbad dx _ (fun a o z => ?_) ?_⟩⟩⟩
    ·rw [upd_ne (Ne.symm d2),upd_same]
    ·have z1:=n1.same _ _ z
     have na:a≠e:=ne_of_none z1 he
     have nd:a≠dx:=fun y=>by
      rw [upd_ne d2, ←y,z1] at d1
      cases d1
     rw [drp_ne na,upd_ne nd,upd_ne na,upd_ne na]
     exact z1
    ·rw [drp_ne d2,upd_same]
  ·rintro σ H2 ⟨x3,rfl,rfl,hk⟩
   rw [List.take_length] at hk
   exact ⟨⟨_,hN1,by rw [List.length_map];exact Nat.le_refl _⟩,nx _ _ ⟨_,rfl,rfl,hk⟩⟩
 rintro σ H2 ⟨x3,rfl,rfl,hk⟩
 obtain ⟨ps,o,rfl⟩:=pairs_of hk
 rw [List.length_map] at hns
 refine ⟨rfl,_,rfl,np,rfl,⟨_,hN1⟩,?_⟩
 refine comp_go (N:=ps.length) (fun i ys H'=>H'=H2∧ys=((ps.take i).map (·.2)).map V.str) ⟨rfl,rfl⟩ ?_ ?_
 ·rintro i ys H3 Ny hi ⟨rfl,rfl⟩ ny
  refine ⟨⟨_,_,hN1,nm_at hi⟩,by rw [List.length_map,List.length_map,List.length_take];exact Nat.lt_of_le_of_lt (show min i ps.length≤1000 by first|lia|omega) (by decide),?_⟩
  rintro x H4 ⟨rfl,hy⟩
  have e:=hy _ hN1
  rw [nm_at hi] at e;cases e
  refine gn ⟨_,rfl,_,rfl,D, .str ps[i].2,rfl, .inl ⟨_, .inr ps[i].1, .inl n1.at,rfl,(g.name (o _ (List.getElem_mem hi))).symm⟩,ny _ _ ⟨rfl,?_⟩⟩
  rw [take_next hi,List.map_append,List.map_append];rfl
 ·rintro ys H3 ⟨rfl,rfl⟩
  refine ⟨⟨_,hN1,by rw [nm_len];exact Nat.le_refl _⟩,fun p3 hp3 => ?_⟩
  rw [List.take_length]
  refine ⟨"",p3,ps.map (·.2),rfl,rfl,SqL.of upd_same,?_,?_⟩
  ·have h1:=sum_tx ps
   have h2:=txn_len g o
   have e0:Str.length "" = 0:=rfl
   rw [h1,e0]
   (first|lia|omega)
  ·rw [join_tx]
   exact qY _ o rfl _ (n1.same.trans (same_new hp3 _))
end
end Z
namespace Z
open PySem L2 PyProof.Rows
noncomputable def nmD (ps:List (Str×Str)):PyData := .list ((ps.map (·.1)).map PyData.str)
noncomputable def RdD (B:List (Str×Str)) (d:PyData) (t:Str):Prop:=∃ps,Of B ps∧d=nmD ps∧txS ps=t
noncomputable def Few (d:PyData):Prop:=∀ds,d = .list ds→ds.length≤1000
noncomputable def spTxo (K:PySem.W.Frag):Sp:=fun vs H Q _=>∃(l:Addr) (v:V) (B:List (Str×Str)) (d:PyData),vs=[.ref l,v]∧BkL K H B l∧GoodN B∧Den K H d v∧Few d ∧
 (∀ps,Of B ps→d=nmD ps→∀H',Same H H'→Q (.str (txS ps)) H')∧((∀ps,Of B ps→d≠nmD ps)→∀H',Same H H'→Q .non H')
theorem dens_strs {K:PySem.W.Frag} {H:Hp} : ∀{ks:List Str} {vs:List V},Dens K H (ks.map PyData.str) vs→vs=ks.map V.str
 | [],_,h=>by rw [List.map_nil] at h;unfold Dens at h;exact h
 | n :: ns,_,h=>by
  rw [List.map_cons] at h
  unfold Dens at h
  obtain ⟨v,r,rfl,h1,h2⟩:=h
  unfold Den at h1
  rw [h1,dens_strs h2];rfl
theorem all_strs:∀{ds:List PyData},(ds.map fun d=>isD d "str").all id=true→∃ns:List Str,ds=ns.map PyData.str
 | [],_=>⟨[],rfl⟩
 | d :: ds,h=>by
  rw [List.map_cons,List.all_cons,Bool.and_eq_true] at h
  obtain ⟨ns,rfl⟩:=all_strs h.2
  cases d with
  | str s=>exact ⟨s :: ns,rfl⟩
  | none=>exact absurd h.1 (by decide)
  | bool b=>exact absurd h.1 (by cases b <;> decide)
  | int i=>exact absurd (show false=true from h.1) (by decide)
  | list i=>exact absurd (show false=true from h.1) (by decide)
  | tuple i=>exact absurd (show false=true from h.1) (by decide)
  | dict i=>exact absurd (show false=true from h.1) (by decide)
theorem strs_all:∀(ns:List Str),((ns.map PyData.str).map fun d=>isD d "str").all id=true
 | []=>rfl
 | n :: ns=>by
  rw [List.map_cons,List.map_cons,List.all_cons,strs_all ns];rfl
section
variable {P:Program} {w:World} {K:PySem.W.Frag} {mg:Str→Option Value} {base:Heap} {f:Addr} {fd:FuncData} {C:Addr}
theorem sc_text_of:FnScope ["book", "thing"] ["book", "thing"] (defScope (top i_text_of)):=⟨rfl,rfl,rfl,by decide +kernel,rfl,by decide +kernel,by decide +kernel⟩
theorem ok_txo (F:Fun K "text_of" "text_of" (top i_text_of) f fd) (T:Nm mg) (g_NoName:mg "NoName" = some (.ref C)) (hexm:PySem.W.exmOne K (.ref C) (.ref C)=some true) (f_written:FnX P w K mg base 3 "written" ["book", "names"] (spWrX K C)):FnOk P w K mg base CX0 4 f fd ["book", "thing"] (spTxo K):=by
 refine F.ok sc_text_of (fun vs H Q E h => ?_) (fun cdv A outer s H vs Q E hr h => ?_)
 ·obtain ⟨l,v,B,d,rfl,_⟩:=h
  rfl
 obtain ⟨l,v,B,d,rfl,hB,gB,hv,few,qY,qN⟩:=h
 refine ⟨_,(pss_cons (ps_if (PW.pt (pw_or (pt_not (pt_val (pe_callB (isiK K) rfl T.n_isinstance (by rfl) (pa_cons (pv 1) (pa_cons (pe_bltn rfl T.n_list (by rfl) (v := .ty "list") rfl) pa_nil))))) (pw_or1 (pt_not (pt_val (pe_callB (allK K rfl) rfl T.n_all (by rfl) (pa_cons (pe_lcomp rfl (comp_ok (Nc:=["name"]) (Fc:=[]) (js:=[])) (piK K (pv 1)) (gk_name (i:=0) (n:=1) (by decide)) (fun _ _ _ _ _=>(pg_name (i:=0) (show (["name"]:List Str).Nodup by decide +kernel) rfl (Or.inl rfl))) (fun _ _ _ _ _=>pts_nil) (fun _ _ _ _ _=>(pe_callB (isiK K) rfl T.n_isinstance (by rfl) (pa_cons (pv 0) (pa_cons (pe_bltn rfl T.n_str (by rfl) (v := .ty "str") rfl) pa_nil))))) pa_nil))))))) (pss_one (ps_ret pe_non)) pss_nil)
  (pss_one (ps_try0 rfl rfl rfl g_NoName (fun _ _ _=>(pss_one (ps_ret (pe_fnC (f_written.mono (by first|decide|exact Nat.le_refl _|(first|lia|omega))) hr rfl (pa_cons (pv 0) (pa_cons (pv 1) pa_nil)))))) (fun _=>(pss_one (ps_ret pe_non)))))),?_⟩
 have no:isD d "list" = false→∀ps,Of B ps→d≠nmD ps:=fun h ps _ e=>by rw [e] at h;exact absurd (show true=false from h) (by decide)
 refine ⟨_,rfl, .inl ⟨v, "list",d,isD d "list",rfl,hv,(kitT K d).2.2.2.1,_,rfl,?_⟩⟩
 by_cases hl:isD d "list" = true
 ·obtain ⟨ds,rfl⟩:∃ds,d = .list ds:=by
   cases d with
   | list ds=>exact ⟨ds,rfl⟩
   | none=>exact absurd hl (by decide)
   | bool b=>exact absurd (show false=true from hl) (by decide)
   | int i=>exact absurd (show false=true from hl) (by decide)
   | str i=>exact absurd (show false=true from hl) (by decide)
   | tuple i=>exact absurd (show false=true from hl) (by decide)
   | dict i=>exact absurd (show false=true from hl) (by decide)
  have hlen:=few ds rfl
  unfold Den at hv
  obtain ⟨p,vs,rfl,hp,hds⟩:=hv
  have hvl:vs.length=ds.length:=hds.len
  have at1:∀{i:Nat} (hi:i<ds.length),∃x,vs[i]? = some x∧Den K H ds[i] x:=fun hi=>hds.get (List.getElem?_eq_getElem hi)
  rw [hl]
  refine iteF ⟨_,rfl,p,rfl,⟨_,hp⟩,?_⟩
  refine comp_go (N:=ds.length) (fun i ys H'=>H'=H∧ys=((ds.take i).map fun d=>isD d "str").map V.bl) ⟨rfl,rfl⟩ ?_ ?_
  ·rintro i ys H1 Ny hi ⟨rfl,rfl⟩ ny
   obtain ⟨x,e1,e2⟩:=at1 hi
   refine ⟨⟨_,_,hp,e1⟩,by rw [List.length_map,List.length_map,List.length_take];exact Nat.lt_of_le_of_lt (show min i ds.length≤1000 by first|lia|omega) (by decide),?_⟩
   rintro x' H2 ⟨rfl,hy⟩
   have e:=hy _ hp
   rw [e1] at e;cases e
   refine gn ⟨_,rfl, .inl ⟨_, "str",ds[i],_,rfl,e2,(kitT K _).2.2.1,ny _ _ ⟨rfl,?_⟩⟩⟩
   rw [take_next hi,List.map_append,List.map_append];rfl
  ·rintro ys H1 ⟨rfl,rfl⟩
   refine ⟨⟨_,hp,by first|lia|omega⟩,fun p3 hp3 => ?_⟩
   rw [List.take_length]
   have n3:New H1 p3 (.lst ((ds.map fun d=>isD d "str").map V.bl)) (upd H1 p3 (.lst ((ds.map fun d=>isD d "str").map V.bl))):=⟨hp3,rfl⟩
   generalize upd H1 p3 (.lst ((ds.map fun d=>isD d "str").map V.bl))=H3 at n3 ⊢
   refine ⟨p3,_,rfl,SqL.of n3.at,_,rfl,?_⟩
   by_cases ha:(ds.map fun d=>isD d "str").all id=true
   ·rw [ha]
    refine iteF ?_
    obtain ⟨ns,rfl⟩:=all_strs ha
    rw [dens_strs hds] at hp
    rw [List.length_map] at hlen
    refine ⟨fun cls dx H'=>cls = .ref C∧Same H1 H'∧∃x xs,bad B ns=x :: xs,⟨rfl,_,rfl,_,rfl,l,p,B,ns,rfl,hB.same n3.same,gB,hlen,n3.same.seq hp,fun ps o e H' s'=>qY ps o (by rw [e];rfl) H' (n3.same.trans s'),fun x xs hb dx H' s' _=>⟨rfl,n3.same.trans s',x,xs,hb⟩⟩,?_⟩
    rintro cls dx H' ⟨rfl,s',x,xs,hb⟩
    refine ⟨hexm,qN (fun ps o z => ?_) H' s'⟩
    injection z with z
    have e2:ns=ps.map (·.1):=by
     have:=congrArg (List.map fun d=>match d with|PyData.str s=>s|_ => "") z
     rw [List.map_map,List.map_map] at this
     rw [show ((fun d=>match d with|PyData.str s=>s|_ => "") ∘ PyData.str:Str→Str)=id from rfl,List.map_id,List.map_id] at this
     exact this
    have:bad B ns=[]:=bad_nil.mpr fun n hn=>by
     rw [e2] at hn
     obtain ⟨y,hy,rfl⟩:=List.mem_map.mp hn
     exact List.mem_map_of_mem (o y hy)
    rw [this] at hb;cases hb
   ·have e:(ds.map fun d=>isD d "str").all id=false:=by simpa using ha
    rw [e]
    refine iteT (qN (fun ps _ z => ?_) H3 n3.same)
    injection z with z
    rw [z,strs_all] at e
    cases e
 ·have e:isD d "list" = false:=by simpa using hl
  rw [e]
  exact iteT (iteT (qN (no e) H (fun _ _ h=>h)))
end
end Z
namespace Z
open PySem L2 PyProof.Rows
noncomputable def ShD (B:List (Str×Str)) (d:PyData):Prop:=∃t d1 d2,d = .tuple [.str t,d1,d2]∧RdD B d1 t∧RdD B d2 t∧PyData.eqv d1 d2=false
noncomputable def Asked (d:PyData):Prop:=∀d0 d1 d2,d = .tuple [d0,d1,d2]→Few d1∧Few d2∧SeqAt.shaped d1=true∧SeqAt.shaped d2=true
noncomputable def spSh (K:PySem.W.Frag):Sp:=fun vs H Q _=>∃(l:Addr) (v:V) (B:List (Str×Str)) (d:PyData),vs=[.ref l,v]∧BkL K H B l∧GoodN B∧Den K H d v∧Asked d∧∀b H',(b=true ↔ ShD B d)→Same H H'→Q (.bl b) H'
theorem nm_inj {ps qs:List (Str×Str)} {B:List (Str×Str)} (g:GoodN B) (h1:Of B ps) (h2:Of B qs) (e:nmD ps=nmD qs):ps=qs:=by
 unfold nmD at e
 injection e with e
 induction ps generalizing qs with
 | nil=>cases qs with|nil=>rfl|cons _ _=>cases e
 | cons p ps ih=>
  cases qs with
  | nil=>cases e
  | cons q qs=>
   rw [List.map_cons,List.map_cons,List.map_cons,List.map_cons] at e
   injection e with e1 e2
   injection e1 with e1
   rw [one_of g.nm (h1 p List.mem_cons_self) (h2 q List.mem_cons_self) e1,ih (fun y hy=>h1 y (List.mem_cons_of_mem _ hy)) (fun y hy=>h2 y (List.mem_cons_of_mem _ hy)) e2]
theorem tup_of {d:PyData} (h:isD d "tuple" = true):∃ds,d = .tuple ds:=by
 cases d with
 | tuple ds=>exact ⟨ds,rfl⟩
 | none=>exact absurd h (by decide)
 | bool b=>exact absurd (show false=true from h) (by decide)
 | int i=>exact absurd (show false=true from h) (by decide)
 | str i=>exact absurd (show false=true from h) (by decide)
 | list i=>exact absurd (show false=true from h) (by decide)
 | dict i=>exact absurd (show false=true from h) (by decide)
section
variable {P:Program} {w:World} {K:PySem.W.Frag} {mg:Str→Option Value} {base:Heap} {f:Addr} {fd:FuncData} {C:Addr}
theorem sc_shows_two:FnScope ["book", "thing", "text", "one", "other"] ["book", "thing"] (defScope (top i_shows_two)):=⟨rfl,rfl,rfl,by decide +kernel,rfl,by decide +kernel,by decide +kernel⟩
theorem ok_sh (F:Fun K "shows_two" "shows_two" (top i_shows_two) f fd) (T:Nm mg) (f_text_of:Fn P w K mg base 4 "text_of" ["book", "thing"] (spTxo K)):FnOk P w K mg base CX0 5 f fd ["book", "thing"] (spSh K):=by
 refine F.ok sc_shows_two (fun vs H Q E h => ?_) (fun cdv A outer s H vs Q E hr h => ?_)
 ·obtain ⟨l,v,B,d,rfl,_⟩:=h
  rfl
 obtain ⟨l,v,B,d,rfl,hB,gB,hv,ask,q⟩:=h
 have hu6:=hr.units
 refine ⟨_,(pss_cons (ps_if (PW.pt (pw_or (pt_not (pt_val (pe_callB (isiK K) rfl T.n_isinstance (by rfl) (pa_cons (pv 1) (pa_cons (pe_bltn rfl T.n_tuple (by rfl) (v := .ty "tuple") rfl) pa_nil))))) (pw_or1 (pt_cmpR (neK K hu6) (pe_callB (lenK K) rfl T.n_len (by rfl) (pa_cons (pv 1) pa_nil)) pe_int (nomark _))))) (pss_one (ps_ret pe_bl)) pss_nil)
  (pss_cons (ps_asg (pv 1) (tupK K 3 rfl (pgs_cons (pg_name (i:=2) sc_shows_two.nd rfl (Or.inl rfl)) (pgs_cons (pg_name (i:=3) sc_shows_two.nd rfl (Or.inl rfl)) (pgs_cons (pg_name (i:=4) sc_shows_two.nd rfl (Or.inl rfl)) pgs_nil)))))
  (pss_one (ps_ret (pe_and (pe_callB (isiK K) rfl T.n_isinstance (by rfl) (pa_cons (pv 2) (pa_cons (pe_bltn rfl T.n_str (by rfl) (v := .ty "str") rfl) pa_nil))) (pe_and (pe_cmpR (eqK K hu6) (pe_fn (f_text_of.mono (by first|decide|exact Nat.le_refl _|(first|lia|omega))) hr rfl (pa_cons (pv 0) (pa_cons (pv 3) pa_nil))) (pv 2) (nomark _)) (pe_and (pe_cmpR (eqK K hu6) (pe_fn (f_text_of.mono (by first|decide|exact Nat.le_refl _|(first|lia|omega))) hr rfl (pa_cons (pv 0) (pa_cons (pv 4) pa_nil))) (pv 2) (nomark _)) (pe_one (pe_cmpR (neK K hu6) (pv 3) (pv 4) (nomark _)))))))))),?_⟩
 refine ⟨_,rfl, .inl ⟨v, "tuple",d,isD d "tuple",rfl,hv,(kitT K d).2.2.2.2,_,rfl,?_⟩⟩
 by_cases e:isD d "tuple" = false
 ·rw [e]
  refine iteT (iteT (q false H ⟨(fun z=>nomatch z),fun ⟨t,d1,d2,z,_⟩ => ?_⟩ fun _ _ h=>h))
  rw [z] at e;exact absurd (show true=false from e) (by decide)
 have hl:isD d "tuple" = true:=by simpa using e
 clear e
 obtain ⟨ds,rfl⟩:=tup_of hl
 rw [hl]
 unfold Den at hv
 obtain ⟨p,vs,rfl,hp,hds⟩:=hv
 have hvl:vs.length=ds.length:=hds.len
 refine iteF ⟨_,rfl,_,_,rfl, .inr ⟨_,hp,rfl⟩, .inl ⟨rfl,_,rfl,?_⟩⟩
 by_cases h3:ds.length≠3
 ·have e:(!decide (V.int (vs.length:Nat)=V.int 3))=true:=by
   rw [hvl];simp; (first|lia|omega)
  rw [e]
  refine iteT (q false H ⟨(fun z=>nomatch z),fun ⟨t,d1,d2,z,_⟩=>absurd (by injection z with z;rw [z];rfl) h3⟩ fun _ _ h=>h)
 have h3:ds.length=3:=Decidable.not_not.mp h3
 have e:(!decide (V.int (vs.length:Nat)=V.int 3))=false:=by
  rw [hvl,h3];decide
 rw [e]
 refine iteF ?_
 obtain ⟨d0,d1,d2,rfl⟩:∃d0 d1 d2,ds=[d0,d1,d2]:=by
  match ds,h3 with
  | [a,b,c],_=>exact ⟨a,b,c,rfl⟩
 unfold Dens at hds
 obtain ⟨v0,r0,rfl,k0,hds⟩:=hds
 unfold Dens at hds
 obtain ⟨v1,r1,rfl,k1,hds⟩:=hds
 unfold Dens at hds
 obtain ⟨v2,r2,rfl,k2,hds⟩:=hds
 unfold Dens at hds
 subst hds
 obtain ⟨f1,f2,sh1,sh2⟩:=ask d0 d1 d2 rfl
 refine ⟨_,rfl,p,_,rfl,hp,rfl,_,_,rfl,_,_,rfl,_,_,rfl,rfl,?_⟩
 refine ⟨_,rfl, .inl ⟨v0, "str",d0,isD d0 "str",rfl,k0,(kitT K d0).2.2.1,?_⟩⟩
 by_cases e0:isD d0 "str" = false
 ·rw [e0]
  refine ⟨_,rfl,iteF (q false H ⟨(fun z=>nomatch z),fun ⟨t,_,_,z,_⟩ => ?_⟩ fun _ _ h=>h)⟩
  injection z with z
  injection z with z _
  rw [z] at e0;exact absurd (show true=false from e0) (by decide)
 obtain ⟨t,rfl⟩:∃t,d0 = .str t:=by
  obtain ⟨ns,hns⟩:=all_strs (ds:=[d0]) (by simpa using e0)
  cases ns with
  | nil=>cases hns
  | cons n _=>injection hns with a _;exact ⟨n,a⟩
 unfold Den at k0
 subst k0
 have un:ShD B (.tuple [.str t,d1,d2])→RdD B d1 t∧RdD B d2 t∧PyData.eqv d1 d2=false:=fun ⟨t',a,b,z,h1,h2,h3⟩=>by
  injection z with z
  injection z with z1 z
  injection z with z2 z
  injection z with z3 _
  injection z1 with z1
  rw [z1,z2,z3]
  exact ⟨h1,h2,h3⟩
 have no1:¬RdD B d1 t→∀H',Same H H'→Q (.bl false) H':=fun h H' s'=>q false H' ⟨(fun z=>nomatch z),fun z=>absurd (un z).1 h⟩ s'
 have no2:¬RdD B d2 t→∀H',Same H H'→Q (.bl false) H':=fun h H' s'=>q false H' ⟨(fun z=>nomatch z),fun z=>absurd (un z).2.1 h⟩ s'
 refine ⟨_,rfl,iteT ⟨_,rfl,_,rfl,l,v1,B,d1,rfl,hB,gB,k1,f1,fun ps o e1 H1 s1 => ?_,fun h H1 s1 => ?_⟩⟩
 ·refine ⟨_,rfl, .inl ⟨rfl,_,rfl,ite2 (fun c => ?_) (fun c=>no1 (fun ⟨ps',o',e',t'⟩=>c (decide_eq_true ?_)) H1 s1)⟩⟩
  ·have r1:RdD B d1 t:=⟨ps,o,e1,by have:=of_decide_eq_true c;injection this⟩
   refine ⟨_,rfl,_,rfl,l,v2,B,d2,rfl,hB.same s1,gB,k2.same s1,f2,fun ps2 o2 e2 H2 s2 => ?_,fun h H2 s2 => ?_⟩
   ·refine ⟨_,rfl, .inl ⟨rfl,_,rfl,ite2 (fun c => ?_) (fun c=>no2 (fun ⟨ps',o',e',t'⟩=>c (decide_eq_true ?_)) H2 (s1.trans s2))⟩⟩
    ·have r2:RdD B d2 t:=⟨ps2,o2,e2,by have:=of_decide_eq_true c;injection this⟩
     refine ⟨_,rfl,_,rfl, .inr ⟨d1,d2,k1.same (s1.trans s2),k2.same (s1.trans s2),sh1,sh2,q _ H2 ⟨fun z=>⟨t,d1,d2,rfl,r1,r2,by simpa using z⟩,fun z => ?_⟩ (s1.trans s2)⟩⟩
     rw [(un z).2.2];rfl
    ·rw [nm_inj gB o2 o' (e2.symm.trans e'),t']
   ·refine ⟨_,rfl, .inl ⟨rfl,_,rfl,iteF (no2 (fun ⟨ps',o',e',_⟩=>h ps' o' e') H2 (s1.trans s2))⟩⟩
  ·rw [nm_inj gB o o' (e1.symm.trans e'),t']
 ·exact ⟨_,rfl, .inl ⟨rfl,_,rfl,iteF (no1 (fun ⟨ps',o',e',_⟩=>h ps' o' e') H1 s1)⟩⟩
end
end Z
namespace Z
open PySem L2 PyProof.Rows
structure NmOk (xs:List Str):Prop where
 nd:xs.Nodup
 ok:∀x∈xs,x.length≤8∧∀ch∈x.cps.toList,ch≤122
theorem book_zip2 {K:PySem.W.Frag} {H1 H':Hp} {b c p:Addr} {t:Int} {as:List Addr} {ns cs:List Str} (bx:Bx H1 b c t) (hp:H1 p=none) (hl:H' p=some (.lst (as.map V.ref))) (hle:cs.length≤ns.length)
  (hal:as.length=min (ns.map V.str).length (cs.map V.str).length) (h:∀(j:Nat) a x y,as[j]? = some a→(ns.map V.str)[j]? = some x→(cs.map V.str)[j]? = some y→H1 a=none∧H' a=some (.tup [x,y])) :
  BookAt K (hid H' b c) (ns.zip cs) (.ref p):=by
 have e:ns.zip cs=(ns.take cs.length).zip cs:=by
  refine List.ext_getElem? fun j => ?_
  by_cases hj:j<cs.length
  ·have h1:(ns.zip cs)[j]? = some (ns[j]'(by first|lia|omega),cs[j]):=(List.getElem?_zip_eq_some (z:=(_,_))).mpr ⟨List.getElem?_eq_getElem (by first|lia|omega),List.getElem?_eq_getElem hj⟩
   have h2:((ns.take cs.length).zip cs)[j]? = some (ns[j]'(by first|lia|omega),cs[j]):=(List.getElem?_zip_eq_some (z:=(_,_))).mpr ⟨by rw [List.getElem?_take_of_lt hj];exact List.getElem?_eq_getElem (by first|lia|omega),List.getElem?_eq_getElem hj⟩
   rw [h1,h2]
  ·rw [List.getElem?_eq_none (by rw [List.length_zip]; (first|lia|omega)),List.getElem?_eq_none (by rw [List.length_zip]; (first|lia|omega))]
 rw [e]
 refine book_zip bx hp hl (by rw [List.length_take]; (first|lia|omega)) (by simp only [hal,List.length_map,List.length_take]; (first|lia|omega)) fun j a x y h1 h2 h3=>h j a x y h1 ?_ h3
 rw [List.getElem?_map] at h2 ⊢
 by_cases hj:j<cs.length
 ·rw [List.getElem?_take_of_lt hj] at h2;exact h2
 ·rw [List.getElem?_eq_none (by rw [List.length_take]; (first|lia|omega))] at h2;cases h2
theorem good_zip {xs cs:List Str} (h:NmOk xs) (cd:∀x∈cs,CodeOk 12 x) (hle:cs.length≤16) (hl:cs.length≤xs.length):GoodN (xs.zip cs):=by
 refine ⟨by rw [List.length_zip]; (first|lia|omega),?_,fun z hz=>cd _ (List.of_mem_zip (a:=z.1) (b:=z.2) hz).2,fun z hz=>(h.ok _ (List.of_mem_zip (a:=z.1) (b:=z.2) hz).1).1,fun z hz=>(h.ok _ (List.of_mem_zip (a:=z.1) (b:=z.2) hz).1).2⟩
 have e:(xs.zip cs).map (·.1)=xs.take cs.length:=by
  refine List.ext_getElem? fun j => ?_
  rw [List.getElem?_map]
  by_cases hj:j<cs.length
  ·have h1:(xs.zip cs)[j]? = some (xs[j]'(by first|lia|omega),cs[j]):=(List.getElem?_zip_eq_some (z:=(_,_))).mpr ⟨List.getElem?_eq_getElem (by first|lia|omega),List.getElem?_eq_getElem hj⟩
   rw [h1,List.getElem?_take_of_lt hj,List.getElem?_eq_getElem (by first|lia|omega)];rfl
  ·rw [List.getElem?_eq_none (by rw [List.length_zip]; (first|lia|omega)),List.getElem?_eq_none (by rw [List.length_take]; (first|lia|omega))];rfl
 rw [e]
 exact h.nd.sublist (List.take_sublist _ _)
theorem zip_snd2 {xs cs:List Str} (hl:cs.length≤xs.length):(xs.zip cs).map (·.2)=cs:=List.map_snd_zip hl
theorem BookAt.bkl {K:PySem.W.Frag} {H:Hp} {b c:Addr} {B:List (Str×Str)} {v:V} (h:BookAt K (hid H b c) B v):∃l,v = .ref l∧l≠b∧l≠c∧BkL K H B l∧BkL K (hid H b c) B l:=by
 obtain ⟨l,vs,rfl,h1,h2⟩:=h
 obtain ⟨e,lb,lc⟩:=of_hid h1
 exact ⟨l,rfl,lb,lc,⟨vs,SqL.of e,h2.same hid_le⟩,⟨vs,SqL.of h1,h2⟩⟩
theorem Rd2.shown {B:List (Str×Str)} (g:GoodN B) {t:Str} {ns ms:List Str} (h:Rd2 B t ns ms):ShD B (.tuple [.str t, .list (ns.map PyData.str), .list (ms.map PyData.str)]):=by
 obtain ⟨i,j,a,b,ps,qs,hij,hi,hj,o1,o2,rfl,rfl,e1,e2⟩:=h
 have tx':∀{l:List (Str×Str)},tx l=sg t→txS l=t:=fun e=>str_eq (by rw [sg_tx];exact e)
 refine ⟨t,_,_,rfl,⟨a :: ps,o1,rfl,tx' e1⟩,⟨b :: qs,o2,rfl,tx' e2⟩,?_⟩
 have hne:a.1≠b.1:=fun z=>by
  have:=one_of g.nm (List.mem_of_getElem? hi) (List.mem_of_getElem? hj) z
  subst this
  obtain ⟨hi',ei⟩:=List.getElem?_eq_some_iff.mp hi
  obtain ⟨hj',ej⟩:=List.getElem?_eq_some_iff.mp hj
  have:=(List.getElem_inj (h₀:=hi') (h₁:=hj') g.nodup).mp (ei.trans ej.symm)
  (first|lia|omega)
 simp [PyData.eqv,PyData.eqvAll,hne]
theorem sh_names {B:List (Str×Str)} (g:GoodN B) {ps:List (Str×Str)} (o:Of B ps):SeqAt.shaped (.list ((ps.map (·.1)).map PyData.str))=true:=(Sh.list (n:=0) fun d hd=>by
   obtain ⟨x,hx,rfl⟩:=List.mem_map.mp hd
   obtain ⟨q,hq,rfl⟩:=List.mem_map.mp hx
   exact Sh.str (canLay_small fun ch hc=>by have:=g.sm q (o q hq) ch hc; (first|lia|omega))).shaped (by decide)
theorem Rd2.asked {B:List (Str×Str)} (g:GoodN B) {t:Str} {ns ms:List Str} (h:Rd2 B t ns ms) (l1:ns.length≤300) (l2:ms.length≤300):Asked (.tuple [.str t, .list (ns.map PyData.str), .list (ms.map PyData.str)]):=fun d0 d1 d2 e=>by
 obtain ⟨i,j,a,b,ps,qs,hij,hi,hj,o1,o2,rfl,rfl,e1,e2⟩:=h
 injection e with e
 injection e with e0 e
 injection e with ea e
 injection e with eb _
 subst ea eb
 have few:∀{l:List Str},l.length≤300→Few (.list (l.map PyData.str)):=fun h ds z=>by
  injection z with z
  rw [←z,List.length_map]; (first|lia|omega)
 exact ⟨few l1,few l2,sh_names g o1,sh_names g o2⟩
theorem den_told {K:PySem.W.Frag} {H:Hp} {z p q:Addr} {t:Str} {ns ms:List Str} (hz:H z=some (.tup [.str t, .ref p, .ref q])) (hp:H p=some (.lst (ns.map V.str))) (hq:H q=some (.lst (ms.map V.str))):Den K H (.tuple [.str t, .list (ns.map PyData.str), .list (ms.map PyData.str)]) (.ref z):=by
 unfold Den
 refine ⟨z,_,rfl,SqT.of hz,?_⟩
 unfold Dens
 refine ⟨_,_,rfl,(by unfold Den;rfl),?_⟩
 unfold Dens
 refine ⟨_,_,rfl,Den.list (SqL.of hp) (Den.strs _),?_⟩
 unfold Dens
 refine ⟨_,_,rfl,Den.list (SqL.of hq) (Den.strs _),?_⟩
 unfold Dens
 rfl
theorem inV_iff {x:Str} : ∀{ts:List Str},inV (.str x) (ts.map V.str)=true ↔ x∈ts:=fun {ts}=>by
 unfold inV
 rw [List.any_map,List.any_eq_true]
 refine ⟨fun ⟨y,hy,e⟩ => ?_,fun h=>⟨x,h,?_⟩⟩
 ·have e:(y == x)=true:=e
  rw [←eq_of_beq e];exact hy
 ·show (x == x)=true
  exact beq_self_eq_true _
theorem flat_strs (ts:List Str):(ts.map V.str).all flatV=true:=by
 rw [List.all_map,List.all_eq_true]
 intro x _;rfl
noncomputable def spNone (K:PySem.W.Frag):Sp:=fun vs H Q _=>∃(l:Addr) (B:List (Str×Str)),vs=[.ref l]∧BkL K H B l∧GoodN B∧(∀u, ¬Amb B u)∧∀H',Same H H'→Q (.bl true) H'
section
variable {P:Program} {w:World} {K:PySem.W.Frag} {mg:Str→Option Value} {base:Heap} {f:Addr} {fd:FuncData}
theorem sc_law_none:FnScope ["_law_book", "_law_rests"] ["_law_book"] (defScope (top i_law_none)):=⟨rfl,rfl,rfl,by decide +kernel,rfl,by decide +kernel,by decide +kernel⟩
theorem ok_none (F:Fun K "_law_none" "_law_none" (top i_law_none) f fd) (T:Nm mg) (f_rests_of:Fn P w K mg base 4 "rests_of" ["book"] (spRo K)) (f_two_readings:Fn P w K mg base 6 "two_readings" ["book"] (spTr3 K)) (f_shows_one:Fn P w K mg base 4 "shows_one" ["book", "thing"] (spO1 K)):FnOk P w K mg base CX0 7 f fd ["_law_book"] (spNone K):=by
 refine F.ok sc_law_none (fun vs H Q E h => ?_) (fun cdv A outer s H vs Q E hr h => ?_)
 ·obtain ⟨l,B,rfl,_⟩:=h
  rfl
 obtain ⟨l,B,rfl,hB,gB,no,q⟩:=h
 refine ⟨_,(pss_cons (ps_set (i:=1) sc_law_none.nd rfl (Or.inl rfl) (pe_fn (f_rests_of.mono (by first|decide|exact Nat.le_refl _|(first|lia|omega))) hr rfl (pa_cons (pv 0) pa_nil)))
  (pss_one (ps_ret (pe_and (pe_cmpR g_is (pe_fn (f_two_readings.mono (by first|decide|exact Nat.le_refl _|(first|lia|omega))) hr rfl (pa_cons (pv 0) pa_nil)) pe_non (nomark _)) (pe_and (pe_cmpR (notInK K) pe_str (pv 1) (by with_unfolding_all rfl)) (pe_one (pe_cmpR g_is (pe_fn (f_shows_one.mono (by first|decide|exact Nat.le_refl _|(first|lia|omega))) hr rfl (pa_cons (pv 0) (pa_cons (pv 1) pa_nil))) pe_bl (nomark _)))))))),?_⟩
 refine ⟨_,rfl,l,B,rfl,hB,gB,fun rs p H1 s1 hp0 hp1 hrl rnd mem=>gn ?_⟩
 have hE:("" : Str) ∉ rs:=fun h=>by
  obtain ⟨t,ht⟩:=(mem _).mp h
  exact no t (ht.amb gB.nodup)
 refine ⟨_,rfl,l,B,rfl,hB.same s1,gB,fun _ H2 s2 => ?_,fun z p q t ns ms H' ha=>absurd ha (no t)⟩
 refine .inl ⟨rfl,_,rfl,iteT ?_⟩
 have hp2:=s2 _ _ hp1
 have hin:inV (.str (Str.ofString "")) (rs.map V.str)=false:=by
  cases h:inV (.str (Str.ofString "")) (rs.map V.str) with
  | false=>rfl
  | true=>exact absurd (inV_iff.mp h) hE
 refine ⟨_,rfl,p,_,rfl, .inl (SqL.of hp2),rfl,flat_strs _,_,rfl,?_⟩
 rw [hin]
 refine iteT ⟨_,rfl,_,rfl,l,p,B,rs,rfl,hB.same (s1.trans s2),gB,hp2,hrl,rnd,mem,fun b H3 hb s3 => ?_⟩
 rw [hb.mpr hE]
 exact .inr ⟨true,true,rfl,rfl,q H3 (s1.trans (s2.trans s3))⟩
end
end Z
namespace Z
open PySem L2 PyProof.Rows
theorem mul_fold (a:Array Nat):∀(k:Nat) (acc:Array Nat),((List.replicate k a).foldl (· ++ ·) acc).toList=acc.toList++(List.replicate k a.toList).flatten
 | 0,acc=>by simp
 | k+1,acc=>by
  rw [List.replicate_succ,List.foldl_cons,mul_fold a k,List.replicate_succ]
  simp
theorem mul_one {ch:Nat} {x:Str} (hx:sg x=[ch]) (n:Nat):sg (Txt.mul x (n:Int))=List.replicate n ch:=by
 have fl:∀k:Nat,(List.replicate k [ch]).flatten=List.replicate k ch:=fun k=>by
  induction k with
  | zero=>rfl
  | succ k ih=>rw [List.replicate_succ,List.flatten_cons,ih,List.replicate_succ];rfl
 unfold Txt.mul
 by_cases h0:(n:Int)≤0
 ·have:n=0:=by (first|lia|omega)
  subst this
  rw [if_pos (by decide)]
  rfl
 ·rw [if_neg (by first|lia|omega)]
  by_cases h1:n=1
  ·subst h1
   rw [if_pos (by rfl)]
   exact hx
  ·rw [if_neg (by
    intro h
    rcases Bool.or_eq_true_iff.mp h with h|h
    ·have:=eq_of_beq h; (first|lia|omega)
    ·have h:=eq_of_beq h
     have:x.length=1:=by rw [str_len];show (sg x).length=1;rw [hx];rfl
     (first|lia|omega))]
   show ((List.replicate (n:Int).toNat x.cps).foldl (· ++ ·) #[]).toList=_
   rw [mul_fold,Int.toNat_natCast]
   show []++(List.replicate n (sg x)).flatten=_
   rw [hx,fl];rfl
theorem sg_nought:sg ("0" : Str)=[48]:=by decide +kernel
noncomputable def spNr:Sp:=fun vs H Q _=>∃(b c:Addr) (t:Int),vs=[.ref b]∧Bx H b c t∧0≤t∧t<900000∧∀(H':Hp) (t':Int),Step b c H H' t t' 400→Q (.bl true) H'
section
variable {P:Program} {w:World} {K:PySem.W.Frag} {mg:Str→Option Value} {base:Heap} {f:Addr} {fd:FuncData}
theorem sc_law_noughts_right:FnScope ["_law_state", "_law_short", "_law_more", "_law_long", "_law_names_here", "_law_codes", "_law_book", "_law_found", "_law_size"] ["_law_state"] (defScope (top i_law_noughts_right)):=⟨rfl,rfl,rfl,by decide +kernel,rfl,by decide +kernel,by decide +kernel⟩
theorem ok_nr (F:Fun K "_law_noughts_right" "_law_noughts_right" (top i_law_noughts_right) f fd) (T:Nm mg) (f_law_take:Fn P w K mg base 1 "_law_take" ["_law_state", "_law_many"] spTk) (f_law_names:Fn P w K mg base 2 "_law_names" ["_law_state", "_law_many"] spNl) (f_two_readings:Fn P w K mg base 6 "two_readings" ["book"] (spTr3 K)) (f_shows_two:Fn P w K mg base 5 "shows_two" ["book", "thing"] (spSh K)):FnOk P w K mg base CX0 7 f fd ["_law_state"] spNr:=by
 refine F.ok sc_law_noughts_right (fun vs H Q E h => ?_) (fun cdv A outer s H vs Q E hr h => ?_)
 ·obtain ⟨b,c,t,rfl,_⟩:=h
  rfl
 obtain ⟨b,c,t,rfl,bx,t0,t1,qk⟩:=h
 have hu6:=hr.units
 refine ⟨_,(pss_cons (ps_par (i:=1) (j:=2) rfl sc_law_noughts_right.nd rfl rfl (by decide) rfl rfl (pa_cons (pe_op addN pe_int (pe_fn (f_law_take.mono (by first|decide|exact Nat.le_refl _|(first|lia|omega))) hr rfl (pa_cons (pv 0) (pa_cons pe_int pa_nil)))) (pa_cons (pe_op addN pe_int (pe_fn (f_law_take.mono (by first|decide|exact Nat.le_refl _|(first|lia|omega))) hr rfl (pa_cons (pv 0) (pa_cons pe_int pa_nil)))) pa_nil)) rfl)
  (pss_cons (ps_set (i:=3) sc_law_noughts_right.nd rfl (Or.inl rfl) (pe_callB (call_min2 rfl) rfl T.n_min (by rfl) (pa_cons pe_int (pa_cons (pe_op addN (pv 1) (pv 2)) pa_nil))))
  (pss_cons (ps_set (i:=4) sc_law_noughts_right.nd rfl (Or.inl rfl) (pe_fn (f_law_names.mono (by first|decide|exact Nat.le_refl _|(first|lia|omega))) hr rfl (pa_cons (pv 0) (pa_cons pe_int pa_nil))))
  (pss_cons (ps_set (i:=5) sc_law_noughts_right.nd rfl (Or.inl rfl) (lstN (pa_cons (pe_op mulS pe_str (pv 1)) (pa_cons (pe_op mulS pe_str (pv 3)) pa_nil))))
  (pss_cons (ps_if (pt_cmpR (eqK K hu6) (pe_fn (f_law_take.mono (by first|decide|exact Nat.le_refl _|(first|lia|omega))) hr rfl (pa_cons (pv 0) (pa_cons pe_int pa_nil))) pe_int (nomark _)) (pss_one (ps_expr (bm0K K PySem.F.plainAttrs_list PySem.F.slot_list_reverse PySem.F.type_list_reverse reverseN (pv 5)))) pss_nil)
  (pss_cons (ps_set (i:=6) sc_law_noughts_right.nd rfl (Or.inl rfl) (pe_listzip rfl rfl T.n_list rfl T.n_zip (pa_cons (pv 4) (pa_cons (pv 5) pa_nil))))
  (pss_cons (ps_set (i:=7) sc_law_noughts_right.nd rfl (Or.inl rfl) (pe_fn (f_two_readings.mono (by first|decide|exact Nat.le_refl _|(first|lia|omega))) hr rfl (pa_cons (pv 6) pa_nil)))
  (pss_cons (ps_set (i:=8) sc_law_noughts_right.nd rfl (Or.inl rfl) (pe_ifExp (pt_cmpR (eqK K hu6) (pe_op op_mod (pv 3) (pv 1)) pe_int (nomark _)) (pv 3) (pe_op addN (pv 3) (pv 1))))
  (pss_one (ps_ret (pe_and (pe_cmpR (eqK K hu6) (pe_ix (ixK K) (pv 7) pe_int (fun _ _=>rfl)) (pe_op mulS pe_str (pv 8)) (nomark _)) (pe_and (pe_cmpR (eqK K hu6) (pe_ix (ixK K) (pe_ix (ixK K) (pv 7) pe_int (fun _ _=>rfl)) pe_int (fun _ _=>rfl)) (pe_ix (ixK K) (pv 4) pe_int (fun _ _=>rfl)) (nomark _)) (pe_and (pe_cmpR (eqK K hu6) (pe_ix (ixK K) (pe_ix (ixK K) (pv 7) pe_int (fun _ _=>rfl)) pe_int (fun _ _=>rfl)) (pe_ix (ixK K) (pv 4) pe_int (fun _ _=>rfl)) (nomark _)) (pe_one (pe_fn (f_shows_two.mono (by first|decide|exact Nat.le_refl _|(first|lia|omega))) hr rfl (pa_cons (pv 6) (pa_cons (pv 7) pa_nil))))))))))))))))),?_⟩
 refine ⟨_,rfl,b,c,t,11,rfl,bx,by first|lia|omega,by first|lia|omega,by decide,by decide,fun r1 H1 a0 a1 st1 => .inl ⟨_,_,rfl,rfl,?_⟩⟩
 refine ⟨_,rfl,b,c,_,11,rfl,st1.bx,by first|lia|omega,by first|lia|omega,by decide,by decide,fun r2 H2 b0 b1 st2 => .inl ⟨_,_,rfl,rfl,_,_,rfl,?_⟩⟩
 refine ⟨_,rfl,_,rfl, .inl ⟨_,_,rfl,rfl,_,_,rfl,gn ?_⟩⟩
 obtain ⟨s,es⟩:∃s:Nat,1+r1=(s:Int):=⟨(1+r1).toNat,by first|lia|omega⟩
 obtain ⟨l,el⟩:∃l:Nat,(if 1+r1+(1+r2)<12 then 1+r1+(1+r2) else 12)=(l:Int):=⟨(if 1+r1+(1+r2)<12 then 1+r1+(1+r2) else 12).toNat,by split <;> (first|lia|omega)⟩
 have hs:1≤s:=by (first|lia|omega)
 have hsl:s<l:=by split at el <;> (first|lia|omega)
 have hl12:l≤12:=by split at el <;> (first|lia|omega)
 rw [el,es]
 clear el es
 have st2:=st1.trans st2
 refine ⟨_,rfl,b,c,_,2,rfl,st2.bx,by first|lia|omega,by first|lia|omega,by decide,by decide,fun xs nl H3 t3 xl nd ln st3 hnl hn3=>gn ?_⟩
 obtain ⟨nb,nc⟩:=st2.bx.ne_new hnl
 have st3:=st2.trans st3
 have ub3:=st3.ub
 have lo3:=st3.le
 have okm:∀{n:Nat},n≤24→MulOk (Str.ofString "0") (n:Int):=fun h=>mulOk_small (by decide +kernel) (by first|lia|omega) (by first|lia|omega)
 refine ⟨_,rfl, .inr ⟨_,_,rfl,rfl,okm (by first|lia|omega),_,rfl, .inr ⟨_,_,rfl,rfl,okm (by first|lia|omega),by show 2≤sizeLine;decide,fun lc H4 n4=>gn ?_⟩⟩⟩
 obtain ⟨cb,cc⟩:=st3.bx.ne_new n4.nn
 have st4:=st3.newN n4
 have hn4:=n4.same _ _ hn3
 have hlc0:H lc=none:=st3.fresh bx n4.nn
 have zS:=mul_one sg_nought s
 have zL:=mul_one sg_nought l
 generalize Txt.mul (Str.ofString "0") (s:Int)=zs at zS n4
 generalize Txt.mul (Str.ofString "0") (l:Int)=zl at zL n4
 dsimp only
 refine seqCut (t:=tIfS _ _ _) (fun σ H'=>∃(t':Int) (c1 c2:Str), σ=[some (.ref b),some (.int (s:Int)),some (.int (1+r2)),some (.int (l:Int)),some (.ref nl),some (.ref lc),none,none,none]∧((c1=zs∧c2=zl)∨(c1=zl∧c2=zs))∧Step b c H H' t t' 310∧H' lc=some (.lst [.str c1, .str c2])∧H' nl=some (.lst (xs.map V.str))) (fun Nx nx => ?_) ?_
 ·refine ⟨_,rfl,b,c,_,2,rfl,st4.bx,by first|lia|omega,by first|lia|omega,by decide,by decide,fun r H5 d0 d1 st5 => .inl ⟨rfl,_,rfl,ite2 (fun _ => ?_) (fun _ => ?_)⟩⟩
  ·have h5:=st5.old n4.at cb cc
   refine ⟨_,rfl, .inl ⟨rfl,_,SqL.of h5⟩,lc,_,rfl,rfl,h5,fun H6 c6=>nx _ _ ⟨_,zl,zs,rfl, .inr ⟨rfl,rfl⟩,(((st4.trans st5).chgN c6 hlc0 cb cc).more (by first|lia|omega)),c6.at,?_⟩⟩
   rw [c6.ne (ne_of_none hn3 n4.nn)]
   exact st5.old hn4 nb nc
  ·exact nx _ _ ⟨_,zs,zl,rfl, .inl ⟨rfl,rfl⟩,((st4.trans st5).more (by first|lia|omega)),st5.old n4.at cb cc,st5.old hn4 nb nc⟩
 rintro σ H5 ⟨t5,c1,c2,rfl,hc,st5,hlc5,hn5⟩
 obtain ⟨x1,x2,rfl⟩:∃x1 x2,xs=[x1,x2]:=by
  match xs,xl with
  | [a,b],_=>exact ⟨a,b,rfl⟩
 have bin:∀{x:Str} {n:Nat},sg x=List.replicate n 48→1≤n→n≤12→CodeOk 12 x:=fun {x n} e h1 h2=>by
  have hl:x.length=n:=by rw [str_len];show (sg x).length=n;rw [e,List.length_replicate]
  exact ⟨fun ch hc => .inl (by have hc:ch∈sg x:=hc;rw [e] at hc;exact (List.mem_replicate.mp hc).2),by first|lia|omega,by first|lia|omega⟩
 have cS:=bin zS hs (by first|lia|omega)
 have cL:=bin zL (by first|lia|omega) hl12
 have gB:GoodN ([x1,x2].zip [c1,c2]):=by
  refine good_zip ⟨nd,ln⟩ (fun x hx => ?_) (Nat.le_of_ble_eq_true rfl) (Nat.le_refl _)
  rcases hc with ⟨rfl,rfl⟩|⟨rfl,rfl⟩ <;> (rcases List.mem_cons.mp hx with rfl|hx;assumption;rw [List.mem_singleton.mp hx];assumption)
 refine ⟨_,rfl,_,rfl,nl,lc,_,_,rfl,SqL.of hn5,SqL.of hlc5,fun H6 pb as sm6 hp hp6 hal hpairs=>gn ?_⟩
 have hbook:=book_zip2 (K:=K) (ns:=[x1,x2]) (cs:=[c1,c2]) st5.bx hp hp6 (Nat.le_refl _) hal hpairs
 obtain ⟨lb,e,lbb,lbc,hB,hBh⟩:=hbook.bkl
 injection e with e
 subst e
 have st6:=st5.trans (Step.same st5.bx sm6)
 have hn6:=sm6 _ _ hn5
 clear hpairs hal hp6
 have eB:[x1,x2].zip [c1,c2]=[(x1,c1),(x2,c2)]:=rfl
 rw [eB] at gB hB hBh hbook
 have x12:x1≠x2:=by
  intro z
  subst z
  exact absurd (List.mem_cons_self) (List.nodup_cons.mp nd).1
 obtain ⟨size,hsz⟩:∃size:Nat,size=if l % s=0 then l else l+s:=⟨_,rfl⟩
 have hszl:size≤24:=by split at hsz <;> (first|lia|omega)
 have zX:=mul_one sg_nought size
 have hL:Lst [(x1,c1),(x2,c2)] (Txt.mul (Str.ofString "0") (size:Int)):=by
  have cd:=gB.cd
  rcases hc with ⟨rfl,rfl⟩|⟨rfl,rfl⟩
  ·exact noughts (a:=(x1,c1)) (b:=(x2,c2)) List.mem_cons_self (List.mem_cons_of_mem _ List.mem_cons_self) (fun q hq=>by simpa using hq) (fun z=>x12 (by injection z)) zS zL cd hs hsl hsz zX
  ·exact noughts (a:=(x2,c2)) (b:=(x1,c1)) (List.mem_cons_of_mem _ List.mem_cons_self) List.mem_cons_self (fun q hq=>by
    have:q=(x1,c1)∨q=(x2,c2):=by simpa using hq
    exact this.symm) (fun z=>x12 (by injection z with z _;exact z.symm)) zS zL cd hs hsl hsz zX
 refine ⟨_,rfl,pb,_,rfl,hB,gB,fun no H' s'=>absurd hL.1 (no _),fun z p q t7 ns ms H7 ha lst tl s7 hz hp hq rd l1 l2=>gn ?_⟩
 have et:t7=Txt.mul (Str.ofString "0") (size:Int):=Lst.one ⟨ha,lst⟩ hL
 subst et
 dsimp only
 refine asgCut (te:=tIf _ _ _) (fun v H'=>H'=H7∧v = .int (size:Int)) (fun Qn qn => ?_) ?_
 ·refine ⟨_,rfl,_,rfl,_,_,rfl,rfl,by show (0:Int)<s; (first|lia|omega), .inl ⟨rfl,_,rfl,ite2 (fun c => ?_) (fun c => ?_)⟩⟩
  ·have c:((l:Int) % s)=0:=by
    have:=of_decide_eq_true c
    injection this
   have c':l % s=0:=by exact_mod_cast c
   rw [if_pos c'] at hsz
   exact ⟨_,rfl,qn _ _ ⟨rfl,by rw [hsz]⟩⟩
  ·have c':¬l % s=0:=fun z=>c (decide_eq_true (congrArg V.int (by exact_mod_cast z)))
   rw [if_neg c'] at hsz
   exact ⟨_,rfl,_,rfl, .inl ⟨_,_,rfl,rfl,qn _ _ ⟨rfl,by rw [hsz];rfl⟩⟩⟩
 rintro v H8 ⟨rfl,rfl⟩
 refine gn ?_
 obtain ⟨i,j,a,b',ps,qs,hij,hi,hj,o1,o2,rfl,rfl,e1,e2⟩:=id rd
 have hj2:j<2:=(List.getElem?_eq_some_iff.mp hj).1
 have i0:i=0:=by (first|lia|omega)
 have j1:j=1:=by (first|lia|omega)
 subst i0 j1
 cases hi
 cases hj
 refine ⟨_,rfl, .inr (.inl ⟨z,_,0, .str _,rfl,rfl,SqT.of hz,rfl,_,rfl, .inr ⟨_,_,rfl,rfl,okm hszl, .inl ⟨rfl,_,rfl,?_⟩⟩⟩)⟩
 rw [decide_eq_true rfl]
 refine iteT ?_
 refine ⟨_,rfl, .inr (.inl ⟨z,_,1, .ref p,rfl,rfl,SqT.of hz,rfl, .inl ⟨p,_,0, .str x1,rfl,rfl,SqL.of hp,at_nat (by decide) rfl,?_⟩⟩)⟩
 refine ⟨_,rfl, .inl ⟨nl,_,0, .str x1,rfl,rfl,SqL.of (s7 _ _ hn6),rfl, .inl ⟨rfl,_,rfl,?_⟩⟩⟩
 rw [decide_eq_true rfl]
 refine iteT ?_
 refine ⟨_,rfl, .inr (.inl ⟨z,_,2, .ref q,rfl,rfl,SqT.of hz,rfl, .inl ⟨q,_,0, .str x2,rfl,rfl,SqL.of hq,at_nat (by decide) rfl,?_⟩⟩)⟩
 refine ⟨_,rfl, .inl ⟨nl,_,1, .str x2,rfl,rfl,SqL.of (s7 _ _ hn6),rfl, .inl ⟨rfl,_,rfl,?_⟩⟩⟩
 rw [decide_eq_true rfl]
 refine iteT ?_
 refine ⟨_,rfl,_,rfl,pb,_,_,_,rfl,hB.same s7,gB,den_told hz hp hq,rd.asked gB l1 l2,fun b9 H9 h9 s9 => ?_⟩
 rw [h9.mpr (rd.shown gB)]
 exact qk H9 _ ((st6.trans (Step.same st6.bx (s7.trans s9))).more (by first|lia|omega))
end
end Z
namespace Z
open PySem L2 PyProof.Rows
theorem idx2 {α:Type} {a b : α} : ∀{l:List α} {i j:Nat},i<j→l[i]? = some a→l[j]? = some b→[a,b].Sublist l
 | [],_,_,_,h,_=>by cases h
 | x :: l,0,j+1,_,h1,h2=>by
  cases h1
  exact (List.singleton_sublist.mpr (List.mem_of_getElem? (show l[j]? = some b from h2))).cons_cons _
 | x :: l,i+1,j+1,h,h1,h2=>(idx2 (l:=l) (by first|lia|omega) h1 h2).cons _
 | _ :: _,_,0,h,_,_=>absurd h (Nat.not_lt_zero _)
theorem even_least {B:List (Str×Str)} {n:Nat} {y:Str} {a b:Str×Str} (g:GoodN B) (hn:∀q∈B,(sg q.2).length=n) (n1:1≤n) (hF:B.filter (fun q=>decide (q.2=y))=[a,b]) (un:∀c d,[c,d].Sublist B→c.2=d.2→c.2=y):Lst B y∧∀ns ms,Rd2 B y ns ms→ns=[a.1]∧ms=[b.1]:=by
 have hs:[a,b].Sublist B:=hF ▸ List.filter_sublist
 have in1:a∈B∧a.2=y:=by
  have:a∈B.filter (fun q=>decide (q.2=y)):=hF ▸ List.mem_cons_self
  have:=List.mem_filter.mp this
  exact ⟨this.1,of_decide_eq_true this.2⟩
 have in2:b∈B∧b.2=y:=by
  have:b∈B.filter (fun q=>decide (q.2=y)):=hF ▸ List.mem_cons_of_mem _ List.mem_cons_self
  have:=List.mem_filter.mp this
  exact ⟨this.1,of_decide_eq_true this.2⟩
 have hab:a≠b:=fun z=>by
  have:=g.nodup.sublist hs
  rw [z] at this
  exact absurd List.mem_cons_self (List.nodup_cons.mp this).1
 have ly:(sg y).length=n:=by rw [←in1.2];exact hn a in1.1
 have short:∀{c:Str×Str} {ps:List (Str×Str)},Of B (c :: ps)→(tx (c :: ps)).length=n→ps=[]:=fun {c ps} o e=>by
  cases ps with
  | nil=>rfl
  | cons p ps=>
   rw [tx_cons,tx_cons,List.length_append,List.length_append,hn c (o c List.mem_cons_self),hn p (o p (List.mem_cons_of_mem _ List.mem_cons_self))] at e
   (first|lia|omega)
 refine ⟨⟨⟨[a],[b],of_one in1.1,of_one in2.1,fun z=>hab (by injection z),by rw [tx_one,in1.2],by rw [tx_one,in2.2]⟩,fun u hu => ?_⟩,fun ns ms h => ?_⟩
 ·obtain ⟨ps,qs,o1,o2,hne,e1,e2⟩:=hu
  have lu:u.length=(sg u).length:=str_len u
  have ly':y.length=n:=by rw [str_len];exact ly
  have head:∀{ps:List (Str×Str)},Of B ps→tx ps=sg u→ps=[]→(sg u).length=0:=fun _ e z=>by rw [←e,z];rfl
  have ne1:∀{ps qs:List (Str×Str)},Of B ps→Of B qs→tx ps=tx qs→ps=[]→qs=[]:=fun {ps qs} _ o e z=>by
   cases qs with
   | nil=>rfl
   | cons q qs=>
    rw [z,tx_cons] at e
    have:=congrArg List.length e
    rw [List.length_append,hn q (o q List.mem_cons_self)] at this
    change 0=_ at this
    (first|lia|omega)
  cases ps with
  | nil=>exact absurd (ne1 o1 o2 (e1.trans e2.symm) rfl).symm hne
  | cons c ps=>
   cases qs with
   | nil=>exact absurd (ne1 o2 o1 (e2.trans e1.symm) rfl) hne
   | cons d qs=>
    have hc:=hn c (o1 c List.mem_cons_self)
    have hle:n≤(sg u).length:=by rw [←e1,tx_cons,List.length_append,hc]; (first|lia|omega)
    rintro (z|⟨z1,z2⟩)
    ·(first|lia|omega)
    ·have h1:=short o1 (by rw [e1]; (first|lia|omega))
     have h2:=short o2 (by rw [e2]; (first|lia|omega))
     subst h1 h2
     rw [tx_one] at e1 e2
     have hcd:c≠d:=fun z=>hne (by rw [z])
     have ecd:c.2=d.2:=str_eq (e1.trans e2.symm)
     have hu:u=y:=by
      obtain ⟨i,hi⟩:=List.mem_iff_getElem?.mp (o1 c List.mem_cons_self)
      obtain ⟨j,hj⟩:=List.mem_iff_getElem?.mp (o2 d List.mem_cons_self)
      rcases Nat.lt_trichotomy i j with h|h|h
      ·rw [←un c d (idx2 h hi hj) ecd];exact str_eq e1.symm
      ·subst h;exact absurd (Option.some.inj (hi.symm.trans hj)) hcd
      ·rw [←un d c (idx2 h hj hi) ecd.symm];exact str_eq e2.symm
     rw [hu] at z2
     exact List.lt_irrefl _ z2
 ·obtain ⟨i,j,c,d,ps,qs,hij,hi,hj,o1,o2,rfl,rfl,e1,e2⟩:=h
  have h1:=short o1 (by rw [e1];exact ly)
  have h2:=short o2 (by rw [e2];exact ly)
  subst h1 h2
  rw [tx_one] at e1 e2
  have s1:=(idx2 hij hi hj).filter (fun q=>decide (q.2=y))
  rw [hF,List.filter_cons,List.filter_cons] at s1
  rw [if_pos (decide_eq_true (str_eq e1)),if_pos (decide_eq_true (str_eq e2))] at s1
  have:=s1.eq_of_length rfl
  injection this with t1 t2
  injection t2 with t2 _
  subst t1 t2
  exact ⟨rfl,rfl⟩
theorem one_in {y:Str} : ∀{cs:List Str},cs.Nodup→y∈cs→(cs.filter fun x=>decide (x=y)).length=1:=fun {cs} nd h=>by
 have h1:(cs.filter fun x=>decide (x=y)).Nodup:=nd.sublist List.filter_sublist
 have h2:∀x∈cs.filter fun x=>decide (x=y),x=y:=fun x hx=>of_decide_eq_true (List.mem_filter.mp hx).2
 have h3:y∈cs.filter fun x=>decide (x=y):=List.mem_filter.mpr ⟨h,decide_eq_true rfl⟩
 generalize (cs.filter fun x=>decide (x=y))=l at h1 h2 h3
 match l,h1,h2,h3 with
 | [a],_,_,_=>rfl
 | a :: b :: r,h1,h2,_=>
  have e1:=h2 a List.mem_cons_self
  have e2:=h2 b (List.mem_cons_of_mem _ List.mem_cons_self)
  exact absurd (by rw [e1,e2];exact List.mem_cons_self) (List.nodup_cons.mp h1).1
theorem twice {xs cs:List Str} {at':Nat} {y:Str} (nd:cs.Nodup) (hy:y∈cs) (hl:xs.length=cs.length+1):(∃a b,(xs.zip (cs.take at'++[y]++cs.drop at')).filter (fun q=>decide (q.2=y))=[a,b])∧∀c d,[c,d].Sublist (xs.zip (cs.take at'++[y]++cs.drop at'))→c.2=d.2→c.2=y:=by
 have hlen:(cs.take at'++[y]++cs.drop at').length=cs.length+1:=by
  rw [List.length_append,List.length_append,List.length_take,List.length_drop,List.length_singleton]; (first|lia|omega)
 have hsn:(xs.zip (cs.take at'++[y]++cs.drop at')).map (·.2)=cs.take at'++[y]++cs.drop at':=List.map_snd_zip (by first|lia|omega)
 have cnt:∀p:Str→Bool,((cs.take at'++[y]++cs.drop at').filter p).length=(cs.filter p).length+([y].filter p).length:=fun p=>by
  have e:cs.filter p=(cs.take at').filter p++(cs.drop at').filter p:=by rw [←List.filter_append,List.take_append_drop]
  rw [List.filter_append,List.filter_append,e,List.length_append,List.length_append,List.length_append]; (first|lia|omega)
 refine ⟨?_,fun c d hs e => ?_⟩
 ·have h1:((xs.zip (cs.take at'++[y]++cs.drop at')).filter (fun q=>decide (q.2=y))).length=2:=by
   have e:((xs.zip (cs.take at'++[y]++cs.drop at')).map (·.2)).filter (fun x=>decide (x=y))=((xs.zip (cs.take at'++[y]++cs.drop at')).filter (fun q=>decide (q.2=y))).map (·.2):=List.filter_map
   have e2:=congrArg List.length e
   rw [List.length_map,hsn,cnt,one_in nd hy] at e2
   rw [←e2]
   show 1+(List.filter _ [y]).length=2
   rw [List.filter_cons,if_pos (decide_eq_true rfl)];rfl
  generalize (xs.zip (cs.take at'++[y]++cs.drop at')).filter (fun q=>decide (q.2=y))=F at h1
  match F,h1 with
  | [a,b],_=>exact ⟨a,b,rfl⟩
 ·by_cases z:c.2=y
  ·exact z
  ·have h1:[c.2,c.2].Sublist (cs.take at'++[y]++cs.drop at'):=by
    have:=hs.map (·.2)
    rw [hsn] at this
    rw [List.map_cons,List.map_cons, ←e] at this
    exact this
   have h2:=h1.filter (fun x => !decide (x=y))
   have e3:(cs.take at'++[y]++cs.drop at').filter (fun x => !decide (x=y))=cs.filter (fun x => !decide (x=y)):=by
    rw [List.filter_append,List.filter_append]
    have:List.filter (fun x => !decide (x=y)) [y]=[]:=by rw [List.filter_cons,decide_eq_true rfl];rfl
    rw [this,List.append_nil, ←List.filter_append,List.take_append_drop]
   rw [e3] at h2
   have h3:(List.filter (fun x => !decide (x=y)) [c.2,c.2])=[c.2,c.2]:=by
    rw [List.filter_cons,List.filter_cons,decide_eq_false z];rfl
   rw [h3] at h2
   have:=(nd.sublist List.filter_sublist).sublist h2
   exact absurd List.mem_cons_self (List.nodup_cons.mp this).1
theorem even_free {B:List (Str×Str)} {n:Nat} (hn:∀q∈B,(sg q.2).length=n) (nd:(B.map (·.2)).Nodup) {a b:Str×Str} (ha:a∈B) (hb:b∈B) (ne:a≠b):RF a.2 b.2:=by
 have hne:a.2≠b.2:=fun z=>ne (one_of nd ha hb z)
 have e1:=hn a ha
 have e2:=hn b hb
 refine ⟨fun h=>hne (str_eq (h.eq_of_length (by first|lia|omega))),fun h=>hne (str_eq (h.eq_of_length (by first|lia|omega))).symm⟩
end Z
namespace Z
open PySem L2 PyProof.Rows
theorem bit01' {r:Int} (h0:0≤r) (h1:r<2):∃c,atI (Str.ofString "01").cps.toList r=some c∧(c=48∨c=49):=by
 have:r=0∨r=1:=by (first|lia|omega)
 rcases this with rfl|rfl
 ·exact ⟨48,by decide +kernel, .inl rfl⟩
 ·exact ⟨49,by decide +kernel, .inr rfl⟩
theorem ones_bin' {xs:List Str} (h:∀x∈xs,∃ch:Nat,x=⟨#[ch]⟩∧(ch=48∨ch=49)):Bin (Txt.join "" xs)∧(Txt.join "" xs).length=xs.length:=by
 refine ⟨fun ch hc => ?_,?_⟩
 ·have hc:ch∈(Txt.join "" xs).cps.toList:=hc
  rw [join_list0] at hc
  obtain ⟨x,hx,hc⟩:=List.mem_flatMap.mp hc
  obtain ⟨k,rfl,hk⟩:=h x hx
  have:ch∈[k]:=hc
  rw [List.mem_singleton.mp this];exact hk
 ·rw [str_len]
  rw [join_list0]
  exact (ones_len fun x hx=>by obtain ⟨k,e,_⟩:=h x hx;exact ⟨k,e⟩).1
structure Evs (n:Nat) (cs:List Str):Prop where
 nd:cs.Nodup
 ok:∀x∈cs,Bin x∧x.length=n
section
variable {P:Program} {w:World} {K:PySem.W.Frag} {mg:Str→Option Value} {base:Heap} {f:Addr} {fd:FuncData}
theorem sc_law_even_right:FnScope ["_law_state", "_law_size", "_law_codes", "_law_k", "_law_code", "_law_names_here", "_law_at", "_law_again", "_law_book", "_law_some"] ["_law_state"] (defScope (top i_law_even_right)):=⟨rfl,rfl,rfl,by decide +kernel,rfl,by decide +kernel,by decide +kernel⟩
theorem ok_er (F:Fun K "_law_even_right" "_law_even_right" (top i_law_even_right) f fd) (T:Nm mg) (f_law_take:Fn P w K mg base 1 "_law_take" ["_law_state", "_law_many"] spTk) (f_law_names:Fn P w K mg base 2 "_law_names" ["_law_state", "_law_many"] spNl) (f_law_none:Fn P w K mg base 7 "_law_none" ["_law_book"] (spNone K)) (f_two_readings:Fn P w K mg base 6 "two_readings" ["book"] (spTr3 K)) (f_rests_of:Fn P w K mg base 4 "rests_of" ["book"] (spRo K)):FnOk P w K mg base CX0 8 f fd ["_law_state"] spNr:=by
 refine F.ok sc_law_even_right (fun vs H Q E h => ?_) (fun cdv A outer s H vs Q E hr h => ?_)
 ·obtain ⟨b,c,t,rfl,_⟩:=h
  rfl
 obtain ⟨b,c,t,rfl,bx,t0,t1,qk⟩:=h
 have hu6:=hr.units
 have small:∀{n:Nat},n≤1000→n<sizeLine:=fun h=>Nat.lt_of_le_of_lt h (by decide)
 refine ⟨_,(pss_cons (ps_set (i:=1) sc_law_even_right.nd rfl (Or.inl rfl) (pe_op addN pe_int (pe_fn (f_law_take.mono (by first|decide|exact Nat.le_refl _|(first|lia|omega))) hr rfl (pa_cons (pv 0) (pa_cons pe_int pa_nil)))))
  (pss_cons (ps_set (i:=2) sc_law_even_right.nd rfl (Or.inl rfl) (lstN pa_nil))
  (pss_cons (ps_for PassesOwn.never rfl (pi_range1 rfl T.n_range (pa_cons (pe_op addN pe_int (pe_fn (f_law_take.mono (by first|decide|exact Nat.le_refl _|(first|lia|omega))) hr rfl (pa_cons (pv 0) (pa_cons pe_int pa_nil)))) pa_nil)) (pg_name (i:=3) sc_law_even_right.nd rfl (Or.inl rfl)) (pss_cons (ps_set (i:=4) sc_law_even_right.nd rfl (Or.inl rfl) (bmK K PySem.F.plainAttrs_str PySem.F.slot_str_join PySem.F.type_str_join (joinK K) pe_str (pa_cons (pe_lcomp rfl (comp_ok (Nc:=["_law_j"]) (Fc:=["_law_state"]) (js:=[0])) (pi_range1 rfl T.n_range (pa_cons (pv 1) pa_nil)) (gk_name (i:=0) (n:=1) (by decide)) (fun _ _ _ _ _=>(pg_name (i:=0) (show (["_law_j", "_law_state"]:List Str).Nodup by decide +kernel) rfl (Or.inl rfl))) (fun _ _ _ _ _=>pts_nil) (fun _ _ _ _ _=>(pe_ix (ixK K) pe_str (pe_fn (f_law_take.mono (by first|decide|exact Nat.le_refl _|(first|lia|omega))) hr rfl (pa_cons (pv 1) (pa_cons pe_int pa_nil))) (fun _ _=>rfl)))) pa_nil)))
  (pss_one (ps_set (i:=2) sc_law_even_right.nd rfl (Or.inl rfl) (pe_op addN (pv 2) (pe_op mulN (lstN (pa_cons (pv 4) pa_nil)) (pe_callTy call_int1 rfl T.n_int (by rfl) (pa_cons (pe_cmpR (notInK K) (pv 4) (pv 2) (by with_unfolding_all rfl)) pa_nil))))))))
  (pss_cons (ps_set (i:=5) sc_law_even_right.nd rfl (Or.inl rfl) (pe_fn (f_law_names.mono (by first|decide|exact Nat.le_refl _|(first|lia|omega))) hr rfl (pa_cons (pv 0) (pa_cons (pe_op addN (pe_callB (lenK K) rfl T.n_len (by rfl) (pa_cons (pv 2) pa_nil)) pe_int) pa_nil))))
  (pss_cons (ps_if (pt_not (pt_val (pe_fn (f_law_none.mono (by first|decide|exact Nat.le_refl _|(first|lia|omega))) hr rfl (pa_cons (pe_listzip rfl rfl T.n_list rfl T.n_zip (pa_cons (pv 5) (pa_cons (pv 2) pa_nil))) pa_nil)))) (pss_one (ps_ret pe_bl)) pss_nil)
  (pss_cons (ps_set (i:=6) sc_law_even_right.nd rfl (Or.inl rfl) (pe_fn (f_law_take.mono (by first|decide|exact Nat.le_refl _|(first|lia|omega))) hr rfl (pa_cons (pv 0) (pa_cons (pe_op addN (pe_callB (lenK K) rfl T.n_len (by rfl) (pa_cons (pv 2) pa_nil)) pe_int) pa_nil))))
  (pss_cons (ps_set (i:=7) sc_law_even_right.nd rfl (Or.inr rfl) (pe_ix (ixK K) (pv 2) (pe_fn (f_law_take.mono (by first|decide|exact Nat.le_refl _|(first|lia|omega))) hr rfl (pa_cons (pv 0) (pa_cons (pe_callB (lenK K) rfl T.n_len (by rfl) (pa_cons (pv 2) pa_nil)) pa_nil))) (fun _ _=>rfl)))
  (pss_cons (ps_set (i:=2) sc_law_even_right.nd rfl (Or.inl rfl) (pe_op addN (pe_op addN (pe_slice (slN K) (pv 2) po_none (po_some (pv 6))) (lstN (pa_cons (pv 7) pa_nil))) (pe_slice (slN K) (pv 2) (po_some (pv 6)) po_none)))
  (pss_cons (ps_set (i:=8) sc_law_even_right.nd rfl (Or.inl rfl) (pe_listzip rfl rfl T.n_list rfl T.n_zip (pa_cons (pv 5) (pa_cons (pv 2) pa_nil))))
  (pss_cons (ps_setcomp (i:=9) sc_law_even_right.nd rfl (Or.inl rfl) rfl (comp_ok (Nc:=["_law_name", "_law_code"]) (Fc:=["_law_again"]) (js:=[7])) (piK K (pv 8)) (gk_tup (gks_cons (gk_name (i:=0) (n:=2) (by decide)) (gks_cons (gk_name (i:=1) (n:=2) (by decide)) gks_nil gm_name gms_nil) gm_name (gms_cons gm_name gms_nil))) (fun _ _ _ _ _=>(tupK K 2 rfl (pgs_cons (pg_name (i:=0) (show (["_law_name", "_law_code", "_law_again"]:List Str).Nodup by decide +kernel) rfl (Or.inl rfl)) (pgs_cons (pg_name (i:=1) (show (["_law_name", "_law_code", "_law_again"]:List Str).Nodup by decide +kernel) rfl (Or.inl rfl)) pgs_nil)))) (fun _ _ _ _ _=>(pts_one (pt_cmpR (eqK K hu6) (pv 1) (pv 2) (nomark _)))) (fun _ _ _ _ _=>(pv 0)))
  (pss_one (ps_ret (pe_and (pe_cmpR (eqK K hu6) (pe_fn (f_two_readings.mono (by first|decide|exact Nat.le_refl _|(first|lia|omega))) hr rfl (pa_cons (pv 8) pa_nil)) (tupN (pa_cons (pv 7) (pa_cons (lstN (pa_cons (pe_ix (ixK K) (pv 9) pe_int (fun _ _=>rfl)) pa_nil)) (pa_cons (lstN (pa_cons (pe_ix (ixK K) (pv 9) pe_int (fun _ _=>rfl)) pa_nil)) pa_nil)))) (nomark _)) (pe_one (pe_cmpR (inK K) pe_str (pe_fn (f_rests_of.mono (by first|decide|exact Nat.le_refl _|(first|lia|omega))) hr rfl (pa_cons (pv 8) pa_nil)) (by with_unfolding_all rfl)))))))))))))))),?_⟩
 refine ⟨_,rfl,b,c,t,6,rfl,bx,by first|lia|omega,by first|lia|omega,by decide,by decide,fun r1 H1 a0 a1 st1 => .inl ⟨_,_,rfl,rfl,gn ?_⟩⟩
 obtain ⟨n,en,n1,n6⟩:∃n:Nat,1+r1=(n:Int)∧1≤n∧n≤6:=⟨(1+r1).toNat,by first|lia|omega,by first|lia|omega,by first|lia|omega⟩
 rw [en]
 refine ⟨by show 0≤sizeLine;decide,fun l0 H2 n2=>gn ?_⟩
 have st2:=st1.newN n2
 obtain ⟨l0b,l0c⟩:=st1.bx.ne_new n2.nn
 dsimp only
 refine seqCut (t:=tFor _ _ _) (fun σ H'=>∃(x3 x4:Option V) (cs:List Str) (l:Addr) (t':Int), σ=[some (.ref b),some (.int (n:Int)),some (.ref l),x3,x4,none,none,none,none,none]∧l≠b∧l≠c∧H' l=some (.lst (cs.map V.str))∧Evs n cs∧cs≠[]∧cs.length≤8∧Step b c H H' t t' 60) (fun Nx nx => ?_) ?_
 ·refine ⟨_,rfl,b,c,_,8,rfl,st2.bx,by first|lia|omega,by first|lia|omega,by decide,by decide,fun r2 H3 b0 b1 st3 => .inl ⟨_,_,rfl,rfl,?_⟩⟩
  obtain ⟨m,em,m1,m8⟩:∃m:Nat,1+r2=(m:Int)∧1≤m∧m≤8:=⟨(1+r2).toNat,by first|lia|omega,by first|lia|omega,by first|lia|omega⟩
  rw [em]
  refine ⟨(m:Nat),rfl,by first|lia|omega,by first|lia|omega,?_⟩
  refine for_range (lo:=0) (n:=m) (fun i σ H'=>∃(x3 x4:Option V) (cs:List Str) (l:Addr) (t':Int), σ=[some (.ref b),some (.int (n:Int)),some (.ref l),x3,x4,none,none,none,none,none]∧l≠b∧l≠c∧H' l=some (.lst (cs.map V.str))∧Evs n cs∧(0<i→cs≠[])∧cs.length≤i∧Step b c H H' t t' (2+6*i)) ⟨_,_,[],l0,_,rfl,l0b,l0c,st3.old n2.at l0b l0c,⟨List.nodup_nil,fun x hx=>nomatch hx⟩,fun h=>absurd h (Nat.lt_irrefl _),Nat.le_refl _,(st2.trans st3).more (by first|lia|omega)⟩ ?_ ?_
  ·rintro i σ H4 hi ⟨x3,x4,cs,l,t4,rfl,lb,lc,hl4,ev,hne,hcl,st4⟩
   have ub4:=st4.ub
   have lo4:=st4.le
   refine ⟨rfl,_,rfl,(n:Nat),rfl,by first|lia|omega,by first|lia|omega,?_⟩
   refine comp_go (N:=n) (fun k ys H'=>∃(us:List Str) (t':Int),ys=us.map V.str∧us.length=k∧(∀x∈us,∃ch:Nat,x=⟨#[ch]⟩∧(ch=48∨ch=49))∧Step b c H H' t t' (2+6*i+k)∧H' l=some (.lst (cs.map V.str))) ⟨[],_,rfl,rfl,(fun _ h=>nomatch h),st4.more (by first|lia|omega),hl4⟩ ?_ ?_
   ·rintro k ys H5 Nz hk ⟨us,t5,rfl,ul,uok,st5,hl5⟩ nz
    have ub5:=st5.ub
    have lo5:=st5.le
    refine ⟨hk,small (by rw [List.length_map]; (first|lia|omega)),?_⟩
    rintro x H6 ⟨rfl,rfl⟩
    refine gn ⟨_,rfl,b,c,t5,2,rfl,st5.bx,by first|lia|omega,by first|lia|omega,by decide,by decide,fun d H7 d0 d1 st7 => ?_⟩
    obtain ⟨ch,hch,hb⟩:=bit01' d0 d1
    refine .inr (.inr ⟨_,d,_,rfl,rfl,by decide +kernel,hch,nz _ _ ⟨us++[⟨#[ch]⟩],_,by rw [List.map_append];rfl,by rw [List.length_append,ul];rfl,fun x hx => ?_,(st5.trans st7).more (by first|lia|omega),st7.old hl5 lb lc⟩⟩)
    rcases List.mem_append.mp hx with h|h
    ·exact uok x h
    ·exact ⟨ch,List.mem_singleton.mp h,hb⟩
   ·rintro ys H5 ⟨us,t5,rfl,ul,uok,st5,hl5⟩
    obtain ⟨jb,jl⟩:=ones_bin' uok
    refine ⟨Nat.le_refl _,fun p hp=>⟨_,p,us,rfl,rfl,SqL.of upd_same,?_,?_⟩⟩
    ·rw [(ones_len fun x hx=>by obtain ⟨k,e,_⟩:=uok x hx;exact ⟨k,e⟩).2]
     show us.length+us.length*0≤16777216
     (first|lia|omega)
    ·have hn:New H5 p (.lst (us.map V.str)) (upd H5 p (.lst (us.map V.str))):=⟨hp,rfl⟩
     generalize upd H5 p (.lst (us.map V.str))=H6 at hn ⊢
     rw [ul] at jl
     generalize Txt.join (Str.ofString "") us=code at jb jl
     have hl6:=hn.same _ _ hl5
     refine gn ⟨_,rfl,_,rfl,by show 1≤sizeLine;decide,fun p7 H7 n7 => ?_⟩
     have hl7:=n7.same _ _ hl6
     have st7:=(st5.newN hn).newN n7
     refine ⟨_,rfl,_,rfl,l,_,rfl, .inl (SqL.of hl7),rfl,flat_strs _, .inr ⟨_,rfl,?_⟩⟩
     obtain ⟨k,ek,hk⟩:∃k:Nat,(if (if true=true then !inV (.str code) (cs.map V.str) else inV (.str code) (cs.map V.str))=true then (1:Int) else 0)=(k:Int)∧((k=1∧code ∉ cs)∨(k=0∧code∈cs)):=by
      rw [if_pos rfl]
      by_cases h:code∈cs
      ·exact ⟨0,by rw [inV_iff.mpr h];rfl, .inr ⟨rfl,h⟩⟩
      ·have:inV (.str code) (cs.map V.str)=false:=by
        cases e:inV (.str code) (cs.map V.str) with
        | false=>rfl
        | true=>exact absurd (inV_iff.mp e) h
       exact ⟨1,by rw [this];rfl, .inl ⟨rfl,h⟩⟩
     rw [ek]
     have kle:k≤1:=by rcases hk with ⟨h,_⟩|⟨h,_⟩ <;> (first|lia|omega)
     refine .inr ⟨p7,_,_,rfl,rfl,n7.at,by first|lia|omega,by first|lia|omega,by rw [Int.toNat_natCast];exact sizeOk (by show 1*k≤_; (first|lia|omega)),fun p8 H8 n8 => ?_⟩
     rw [Int.toNat_natCast] at n8
     have e8:(List.replicate k [V.str code]).flatten=(List.replicate k code).map V.str:=by
      rcases hk with ⟨rfl,_⟩|⟨rfl,_⟩ <;> rfl
     rw [e8] at n8
     have hl8:=n8.same _ _ hl7
     refine .inr (.inr ⟨l,p8,_,_,rfl,rfl,hl8,n8.at,by rw [List.length_map,List.length_map,List.length_replicate];exact sizeOk (by first|lia|omega),fun p9 H9 n9=>gn ?_⟩)
     have st8:=st7.newN n8
     obtain ⟨b9,c9⟩:=st8.bx.ne_new n9.nn
     have e9:=n9.at
     rw [←List.map_append] at e9
     refine ⟨_,_,cs++List.replicate k code,p9,_,rfl,b9,c9,e9,⟨?_,fun x hx => ?_⟩,fun _ z => ?_,by rw [List.length_append,List.length_replicate]; (first|lia|omega),(st8.newN n9).more (by first|lia|omega)⟩
     ·rcases hk with ⟨rfl,h⟩|⟨rfl,h⟩
      ·exact nd_snoc ev.nd h
      ·rw [List.replicate_zero,List.append_nil];exact ev.nd
     ·rcases List.mem_append.mp hx with hx|hx
      ·exact ev.ok x hx
      ·rw [(List.mem_replicate.mp hx).2];exact ⟨jb,jl⟩
     ·have z1:=List.append_eq_nil_iff.mp z
      rcases hk with ⟨rfl,_⟩|⟨_,h⟩
      ·cases z1.2
      ·rw [z1.1] at h;cases h
  ·rintro σ H4 ⟨x3,x4,cs,l,t4,rfl,lb,lc,hl4,ev,hne,hcl,st4⟩
   exact nx _ _ ⟨_,_,cs,l,t4,rfl,lb,lc,hl4,ev,hne (by first|lia|omega),by first|lia|omega,st4.more (by first|lia|omega)⟩
 rintro σ H3 ⟨x3,x4,cs,l,t3,rfl,lb,lc,hl3,ev,hne,hcl,st3⟩
 have ub3:=st3.ub
 have lo3:=st3.le
 have cl:(cs.map V.str).length=cs.length:=List.length_map _
 have cpos:0<cs.length:=List.length_pos_iff.mpr hne
 have cd:∀x∈cs,CodeOk 12 x:=fun x hx=>⟨(ev.ok x hx).1,by have:=(ev.ok x hx).2; (first|lia|omega),by have:=(ev.ok x hx).2; (first|lia|omega)⟩
 refine ⟨_,rfl,_,rfl,_,_,rfl, .inl ⟨_,SqL.of hl3,rfl⟩, .inl ⟨_,_,rfl,rfl,b,c,t3,_,rfl,st3.bx,by first|lia|omega,by first|lia|omega,by first|lia|omega,by first|lia|omega,fun xs nl H4 t4 xl nd ln st4 hnl hn4=>gn ?_⟩⟩
 obtain ⟨nb,nc⟩:=st3.bx.ne_new hnl
 have hl4:=st4.old hl3 lb lc
 have st4:=st3.trans st4
 have ub4:=st4.ub
 have lo4:=st4.le
 have xl':xs.length=cs.length+1:=by (first|lia|omega)
 have nmok:NmOk xs:=⟨nd,ln⟩
 have lnE:∀{ds:List Str},(∀x∈ds,Bin x∧x.length=n)→∀q∈xs.zip ds,(sg q.2).length=n:=fun h q hq=>by
  have:=(h _ (List.of_mem_zip (a:=q.1) (b:=q.2) hq).2).2
  rw [str_len] at this
  exact this
 refine ⟨_,rfl,_,rfl,nl,l,_,_,rfl,SqL.of hn4,SqL.of hl4,fun H5 p5 as5 sm5 hp5 hp5' hal5 hpairs5 => ?_⟩
 have g5:GoodN (xs.zip cs):=good_zip nmok cd (by first|lia|omega) (by first|lia|omega)
 obtain ⟨lq,e5,_,_,hB5,_⟩:=(book_zip2 (K:=K) st4.bx hp5 hp5' (by first|lia|omega) hal5 hpairs5).bkl
 injection e5 with e5
 subst e5
 clear hpairs5 hal5 hp5'
 refine ⟨p5,_,rfl,hB5,g5,free_one g5.cd fun x hx y hy ne=>even_free (lnE ev.ok) (by rw [zip_snd2 (by first|lia|omega)];exact ev.nd) hx hy ne,fun H6 s6=>⟨_,rfl,iteF ?_⟩⟩
 dsimp only [tNext]
 have s46:=sm5.trans s6
 have st6:=st4.trans (Step.same st4.bx s46)
 have hl6:=s46 _ _ hl4
 have hn6:=s46 _ _ hn4
 refine ⟨_,rfl,_,rfl,_,_,rfl, .inl ⟨_,SqL.of hl6,rfl⟩, .inl ⟨_,_,rfl,rfl,b,c,_,_,rfl,st6.bx,by first|lia|omega,by first|lia|omega,by first|lia|omega,by first|lia|omega,fun at' H7 a0 a1 st7=>gn ?_⟩⟩
 have hl7:=st7.old hl6 lb lc
 have hn7:=st7.old hn6 nb nc
 have st7:=st6.trans st7
 refine ⟨_,rfl,_,rfl,_,rfl,_,_,rfl, .inl ⟨_,SqL.of hl7,rfl⟩,b,c,_,_,rfl,st7.bx,by first|lia|omega,by first|lia|omega,by first|lia|omega,by first|lia|omega,fun k H8 k0 k1 st8 => ?_⟩
 have hl8:=st8.old hl7 lb lc
 have hn8:=st8.old hn7 nb nc
 have st8:=st7.trans st8
 have hk:k.toNat<cs.length:=by (first|lia|omega)
 refine .inl ⟨l,_,k, .str cs[k.toNat],rfl,rfl,SqL.of hl8,at_nat k0 (by rw [List.getElem?_map,List.getElem?_eq_getElem hk];rfl),gn ?_⟩
 have hyc:=List.getElem_mem hk
 generalize cs[k.toNat]=y at hyc
 obtain ⟨a,ea⟩:∃a:Nat,at'=(a:Int):=⟨at'.toNat,by first|lia|omega⟩
 subst ea
 rw [show (List.set _ _ _:L2.St)=[some (.ref b),some (.int (n:Int)),some (.ref l),x3,x4,some (.ref nl),some (.int (a:Int)),some (.str y),none,none] from rfl]
 dsimp only
 refine ⟨_,rfl,_,rfl,_,rfl, .inl ⟨l,_,rfl,SqL.of hl8,fun p9 H9 n9 => ?_⟩⟩
 rw [cut_to, ←List.map_take] at n9
 refine ⟨_,rfl,by show 1≤sizeLine;decide,fun p10 H10 n10 => .inr (.inr ⟨p9,p10,_,_,rfl,rfl,n10.same _ _ n9.at,n10.at,by rw [List.length_map,List.length_take];exact sizeOk (by show _+1≤_; (first|lia|omega)),fun p11 H11 n11 => ?_⟩)⟩
 have s11:=n9.same.trans (n10.same.trans n11.same)
 refine ⟨_,rfl,_,rfl,_,rfl,?_⟩
 dsimp only [tNoPart]
 refine .inl ⟨l,_,rfl,SqL.of (s11 _ _ hl8),fun p12 H12 n12 => ?_⟩
 rw [cut_from, ←List.map_drop] at n12
 refine .inr (.inr ⟨p11,p12,_,_,rfl,rfl,n12.same _ _ n11.at,n12.at,by rw [List.length_append,List.length_map,List.length_map,List.length_take,List.length_drop];exact sizeOk (by show _+1+_≤_; (first|lia|omega)),fun p13 H13 n13=>gn ?_⟩)
 have e13:(cs.take a).map V.str++[.str y]++(cs.drop a).map V.str=(cs.take a++[y]++cs.drop a).map V.str:=by rw [List.map_append,List.map_append];rfl
 rw [e13] at n13
 have s13:=s11.trans (n12.same.trans n13.same)
 have hn13:=s13 _ _ hn8
 have st13:=st8.trans (Step.same st8.bx s13)
 have dl:(cs.take a++[y]++cs.drop a).length=cs.length+1:=by
  rw [List.length_append,List.length_append,List.length_take,List.length_drop,List.length_singleton]; (first|lia|omega)
 have dm:∀x∈cs.take a++[y]++cs.drop a,x∈cs:=fun x hx=>by
  rcases List.mem_append.mp hx with hx|hx
  ·rcases List.mem_append.mp hx with hx|hx
   ·exact List.mem_of_mem_take hx
   ·rw [List.mem_singleton.mp hx];exact hyc
  ·exact List.mem_of_mem_drop hx
 obtain ⟨⟨a1,b1,hF⟩,un⟩:=twice (xs:=xs) (at':=a) ev.nd hyc xl'
 generalize cs.take a++[y]++cs.drop a=ds at n13 dl dm hF un
 refine ⟨_,rfl,_,rfl,nl,p13,_,_,rfl,SqL.of hn13,SqL.of n13.at,fun H14 p14 as14 sm14 hp14 hp14' hal14 hpairs14=>gn ?_⟩
 have g14:GoodN (xs.zip ds):=good_zip nmok (fun x hx=>cd x (dm x hx)) (by first|lia|omega) (by first|lia|omega)
 obtain ⟨lq,e14,_,_,hB14,_⟩:=(book_zip2 (K:=K) st13.bx hp14 hp14' (by first|lia|omega) hal14 hpairs14).bkl
 injection e14 with e14
 subst e14
 clear hpairs14 hal14 hp14'
 obtain ⟨hL,hR⟩:=even_least g14 (lnE fun x hx=>ev.ok x (dm x hx)) n1 hF un
 have s8:=sm14
 generalize xs.zip ds=B at g14 hB14 hL hR hF
 have hle:=g14.le
 obtain ⟨vs,hv,hd⟩:=id hB14
 have hlen:=bk_len hd
 dsimp only
 refine asgCut (te:=tComp _ _ _ _ _ _) (fun v H'=>∃p,v = .ref p∧New H14 p (.lst [.str a1.1, .str b1.1]) H') (fun Qn qn => ?_) ?_
 ·refine ⟨_,rfl,p14,rfl,⟨_,hv⟩,?_⟩
  refine comp_goN (N:=B.length) (fun i ys H'=>H'=H14∧ys=(((B.take i).filter fun q=>decide (q.2=y)).map (·.1)).map V.str) ⟨rfl,rfl⟩ ?_ ?_
  ·rintro i ys H15 Ny hi ⟨rfl,rfl⟩ ny
   obtain ⟨tp,e1,e2⟩:=bk_at hd hi
   refine ⟨⟨_,_,hv,e1⟩,?_,?_⟩
   ·rw [List.length_map,List.length_map]
    have h1:((B.take i).filter fun q=>decide (q.2=y)).length≤(B.take i).length:=List.length_filter_le _ _
    rw [List.length_take] at h1
    exact small (by first|lia|omega)
   rintro x H16 ⟨rfl,hy⟩
   have e:=hy _ hv
   rw [e1] at e;cases e
   have htk:=take_next hi
   generalize B[i]=z at e2 htk
   refine ⟨tp,_,rfl,e2,rfl,_,_,rfl,_,_,rfl,rfl,?_⟩
   refine ⟨_,rfl,_,rfl, .inl ⟨rfl,_,rfl,ite2 (fun c=>⟨_,rfl,ny _ _ ⟨rfl,?_⟩⟩) (fun c=>ny _ _ ⟨rfl,?_⟩)⟩⟩
   ·have c:z.2=y:=by
     have:=of_decide_eq_true c
     injection this
    rw [htk,List.filter_append,List.filter_cons,if_pos (decide_eq_true c),List.map_append,List.map_append];rfl
   ·have c:z.2≠y:=fun h=>c (decide_eq_true (congrArg V.str h))
    rw [htk,List.filter_append,List.filter_cons,decide_eq_false c,if_neg (by decide),List.filter_nil,List.append_nil]
  ·rintro ys H15 ⟨rfl,rfl⟩
   refine ⟨⟨_,hv,by first|lia|omega⟩,fun p H' n=>qn _ _ ⟨p,rfl,?_⟩⟩
   rw [List.take_length,hF] at n
   exact n
 rintro v H15 ⟨p15,rfl,n15⟩
 refine gn ?_
 refine ⟨_,rfl,p14,B,rfl,hB14.same n15.same,g14,fun no=>absurd hL.1 (no _),fun z p q t16 ns ms H16 ha lst tl s16 hz hp hq rd l1 l2 => ?_⟩
 obtain rfl:t16=y:=Lst.one ⟨ha,lst⟩ hL
 obtain ⟨rfl,rfl⟩:=hR ns ms rd
 have h16:=s16 _ _ n15.at
 refine ⟨_,rfl,_,rfl, .inl ⟨p15,_,0, .str a1.1,rfl,rfl,SqL.of h16,rfl,by show 1≤sizeLine;decide,fun p17 H17 n17 => ?_⟩⟩
 refine ⟨_,rfl, .inl ⟨p15,_,1, .str b1.1,rfl,rfl,SqL.of (n17.same _ _ h16),rfl,by show 1≤sizeLine;decide,fun p18 H18 n18 => ?_⟩⟩
 refine ⟨by show 3≤sizeLine;decide,fun p19 H19 n19 => ?_⟩
 have s19:=n17.same.trans (n18.same.trans n19.same)
 have shT:Sh 2 (.tuple [.str t16, .list [.str a1.1], .list [.str b1.1]]):=by
  obtain ⟨i,j,a',b',ps,qs,hij,hi,hj,o1,o2,e1',e2',_,_⟩:=id rd
  have nmS:∀{q:Str×Str},q∈B→Sh 0 (.str q.1):=fun hq=>Sh.str (canLay_small fun ch hc=>by have:=g14.sm _ hq ch hc; (first|lia|omega))
  have hin:∀{q:Str×Str},q∈[a1,b1]→q∈B:=fun hq=>(List.mem_filter.mp (hF ▸ hq)).1
  refine Sh.tuple (n:=1) fun d hd => ?_
  rcases List.mem_cons.mp hd with rfl|hd
  ·have hb:=(ev.ok t16 hyc).1
   exact Sh.str (canLay_small fun ch hc=>by rcases hb ch hc with e|e <;> (first|lia|omega))
  rcases List.mem_cons.mp hd with rfl|hd
  ·exact Sh.list (n:=0) fun d hd=>by rw [List.mem_singleton.mp hd];exact nmS (hin List.mem_cons_self)
  ·rw [List.mem_singleton.mp hd]
   exact Sh.list (n:=0) fun d hd=>by rw [List.mem_singleton.mp hd];exact nmS (hin (List.mem_cons_of_mem _ List.mem_cons_self))
 refine .inr ⟨.tuple [.str t16, .list [.str a1.1], .list [.str b1.1]], .tuple [.str t16, .list [.str a1.1], .list [.str b1.1]],(den_told (ns:=[a1.1]) (ms:=[b1.1]) hz hp hq).same s19,den_told (ns:=[a1.1]) (ms:=[b1.1]) n19.at (n19.same _ _ (n18.same _ _ n17.at)) (n19.same _ _ n18.at),shT.shaped (by decide),shT.shaped (by decide),_,rfl,?_⟩
 rw [eqv_refl _ shT.1]
 refine iteT ?_
 have s1519:=n15.same.trans (s16.trans s19)
 refine ⟨_,rfl,p14,B,rfl,hB14.same s1519,g14,fun rs p20 H20 s20 hp20 h20 hrl rnd mem=>⟨p20,_,rfl, .inl (SqL.of h20),rfl,flat_strs _,?_⟩⟩
 have hE:("" : Str)∈rs:=by
  obtain ⟨u,hu,_⟩:=hL.1.rch g14.cd
  exact (mem _).mpr ⟨u,hu⟩
 rw [if_neg (by decide),inV_iff.mpr hE]
 exact qk H20 _ ((st13.trans (Step.same st13.bx (sm14.trans (s1519.trans s20)))).more (by first|lia|omega))
end
end Z
namespace Z
open PySem L2 PyProof.Rows
noncomputable def spLaw (K:PySem.W.Frag):Sp:=fun vs H Q _=>∃(a:Addr) (ns:List Int),vs=[.ref a]∧SqL K H a (ns.map V.int)∧ns.length≤63∧∀H',Q (.bl true) H'
noncomputable def revS (x:Str):Str:=⟨(sg x).reverse.toArray⟩
theorem revS_sg (x:Str):sg (revS x)=(sg x).reverse:=by show sg (⟨(sg x).reverse.toArray⟩:Str)=_;simp
theorem revS_code {n:Nat} {x:Str} (h:CodeOk n x):CodeOk n (revS x):=by
 have l:(revS x).length=x.length:=by
  rw [str_len,str_len]
  show (sg (revS x)).length=(sg x).length
  rw [revS_sg,List.length_reverse]
 exact ⟨fun ch hc=>h.bin ch (by have hc:ch∈sg (revS x):=hc;rw [revS_sg] at hc;exact List.mem_reverse.mp hc),by rw [l];exact h.pos,by rw [l];exact h.le⟩
theorem back_one {xs cs:List Str} (fr:Free cs) (cd:∀x∈cs,CodeOk 12 x) (hl:cs.length≤xs.length) (u:Str):¬Amb (xs.zip (cs.map revS)) u:=by
 have e:((xs.zip (cs.map revS)).map rvE).map (·.2)=cs:=by
  have h1:(xs.zip (cs.map revS)).map (·.2)=cs.map revS:=List.map_snd_zip (by rw [List.length_map];exact hl)
  have h2:((xs.zip (cs.map revS)).map rvE).map (·.2)=((xs.zip (cs.map revS)).map (·.2)).map revS:=by rw [List.map_map,List.map_map];rfl
  rw [h2,h1,List.map_map]
  have:(revS ∘ revS)=id:=by
   funext x
   exact str_eq (by show sg (revS (revS x))=sg x;rw [revS_sg,revS_sg,List.reverse_reverse])
  rw [this,List.map_id]
 refine free_back (fun q hq => ?_) (fun a ha b hb ne => ?_) u
 ·obtain ⟨x,hx,e⟩:=List.mem_map.mp (List.of_mem_zip (a:=q.1) (b:=q.2) hq).2
  rw [←e];exact revS_code (cd x hx)
 ·exact free_rf (B:=(xs.zip (cs.map revS)).map rvE) (by rw [e];exact fr) (List.mem_map_of_mem ha) (List.mem_map_of_mem hb) fun z=>ne (rvE_inj z)
section
variable {P:Program} {w:World} {K:PySem.W.Frag} {mg:Str→Option Value} {base:Heap} {f:Addr} {fd:FuncData}
theorem sc_law:FnScope ["_law_script", "_law_state", "_law_turn", "_law_codes", "_law_names_here", "_law_one", "_law_other", "_law_book", "_law_found"] ["_law_script"] (defScope (top i_law)):=⟨rfl,rfl,rfl,by decide +kernel,rfl,by decide +kernel,by decide +kernel⟩
theorem ok_law (F:Fun K "law" "law" (top i_law) f fd) (T:Nm mg) (f_law_begin:Fn P w K mg base 1 "_law_begin" ["_law_script"] (spBegin K)) (f_law_take:Fn P w K mg base 1 "_law_take" ["_law_state", "_law_many"] spTk) (f_law_free:Fn P w K mg base 2 "_law_free" ["_law_state", "_law_many", "_law_most"] spFr) (f_law_names:Fn P w K mg base 2 "_law_names" ["_law_state", "_law_many"] spNl) (f_law_none:Fn P w K mg base 7 "_law_none" ["_law_book"] (spNone K)) (f_law_noughts_right:Fn P w K mg base 7 "_law_noughts_right" ["_law_state"] spNr) (f_law_even_right:Fn P w K mg base 8 "_law_even_right" ["_law_state"] spNr) (f_two_readings:Fn P w K mg base 6 "two_readings" ["book"] (spTr3 K)) (f_shows_two:Fn P w K mg base 5 "shows_two" ["book", "thing"] (spSh K)) (f_shows_one:Fn P w K mg base 4 "shows_one" ["book", "thing"] (spO1 K)) (f_rests_of:Fn P w K mg base 4 "rests_of" ["book"] (spRo K)) :
  FnOk P w K mg base CX0 9 f fd ["_law_script"] (spLaw K):=by
 refine F.ok sc_law (fun vs H Q E h => ?_) (fun cdv A outer s H vs Q E hr h => ?_)
 ·obtain ⟨a,ns,rfl,_⟩:=h
  rfl
 obtain ⟨a,ns,rfl,hS,hlen,q⟩:=h
 have hu6:=hr.units
 have small:∀{n:Nat},n≤1000→n<sizeLine:=fun h=>Nat.lt_of_le_of_lt h (by decide)
 refine ⟨_,(pss_cons (ps_set (i:=1) sc_law.nd rfl (Or.inr rfl) (pe_fn (f_law_begin.mono (by first|decide|exact Nat.le_refl _|(first|lia|omega))) hr rfl (pa_cons (pv 0) pa_nil)))
  (pss_cons (ps_for PassesOwn.never rfl (pi_range1 rfl T.n_range (pa_cons pe_int pa_nil)) (pg_name (i:=2) sc_law.nd rfl (Or.inl rfl)) (pss_cons (ps_set (i:=3) sc_law.nd rfl (Or.inr rfl) (pe_fn (f_law_free.mono (by first|decide|exact Nat.le_refl _|(first|lia|omega))) hr rfl (pa_cons (pv 1) (pa_cons (pe_op addN pe_int (pe_fn (f_law_take.mono (by first|decide|exact Nat.le_refl _|(first|lia|omega))) hr rfl (pa_cons (pv 1) (pa_cons pe_int pa_nil)))) (pa_cons (pe_op addN pe_int (pe_fn (f_law_take.mono (by first|decide|exact Nat.le_refl _|(first|lia|omega))) hr rfl (pa_cons (pv 1) (pa_cons pe_int pa_nil)))) pa_nil)))))
  (pss_cons (ps_set (i:=4) sc_law.nd rfl (Or.inl rfl) (pe_fn (f_law_names.mono (by first|decide|exact Nat.le_refl _|(first|lia|omega))) hr rfl (pa_cons (pv 1) (pa_cons (pe_callB (lenK K) rfl T.n_len (by rfl) (pa_cons (pv 3) pa_nil)) pa_nil))))
  (pss_cons (ps_if (PW.pt (pw_or (pt_not (pt_val (pe_fn (f_law_none.mono (by first|decide|exact Nat.le_refl _|(first|lia|omega))) hr rfl (pa_cons (pe_listzip rfl rfl T.n_list rfl T.n_zip (pa_cons (pv 4) (pa_cons (pv 3) pa_nil))) pa_nil)))) (pw_or1 (pt_not (pt_val (pe_fn (f_law_none.mono (by first|decide|exact Nat.le_refl _|(first|lia|omega))) hr rfl (pa_cons (pe_listzip rfl rfl T.n_list rfl T.n_zip (pa_cons (pv 4) (pa_cons (pe_lcomp rfl (comp_ok (Nc:=["_law_code"]) (Fc:=[]) (js:=[])) (piK K (pv 3)) (gk_name (i:=0) (n:=1) (by decide)) (fun _ _ _ _ _=>(pg_name (i:=0) (show (["_law_code"]:List Str).Nodup by decide +kernel) rfl (Or.inl rfl))) (fun _ _ _ _ _=>pts_nil) (fun _ _ _ _ _=>(pe_revT (pv 0)))) pa_nil))) pa_nil))))))) (pss_one (ps_ret pe_bl)) pss_nil)
  (pss_cons (ps_if (PW.pt (pw_or (pt_not (pt_val (pe_fn (f_law_noughts_right.mono (by first|decide|exact Nat.le_refl _|(first|lia|omega))) hr rfl (pa_cons (pv 1) pa_nil)))) (pw_or1 (pt_not (pt_val (pe_fn (f_law_even_right.mono (by first|decide|exact Nat.le_refl _|(first|lia|omega))) hr rfl (pa_cons (pv 1) pa_nil))))))) (pss_one (ps_ret pe_bl)) pss_nil)
  (pss_cons (ps_asg (pe_lcomp rfl (comp_ok (Nc:=["_law_k"]) (Fc:=["_law_codes", "_law_state"]) (js:=[3,1])) (pi_range1 rfl T.n_range (pa_cons pe_int pa_nil)) (gk_name (i:=0) (n:=1) (by decide)) (fun _ _ _ _ _=>(pg_name (i:=0) (show (["_law_k", "_law_codes", "_law_state"]:List Str).Nodup by decide +kernel) rfl (Or.inl rfl))) (fun _ _ _ _ _=>pts_nil) (fun _ _ _ _ _=>(pe_ix (ixK K) (pv 1) (pe_fn (f_law_take.mono (by first|decide|exact Nat.le_refl _|(first|lia|omega))) hr rfl (pa_cons (pv 2) (pa_cons (pe_callB (lenK K) rfl T.n_len (by rfl) (pa_cons (pv 1) pa_nil)) pa_nil))) (fun _ _=>rfl)))) (pg_lst K 2 rfl (pgs_cons (pg_name (i:=5) sc_law.nd rfl (Or.inl rfl)) (pgs_cons (pg_name (i:=6) sc_law.nd rfl (Or.inl rfl)) pgs_nil))))
  (pss_cons (ps_set (i:=7) sc_law.nd rfl (Or.inl rfl) (pe_listzip rfl rfl T.n_list rfl T.n_zip (pa_cons (pe_fn (f_law_names.mono (by first|decide|exact Nat.le_refl _|(first|lia|omega))) hr rfl (pa_cons (pv 1) (pa_cons pe_int pa_nil))) (pa_cons (lstN (pa_cons (pv 6) (pa_cons (pe_op addN (pv 5) (pv 6)) (pa_cons (pv 5) pa_nil)))) pa_nil))))
  (pss_cons (ps_set (i:=8) sc_law.nd rfl (Or.inl rfl) (pe_fn (f_two_readings.mono (by first|decide|exact Nat.le_refl _|(first|lia|omega))) hr rfl (pa_cons (pv 7) pa_nil)))
  (pss_one (ps_if (PW.pt (pw_or (pt_cmpR op_gt (pe_callB (lenK K) rfl T.n_len (by rfl) (pa_cons (pe_ix (ixK K) (pv 8) pe_int (fun _ _=>rfl)) pa_nil)) (pe_callB (lenK K) rfl T.n_len (by rfl) (pa_cons (pe_op addN (pv 5) (pv 6)) pa_nil)) (nomark _)) (pw_or (pt_not (pt_val (pe_fn (f_shows_two.mono (by first|decide|exact Nat.le_refl _|(first|lia|omega))) hr rfl (pa_cons (pv 7) (pa_cons (pv 8) pa_nil))))) (pw_or1 (pt_val (pe_fn (f_shows_one.mono (by first|decide|exact Nat.le_refl _|(first|lia|omega))) hr rfl (pa_cons (pv 7) (pa_cons (pe_fn (f_rests_of.mono (by first|decide|exact Nat.le_refl _|(first|lia|omega))) hr rfl (pa_cons (pv 7) pa_nil)) pa_nil)))))))) (pss_one (ps_ret pe_bl)) pss_nil))))))))))
  (pss_one (ps_ret pe_bl)))),?_⟩
 refine ⟨_,rfl,a,ns,rfl,hS,hlen,fun b c H1 bx1 hb hc sm1 => ?_⟩
 refine gn ?_
 dsimp only
 refine ⟨3,rfl,by decide,by decide,?_⟩
 refine for_range (lo:=0) (n:=3) (fun i σ H'=>∃(t':Int) (x2 x3 x4 x5 x6 x7 x8:Option V), σ=[some (.ref a),some (.ref b),x2,x3,x4,x5,x6,x7,x8]∧Step b c H1 H' 0 t' (2000*i)) ⟨0,_,_,_,_,_,_,_,rfl,(Step.refl bx1).more (by first|lia|omega)⟩ ?_ ?_
 ·rintro i σ H2 hi ⟨t2,x2,x3,x4,x5,x6,x7,x8,rfl,st2⟩
  have ub2:=st2.ub
  have lo2:=st2.le
  refine ⟨_,rfl,_,rfl,b,c,t2,8,rfl,st2.bx,by first|lia|omega,by first|lia|omega,by decide,by decide,fun m H3 m0 m1 st3 => .inl ⟨_,_,rfl,rfl,?_⟩⟩
  refine ⟨_,rfl,b,c,_,6,rfl,st3.bx,by first|lia|omega,by first|lia|omega,by decide,by decide,fun o H4 o0 o1 st4 => .inl ⟨_,_,rfl,rfl,?_⟩⟩
  have st4:=st3.trans st4
  refine ⟨b,c,_,1+m,1+o,rfl,st4.bx,by first|lia|omega,by first|lia|omega,by first|lia|omega,by first|lia|omega,by first|lia|omega,by first|lia|omega,fun cs l H5 t5 cne cle fr cd6 st5 hl0 hl5=>gn ?_⟩
  obtain ⟨lb,lc⟩:=st4.bx.ne_new hl0
  have st5:=st4.trans st5
  have ub5:=st5.ub
  have lo5:=st5.le
  have cl:(cs.map V.str).length=cs.length:=List.length_map _
  have cpos:0<cs.length:=List.length_pos_iff.mpr cne
  have cd:∀x∈cs,CodeOk 12 x:=fun x hx=>(cd6 x hx).mono (by first|lia|omega)
  have c6:∀x∈cs,CodeOk 6 x:=fun x hx=>(cd6 x hx).mono (by first|lia|omega)
  refine ⟨_,rfl,_,rfl,_,_,rfl, .inl ⟨_,SqL.of hl5,rfl⟩,b,c,t5,_,rfl,st5.bx,by first|lia|omega,by first|lia|omega,by first|lia|omega,by first|lia|omega,fun xs nl H6 t6 xl nd ln st6 hn0 hn6=>gn ?_⟩
  obtain ⟨nb,nc⟩:=st5.bx.ne_new hn0
  have hl6:=st6.old hl5 lb lc
  have st6:=st5.trans st6
  have ub6:=st6.ub
  have lo6:=st6.le
  have xl':xs.length=cs.length:=by (first|lia|omega)
  have nmok:NmOk xs:=⟨nd,ln⟩
  have zsn:∀{ds:List Str},ds.length=cs.length→(xs.zip ds).map (·.2)=ds:=fun h=>List.map_snd_zip (by first|lia|omega)
  dsimp only
  refine seqCut (t:=tIfS _ _ _) (fun σ H' => σ=[some (.ref a),some (.ref b),some (.int (0+i)),some (.ref l),some (.ref nl),x5,x6,x7,x8]∧Same H6 H') (fun Nx nx => ?_) ?_
  ·refine ⟨_,rfl,_,rfl,nl,l,_,_,rfl,SqL.of hn6,SqL.of hl6,fun H7 p7 as7 sm7 hp7 hp7' hal7 hpairs7 => ?_⟩
   have g7:GoodN (xs.zip cs):=good_zip nmok cd (by first|lia|omega) (by first|lia|omega)
   obtain ⟨lq,e7,_,_,hB7,_⟩:=(book_zip2 (K:=K) st6.bx hp7 hp7' (by first|lia|omega) hal7 hpairs7).bkl
   injection e7 with e7
   subst e7
   clear hpairs7 hal7 hp7'
   refine ⟨p7,_,rfl,hB7,g7,free_one g7.cd fun x hx y hy ne=>free_rf (by rw [zsn rfl];exact fr) hx hy ne,fun H8 s8=>⟨_,rfl,iteF ?_⟩⟩
   have s68:=sm7.trans s8
   have hl8:=s68 _ _ hl6
   have at1:∀{k:Nat} (hk:k<cs.length),(cs.map V.str)[k]? = some (.str cs[k]):=fun hk=>by rw [List.getElem?_map,List.getElem?_eq_getElem hk];rfl
   refine ⟨_,rfl,_,rfl,l,rfl,⟨_,SqL.of hl8⟩,?_⟩
   refine comp_go (N:=cs.length) (fun k ys H'=>H'=H8∧ys=((cs.take k).map revS).map V.str) ⟨rfl,rfl⟩ ?_ ?_
   ·rintro k ys H9 Ny hk ⟨rfl,rfl⟩ ny
    refine ⟨⟨_,_,SqL.of hl8,at1 hk⟩,small (by rw [List.length_map,List.length_map,List.length_take]; (first|lia|omega)),?_⟩
    rintro x H10 ⟨rfl,hy⟩
    have e:=hy _ (SqL.of hl8)
    rw [at1 hk] at e;cases e
    have hcl:=(c6 _ (List.getElem_mem hk)).le
    refine gn ⟨_,rfl,_,rfl,sizeOk (by first|lia|omega),fun y hy=>ny _ _ ⟨rfl,?_⟩⟩
    rw [take_next hk,List.map_append,List.map_append]
    have:y=revS cs[k]:=str_eq (by rw [revS_sg];exact hy)
    rw [this];rfl
   ·rintro ys H9 ⟨rfl,rfl⟩
    refine ⟨⟨_,SqL.of hl8,by first|lia|omega⟩,fun p10 hp10 => ?_⟩
    rw [List.take_length]
    have n10:New H9 p10 (.lst ((cs.map revS).map V.str)) (upd H9 p10 (.lst ((cs.map revS).map V.str))):=⟨hp10,rfl⟩
    generalize upd H9 p10 (.lst ((cs.map revS).map V.str))=H10 at n10 ⊢
    have s610:=s68.trans n10.same
    have st10:=st6.trans (Step.same st6.bx s610)
    refine ⟨nl,p10,_,_,rfl,SqL.of (s610 _ _ hn6),SqL.of n10.at,fun H11 p11 as11 sm11 hp11 hp11' hal11 hpairs11 => ?_⟩
    have g11:GoodN (xs.zip (cs.map revS)):=good_zip nmok (fun x hx=>by
     obtain ⟨z,hz,rfl⟩:=List.mem_map.mp hx
     exact revS_code (cd z hz)) (by rw [List.length_map]; (first|lia|omega)) (by rw [List.length_map]; (first|lia|omega))
    obtain ⟨lq,e11,_,_,hB11,_⟩:=(book_zip2 (K:=K) st10.bx hp11 hp11' (by rw [List.length_map]; (first|lia|omega)) hal11 hpairs11).bkl
    injection e11 with e11
    subst e11
    clear hpairs11 hal11 hp11'
    exact ⟨p11,_,rfl,hB11,g11,back_one fr cd (by first|lia|omega),fun H12 s12=>⟨_,rfl,iteF (nx _ _ ⟨rfl,s610.trans (sm11.trans s12)⟩)⟩⟩
  rintro σ H7 ⟨rfl,s7⟩
  have st7:=st6.trans (Step.same st6.bx s7)
  have ub7:=st7.ub
  have lo7:=st7.le
  have hl7:=s7 _ _ hl6
  refine seqCut (t:=tIfS _ _ _) (fun σ H' => σ=[some (.ref a),some (.ref b),some (.int (0+i)),some (.ref l),some (.ref nl),x5,x6,x7,x8]∧∃t',Step b c H7 H' t6 t' 800) (fun Nx nx => ?_) ?_
  ·refine ⟨_,rfl,b,c,t6,rfl,st7.bx,by first|lia|omega,by first|lia|omega,fun H8 t8 st8=>⟨_,rfl,iteF ?_⟩⟩
   have ub8:=st8.ub
   have lo8:=st8.le
   exact ⟨_,rfl,b,c,t8,rfl,st8.bx,by first|lia|omega,by first|lia|omega,fun H9 t9 st9=>⟨_,rfl,iteF (nx _ _ ⟨rfl,t9,(st8.trans st9).more (by first|lia|omega)⟩)⟩⟩
  rintro σ H8 ⟨rfl,t8,st8⟩
  have ub8:=st8.ub
  have lo8:=st8.le
  have hl8:=st8.old hl7 lb lc
  have st8:=st7.trans st8
  refine asgCut (te:=tComp _ _ _ _ _ _) (fun v H'=>∃(p:Addr) (one oth:Str) (t':Int),v = .ref p∧H' p=some (.lst [.str one, .str oth])∧one∈cs∧oth∈cs∧Step b c H8 H' t8 t' 2) (fun Qn qn => ?_) ?_
  ·refine ⟨2,rfl,by decide,by decide,?_⟩
   refine comp_goN (N:=2) (fun k ys H'=>∃(us:List Str) (t':Int),ys=us.map V.str∧us.length=k∧(∀x∈us,x∈cs)∧Step b c H8 H' t8 t' k∧H' l=some (.lst (cs.map V.str))) ⟨[],_,rfl,rfl,(fun _ h=>nomatch h),(Step.refl st8.bx).more (by first|lia|omega),hl8⟩ ?_ ?_
   ·rintro k ys H9 Ny hk ⟨us,t9,rfl,ul,uok,st9,hl9⟩ ny
    have ub9:=st9.ub
    have lo9:=st9.le
    refine ⟨hk,small (by rw [List.length_map]; (first|lia|omega)),?_⟩
    rintro x H10 ⟨rfl,rfl⟩
    refine gn ⟨_,rfl,_,rfl,_,rfl,_,_,rfl, .inl ⟨_,SqL.of hl9,rfl⟩,b,c,t9,_,rfl,st9.bx,by first|lia|omega,by first|lia|omega,by first|lia|omega,by first|lia|omega,fun d H11 d0 d1 st11 => ?_⟩
    have hd:d.toNat<cs.length:=by (first|lia|omega)
    refine .inl ⟨l,_,d, .str cs[d.toNat],rfl,rfl,SqL.of (st11.old hl9 lb lc),at_nat d0 (by rw [List.getElem?_map,List.getElem?_eq_getElem hd];rfl),ny _ _ ⟨us++[cs[d.toNat]],_,by rw [List.map_append];rfl,by rw [List.length_append,ul];rfl,fun x hx => ?_,(st9.trans st11).more (by first|lia|omega),st11.old hl9 lb lc⟩⟩
    rcases List.mem_append.mp hx with hx|hx
    ·exact uok x hx
    ·rw [List.mem_singleton.mp hx];exact List.getElem_mem hd
   ·rintro ys H9 ⟨us,t9,rfl,ul,uok,st9,hl9⟩
    refine ⟨Nat.le_refl _,fun p H10 n10 => ?_⟩
    match us,ul with
    | [u1,u2],_=>exact qn _ _ ⟨p,u1,u2,t9,rfl,n10.at,uok u1 List.mem_cons_self,uok u2 (List.mem_cons_of_mem _ List.mem_cons_self),(st9.newN n10).more (by first|lia|omega)⟩
  rintro v H9 ⟨p9,one,oth,t9,rfl,h9,h1c,h2c,st9⟩
  have ub9:=st9.ub
  have lo9:=st9.le
  have st9:=st8.trans st9
  refine ⟨p9,_,rfl,SqL.of h9,rfl,_,_,rfl,_,_,rfl,rfl,?_⟩
  rw [show (List.set _ _ _:L2.St)=[some (.ref a),some (.ref b),some (.int (0+i)),some (.ref l),some (.ref nl),some (.str one),some (.str oth),x7,x8] from rfl]
  have c1:=c6 one h1c
  have c2:=c6 oth h2c
  have l1:=c1.le
  have l2:=c2.le
  refine ⟨_,rfl,b,c,t9,3,rfl,st9.bx,by first|lia|omega,by first|lia|omega,by decide,by decide,fun ys n3 H10 t10 yl ynd yln st10 hm0 hm10 => ?_⟩
  have st10:=st9.trans st10
  refine ⟨_,rfl,_,rfl,_,rfl, .inr (.inl ⟨_,_,rfl,rfl,sizeOk (by first|lia|omega),_,rfl,by show 3≤sizeLine;decide,fun p11 H11 n11 => ?_⟩)⟩
  have st11:=st10.newN n11
  refine ⟨n3,p11,_,_,rfl,SqL.of (n11.same _ _ hm10),SqL.of n11.at,fun H12 p12 as12 sm12 hp12 hp12' hal12 hpairs12=>gn ?_⟩
  obtain ⟨y0,y1,y2,rfl⟩:∃y0 y1 y2,ys=[y0,y1,y2]:=by
   match ys,yl with
   | [a,b,c],_=>exact ⟨a,b,c,rfl⟩
  have g12:GoodN ([y0,y1,y2].zip [oth,one++oth,one]):=by
   refine good_zip ⟨ynd,yln⟩ (fun x hx => ?_) (Nat.le_of_ble_eq_true rfl) (Nat.le_refl _)
   rcases List.mem_cons.mp hx with rfl|hx
   ·exact c2.mono (by decide)
   rcases List.mem_cons.mp hx with rfl|hx
   ·exact ⟨c1.bin.app c2.bin,by rw [len_append];have:=c1.pos; (first|lia|omega),by rw [len_append]; (first|lia|omega)⟩
   ·rw [List.mem_singleton.mp hx];exact c1.mono (by decide)
  obtain ⟨lq,e12,_,_,hB12,_⟩:=(book_zip2 (K:=K) (ns:=[y0,y1,y2]) (cs:=[oth,one++oth,one]) st11.bx hp12 hp12' (Nat.le_refl _) hal12 hpairs12).bkl
  injection e12 with e12
  subst e12
  clear hpairs12 hal12 hp12'
  have eB:[y0,y1,y2].zip [oth,one++oth,one]=[(y0,oth),(y1,one++oth),(y2,one)]:=rfl
  rw [eB] at g12 hB12
  have hA:Amb [(y0,oth),(y1,one++oth),(y2,one)] (one++oth):=by
   refine ⟨[(y2,one),(y0,oth)],[(y1,one++oth)],fun z hz => ?_,fun z hz => ?_,(fun z=>absurd (congrArg List.length z) (show ¬(2=1) by decide)),?_,tx_one _⟩
   ·rcases List.mem_cons.mp hz with rfl|hz
    ·exact List.mem_cons_of_mem _ (List.mem_cons_of_mem _ List.mem_cons_self)
    ·rw [List.mem_singleton.mp hz];exact List.mem_cons_self
   ·rw [List.mem_singleton.mp hz];exact List.mem_cons_of_mem _ List.mem_cons_self
   ·rw [tx_cons,tx_one,sg_app]
  generalize [(y0,oth),(y1,one++oth),(y2,one)]=B at g12 hB12 hA
  refine ⟨_,rfl,p12,B,rfl,hB12,g12,fun no=>absurd hA (no _),fun z p q' t13 ns' ms H13 ha lst tl s13 hz hp hq rd k1 k2=>gn ?_⟩
  have hlt:t13.length≤(one++oth).length:=by
   have:=lst _ hA
   have h2:¬(one++oth).length<t13.length:=fun z=>this (.inl z)
   (first|lia|omega)
  refine ⟨_,rfl, .inr (.inl ⟨z,_,0, .str t13,rfl,rfl,SqT.of hz,rfl,_,_,rfl,⟨sizeOk (by first|lia|omega),rfl⟩,?_⟩)⟩
  refine ⟨_,rfl,_,rfl, .inr (.inl ⟨_,_,rfl,rfl,sizeOk (by first|lia|omega),_,_,rfl,⟨by rw [len_append];exact sizeOk (by first|lia|omega),rfl⟩,_,_,rfl,rfl,_,rfl,?_⟩)⟩
  rw [decide_eq_false (by first|lia|omega)]
  refine iteF ?_
  refine ⟨_,rfl,_,rfl,p12,_,B,_,rfl,hB12.same s13,g12,den_told hz hp hq,rd.asked g12 k1 k2,fun b14 H14 hb14 s14 => ?_⟩
  rw [hb14.mpr (rd.shown g12)]
  refine ⟨_,rfl,iteF ?_⟩
  have s1214:=s13.trans s14
  refine ⟨_,rfl,_,rfl,p12,B,rfl,hB12.same s1214,g12,fun rs p15 H15 s15 hp15 h15 hrl rnd mem => ?_⟩
  refine ⟨p12,p15,B,rs,rfl,hB12.same (s1214.trans s15),g12,h15,hrl,rnd,mem,fun b16 H16 hb16 s16 => ?_⟩
  have hE:("" : Str)∈rs:=by
   obtain ⟨u,hu,_⟩:=hA.rch g12.cd
   exact (mem _).mpr ⟨u,hu⟩
  have e16:b16=false:=by
   cases b16 with
   | false=>rfl
   | true=>exact absurd hE (hb16.mp rfl)
  rw [e16]
  refine ⟨_,rfl,iteF ?_⟩
  have ub10:=st10.ub
  exact ⟨_,_,_,_,_,_,_,_,rfl,((st2.trans (st11.trans (Step.same st11.bx (sm12.trans (s1214.trans (s15.trans s16)))))).more (by first|lia|omega))⟩
 ·rintro σ H2 ⟨t2,x2,x3,x4,x5,x6,x7,x8,rfl,st2⟩
  exact q H2
end
end Z
namespace Z
open PySem L2
theorem lenZ {α:Type} {P:List α→Prop} (h:P []):∀us:List α,us.length=0→P us:=fun us e=>List.eq_nil_of_length_eq_zero e ▸ h
theorem lenS {α:Type} {P:List α→Prop} {n:Nat} (h:∀a (us:List α),us.length=n→P (a :: us)) (us:List α) (e:us.length=n+1):P us:=by
 cases us with|nil=>cases e|cons a us=>exact h a us (Nat.succ.inj e)
theorem all_mk {l:PySem.W.OpenLaw} {w:World} {K:PySem.W.Frag} {h:Heap} {mg:Str→Option Value} {fa f1 f2 f3 f4 f5 f6 f7 f8 f9 f10 f11 f12 f13 f14 f15 f16 f17 f18 f19 f20 f21 f22 f23 f24 f25 f26 f27:Addr} (X:K.In h) (G:h.Ns mainGlobals mg) (hfa:mg "law" = some (.ref fa))
  {od1 an1:Option Addr} {sl1:Array (Option Value)} {oc1 kV1 dc1 pm1 cd1 ct1:Value}
  {od2 an2:Option Addr} {sl2:Array (Option Value)} {oc2 kV2 dc2 pm2 cd2 ct2:Value}
  {od3 an3:Option Addr} {sl3:Array (Option Value)} {oc3 kV3 dc3 pm3 cd3 ct3:Value}
  {od4 an4:Option Addr} {sl4:Array (Option Value)} {oc4 kV4 dc4 pm4 cd4 ct4:Value}
  {od5 an5:Option Addr} {sl5:Array (Option Value)} {oc5 kV5 dc5 pm5 cd5 ct5:Value}
  {od6 an6:Option Addr} {sl6:Array (Option Value)} {oc6 kV6 dc6 pm6 cd6 ct6:Value}
  {od7 an7:Option Addr} {sl7:Array (Option Value)} {oc7 kV7 dc7 pm7 cd7 ct7:Value}
  {od8 an8:Option Addr} {sl8:Array (Option Value)} {oc8 kV8 dc8 pm8 cd8 ct8:Value}
  {od9 an9:Option Addr} {sl9:Array (Option Value)} {oc9 kV9 dc9 pm9 cd9 ct9:Value}
  {od10 an10:Option Addr} {sl10:Array (Option Value)} {oc10 kV10 dc10 pm10 cd10 ct10:Value}
  {od11 an11:Option Addr} {sl11:Array (Option Value)} {oc11 kV11 dc11 pm11 cd11 ct11:Value}
  {od12 an12:Option Addr} {sl12:Array (Option Value)} {oc12 kV12 dc12 pm12 cd12 ct12:Value}
  {od13 an13:Option Addr} {sl13:Array (Option Value)} {oc13 kV13 dc13 pm13 cd13 ct13:Value}
  {od14 an14:Option Addr} {sl14:Array (Option Value)} {oc14 kV14 dc14 pm14 cd14 ct14:Value}
  {od15 an15:Option Addr} {sl15:Array (Option Value)} {oc15 kV15 dc15 pm15 cd15 ct15:Value}
  {od16 an16:Option Addr} {sl16:Array (Option Value)} {oc16 kV16 dc16 pm16 cd16 ct16:Value}
  {od17 an17:Option Addr} {sl17:Array (Option Value)} {oc17 kV17 dc17 pm17 cd17 ct17:Value}
  {od18 an18:Option Addr} {sl18:Array (Option Value)} {oc18 kV18 dc18 pm18 cd18 ct18:Value}
  {od19 an19:Option Addr} {sl19:Array (Option Value)} {oc19 kV19 dc19 pm19 cd19 ct19:Value}
  {od20 an20:Option Addr} {sl20:Array (Option Value)} {oc20 kV20 dc20 pm20 cd20 ct20:Value}
  {od21 an21:Option Addr} {sl21:Array (Option Value)} {oc21 kV21 dc21 pm21 cd21 ct21:Value}
  {od22 an22:Option Addr} {sl22:Array (Option Value)} {oc22 kV22 dc22 pm22 cd22 ct22:Value}
  {od23 an23:Option Addr} {sl23:Array (Option Value)} {oc23 kV23 dc23 pm23 cd23 ct23:Value}
  {od24 an24:Option Addr} {sl24:Array (Option Value)} {oc24 kV24 dc24 pm24 cd24 ct24:Value}
  {od25 an25:Option Addr} {sl25:Array (Option Value)} {oc25 kV25 dc25 pm25 cd25 ct25:Value}
  {od26 an26:Option Addr} {sl26:Array (Option Value)} {oc26 kV26 dc26 pm26 cd26 ct26:Value}
  {od27 an27:Option Addr} {sl27:Array (Option Value)} {oc27 kV27 dc27 pm27 cd27 ct27:Value}
  {G_OddError:Addr}
  {G_NoName:Addr}
  {tkc0:Tok}
  {N_OddError:Addr} {nm_OddError q_OddError:Str} {bs_OddError:List Value} {hd_OddError:Bool} {sn_OddError:List Str} {su_OddError:List Value} {ab_OddError:Bool} {co_OddError:Option Bool} {dd_OddError:Option Addr} {k0_OddError k1_OddError k2_OddError k3_OddError k5_OddError:Option Value}
  {N_NoName:Addr} {nm_NoName q_NoName:Str} {bs_NoName:List Value} {sn_NoName:List Str} {su_NoName:List Value} {ab_NoName:Bool} {co_NoName:Option Bool} {dd_NoName:Option Addr} {k0_NoName k1_NoName k2_NoName k3_NoName k5_NoName:Option Value}
  {f_NoName:Addr} {od_NoName an_NoName:Option Addr} {sl_NoName:Array (Option Value)} {kV_NoName dc_NoName pm_NoName cd_NoName ct_NoName:Value}
  (a1:PySem.W.nsIn K mainGlobals "made_of" = some (some (.ref f1))) (l1:K.lookup f1=some ⟨oc1,od1, .func (PySem.W.fnOf "made_of" "made_of" (defArgs (top i_made_of)) (defBody (top i_made_of)) (defScope (top i_made_of)) .none kV1 dc1 pm1 an1 cd1 ct1),sl1⟩) (c1:PySem.W.codeIn K cd1 "made_of" = true) (k1:PySem.W.keepIn K (.ref f1)=true)
  (a2:PySem.W.nsIn K mainGlobals "is_code" = some (some (.ref f2))) (l2:K.lookup f2=some ⟨oc2,od2, .func (PySem.W.fnOf "is_code" "is_code" (defArgs (top i_is_code)) (defBody (top i_is_code)) (defScope (top i_is_code)) .none kV2 dc2 pm2 an2 cd2 ct2),sl2⟩) (c2:PySem.W.codeIn K cd2 "is_code" = true) (k2:PySem.W.keepIn K (.ref f2)=true)
  (a3:PySem.W.nsIn K mainGlobals "rest_of" = some (some (.ref f3))) (l3:K.lookup f3=some ⟨oc3,od3, .func (PySem.W.fnOf "rest_of" "rest_of" (defArgs (top i_rest_of)) (defBody (top i_rest_of)) (defScope (top i_rest_of)) .none kV3 dc3 pm3 an3 cd3 ct3),sl3⟩) (c3:PySem.W.codeIn K cd3 "rest_of" = true) (k3:PySem.W.keepIn K (.ref f3)=true)
  (a4:PySem.W.nsIn K mainGlobals "length_first" = some (some (.ref f4))) (l4:K.lookup f4=some ⟨oc4,od4, .func (PySem.W.fnOf "length_first" "length_first" (defArgs (top i_length_first)) (defBody (top i_length_first)) (defScope (top i_length_first)) .none kV4 dc4 pm4 an4 cd4 ct4),sl4⟩) (c4:PySem.W.codeIn K cd4 "length_first" = true) (k4:PySem.W.keepIn K (.ref f4)=true)
  (a5:PySem.W.nsIn K mainGlobals "rests_with" = some (some (.ref f5))) (l5:K.lookup f5=some ⟨oc5,od5, .func (PySem.W.fnOf "rests_with" "rests_with" (defArgs (top i_rests_with)) (defBody (top i_rests_with)) (defScope (top i_rests_with)) .none kV5 dc5 pm5 an5 cd5 ct5),sl5⟩) (c5:PySem.W.codeIn K cd5 "rests_with" = true) (k5:PySem.W.keepIn K (.ref f5)=true)
  (a6:PySem.W.nsIn K mainGlobals "rests_of_codes" = some (some (.ref f6))) (l6:K.lookup f6=some ⟨oc6,od6, .func (PySem.W.fnOf "rests_of_codes" "rests_of_codes" (defArgs (top i_rests_of_codes)) (defBody (top i_rests_of_codes)) (defScope (top i_rests_of_codes)) .none kV6 dc6 pm6 an6 cd6 ct6),sl6⟩) (c6:PySem.W.codeIn K cd6 "rests_of_codes" = true) (k6:PySem.W.keepIn K (.ref f6)=true)
  (a7:PySem.W.nsIn K mainGlobals "rests_of" = some (some (.ref f7))) (l7:K.lookup f7=some ⟨oc7,od7, .func (PySem.W.fnOf "rests_of" "rests_of" (defArgs (top i_rests_of)) (defBody (top i_rests_of)) (defScope (top i_rests_of)) .none kV7 dc7 pm7 an7 cd7 ct7),sl7⟩) (c7:PySem.W.codeIn K cd7 "rests_of" = true) (k7:PySem.W.keepIn K (.ref f7)=true)
  (a8:PySem.W.nsIn K mainGlobals "holds_all" = some (some (.ref f8))) (l8:K.lookup f8=some ⟨oc8,od8, .func (PySem.W.fnOf "holds_all" "holds_all" (defArgs (top i_holds_all)) (defBody (top i_holds_all)) (defScope (top i_holds_all)) .none kV8 dc8 pm8 an8 cd8 ct8),sl8⟩) (c8:PySem.W.codeIn K cd8 "holds_all" = true) (k8:PySem.W.keepIn K (.ref f8)=true)
  (a9:PySem.W.nsIn K mainGlobals "shows_one" = some (some (.ref f9))) (l9:K.lookup f9=some ⟨oc9,od9, .func (PySem.W.fnOf "shows_one" "shows_one" (defArgs (top i_shows_one)) (defBody (top i_shows_one)) (defScope (top i_shows_one)) .none kV9 dc9 pm9 an9 cd9 ct9),sl9⟩) (c9:PySem.W.codeIn K cd9 "shows_one" = true) (k9:PySem.W.keepIn K (.ref f9)=true)
  (a10:PySem.W.nsIn K mainGlobals "stand_order" = some (some (.ref f10))) (l10:K.lookup f10=some ⟨oc10,od10, .func (PySem.W.fnOf "stand_order" "stand_order" (defArgs (top i_stand_order)) (defBody (top i_stand_order)) (defScope (top i_stand_order)) .none kV10 dc10 pm10 an10 cd10 ct10),sl10⟩) (c10:PySem.W.codeIn K cd10 "stand_order" = true) (k10:PySem.W.keepIn K (.ref f10)=true)
  (a11:PySem.W.nsIn K mainGlobals "least_stand" = some (some (.ref f11))) (l11:K.lookup f11=some ⟨oc11,od11, .func (PySem.W.fnOf "least_stand" "least_stand" (defArgs (top i_least_stand)) (defBody (top i_least_stand)) (defScope (top i_least_stand)) .none kV11 dc11 pm11 an11 cd11 ct11),sl11⟩) (c11:PySem.W.codeIn K cd11 "least_stand" = true) (k11:PySem.W.keepIn K (.ref f11)=true)
  (a12:PySem.W.nsIn K mainGlobals "keep_least" = some (some (.ref f12))) (l12:K.lookup f12=some ⟨oc12,od12, .func (PySem.W.fnOf "keep_least" "keep_least" (defArgs (top i_keep_least)) (defBody (top i_keep_least)) (defScope (top i_keep_least)) .none kV12 dc12 pm12 an12 cd12 ct12),sl12⟩) (c12:PySem.W.codeIn K cd12 "keep_least" = true) (k12:PySem.W.keepIn K (.ref f12)=true)
  (a13:PySem.W.nsIn K mainGlobals "stands_behind" = some (some (.ref f13))) (l13:K.lookup f13=some ⟨oc13,od13, .func (PySem.W.fnOf "stands_behind" "stands_behind" (defArgs (top i_stands_behind)) (defBody (top i_stands_behind)) (defScope (top i_stands_behind)) .none kV13 dc13 pm13 an13 cd13 ct13),sl13⟩) (c13:PySem.W.codeIn K cd13 "stands_behind" = true) (k13:PySem.W.keepIn K (.ref f13)=true)
  (a14:PySem.W.nsIn K mainGlobals "in_order" = some (some (.ref f14))) (l14:K.lookup f14=some ⟨oc14,od14, .func (PySem.W.fnOf "in_order" "in_order" (defArgs (top i_in_order)) (defBody (top i_in_order)) (defScope (top i_in_order)) .none kV14 dc14 pm14 an14 cd14 ct14),sl14⟩) (c14:PySem.W.codeIn K cd14 "in_order" = true) (k14:PySem.W.keepIn K (.ref f14)=true)
  (a15:PySem.W.nsIn K mainGlobals "first_stands" = some (some (.ref f15))) (l15:K.lookup f15=some ⟨oc15,od15, .func (PySem.W.fnOf "first_stands" "first_stands" (defArgs (top i_first_stands)) (defBody (top i_first_stands)) (defScope (top i_first_stands)) .none kV15 dc15 pm15 an15 cd15 ct15),sl15⟩) (c15:PySem.W.codeIn K cd15 "first_stands" = true) (k15:PySem.W.keepIn K (.ref f15)=true)
  (a16:PySem.W.nsIn K mainGlobals "two_readings" = some (some (.ref f16))) (l16:K.lookup f16=some ⟨oc16,od16, .func (PySem.W.fnOf "two_readings" "two_readings" (defArgs (top i_two_readings)) (defBody (top i_two_readings)) (defScope (top i_two_readings)) .none kV16 dc16 pm16 an16 cd16 ct16),sl16⟩) (c16:PySem.W.codeIn K cd16 "two_readings" = true) (k16:PySem.W.keepIn K (.ref f16)=true)
  (a17:PySem.W.nsIn K mainGlobals "written" = some (some (.ref f17))) (l17:K.lookup f17=some ⟨oc17,od17, .func (PySem.W.fnOf "written" "written" (defArgs (top i_written)) (defBody (top i_written)) (defScope (top i_written)) .none kV17 dc17 pm17 an17 cd17 ct17),sl17⟩) (c17:PySem.W.codeIn K cd17 "written" = true) (k17:PySem.W.keepIn K (.ref f17)=true)
  (a18:PySem.W.nsIn K mainGlobals "text_of" = some (some (.ref f18))) (l18:K.lookup f18=some ⟨oc18,od18, .func (PySem.W.fnOf "text_of" "text_of" (defArgs (top i_text_of)) (defBody (top i_text_of)) (defScope (top i_text_of)) .none kV18 dc18 pm18 an18 cd18 ct18),sl18⟩) (c18:PySem.W.codeIn K cd18 "text_of" = true) (k18:PySem.W.keepIn K (.ref f18)=true)
  (a19:PySem.W.nsIn K mainGlobals "shows_two" = some (some (.ref f19))) (l19:K.lookup f19=some ⟨oc19,od19, .func (PySem.W.fnOf "shows_two" "shows_two" (defArgs (top i_shows_two)) (defBody (top i_shows_two)) (defScope (top i_shows_two)) .none kV19 dc19 pm19 an19 cd19 ct19),sl19⟩) (c19:PySem.W.codeIn K cd19 "shows_two" = true) (k19:PySem.W.keepIn K (.ref f19)=true)
  (a20:PySem.W.nsIn K mainGlobals "_law_begin" = some (some (.ref f20))) (l20:K.lookup f20=some ⟨oc20,od20, .func (PySem.W.fnOf "_law_begin" "_law_begin" (defArgs (top i_law_begin)) (defBody (top i_law_begin)) (defScope (top i_law_begin)) .none kV20 dc20 pm20 an20 cd20 ct20),sl20⟩) (c20:PySem.W.codeIn K cd20 "_law_begin" = true) (k20:PySem.W.keepIn K (.ref f20)=true)
  (a21:PySem.W.nsIn K mainGlobals "_law_take" = some (some (.ref f21))) (l21:K.lookup f21=some ⟨oc21,od21, .func (PySem.W.fnOf "_law_take" "_law_take" (defArgs (top i_law_take)) (defBody (top i_law_take)) (defScope (top i_law_take)) .none kV21 dc21 pm21 an21 cd21 ct21),sl21⟩) (c21:PySem.W.codeIn K cd21 "_law_take" = true) (k21:PySem.W.keepIn K (.ref f21)=true)
  (a22:PySem.W.nsIn K mainGlobals "_law_names" = some (some (.ref f22))) (l22:K.lookup f22=some ⟨oc22,od22, .func (PySem.W.fnOf "_law_names" "_law_names" (defArgs (top i_law_names)) (defBody (top i_law_names)) (defScope (top i_law_names)) .none kV22 dc22 pm22 an22 cd22 ct22),sl22⟩) (c22:PySem.W.codeIn K cd22 "_law_names" = true) (k22:PySem.W.keepIn K (.ref f22)=true)
  (a23:PySem.W.nsIn K mainGlobals "_law_free" = some (some (.ref f23))) (l23:K.lookup f23=some ⟨oc23,od23, .func (PySem.W.fnOf "_law_free" "_law_free" (defArgs (top i_law_free)) (defBody (top i_law_free)) (defScope (top i_law_free)) .none kV23 dc23 pm23 an23 cd23 ct23),sl23⟩) (c23:PySem.W.codeIn K cd23 "_law_free" = true) (k23:PySem.W.keepIn K (.ref f23)=true)
  (a24:PySem.W.nsIn K mainGlobals "_law_none" = some (some (.ref f24))) (l24:K.lookup f24=some ⟨oc24,od24, .func (PySem.W.fnOf "_law_none" "_law_none" (defArgs (top i_law_none)) (defBody (top i_law_none)) (defScope (top i_law_none)) .none kV24 dc24 pm24 an24 cd24 ct24),sl24⟩) (c24:PySem.W.codeIn K cd24 "_law_none" = true) (k24:PySem.W.keepIn K (.ref f24)=true)
  (a25:PySem.W.nsIn K mainGlobals "_law_noughts_right" = some (some (.ref f25))) (l25:K.lookup f25=some ⟨oc25,od25, .func (PySem.W.fnOf "_law_noughts_right" "_law_noughts_right" (defArgs (top i_law_noughts_right)) (defBody (top i_law_noughts_right)) (defScope (top i_law_noughts_right)) .none kV25 dc25 pm25 an25 cd25 ct25),sl25⟩) (c25:PySem.W.codeIn K cd25 "_law_noughts_right" = true) (k25:PySem.W.keepIn K (.ref f25)=true)
  (a26:PySem.W.nsIn K mainGlobals "_law_even_right" = some (some (.ref f26))) (l26:K.lookup f26=some ⟨oc26,od26, .func (PySem.W.fnOf "_law_even_right" "_law_even_right" (defArgs (top i_law_even_right)) (defBody (top i_law_even_right)) (defScope (top i_law_even_right)) .none kV26 dc26 pm26 an26 cd26 ct26),sl26⟩) (c26:PySem.W.codeIn K cd26 "_law_even_right" = true) (k26:PySem.W.keepIn K (.ref f26)=true)
  (a27:PySem.W.nsIn K mainGlobals "law" = some (some (.ref f27))) (l27:K.lookup f27=some ⟨oc27,od27, .func (PySem.W.fnOf "law" "law" (defArgs (top i_law)) (defBody (top i_law)) (defScope (top i_law)) .none kV27 dc27 pm27 an27 cd27 ct27),sl27⟩) (c27:PySem.W.codeIn K cd27 "law" = true) (k27:PySem.W.keepIn K (.ref f27)=true)
  (gn_OddError:PySem.W.nsIn K mainGlobals "OddError" = some (some (.ref G_OddError)))
  (gn_NoName:PySem.W.nsIn K mainGlobals "NoName" = some (some (.ref G_NoName)))
  (sb0:PySem.W.exmOne K (.ref G_NoName) (.ref G_NoName)=some true)
  (vc0:PySem.W.nsIn K mainGlobals "SIGNS" = some (some (.str sSigns tkc0)))
  (lOddError:K.lookup G_OddError=some (excClassObj nm_OddError q_OddError G_OddError N_OddError bs_OddError ([.type "ValueError", .type "Exception", .type "BaseException", .type "object"]) hd_OddError sn_OddError su_OddError ab_OddError co_OddError dd_OddError k0_OddError k1_OddError k2_OddError k3_OddError k5_OddError "ValueError.__new__"))
  (xOddError:PySem.W.excIn K G_OddError [.type "ValueError", .type "Exception", .type "BaseException", .type "object"] "ValueError.__new__" = true)
  (lNoName:K.lookup G_NoName=some (excClassObj nm_NoName q_NoName G_NoName N_NoName bs_NoName (.ref G_OddError :: [.type "ValueError", .type "Exception", .type "BaseException", .type "object"]) true sn_NoName su_NoName ab_NoName co_NoName dd_NoName k0_NoName k1_NoName k2_NoName k3_NoName k5_NoName "ValueError.__new__"))
  (kpNoName:PySem.W.keepIn K (.ref G_NoName)=true)
  (iniNoName:PySem.W.findIn K (.ref G_NoName) "__init__" = some (some (.ref f_NoName)))
  (lfNoName:K.lookup f_NoName=some ⟨.type "function",od_NoName, .func (PySem.W.fnOf "__init__" "NoName.__init__" (defArgs (inClass (top i_NoName) 0)) (defBody (inClass (top i_NoName) 0)) (defScope (inClass (top i_NoName) 0)) .none kV_NoName dc_NoName pm_NoName an_NoName cd_NoName ct_NoName),sl_NoName⟩)
  (cfNoName:PySem.W.codeIn K cd_NoName "NoName.__init__" = true)
  (kfNoName:PySem.W.keepIn K (.ref f_NoName)=true)
  (saNoName:PySem.W.findIn K (.ref G_NoName) "__setattr__" = some (some (.builtin "object.__setattr__")))
  (naNoName:PySem.W.findIn K (.ref G_NoName) "name" = some none)
  (moNoName:PySem.W.mroIn K G_NoName (.type "object")=some true)
  (y0:PySem.W.nsIn K mainGlobals "sorted" = some none)
  (z0:PySem.W.nsIn K mainGlobals "len" = some none) (z1:PySem.W.nsIn K mainGlobals "range" = some none) (z2:PySem.W.nsIn K mainGlobals "max" = some none) (z3:PySem.W.nsIn K mainGlobals "min" = some none) (z4:PySem.W.nsIn K mainGlobals "sum" = some none) (z5:PySem.W.nsIn K mainGlobals "all" = some none) (z6:PySem.W.nsIn K mainGlobals "any" = some none) (z7:PySem.W.nsIn K mainGlobals "list" = some none) (z8:PySem.W.nsIn K mainGlobals "tuple" = some none) (z9:PySem.W.nsIn K mainGlobals "int" = some none) (z10:PySem.W.nsIn K mainGlobals "str" = some none) (z11:PySem.W.nsIn K mainGlobals "bool" = some none) (z12:PySem.W.nsIn K mainGlobals "zip" = some none) (z13:PySem.W.nsIn K mainGlobals "enumerate" = some none) (z14:PySem.W.nsIn K mainGlobals "isinstance" = some none) (z15:PySem.W.nsIn K mainGlobals "divmod" = some none) :
  ∃fd:FuncData,(∀(s:Shared) (v:Value),BindsTo s fd ⟨[v],[]⟩ [("_law_script",v)])∧∀base:Heap,K.In base→base.Ns mainGlobals mg→FnOk l.prog w K mg base CX0 9 fa fd ["_law_script"] (spLaw K):=by
 have e:=hfa.symm.trans (PySem.W.mg_of X G a27)
 cases e
 have T:Nm mg:=⟨PySem.W.mg_none_of X G z0,PySem.W.mg_none_of X G z1,PySem.W.mg_none_of X G z2,PySem.W.mg_none_of X G z3,PySem.W.mg_none_of X G z4,PySem.W.mg_none_of X G z5,PySem.W.mg_none_of X G z6,PySem.W.mg_none_of X G z7,PySem.W.mg_none_of X G z8,PySem.W.mg_none_of X G z9,PySem.W.mg_none_of X G z10,PySem.W.mg_none_of X G z11,PySem.W.mg_none_of X G z12,PySem.W.mg_none_of X G z13,PySem.W.mg_none_of X G z14,PySem.W.mg_none_of X G z15⟩
 have n_sorted:=PySem.W.mg_none_of X G y0
 have v_SIGNS:=PySem.W.mg_of X G vc0
 have S_NoName:ExcSt K G_NoName "name":=excSt_mk lNoName saNoName naNoName moNoName
 have M_NoName:XMk K G_NoName f_NoName:=⟨⟨_,_,_,_,_,_,_,_,_,_,_,_,_,_,_,_,lNoName,own_tail lOddError xOddError⟩,iniNoName,⟨_,lfNoName,rfl⟩,kpNoName⟩
 have FF_NoName:=fun_mk (st:=inClass (top i_NoName) 0) lfNoName cfNoName kfNoName
 have b_NoName:=FF_NoName.binds (ps:=["self", "name"]) fun _ _ _ _ _ _=>lenS fun _=>lenS fun _=>lenZ rfl
 have g_OddError:=PySem.W.mg_of X G gn_OddError
 have g_NoName:=PySem.W.mg_of X G gn_NoName
 have F1:=fun_mk (st:=top i_made_of) l1 c1 k1
 have b1:=F1.binds (ps:=["text", "signs"]) fun _ _ _ _ _ _=>lenS fun _=>lenS fun _=>lenZ rfl
 have F2:=fun_mk (st:=top i_is_code) l2 c2 k2
 have b2:=F2.binds (ps:=["thing"]) fun _ _ _ _ _ _=>lenS fun _=>lenZ rfl
 have F3:=fun_mk (st:=top i_rest_of) l3 c3 k3
 have b3:=F3.binds (ps:=["one", "other"]) fun _ _ _ _ _ _=>lenS fun _=>lenS fun _=>lenZ rfl
 have F4:=fun_mk (st:=top i_length_first) l4 c4 k4
 have b4:=F4.binds (ps:=["text"]) fun _ _ _ _ _ _=>lenS fun _=>lenZ rfl
 have F5:=fun_mk (st:=top i_rests_with) l5 c5 k5
 have b5:=F5.binds (ps:=["book", "text"]) fun _ _ _ _ _ _=>lenS fun _=>lenS fun _=>lenZ rfl
 have F6:=fun_mk (st:=top i_rests_of_codes) l6 c6 k6
 have b6:=F6.binds (ps:=["book"]) fun _ _ _ _ _ _=>lenS fun _=>lenZ rfl
 have F7:=fun_mk (st:=top i_rests_of) l7 c7 k7
 have b7:=F7.binds (ps:=["book"]) fun _ _ _ _ _ _=>lenS fun _=>lenZ rfl
 have F8:=fun_mk (st:=top i_holds_all) l8 c8 k8
 have b8:=F8.binds (ps:=["held", "rests"]) fun _ _ _ _ _ _=>lenS fun _=>lenS fun _=>lenZ rfl
 have F9:=fun_mk (st:=top i_shows_one) l9 c9 k9
 have b9:=F9.binds (ps:=["book", "thing"]) fun _ _ _ _ _ _=>lenS fun _=>lenS fun _=>lenZ rfl
 have F10:=fun_mk (st:=top i_stand_order) l10 c10 k10
 have b10:=F10.binds (ps:=["stand"]) fun _ _ _ _ _ _=>lenS fun _=>lenZ rfl
 have F11:=fun_mk (st:=top i_least_stand) l11 c11 k11
 have b11:=F11.binds (ps:=["waiting"]) fun _ _ _ _ _ _=>lenS fun _=>lenZ rfl
 have F12:=fun_mk (st:=top i_keep_least) l12 c12 k12
 have b12:=F12.binds (ps:=["waiting", "stands"]) fun _ _ _ _ _ _=>lenS fun _=>lenS fun _=>lenZ rfl
 have F13:=fun_mk (st:=top i_stands_behind) l13 c13 k13
 have b13:=F13.binds (ps:=["book", "stand"]) fun _ _ _ _ _ _=>lenS fun _=>lenS fun _=>lenZ rfl
 have F14:=fun_mk (st:=top i_in_order) l14 c14 k14
 have b14:=F14.binds (ps:=["book", "stand"]) fun _ _ _ _ _ _=>lenS fun _=>lenS fun _=>lenZ rfl
 have F15:=fun_mk (st:=top i_first_stands) l15 c15 k15
 have b15:=F15.binds (ps:=["book"]) fun _ _ _ _ _ _=>lenS fun _=>lenZ rfl
 have F16:=fun_mk (st:=top i_two_readings) l16 c16 k16
 have b16:=F16.binds (ps:=["book"]) fun _ _ _ _ _ _=>lenS fun _=>lenZ rfl
 have F17:=fun_mk (st:=top i_written) l17 c17 k17
 have b17:=F17.binds (ps:=["book", "names"]) fun _ _ _ _ _ _=>lenS fun _=>lenS fun _=>lenZ rfl
 have F18:=fun_mk (st:=top i_text_of) l18 c18 k18
 have b18:=F18.binds (ps:=["book", "thing"]) fun _ _ _ _ _ _=>lenS fun _=>lenS fun _=>lenZ rfl
 have F19:=fun_mk (st:=top i_shows_two) l19 c19 k19
 have b19:=F19.binds (ps:=["book", "thing"]) fun _ _ _ _ _ _=>lenS fun _=>lenS fun _=>lenZ rfl
 have F20:=fun_mk (st:=top i_law_begin) l20 c20 k20
 have b20:=F20.binds (ps:=["_law_script"]) fun _ _ _ _ _ _=>lenS fun _=>lenZ rfl
 have F21:=fun_mk (st:=top i_law_take) l21 c21 k21
 have b21:=F21.binds (ps:=["_law_state", "_law_many"]) fun _ _ _ _ _ _=>lenS fun _=>lenS fun _=>lenZ rfl
 have F22:=fun_mk (st:=top i_law_names) l22 c22 k22
 have b22:=F22.binds (ps:=["_law_state", "_law_many"]) fun _ _ _ _ _ _=>lenS fun _=>lenS fun _=>lenZ rfl
 have F23:=fun_mk (st:=top i_law_free) l23 c23 k23
 have b23:=F23.binds (ps:=["_law_state", "_law_many", "_law_most"]) fun _ _ _ _ _ _=>lenS fun _=>lenS fun _=>lenS fun _=>lenZ rfl
 have F24:=fun_mk (st:=top i_law_none) l24 c24 k24
 have b24:=F24.binds (ps:=["_law_book"]) fun _ _ _ _ _ _=>lenS fun _=>lenZ rfl
 have F25:=fun_mk (st:=top i_law_noughts_right) l25 c25 k25
 have b25:=F25.binds (ps:=["_law_state"]) fun _ _ _ _ _ _=>lenS fun _=>lenZ rfl
 have F26:=fun_mk (st:=top i_law_even_right) l26 c26 k26
 have b26:=F26.binds (ps:=["_law_state"]) fun _ _ _ _ _ _=>lenS fun _=>lenZ rfl
 have F27:=fun_mk (st:=top i_law) l27 c27 k27
 refine ⟨PySem.W.fnOf "law" "law" (defArgs (top i_law)) (defBody (top i_law)) (defScope (top i_law)) .none kV27 dc27 pm27 an27 cd27 ct27,fun s v => .of_eq rfl,fun base hB hG => ?_⟩
 have F_NoName:=ok_ini_NoName (P:=l.prog) (w:=w) (mg:=mg) (base:=base) FF_NoName S_NoName
 have fMade:Fn l.prog w K mg base 1 "made_of" ["text", "signs"] (spMade):=⟨f1,_,ok_made F1 T,b1,k1,PySem.W.mg_of X G a1⟩
 have fIsc:Fn l.prog w K mg base 2 "is_code" ["thing"] (spIsc):=⟨f2,_,ok_isc F2 T v_SIGNS fMade,b2,k2,PySem.W.mg_of X G a2⟩
 have fRest:Fn l.prog w K mg base 1 "rest_of" ["one", "other"] (spRest):=⟨f3,_,ok_rest F3 T,b3,k3,PySem.W.mg_of X G a3⟩
 have fLf:Fn l.prog w K mg base 1 "length_first" ["text"] (spLf):=⟨f4,_,ok_lf F4 T,b4,k4,PySem.W.mg_of X G a4⟩
 have fRw:Fn l.prog w K mg base 2 "rests_with" ["book", "text"] (spRw K):=⟨f5,_,ok_rw F5 T fRest,b5,k5,PySem.W.mg_of X G a5⟩
 have fRc:Fn l.prog w K mg base 3 "rests_of_codes" ["book"] (spRc K):=⟨f6,_,ok_rc F6 T fRw,b6,k6,PySem.W.mg_of X G a6⟩
 have fRo:Fn l.prog w K mg base 4 "rests_of" ["book"] (spRo K):=⟨f7,_,ok_ro F7 T n_sorted fRc fRw fLf,b7,k7,PySem.W.mg_of X G a7⟩
 have fHa:Fn l.prog w K mg base 1 "holds_all" ["held", "rests"] (spHa):=⟨f8,_,ok_ha F8 T,b8,k8,PySem.W.mg_of X G a8⟩
 have fO1:Fn l.prog w K mg base 4 "shows_one" ["book", "thing"] (spO1 K):=⟨f9,_,ok_o1 F9 T fIsc fHa fRc fRw,b9,k9,PySem.W.mg_of X G a9⟩
 have fSo:Fn l.prog w K mg base 2 "stand_order" ["stand"] (spSo):=⟨f10,_,ok_so F10 T fLf,b10,k10,PySem.W.mg_of X G a10⟩
 have fLs:Fn l.prog w K mg base 5 "least_stand" ["waiting"] (spLs3):=⟨f11,_,ok_ls3 F11 T fSo,b11,k11,PySem.W.mg_of X G a11⟩
 have fKl:Fn l.prog w K mg base 3 "keep_least" ["waiting", "stands"] (spKl3 K):=⟨f12,_,ok_kl3 F12 T fSo,b12,k12,PySem.W.mg_of X G a12⟩
 have fSb:Fn l.prog w K mg base 1 "stands_behind" ["book", "stand"] (spSb3 K):=⟨f13,_,ok_sb3 F13 T,b13,k13,PySem.W.mg_of X G a13⟩
 have fIo:Fn l.prog w K mg base 1 "in_order" ["book", "stand"] (spIo3 K):=⟨f14,_,ok_io3 F14 T,b14,k14,PySem.W.mg_of X G a14⟩
 have fFs:Fn l.prog w K mg base 2 "first_stands" ["book"] (spFs3 K):=⟨f15,_,ok_fs3 F15 T fSb,b15,k15,PySem.W.mg_of X G a15⟩
 have fTr:Fn l.prog w K mg base 6 "two_readings" ["book"] (spTr3 K):=⟨f16,_,ok_tr3 F16 T fSb fFs fKl fLs fIo,b16,k16,PySem.W.mg_of X G a16⟩
 have fWr:FnX l.prog w K mg base 3 "written" ["book", "names"] (spWrX K G_NoName):=⟨f17,_,ok_wrx F17 T g_NoName M_NoName F_NoName b_NoName,b17,k17,PySem.W.mg_of X G a17⟩
 have fTxo:Fn l.prog w K mg base 4 "text_of" ["book", "thing"] (spTxo K):=⟨f18,_,ok_txo F18 T g_NoName sb0 fWr,b18,k18,PySem.W.mg_of X G a18⟩
 have fSh:Fn l.prog w K mg base 5 "shows_two" ["book", "thing"] (spSh K):=⟨f19,_,ok_sh F19 T fTxo,b19,k19,PySem.W.mg_of X G a19⟩
 have fBegin:Fn l.prog w K mg base 1 "_law_begin" ["_law_script"] (spBegin K):=⟨f20,_,ok_begin F20 T,b20,k20,PySem.W.mg_of X G a20⟩
 have fTake:Fn l.prog w K mg base 1 "_law_take" ["_law_state", "_law_many"] (spTake):=⟨f21,_,ok_take F21 T,b21,k21,PySem.W.mg_of X G a21⟩
 have fTk:Fn l.prog w K mg base 1 "_law_take" ["_law_state", "_law_many"] (spTk):=Fn.imp fTake (fun _ _ _ _ h=>spTk_of h)
 have fNl:Fn l.prog w K mg base 2 "_law_names" ["_law_state", "_law_many"] (spNl):=⟨f22,_,ok_nl16 F22 T fTk,b22,k22,PySem.W.mg_of X G a22⟩
 have fFree:Fn l.prog w K mg base 2 "_law_free" ["_law_state", "_law_many", "_law_most"] (spFr):=⟨f23,_,ok_free F23 T fTk,b23,k23,PySem.W.mg_of X G a23⟩
 have fNone:Fn l.prog w K mg base 7 "_law_none" ["_law_book"] (spNone K):=⟨f24,_,ok_none F24 T fRo fTr fO1,b24,k24,PySem.W.mg_of X G a24⟩
 have fNr:Fn l.prog w K mg base 7 "_law_noughts_right" ["_law_state"] (spNr):=⟨f25,_,ok_nr F25 T fTk fNl fTr fSh,b25,k25,PySem.W.mg_of X G a25⟩
 have fEr:Fn l.prog w K mg base 8 "_law_even_right" ["_law_state"] (spNr):=⟨f26,_,ok_er F26 T fTk fNl fNone fTr fRo,b26,k26,PySem.W.mg_of X G a26⟩
 exact ok_law F27 T fBegin fTk fFree fNl fNone fNr fEr fTr fSh fO1 fRo
theorem walk {l:PySem.W.OpenLaw} {q:Program} {loose:List Str} {XP:(Str→Option Value)→Heap→Prop} {YP:World→Heap→Prop} {d:DefRec} {K:Params→PySem.W.Frag} (hn:l.most=some 63) (hdf:d.params.defaults=[])
  (hY:∀(w:World) (h:Heap),YP w h→(K w.params).In h)
  (F:∀(w:World) (mg:Str→Option Value) (fa:Addr) (h:Heap),(K w.params).In h→h.Ns mainGlobals mg→mg d.name=some (.ref fa) →
   ∃fd:FuncData,(∀(s:Shared) (u:Value),BindsTo s fd ⟨[u],[]⟩ [("_law_script",u)])∧∀base:Heap,(K w.params).In base→base.Ns mainGlobals mg→FnOk l.prog w (K w.params) mg base CX0 9 fa fd ["_law_script"] (spLaw (K w.params))) :
  PySem.W.WalkO q loose XP YP l.row.toRowW d [] (fun f vs=>PySem.call f vs):=
 L2.walk_of (n:=63) (k:=9) (x := "_law_script") (CX:=fun _=>CX0) (sp:=fun w=>spLaw (K w.params)) hn (by decide) hdf ⟨rfl,by decide,by decide,rfl⟩ hY F (fun _ _ a ns hl _ hS=>⟨a,ns,rfl,hS,hl,fun _=>rfl⟩) fun _ _ _ _ _ z=>z
end Z
open PySem PySem.W PyProof.Rows L2
set_option maxRecDepth 100000 in
set_option maxHeartbeats 0 in
theorem PySem.Challenge.cw_oddlong_k17_books_of_known_readings_holds : PySem.Challenge.rw_oddlong_k17_books_of_known_readings.Holds := by
  w_on; o_law; k_head; (case hw => w_witness2)
  k_fill
  refine Z.walk (l := PySem.Challenge.rw_oddlong_k17_books_of_known_readings) rfl rfl (fun w h Y => PySem.W.kIn_of Y) ?F
  case F =>
    intro w mg fa h KX G hmg
    refine' Z.all_mk KX G hmg ?a1 ?l1 ?c1 ?k1 ?a2 ?l2 ?c2 ?k2 ?a3 ?l3 ?c3 ?k3 ?a4 ?l4 ?c4 ?k4 ?a5 ?l5 ?c5 ?k5 ?a6 ?l6 ?c6 ?k6 ?a7 ?l7 ?c7 ?k7 ?a8 ?l8 ?c8 ?k8 ?a9 ?l9 ?c9 ?k9 ?a10 ?l10 ?c10 ?k10 ?a11 ?l11 ?c11 ?k11 ?a12 ?l12 ?c12 ?k12 ?a13 ?l13 ?c13 ?k13 ?a14 ?l14 ?c14 ?k14 ?a15 ?l15 ?c15 ?k15 ?a16 ?l16 ?c16 ?k16 ?a17 ?l17 ?c17 ?k17 ?a18 ?l18 ?c18 ?k18 ?a19 ?l19 ?c19 ?k19 ?a20 ?l20 ?c20 ?k20 ?a21 ?l21 ?c21 ?k21 ?a22 ?l22 ?c22 ?k22 ?a23 ?l23 ?c23 ?k23 ?a24 ?l24 ?c24 ?k24 ?a25 ?l25 ?c25 ?k25 ?a26 ?l26 ?c26 ?k26 ?a27 ?l27 ?c27 ?k27 ?gn_OddError ?gn_NoName ?sb0 ?vc0 ?lOddError ?xOddError ?lNoName ?kpNoName ?iniNoName ?lfNoName ?cfNoName ?kfNoName ?saNoName ?naNoName ?moNoName ?y0 ?z0 ?z1 ?z2 ?z3 ?z4 ?z5 ?z6 ?z7 ?z8 ?z9 ?z10 ?z11 ?z12 ?z13 ?z14 ?z15
    (case a1 => k_is); (case l1 => k_is); (case c1 => k_is); (case k1 => k_is); (case a2 => k_is); (case l2 => k_is); (case c2 => k_is); (case k2 => k_is)
    (case a3 => k_is); (case l3 => k_is); (case c3 => k_is); (case k3 => k_is); (case a4 => k_is); (case l4 => k_is); (case c4 => k_is); (case k4 => k_is)
    (case a5 => k_is); (case l5 => k_is); (case c5 => k_is); (case k5 => k_is); (case a6 => k_is); (case l6 => k_is); (case c6 => k_is); (case k6 => k_is)
    (case a7 => k_is); (case l7 => k_is); (case c7 => k_is); (case k7 => k_is); (case a8 => k_is); (case l8 => k_is); (case c8 => k_is); (case k8 => k_is)
    (case a9 => k_is); (case l9 => k_is); (case c9 => k_is); (case k9 => k_is); (case a10 => k_is); (case l10 => k_is); (case c10 => k_is); (case k10 => k_is)
    (case a11 => k_is); (case l11 => k_is); (case c11 => k_is); (case k11 => k_is); (case a12 => k_is); (case l12 => k_is); (case c12 => k_is); (case k12 => k_is)
    (case a13 => k_is); (case l13 => k_is); (case c13 => k_is); (case k13 => k_is); (case a14 => k_is); (case l14 => k_is); (case c14 => k_is); (case k14 => k_is)
    (case a15 => k_is); (case l15 => k_is); (case c15 => k_is); (case k15 => k_is); (case a16 => k_is); (case l16 => k_is); (case c16 => k_is); (case k16 => k_is)
    (case a17 => k_is); (case l17 => k_is); (case c17 => k_is); (case k17 => k_is); (case a18 => k_is); (case l18 => k_is); (case c18 => k_is); (case k18 => k_is)
    (case a19 => k_is); (case l19 => k_is); (case c19 => k_is); (case k19 => k_is); (case a20 => k_is); (case l20 => k_is); (case c20 => k_is); (case k20 => k_is)
    (case a21 => k_is); (case l21 => k_is); (case c21 => k_is); (case k21 => k_is); (case a22 => k_is); (case l22 => k_is); (case c22 => k_is); (case k22 => k_is)
    (case a23 => k_is); (case l23 => k_is); (case c23 => k_is); (case k23 => k_is); (case a24 => k_is); (case l24 => k_is); (case c24 => k_is); (case k24 => k_is)
    (case a25 => k_is); (case l25 => k_is); (case c25 => k_is); (case k25 => k_is); (case a26 => k_is); (case l26 => k_is); (case c26 => k_is); (case k26 => k_is)
    (case a27 => k_is); (case l27 => k_is); (case c27 => k_is); (case k27 => k_is); (case gn_OddError => k_is); (case gn_NoName => k_is); (case sb0 => exact exm_sub (by k_is) (by k_is) (by k_is) (by k_is)); (case vc0 => k_is)
    (case lOddError => k_is); (case xOddError => k_exc); (case lNoName => k_is); (case kpNoName => k_is); (case iniNoName => k_is); (case lfNoName => k_is); (case cfNoName => k_is); (case kfNoName => k_is)
    (case saNoName => k_is); (case naNoName => k_is); (case moNoName => k_is); (case y0 => k_is); (case z0 => k_is); (case z1 => k_is); (case z2 => k_is); (case z3 => k_is)
    (case z4 => k_is); (case z5 => k_is); (case z6 => k_is); (case z7 => k_is); (case z8 => k_is); (case z9 => k_is); (case z10 => k_is); (case z11 => k_is)
    (case z12 => k_is); (case z13 => k_is); (case z14 => k_is); (case z15 => k_is)
