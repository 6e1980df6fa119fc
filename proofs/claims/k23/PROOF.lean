import PyProof.Rows.All
import Wide.All
import OpenK.AllK
import Wide.FinOn
import PyProof.EqAt
import PyProof.EqKinds
import PyProof.TupleCall
import PyProof.DictCompW
import PyProof.Rows.SortWalk
import OpenK.KRaise
import PyProof.ExcClass2
import KE.KTryMore
import KE.KSortTup
import KE.KIsAll
import PyProof.ListRange
import PyProof.StrBlock2
import PyProof.Rows.SetFrom
import PyProof.SetRoads
import PyProof.ReprRoads
import PyProof.CallStr
import PyProof.Rows.SortStr
import PyProof.Rows.Range3
import PyProof.Rows.IntBool
import KE.KRevIter
import PyProof.MeetsSeq
import PyProof.MinMaxWalk
import PyProof.SliceStr2
import PyProof.Rows.BitMore
import PyProof.StrLawsRepr
import Lean
import PySem.Challenge.RW_oddlong_k23_least_books
set_option Elab.async false
set_option linter.all false
set_option maxRecDepth 100000
namespace L2
set_option genSizeOf false
set_option genInjectivity false
inductive Ex2 {α0 α1:Type} (P : α0 → α1→Prop):Prop|mk (x0 : α0) (x1 : α1) (h:P x0 x1):Ex2 P
inductive Ex3 {α0 α1 α2:Type} (P : α0 → α1 → α2→Prop):Prop|mk (x0 : α0) (x1 : α1) (x2 : α2) (h:P x0 x1 x2):Ex3 P
inductive Ex4 {α0 α1 α2 α3:Type} (P : α0 → α1 → α2 → α3→Prop):Prop|mk (x0 : α0) (x1 : α1) (x2 : α2) (x3 : α3) (h:P x0 x1 x2 x3):Ex4 P
inductive Ex5 {α0 α1 α2 α3 α4:Type} (P : α0 → α1 → α2 → α3 → α4→Prop):Prop|mk (x0 : α0) (x1 : α1) (x2 : α2) (x3 : α3) (x4 : α4) (h:P x0 x1 x2 x3 x4):Ex5 P
inductive Ex9 {α0 α1 α2 α3 α4 α5 α6 α7 α8:Type} (P : α0 → α1 → α2 → α3 → α4 → α5 → α6 → α7 → α8→Prop):Prop|mk (x0 : α0) (x1 : α1) (x2 : α2) (x3 : α3) (x4 : α4) (x5 : α5) (x6 : α6) (x7 : α7) (x8 : α8) (h:P x0 x1 x2 x3 x4 x5 x6 x7 x8):Ex9 P
set_option genSizeOf true
set_option genInjectivity true
end L2
namespace L2
open PySem PySem.Spec PyProof.Rows
abbrev Key:=Sum Int Str
def keyIs:Key→Value→Bool
 | .inl k,v=>Value.isInt k v
 | .inr x,v=>Value.isStrOf x v
def keyH (w:World):Key→Int
 | .inl k=>hashInt k
 | .inr x=>hashStr w x
theorem keyIs_shape:∀{k:Key} {v:Value},keyIs k v=true→(∃i t,k=Sum.inl i∧v=Value.int i t)∨(∃x t,k=Sum.inr x∧v=Value.str x t)
 | .inl i,v,h=>by
  obtain ⟨t,e⟩:=Value.isInt_shape (k:=i) (v:=v) h
  exact .inl ⟨i,t,rfl,e⟩
 | .inr x,v,h=>by
  obtain ⟨t,e⟩:=Value.isStrOf_shape (x:=x) (v:=v) h
  exact .inr ⟨x,t,rfl,e⟩
theorem keyIs_int (i:Int) (t:Tok):keyIs (.inl i) (.int i t)=true:=by simp [keyIs,Value.isInt]
theorem keyIs_str (x:Str) (t:Tok):keyIs (.inr x) (.str x t)=true:=by simp [keyIs,Value.isStrOf]
theorem key_ll (a b:Int):decide ((Sum.inl a:Key)=Sum.inl b)=(a == b):=by
 by_cases e:a=b
 ·subst e;simp
 ·have h:¬(Sum.inl a:Key)=Sum.inl b:=fun q=>e (Sum.inl.inj q)
  rw [decide_eq_false h]
  exact (beq_eq_false_iff_ne.mpr e).symm
theorem key_rr (a b:Str):decide ((Sum.inr a:Key)=Sum.inr b)=decide (a=b):=by
 by_cases e:a=b
 ·subst e;simp
 ·have h:¬(Sum.inr a:Key)=Sum.inr b:=fun q=>e (Sum.inr.inj q)
  rw [decide_eq_false h,decide_eq_false e]
theorem key_lr (a:Int) (b:Str):decide ((Sum.inl a:Key)=Sum.inr b)=false:=decide_eq_false (fun q=>nomatch q)
theorem key_rl (a:Str) (b:Int):decide ((Sum.inr a:Key)=Sum.inl b)=false:=decide_eq_false (fun q=>nomatch q)
def mixKind (prog:Program) (w:World):PySem.KeyKind prog w Key where
 is:=keyIs
 hash:=keyH w
 inj:=fun v a b ha hb=>by
  rcases keyIs_shape ha with ⟨i,t,rfl,rfl⟩|⟨x,t,rfl,rfl⟩
  ·rcases keyIs_shape hb with ⟨j,u,rfl,e⟩|⟨y,u,rfl,e⟩
   ·injection e with e1 _;rw [e1]
   ·exact nomatch e
  ·rcases keyIs_shape hb with ⟨j,u,rfl,e⟩|⟨y,u,rfl,e⟩
   ·exact nomatch e
   ·injection e with e1 _;rw [e1]
 byValue:=fun k v h=>by
  rcases keyIs_shape h with ⟨i,t,rfl,rfl⟩|⟨x,t,rfl,rfl⟩ <;> rfl
 pyHash:=fun hv h=>by
  rcases keyIs_shape hv with ⟨i,t,rfl,rfl⟩|⟨x,t,rfl,rfl⟩
  ·exact wpAny_pyHash_int h
  ·exact wpAny_pyHash_str h
 eqBool:=fun hu hv h=>by
  rcases keyIs_shape hu with ⟨i,t,rfl,rfl⟩|⟨x,t,rfl,rfl⟩
  ·rcases keyIs_shape hv with ⟨j,u,rfl,rfl⟩|⟨y,u,rfl,rfl⟩
   ·rw [key_ll] at h;exact wpAny_eqBool_int h
   ·rw [key_lr] at h;exact SeqAt.EqAt.int_str i t y u _ _ _ _ h
  ·rcases keyIs_shape hv with ⟨j,u,rfl,rfl⟩|⟨y,u,rfl,rfl⟩
   ·rw [key_rl] at h;exact SeqAt.EqAt.str_int x t j u _ _ _ _ h
   ·rw [key_rr] at h;exact wpAny_eqBool_str h
 «strs»:=fun k x t v h=>by
  rcases keyIs_shape h with ⟨i,u,rfl,e⟩|⟨y,u,rfl,e⟩
  ·exact nomatch e
  ·injection e with e1 _
   subst e1
   cases v <;> rfl
theorem mixKind_int (prog:Program) (w:World) (i:Int) (t:Tok):(mixKind prog w).is (.inl i) (.int i t)=true:=keyIs_int i t
theorem mixKind_str (prog:Program) (w:World) (x:Str) (t:Tok):(mixKind prog w).is (.inr x) (.str x t)=true:=keyIs_str x t
end L2
namespace L2
open PySem PySem.Spec PyProof.Rows
inductive V where
 | non|bl (b:Bool)|int (i:Int)|str (x:Str)|byt (b:Array UInt8)|flt (b:UInt64)|ref (a:Addr)|ty (n:String)
 deriving DecidableEq
def RelV:V→Value→Prop
 | .non,u=>u=Value.none
 | .bl b,u=>u=Value.bool b
 | .int i,u=>∃t,u=Value.int i t
 | .str x,u=>∃t,u=Value.str x t
 | .byt b,u=>∃t,u=Value.bytes b t
 | .flt b,u=>∃t,u=Value.float b t
 | .ref a,u=>u=Value.ref a
 | .ty n,u=>u=Value.type n
abbrev Vals:List V→List Value→Prop:=Paired RelV
theorem Vals.length {xs:List V} {us:List Value} (r:Vals xs us):xs.length=us.length:=Paired.length r
theorem Vals.get:∀{xs:List V} {us:List Value} {i:Nat} {x:V},Vals xs us→xs[i]? = some x→∃u,us[i]? = some u∧RelV x u
 | _,_,_,_, .nil,e=>by simp at e
 | _,_,0,_, .cons r _,e=>by simp at e;subst e;exact ⟨_,rfl,r⟩
 | _,_,i+1,x, .cons _ t,e=>by
  obtain ⟨u,h1,h2⟩:=Vals.get (i:=i) (x:=x) t (by simpa using e)
  exact ⟨u,by simpa using h1,h2⟩
theorem Vals.set {x:V} {u:Value} (r:RelV x u):∀{xs:List V} {us:List Value} (i:Nat),Vals xs us→Vals (xs.set i x) (us.set i u)
 | _,_,_, .nil => .nil
 | _,_,0, .cons _ t => .cons r t
 | _,_,i+1, .cons q t => .cons q (Vals.set r i t)
theorem Vals.append {xs ys:List V} {us ws:List Value} (h:Vals xs us) (s:Vals ys ws):Vals (xs++ys) (us++ws):=by
 induction h with
 | nil=>exact s
 | cons r t ih=>exact .cons r ih
theorem Vals.take:∀{xs:List V} {us:List Value} (n:Nat),Vals xs us→Vals (xs.take n) (us.take n)
 | _,_,0,_ => .nil
 | _,_,_+1, .nil => .nil
 | _,_,n+1, .cons r t => .cons r (Vals.take n t)
theorem Vals.drop:∀{xs:List V} {us:List Value} (n:Nat),Vals xs us→Vals (xs.drop n) (us.drop n)
 | _,_,0,r=>r
 | _,_,_+1, .nil => .nil
 | _,_,n+1, .cons _ t=>Vals.drop n t
def RelO:Option V→Option Value→Prop
 | some v,some u=>RelV v u
 | none,none=>True
 | _,_=>False
def KV {κ:Type} : List (κ×V)→List (κ×Value)→Prop:=Paired fun (p : κ×V) (q : κ×Value)=>p.1=q.1∧RelV p.2 q.2
def kV:Key→V
 | .inl i => .int i
 | .inr x => .str x
inductive HO where
 | lst (xs:List V)
 | tup (xs:List V)
 | dK (kvs:List (Key×V))|dT (kvs:List (List Key×V))
 | set (S:Int→Bool) (n:Nat)
 | ins (C dx:Addr) (fs:List (Str×V))
 | own (x:Addr)
 | xd (fs:List (Str×V))
 | met (f x:Addr)
 | rng (lo hi:Int)
 | frz (o:Obj) (u:HO)
 | tbl (ps:Array Value)
 | ext (φ:Heap→Prop)
abbrev Hp:=Addr→Option HO
def upd (H:Hp) (a:Addr) (o:HO):Hp:=fun b=>if b=a then some o else H b
theorem upd_same {H:Hp} {a:Addr} {o:HO} : upd H a o a=some o:=by unfold upd;rw [if_pos rfl]
theorem upd_ne {H:Hp} {a b:Addr} {o:HO} (h:b≠a):upd H a o b=H b:=by unfold upd;rw [if_neg h]
theorem ne_of {H:Hp} {a b:Addr} {o u:HO} (h:H a=some o) (h':H b=some u) (d:o≠u):a≠b:=by
 intro e;subst e;rw [h] at h';exact d (Option.some.inj h')
theorem ne_of_none {H:Hp} {a b:Addr} {o:HO} (h:H a=some o) (h':H b=none):a≠b:=by
 intro e;subst e;rw [h] at h';cases h'
section
variable (P:Program) (w:World)
def ObjOk (H:Hp) (h:Heap) (a:Addr):HO→Prop
 | .lst xs=>xs.length≤sizeLine∧Ex2 fun (its:List Value) (n:Nat)=>Vals xs its∧h.get? a=some { cls := .type "list",data := .seq its.toArray n }
 | .tup xs=>xs.length≤sizeLine∧∃its:List Value,Vals xs its∧IsTup h a its.toArray
 | .dK kvs=>kvs.length≤sizeLine∧(a == sysModules)=false∧∃vs,KV kvs vs∧h.DictOf (mixKind P w) a vs
 | .dT kvs=>kvs.length≤sizeLine∧(a == sysModules)=false∧∃xs:List (List Key×Addr×Value),
   Paired (fun (p:List Key×V) (q:List Key×Addr×Value)=>p.1=q.1∧H q.2.1=some (.tup (p.1.map kV))∧RelV p.2 q.2.2) kvs xs ∧
   Ex3 fun o es ep=>h.get? a=some o∧o.ExactDict∧o.data = .dict es ep∧es.toList=xs.map (entryOfKey (tupleKind (mixKind P w)))∧(xs.map (·.1)).Nodup
 | .set S n=>h.SetOf (intKind P w) a S n
 | .ins C dx fs=>H dx=some (.own a)∧fs.length≤1000∧dx≠a∧h.get? a=some (PySem.W.instObj C dx) ∧
   ∃mA,h.Ns1 dx mA∧(∀f,RelO (fs.lookup f) (mA f))∧PySem.Within mA (fs.map (·.1))
 | .own _=>∃o,h.get? a=some o
 | .xd fs=>∃mA,h.Ns1 a mA∧∀f,RelO (fs.lookup f) (mA f)
 | .rng lo hi=>Ex3 fun t u v=>h.get? a=some { cls := .type "range",data := .fields #[.int lo t, .int hi u, .int 1 v] }
 | .frz o u=>h.get? a=some o∧ObjOk H h a u
 | .tbl ps=>h.get? a=some { cls := .none,data := .fields ps }
 | .met f x=>h.get? a=some (PySem.W.methodObj (.ref f) (.ref x))
 | .ext φ => φ h∧(∃o,h.get? a=some o)∧∀h1 h2:Heap, φ h1→(∀o,h1.get? a=some o→h2.get? a=some o) → φ h2
def HOk (H:Hp) (h:Heap):Prop:=∀a o,H a=some o→ObjOk P w H h a o
end
section
variable {P:Program} {w:World} {H H':Hp} {h h':Heap} {a:Addr} {o:HO}
theorem ObjOk.lt (x:ObjOk P w H h a o):a<h.objs.size:=by
 cases o with
 | lst xs=>obtain ⟨_,_,_,_,e⟩:=x;exact Heap.lt_size e
 | tup xs=>obtain ⟨_,_,_,p⟩:=x;exact p.lt
 | dK kvs=>obtain ⟨_,_,_,_,o,_,_,e,_⟩:=x;exact Heap.lt_size e
 | dT kvs=>obtain ⟨_,_,_,_,o,_,_,e,_⟩:=x;exact Heap.lt_size e
 | set S n=>obtain ⟨o,_,_,_,e,_⟩:=x;exact Heap.lt_size e
 | ins C dx fs=>obtain ⟨_,_,_,e,_⟩:=x;exact Heap.lt_size e
 | own y=>obtain ⟨_,e⟩:=x;exact Heap.lt_size e
 | xd fs=>obtain ⟨_,⟨_,_,_,e,_⟩,_⟩:=x;exact Heap.lt_size e
 | rng lo hi=>obtain ⟨_,_,_,e⟩:=x;exact Heap.lt_size e
 | frz ob u=>obtain ⟨e,_⟩:=x;exact Heap.lt_size e
 | tbl ps=>exact Heap.lt_size (show h.get? a=some _ from x)
 | met f y=>exact Heap.lt_size (show h.get? a=some _ from x)
 | ext φ=>obtain ⟨_,⟨_,e⟩,_⟩:=x;exact Heap.lt_size e
theorem Paired.mapP {α β:Type} {F G : α → β→Prop} {l₁:List α} {l₂:List β} (h:Paired F l₁ l₂) (f:∀a b,F a b→G a b):Paired G l₁ l₂:=by
 induction h with
 | nil=>exact .nil
 | cons r t ih=>exact .cons (f _ _ r) ih
theorem ObjOk.stay (x:ObjOk P w H h a o) (k:∀b u,(b=a∨H b=some (.own a))→h.get? b=some u→h'.get? b=some u)
  (ho:∀b,H b=some (.own a)→H' b=some (.own a)) (ht:∀b xs,H b=some (.tup xs)→H' b=some (.tup xs)):ObjOk P w H' h' a o:=by
 induction o with
 | lst xs=>obtain ⟨z,its,n,r,e⟩:=x;exact ⟨z,its,n,r,k _ _ (.inl rfl) e⟩
 | tup xs=>obtain ⟨z,its,r,ob,e,c⟩:=x;exact ⟨z,its,r,ob,k _ _ (.inl rfl) e,c⟩
 | dK kvs=>obtain ⟨z,y,vs,r,ob,es,ep,e,c⟩:=x;exact ⟨z,y,vs,r,ob,es,ep,k _ _ (.inl rfl) e,c⟩
 | dT kvs=>
  obtain ⟨z,y,xs,r,ob,es,ep,e,c⟩:=x
  exact ⟨z,y,xs,Paired.mapP r fun p q z=>⟨z.1,ht _ _ z.2.1,z.2.2⟩,ob,es,ep,k _ _ (.inl rfl) e,c⟩
 | set S n=>obtain ⟨ob,es,ep,t,e,c⟩:=x;exact ⟨ob,es,ep,t,k _ _ (.inl rfl) e,c⟩
 | ins C dx fs=>
  obtain ⟨d,z,ne,e,mA,⟨od,es,ep,e2,c⟩,r⟩:=x
  exact ⟨ho _ d,z,ne,k _ _ (.inl rfl) e,mA,⟨od,es,ep,k _ _ (.inr d) e2,c⟩,r⟩
 | own y=>obtain ⟨ob,e⟩:=x;exact ⟨ob,k _ _ (.inl rfl) e⟩
 | xd fs=>obtain ⟨mA,⟨od,es,ep,e,c⟩,r⟩:=x;exact ⟨mA,⟨od,es,ep,k _ _ (.inl rfl) e,c⟩,r⟩
 | rng lo hi=>obtain ⟨t,u,v,e⟩:=x;exact ⟨t,u,v,k _ _ (.inl rfl) e⟩
 | frz ob u ih=>obtain ⟨e,q⟩:=x;exact ⟨k _ _ (.inl rfl) e,ih q⟩
 | tbl ps=>
  have e:h.get? a=some { cls := .none,data := .fields ps }:=x
  show h'.get? a=some { cls := .none,data := .fields ps }
  exact k a _ (.inl rfl) e
 | met f y=>
  have e:h.get? a=some (PySem.W.methodObj (.ref f) (.ref y)):=x
  show h'.get? a=some (PySem.W.methodObj (.ref f) (.ref y))
  exact k a _ (.inl rfl) e
 | ext φ=>obtain ⟨p,⟨o,e⟩,st⟩:=x;exact ⟨st _ _ p fun o q=>k _ _ (.inl rfl) q,⟨o,k _ _ (.inl rfl) e⟩,st⟩
theorem HOk.lt (x:HOk P w H h) (e:H a=some o):a<h.objs.size:=(x a o e).lt
theorem HOk.fresh (x:HOk P w H h) (e:h.objs.size≤a):H a=none:=by
 cases q:H a with
 | none=>rfl
 | some u=>exact absurd (Nat.lt_of_lt_of_le (x.lt q) e) (Nat.lt_irrefl _)
theorem HOk.kept (x:HOk P w H h) (k:∀b u,h.get? b=some u→h'.get? b=some u):HOk P w H h':=fun a o e=>
 (x a o e).stay (fun b u _ q=>k b u q) (fun _ q=>q) fun _ _ q=>q
theorem HOk.laid (x:HOk P w H h) (k:∀b u,h.get? b=some u→h'.get? b=some u) (hp:h.objs.size≤a) (new:ObjOk P w (upd H a o) h' a o):HOk P w (upd H a o) h':=fun b u e=>by
 have hn:=x.fresh hp
 by_cases hb:b=a
 ·subst hb;rw [upd_same] at e;cases e;exact new
 ·rw [upd_ne hb] at e
  exact (x b u e).stay (fun c v _ q=>k c v q) (fun c q=>by rw [upd_ne (ne_of_none q hn)];exact q) fun c xs q=>by rw [upd_ne (ne_of_none q hn)];exact q
end
def Rd (H:Hp) (a:Addr) (u:HO):Prop:=H a=some u∨∃o,H a=some (.frz o u)
theorem Rd.ok {P:Program} {w:World} {H:Hp} {h:Heap} {a:Addr} {u:HO} (r:Rd H a u) (x:HOk P w H h):ObjOk P w H h a u:=by
 rcases r with r|⟨o,r⟩
 ·exact x a u r
 ·obtain ⟨_,q⟩:=x a _ r
  exact q
def Mut:Option HO→Prop
 | some (.lst _)=>True
 | some (.dK _)=>True
 | some (.dT _)=>True
 | some (.set _ _)=>True
 | some (.ins _ _ _)=>True
 | some (.ext _)=>True
 | _=>False
section
variable {P:Program} {w:World} {H:Hp} {h h':Heap} {x e:Addr} {o':HO}
theorem HOk.write (ok:HOk P w H h) (mu:Mut (H x)) (he:e=x∨H e=some (.own x)) (k:∀b u,b≠e→h.get? b=some u→h'.get? b=some u) (heo:∃u,h'.get? e=some u)
  (new:ObjOk P w (upd H x o') h' x o'):HOk P w (upd H x o') h':=fun b u q=>by
 have nown:∀c y,H c=some (.own y)→c≠x:=fun c y r z=>by subst z;rw [r] at mu;exact mu
 have ntup:∀c xs,H c=some (.tup xs)→c≠x:=fun c xs r z=>by subst z;rw [r] at mu;exact mu
 by_cases hb:b=x
 ·subst hb;rw [upd_same] at q;cases q;exact new
 ·rw [upd_ne hb] at q
  by_cases hbe:b=e
  ·have q':H b=some (.own x):=by
    rcases he with z|z
    ·exact absurd (hbe.trans z) hb
    ·rw [hbe];exact z
   rw [q] at q';cases q'
   obtain ⟨v,hv⟩:=heo
   exact ⟨v,by rw [hbe];exact hv⟩
  ·refine (ok b u q).stay (fun c v hc r=>k c v ?_ r) (fun c r=>by rw [upd_ne (nown c b r)];exact r) fun c xs r=>by rw [upd_ne (ntup c xs r)];exact r
   rcases hc with rfl|hc
   ·exact hbe
   ·rintro rfl
    rcases he with z|z
    ·exact nown c b hc z
    ·rw [hc] at z;cases z;exact hb rfl
end
structure Un (fs ex:List Addr) (H H':Hp) (h h':Heap):Prop where
 keep:∀b o,h.get? b=some o→H b=none→b ∉ fs→b ∉ ex→h'.get? b=some o
 slot:∀b o,h.get? b=some o→H b=none→b∈fs→b ∉ ex→∃sl,h'.get? b=some { o with slots:=sl }
 free:∀b o,h.get? b=some o→H b=none→b ∉ ex→H' b=none
 there:∀b o,h.get? b=some o→b ∉ ex→∃o',h'.get? b=some o'
 tups:∀b xs,H b=some (.tup xs)→H' b=some (.tup xs)
 frzs:∀b o u,H b=some (.frz o u)→H' b=some (.frz o u)
 tbls:∀b ps,H b=some (.tbl ps)→∃more,H' b=some (.tbl (ps++more))
section
variable {fs fs' ex ex':List Addr} {H H1 H2:Hp} {h h1 h2 h':Heap} {a x e:Addr} {o:HO}
theorem Un.any (u:Un fs ex H H1 h h1) {b:Addr} {ob:Obj} (q:h.get? b=some ob) (n:H b=none) (hx:b ∉ ex):∃sl,h1.get? b=some { ob with slots:=sl }:=by
 by_cases hb:b∈fs
 ·exact u.slot b ob q n hb hx
 ·exact ⟨ob.slots,u.keep b ob q n hb hx⟩
theorem Un.kept (k:∀b u,h.get? b=some u→h'.get? b=some u):Un fs ex H H h h':=
 ⟨fun b ob q _ _ _=>k b ob q,fun b ob q _ _ _=>⟨ob.slots,k b ob q⟩,fun _ _ _ n _=>n,fun b ob q _=>⟨ob,k b ob q⟩,fun _ _ q=>q,fun _ _ _ q=>q,fun _ ps q=>⟨#[],by rw [q];simp⟩⟩
theorem Un.refl:Un fs ex H H h h:=Un.kept fun _ _ q=>q
theorem Un.laid (k:∀b u,h.get? b=some u→h'.get? b=some u) (hp:h.objs.size≤a) (hn:H a=none):Un fs ex H (upd H a o) h h' where
 keep:=fun b u q _ _ _=>k b u q
 slot:=fun b u q _ _ _=>⟨u.slots,k b u q⟩
 free:=fun b u q n _=>by rw [upd_ne (Nat.ne_of_lt (Nat.lt_of_lt_of_le (Heap.lt_size q) hp))];exact n
 there:=fun b u q _=>⟨u,k b u q⟩
 tups:=fun b xs q=>by rw [upd_ne (ne_of_none q hn)];exact q
 frzs:=fun b u xs q=>by rw [upd_ne (ne_of_none q hn)];exact q
 tbls:=fun b ps q=>⟨#[],by rw [upd_ne (ne_of_none q hn),q];simp⟩
theorem Un.write (mu:Mut (H x)) (he:e=x∨H e=some (.own x)) (k:∀b u,b≠e→h.get? b=some u→h'.get? b=some u) (heo:∃u,h'.get? e=some u):Un fs ex H (upd H x o) h h':=by
 have hx:∀b,H b=none→b≠x:=fun b n z=>by subst z;rw [n] at mu;exact mu
 have hb:∀b,H b=none→b≠e:=fun b n z=>by
  subst z
  rcases he with r|r
  ·exact hx b n r
  ·rw [n] at r;cases r
 have hm:∀b u,H b=some u→¬Mut (some u)→b≠x:=fun b u q nm z=>by subst z;rw [q] at mu;exact nm mu
 refine ⟨fun b u q n _ _=>k b u (hb b n) q,fun b u q n _ _=>⟨u.slots,k b u (hb b n) q⟩,fun b u q n _=>by rw [upd_ne (hx b n)];exact n,fun b u q _ => ?_,
  fun b xs q=>by rw [upd_ne (hm b _ q fun z=>z)];exact q,fun b u xs q=>by rw [upd_ne (hm b _ q fun z=>z)];exact q,fun b ps q=>⟨#[],by rw [upd_ne (hm b _ q fun z=>z),q];simp⟩⟩
 by_cases hbe:b=e
 ·subst hbe;exact heo
 ·exact ⟨u,k b u hbe q⟩
end
def trk (h:Heap) (H:Hp):List Addr:=(List.range h.objs.size).filter fun a=>(H a).isSome
def hidT (h:Heap) (H:Hp):Heap:=PySem.W.hideAll h (trk h H)
theorem hidT_size (h:Heap) (H:Hp):(hidT h H).objs.size=h.objs.size:=PySem.W.hideAll_size _ _
theorem hidT_get {h:Heap} {H:Hp} {b:Addr} {o:Obj} (e:h.get? b=some o) (n:H b=none):(hidT h H).get? b=some o:=
 PySem.W.hideAll_get _ e fun hm=>by
  have q:(H b).isSome=true:=(List.mem_filter.mp hm).2
  rw [n] at q;simp at q
theorem of_hidT {h:Heap} {H:Hp} {b:Addr} {o:Obj} (e:(hidT h H).get? b=some o):h.get? b=some o∧H b=none:=by
 have e':h.get? b=some o:=PySem.W.of_hideAll (trk h H) e
 refine ⟨e',?_⟩
 cases q:H b with
 | none=>rfl
 | some x=>
  have hm:b∈trk h H:=List.mem_filter.mpr ⟨List.mem_range.mpr (Heap.lt_size e'),by simp [q]⟩
  have z:(hidT h H).get? b=none:=PySem.W.hideAll_none (trk h H) hm
  rw [z] at e;cases e
end L2
namespace L2
open PySem PySem.Spec PyProof.Rows
structure Mod (K:PySem.W.Frag) (mg:Str→Option Value) (base:Heap):Prop where
 kin:K.In base
 glob:base.Ns mainGlobals mg
 blt:∃mb,base.Ns builtinsNs mb∧∀x:Str,x ≠ "__name__" → mb x=bootBuiltins x
 nolimit:base.NoLimit
structure Cx where
 prog:Program
 w:World
 K:PySem.W.Frag
 mg:Str→Option Value
 base:Heap
 A:Around
 N:List Str
 s₀:Shared
 H₀:Hp
 env:Env
 outer:List Env
 stack:List Env
 ex:List Addr
 fn:Str→Bool
 calm:Bool
 pn:List (Addr×Obj)
 xe:Value→Shared→Prop
def frs (l:List Env):List Addr:=l.filterMap (·.frame)
abbrev Cx.fs (X:Cx):List Addr:=frs X.outer
def Vis (sc:Scope) (x:Str):Prop:=sc.names.lookup x=some .local∨sc.names.lookup x=some .cell∨sc.names.lookup x=some .free
def Loc (sc:Scope) (x:Str):Prop:=sc.names.lookup x=some .local∨sc.names.lookup x=some .cell
def Look (env:Env) (h:Heap) (m:Str→Option Value) (x:Str) (u:Value):Prop:=
 (env.kindOf x=some .local∧m x=some u)∨((env.kindOf x=some .cell∨env.kindOf x=some .free)∧∃c,env.cells.lookup x=some c∧h.IsCell c (some u))
structure Cx.Ok (X:Cx):Prop where
 mod:Mod X.K X.mg X.base
 kind:X.env.scope.kind = .function
 glob:X.env.globals=mainGlobals
 blt:X.env.builtins=builtinsNs
 above:X.s₀.heap.objs.size≤X.env.locals
 inj:∀x y c,X.env.cells.lookup x=some c→X.env.cells.lookup y=some c→x=y
 has:∀x,(X.env.kindOf x=some .cell∨X.env.kindOf x=some .free)→∃c,X.env.cells.lookup x=some c
 cab:∀x c,X.fn x=true→X.env.cells.lookup x=some c→X.s₀.heap.objs.size≤c
 hd:X.calm=true→X.A.handled=none
 frames:X.A.frames=some X.stack
 stk:X.stack=X.outer∨(X.stack=X.env :: X.outer∧X.env.frame=some X.env.locals)
 exf:∀b∈X.ex,b≠X.env.locals∧∀x c,X.env.cells.lookup x=some c→c≠b
 bs:∀b o,X.base.get? b=some o→X.s₀.heap.get? b=some o∧X.H₀ b=none
 bsz:X.base.objs.size≤X.s₀.heap.objs.size
 noex:∀b o,X.base.get? b=some o→b ∉ X.ex
 exfs:∀b∈X.ex,b ∉ X.fs
 funs:X.s₀.heap.FunFrames X.base X.outer
 frf:∀b∈X.fs,X.H₀ b=none
structure Inv (X:Cx) (pins:List (Addr×Obj)) (σ:List (Option V)) (H:Hp) (s:Shared):Prop where
 ok:X.Ok
 os:s.os=X.s₀.os
 bare:AllBare s.gens
 base:Un X.fs X.ex X.H₀ H X.s₀.heap s.heap
 loc:∃m,s.heap.Ns X.env.locals m∧∀(i:Nat) (x:Str) (v:V),X.N[i]? = some x → σ[i]? = some (some v)→Vis X.env.scope x→∃u,RelV v u∧Look X.env s.heap m x u
 cell:∀x c,X.env.cells.lookup x=some c→∃v,s.heap.IsCell c v
 free:H X.env.locals=none
 freeC:∀x c,X.env.cells.lookup x=some c→H c=none
 pin:∀p∈X.pn++pins,s.heap.get? p.1=some p.2∧H p.1=none∧p.1≠X.env.locals∧p.1 ∉ X.fs∧∀v,p.2.data ≠ .cell v
 hok:HOk X.prog X.w H s.heap
 len : σ.length=X.N.length
section
variable {X:Cx} {pins:List (Addr×Obj)} {σ:List (Option V)} {H H':Hp} {s:Shared} {h':Heap}
theorem Cx.Ok.nofr (ok:X.Ok) {b:Addr} {o:Obj} (e:X.base.get? b=some o):b ∉ X.fs:=fun hb=>by
 have:=(ok.funs.mem hb).1
 rw [e] at this;cases this
theorem Inv.bs (I:Inv X pins σ H s):∀b o,X.base.get? b=some o→s.heap.get? b=some o∧H b=none:=fun b o e=>
 ⟨I.base.keep b o (I.ok.bs b o e).1 (I.ok.bs b o e).2 (I.ok.nofr e) (I.ok.noex b o e),I.base.free b o (I.ok.bs b o e).1 (I.ok.bs b o e).2 (I.ok.noex b o e)⟩
theorem Inv.bk (I:Inv X pins σ H s):∀b o,X.base.get? b=some o→s.heap.get? b=some o:=fun b o e=>(I.bs b o e).1
theorem Inv.mod (I:Inv X pins σ H s):Mod X.K X.mg X.base:=I.ok.mod
theorem Inv.kIn (I:Inv X pins σ H s):X.K.In s.heap:=I.ok.mod.kin.keeps I.bk
theorem Inv.lt (I:Inv X pins σ H s):X.env.locals<s.heap.objs.size:=let ⟨_,hn,_⟩:=I.loc;hn.lt
theorem Inv.sz (I:Inv X pins σ H s):X.s₀.heap.objs.size≤s.heap.objs.size:=Nat.le_trans I.ok.above (Nat.le_of_lt I.lt)
theorem Inv.nofs (I:Inv X pins σ H s) {a:Addr} (h:s.heap.objs.size≤a):a ∉ X.fs:=fun hb=>by
 obtain ⟨_,o,ho,_⟩:=I.ok.funs.mem hb
 exact absurd (Nat.lt_of_lt_of_le (Heap.lt_size ho) (Nat.le_trans I.sz h)) (Nat.lt_irrefl _)
theorem Inv.cne (I:Inv X pins σ H s):∀x c,X.env.cells.lookup x=some c→c≠X.env.locals:=fun x c e z=>by
 obtain ⟨v,o,ho,hd⟩:=I.cell x c e
 obtain ⟨m,⟨o',es,ep,ho',hd',_⟩,_⟩:=I.loc
 rw [z,ho'] at ho;cases ho;rw [hd'] at hd;cases hd
theorem Inv.funs (I:Inv X pins σ H s):s.heap.FunFrames X.base X.outer:=by
 have all:∀(l:List Env),(∀b∈frs l,b∈X.fs)→X.s₀.heap.FunFrames X.base l→s.heap.FunFrames X.base l:=by
  intro l
  induction l with
  | nil=>intro _ _;trivial
  | cons env r ih=>
   intro hs hl
   obtain ⟨hk,⟨L,o,hf,hn,ho,hd⟩,hr⟩:=hl
   have hL:L∈X.fs:=hs L (by unfold frs;rw [List.filterMap_cons,hf];exact List.mem_cons_self)
   obtain ⟨sl,e⟩:=I.base.slot L o ho (I.ok.frf L hL) hL fun z=>I.ok.exfs L z hL
   exact ⟨hk,⟨L,_,hf,hn,e,hd⟩,ih (fun b hb=>hs b (by unfold frs;rw [List.filterMap_cons,hf];exact List.mem_cons_of_mem _ hb)) hr⟩
 exact all X.outer (fun _ hb=>hb) I.ok.funs
theorem Inv.stack (I:Inv X pins σ H s):s.heap.FunFrames X.base X.stack:=by
 rcases I.ok.stk with e|⟨e,hf⟩
 ·rw [e];exact I.funs
 ·rw [e]
  obtain ⟨m,hn,_⟩:=I.loc
  refine .cons (by rw [I.ok.kind];decide) hf hn ?_ I.funs
  exact Heap.get?_none_of_le (Nat.le_trans I.ok.bsz I.ok.above)
theorem Inv.stkSub (I:Inv X pins σ H s):∀b∈frs X.stack,b∈X.env.locals :: X.fs:=fun b hb=>by
 rcases I.ok.stk with e|⟨e,hf⟩
 ·rw [e] at hb;exact List.mem_cons_of_mem _ hb
 ·rw [e] at hb
  unfold frs at hb
  rw [List.filterMap_cons,hf] at hb
  exact hb
theorem Inv.stkFree (I:Inv X pins σ H s):∀b∈frs X.stack,H b=none:=fun b hb=>by
 rcases List.mem_cons.mp (I.stkSub b hb) with e|hb
 ·rw [e];exact I.free
 ·obtain ⟨_,o,ho,_⟩:=I.ok.funs.mem hb
  exact I.base.free b o ho (I.ok.frf b hb) fun z=>I.ok.exfs b z hb
theorem Inv.step {g':Array GenState} {t':Nat} {d':Drawn} {ch:List Addr} (I:Inv X pins σ H s)
  (hch:∀b∈ch,(b∈X.ex∨X.s₀.heap.objs.size≤b)∧b≠X.env.locals∧(∀x c,X.env.cells.lookup x=some c→c≠b)∧∀p∈X.pn++pins,p.1≠b)
  (keep:∀b o,b≠X.env.locals→b ∉ X.fs→b ∉ ch→s.heap.get? b=some o→H b=none→h'.get? b=some o)
  (slot:∀b o,b≠X.env.locals→b∈X.fs→b ∉ ch→s.heap.get? b=some o→H b=none→∃sl,h'.get? b=some { o with slots:=sl }) (free:∀b o,b ∉ ch→s.heap.get? b=some o→H b=none→H' b=none)
  (there:∀b o,b ∉ ch→s.heap.get? b=some o→∃o',h'.get? b=some o')
  (tups:∀b xs,H b=some (.tup xs)→H' b=some (.tup xs)) (frzs:∀b o u,H b=some (.frz o u)→H' b=some (.frz o u)) (tbls:∀b ps,H b=some (.tbl ps)→∃more,H' b=some (.tbl (ps++more)))
  (ns:∀m,s.heap.Ns X.env.locals m→h'.Ns X.env.locals m) (hok:HOk X.prog X.w H' h') (hg:AllBare g') :
  Inv X pins σ H' { s with heap:=h',gens:=g',drawn:=d',toks:=t' }:=by
 have neL:∀b o,X.s₀.heap.get? b=some o→b≠X.env.locals:=fun b o e=>Nat.ne_of_lt (Nat.lt_of_lt_of_le (Heap.lt_size e) I.ok.above)
 have neC:∀b o,X.s₀.heap.get? b=some o→b ∉ X.ex→b ∉ ch:=fun b o e hx hb=>by
  rcases (hch b hb).1 with z|z
  ·exact hx z
  ·exact absurd (Nat.lt_of_lt_of_le (Heap.lt_size e) z) (Nat.lt_irrefl _)
 have cellK:∀x c,X.env.cells.lookup x=some c→∀v,s.heap.IsCell c v→h'.IsCell c v:=fun x c e v ⟨o,ho,hd⟩=>by
  have nch:c ∉ ch:=fun z=>(hch c z).2.2.1 x c e rfl
  by_cases hc:c∈X.fs
  ·obtain ⟨sl,q⟩:=slot c o (I.cne x c e) hc nch ho (I.freeC x c e)
   exact ⟨_,q,hd⟩
  ·exact ⟨o,keep c o (I.cne x c e) hc nch ho (I.freeC x c e),hd⟩
 refine ⟨I.ok,I.os,hg,⟨fun b o e n hb hx => ?_,fun b o e n hb hx => ?_,fun b o e n hx => ?_,fun b o e hx => ?_,fun b xs e=>tups b xs (I.base.tups b xs e),fun b o xs e=>frzs b o xs (I.base.frzs b o xs e),fun b ps e => ?_⟩,?_,fun x c e => ?_,?_,fun x c e => ?_,fun p hp => ?_,hok,I.len⟩
 ·exact keep b o (neL b o e) hb (neC b o e hx) (I.base.keep b o e n hb hx) (I.base.free b o e n hx)
 ·obtain ⟨sl,e1⟩:=I.base.slot b o e n hb hx
  obtain ⟨sl',e2⟩:=slot b _ (neL b o e) hb (neC b o e hx) e1 (I.base.free b o e n hx)
  exact ⟨sl',e2⟩
 ·obtain ⟨o',e1⟩:=I.base.there b o e hx
  exact free b o' (neC b o e hx) e1 (I.base.free b o e n hx)
 ·obtain ⟨o',e1⟩:=I.base.there b o e hx
  exact there b o' (neC b o e hx) e1
 ·obtain ⟨m1,e1⟩:=I.base.tbls b ps e
  obtain ⟨m2,e2⟩:=tbls b _ e1
  exact ⟨m1++m2,by rw [e2,Array.append_assoc]⟩
 ·obtain ⟨m,hn,hl⟩:=I.loc
  refine ⟨m,ns m hn,fun i x v e1 e2 e3 => ?_⟩
  obtain ⟨u,r,l⟩:=hl i x v e1 e2 e3
  refine ⟨u,r,?_⟩
  rcases l with l|⟨k,c,e,z⟩
  ·exact .inl l
  ·exact .inr ⟨k,c,e,cellK x c e _ z⟩
 ·obtain ⟨v,z⟩:=I.cell x c e
  exact ⟨v,cellK x c e v z⟩
 ·obtain ⟨m,⟨o,_,_,ho,_⟩,_⟩:=I.loc
  exact free _ o (fun z=>(hch _ z).2.1 rfl) ho I.free
 ·obtain ⟨v,o,ho,hd⟩:=I.cell x c e
  exact free c o (fun z=>(hch c z).2.2.1 x c e rfl) ho (I.freeC x c e)
 ·obtain ⟨e,n,ne,nf,d⟩:=I.pin p hp
  have nch:p.1 ∉ ch:=fun z=>(hch p.1 z).2.2.2 p hp rfl
  exact ⟨keep p.1 p.2 ne nf nch e n,free p.1 p.2 nch e n,ne,nf,d⟩
theorem Inv.un {t':Nat} (I:Inv X pins σ H s) (u:Un X.fs [] H H' s.heap h') (hok:HOk X.prog X.w H' h'):Inv X pins σ H' { s with heap:=h',toks:=t' }:=by
 obtain ⟨m,⟨o,es,ep,ho,r⟩,_⟩:=id I.loc
 obtain ⟨sl,hL⟩:=u.any ho I.free (by simp)
 exact I.step (g':=s.gens) (d':=s.drawn) (ch:=[]) (fun _ z=>nomatch z) (fun b o _ hb _ e n=>u.keep b o e n hb (by simp)) (fun b o _ hb _ e n=>u.slot b o e n hb (by simp)) (fun b o _ e n=>u.free b o e n (by simp)) (fun b o _ e=>u.there b o e (by simp)) u.tups u.frzs u.tbls (fun m' hm=>by
  obtain ⟨o',es',ep',ho',r'⟩:=hm
  rw [ho] at ho';cases ho'
  exact ⟨_,es',ep',hL,r'⟩) hok I.bare
theorem Inv.call {g':Array GenState} {t':Nat} {d':Drawn} {ch:List Addr} (I:Inv X pins σ H s) (u:Un (frs X.stack) ch H H' s.heap h') (hok:HOk X.prog X.w H' h') (hg:AllBare g')
  (hch:∀b∈ch,(b∈X.ex∨X.s₀.heap.objs.size≤b)∧b≠X.env.locals∧(∀x c,X.env.cells.lookup x=some c→c≠b)∧∀p∈X.pn++pins,p.1≠b) :
  Inv X pins σ H' { s with heap:=h',gens:=g',drawn:=d',toks:=t' }:=by
 obtain ⟨m,⟨o,es,ep,ho,r⟩,_⟩:=id I.loc
 obtain ⟨sl,hL⟩:=u.any ho I.free fun z=>(hch _ z).2.1 rfl
 exact I.step (ch:=ch) hch (fun b o hL hb hc e n=>u.keep b o e n (fun z=>(List.mem_cons.mp (I.stkSub b z)).elim hL hb) hc) (fun b o _ _ hc e n=>u.any e n hc) (fun b o hc e n=>u.free b o e n hc) (fun b o hc e=>u.there b o e hc) u.tups u.frzs u.tbls (fun m' hm=>by
  obtain ⟨o',es',ep',ho',r'⟩:=hm
  rw [ho] at ho';cases ho'
  exact ⟨_,es',ep',hL,r'⟩) hok hg
theorem Inv.turned {t':Nat} {it:Addr} (I:Inv X pins σ H s) (k:∀b o,b≠it→s.heap.get? b=some o→h'.get? b=some o) (hn:H it=none) (hL:it≠X.env.locals)
  (h1:it∈X.ex∨X.s₀.heap.objs.size≤it) (h2:∀x c,X.env.cells.lookup x=some c→c≠it) (h3:∀p∈X.pn++pins,p.1≠it):Inv X pins σ H { s with heap:=h',toks:=t' }:=by
 have nit:∀b u,H b=some u→b≠it:=fun b u e z=>by rw [z,hn] at e;cases e
 refine I.step (g':=s.gens) (d':=s.drawn) (ch:=[it]) (fun b hb => ?_) (fun b o _ _ hc e _=>k b o (fun z=>hc (by simp [z])) e) (fun b o _ _ hc e _=>⟨o.slots,k b o (fun z=>hc (by simp [z])) e⟩) (fun _ _ _ _ n=>n)
  (fun b o hc e=>⟨o,k b o (fun z=>hc (by simp [z])) e⟩) (fun _ _ e=>e) (fun _ _ _ e=>e) (fun b ps e=>⟨#[],by rw [e];simp⟩) (fun m hm => ?_) (fun b u e => ?_) I.bare
 ·have e:b=it:=by simpa using hb
  subst e
  exact ⟨h1,hL,h2,h3⟩
 ·obtain ⟨o,es,ep,ho,r⟩:=hm
  exact ⟨o,es,ep,k _ o (Ne.symm hL) ho,r⟩
 ·refine (I.hok b u e).stay (fun c v hc q=>k c v ?_ q) (fun _ q=>q) fun _ _ q=>q
  rcases hc with z|z
  ·rw [z];exact nit b u e
  ·exact nit c _ z
theorem Inv.tok (I:Inv X pins σ H s) (t:Nat):Inv X pins σ H { s with toks:=t }:=I.un (h':=s.heap) (t':=t) Un.refl I.hok
theorem Inv.kept {t':Nat} (I:Inv X pins σ H s) (k:∀b u,s.heap.get? b=some u→h'.get? b=some u):Inv X pins σ H { s with heap:=h',toks:=t' }:=I.un (Un.kept k) (I.hok.kept k)
theorem Inv.laid {a:Addr} {o:HO} {t':Nat} (I:Inv X pins σ H s) (k:∀b u,s.heap.get? b=some u→h'.get? b=some u) (hp:s.heap.objs.size≤a) (new:ObjOk X.prog X.w (upd H a o) h' a o) :
  Inv X pins σ (upd H a o) { s with heap:=h',toks:=t' }:=I.un (Un.laid k hp (I.hok.fresh hp)) (I.hok.laid k hp new)
theorem Inv.write {x e:Addr} {o:HO} {t':Nat} (I:Inv X pins σ H s) (mu:Mut (H x)) (he:e=x∨H e=some (.own x)) (k:∀b u,b≠e→s.heap.get? b=some u→h'.get? b=some u) (heo:∃u,h'.get? e=some u)
  (new:ObjOk X.prog X.w (upd H x o) h' x o):Inv X pins σ (upd H x o) { s with heap:=h',toks:=t' }:=I.un (Un.write mu he k heo) (I.hok.write mu he k heo new)
theorem Inv.weak {σ':List (Option V)} (I:Inv X pins σ H s) (hl : σ'.length = σ.length) (w:∀(i:Nat) v, σ'[i]? = some (some v) → σ[i]? = some (some v)):Inv X pins σ' H s:=
 ⟨I.ok,I.os,I.bare,I.base,let ⟨m,hn,hl'⟩:=I.loc; ⟨m,hn,fun i x v e1 e2 e3=>hl' i x v e1 (w i v e2) e3⟩,I.cell,I.free,I.freeC,I.pin,I.hok,hl.trans I.len⟩
theorem Inv.pins_of {pins':List (Addr×Obj)} (I:Inv X pins σ H s) (h:∀p∈pins',s.heap.get? p.1=some p.2∧H p.1=none∧p.1≠X.env.locals∧p.1 ∉ X.fs∧∀v,p.2.data ≠ .cell v):Inv X pins' σ H s:=
 ⟨I.ok,I.os,I.bare,I.base,I.loc,I.cell,I.free,I.freeC,fun p hp=>(List.mem_append.mp hp).elim (fun z=>I.pin p (List.mem_append_left _ z)) (h p),I.hok,I.len⟩
theorem nodup_ix {N:List Str} (hN:N.Nodup) {i j:Nat} {x:Str} (a:N[i]? = some x) (b:N[j]? = some x):i=j:=by
 obtain ⟨h1,e1⟩:=List.getElem?_eq_some_iff.mp a
 obtain ⟨h2,e2⟩:=List.getElem?_eq_some_iff.mp b
 exact (List.getElem_inj hN).mp (e1.trans e2.symm)
theorem store_ok2 {M:Model} {A:Around} {E:Value→Shared→Prop} {i:Nat} {x:Str} {v:V} {u:Value} {Q:Unit→Shared→Prop} (I:Inv X pins σ H s) (hN:X.N.Nodup) (hi:X.N[i]? = some x) (hx:Loc X.env.scope x) (r:RelV v u)
  (h:∀s',Inv X pins (σ.set i (some v)) H s'→(∃a,Heap.SameBut a s.heap s'.heap∧(a=X.env.locals∨X.env.cells.lookup x=some a))→Q () s') (hf:X.fn x=true∨X.env.scope.names.lookup x=some .local:=by first|exact .inl rfl|exact .inr rfl|assumption):wpAny M A (storeName X.env x u) Q E s:=by
 obtain ⟨m,hn,hl⟩:=id I.loc
 have hcls:(X.env.scope.kind == .class||(X.env.scope.kind == .module&&X.env.locals != X.env.globals))=false:=by rw [I.ok.kind];rfl
 have hiσ:i < σ.length:=by rw [I.len];exact (List.getElem?_eq_some_iff.mp hi).1
 have cne:=I.cne
 have tracked:∀{a:Addr} {h':Heap},(∃o,s.heap.get? a=some o∧H a=none)→Heap.SameBut a s.heap h'→HOk X.prog X.w H h':=fun {a h'} ha hs b ob e=>by
  obtain ⟨_,_,hfree⟩:=ha
  refine (I.hok b ob e).stay (fun c w' hc q=>(hs.2 c ?_).trans q) (fun _ q=>q) fun _ _ q=>q
  rintro rfl
  rcases hc with rfl|hc
  ·rw [hfree] at e;cases e
  ·rw [hfree] at hc;cases hc
 rcases hx with hk|hk
 ·refine wpAny_storeName_local hk hn (fun h' hn' hs => ?_) hcls
  obtain ⟨oL,_,_,hoL,_⟩:=id hn
  refine h _ ⟨I.ok,I.os,I.bare,⟨fun b o e n hb hx => ?_,fun b o e n hb hx => ?_,I.base.free,fun b o e hx => ?_,I.base.tups,I.base.frzs,I.base.tbls⟩,⟨_,hn',fun j y v' e1 e2 e3 => ?_⟩,fun y c e => ?_,I.free,I.freeC,fun p hp => ?_,tracked ⟨oL,hoL,I.free⟩ hs,by simpa using I.len⟩ ⟨_,hs, .inl rfl⟩
  ·exact (hs.2 b (Nat.ne_of_lt (Nat.lt_of_lt_of_le (Heap.lt_size e) I.ok.above))).trans (I.base.keep b o e n hb hx)
  ·obtain ⟨sl,e1⟩:=I.base.slot b o e n hb hx
   exact ⟨sl,(hs.2 b (Nat.ne_of_lt (Nat.lt_of_lt_of_le (Heap.lt_size e) I.ok.above))).trans e1⟩
  ·obtain ⟨o',e1⟩:=I.base.there b o e hx
   exact ⟨o',(hs.2 b (Nat.ne_of_lt (Nat.lt_of_lt_of_le (Heap.lt_size e) I.ok.above))).trans e1⟩
  ·by_cases hj:j=i
   ·subst hj
    rw [hi] at e1;cases e1
    rw [List.getElem?_set_self hiσ] at e2
    cases e2
    exact ⟨u,r, .inl ⟨hk,by simp⟩⟩
   ·rw [List.getElem?_set_ne (Ne.symm hj)] at e2
    obtain ⟨u',r',q⟩:=hl j y v' e1 e2 e3
    refine ⟨u',r',?_⟩
    rcases q with ⟨k,e⟩|⟨k,c,e,z⟩
    ·refine .inl ⟨k,?_⟩
     have:y≠x:=fun e=>hj (nodup_ix hN e1 (e ▸ hi))
     simp [this,e]
    ·exact .inr ⟨k,c,e,z.sameBut hs (cne y c e)⟩
  ·obtain ⟨w',z⟩:=I.cell y c e
   exact ⟨w',z.sameBut hs (cne y c e)⟩
  ·obtain ⟨e,n,ne,nf,d⟩:=I.pin p hp
   exact ⟨(hs.2 p.1 ne).trans e,n,ne,nf,d⟩
 ·have hfn:X.fn x=true:=by
   rcases hf with z|z
   ·exact z
   ·rw [z] at hk;cases hk
  obtain ⟨c,hc⟩:=I.ok.has x (.inl hk)
  obtain ⟨w',z⟩:=I.cell x c hc
  refine wpAny_storeName_cell I.ok.kind hk hc z (fun h' hc' hs => ?_)
  obtain ⟨oc,hoc,hocd⟩:=id z
  refine h { s with heap:=h' } ⟨I.ok,I.os,I.bare,⟨fun b o e n hb hx => ?_,fun b o e n hb hx => ?_,I.base.free,fun b o e hx => ?_,I.base.tups,I.base.frzs,I.base.tbls⟩,⟨m,hn.sameBut hs (Ne.symm (cne x c hc)),fun j y v' e1 e2 e3 => ?_⟩,fun y c' e => ?_,I.free,I.freeC,fun p hp => ?_,tracked ⟨oc,hoc,I.freeC x c hc⟩ hs,by simpa using I.len⟩ ⟨c,hs, .inr hc⟩
  ·exact (hs.2 b (Nat.ne_of_lt (Nat.lt_of_lt_of_le (Heap.lt_size e) (I.ok.cab x c hfn hc)))).trans (I.base.keep b o e n hb hx)
  ·obtain ⟨sl,e1⟩:=I.base.slot b o e n hb hx
   exact ⟨sl,(hs.2 b (Nat.ne_of_lt (Nat.lt_of_lt_of_le (Heap.lt_size e) (I.ok.cab x c hfn hc)))).trans e1⟩
  ·obtain ⟨o',e1⟩:=I.base.there b o e hx
   exact ⟨o',(hs.2 b (Nat.ne_of_lt (Nat.lt_of_lt_of_le (Heap.lt_size e) (I.ok.cab x c hfn hc)))).trans e1⟩
  ·by_cases hj:j=i
   ·subst hj
    rw [hi] at e1;cases e1
    rw [List.getElem?_set_self hiσ] at e2
    cases e2
    exact ⟨u,r, .inr ⟨.inl hk,c,hc,hc'⟩⟩
   ·rw [List.getElem?_set_ne (Ne.symm hj)] at e2
    obtain ⟨u',r',q⟩:=hl j y v' e1 e2 e3
    refine ⟨u',r',?_⟩
    rcases q with q|⟨k,c',e,z'⟩
    ·exact .inl q
    ·refine .inr ⟨k,c',e,z'.sameBut hs ?_⟩
     rintro rfl
     exact hj (nodup_ix hN e1 (I.ok.inj _ _ _ e hc ▸ hi))
  ·by_cases hcc:c'=c
   ·subst hcc;exact ⟨_,hc'⟩
   ·obtain ⟨w2,z2⟩:=I.cell y c' e
    exact ⟨w2,z2.sameBut hs hcc⟩
  ·obtain ⟨e,n,ne,nf,d⟩:=I.pin p hp
   refine ⟨(hs.2 p.1 ?_).trans e,n,ne,nf,d⟩
   intro q
   rw [q,hoc] at e
   have q':oc=p.2:=Option.some.inj e
   exact d w' (by rw [←q'];exact hocd)
theorem store_ok {M:Model} {A:Around} {E:Value→Shared→Prop} {i:Nat} {x:Str} {v:V} {u:Value} {Q:Unit→Shared→Prop} (I:Inv X pins σ H s) (hN:X.N.Nodup) (hi:X.N[i]? = some x) (hx:Loc X.env.scope x) (r:RelV v u)
  (h:∀s',Inv X pins (σ.set i (some v)) H s'→Q () s') (hf:X.fn x=true∨X.env.scope.names.lookup x=some .local:=by first|exact .inl rfl|exact .inr rfl|assumption):wpAny M A (storeName X.env x u) Q E s:=
 store_ok2 I hN hi hx r (fun s' I' _=>h s' I') hf
theorem Inv.call' {s':Shared} {ch:List Addr} (I:Inv X pins σ H s) (ho:s'.os=s.os) (u:Un (frs X.stack) ch H H' s.heap s'.heap) (hok:HOk X.prog X.w H' s'.heap) (hg:AllBare s'.gens)
  (hch:∀b∈ch,(b∈X.ex∨X.s₀.heap.objs.size≤b)∧b≠X.env.locals∧(∀x c,X.env.cells.lookup x=some c→c≠b)∧∀p∈X.pn++pins,p.1≠b):Inv X pins σ H' s':=by
 obtain ⟨h',g',d',t',o'⟩:=s'
 have e:o'=s.os:=ho
 subst e
 exact I.call (g':=g') (t':=t') (d':=d') u hok hg hch
end
abbrev XK:=Value→Option Addr→Hp→Prop
abbrev St:=List (Option V)
abbrev VK:=V→Hp→Prop
abbrev TE:=St→Hp→VK→Prop
abbrev TT:=St→Hp→(Bool→Hp→Prop)→Prop
abbrev TA:=St→Hp→(List V→Hp→Prop)→Prop
structure Ends where
 nx:St→Hp→Prop
 rt:VK
 bk:St→Hp→Prop:=fun _ _=>False
 ct:St→Hp→Prop:=fun _ _=>False
abbrev TS:=Ends→St→Hp→Prop
def EP (X:Cx) (pins:List (Addr×Obj)) (σ:St) (Q:VK) (u:Value) (s':Shared):Prop:=Ex2 fun v H'=>Inv X pins σ H' s'∧RelV v u∧Q v H'
def TP (X:Cx) (pins:List (Addr×Obj)) (σ:St) (Q:Bool→Hp→Prop) (b:Bool) (s':Shared):Prop:=∃H',Inv X pins σ H' s'∧Q b H'
def AP (X:Cx) (pins:List (Addr×Obj)) (σ:St) (Q:List V→Hp→Prop) (us:List Value) (s':Shared):Prop:=Ex2 fun vs H'=>Inv X pins σ H' s'∧Vals vs us∧Q vs H'
def SP (X:Cx) (pins:List (Addr×Obj)) (D:Ends) (f:Flow) (s':Shared):Prop:=
 match f with
 | .next=>Ex2 fun σ' H'=>Inv X pins σ' H' s'∧D.nx σ' H'
 | .brk=>Ex2 fun σ' H'=>Inv X pins σ' H' s'∧D.bk σ' H'
 | .cont=>Ex2 fun σ' H'=>Inv X pins σ' H' s'∧D.ct σ' H'
 | .ret u=>Ex3 fun v σ' H'=>Inv X pins σ' H' s'∧RelV v u∧D.rt v H'
def PE (X:Cx) (e:Expr) (t:TE):Prop:=
 ∀ ⦃pins:List (Addr×Obj)⦄ (s:Shared) (σ:St) (H:Hp) (Q:VK),Inv X pins σ H s→t σ H Q→wpAny (model X.prog X.w) X.A (eval e X.env) (EP X pins σ Q) X.xe s
def PT (X:Cx) (e:Expr) (t:TT):Prop:=
 ∀ ⦃pins:List (Addr×Obj)⦄ (s:Shared) (σ:St) (H:Hp) (Q:Bool→Hp→Prop),Inv X pins σ H s→t σ H Q→wpAny (model X.prog X.w) X.A (isTrue e X.env (eval e X.env)) (TP X pins σ Q) X.xe s
def PW (X:Cx) (e:Expr) (t:TT):Prop:=
 ∀ ⦃whole:Sem Value⦄ ⦃pins:List (Addr×Obj)⦄ (s:Shared) (σ:St) (H:Hp) (Q:Bool→Hp→Prop),Inv X pins σ H s→t σ H Q→wpAny (model X.prog X.w) X.A (isTrue e X.env whole) (TP X pins σ Q) X.xe s
theorem PW.pt {X:Cx} {e:Expr} {t:TT} (h:PW X e t):PT X e t:=fun pins s σ H Q I q=>h s σ H Q I q
def PA (X:Cx) (es:List Expr) (t:TA):Prop:=
 ∀ ⦃pos:Pos⦄ ⦃pins:List (Addr×Obj)⦄ (s:Shared) (σ:St) (H:Hp) (Q:List V→Hp→Prop),Inv X pins σ H s→t σ H Q→wpAny (model X.prog X.w) X.A (spliced (backTo pos (starEach es X.env))) (AP X pins σ Q) X.xe s
def PS (X:Cx) (st:Stmt) (t:TS):Prop:=
 ∀ ⦃pins:List (Addr×Obj)⦄ (s:Shared) (σ:St) (H:Hp) (D:Ends),Inv X pins σ H s→t D σ H→wpAny (model X.prog X.w) X.A (exec st X.env) (SP X pins D) X.xe s
def PSs (X:Cx) (st:List Stmt) (t:TS):Prop:=
 ∀ ⦃pins:List (Addr×Obj)⦄ (s:Shared) (σ:St) (H:Hp) (D:Ends),Inv X pins σ H s→t D σ H→wpAny (model X.prog X.w) X.A (execs st X.env) (SP X pins D) X.xe s
theorem thn {α:Type} {t:Sem α} {Q Q' : α→Shared→Prop} {M:Model} {A:Around} {E:Value→Shared→Prop} {s:Shared} (h:wpAny M A t Q E s) (hQ:∀a s,Q a s→Q' a s):wpAny M A t Q' E s:=wpAny_mono h hQ fun _ _ x=>x
end L2
namespace L2
open PySem PySem.Spec PyProof.Rows
section
variable {X:Cx}
def tVar (i:Nat):TE:=fun σ H Q=>∃v, σ[i]? = some (some v)∧Q v H
def tC (v:V):TE:=fun _ H Q=>Q v H
theorem pe_var {i:Nat} {x:Str} {pos:Pos} (hN:X.N[i]? = some x) (hv:Vis X.env.scope x) (hd:(x == ("__debug__" : Str))=false:=by decide) (hcd:(x == ("__classdict__" : Str))=false:=by decide):PE X (.Name x pos) (tVar i):=by
 intro pins s σ H Q I h
 obtain ⟨v,e,h⟩:=h
 obtain ⟨m,hn,hl⟩:=I.loc
 obtain ⟨u,r,l⟩:=hl i x v hN e hv
 have fin:EP X pins σ Q u s:=⟨v,H,I,r,h⟩
 rcases l with ⟨hk,hm⟩|⟨hk,c,hc,hcell⟩
 ·exact wpAny_Name (wpAny_loadName_local I.ok.kind hk hn hm fin) hd
 ·rcases hk with hk|hk
  ·exact wpAny_Name (wpAny_loadName_cell I.ok.kind hk hc hcell fin) hd
  ·exact wpAny_Name (wpAny_loadName_free I.ok.kind hk hc hcell fin hcd) hd
theorem pe_int {i j pos} : PE X (.Constant (.int i) j pos) (tC (.int i)):=fun _ _ _ H _ I h=>wpAny_Constant_int ⟨.int i,H,I.tok _,⟨_,rfl⟩,h⟩
theorem pe_bl {b j pos} : PE X (.Constant (.bool b) j pos) (tC (.bl b)):=fun _ _ _ H _ I h=>Constant_bool ⟨.bl b,H,I,rfl,h⟩
theorem pe_non {j pos} : PE X (.Constant .none j pos) (tC .non):=fun _ _ _ H _ I h=>Constant_none ⟨.non,H,I,rfl,h⟩
theorem pe_str {x j pos} : PE X (.Constant (.str x) j pos) (tC (.str x)):=fun _ _ _ H _ I h=>Calls.Constant_str ⟨.str x,H,I.tok _,⟨_,rfl⟩,h⟩
def Gl (X:Cx) (x:Str):Prop:=X.env.kindOf x=some .globalImplicit
theorem ld_glob {E:Value→Shared→Prop} {pins:List (Addr×Obj)} {s:Shared} {σ:St} {H:Hp} {x:Str} {u:Value} {pos:Pos} {Q:Value→Shared→Prop} (I:Inv X pins σ H s) (hg:Gl X x) (hm:X.mg x=some u) (h:Q u s)
  (hd:(x == ("__debug__" : Str))=false:=by decide):wpAny (model X.prog X.w) X.A (eval (.Name x pos) X.env) Q E s:=
 Calls.Name_function_global I.ok.kind hg (Calls.loadGlobal_global (by rw [I.ok.glob];exact I.mod.glob.keeps I.bk) hm h) hd
theorem ld_blt {E:Value→Shared→Prop} {pins:List (Addr×Obj)} {s:Shared} {σ:St} {H:Hp} {x:Str} {u:Value} {pos:Pos} {Q:Value→Shared→Prop} (I:Inv X pins σ H s) (hg:Gl X x) (hm:X.mg x=none) (hv:bootBuiltins x=some u) (h:Q u s)
  (hn:x ≠ "__name__":=by decide) (hd:(x == ("__debug__" : Str))=false:=by decide):wpAny (model X.prog X.w) X.A (eval (.Name x pos) X.env) Q E s:=by
 obtain ⟨mb,h1,h2⟩:=I.mod.blt
 exact Calls.Name_function_global I.ok.kind hg (Calls.loadGlobal_builtin (by rw [I.ok.glob];exact I.mod.glob.keeps I.bk) hm (by rw [I.ok.blt];exact h1.keeps I.bk) ((h2 x hn).trans hv) h) hd
theorem pe_glob {x:Str} {v:V} {u:Value} {pos:Pos} (hg:Gl X x) (hm:X.mg x=some u) (r:RelV v u) (hd:(x == ("__debug__" : Str))=false:=by decide):PE X (.Name x pos) (tC v):=
 fun _ _ _ H _ I h=>ld_glob I hg hm ⟨v,H,I,r,h⟩ hd
theorem pe_bltn {x:Str} {v:V} {u:Value} {pos:Pos} (hg:Gl X x) (hm:X.mg x=none) (hv:bootBuiltins x=some u) (r:RelV v u) (hn:x ≠ "__name__":=by decide) (hd:(x == ("__debug__" : Str))=false:=by decide):PE X (.Name x pos) (tC v):=
 fun _ _ _ H _ I h=>ld_blt I hg hm hv ⟨v,H,I,r,h⟩ hn hd
variable {a b:Expr} {ta tb:TE} {pos:Pos}
def tB (t:TE):TT:=fun σ H Q=>t σ H fun x H1=>∃c,x = .bl c∧Q c H1
theorem pt_val {e:Expr} {t:TE} (h:PE X e t) (he:∀whole,isTrue e X.env whole=(do let v ←whole;standAt e.pos;holding [v] (truthy v)):=by intro _;rfl):PT X e (tB t):=by
 intro pins s σ H Q I hw
 refine isTrue_plain (thn (h s σ H _ I hw) fun v s1 ⟨x,H1,I1,r1,q1⟩ => ?_) (he _)
 obtain ⟨d,rfl,q⟩:=q1
 cases r1
 exact wpAny_truthy_bool ⟨H1,I1,q⟩
variable {tA tB':TT} {rest:List Expr}
def tOr (t u:TT):TT:=fun σ H Q=>t σ H fun c H1=>if c=true then Q true H1 else u σ H1 Q
def tNot (t:TT):TT:=fun σ H Q=>t σ H fun c H1=>Q (!c) H1
theorem pw_or1 (ha:PT X a tA):PW X (.BoolOp .Or [a] pos) tA:=by
 intro wh pins s σ H Q I h
 refine isTrue_or (thn (ha s σ H Q I h) fun c s1 e => ?_)
 cases c with
 | false=>exact isTrue_or_nil e
 | true=>exact e
theorem pw_or (ha:PT X a tA) (hb:PW X (.BoolOp .Or (b :: rest) pos) tB'):PW X (.BoolOp .Or (a :: b :: rest) pos) (tOr tA tB'):=by
 intro wh pins s σ H Q I h
 refine isTrue_or (thn (ha s σ H _ I h) fun c s1 ⟨H1,I1,q1⟩ => ?_)
 cases c with
 | true=>exact ⟨H1,I1,q1⟩
 | false=>exact hb s1 σ H1 Q I1 q1
theorem pt_not (ha:PT X a tA):PT X (.UnaryOp .Not a pos) (tNot tA):=by
 intro pins s σ H Q I h
 exact isTrue_not (ha s σ H (fun c H1=>Q (!c) H1) I h)
def tAndV (ta tb:TE):TE:=fun σ H Q=>ta σ H fun x H1=>∃c,x = .bl c∧if c=true then tb σ H1 Q else Q (.bl false) H1
def tNotV (ta:TE):TE:=fun σ H Q=>ta σ H fun x H1=>∃c,x = .bl c∧Q (.bl (!c)) H1
theorem pe_one {op} {t:TE} (h:PE X a t):PE X (.BoolOp op [a] pos) t:=fun pins s σ H Q I hw=>BoolOp_one (h s σ H Q I hw)
theorem pe_and (ha:PE X a ta) (hb:PE X (.BoolOp .And (b :: rest) pos) tb):PE X (.BoolOp .And (a :: b :: rest) pos) (tAndV ta tb):=by
 intro pins s σ H Q I h
 refine BoolOp_and (thn (ha s σ H _ I h) fun v s1 ⟨x,H1,I1,r1,q1⟩ => ?_)
 obtain ⟨c,rfl,q1⟩:=q1
 cases r1
 refine wpAny_truthy_bool ?_
 cases c with
 | true=>exact hb s1 σ H1 Q I1 q1
 | false=>exact ⟨.bl false,H1,I1,rfl,q1⟩
theorem pe_not (ha:PE X a ta):PE X (.UnaryOp .Not a pos) (tNotV ta):=by
 intro pins s σ H Q I h
 refine UnaryOp_ (thn (ha s σ H _ I h) fun v s1 ⟨x,H1,I1,r1,q1⟩ => ?_)
 obtain ⟨c,rfl,q1⟩:=q1
 cases r1
 exact not_of (wpAny_truthy_bool ⟨.bl (!c),H1,I1,rfl,q1⟩)
def tIf (t:TT) (ta tb:TE):TE:=fun σ H Q=>t σ H fun c H1=>if c=true then ta σ H1 Q else tb σ H1 Q
theorem pe_ifExp {c:Expr} (hc:PT X c tA) (ha:PE X a ta) (hb:PE X b tb):PE X (.IfExp c a b pos) (tIf tA ta tb):=by
 intro pins s σ H Q I h
 refine wpAny_IfExp (thn (hc s σ H _ I h) fun d s1 ⟨H1,I1,q1⟩ => ?_)
 cases d with
 | true=>exact ha s1 σ H1 Q I1 q1
 | false=>exact hb s1 σ H1 Q I1 q1
end
end L2
namespace L2
open PySem PySem.Spec PyProof.Rows
def SqL (K:PySem.W.Frag) (H:Hp) (a:Addr) (xs:List V):Prop:=
 Rd H a (.lst xs) ∨
  Ex3 fun (o:Obj) (its:Array Value) (n:Nat)=>K.lookup a=some o∧o.cls = .type "list" ∧ o.dict=none∧o.data = .seq its n∧its.size≤sizeLine∧Vals xs its.toList
def SqT (K:PySem.W.Frag) (H:Hp) (a:Addr) (xs:List V):Prop:=
 Rd H a (.tup xs) ∨
  Ex3 fun (o:Obj) (its:Array Value) (n:Nat)=>K.lookup a=some o∧o.cls = .type "tuple" ∧ o.data = .seq its n∧its.size≤sizeLine∧Vals xs its.toList
def absV:Value→Option V
 | .none=>some .non
 | .bool b=>some (.bl b)
 | .int i _=>some (.int i)
 | .str x _=>some (.str x)
 | .bytes b _=>some (.byt b)
 | .float b _=>some (.flt b)
 | .ref a=>some (.ref a)
 | .type n=>some (.ty n)
 | _=>none
theorem RelV.abs {x:V} {u:Value} (r:RelV x u):absV u=some x:=by
 cases x with
 | non=>cases r;rfl
 | bl _=>cases r;rfl
 | int _=>obtain ⟨t,rfl⟩:=r;rfl
 | str _=>obtain ⟨t,rfl⟩:=r;rfl
 | byt _=>obtain ⟨t,rfl⟩:=r;rfl
 | flt _=>obtain ⟨t,rfl⟩:=r;rfl
 | ref _=>cases r;rfl
 | ty _=>cases r;rfl
theorem RelV.inj {x y:V} {u:Value} (r:RelV x u) (q:RelV y u):x=y:=Option.some.inj (r.abs.symm.trans q.abs)
theorem Vals.inj {xs ys:List V} {us:List Value} (h:Vals xs us) (h':Vals ys us):xs=ys:=by
 induction h generalizing ys with
 | nil=>cases h';rfl
 | cons r t ih=>cases h' with|cons r' t'=>rw [RelV.inj r r',ih t']
section
variable {X:Cx} {pins:List (Addr×Obj)} {σ:St} {H:Hp} {s:Shared} {a:Addr} {xs ys:List V}
theorem SqL.of {K:PySem.W.Frag} (h:H a=some (.lst xs)):SqL K H a xs := .inl (.inl h)
theorem SqT.of {K:PySem.W.Frag} (h:H a=some (.tup xs)):SqT K H a xs := .inl (.inl h)
theorem Inv.list (I:Inv X pins σ H s) (h:SqL X.K H a xs):∃its:List Value,Vals xs its∧PlainL s.heap a its.toArray∧xs.length≤sizeLine:=by
 rcases h with h|⟨o,its,n,hk,hc,hd,hs,hz,r⟩
 ·obtain ⟨z,its,n,r,e⟩:=h.ok I.hok
  exact ⟨its,r,⟨_,n,e,rfl,rfl,rfl⟩,z⟩
 ·refine ⟨its.toList,r,⟨o,n,I.kIn a o hk,hc,hd,by simpa using hs⟩,?_⟩
  have e:=r.length
  simp only [Array.length_toList] at e
  (first|lia|omega)
theorem Inv.tuple (I:Inv X pins σ H s) (h:SqT X.K H a xs):∃its:List Value,Vals xs its∧IsTup s.heap a its.toArray∧xs.length≤sizeLine:=by
 rcases h with h|⟨o,its,n,hk,hc,hs,hz,r⟩
 ·obtain ⟨z,its,r,p⟩:=h.ok I.hok
  exact ⟨its,r,p,z⟩
 ·refine ⟨its.toList,r,⟨o,I.kIn a o hk,hc,n,by simpa using hs⟩,?_⟩
  have e:=r.length
  simp only [Array.length_toList] at e
  (first|lia|omega)
theorem Inv.list_inj (I:Inv X pins σ H s) (h:SqL X.K H a xs) (h':SqL X.K H a ys):xs=ys:=by
 obtain ⟨its,r,⟨o,n,e,_,_,d⟩,_⟩:=I.list h
 obtain ⟨its',r',⟨o',n',e',_,_,d'⟩,_⟩:=I.list h'
 rw [e] at e';cases e'
 rw [d] at d'
 injection d' with d1 _
 have:its=its':=by simpa using congrArg Array.toList d1
 subst this
 exact r.inj r'
theorem Inv.tuple_inj (I:Inv X pins σ H s) (h:SqT X.K H a xs) (h':SqT X.K H a ys):xs=ys:=by
 obtain ⟨its,r,⟨o,e,_,n,d⟩,_⟩:=I.tuple h
 obtain ⟨its',r',⟨o',e',_,n',d'⟩,_⟩:=I.tuple h'
 rw [e] at e';cases e'
 rw [d] at d'
 injection d' with d1 _
 have:its=its':=by simpa using congrArg Array.toList d1
 subst this
 exact r.inj r'
end
abbrev Cx.wish (X:Cx) (E:Value→Shared→Prop):Cx:={ X with xe:=E }
abbrev Cx.nox (X:Cx):Cx:=X.wish fun _ _=>False
theorem Cx.Ok.wish {X:Cx} (ok:X.Ok) (E:Value→Shared→Prop):(X.wish E).Ok:=
 ⟨ok.mod,ok.kind,ok.glob,ok.blt,ok.above,ok.inj,ok.has,ok.cab,ok.hd,ok.frames,ok.stk,ok.exf,ok.bs,ok.bsz,ok.noex,ok.exfs,ok.funs,ok.frf⟩
theorem Cx.Ok.unwish {X:Cx} {E:Value→Shared→Prop} (ok:(X.wish E).Ok):X.Ok:=
 ⟨ok.mod,ok.kind,ok.glob,ok.blt,ok.above,ok.inj,ok.has,ok.cab,ok.hd,ok.frames,ok.stk,ok.exf,ok.bs,ok.bsz,ok.noex,ok.exfs,ok.funs,ok.frf⟩
section
variable {X:Cx} {pins:List (Addr×Obj)} {σ:St} {H:Hp} {s:Shared} {E:Value→Shared→Prop}
theorem Inv.wish (I:Inv X pins σ H s) (E:Value→Shared→Prop):Inv (X.wish E) pins σ H s:=⟨I.ok.wish E,I.os,I.bare,I.base,I.loc,I.cell,I.free,I.freeC,I.pin,I.hok,I.len⟩
theorem Inv.unwish (I:Inv (X.wish E) pins σ H s):Inv X pins σ H s:=⟨I.ok.unwish,I.os,I.bare,I.base,I.loc,I.cell,I.free,I.freeC,I.pin,I.hok,I.len⟩
theorem SP.unwish {D:Ends} {f:Flow} {s':Shared} (h:SP (X.wish E) pins D f s'):SP X pins D f s':=by
 cases f with
 | next=>obtain ⟨σ',H',I,q⟩:=h;exact ⟨σ',H',I.unwish,q⟩
 | brk=>obtain ⟨σ',H',I,q⟩:=h;exact ⟨σ',H',I.unwish,q⟩
 | cont=>obtain ⟨σ',H',I,q⟩:=h;exact ⟨σ',H',I.unwish,q⟩
 | ret u=>obtain ⟨v, σ',H',I,r,q⟩:=h;exact ⟨v, σ',H',I.unwish,r,q⟩
theorem PSs.nox {st:List Stmt} {t:TS} (h:PSs X.nox st t):PSs X st t:=fun pins s σ H D I hw=>
 wpAny_mono (h s σ H D (I.wish _) hw) (fun _ _ q=>q.unwish) fun _ _ z=>False.elim z
end
section
variable {X:Cx} {st:Stmt} {rest:List Stmt} {t u:TS} {e:Expr} {te:TE} {pos:Pos}
def tNext:TS:=fun D σ H=>D.nx σ H
def tSeq (t u:TS):TS:=fun D σ H=>t { D with nx:=u D } σ H
theorem pss_nil:PSs X [] tNext:=fun _ _ σ H _ I h=>wpAny_execs_nil ⟨σ,H,I,h⟩
theorem pss_cons (h1:PS X st t) (h2:PSs X rest u):PSs X (st :: rest) (tSeq t u):=by
 intro pins s σ H D I h
 refine wpAny_execs_cons (thn (h1 s σ H { D with nx:=u D } I h) fun f s1 q => ?_)
 cases f with
 | next=>
  obtain ⟨σ',H',I',q⟩:=q
  exact h2 s1 σ' H' D I' q
 | ret v=>exact q
 | brk=>exact q
 | cont=>exact q
theorem pss_one (h1:PS X st t):PSs X [st] t:=by
 intro pins s σ H D I h
 refine wpAny_execs_cons (thn (h1 s σ H D I h) fun f s1 q => ?_)
 cases f with
 | next=>exact wpAny_execs_nil q
 | ret v=>exact q
 | brk=>exact q
 | cont=>exact q
theorem Inv.quiet {pins:List (Addr×Obj)} {σ:St} {H:Hp} {s:Shared} (I:Inv X pins σ H s):interactive X.env=false:=by simp [interactive,I.ok.kind]
def tDrop (te:TE):TS:=fun D σ H=>te σ H fun _ H1=>D.nx σ H1
theorem ps_expr (he:PE X e te) (hs:swapsWith e none pos.line X.env=pure false:=by rfl):PS X (.Expr e pos) (tDrop te):=by
 intro pins s σ H D I h
 exact wpAny_Expr_any (thn (he s σ H _ I h) fun v s1 ⟨x,H1,I1,r1,q1⟩=>⟨σ,H1,I1,q1⟩) I.quiet hs
def tRet (te:TE):TS:=fun D σ H=>te σ H D.rt
theorem ps_ret (he:PE X e te):PS X (.Return (some e) pos) (tRet te):=by
 intro pins s σ H D I h
 exact wpAny_Return_some (thn (he s σ H _ I h) fun v s1 ⟨x,H1,I1,r1,q1⟩=>⟨x, σ,H1,I1,r1,q1⟩)
def tIfS (c:TT) (t u:TS):TS:=fun D σ H=>c σ H fun b H1=>if b=true then t D σ H1 else u D σ H1
theorem ps_if {c:Expr} {a b:List Stmt} {tc:TT} (hc:PT X c tc) (ha:PSs X a t) (hb:PSs X b u):PS X (.If c a b pos) (tIfS tc t u):=by
 intro pins s σ H D I h
 refine wpAny_If (thn (hc s σ H _ I h) fun d s1 ⟨H1,I1,q1⟩ => ?_)
 cases d with
 | true=>exact ha s1 σ H1 D I1 q1
 | false=>exact hb s1 σ H1 D I1 q1
end
abbrev TG:=V→St→Hp→(St→Hp→Prop)→Prop
abbrev TGs:=List V→St→Hp→(St→Hp→Prop)→Prop
def PG (X:Cx) (target:Expr) (t:TG):Prop:=
 ∀ ⦃pins:List (Addr×Obj)⦄ (s:Shared) (σ:St) (H:Hp) (v:V) (u:Value) (Q:St→Hp→Prop),Inv X pins σ H s→RelV v u→t v σ H Q →
  wpAny (model X.prog X.w) X.A (assign target X.env u) (fun _ s'=>Ex2 fun σ' H'=>Inv X pins σ' H' s'∧Q σ' H') X.xe s
def PGs (X:Cx) (ts:List Expr) (t:TGs):Prop:=
 ∀ ⦃pins:List (Addr×Obj)⦄ (s:Shared) (σ:St) (H:Hp) (vs:List V) (us:List Value) (Q:St→Hp→Prop),Inv X pins σ H s→Vals vs us→t vs σ H Q →
  wpAny (model X.prog X.w) X.A (assignInOrder ((assignEach ts X.env).map (·.2)) us) (fun _ s'=>Ex2 fun σ' H'=>Inv X pins σ' H' s'∧Q σ' H') X.xe s
abbrev TSet:=V→V→V→Hp→(Hp→Prop)→Prop
def PSet (X:Cx) (t:TSet):Prop:=
 ∀ ⦃pins:List (Addr×Obj)⦄ (s:Shared) (σ:St) (H:Hp) (o i v:V) (ov iv u:Value) (Q:Hp→Prop),Inv X pins σ H s→RelV o ov→RelV i iv→RelV v u→t o i v H Q →
  wpAny (model X.prog X.w) X.A (setItem ov iv u) (fun _ s'=>∃H',Inv X pins σ H' s'∧Q H') X.xe s
abbrev TIp:=V→V→Hp→VK→Prop
def PIp (X:Cx) (op:Operator) (t:TIp):Prop:=
 ∀ ⦃pins:List (Addr×Obj)⦄ (s:Shared) (σ:St) (H:Hp) (x y:V) (v u:Value) (Q:VK),Inv X pins σ H s→RelV x v→RelV y u→t x y H Q →
  wpAny (model X.prog X.w) X.A (inplaceOp op v u) (EP X pins σ Q) X.xe s
section
variable {X:Cx} {pos:Pos}
def gName (i:Nat):TG:=fun v σ H Q=>Q (σ.set i (some v)) H
theorem pg_name {i:Nat} {x:Str} (hN:X.N.Nodup) (hi:X.N[i]? = some x) (hx:Loc X.env.scope x) (hf:X.fn x=true∨X.env.scope.names.lookup x=some .local:=by first|exact .inl rfl|exact .inr rfl|assumption):PG X (.Name x pos) (gName i):=by
 intro pins s σ H v u Q I r h
 exact wpAny_assign_Name (store_ok I hN hi hx r (fun s' I'=>⟨_,H,I',h⟩) hf)
def gNil:TGs:=fun vs σ H Q=>vs=[]∧Q σ H
def gCons (t:TG) (u:TGs):TGs:=fun vs σ H Q=>Ex2 fun v r=>vs=v :: r∧t v σ H fun σ' H'=>u r σ' H' Q
theorem pgs_nil:PGs X [] gNil:=by
 intro pins s σ H vs us Q I r h
 obtain ⟨e,h⟩:=h
 subst e
 cases r
 exact assignInOrder_nil ⟨σ,H,I,h⟩
theorem pgs_cons {e:Expr} {es:List Expr} {t:TG} {u:TGs} (h1:PG X e t) (h2:PGs X es u)
  (hs:(assignEach (e :: es) X.env).map (·.2)=assign e X.env :: (assignEach es X.env).map (·.2):=by rfl):PGs X (e :: es) (gCons t u):=by
 intro pins s σ H vs us Q I r h
 obtain ⟨v,vr,e1,h⟩:=h
 subst e1
 cases r with
 | cons r rr=>
  rw [hs]
  refine assignInOrder_cons (thn (h1 s σ H _ _ _ I r h) fun _ s1 ⟨σ1,H1,I1,q1⟩ => ?_)
  exact h2 s1 σ1 H1 _ _ Q I1 rr q1
def gTup (K:PySem.W.Frag) (n:Nat) (t:TGs):TG:=fun v σ H Q=>Ex2 fun a xs=>v = .ref a∧SqT K H a xs∧xs.length=n∧t xs σ H Q
theorem pg_tup {es:List Expr} {k:Nat} {t:TGs} {n:Nat} (hc:X.calm=true) (h:PGs X es t)
  (hn:(assignEach es X.env).length=n:=by rfl) (hst:(assignEach es X.env).findIdx? (·.1)=none:=by rfl):PG X (.Tuple es k pos) (gTup X.K n t):=by
 intro pins s σ H v u Q I r hw
 obtain ⟨a,xs,e1,hq,hl,hw⟩:=hw
 subst e1
 cases r
 obtain ⟨its,rv,ht,hz⟩:=I.tuple hq
 refine assign_Tuple_tuple (I.ok.hd hc) ht (by simp [hn, ←hl,rv.length]) hst fun h' hx => ?_
 have I1:Inv X pins σ H { s with heap:=h' }:=I.kept (t':=s.toks) fun b o e=>hx b o (Nat.ne_of_lt (Heap.lt_size e)) e
 exact h _ σ H xs _ Q I1 (by simpa using rv) hw
def gSub (to ti:TE) (t:TSet):TG:=fun v σ H Q=>to σ H fun o H1=>ti σ H1 fun i H2=>t o i v H2 fun H3=>Q σ H3
theorem pg_sub {o i:Expr} {to ti:TE} {t:TSet} (ho:PE X o to) (hi:PE X i ti) (hs:PSet X t)
  (ha:∀v,assign (.Subscript o i pos) X.env v=(do
   let ov ←holding [v] (eval o X.env)
   let iv ←holding [v,ov] (eval i X.env)
   standAt pos
   holding [v,ov,iv] (setItem ov iv v)
   release [v,ov,iv] []):=by intro _;rfl):PG X (.Subscript o i pos) (gSub to ti t):=by
 intro pins s σ H v u Q I r h
 rw [ha]
 refine wpAny_bind (wpAny_holding (thn (ho s σ H _ I h) fun ov s1 ⟨x,H1,I1,r1,q1⟩ => ?_))
 refine wpAny_bind (wpAny_holding (thn (hi s1 σ H1 _ I1 q1) fun iv s2 ⟨y,H2,I2,r2,q2⟩ => ?_))
 refine wpAny_bind (wpAny_standAt (wpAny_bind (wpAny_holding (thn (hs s2 σ H2 x y v ov iv u _ I2 r1 r2 r q2) fun _ s3 ⟨H3,I3,q3⟩ => ?_))))
 exact wpAny_release ⟨σ,H3,I3,q3⟩
def tAsg (te:TE) (g:TG):TS:=fun D σ H=>te σ H fun x H1=>g x σ H1 D.nx
theorem ps_asg {tg e:Expr} {te:TE} {g:TG} (he:PE X e te) (hg:PG X tg g) (hs:swapsWithSole [tg] e pos.line X.env=pure false:=by rfl) (hw:swappedStores [tg] e X.env=pure none:=by rfl)
  (h1:(assignEach [tg] X.env).map (·.2)=[assign tg X.env]:=by rfl):PS X (.Assign [tg] e pos) (tAsg te g):=by
 intro pins s σ H D I h
 refine wpAny_Assign_stores (thn (he s σ H _ I h) fun v s1 ⟨x,H1,I1,r1,q1⟩ => ?_) hs hw
 rw [h1]
 exact thn (hg s1 σ H1 x v _ I1 r1 q1) fun _ s2 q=>q
theorem ps_set {i:Nat} {x:Str} {e:Expr} {te:TE} {pos':Pos} (hN:X.N.Nodup) (hi:X.N[i]? = some x) (hx:Loc X.env.scope x) (he:PE X e te) (hs:swapsWith e (some (.Name x pos')) pos.line X.env=pure false:=by rfl) (hf:X.fn x=true∨X.env.scope.names.lookup x=some .local:=by first|exact .inl rfl|exact .inr rfl|assumption) :
  PS X (.Assign [.Name x pos'] e pos) (tAsg te (gName i)):=by
 intro pins s σ H D I h
 refine wpAny_Assign_Name (thn (he s σ H _ I h) fun v s1 ⟨y,H1,I1,r1,q1⟩ => ?_) hs
 exact store_ok I1 hN hi hx r1 (fun s2 I2=>⟨_,H1,I2,q1⟩) hf
def tPar (i j:Nat) (ta:TA):TS:=fun D σ H=>ta σ H fun vs H1=>Ex2 fun v w=>vs=[v,w]∧D.nx ((σ.set i (some v)).set j (some w)) H1
theorem ps_par {i j:Nat} {x y:Str} {a b:Expr} {ta:TA} {px py pt:Pos} {kt k2 pt2} (hc:X.calm=true) (hN:X.N.Nodup) (hi:X.N[i]? = some x) (hj:X.N[j]? = some y) (hij:i≠j)
  (hx:X.env.scope.names.lookup x=some .local) (hy:X.env.scope.names.lookup y=some .local) (ha:PA X [a,b] ta)
  (hw:swappedStores [.Tuple [.Name x px, .Name y py] kt pt] (.Tuple [a,b] k2 pt2) X.env=pure (some [x,y]))
  (hs:swapsWithSole [.Tuple [.Name x px, .Name y py] kt pt] (.Tuple [a,b] k2 pt2) pos.line X.env=pure false:=by rfl) :
  PS X (.Assign [.Tuple [.Name x px, .Name y py] kt pt] (.Tuple [a,b] k2 pt2) pos) (tPar i j ta):=by
 intro pins s σ H D I h
 rw [exec_Assign_arm]
 refine wpAny_bind (wpAny_standAt ?_)
 rw [hs]
 refine wpAny_bind (wpAny_pure ?_)
 rw [if_neg (by decide)]
 refine wpAny_bind (Tuple_ (thn (ha s σ H _ I h) fun us s1 ⟨vs,H1,I1,r1,q1⟩ => ?_))
 obtain ⟨v,w,e1,q1⟩:=q1
 subst e1
 obtain ⟨u1,u2,rfl,rv,rw'⟩:∃u1 u2,us=[u1,u2]∧RelV v u1∧RelV w u2:=by
  cases r1 with
  | cons p q=>
   cases q with
   | cons p' q'=>
    cases q'
    exact ⟨_,_,rfl,p,p'⟩
 refine wpAny_newObj_type ?_ (by show 2≤sizeLine;decide)
 have I2:Inv X pins σ H1 { s1 with heap:=s1.heap.push { cls := .type "tuple",data := .seq [u1,u2].toArray } }:=I1.kept (t':=s1.toks) fun b o e=>Heap.get?_push_of_some _ e
 rw [hw]
 refine wpAny_bind (wpAny_pure ?_)
 show wpAny (model X.prog X.w) X.A (do rule "assign.swapped-stores";let items ←unpackItems (.ref s1.heap.objs.size) 2 none;assignInOrder [fun v=>bindName X.env y v,fun v=>bindName X.env x v] items.reverse;pure Flow.next) _ _ _
 refine wpAny_bind (wpAny_rule (wpAny_bind (unpackItems_tuple (items := #[u1,u2]) (I.ok.hd hc) (IsTup.new s1.heap _) fun h' hx' => ?_)))
 have I3:=I2.kept (h':=h') (t':=s1.toks) fun b o e=>hx' b o (Nat.ne_of_lt (Heap.lt_size e)) e
 show wpAny _ _ (assignInOrder [fun v=>bindName X.env y v,fun v=>bindName X.env x v] [u2,u1] >>= fun _=>pure Flow.next) _ _ _
 refine wpAny_bind (assignInOrder_cons (wpAny_bindName (store_ok I3 hN hj (.inl hy) rw' (fun s2 I4 => ?_) (.inr hy))))
 refine assignInOrder_cons (wpAny_bindName (store_ok I4 hN hi (.inl hx) rv (fun s3 I5=>assignInOrder_nil (wpAny_pure ?_)) (.inr hx)))
 rw [List.set_comm _ _ (Ne.symm hij)] at I5
 exact ⟨_,H1,I5,q1⟩
def tAug (i:Nat) (te:TE) (ti:TIp):TS:=fun D σ H=>∃x, σ[i]? = some (some x)∧te σ H fun y H1=>ti x y H1 fun z H2=>D.nx (σ.set i (some z)) H2
theorem ps_aug {i:Nat} {x:Str} {e:Expr} {te:TE} {op:Operator} {ti:TIp} {pos':Pos} (hN:X.N.Nodup) (hi:X.N[i]? = some x) (hx:Loc X.env.scope x) (he:PE X e te) (ho:PIp X op ti) (hf:X.fn x=true∨X.env.scope.names.lookup x=some .local:=by first|exact .inl rfl|exact .inr rfl|assumption) :
  PS X (.AugAssign (.Name x pos') op e pos) (tAug i te ti):=by
 intro pins s σ H D I h
 obtain ⟨v,e1,h⟩:=h
 obtain ⟨m,hn,hl⟩:=I.loc
 have vis:Vis X.env.scope x:=by rcases hx with k|k;exact .inl k;exact .inr (.inl k)
 obtain ⟨u,r,l⟩:=hl i x v hi e1 vis
 refine wpAny_AugAssign_Name ?_
 have go:wpAny (model X.prog X.w) X.A (eval e X.env) (fun w s₂=>wpAny (model X.prog X.w) X.A (inplaceOp op u w) (fun r s₃=>wpAny (model X.prog X.w) X.A (storeName X.env x r) (fun _=>SP X pins D .next) X.xe s₃) X.xe s₂) X.xe s:=by
  refine thn (he s σ H _ I h) fun w s1 ⟨y,H1,I1,r1,q1⟩ => ?_
  refine thn (ho s1 σ H1 v y u w _ I1 r r1 q1) fun z s2 ⟨zv,H2,I2,r2,q2⟩ => ?_
  exact store_ok I2 hN hi hx r2 (fun s3 I3=>⟨_,H2,I3,q2⟩) hf
 rcases l with ⟨hk,hm⟩|⟨hk,c,hc,hcell⟩
 ·exact wpAny_loadName_local I.ok.kind hk hn hm go
 ·rcases hk with hk|hk
  ·exact wpAny_loadName_cell I.ok.kind hk hc hcell go
  ·rcases hx with k|k
   ·have:X.env.scope.names.lookup x=some .free:=hk
    rw [k] at this;cases this
   ·have:X.env.scope.names.lookup x=some .free:=hk
    rw [k] at this;cases this
def tAugS (to ti te:TE) (tget:V→V→Hp→VK→Prop) (tip:TIp) (tset:TSet):TS:=fun D σ H=>to σ H fun o H1=>ti σ H1 fun i H2=>tget o i H2 fun x H3=>te σ H3 fun y H4=>tip x y H4 fun z H5=>tset o i z H5 fun H6=>D.nx σ H6
def PGet (X:Cx) (t:V→V→Hp→VK→Prop):Prop:=
 ∀ ⦃pins:List (Addr×Obj)⦄ (s:Shared) (σ:St) (H:Hp) (o i:V) (ov iv:Value) (Q:VK),Inv X pins σ H s→RelV o ov→RelV i iv→t o i H Q →
  wpAny (model X.prog X.w) X.A (getItem ov iv) (EP X pins σ Q) X.xe s
theorem ps_augS {o i e:Expr} {to ti te:TE} {tget:V→V→Hp→VK→Prop} {tip:TIp} {tset:TSet} {op:Operator} {tpos:Pos} (ho:PE X o to) (hi:PE X i ti) (hg:PGet X tget) (he:PE X e te) (hp:PIp X op tip) (hs:PSet X tset)
  (ha:∀ov iv new,augStore i ov iv new=(do holding [new,ov,iv] (setItem ov iv new);release [new,ov,iv] [];pure .next):=by intros;rfl):PS X (.AugAssign (.Subscript o i tpos) op e pos) (tAugS to ti te tget tip tset):=by
 intro pins s σ H D I h
 refine wpAny_AugAssign_SubscriptAny (thn (ho s σ H _ I h) fun ov s1 ⟨x1,H1,I1,r1,q1⟩ => ?_) ha
 refine thn (hi s1 σ H1 _ I1 q1) fun iv s2 ⟨x2,H2,I2,r2,q2⟩ => ?_
 refine thn (hg s2 σ H2 x1 x2 ov iv _ I2 r1 r2 q2) fun old s3 ⟨x3,H3,I3,r3,q3⟩ => ?_
 refine thn (he s3 σ H3 _ I3 q3) fun v s4 ⟨x4,H4,I4,r4,q4⟩ => ?_
 refine thn (hp s4 σ H4 x3 x4 old v _ I4 r3 r4 q4) fun new s5 ⟨x5,H5,I5,r5,q5⟩ => ?_
 exact thn (hs s5 σ H5 x1 x2 x5 ov iv new _ I5 r1 r2 r5 q5) fun _ s6 ⟨H6,I6,q6⟩=>⟨σ,H6,I6,q6⟩
def ipI (f:Int→Int→Int):TIp:=fun x y H Q=>Ex2 fun i j=>x = .int i∧y = .int j∧Q (.int (f i j)) H
theorem ip_add:PIp X .Add (ipI fun i j=>i+j):=by
 intro pins s σ H x y v u Q I r1 r2 h
 obtain ⟨i,j,e1,e2,q⟩:=h
 subst e1;subst e2
 obtain ⟨t,rfl⟩:=r1
 obtain ⟨t',rfl⟩:=r2
 exact iadd_int ⟨.int _,H,I.tok _,⟨_,rfl⟩,q⟩
end
section
variable {X:Cx} {pos:Pos}
def tWhile (c:TT) (tb:TS):TS:=fun D σ H=>∃W:Nat→St→Hp→Prop,(∃m,W m σ H)∧∀m σ H,W m σ H →
 c σ H fun b H1=>if b=true then ∃N:St→Hp→Prop,(∀ σ' H',N σ' H'→∃m',m'<m∧W m' σ' H')∧tb { D with nx:=N,ct:=N,bk:=D.nx } σ H1 else D.nx σ H1
theorem ps_while {c:Expr} {body:List Stmt} {tc:TT} {tb:TS} (hp:PassesOwn (model X.prog X.w) X.A X.env X.xe) (hc:PT X c tc) (hb:PSs X body tb):PS X (.While c body [] pos) (tWhile tc tb):=by
 intro pins s σ H D I h
 obtain ⟨W,⟨m0,w0⟩,turn⟩:=h
 refine wpAny_While (codeAny_whileLoop (fun n s'=>∃ σ' H',Inv X pins σ' H' s'∧W n σ' H') ?_ m0 ⟨σ,H,I,w0⟩)
 rintro n s1 ⟨σ1,H1,I1,w1⟩
 refine wpAny_passesOwn hp (thn (hc s1 σ1 H1 _ I1 (turn n σ1 H1 w1)) fun b s2 ⟨H2,I2,q2⟩ => ?_)
 cases b with
 | true=>
  obtain ⟨N,hN,q2⟩:=q2
  rw [if_pos rfl]
  refine wpAny_passesOwn hp (thn (hb s2 σ1 H2 _ I2 q2) fun f s3 q3 => ?_)
  cases f with
  | next=>
   obtain ⟨σ3,H3,I3,n3⟩:=q3
   obtain ⟨m',hm,w3⟩:=hN σ3 H3 n3
   exact ⟨m',hm, σ3,H3,I3,w3⟩
  | cont=>
   obtain ⟨σ3,H3,I3,n3⟩:=q3
   obtain ⟨m',hm,w3⟩:=hN σ3 H3 n3
   exact ⟨m',hm, σ3,H3,I3,w3⟩
  | brk=>exact q3
  | ret v=>exact q3
 | false=>
  rw [if_neg Bool.false_ne_true]
  exact wpAny_execs_nil ⟨σ1,H2,I2,q2⟩
end
structure It where
 go:Nat→Hp→Prop
 yld:Nat→Hp→V→Hp→Prop
 stop:Nat→Hp→Prop
def FpOk (X:Cx) (pins:List (Addr×Obj)) (H:Hp) (b:Addr):Prop:=
 H b=none∧b≠X.env.locals∧b ∉ X.fs∧(b∈X.ex∨X.s₀.heap.objs.size≤b)∧(∀x c,X.env.cells.lookup x=some c→c≠b)∧∀p∈X.pn++pins,p.1≠b
theorem Inv.fpOk {X:Cx} {pins:List (Addr×Obj)} {σ:St} {H H':Hp} {s:Shared} {b:Addr} (I:Inv X pins σ H s) (hb:s.heap.objs.size≤b) (hn:H' b=none):FpOk X pins H' b:=by
 refine ⟨hn,Nat.ne_of_gt (Nat.lt_of_lt_of_le I.lt hb),I.nofs hb, .inr (Nat.le_trans I.sz hb),fun x c e z => ?_,fun p hp z => ?_⟩
 ·obtain ⟨v,q⟩:=I.cell x c e
  exact absurd (Nat.lt_of_lt_of_le q.lt (by rw [z];exact hb)) (Nat.lt_irrefl _)
 ·exact absurd (Nat.lt_of_lt_of_le (Heap.lt_size (I.pin p hp).1) (by rw [z];exact hb)) (Nat.lt_irrefl _)
structure Turn (P:Program) (w:World) (K:PySem.W.Frag) (tg:Expr) (J:It) (fp:List Addr) (it:Addr) (tn:Nat→Heap→Prop):Prop where
 mem:it∈fp
 obj:∀i h,tn i h→∀b∈fp,∃o,h.get? b=some o∧∀v,o.data ≠ .cell v
 keep:∀i h h',tn i h→(∀b∈fp,∀o,h.get? b=some o→h'.get? b=some o)→tn i h'
 item:∀(X:Cx),X.prog=P→X.w=w→X.K=K→X.calm=true→∀(i:Nat) (pins:List (Addr×Obj)) (s:Shared) (σ:St) (H:Hp) (E:Value→Shared→Prop),Inv X pins σ H s→(∀b∈fp,FpOk X pins H b)→tn i s.heap→J.go i H →
  wpAny (model P w) X.A (pyNext (.ref it)) (fun r s1=>∃u,r=some u ∧
   wpAny (model P w) X.A (letOwnedTupleGo tg (.ref it) u) (fun _ s2=>∃x H',Inv X pins σ H' s2∧RelV x u∧J.yld i H x H'∧tn (i+1) s2.heap∧∀b∈fp,H' b=none) E s1) E s
 done:∀(X:Cx),X.prog=P→X.w=w→X.K=K→X.calm=true→∀(i:Nat) (pins:List (Addr×Obj)) (s:Shared) (σ:St) (H:Hp) (E:Value→Shared→Prop),Inv X pins σ H s→(∀b∈fp,FpOk X pins H b)→tn i s.heap→J.stop i H →
  wpAny (model P w) X.A (pyNext (.ref it)) (fun r s1=>r=none∧Inv X pins σ H s1) E s
 self:∀(A:Around) (i:Nat) (s:Shared) (Q:Value→Shared→Prop) (E:Value→Shared→Prop),tn i s.heap→Q (.ref it) s→wpAny (model P w) A (pyIter (.ref it)) Q E s
abbrev TI:=St→Hp→(It→Hp→Prop)→Prop
def PIE (X:Cx) (pins:List (Addr×Obj)) (σ:St) (tg:Expr) (R:It→Hp→Prop) (itv:Value) (s2:Shared):Prop:=
 Ex5 fun (it:Addr) (fp:List Addr) (tn:Nat→Heap→Prop) (J:It) (H':Hp)=>itv = .ref it∧Inv X pins σ H' s2∧Turn X.prog X.w X.K tg J fp it tn∧tn 0 s2.heap∧(∀b∈fp,FpOk X pins H' b)∧R J H'
def PI (X:Cx) (tg iter:Expr) (wi:TI):Prop:=
 ∀ ⦃pins:List (Addr×Obj)⦄ (s:Shared) (σ:St) (H:Hp) (R:It→Hp→Prop),Inv X pins σ H s→wi σ H R →
  wpAny (model X.prog X.w) X.A (eval iter X.env) (fun v s1=>wpAny (model X.prog X.w) X.A (pyIter v) (PIE X pins σ tg R) X.xe s1) X.xe s
theorem go_of {M:Model} {A:Around} {E:Value→Shared→Prop} {s:Shared} {tg:Expr} {it:Addr} {u:Value} {o:Obj} {n:String} {vs:Array Value} {Q:Unit→Shared→Prop} (ho:s.heap.get? it=some o) (hc:o.cls = .type n) (hd:o.data = .fields vs)
  (hn:["enumerate", "zip", "dict_itemiterator", "dict_reverseitemiterator", "odict_iterator", "itertools.zip_longest", "itertools.pairwise"].contains n=false) (hQ:Q () s):wpAny M A (letOwnedTupleGo tg (.ref it) u) Q E s:=by
 unfold letOwnedTupleGo
 cases tg <;> first
  | exact wpAny_pure hQ
  | (cases u <;> first
    | exact wpAny_pure hQ
    | (refine wpAny_bind (wpAny_load ho ?_)
       rw [hc,hd]
       show wpAny M A (if (["enumerate", "zip", "dict_itemiterator", "dict_reverseitemiterator", "odict_iterator", "itertools.zip_longest", "itertools.pairwise"].contains n&&vs[0]? == some (rawInt _))=true then _ else _) Q E s
       rw [if_neg (by intro h;rw [hn,Bool.false_and] at h;cases h)]
       exact wpAny_pure hQ))
def Itl (K:PySem.W.Frag) (a:Addr):It:=
 ⟨fun i H=>Ex2 fun xs x=>SqL K H a xs∧xs[i]? = some x,fun i H x H'=>H'=H∧∀xs,SqL K H a xs→xs[i]? = some x,fun i H=>∃xs,SqL K H a xs∧xs.length≤i⟩
def Itr (lo:Int) (n:Nat):It:=⟨fun i _=>i<n,fun i H x H'=>H'=H∧x = .int (lo+i),fun i _=>n≤i⟩
theorem turn_list {P:Program} {w:World} {K:PySem.W.Frag} {tg:Expr} (a it:Addr):Turn P w K tg (Itl K a) [it] it (fun i h=>h.IsListIter it a i) where
 mem:=by simp
 obj:=fun i h st b hb=>by
  have e:b=it:=by simpa using hb
  subst e
  obtain ⟨o,e,c,d⟩:=st
  exact ⟨o,e,fun v z=>by rw [d] at z;cases z⟩
 keep:=fun i h h' st k=>st.at fun o e=>k it (by simp) o e
 item:=by
  intro X hP hw hK hc i pins s σ H E I hf st hg
  subst hP hw hK
  obtain ⟨xs,x,hq,hx⟩:=hg
  obtain ⟨its,rv,p,hz⟩:=I.list hq
  obtain ⟨u,hu,ru⟩:=rv.get hx
  obtain ⟨f0,f1,f2,f3,f4,f5⟩:=hf it (by simp)
  refine wpAny_pyNext_list_item st p.isList (x:=u) (by simpa using hu) fun h' st' sb => ?_
  have I1:Inv X pins σ H { s with heap:=h' }:=I.turned (t':=s.toks) (fun b o hb e=>(sb.2 b hb).trans e) f0 f1 f3 f4 f5
  obtain ⟨o,e,c,d⟩:=id st'
  exact ⟨u,rfl,go_of (s:={ s with heap:=h' }) e c d (by decide) ⟨x,H,I1,ru,⟨rfl,fun ys hy=>by rw [I.list_inj hy hq];exact hx⟩,st',fun b hb=>(hf b hb).1⟩⟩
 done:=by
  intro X hP hw hK hc i pins s σ H E I hf st hg
  subst hP hw hK
  obtain ⟨xs,hq,hx⟩:=hg
  obtain ⟨its,rv,p,hz⟩:=I.list hq
  obtain ⟨f0,f1,f2,f3,f4,f5⟩:=hf it (by simp)
  have hl:=rv.length
  exact wpAny_pyNext_list_end (I.ok.hd hc) st p.isList (by simp; (first|lia|omega)) fun h' eb=>⟨rfl,I.turned (t':=s.toks) (fun b o hb e=>eb b o hb e) f0 f1 f3 f4 f5⟩
 self:=fun _ _ _ _ _ st h=>wpAny_pyIter_listiter st h
theorem turn_range {P:Program} {w:World} {K:PySem.W.Frag} {tg:Expr} (it:Addr) (lo:Int) (n:Nat):Turn P w K tg (Itr lo n) [it] it (fun i h=>IsRangeIter h it (lo+(i:Nat)*1) ((n:Int)-(i:Nat)) 1) where
 mem:=by simp
 obj:=fun i h st b hb=>by
  have e:b=it:=by simpa using hb
  subst e
  exact ⟨_,st,fun v z=>by
   have z':Data.fields _=Data.cell v:=z
   cases z'⟩
 keep:=fun i h h' st k=>k it (by simp) _ st
 item:=by
  intro X hP hw hK hc i pins s σ H E I hf st hg
  subst hP hw hK
  obtain ⟨f0,f1,f2,f3,f4,f5⟩:=hf it (by simp)
  have W:=Walks.range (prog:=X.prog) (w:=X.w) (I.ok.hd hc) it lo 1 n
  refine W.item i s _ _ hg st fun v h' tk hv st' kk => ?_
  obtain ⟨t,rfl⟩:=hv
  have I1:Inv X pins σ H { s with heap:=h',toks:=tk }:=I.turned (fun b o hb e=>kk b o (by simpa using hb) e) f0 f1 f3 f4 f5
  refine ⟨_,rfl,go_of (s:={ s with heap:=h',toks:=tk }) (n := "range_iterator") st' rfl rfl (by decide) ⟨.int (lo+i),H,I1,⟨t,?_⟩,⟨rfl,rfl⟩,st',fun b hb=>(hf b hb).1⟩⟩
  rw [Int.mul_one]
 done:=by
  intro X hP hw hK hc i pins s σ H E I hf st hg
  subst hP hw hK
  obtain ⟨f0,f1,f2,f3,f4,f5⟩:=hf it (by simp)
  exact wpAny_pyNext_range_end (I.ok.hd hc) st (by have:n≤i:=hg; (first|lia|omega)) fun h' eb=>⟨rfl,I.turned (t':=s.toks) (fun b o hb e=>eb b o hb e) f0 f1 f3 f4 f5⟩
 self:=fun _ _ _ _ _ st h=>wpAny_pyIter_rangeiter st h
end L2
namespace L2
open PySem PySem.Spec PyProof.Rows
section
variable {X:Cx} {tg:Expr}
def iList (K:PySem.W.Frag) (tl:TE):TI:=fun σ H R=>tl σ H fun x H1=>∃a,x = .ref a∧(∃xs,SqL K H1 a xs)∧R (Itl K a) H1
theorem pi_list {l:Expr} {tl:TE} (hl:PE X l tl):PI X tg l (iList X.K tl):=by
 intro pins s σ H R I h
 refine thn (hl s σ H _ I h) fun v s1 ⟨x,H1,I1,r1,q1⟩ => ?_
 obtain ⟨a,e,⟨xs,hq⟩,q⟩:=q1
 subst e
 cases r1
 obtain ⟨its,rv,p,hz⟩:=I1.list hq
 refine wpAny_pyIter_list p.isList ?_
 refine ⟨s1.heap.objs.size,[s1.heap.objs.size],_,_,H1,rfl,I1.kept (t':=s1.toks) fun b o e=>Heap.get?_push_of_some _ e,turn_list a _,⟨_,Heap.get?_push_size _ rfl,rfl,rfl⟩,fun b hb => ?_,q⟩
 have e:b=s1.heap.objs.size:=by simpa using hb
 subst e
 exact I1.fpOk (Nat.le_refl _) (I1.hok.fresh (Nat.le_refl _))
theorem range_it {pins:List (Addr×Obj)} {σ:St} {H:Hp} {s:Shared} {R:It→Hp→Prop} {E:Value→Shared→Prop} {lo hi:Int} {t u v:Tok} {tk:Nat} (I:Inv X pins σ H s) (h1 : -(2 ^ 62)≤lo) (h2:lo<2 ^ 62) (h3 : -(2 ^ 62)≤hi) (h4:hi<2 ^ 62)
  (q:R (Itr lo (hi-lo).toNat) H):wpAny (model X.prog X.w) X.A (pyIter (.ref s.heap.objs.size)) (PIE X pins σ tg R) E { s with heap:=s.heap.push { cls := .type "range",data := .fields #[.int lo t, .int hi u, .int 1 v] },toks:=tk }:=by
 refine wpAny_pyIter_range (IsRange.new ..) (small_one h1 h2 h3 h4) ?_
 have I1:Inv X pins σ H { s with heap:=s.heap.push { cls := .type "range",data := .fields #[.int lo t, .int hi u, .int 1 v] },toks:=tk }:=I.kept fun b o e=>Heap.get?_push_of_some _ e
 refine ⟨(s.heap.push { cls := .type "range",data := .fields #[.int lo t, .int hi u, .int 1 v] }).objs.size,[(s.heap.push { cls := .type "range",data := .fields #[.int lo t, .int hi u, .int 1 v] }).objs.size],_,_,H,rfl,
  I1.kept (t':=tk) fun b o e=>Heap.get?_push_of_some _ e,turn_range _ lo (hi-lo).toNat,?_,fun b hb => ?_,q⟩
 ·have e1:lo+((0:Nat):Int)*1=lo:=by simp
  have e2:(((hi-lo).toNat:Nat):Int)-((0:Nat):Int)=Builtin.Range.rangeSize lo hi 1:=by rw [rangeSize_one];split <;> (first|lia|omega)
  show IsRangeIter _ _ (lo+((0:Nat):Int)*1) ((((hi-lo).toNat:Nat):Int)-((0:Nat):Int)) 1
  rw [e1,e2]
  exact Heap.get?_push_size _ rfl
 ·have e:b=(s.heap.push { cls := .type "range",data := .fields #[.int lo t, .int hi u, .int 1 v] }).objs.size:=by simpa using hb
  subst e
  exact I1.fpOk (Nat.le_refl _) (I1.hok.fresh (Nat.le_refl _))
def iRng1 (ta:TA):TI:=fun σ H R=>ta σ H fun vs H1=>∃j:Int,vs=[.int j] ∧ -(2 ^ 62)≤j∧j<2 ^ 62∧R (Itr 0 j.toNat) H1
theorem pi_range1 {a:Expr} {ta:TA} {p pos:Pos} (hg:Gl X "range") (hm:X.mg "range" = none) (ha:PA X [a] ta) (hs:starEach [a] X.env=[(false,eval a X.env)]:=by rfl):PI X tg (.Call (.Name "range" p) [a] [] pos) (iRng1 ta):=by
 intro pins s σ H R I h
 refine Call_ (ld_blt I hg hm boot_range (PyProof.Rows.callWith_type1 (thn (ha s σ H _ I h) fun us s1 ⟨vs,H1,I1,r1,q1⟩ => ?_) hs rfl))
 obtain ⟨j,e,q1,q2,q⟩:=q1
 subst e
 cases r1 with
 | cons r rr=>
  cases rr
  obtain ⟨t,rfl⟩:=r
  exact call_range_1 (range_it I1 (by first|lia|omega) (by first|lia|omega) q1 q2 (by simpa using q))
def tFor (wi:TI) (g:TG) (tb:TS):TS:=fun D σ H=>wi σ H fun J H1=>∃W:Nat→Nat→St→Hp→Prop,(∃m,W 0 m σ H1)∧∀i m σ H,W i m σ H →
 (J.stop i H∧D.nx σ H)∨(J.go i H∧∃N:St→Hp→Prop,(∀ σ' H',N σ' H'→∃m',m'<m∧W (i+1) m' σ' H')∧∀x H',J.yld i H x H'→g x σ H' fun σ2 H2=>tb { D with nx:=N,ct:=N,bk:=D.nx } σ2 H2)
def pinsAt (fp:List Addr) (h:Heap):List (Addr×Obj):=fp.filterMap fun b=>(h.get? b).map fun o=>(b,o)
theorem mem_pinsAt {fp:List Addr} {h:Heap} {b:Addr} {o:Obj} (hb:b∈fp) (e:h.get? b=some o):(b,o)∈pinsAt fp h:=List.mem_filterMap.mpr ⟨b,hb,by rw [e];rfl⟩
theorem of_pinsAt {fp:List Addr} {h:Heap} {p:Addr×Obj} (hp:p∈pinsAt fp h):p.1∈fp∧h.get? p.1=some p.2:=by
 obtain ⟨b,hb,e⟩:=List.mem_filterMap.mp hp
 cases q:h.get? b with
 | none=>rw [q] at e;cases e
 | some o=>
  rw [q] at e
  have e':(b,o)=p:=Option.some.inj e
  subst e'
  exact ⟨hb,q⟩
theorem Inv.pinned {pins:List (Addr×Obj)} {σ:St} {H:Hp} {s:Shared} {fp:List Addr} (I:Inv X pins σ H s) (hf:∀b∈fp,FpOk X pins H b) (ho:∀b∈fp,∃o,s.heap.get? b=some o∧∀v,o.data ≠ .cell v):Inv X (pins++pinsAt fp s.heap) σ H s:=
 I.pins_of fun p hp=>(List.mem_append.mp hp).elim (fun z=>I.pin p (List.mem_append_right _ z)) fun z=>by
  obtain ⟨hb,e⟩:=of_pinsAt z
  obtain ⟨f0,f1,f2,_⟩:=hf p.1 hb
  obtain ⟨o,e',d⟩:=ho p.1 hb
  rw [e] at e';cases e'
  exact ⟨e,f0,f1,f2,d⟩
theorem Inv.unpinned {pins pl:List (Addr×Obj)} {σ:St} {H:Hp} {s:Shared} (I:Inv X (pins++pl) σ H s):Inv X pins σ H s:=I.pins_of fun p hp=>I.pin p (List.mem_append_right _ (List.mem_append_left _ hp))
theorem ps_for {iter:Expr} {body:List Stmt} {wi:TI} {g:TG} {tb:TS} {pos:Pos} (hp:PassesOwn (model X.prog X.w) X.A X.env X.xe) (hc:X.calm=true) (hi:PI X tg iter wi) (hg:PG X tg g) (hb:PSs X body tb)
  (hs:∀x,foldedSetIterable iter X.env x=pure x:=by intro _;rfl):PS X (.For tg iter body [] pos) (tFor wi g tb):=by
 intro pins s σ H D I h
 refine wpAny_For (thn (hi s σ H _ I h) fun v s1 h1=>thn h1 fun itv s2 h2 => ?_) hs
 obtain ⟨it,fp,tn,J,H2,e,I2,T,st2,f2,W,⟨m0,w0⟩,turn⟩:=h2
 subst e
 have stat:∀{H':Hp},(∀b∈fp,H' b=none)→∀b∈fp,FpOk X pins H' b:=fun hn b hb=>⟨hn b hb,(f2 b hb).2⟩
 refine codeAny_forLoop_any (fun n s'=>∃i σ' H',Inv X pins σ' H' s'∧tn i s'.heap∧(∀b∈fp,H' b=none)∧W i n σ' H') ?_ m0 ⟨0, σ,H2,I2,st2,fun b hb=>(f2 b hb).1,w0⟩
 rintro n s3 ⟨i, σ3,H3,I3,st3,fr3,w3⟩
 rcases turn i n σ3 H3 w3 with ⟨stop,qn⟩|⟨go,N,hN,step⟩
 ·refine wpAny_passesOwn hp (thn (T.done X rfl rfl rfl hc i pins s3 σ3 H3 X.xe I3 (stat fr3) st3 stop) fun r s4 ⟨hr,I4⟩ => ?_)
  subst hr
  exact wpAny_execs_nil ⟨σ3,H3,I4,qn⟩
 ·refine wpAny_passesOwn hp (thn (T.item X rfl rfl rfl hc i pins s3 σ3 H3 X.xe I3 (stat fr3) st3 go) fun r s4 ⟨u,hr,h4⟩ => ?_)
  subst hr
  refine wpAny_passesOwn hp (thn h4 fun _ s5 ⟨x,H5,I5,r5,y5,st5,fr5⟩ => ?_)
  have I5':=I5.pinned (stat fr5) (T.obj _ _ st5)
  refine wpAny_passesOwn hp (thn (hg s5 σ3 H5 x u _ I5' r5 (step x H5 y5)) fun _ s6 ⟨σ6,H6,I6,q6⟩ => ?_)
  refine wpAny_passesOwn hp (thn (hb s6 σ6 H6 _ I6 q6) fun f s7 q7 => ?_)
  have again:∀{σ7:St} {H7:Hp},Inv X (pins++pinsAt fp s5.heap) σ7 H7 s7→N σ7 H7→∃m,m<n∧∃i σ' H',Inv X pins σ' H' s7∧tn i s7.heap∧(∀b∈fp,H' b=none)∧W i m σ' H':=fun {σ7 H7} I7 n7=>by
   obtain ⟨m',hm,w7⟩:=hN σ7 H7 n7
   refine ⟨m',hm,i+1, σ7,H7,I7.unpinned,T.keep _ _ _ st5 fun b hb o e=>(I7.pin (b,o) (List.mem_append_right _ (List.mem_append_right _ (mem_pinsAt hb e)))).1,fun b hb => ?_,w7⟩
   obtain ⟨o,e,d⟩:=T.obj _ _ st5 b hb
   exact (I7.pin (b,o) (List.mem_append_right _ (List.mem_append_right _ (mem_pinsAt hb e)))).2.1
  cases f with
  | next=>obtain ⟨σ7,H7,I7,n7⟩:=q7;exact again I7 n7
  | cont=>obtain ⟨σ7,H7,I7,n7⟩:=q7;exact again I7 n7
  | brk=>obtain ⟨σ7,H7,I7,q7⟩:=q7;exact ⟨σ7,H7,I7.unpinned,q7⟩
  | ret v=>obtain ⟨x7, σ7,H7,I7,r7,q7⟩:=q7;exact ⟨x7, σ7,H7,I7.unpinned,r7,q7⟩
end
theorem for_list {K:PySem.W.Frag} {a:Addr} {xs:List V} {g:TG} {tb:TS} {D:Ends} {σ:St} {H:Hp} (Pv:Nat→St→Hp→Prop) (h0:Pv 0 σ H) (hl:∀i σ H,i≤xs.length→Pv i σ H→SqL K H a xs)
  (hs:∀i x σ H,xs[i]? = some x→Pv i σ H→g x σ H fun σ2 H2=>tb { D with nx:=Pv (i+1),ct:=Pv (i+1),bk:=D.nx } σ2 H2) (hd:∀ σ H,Pv xs.length σ H→D.nx σ H) :
  ∃W:Nat→Nat→St→Hp→Prop,(∃m,W 0 m σ H)∧∀i m σ H,W i m σ H →
   ((Itl K a).stop i H∧D.nx σ H)∨((Itl K a).go i H∧∃N:St→Hp→Prop,(∀ σ' H',N σ' H'→∃m',m'<m∧W (i+1) m' σ' H')∧∀x H',(Itl K a).yld i H x H'→g x σ H' fun σ2 H2=>tb { D with nx:=N,ct:=N,bk:=D.nx } σ2 H2):=by
 refine ⟨fun i m σ H=>m=xs.length-i∧i≤xs.length∧Pv i σ H,⟨xs.length,by simp,Nat.zero_le _,h0⟩,?_⟩
 rintro i m σ H ⟨rfl,hi,p⟩
 have q:=hl i σ H hi p
 by_cases hlt:i<xs.length
 ·refine .inr ⟨⟨xs,xs[i],q,by simp [hlt]⟩,Pv (i+1),fun σ' H' p'=>⟨xs.length-(i+1),by first|lia|omega,rfl,hlt,p'⟩,fun x H' y => ?_⟩
  obtain ⟨e,y⟩:=y
  subst e
  exact hs i x σ _ (y xs q) p
 ·have e:i=xs.length:=by (first|lia|omega)
  subst e
  exact .inl ⟨⟨xs,q,Nat.le_refl _⟩,hd σ H p⟩
theorem for_range {lo:Int} {n:Nat} {g:TG} {tb:TS} {D:Ends} {σ:St} {H:Hp} (Pv:Nat→St→Hp→Prop) (h0:Pv 0 σ H)
  (hs:∀i σ H,i<n→Pv i σ H→g (.int (lo+i)) σ H fun σ2 H2=>tb { D with nx:=Pv (i+1),ct:=Pv (i+1),bk:=D.nx } σ2 H2) (hd:∀ σ H,Pv n σ H→D.nx σ H) :
  ∃W:Nat→Nat→St→Hp→Prop,(∃m,W 0 m σ H)∧∀i m σ H,W i m σ H →
   ((Itr lo n).stop i H∧D.nx σ H)∨((Itr lo n).go i H∧∃N:St→Hp→Prop,(∀ σ' H',N σ' H'→∃m',m'<m∧W (i+1) m' σ' H')∧∀x H',(Itr lo n).yld i H x H'→g x σ H' fun σ2 H2=>tb { D with nx:=N,ct:=N,bk:=D.nx } σ2 H2):=by
 refine ⟨fun i m σ H=>m=n-i∧i≤n∧Pv i σ H,⟨n,by simp,Nat.zero_le _,h0⟩,?_⟩
 rintro i m σ H ⟨rfl,hi,p⟩
 by_cases hlt:i<n
 ·refine .inr ⟨hlt,Pv (i+1),fun σ' H' p'=>⟨n-(i+1),by first|lia|omega,rfl,hlt,p'⟩,fun x H' y => ?_⟩
  obtain ⟨e,y⟩:=y
  subst e y
  exact hs i σ _ hlt p
 ·have e:i=n:=by (first|lia|omega)
  subst e
  exact .inl ⟨Nat.le_refl _,hd σ H p⟩
end L2
namespace L2
open PySem PySem.Spec PyProof.Rows
abbrev R2:=V→V→Hp→VK→Prop
def OpR (X:Cx) (f:Value→Value→Sem Value) (r:R2):Prop:=
 ∀ ⦃pins:List (Addr×Obj)⦄ (s:Shared) (σ:St) (H:Hp) (x y:V) (v u:Value) (Q:VK),Inv X pins σ H s→RelV x v→RelV y u→r x y H Q →
  wpAny (model X.prog X.w) X.A (f v u) (EP X pins σ Q) X.xe s
def UnR (X:Cx) (f:Value→Sem Value) (r:V→Hp→VK→Prop):Prop:=
 ∀ ⦃pins:List (Addr×Obj)⦄ (s:Shared) (σ:St) (H:Hp) (x:V) (v:Value) (Q:VK),Inv X pins σ H s→RelV x v→r x H Q →
  wpAny (model X.prog X.w) X.A (f v) (EP X pins σ Q) X.xe s
def CallR (X:Cx) (f:Value) (r:List V→Hp→VK→Prop):Prop:=
 ∀ ⦃pins:List (Addr×Obj)⦄ (s:Shared) (σ:St) (H:Hp) (xs:List V) (us:List Value) (Q:VK),Inv X pins σ H s→Vals xs us→r xs H Q →
  wpAny (model X.prog X.w) X.A (call f us) (EP X pins σ Q) X.xe s
def tOp (r:R2) (ta tb:TE):TE:=fun σ H Q=>ta σ H fun x H1=>tb σ H1 fun y H2=>r x y H2 Q
def tUn (r:V→Hp→VK→Prop) (ta:TE):TE:=fun σ H Q=>ta σ H fun x H1=>r x H1 Q
def rI (C:Int→Int→Prop) (g:Int→Int→V):R2:=fun x y H Q=>Ex2 fun i j=>x = .int i∧y = .int j∧C i j∧Q (g i j) H
def rI0 (g:Int→Int→V):R2:=fun x y H Q=>Ex2 fun i j=>x = .int i∧y = .int j∧Q (g i j) H
def rU (g:Int→V):V→Hp→VK→Prop:=fun x H Q=>∃i,x = .int i∧Q (g i) H
section
variable {X:Cx} {a b c:Expr} {ta tb tc:TE} {pos:Pos}
theorem binT (ha:PE X a ta) (hb:PE X b tb) {pins:List (Addr×Obj)} {s:Shared} {σ:St} {H:Hp} {R:V→V→Hp→Prop} (I:Inv X pins σ H s)
  (h:ta σ H fun x H1=>tb σ H1 fun y H2=>R x y H2) {Q:Value→Shared→Prop} {f:Value→Value→Sem Value}
  (hf:∀v u s2 x y H2,Inv X pins σ H2 s2→RelV x v→RelV y u→R x y H2→wpAny (model X.prog X.w) X.A (f v u) Q X.xe s2) :
  wpAny (model X.prog X.w) X.A (eval a X.env) (fun v s₁=>wpAny (model X.prog X.w) X.A (eval b X.env) (fun u s₂=>wpAny (model X.prog X.w) X.A (f v u) Q X.xe s₂) X.xe s₁) X.xe s:=by
 refine thn (ha s σ H _ I h) fun v s1 ⟨x,H1,I1,r1,q1⟩ => ?_
 refine thn (hb s1 σ H1 _ I1 q1) fun u s2 ⟨y,H2,I2,r2,q2⟩ => ?_
 exact hf v u s2 x y H2 I2 r1 r2 q2
theorem pe_op {op:Operator} {r:R2} (ho:OpR X (binaryOp op) r) (ha:PE X a ta) (hb:PE X b tb):PE X (.BinOp a op b pos) (tOp r ta tb):=by
 intro pins s σ H Q I h
 exact wpAny_BinOp (binT ha hb I h fun v u s2 x y H2 I2 rx ry q=>ho s2 σ H2 x y v u Q I2 rx ry q)
theorem pe_un {op:UnaryOp} {r:V→Hp→VK→Prop} (ho:UnR X (unaryOp op) r) (ha:PE X a ta):PE X (.UnaryOp op a pos) (tUn r ta):=by
 intro pins s σ H Q I h
 exact UnaryOp_ (thn (ha s σ H _ I h) fun v s1 ⟨x,H1,I1,r1,q1⟩=>ho s1 σ H1 x v Q I1 r1 q1)
theorem opI {f:Value→Value→Sem Value} {C:Int→Int→Prop} {g:Int→Int→Int}
  (rule:∀(i j:Int) (t u:Tok) (s:Shared) (Q:Value→Shared→Prop) (E:Value→Shared→Prop),C i j→Q (.int (g i j) s.toks) { s with toks:=s.toks+1 } → wpAny (model X.prog X.w) X.A (f (.int i t) (.int j u)) Q E s) :
  OpR X f (rI C fun i j => .int (g i j)):=by
 intro pins s σ H x y v u Q I rx ry h
 obtain ⟨i,j,rfl,rfl,hc,q⟩:=h
 obtain ⟨t,rfl⟩:=rx
 obtain ⟨t',rfl⟩:=ry
 exact rule i j t t' s _ _ hc ⟨.int (g i j),H,I.tok _,⟨_,rfl⟩,q⟩
theorem opI0 {f:Value→Value→Sem Value} {g:Int→Int→Int}
  (rule:∀(i j:Int) (t u:Tok) (s:Shared) (Q:Value→Shared→Prop) (E:Value→Shared→Prop),Q (.int (g i j) s.toks) { s with toks:=s.toks+1 } → wpAny (model X.prog X.w) X.A (f (.int i t) (.int j u)) Q E s) :
  OpR X f (rI0 fun i j => .int (g i j)):=by
 intro pins s σ H x y v u Q I rx ry h
 obtain ⟨i,j,rfl,rfl,q⟩:=h
 obtain ⟨t,rfl⟩:=rx
 obtain ⟨t',rfl⟩:=ry
 exact rule i j t t' s _ _ ⟨.int (g i j),H,I.tok _,⟨_,rfl⟩,q⟩
theorem opB0 {f:Value→Value→Sem Value} {g:Int→Int→Bool}
  (rule:∀(i j:Int) (t u:Tok) (s:Shared) (Q:Value→Shared→Prop) (E:Value→Shared→Prop),Q (.bool (g i j)) s→wpAny (model X.prog X.w) X.A (f (.int i t) (.int j u)) Q E s) :
  OpR X f (rI0 fun i j => .bl (g i j)):=by
 intro pins s σ H x y v u Q I rx ry h
 obtain ⟨i,j,rfl,rfl,q⟩:=h
 obtain ⟨t,rfl⟩:=rx
 obtain ⟨t',rfl⟩:=ry
 exact rule i j t t' s _ _ ⟨.bl (g i j),H,I,rfl,q⟩
def CDiv (i j:Int):Prop:=0<j∧j<1073741824
def CPow (i j:Int):Prop:=0≤j∧j≤1000000∧i.natAbs<2 ^ 64
def CMul (i j:Int):Prop:=(-(2 ^ 64)<i∧i<2 ^ 64)∨(-(2 ^ 64)<j∧j<2 ^ 64)
theorem CMul.ok {i j:Int} (h:CMul i j):IntMulOk i j:=by
 rcases h with ⟨h1,h2⟩|⟨h1,h2⟩
 ·exact .of_left (intBits_le_64 h1 h2)
 ·exact .of_right (intBits_le_64 h1 h2)
theorem two_pow_nn (k:Nat):(0:Int)≤2 ^ k:=by
 rw [two_pow_cast]
 exact Int.natCast_nonneg _
theorem op_add:OpR X (binaryOp .Add) (rI0 fun i j => .int (i+j)):=opI0 fun _ _ _ _ _ _ _ q=>add_int q
theorem op_sub:OpR X (binaryOp .Sub) (rI0 fun i j => .int (i-j)):=opI0 fun _ _ _ _ _ _ _ q=>sub_int q
theorem op_mul:OpR X (binaryOp .Mult) (rI CMul fun i j => .int (i*j)):=opI fun _ _ _ _ _ _ _ hc q=>mul_int q hc.ok
theorem op_fdiv:OpR X (binaryOp .FloorDiv) (rI CDiv fun i j => .int (i / j)):=opI fun i j _ _ _ _ _ hc q=>by
 have h1:(0:Int)<j:=hc.1
 have h2:j<1073741824:=hc.2
 exact floordiv_int (by first|lia|omega) (by rw [Int.fdiv_eq_ediv_of_nonneg i (by first|lia|omega)];exact q) (.inl (PyProof.noPylong_small (by first|lia|omega)))
theorem op_mod:OpR X (binaryOp .Mod) (rI (fun _ j=>0<j) fun i j => .int (i % j)):=opI fun i j _ _ _ _ _ hc q=>by
 have h1:(0:Int)<j:=hc
 exact mod_int' (by first|lia|omega) (by rw [Int.fmod_eq_emod_of_nonneg i (by first|lia|omega)];exact q)
theorem op_pow:OpR X (binaryOp .Pow) (rI CPow fun i j => .int (i ^ j.toNat)):=opI fun _ _ _ _ _ _ _ hc q=>pow_int_small hc.1 hc.2.1 hc.2.2 q
theorem op_shl:OpR X (binaryOp .LShift) (rI CPow fun i j => .int (i*2 ^ j.toNat)):=opI fun _ _ _ _ _ _ _ hc q=>lshift_int_small hc.1 hc.2.1 hc.2.2 q
theorem op_and:OpR X (binaryOp .BitAnd) (rI0 fun i j => .int (Builtin.bitAnd i j)):=opI0 fun _ _ _ _ _ _ _ q=>and_int q
theorem iop_mul:OpR X (inplaceOp .Mult) (rI CMul fun i j => .int (i*j)):=opI fun _ _ _ _ _ _ _ hc q=>imul_int q hc.ok
theorem iop_fdiv:OpR X (inplaceOp .FloorDiv) (rI CDiv fun i j => .int (i / j)):=opI fun i j _ _ _ _ _ hc q=>by
 have h1:(0:Int)<j:=hc.1
 have h2:j<1073741824:=hc.2
 exact ifloordiv_int (by first|lia|omega) (by rw [Int.fdiv_eq_ediv_of_nonneg i (by first|lia|omega)];exact q) (.inl (PyProof.noPylong_small (by first|lia|omega)))
theorem unI {f:Value→Sem Value} {g:Int→Int}
  (rule:∀(i:Int) (t:Tok) (s:Shared) (Q:Value→Shared→Prop) (E:Value→Shared→Prop),Q (.int (g i) s.toks) { s with toks:=s.toks+1 } → wpAny (model X.prog X.w) X.A (f (.int i t)) Q E s) :
  UnR X f (rU fun i => .int (g i)):=by
 intro pins s σ H x v Q I rx h
 obtain ⟨i,rfl,q⟩:=h
 obtain ⟨t,rfl⟩:=rx
 exact rule i t s _ _ ⟨.int (g i),H,I.tok _,⟨_,rfl⟩,q⟩
theorem un_neg:UnR X (unaryOp .USub) (rU fun i => .int (-i)):=unI fun _ _ _ _ _ q=>neg_int q
end
def scal:V→V→Bool
 | .non, .non=>true | .non, .int _=>true | .int _, .non=>true | .non, .bl _=>true | .bl _, .non=>true | .non, .str _=>true | .str _, .non=>true
 | .int _, .int _=>true | .bl _, .bl _=>true | .str _, .str _=>true | .byt _, .byt _=>true
 | .int _, .str _=>true | .str _, .int _=>true | .bl _, .str _=>true | .str _, .bl _=>true
 | _,_=>false
def rEq:R2:=fun x y H Q=>scal x y=true∧Q (.bl (decide (x=y))) H
def rNe:R2:=fun x y H Q=>scal x y=true∧Q (.bl (!decide (x=y))) H
theorem dec_int {i j:Int} : decide (V.int i=V.int j)=(i == j):=by
 rw [Bool.eq_iff_iff]
 simp
theorem dec_bl {i j:Bool} : decide (V.bl i=V.bl j)=(i == j):=by
 rw [Bool.eq_iff_iff]
 simp
theorem dec_str {i j:Str} : decide (V.str i=V.str j)=(i == j):=by
 rw [Bool.eq_iff_iff]
 simp
theorem dec_byt {i j:Array UInt8} : decide (V.byt i=V.byt j)=(i.toList == j.toList):=by
 rw [Bool.eq_iff_iff]
 cases i
 cases j
 simp
section
variable {X:Cx} {a b c:Expr} {ta tb tc:TE} {pos:Pos}
theorem fin_bl {pins:List (Addr×Obj)} {σ:St} {H:Hp} {s:Shared} {Q:VK} {k k':Bool} (I:Inv X pins σ H s) (q:Q (.bl k) H) (e:k=k'):EP X pins σ Q (.bool k') s:=by
 subst e
 exact ⟨.bl k,H,I,rfl,q⟩
theorem op_eq:OpR X (compareOp .Eq) rEq:=by
 intro pins s σ H x y v u Q I rx ry h
 obtain ⟨hs,q⟩:=h
 cases x with
 | non=>
  cases rx
  cases y with
  | non=>cases ry;exact PySem.EqNone.eq_none_none (fin_bl I q (by simp))
  | bl j=>cases ry;exact PySem.EqNone.eq_none_bool (fin_bl I q (by simp))
  | int j=>obtain ⟨t',rfl⟩:=ry;exact PySem.EqNone.eq_none_int (fin_bl I q (by simp))
  | str j=>obtain ⟨t',rfl⟩:=ry;exact PySem.EqNone.eq_none_str (fin_bl I q (by simp))
  | _=>exact absurd (show false=true from hs) Bool.false_ne_true
 | bl i=>
  cases rx
  cases y with
  | non=>cases ry;exact PySem.EqNone.eq_bool_none (fin_bl I q (by simp))
  | bl j=>cases ry;exact eq_bool (fin_bl I q dec_bl)
  | str j=>obtain ⟨t',rfl⟩:=ry;exact PySem.EqMixed.eq_bool_str (fin_bl I q (by simp))
  | _=>exact absurd (show false=true from hs) Bool.false_ne_true
 | int i=>
  obtain ⟨t,rfl⟩:=rx
  cases y with
  | non=>cases ry;exact PySem.EqNone.eq_int_none (fin_bl I q (by simp))
  | int j=>obtain ⟨t',rfl⟩:=ry;exact eq_int (fin_bl I q dec_int)
  | str j=>obtain ⟨t',rfl⟩:=ry;exact PySem.EqMixed.eq_int_str (fin_bl I q (by simp))
  | _=>exact absurd (show false=true from hs) Bool.false_ne_true
 | str i=>
  obtain ⟨t,rfl⟩:=rx
  cases y with
  | non=>cases ry;exact PySem.EqNone.eq_str_none (fin_bl I q (by simp))
  | bl j=>cases ry;exact PySem.EqMixed.eq_str_bool (fin_bl I q (by simp))
  | int j=>obtain ⟨t',rfl⟩:=ry;exact PySem.EqMixed.eq_str_int (fin_bl I q (by simp))
  | str j=>obtain ⟨t',rfl⟩:=ry;exact eq_str (fin_bl I q dec_str)
  | _=>exact absurd (show false=true from hs) Bool.false_ne_true
 | byt i=>
  obtain ⟨t,rfl⟩:=rx
  cases y with
  | byt j=>obtain ⟨t',rfl⟩:=ry;exact PySem.W.eq_bytes (fin_bl I q dec_byt)
  | _=>exact absurd (show false=true from hs) Bool.false_ne_true
 | _=>cases y <;> exact absurd (show false=true from hs) Bool.false_ne_true
theorem op_ne:OpR X (compareOp .NotEq) rNe:=by
 intro pins s σ H x y v u Q I rx ry h
 obtain ⟨hs,q⟩:=h
 cases x with
 | non=>
  cases rx
  cases y with
  | non=>cases ry;exact PySem.EqNone.ne_none_none (fin_bl I q (by simp))
  | bl j=>cases ry;exact PySem.EqNone.ne_none_bool (fin_bl I q (by simp))
  | int j=>obtain ⟨t',rfl⟩:=ry;exact PySem.EqNone.ne_none_int (fin_bl I q (by simp))
  | str j=>obtain ⟨t',rfl⟩:=ry;exact PySem.EqNone.ne_none_str (fin_bl I q (by simp))
  | _=>exact absurd (show false=true from hs) Bool.false_ne_true
 | bl i=>
  cases rx
  cases y with
  | non=>cases ry;exact PySem.EqNone.ne_bool_none (fin_bl I q (by simp))
  | bl j=>cases ry;exact ne_bool (fin_bl I q (congrArg not dec_bl))
  | str j=>obtain ⟨t',rfl⟩:=ry;exact PySem.EqMixed.ne_bool_str (fin_bl I q (by simp))
  | _=>exact absurd (show false=true from hs) Bool.false_ne_true
 | int i=>
  obtain ⟨t,rfl⟩:=rx
  cases y with
  | non=>cases ry;exact PySem.EqNone.ne_int_none (fin_bl I q (by simp))
  | int j=>obtain ⟨t',rfl⟩:=ry;exact ne_int (fin_bl I q (congrArg not dec_int))
  | str j=>obtain ⟨t',rfl⟩:=ry;exact PySem.EqMixed.ne_int_str (fin_bl I q (by simp))
  | _=>exact absurd (show false=true from hs) Bool.false_ne_true
 | str i=>
  obtain ⟨t,rfl⟩:=rx
  cases y with
  | non=>cases ry;exact PySem.EqNone.ne_str_none (fin_bl I q (by simp))
  | bl j=>cases ry;exact PySem.EqMixed.ne_str_bool (fin_bl I q (by simp))
  | int j=>obtain ⟨t',rfl⟩:=ry;exact PySem.EqMixed.ne_str_int (fin_bl I q (by simp))
  | str j=>obtain ⟨t',rfl⟩:=ry;exact ne_str (fin_bl I q (congrArg not dec_str))
  | _=>exact absurd (show false=true from hs) Bool.false_ne_true
 | byt i=>
  obtain ⟨t,rfl⟩:=rx
  cases y with
  | byt j=>obtain ⟨t',rfl⟩:=ry;exact PySem.W.ne_bytes (fin_bl I q (congrArg not dec_byt))
  | _=>exact absurd (show false=true from hs) Bool.false_ne_true
 | _=>cases y <;> exact absurd (show false=true from hs) Bool.false_ne_true
theorem op_lt:OpR X (compareOp .Lt) (rI0 fun i j => .bl (decide (i<j))):=opB0 fun _ _ _ _ _ _ _ q=>lt_int q
theorem op_le:OpR X (compareOp .LtE) (rI0 fun i j => .bl (decide (i≤j))):=opB0 fun _ _ _ _ _ _ _ q=>le_int q
theorem op_gt:OpR X (compareOp .Gt) (rI0 fun i j => .bl (decide (j<i))):=opB0 fun _ _ _ _ _ _ _ q=>gt_int q
theorem op_ge:OpR X (compareOp .GtE) (rI0 fun i j => .bl (decide (j≤i))):=opB0 fun _ _ _ _ _ _ _ q=>ge_int q
theorem op_isN:OpR X (compareOp .Is) (fun x y H Q=>y = .non∧Q (.bl (decide (x = .non))) H):=by
 intro pins s σ H x y v u Q I rx ry h
 obtain ⟨rfl,q⟩:=h
 cases ry
 refine is_none_gen (fin_bl I q ?_)
 cases x <;> first
  | (cases rx;rfl)
  | (obtain ⟨t,rfl⟩:=rx;rfl)
theorem op_notN:OpR X (compareOp .IsNot) (fun x y H Q=>y = .non∧Q (.bl (!decide (x = .non))) H):=by
 intro pins s σ H x y v u Q I rx ry h
 obtain ⟨rfl,q⟩:=h
 cases ry
 refine isnot_none_gen (fin_bl I q ?_)
 cases x <;> first
  | (cases rx;rfl)
  | (obtain ⟨t,rfl⟩:=rx;rfl)
theorem OpR.or {f:Value→Value→Sem Value} {r r':R2} (h:OpR X f r) (h':OpR X f r'):OpR X f (fun x y H Q=>r x y H Q∨r' x y H Q):=by
 intro pins s σ H x y v u Q I rx ry q
 rcases q with q|q
 ·exact h s σ H x y v u Q I rx ry q
 ·exact h' s σ H x y v u Q I rx ry q
theorem nomark (b:Expr) {op:CmpOp} (h:op ≠ .In:=by decide) (h2:op ≠ .NotIn:=by decide):behindInMarks op b=false:=by
 have e1:(op == CmpOp.In)=false:=by cases op <;> first|rfl|exact absurd rfl h
 have e2:(op == CmpOp.NotIn)=false:=by cases op <;> first|rfl|exact absurd rfl h2
 cases b <;> simp [behindInMarks,e1,e2]
theorem pe_cmpR {op:CmpOp} {r:R2} (ho:OpR X (compareOp op) r) (ha:PE X a ta) (hb:PE X b tb) (hm:behindInMarks op b=false):PE X (.Compare a [op] [b] pos) (tOp r ta tb):=by
 intro pins s σ H Q I h
 exact wpAny_Compare1 (binT ha hb I h fun v u s2 x y H2 I2 rx ry q=>ho s2 σ H2 x y v u Q I2 rx ry q) hm
def tTest (t:TE):TT:=fun σ H Q=>t σ H fun x H'=>∃k,x = .bl k∧Q k H'
theorem pt_cmpR {op:CmpOp} {r:R2} (ho:OpR X (compareOp op) r) (ha:PE X a ta) (hb:PE X b tb) (hm:behindInMarks op b=false):PT X (.Compare a [op] [b] pos) (tTest (tOp r ta tb)):=by
 intro pins s σ H Q I h
 refine wpAny_isTrue_Compare1 (thn (ha s σ H _ I h) fun v s1 ⟨x,H1,I1,r1,q1⟩=>thn (hb s1 σ H1 _ I1 q1) fun u s2 ⟨y,H2,I2,r2,q2⟩=>
  thn (ho s2 σ H2 x y v u _ I2 r1 r2 q2) fun c s3 ⟨z,H3,I3,r3,k,e,q3⟩ => ?_) hm
 subst e
 cases r3
 exact wpAny_truthy_bool ⟨H3,I3,q3⟩
def tChain (r r':R2) (ta tb tc:TE):TE:=fun σ H Q=>ta σ H fun x H1=>tb σ H1 fun y H2=>r x y H2 fun z H3=>∃k,z = .bl k ∧
 (if k=true then tc σ H3 fun w' H4=>r' y w' H4 Q else Q (.bl false) H3)
theorem pe_chain {op op':CmpOp} {r r':R2} (ho:OpR X (compareOp op) r) (ho':OpR X (compareOp op') r') (ha:PE X a ta) (hb:PE X b tb) (hc:PE X c tc)
  (hm:lastMarks [op,op'] [b,c]=false:=by with_unfolding_all rfl):PE X (.Compare a [op,op'] [b,c] pos) (tChain r r' ta tb tc):=by
 intro pins s σ H Q I h
 refine Compare_chain (thn (ha s σ H _ I h) fun v s1 ⟨x,H1,I1,r1,q1⟩=>chain_link (thn (hb s1 σ H1 _ I1 q1) fun u s2 ⟨y,H2,I2,r2,q2⟩=>
  thn (ho s2 σ H2 x y v u _ I2 r1 r2 q2) fun d s3 ⟨z,H3,I3,r3,k,e,q3⟩ => ?_)) hm
 subst e
 cases r3
 refine wpAny_truthy_bool ?_
 cases k with
 | false=>exact ite_ff ⟨.bl false,H3,I3,rfl,q3⟩
 | true=>exact ite_tt (chain_last (thn (hc s3 σ H3 _ I3 q3) fun w' s4 ⟨z',H4,I4,r4,q4⟩=>ho' s4 σ H4 y z' u w' Q I4 r2 r4 q4))
theorem line63:(sizeLine:Nat)<2 ^ 63:=by rw [sizeLine_eq];decide
theorem op_add_str:OpR X (binaryOp .Add) (fun x y H Q=>∃i j,x = .str i∧y = .str j∧i.length+j.length≤sizeLine∧Q (.str (i++j)) H):=by
 intro pins s σ H x y v u Q I rx ry h
 obtain ⟨i,j,rfl,rfl,hz,q⟩:=h
 obtain ⟨t,rfl⟩:=rx
 obtain ⟨t',rfl⟩:=ry
 exact add_str (fun t' tk=>⟨.str (i++j),H,I.tok _,⟨_,rfl⟩,q⟩) hz
theorem vals1 {x:V} {us:List Value} (r:Vals [x] us):∃u,us=[u]∧RelV x u:=by
 cases r with
 | cons r1 r2=>cases r2;exact ⟨_,rfl,r1⟩
theorem vals2 {x y:V} {us:List Value} (r:Vals [x,y] us):∃u w',us=[u,w']∧RelV x u∧RelV y w':=by
 cases r with
 | cons r1 r2=>
  cases r2 with
  | cons r3 r4=>cases r4;exact ⟨_,_,rfl,r1,r3⟩
theorem call_min2 (hc:X.calm=true):CallR X (.builtin "min") (fun xs H Q=>∃i j,xs=[.int i, .int j]∧Q (.int (if j<i then j else i)) H):=by
 intro pins s σ H xs us Q I r h
 obtain ⟨i,j,rfl,q⟩:=h
 obtain ⟨u,w',rfl,⟨t,rfl⟩,⟨t',rfl⟩⟩:=vals2 r
 refine min_two_ints (I.ok.hd hc) fun h' tk k=>⟨_,H,I.kept k,?_,q⟩
 by_cases hj:j<i
 ·rw [if_pos hj,if_pos hj];exact ⟨_,rfl⟩
 ·rw [if_neg hj,if_neg hj];exact ⟨_,rfl⟩
theorem call_int1:CallR X (.type "int") (fun xs H Q=>(∃i,xs=[.int i]∧Q (.int i) H)∨∃k,xs=[.bl k]∧Q (.int (if k then 1 else 0)) H):=by
 intro pins s σ H xs us Q I r h
 rcases h with ⟨i,rfl,q⟩|⟨k,rfl,q⟩
 ·obtain ⟨u,rfl,t,rfl⟩:=vals1 r
  exact call_int_int ⟨.int i,H,I,⟨_,rfl⟩,q⟩
 ·obtain ⟨u,rfl,r1⟩:=vals1 r
  cases r1
  exact call_int_bool ⟨.int (if k then 1 else 0),H,I.tok _,⟨_,rfl⟩,q⟩
theorem call_str_int:CallR X (.type "str") (fun xs H Q=>∃i,xs=[.int i]∧i.natAbs.log2<1920∧Q (.str (toString i)) H):=by
 intro pins s σ H xs us Q I r h
 obtain ⟨i,rfl,hz,q⟩:=h
 obtain ⟨u,rfl,t,rfl⟩:=vals1 r
 exact PySem.P.str_of_int hz ⟨.str _,H,I.tok _,⟨_,rfl⟩,q⟩
def LenV (K:PySem.W.Frag) (x:V) (H:Hp) (n:Nat):Prop:=
 match x with
 | .str y=>y.length≤sizeLine∧n=y.length
 | .byt y=>y.size≤sizeLine∧n=y.size
 | .ref p=>(∃xs,SqL K H p xs∧n=xs.length)∨∃xs,SqT K H p xs∧n=xs.length
 | _=>False
theorem call_len:CallR X (.builtin "len") (fun xs H Q=>∃x n,xs=[x]∧LenV X.K x H n∧Q (.int n) H):=by
 intro pins s σ H xs us Q I r h
 obtain ⟨x,n,rfl,e,q⟩:=h
 obtain ⟨u,rfl,rx⟩:=vals1 r
 have hl:=line63
 have hs:sizeLine=16777216:=sizeLine_eq
 cases x with
 | str y=>
  obtain ⟨t,rfl⟩:=rx
  obtain ⟨hy,e'⟩:y.length≤sizeLine∧n=y.length:=e
  subst e'
  exact len_str (by first|lia|omega) ⟨.int _,H,I.tok _,⟨_,rfl⟩,q⟩
 | byt y=>
  obtain ⟨t,rfl⟩:=rx
  obtain ⟨hy,e'⟩:y.size≤sizeLine∧n=y.size:=e
  subst e'
  exact PySem.W.len_bytes (by first|lia|omega) ⟨.int _,H,I.tok _,⟨_,rfl⟩,q⟩
 | ref p=>
  cases rx
  have e':(∃xs,SqL X.K H p xs∧n=xs.length)∨∃xs,SqT X.K H p xs∧n=xs.length:=e
  rcases e' with ⟨xs,hx,e'⟩|⟨xs,hx,e'⟩
  ·subst e'
   obtain ⟨its,r',pl,hz⟩:=I.list hx
   have hlen:=r'.length
   exact Calls.call_len_list pl.isList (by simp only [List.size_toArray]; (first|lia|omega)) ⟨.int xs.length,H,I.tok _,⟨_,by simp only [List.size_toArray];rw [hlen]⟩,q⟩
  ·subst e'
   obtain ⟨its,r',pl,hz⟩:=I.tuple hx
   have hlen:=r'.length
   exact len_tuple pl (by simp only [List.size_toArray]; (first|lia|omega)) ⟨.int xs.length,H,I.tok _,⟨_,by simp only [List.size_toArray];rw [hlen]⟩,q⟩
 | _=>exact (show False from e).elim
theorem call_divmod:CallR X (.builtin "divmod") (fun xs H Q=>∃i j,xs=[.int i, .int j]∧CDiv i j∧∀p,H p=none→Q (.ref p) (upd H p (.tup [.int (i / j), .int (i % j)]))):=by
 intro pins s σ H xs us Q I r h
 obtain ⟨i,j,rfl,⟨h1,h2⟩,q⟩:=h
 obtain ⟨u,w',rfl,⟨t,rfl⟩,⟨t',rfl⟩⟩:=vals2 r
 refine divmod_int (by first|lia|omega) ?_ (.inl (PyProof.noPylong_small (by first|lia|omega)))
 rw [Int.fdiv_eq_ediv_of_nonneg i (by first|lia|omega),Int.fmod_eq_emod_of_nonneg i (by first|lia|omega)]
 have hn:H s.heap.objs.size=none:=I.hok.fresh (Nat.le_refl _)
 refine ⟨.ref s.heap.objs.size,_,?_,rfl,q _ hn⟩
 refine I.laid (fun b o e=>Heap.get?_push_of_some _ e) (Nat.le_refl _) ⟨by simp only [List.length_cons,List.length_nil];rw [sizeLine_eq];decide,[.int (i / j) s.toks, .int (i % j) (s.toks+1)], .cons ⟨_,rfl⟩ (.cons ⟨_,rfl⟩ .nil),?_⟩
 exact ⟨_,Heap.get?_push_size s.heap rfl,rfl,0,rfl⟩
end
end L2
namespace L2
open PySem PySem.Spec PyProof.Rows
structure ObjM (h:Heap) (x dx C:Addr) (mA:Str→Option Value):Prop where
 obj:h.get? x=some (PySem.W.instObj C dx)
 ns:h.Ns1 dx mA
 ne:dx≠x
theorem lookIn_ns {h:Heap} {dx:Addr} {mA:Str→Option Value} (n:h.Ns1 dx mA):∃od,h.get? dx=some od∧∀name,PySem.W.lookIn name od=some (mA name):=by
 obtain ⟨o,es,ep,ho,hd,hk,_,hm⟩:=n
 refine ⟨o,ho,fun name => ?_⟩
 have e:=hm name
 unfold nsFind findBy at e
 rw [←Array.find?_toList] at e
 unfold PySem.W.lookIn
 rw [hd]
 dsimp only
 split
 ·rename_i y q
  rw [q] at e
  exact congrArg some e
 ·rename_i q
  rw [q] at e
  have a:es.toList.any (·.refKey)=false:=by
   rw [List.any_eq_false]
   intro y hy
   obtain ⟨z,t,hkey⟩:=hk y (Array.mem_toList_iff.mp hy)
   simp [DictEntry.refKey,hkey]
  have a':¬es.toList.any (·.refKey)=true:=by rw [a];exact Bool.false_ne_true
  rw [if_neg a']
  exact congrArg some e
theorem ObjM.look {h:Heap} {x dx C:Addr} {mA:Str→Option Value} (I:ObjM h x dx C mA):∃od,PySem.W.InstAt h x (PySem.W.instObj C dx) C (some od)∧∀name,PySem.W.lookIn name od=some (mA name):=
 let ⟨od,ho,hl⟩:=lookIn_ns I.ns
 ⟨od,⟨I.obj,rfl,rfl,ho⟩,hl⟩
section
variable {prog:Program} {w:World} {A:Around} {E:Value→Shared→Prop} {s:Shared} {K:PySem.W.Frag} {x dx C f:Addr} {mA:Str→Option Value} {name:Str} {v:Value}
end
theorem RelO.some_of {v:V} {o:Option Value} (r:RelO (some v) o):∃u,o=some u∧RelV v u:=by
 cases o with
 | none=>exact (show False from r).elim
 | some u=>exact ⟨u,rfl,r⟩
section
variable {P:Program} {w:World} {H H':Hp} {h h':Heap} {a C dx:Addr} {fs fs':List (Str×V)}
theorem ins_get (hok:HOk P w H h) (e:H a=some (.ins C dx fs)):∃mA,ObjM h a dx C mA∧(∀f,RelO (fs.lookup f) (mA f))∧PySem.Within mA (fs.map (·.1))∧fs.length≤1000∧H dx=some (.own a):=by
 obtain ⟨d,z,ne,ob,mA,n,r,q⟩:=(show ObjOk P w H h a (.ins C dx fs) from hok a _ e)
 exact ⟨mA,⟨ob,n,ne⟩,r,q,z,d⟩
end
structure Cls (K:PySem.W.Frag) (C:Addr):Prop where
 pg:PySem.W.plainGet K C Str.empty=true
 hd:PySem.W.hasDictIn K C=true
 po:PySem.W.plainOver K C=true
 sa:PySem.W.findIn K (.ref C) "__setattr__" = some (some (.builtin "object.__setattr__"))
theorem Cls.get {K:PySem.W.Frag} {C:Addr} (c:Cls K C) (f:Str):PySem.W.plainGet K C f=true:=c.pg
section
variable {X:Cx} {pins:List (Addr×Obj)} {σ:St} {H:Hp} {s:Shared} {a C dx:Addr} {fs:List (Str×V)} {f:Str} {v:V} {A:Around} {E:Value→Shared→Prop}
end
section
variable {X:Cx} {o e value:Expr} {f:Str} {pos pos' tpos:Pos} {ta tv:TE}
end
section
variable {X:Cx} {pins:List (Addr×Obj)} {σ:St} {H:Hp} {s:Shared} {A:Around} {E:Value→Shared→Prop} {Q:Value→Shared→Prop} {c:Value} {b:Bool}
inductive TyOf (K:PySem.W.Frag) (H:Hp):V→Value→Prop where
 | non:TyOf K H .non (.type "NoneType")
 | bl (x:Bool):TyOf K H (.bl x) (.type "bool")
 | int (i:Int):TyOf K H (.int i) (.type "int")
 | str (x:Str):TyOf K H (.str x) (.type "str")
 | flt (x:UInt64):TyOf K H (.flt x) (.type "float")
 | lst {a:Addr} {xs:List V} (e:H a=some (.lst xs)):TyOf K H (.ref a) (.type "list")
 | frz {a:Addr} {o:Obj} {xs:List V} (e:H a=some (.frz o (.lst xs))):TyOf K H (.ref a) (.type "list")
 | tup {a:Addr} {xs:List V} (e:H a=some (.tup xs)):TyOf K H (.ref a) (.type "tuple")
 | dK {a:Addr} {kvs:List (Key×V)} (e:H a=some (.dK kvs)):TyOf K H (.ref a) (.type "dict")
 | dT {a:Addr} {kvs:List (List Key×V)} (e:H a=some (.dT kvs)):TyOf K H (.ref a) (.type "dict")
 | ins {a C dx:Addr} {fs:List (Str×V)} (e:H a=some (.ins C dx fs)) (cl:Cls K C) (ha:PySem.W.findIn K (.ref C) "__class__" = some (some (.builtin "object.__class__")))
   (hn:PySem.W.specialIn K (.builtin "object.__class__") "__get__" = some (some (.builtin "getset_descriptor.__get__"))) (htk:PySem.W.takesIn K (.builtin "object.__class__")=some true)
   (hm:PySem.W.mroIn K C (.type "object")=some true):TyOf K H (.ref a) (.ref C)
theorem isinst_ok {x:V} {u t:Value} (I:Inv X pins σ H s) (rx:RelV x u) (ty:TyOf X.K H x t) (e:PySem.W.kitOne X.K t c=some b) (h:∀tk,Q (.bool b) { s with toks:=tk }) :
  wpAny (model X.prog X.w) A (call (.builtin "isinstance") [u,c]) Q E s:=by
 cases ty with
 | non=>cases (show u=Value.none from rx);exact PySem.W.kia_one PySem.W.kitx_none I.kIn True.intro e (fun z=>nomatch z) h
 | bl y=>cases (show u=Value.bool y from rx);exact PySem.W.kia_one PySem.W.kitx_bool I.kIn True.intro e (fun z=>nomatch z) h
 | int i=>obtain ⟨t,q⟩:=(show ∃t,u=Value.int i t from rx);cases q;exact PySem.W.kia_one PySem.W.kitx_int I.kIn True.intro e (fun z=>nomatch z) h
 | str y=>obtain ⟨t,q⟩:=(show ∃t,u=Value.str y t from rx);cases q;exact PySem.W.kia_one PySem.W.kitx_str I.kIn True.intro e (fun z=>nomatch z) h
 | flt y=>obtain ⟨t,q⟩:=(show ∃t,u=Value.float y t from rx);cases q;exact PySem.W.kia_one PySem.W.kitx_float I.kIn True.intro e (fun z=>nomatch z) h
 | @lst a xs ea=>
  cases (show u=Value.ref a from rx)
  obtain ⟨_,_,n,_,h1⟩:=(show ObjOk X.prog X.w H s.heap a (.lst xs) from I.hok a _ ea)
  exact PySem.W.kia_one PySem.W.kitx_list I.kIn ⟨_,h1,rfl⟩ e (fun z=>nomatch z) h
 | @frz a ob xs ea=>
  cases (show u=Value.ref a from rx)
  obtain ⟨_,_,_,n,_,h1⟩:=(show ObjOk X.prog X.w H s.heap a (.frz ob (.lst xs)) from I.hok a _ ea)
  exact PySem.W.kia_one PySem.W.kitx_list I.kIn ⟨_,h1,rfl⟩ e (fun z=>nomatch z) h
 | @tup a xs ea=>
  cases (show u=Value.ref a from rx)
  obtain ⟨_,_,_,p⟩:=(show ObjOk X.prog X.w H s.heap a (.tup xs) from I.hok a _ ea)
  obtain ⟨o,h1,h2,_⟩:=p
  exact PySem.W.kia_one PySem.W.kitx_tuple I.kIn ⟨o,h1,h2⟩ e (fun z=>nomatch z) h
 | @dK a kvs ea=>
  cases (show u=Value.ref a from rx)
  obtain ⟨_,_,vs,_,p⟩:=(show ObjOk X.prog X.w H s.heap a (.dK kvs) from I.hok a _ ea)
  obtain ⟨o,es,ep,h1,h2,_⟩:=p
  exact PySem.W.kia_one PySem.W.kitx_dict I.kIn ⟨o,h1,h2.1⟩ e (fun z=>nomatch z) h
 | @dT a kvs ea=>
  cases (show u=Value.ref a from rx)
  obtain ⟨_,_,xs,_,o,es,ep,h1,h2,_⟩:=(show ObjOk X.prog X.w H s.heap a (.dT kvs) from I.hok a _ ea)
  exact PySem.W.kia_one PySem.W.kitx_dict I.kIn ⟨o,h1,h2.1⟩ e (fun z=>nomatch z) h
 | @ins a C dx fs ea cl ha hn htk hm=>
  cases (show u=Value.ref a from rx)
  obtain ⟨mA,O,_⟩:=ins_get I.hok ea
  obtain ⟨od,J,_⟩:=O.look
  exact PySem.W.kia_one (PySem.W.kitx_own (cl.get _) cl.hd ha hn htk hm) I.kIn J e (fun z=>nomatch z) h
end
end L2
namespace L2
open PySem PySem.Spec PyProof.Rows
structure Room (k:Nat) (A:Around):Prop where
 hd:A.handled=none
 dp:A.depth+3*k+5<recursionLimit
 un:A.units+16*k+200<cLine
 gd:A.guards=some []
theorem Room.mono {j k:Nat} {A:Around} (r:Room k A) (h:j≤k):Room j A:=⟨r.hd,by have:=r.dp; (first|lia|omega),by have:=r.un; (first|lia|omega),r.gd⟩
theorem Room.deeper {k:Nat} {A:Around} (r:Room (k+1) A) (env:Env):Room k (A.deeper env):=
 ⟨r.hd,by have:=r.dp;show A.depth+1+3*k+5<_; (first|lia|omega),by have:=r.un;show A.units+3+16*k+200<_; (first|lia|omega),r.gd⟩
theorem Room.depth {k:Nat} {A:Around} (r:Room k A):A.depth<recursionLimit:=by have:=r.dp; (first|lia|omega)
theorem Room.units {k:Nat} {A:Around} (r:Room k A):A.units+64<cLine:=by have:=r.un; (first|lia|omega)
def tNil:TA:=fun _ H Q=>Q [] H
def tCons (ta:TE) (tr:TA):TA:=fun σ H Q=>ta σ H fun x H1=>tr σ H1 fun xs H2=>Q (x :: xs) H2
section
variable {X:Cx} {e:Expr} {es:List Expr} {te:TE} {t:TA} {pos:Pos}
theorem pa_nil:PA X [] tNil:=fun _ _ _ _ H Q I h=>Calls.spliced_nil ⟨[],H,I, .nil,h⟩
theorem pa_cons (ha:PE X e te) (hr:PA X es t) (hs:starEach (e :: es) X.env=(false,eval e X.env) :: starEach es X.env:=by rfl):PA X (e :: es) (tCons te t):=by
 intro pos pins s σ H Q I h
 rw [hs]
 show wpAny _ _ (spliced ((false,eval e X.env) :: backTo pos (starEach es X.env))) _ _ s
 refine Calls.spliced_cons (thn (ha s σ H _ I h) fun u s1 ⟨x,H1,I1,r1,q1⟩ => ?_)
 exact thn (hr s1 σ H1 _ I1 q1) fun us s2 ⟨xs,H2,I2,r2,q2⟩=>⟨x :: xs,H2,I2, .cons r1 r2,q2⟩
def tTup (t:TA):TE:=fun σ H Q=>t σ H fun xs H1=>xs.length≤sizeLine∧∀p,H1 p=none→Q (.ref p) (upd H1 p (.tup xs))
def tLst (t:TA):TE:=fun σ H Q=>t σ H fun xs H1=>xs.length≤sizeLine∧∀p,H1 p=none→Q (.ref p) (upd H1 p (.lst xs))
theorem pe_tup {x1} (h:PA X es t):PE X (.Tuple es x1 pos) (tTup t):=by
 intro pins s σ H Q I hq
 refine wpAny_Tuple_spliced (thn (h s σ H _ I hq) fun us s1 ⟨xs,H1,I1,r,z,q⟩=>⟨by rw [←r.length];exact z,?_⟩)
 have hf:H1 s1.heap.objs.size=none:=I1.hok.fresh (Nat.le_refl _)
 refine ⟨.ref s1.heap.objs.size,upd H1 s1.heap.objs.size (.tup xs),I1.laid (t':=s1.toks) (fun b u e=>Heap.get?_push_of_some _ e) (Nat.le_refl _) ?_,rfl,q _ hf⟩
 exact ⟨z,us,r,⟨_,Heap.get?_push_size _ rfl,rfl,_,rfl⟩⟩
theorem pe_lst (h:PA X es t):PE X (.List es pos) (tLst t):=by
 intro pins s σ H Q I hq
 refine wpAny_List_spliced (thn (h s σ H _ I hq) fun us s1 ⟨xs,H1,I1,r,z,q⟩=>⟨by rw [←r.length];exact z,?_⟩)
 have hf:H1 s1.heap.objs.size=none:=I1.hok.fresh (Nat.le_refl _)
 refine ⟨.ref s1.heap.objs.size,upd H1 s1.heap.objs.size (.lst xs),I1.laid (t':=s1.toks) (fun b u e=>Heap.get?_push_of_some _ e) (Nat.le_refl _) ?_,rfl,q _ hf⟩
 exact ⟨z,us,0,r,Heap.get?_push_size _ rfl⟩
end
abbrev Sp:=List V→Hp→VK→XK→Prop
abbrev CXT:=List Env→Hp→Shared→XK→Value→Shared→Prop
structure Env0 (P:Program) (w:World) (K:PySem.W.Frag) (mg:Str→Option Value) (base:Heap) (A:Around) (outer:List Env) (s:Shared) (H:Hp):Prop where
 frames:A.frames=some outer
 mod:Mod K mg base
 bs:∀b o,base.get? b=some o→s.heap.get? b=some o∧H b=none
 bsz:base.objs.size≤s.heap.objs.size
 funs:s.heap.FunFrames base outer
 frf:∀b∈frs outer,H b=none
 hok:HOk P w H s.heap
 bare:AllBare s.gens
def CE (outer:List Env) (P:Program) (w:World) (H:Hp) (s:Shared) (Q:VK) (u:Value) (s':Shared):Prop:=
 Ex2 fun v H'=>s'.os=s.os∧AllBare s'.gens∧Un (frs outer) [] H H' s.heap s'.heap∧HOk P w H' s'.heap∧RelV v u∧Q v H'
def CR (CX:CXT) (outer:List Env) (P:Program) (w:World) (H:Hp) (s:Shared) (Q:VK) (E:XK) (r:Result) (s':Shared):Prop:=
 match r with
 | .ok (.ret u)=>CE outer P w H s Q u s'
 | .ok _=>False
 | .error e=>CX outer H s E e s'
structure FnOk (P:Program) (w:World) (K:PySem.W.Frag) (mg:Str→Option Value) (base:Heap) (CX:CXT) (k:Nat) (f:Addr) (fd:FuncData) (ps:List Str) (sp:Sp):Prop where
 len:∀vs H Q E,sp vs H Q E→vs.length=ps.length
 run:∀(A:Around) (outer:List Env) (s:Shared) (H:Hp) (args:Args) (us:List Value) (vs:List V) (Q:VK) (E:XK),Room k A→Env0 P w K mg base A outer s H→BindsTo s fd args (ps.zip us)→Vals vs us→sp vs H Q E →
  codeAny (model P w) A (.call (.ref f) args) (CR CX outer P w H s Q E) s
theorem FnOk.mono {P:Program} {w:World} {K:PySem.W.Frag} {mg:Str→Option Value} {base:Heap} {CX:CXT} {j k:Nat} {f:Addr} {fd:FuncData} {ps:List Str} {sp:Sp} (F:FnOk P w K mg base CX j f fd ps sp) (h:j≤k) :
  FnOk P w K mg base CX k f fd ps sp:=⟨F.len,fun A outer s H args us vs Q E hr=>F.run A outer s H args us vs Q E (hr.mono h)⟩
theorem FnOk.imp {P:Program} {w:World} {K:PySem.W.Frag} {mg:Str→Option Value} {base:Heap} {CX:CXT} {k:Nat} {f:Addr} {fd:FuncData} {ps:List Str} {sp sp':Sp} (F:FnOk P w K mg base CX k f fd ps sp)
  (h:∀vs H Q E,sp' vs H Q E→sp vs H Q E):FnOk P w K mg base CX k f fd ps sp':=
 ⟨fun vs H Q E q=>F.len vs H Q E (h _ _ _ _ q),fun A outer s H args us vs Q E hr he hb hv hs=>F.run A outer s H args us vs Q E hr he hb hv (h _ _ _ _ hs)⟩
section
variable {X:Cx} {pins:List (Addr×Obj)} {σ:St} {H:Hp} {s s':Shared}
theorem Inv.env0 (I:Inv X pins σ H s):Env0 X.prog X.w X.K X.mg X.base X.A X.stack s H:=
 ⟨I.ok.frames,I.ok.mod,I.bs,Nat.le_trans I.ok.bsz I.sz,I.stack,I.stkFree,I.hok,I.bare⟩
theorem Inv.after {Q:VK} {u:Value} (I:Inv X pins σ H s) (h:CE X.stack X.prog X.w H s Q u s'):EP X pins σ Q u s':=by
 obtain ⟨v,H',os,bare,un,hok,r,q⟩:=h
 obtain ⟨hh,g,d,t,os'⟩:=s'
 obtain rfl:os'=s.os:=os
 exact ⟨v,H',I.call (h':=hh) (g':=g) (d':=d) (t':=t) (ch:=[]) un hok bare (fun b z=>absurd z (by simp)),r,q⟩
end
def tCall (sp:Sp) (dvs:List V) (E:XK) (t:TA):TE:=fun σ H Q=>t σ H fun vs H1=>sp (vs++dvs) H1 Q E
def Binds (K:PySem.W.Frag) (fd:FuncData) (ps:List Str) (ds:List Value):Prop:=
 ∀(s:Shared) (us:List Value),K.In s.heap→(us++ds).length=ps.length→BindsTo s fd ⟨us,[]⟩ (ps.zip (us++ds))
theorem Binds.all {K:PySem.W.Frag} {fd:FuncData} {ps:List Str} (h:∀us:List Value,us.length=ps.length→bindArgs fd ⟨us,[]⟩=pure (ps.zip us)):Binds K fd ps []:=fun s us _ hl=>by
 rw [List.append_nil] at hl ⊢
 exact .of_eq (h us hl)
def Passes (CX:CXT) (X:Cx) (E:XK):Prop:=∀(pins:List (Addr×Obj)) (σ:St) (H:Hp) (s:Shared) (e:Value) (s':Shared),Inv X pins σ H s→CX X.stack H s E e s'→X.xe e s'
section
variable {X:Cx} {CX:CXT} {k:Nat} {f C:Addr} {fd:FuncData} {ps:List Str} {sp:Sp} {dvs:List V} {ds:List Value} {E:XK} {x m:Str} {p pos apos:Pos} {e o:Expr} {es:List Expr} {ta:TE} {t:TA}
theorem run_fn {pins:List (Addr×Obj)} {σ:St} {H:Hp} {s:Shared} {Q:VK} {us:List Value} {vs:List V} (F:FnOk X.prog X.w X.K X.mg X.base CX k f fd ps sp) (hr:Room k X.A) (hb:Binds X.K fd ps ds) (hd:Vals dvs ds) (hx:Passes CX X E)
  (I:Inv X pins σ H s) (r:Vals vs us) (h:sp (vs++dvs) H Q E):wpAny (model X.prog X.w) X.A (call (.ref f) us) (EP X pins σ Q) X.xe s:=by
 have r2:Vals (vs++dvs) (us++ds):=r.append hd
 have hl:(us++ds).length=ps.length:=by rw [←r2.length];exact F.len _ _ _ _ h
 refine wpAny_call (codeAny_mono (F.run X.A X.stack s H ⟨us,[]⟩ (us++ds) (vs++dvs) Q E hr I.env0 (hb s us I.kIn hl) r2 h) fun r s' hq => ?_)
 cases r with
 | error e=>exact hx pins σ H s e s' I hq
 | ok fl=>
  cases fl with
  | ret u=>exact I.after hq
  | next=>exact False.elim hq
  | brk=>exact False.elim hq
  | cont=>exact False.elim hq
theorem pe_call (F:FnOk X.prog X.w X.K X.mg X.base CX k f fd ps sp) (hr:Room k X.A) (hg:Gl X x) (hm:X.mg x=some (.ref f)) (hk:PySem.W.keepIn X.K (.ref f)=true) (hb:Binds X.K fd ps ds) (hd:Vals dvs ds) (hx:Passes CX X E)
  (ha:PA X (e :: es) t) (hdb:(x == ("__debug__" : Str))=false:=by decide) (he:starEach (e :: es) X.env=(false,eval e X.env) :: starEach es X.env:=by rfl) (hpl:(backTo pos (starEach es X.env)).any (·.1)=false:=by rfl) :
  PE X (.Call (.Name x p) (e :: es) [] pos) (tCall sp dvs E t):=by
 intro pins s σ H Q I h
 refine wpAny_Call_Name_kw (ld_glob I hg hm ?_ hdb)
 refine PySem.W.callWith_K (h₀:=X.base) I.ok.mod.kin hk (thn (ha s σ H _ I h) fun us s1 ⟨vs,H1,I1,r,q⟩=>⟨I1.kIn,?_⟩) he hpl
 exact run_fn F hr hb hd hx I1 r q
end
section
variable {X:Cx} {CX:CXT} {k:Nat} {f C:Addr} {fd:FuncData} {ps ks:List Str} {sp:Sp} {E:XK} {x m:Str} {p pos apos kpos:Pos} {e o:Expr} {es:List Expr} {kws:List Keyword} {te ta:TE} {t tk:TA} {nm:Option Str}
variable {g:List Value→List Value→List Value} {gV:List V→List V→List V}
end
structure FnScope (N P:List Str) (sc:Scope):Prop where
 kind:sc.kind = .function
 co:sc.isCoroutine=false
 gen:sc.isGenerator=false
 nd:N.Nodup
 pre:N.take P.length=P
 par:∀x∈P,sc.names.lookup x=some .local∨sc.names.lookup x=some .cell
 nofree:∀y∈sc.names,y.2 ≠ .free
theorem bindL_out {kindOf:Str→Option NameKind} {x:Str} : ∀{binds:List (Str×Value)} {m:Str→Option Value},(∀v,(x,v) ∉ binds)→bindL kindOf binds m x=m x
 | [],_,_=>rfl
 | (n,v) :: r,m,h=>by
  unfold bindL
  rw [bindL_out fun w hw=>h w (List.mem_cons_of_mem _ hw)]
  split
  ·have:x≠n:=by rintro rfl;exact h v List.mem_cons_self
   simp [this]
  ·rfl
theorem bindC_out {kindOf:Str→Option NameKind} {x:Str} : ∀{binds:List (Str×Value)} {m:Str→Option Value},(∀v,(x,v) ∉ binds)→bindC kindOf binds m x=m x
 | [],_,_=>rfl
 | (n,v) :: r,m,h=>by
  unfold bindC
  rw [bindC_out fun w hw=>h w (List.mem_cons_of_mem _ hw)]
  split
  ·rfl
  ·have:x≠n:=by rintro rfl;exact h v List.mem_cons_self
   simp [this]
theorem bindL_get {kindOf:Str→Option NameKind} {x:Str} {v:Value} : ∀{P:List Str} {vs:List Value} {i:Nat} {m:Str→Option Value},P.Nodup→P[i]? = some x→vs[i]? = some v→kindOf x=some .local →
  bindL kindOf (P.zip vs) m x=some v
 | [],_,_,_,_,h,_,_=>by simp at h
 | _ :: _,[],_,_,_,_,h,_=>by simp at h
 | p :: P,w :: vs,0,m,nd,h1,h2,hk=>by
  simp at h1 h2;subst h1;subst h2
  show bindL kindOf ((p,w) :: P.zip vs) m p=_
  unfold bindL
  rw [bindL_out fun v hv=>(List.nodup_cons.mp nd).1 (List.of_mem_zip hv).1,if_pos hk]
  simp
 | p :: P,w :: vs,i+1,m,nd,h1,h2,hk=>by
  show bindL kindOf ((p,w) :: P.zip vs) m x=_
  unfold bindL
  exact bindL_get (i:=i) (List.nodup_cons.mp nd).2 (by simpa using h1) (by simpa using h2) hk
theorem bindC_get {kindOf:Str→Option NameKind} {x:Str} {v:Value} : ∀{P:List Str} {vs:List Value} {i:Nat} {m:Str→Option Value},P.Nodup→P[i]? = some x→vs[i]? = some v→kindOf x≠some .local →
  bindC kindOf (P.zip vs) m x=some v
 | [],_,_,_,_,h,_,_=>by simp at h
 | _ :: _,[],_,_,_,_,h,_=>by simp at h
 | p :: P,w :: vs,0,m,nd,h1,h2,hk=>by
  simp at h1 h2;subst h1;subst h2
  show bindC kindOf ((p,w) :: P.zip vs) m p=_
  unfold bindC
  rw [bindC_out fun v hv=>(List.nodup_cons.mp nd).1 (List.of_mem_zip hv).1,if_neg hk]
  simp
 | p :: P,w :: vs,i+1,m,nd,h1,h2,hk=>by
  show bindC kindOf ((p,w) :: P.zip vs) m x=_
  unfold bindC
  exact bindC_get (i:=i) (List.nodup_cons.mp nd).2 (by simpa using h1) (by simpa using h2) hk
def start (N:List Str) (vs:List V):St:=vs.map some++List.replicate (N.length-vs.length) none
def cxOf (CX:CXT) (P:Program) (w:World) (K:PySem.W.Frag) (mg:Str→Option Value) (base:Heap) (N:List Str) (qual:Str) (scope:Scope) (f:Addr) (cd:Value) (A:Around) (outer:List Env) (s:Shared) (H:Hp) (E:XK):Cx where
 prog:=P
 w:=w
 K:=K
 mg:=mg
 base:=base
 A:=A.deeper (envOfC qual scope s.heap.objs.size f cd)
 N:=N
 s₀:=s
 H₀:=H
 env:=envOfC qual scope s.heap.objs.size f cd
 outer:=outer
 stack:=envOfC qual scope s.heap.objs.size f cd :: outer
 ex:=[]
 calm:=true
 fn:=fun _=>true
 pn:=[]
 xe:=fun e s'=>wpAny (model P w) (A.deeper (envOfC qual scope s.heap.objs.size f cd)) (leaving (envOfC qual scope s.heap.objs.size f cd) e) (fun _ s''=>CX outer H s E e s'') (fun e' s''=>CX outer H s E e' s'') s'
theorem cell_has {sc:Scope} {n:Nat} {x:Str} (h:sc.names.lookup x=some .cell):∃c,(cellsFrom n sc.names []).lookup x=some c:=by
 have q:=PySem.W.cellsFrom_some sc.names n [] (.inl h)
 exact Option.isSome_iff_exists.mp q
theorem inv_start {CX:CXT} {P:Program} {w:World} {K:PySem.W.Frag} {mg:Str→Option Value} {base:Heap} {N ps:List Str} {qual:Str} {scope:Scope} {f:Addr} {cd:Value} {A:Around} {outer:List Env} {s s1:Shared} {H:Hp} {E:XK} {us:List Value} {vs:List V}
  (S:FnScope N ps scope) (hd:A.handled=none) (e0:Env0 P w K mg base A outer s H) (hl:vs.length=ps.length) (r:Vals vs us)
  (x:InCallC s s.heap.objs.size (bindL (envOfC qual scope s.heap.objs.size f cd).kindOf (ps.zip us) fun _=>none) (cellsFrom (s.heap.objs.size+1) scope.names []) (bindC (envOfC qual scope s.heap.objs.size f cd).kindOf (ps.zip us) fun _=>none) s1) :
  Inv (cxOf CX P w K mg base N qual scope f cd A outer s H E) [] (start N vs) H s1:=by
 have hpl:ps.length≤N.length:=by have:=congrArg List.length S.pre;rw [List.length_take] at this; (first|lia|omega)
 obtain ⟨h1,tk,rfl,hk⟩:=x.done
 have noA:∀b:Addr,b ∉ (cxOf CX P w K mg base N qual scope f cd A outer s H E).ex:=fun b z=>absurd (show b∈([]:List Addr) from z) (by simp)
 refine ⟨⟨e0.mod,S.kind,rfl,rfl,Nat.le_refl _,fun y z c h1 h2 => ?_,fun y hy => ?_,fun y c _ h => ?_,fun _=>hd,Around.frames_deeper e0.frames, .inr ⟨rfl,rfl⟩,fun b z=>absurd z (noA b),e0.bs,e0.bsz,fun b _ _=>noA b,fun b z=>absurd z (noA b),e0.funs,e0.frf⟩,
  rfl,e0.bare,Un.kept hk,⟨_,x.toInCall.ns,fun i y v h1 h2 h3 => ?_⟩,fun y c h=>⟨_,x.cell y c h⟩,e0.hok.fresh (Nat.le_refl _),fun y c h => ?_,fun p hp=>absurd (show p∈([]:List (Addr×Obj)) from hp) (by simp),e0.hok.kept hk,?_⟩
 ·exact name_of_addr x.apart (PySem.mem_of_lookup h1) (PySem.mem_of_lookup h2)
 ·have hy:scope.names.lookup y=some .cell∨scope.names.lookup y=some .free:=hy
  rcases hy with hy|hy
  ·exact cell_has hy
  ·exact absurd rfl (S.nofree _ (PySem.mem_of_lookup hy))
 ·exact Nat.le_of_lt (x.above y c (PySem.mem_of_lookup h))
 ·have hi:i<vs.length:=by
   unfold start at h2
   by_cases hi:i<vs.length
   ·exact hi
   ·rw [List.getElem?_append_right (by simpa using hi)] at h2
    rw [List.getElem?_replicate] at h2
    split at h2 <;> cases h2
  have ha:vs[i]? = some v:=by
   unfold start at h2
   rw [List.getElem?_append_left (by simpa using hi),List.getElem?_map] at h2
   cases e:vs[i]? with
   | none=>rw [e] at h2;cases h2
   | some a=>rw [e] at h2;cases h2;rfl
  obtain ⟨u,hu,rv⟩:=r.get ha
  have hp:ps[i]? = some y:=by
   rw [←S.pre,List.getElem?_take_of_lt (by first|lia|omega)];exact h1
  have ndP:ps.Nodup:=by rw [←S.pre];exact S.nd.sublist (List.take_sublist _ _)
  refine ⟨u,rv,?_⟩
  rcases S.par y (List.mem_of_getElem? hp) with k|k
  ·exact .inl ⟨k,bindL_get ndP hp hu k⟩
  ·obtain ⟨c,e⟩:=cell_has (n:=s.heap.objs.size+1) k
   refine .inr ⟨.inl k,c,e,?_⟩
   have q:=x.cell y c e
   rw [bindC_get ndP hp hu (by show scope.names.lookup y≠_;rw [k];decide)] at q
   exact q
 ·exact e0.hok.fresh (Nat.le_of_lt (x.above y c (PySem.mem_of_lookup h)))
 ·unfold start
  show _=N.length
  rw [List.length_append,List.length_map,List.length_replicate]
  (first|lia|omega)
theorem fn_of {CX:CXT} {P:Program} {w:World} {K:PySem.W.Frag} {mg:Str→Option Value} {base:Heap} {k:Nat} {f:Addr} {name qual:Str} {params:Arguments} {body:List Stmt} {scope:Scope} {dV kV doc pm cdv ct oc:Value} {an od:Option Addr}
  {osl:Array (Option Value)} {N ps:List Str} {sp:Sp} (lk:K.lookup f=some ⟨oc,od, .func (PySem.W.fnOf name qual params body scope dV kV doc pm an cdv ct),osl⟩) (hcd:PySem.W.codeIn K cdv qual=true) (S:FnScope N ps scope)
  (len:∀vs H Q E,sp vs H Q E→vs.length=ps.length)
  (hbody:∀(A:Around) (outer:List Env) (s:Shared) (H:Hp) (vs:List V) (Q:VK) (E:XK),Room k (A.deeper (envOfC qual scope s.heap.objs.size f cdv))→sp vs H Q E →
   ∃t,PSs (cxOf CX P w K mg base N qual scope f cdv A outer s H E) body t∧t { nx:=fun _ H'=>Q .non H',rt:=Q } (start N vs) H) :
  FnOk P w K mg base CX (k+1) f (PySem.W.fnOf name qual params body scope dV kV doc pm an cdv ct) ps sp:=by
 refine ⟨len,fun A outer s H args us vs Q E hr e0 hb r hsp => ?_⟩
 have hl:=len _ _ _ _ hsp
 have KX:K.In s.heap:=e0.mod.kin.keeps fun b o e=>(e0.bs b o e).1
 have lim:s.heap.NoLimit:=e0.mod.nolimit.keeps fun b o e=>(e0.bs b o e).1
 have hkind:∀y∈ps.zip us,scope.names.lookup y.1=some .local∨(scope.names.lookup y.1=some .cell∧((cellsFrom (s.heap.objs.size+1) scope.names []).lookup y.1).isSome=true):=fun ⟨n,v⟩ hy=>by
  rcases S.par n (List.of_mem_zip hy).1 with q|q
  ·exact .inl q
  ·exact .inr ⟨q,PySem.W.cellsFrom_some _ _ _ (.inl q)⟩
 refine codeAny_call_function hr.depth (KX _ _ lk) rfl S.co S.gen rfl (PySem.W.codeRec_of KX hcd) (hb _ _ _ _ ?_)
 refine wpAny_newFunctionEnv_cells S.kind hkind fun env he s1 x => ?_
 subst he
 refine ⟨lim.keeps x.toInCall.keep,codeAny_func ?_⟩
 obtain ⟨t,ht,hq⟩:=hbody A outer s H vs Q E (hr.deeper _) hsp
 have I:Inv (cxOf CX P w K mg base N qual scope f cdv A outer s H E) [] (start N vs) H s1:=inv_start S hr.hd e0 hl r x
 refine wpAny_mono (ht s1 (start N vs) H _ I hq) (fun fl s' hs => ?_) fun e s' hs=>hs
 have fin:∀{σ':St} {H':Hp} {v:V} {u:Value},Inv (cxOf CX P w K mg base N qual scope f cdv A outer s H E) [] σ' H' s'→RelV v u→Q v H'→CE outer P w H s Q u s':=
  fun {σ' H' v u} J rv q=>⟨v,H',J.os,J.bare,J.base,J.hok,rv,q⟩
 cases fl with
 | ret u=>
  obtain ⟨v, σ',H',J,rv,q⟩:=hs
  exact fin J rv q
 | next=>
  obtain ⟨σ',H',J,q⟩:=hs
  exact fin (v:=V.non) (u:=Value.none) J rfl q
 | brk=>
  obtain ⟨_,_,_,q⟩:=hs
  exact False.elim q
 | cont=>
  obtain ⟨_,_,_,q⟩:=hs
  exact False.elim q
end L2
namespace L2
open PySem PySem.Spec PyProof.Rows
section
variable {X:Cx} {x:Str} {p pos:Pos} {e:Expr} {es:List Expr} {t:TA} {id T:String} {r:List V→Hp→VK→Prop}
def tCB (r:List V→Hp→VK→Prop) (t:TA):TE:=fun σ H Q=>t σ H fun vs H1=>r vs H1 Q
theorem pe_callB (hc:CallR X (.builtin id) r) (hg:Gl X x) (hm:X.mg x=none) (hv:bootBuiltins x=some (.builtin id)) (ha:PA X (e :: es) t) (hn:x ≠ "__name__":=by decide) (hdb:(x == ("__debug__" : Str))=false:=by decide)
  (he:starEach (e :: es) X.env=(false,eval e X.env) :: starEach es X.env:=by rfl) (hpl:(backTo pos (starEach es X.env)).any (·.1)=false:=by rfl):PE X (.Call (.Name x p) (e :: es) [] pos) (tCB r t):=by
 intro pins s σ H Q I h
 refine wpAny_Call_Name_kw (ld_blt I hg hm hv ?_ hn hdb)
 exact PyProof.Rows.callWith_builtin1 (thn (ha s σ H _ I h) fun us s1 ⟨vs,H1,I1,r1,q1⟩=>hc s1 σ H1 vs us Q I1 r1 q1) he hpl
theorem pe_callTy (hc:CallR X (.type T) r) (hg:Gl X x) (hm:X.mg x=none) (hv:bootBuiltins x=some (.type T)) (ha:PA X (e :: es) t) (hn:x ≠ "__name__":=by decide) (hdb:(x == ("__debug__" : Str))=false:=by decide)
  (he:starEach (e :: es) X.env=(false,eval e X.env) :: starEach es X.env:=by rfl) (hpl:(backTo pos (starEach es X.env)).any (·.1)=false:=by rfl):PE X (.Call (.Name x p) (e :: es) [] pos) (tCB r t):=by
 intro pins s σ H Q I h
 refine wpAny_Call_Name_kw (ld_blt I hg hm hv ?_ hn hdb)
 exact PyProof.Rows.callWith_type1 (thn (ha s σ H _ I h) fun us s1 ⟨vs,H1,I1,r1,q1⟩=>hc s1 σ H1 vs us Q I1 r1 q1) he hpl
end
end L2
namespace L2
open PySem PySem.Spec PyProof.Rows
section
variable {κ:Type} [DecidableEq κ]
def valV (kvs:List (κ×V)) (k : κ):Option V:=(kvs.find? fun kv=>decide (kv.1=k)).map (·.2)
def putK (kvs:List (κ×V)) (k : κ) (v:V):List (κ×V):=
 if (kvs.any fun kv=>decide (kv.1=k))=true then kvs.map (fun kv=>if kv.1=k then (kv.1,v) else kv) else kvs++[(k,v)]
theorem valV_pos {p : κ×V} {r:List (κ×V)} {k : κ} (e:p.1=k):valV (p :: r) k=some p.2:=by simp [valV,List.find?_cons,e]
theorem valV_neg {p : κ×V} {r:List (κ×V)} {k : κ} (e:¬p.1=k):valV (p :: r) k=valV r k:=by simp [valV,List.find?_cons,e]
theorem valV_any (k : κ):∀kvs:List (κ×V),(kvs.any fun kv=>decide (kv.1=k))=(valV kvs k).isSome
 | []=>rfl
 | p :: r=>by
  rw [List.any_cons]
  by_cases e:p.1=k
  ·simp only [valV_pos e,decide_eq_true e,Bool.true_or,Option.isSome_some]
  ·rw [valV_neg e,decide_eq_false e,Bool.false_or];exact valV_any k r
theorem valV_map (k j : κ) (y:V):∀kvs:List (κ×V),valV (kvs.map fun kv=>if kv.1=k then (kv.1,y) else kv) j=(valV kvs j).map fun x=>if j=k then y else x
 | []=>rfl
 | p :: r=>by
  have ih:=valV_map k j y r
  rw [List.map_cons]
  by_cases h:p.1=k
  ·rw [if_pos h]
   by_cases e:p.1=j
   ·rw [valV_pos (p:=(p.1,y)) e,valV_pos e,Option.map_some,if_pos (e.symm.trans h)]
   ·rw [valV_neg (p:=(p.1,y)) e,valV_neg e,ih]
  ·rw [if_neg h]
   by_cases e:p.1=j
   ·rw [valV_pos (p:=p) e,valV_pos e,Option.map_some,if_neg (fun z=>h (e.trans z))]
   ·rw [valV_neg (p:=p) e,valV_neg e,ih]
theorem valV_snoc (k j : κ) (y:V):∀kvs:List (κ×V),valV kvs k=none→valV (kvs++[(k,y)]) j=if j=k then some y else valV kvs j
 | [],_=>by
  by_cases e:k=j
  ·rw [if_pos e.symm];exact valV_pos (p:=(k,y)) e
  ·rw [if_neg (fun z=>e z.symm)];exact valV_neg (p:=(k,y)) e
 | p :: r,hn=>by
  rw [List.cons_append]
  have hk:¬p.1=k:=fun z=>by rw [valV_pos z] at hn;cases hn
  rw [valV_neg hk] at hn
  have ih:=valV_snoc k j y r hn
  by_cases e:p.1=j
  ·rw [valV_pos e,valV_pos e,if_neg (fun z=>hk (e.trans z))]
  ·rw [valV_neg e,valV_neg e,ih]
theorem valV_put (kvs:List (κ×V)) (k j : κ) (y:V):valV (putK kvs k y) j=if j=k then some y else valV kvs j:=by
 unfold putK
 by_cases a:(kvs.any fun kv=>decide (kv.1=k))=true
 ·rw [if_pos a,valV_map]
  rw [valV_any] at a
  by_cases e:j=k
  ·obtain ⟨x,hx⟩:=Option.isSome_iff_exists.mp a
   rw [if_pos e,e,hx,Option.map_some,if_pos rfl]
  ·rw [if_neg e]
   cases valV kvs j with
   | none=>rfl
   | some x=>rw [Option.map_some,if_neg e]
 ·rw [if_neg a]
  refine valV_snoc k j y kvs ?_
  rw [valV_any] at a
  cases q:valV kvs k with
  | none=>rfl
  | some x=>rw [q] at a;exact (a rfl).elim
theorem length_putK (kvs:List (κ×V)) (k : κ) (v:V):(putK kvs k v).length≤kvs.length+1:=by
 unfold putK
 split
 ·rw [List.length_map]; (first|lia|omega)
 ·rw [List.length_append,List.length_cons,List.length_nil]; (first|lia|omega)
theorem RelO.isSome_eq {o:Option V} {u:Option Value} (r:RelO o u):o.isSome=u.isSome:=by
 cases o with
 | none=>cases u with
  | none=>rfl
  | some _=>exact (show False from r).elim
 | some _=>cases u with
  | none=>exact (show False from r).elim
  | some _=>rfl
theorem KV.val {kvs:List (κ×V)} {vs:List (κ×Value)} (r:KV kvs vs) (k : κ):RelO (valV kvs k) (valueAt vs k):=by
 unfold KV at r
 induction r with
 | nil=>exact True.intro
 | @cons p q ps qs h t ih=>
  obtain ⟨h1,h2⟩:=h
  by_cases e:p.1=k
  ·have e':q.1=k:=h1.symm.trans e
   have b:valueAt (q :: qs) k=some q.2:=by simp [valueAt,List.find?_cons,e']
   rw [valV_pos e,b];exact h2
  ·have e':¬q.1=k:=fun z=>e (h1.trans z)
   have b:valueAt (q :: qs) k=valueAt qs k:=by simp [valueAt,List.find?_cons,e']
   rw [valV_neg e,b];exact ih
theorem KV.any {kvs:List (κ×V)} {vs:List (κ×Value)} (r:KV kvs vs) (k : κ):(kvs.any fun kv=>decide (kv.1=k))=vs.any fun kv=>decide (kv.1=k):=by
 unfold KV at r
 induction r with
 | nil=>rfl
 | cons h t ih=>rw [List.any_cons,List.any_cons,ih,h.1]
theorem KV.repl {kvs:List (κ×V)} {vs:List (κ×Value)} (r:KV kvs vs) (k : κ) {y:V} {u:Value} (ry:RelV y u) :
  KV (kvs.map fun kv=>if kv.1=k then (kv.1,y) else kv) (vs.map fun kv=>if kv.1=k then (kv.1,u) else kv):=by
 unfold KV at r ⊢
 induction r with
 | nil=>exact .nil
 | @cons p q ps qs h t ih=>
  rw [List.map_cons,List.map_cons]
  refine .cons ?_ ih
  obtain ⟨h1,h2⟩:=h
  by_cases e:p.1=k
  ·rw [if_pos e,if_pos (h1.symm.trans e)];exact ⟨h1,ry⟩
  ·rw [if_neg e,if_neg (fun z=>e (h1.trans z))];exact ⟨h1,h2⟩
theorem KV.put {kvs:List (κ×V)} {vs:List (κ×Value)} (r:KV kvs vs) (k : κ) {y:V} {u:Value} (ry:RelV y u):KV (putK kvs k y) (stored vs k u):=by
 unfold putK stored
 rw [r.any k]
 by_cases e:(vs.any fun kv=>decide (kv.1=k))=true
 ·rw [if_pos e,if_pos e];exact r.repl k ry
 ·rw [if_neg e,if_neg e];exact Paired.snoc r ⟨rfl,ry⟩
theorem KV.length {kvs:List (κ×V)} {vs:List (κ×Value)} (r:KV kvs vs):kvs.length=vs.length:=Paired.length r
end
theorem kV_is {P:Program} {w:World} {k:Key} {u:Value} (r:RelV (kV k) u):(mixKind P w).is k u=true:=by
 cases k with
 | inl i=>obtain ⟨t,e⟩:=(show ∃t,u=Value.int i t from r);subst e;exact mixKind_int P w i t
 | inr x=>obtain ⟨t,e⟩:=(show ∃t,u=Value.str x t from r);subst e;exact mixKind_str P w x t
theorem items_are {P:Program} {w:World} : ∀{ks:List Key} {us:List Value},Vals (ks.map kV) us→ItemsAre (mixKind P w) ks us
 | [],_,r=>by rw [List.map_nil] at r;cases r;exact .nil
 | k :: ks,_,r=>by
  rw [List.map_cons] at r
  cases r with
  | cons h t=>exact .cons (kV_is h) (items_are t)
abbrev KT (H:Hp):List (List Key×V)→List (List Key×Addr×Value)→Prop:=Paired fun p q=>p.1=q.1∧H q.2.1=some (.tup (p.1.map kV))∧RelV p.2 q.2.2
theorem KT.val {H:Hp} {kvs:List (List Key×V)} {xs:List (List Key×Addr×Value)} (r:KT H kvs xs) (k:List Key):RelO (valV kvs k) ((atKey xs k).map (·.2)):=by
 induction r with
 | nil=>exact True.intro
 | @cons p q ps qs h t ih=>
  obtain ⟨h1,_,h2⟩:=h
  by_cases e:p.1=k
  ·have e':q.1=k:=h1.symm.trans e
   have b:atKey (q :: qs) k=some q.2:=by simp [atKey,List.find?_cons,e']
   rw [valV_pos e,b];exact h2
  ·have e':¬q.1=k:=fun z=>e (h1.trans z)
   have b:atKey (q :: qs) k=atKey qs k:=by simp [atKey,List.find?_cons,e']
   rw [valV_neg e,b];exact ih
theorem KT.repl {H:Hp} {kvs:List (List Key×V)} {xs:List (List Key×Addr×Value)} (r:KT H kvs xs) (k:List Key) {y:V} {u:Value} (ry:RelV y u) :
  KT H (kvs.map fun kv=>if kv.1=k then (kv.1,y) else kv) (xs.map (putAt k u)):=by
 induction r with
 | nil=>exact .nil
 | @cons p q ps qs h t ih=>
  rw [List.map_cons,List.map_cons]
  refine .cons ?_ ih
  obtain ⟨h1,h2,h3⟩:=h
  unfold putAt
  by_cases e:p.1=k
  ·rw [if_pos e,if_pos (h1.symm.trans e)];exact ⟨h1,h2,ry⟩
  ·rw [if_neg e,if_neg (fun z=>e (h1.trans z))];exact ⟨h1,h2,h3⟩
theorem KT.put {H:Hp} {kvs:List (List Key×V)} {xs:List (List Key×Addr×Value)} (r:KT H kvs xs) (k:List Key) {b:Addr} {y:V} {u:Value} (hb:H b=some (.tup (k.map kV))) (ry:RelV y u) :
  KT H (putK kvs k y) (storedH xs k b u):=by
 have e:(kvs.any fun kv=>decide (kv.1=k))=(atKey xs k).isSome:=by
  rw [valV_any,(r.val k).isSome_eq,Option.isSome_map]
 unfold putK storedH
 rw [e]
 by_cases q:(atKey xs k).isSome=true
 ·rw [if_pos q,if_pos q];exact r.repl k ry
 ·rw [if_neg q,if_neg q];exact Paired.snoc r ⟨rfl,hb,ry⟩
theorem KT.keeps {H H':Hp} {kvs:List (List Key×V)} {xs:List (List Key×Addr×Value)} (r:KT H kvs xs) (ht:∀b ys,H b=some (.tup ys)→H' b=some (.tup ys)):KT H' kvs xs:=
 Paired.mapP r fun _ _ z=>⟨z.1,ht _ _ z.2.1,z.2.2⟩
section
variable {P:Program} {w:World} {H:Hp} {h:Heap} {a:Addr}
theorem rd_of {u:HO} (ok:HOk P w H h) (e:Rd H a u):ObjOk P w H h a u:=e.ok ok
theorem dk_rd {kvs:List (Key×V)} (ok:HOk P w H h) (e:Rd H a (.dK kvs)):kvs.length≤sizeLine∧(a == sysModules)=false∧∃vs,KV kvs vs∧h.DictOf (mixKind P w) a vs:=
 show ObjOk P w H h a (.dK kvs) from rd_of ok e
theorem dk_of {kvs:List (Key×V)} (ok:HOk P w H h) (e:H a=some (.dK kvs)):kvs.length≤sizeLine∧(a == sysModules)=false∧∃vs,KV kvs vs∧h.DictOf (mixKind P w) a vs:=dk_rd ok (.inl e)
theorem key_of {ks:List Key} (ok:HOk P w H h) (e:H a=some (.tup (ks.map kV))):(tupleKind (mixKind P w)).is h ks a:=by
 obtain ⟨_,its,r,o,h1,h2,n,h3⟩:=(show ObjOk P w H h a (.tup (ks.map kV)) from ok a _ e)
 exact ⟨o,its.toArray,n,h1,h2,h3,by simpa using items_are r⟩
theorem dt_rd {kvs:List (List Key×V)} (ok:HOk P w H h) (e:Rd H a (.dT kvs)):kvs.length≤sizeLine∧(a == sysModules)=false ∧
  ∃xs,KT H kvs xs∧h.DictOfH (tupleKind (mixKind P w)) a xs:=by
 obtain ⟨z,y,xs,r,o,es,ep,h1,h2,h3,h4,h5⟩:=(show ObjOk P w H h a (.dT kvs) from rd_of ok e)
 refine ⟨z,y,xs,r,o,es,ep,h1,h2,h3,h4,fun x hx => ?_,h5⟩
 have all:∀{l:List (List Key×V)} {m:List (List Key×Addr×Value)},KT H l m→∀x∈m,(tupleKind (mixKind P w)).is h x.1 x.2.1:=by
  intro l m q
  induction q with
  | nil=>intro x hx;exact nomatch hx
  | @cons p q ps qs hq t ih=>
   intro x hx
   rcases List.mem_cons.mp hx with e|hx
   ·subst e
    exact key_of ok (by rw [←hq.1];exact hq.2.1)
   ·exact ih x hx
 exact all r x hx
theorem dt_of {kvs:List (List Key×V)} (ok:HOk P w H h) (e:H a=some (.dT kvs)):kvs.length≤sizeLine∧(a == sysModules)=false ∧
  ∃xs,KT H kvs xs∧h.DictOfH (tupleKind (mixKind P w)) a xs:=dt_rd ok (.inl e)
end
def DGet (H:Hp) (a:Addr) (y:V) (r:Option V):Prop:=
 (Ex2 fun kvs k=>Rd H a (.dK kvs)∧y=kV k∧r=valV kvs k)∨Ex3 fun kvs k b=>Rd H a (.dT kvs)∧y = .ref b∧H b=some (.tup (k.map kV))∧r=valV kvs k
def DPut (H:Hp) (a:Addr) (y v:V) (H':Hp):Prop:=
 (Ex2 fun kvs k=>H a=some (.dK kvs)∧y=kV k∧kvs.length<sizeLine∧H'=upd H a (.dK (putK kvs k v))) ∨
 Ex3 fun kvs k b=>H a=some (.dT kvs)∧y = .ref b∧H b=some (.tup (k.map kV))∧kvs.length<sizeLine∧H'=upd H a (.dT (putK kvs k v))
theorem DGet.k {H:Hp} {a:Addr} {kvs:List (Key×V)} {k:Key} (e:H a=some (.dK kvs)):DGet H a (kV k) (valV kvs k) := .inl ⟨kvs,k, .inl e,rfl,rfl⟩
theorem DPut.k {H:Hp} {a:Addr} {kvs:List (Key×V)} {k:Key} {v:V} (e:H a=some (.dK kvs)) (hl:kvs.length<sizeLine):DPut H a (kV k) v (upd H a (.dK (putK kvs k v))) := .inl ⟨kvs,k,e,rfl,hl,rfl⟩
section
variable {X:Cx} {pins:List (Addr×Obj)} {σ:St} {H:Hp} {s:Shared} {a:Addr} {y v:V} {u r:Value} {o:Option V} {A:Around} {E:Value→Shared→Prop}
theorem Inv.big (I:Inv X pins σ H s):sysModules<s.heap.objs.size:=by
 have h:mainGlobals<s.heap.objs.size:=(I.mod.glob.keeps I.bk).lt
 exact Nat.lt_trans (by decide) h
theorem d_getItem {Q:Value→Shared→Prop} (hu:A.units+1<cLine) (I:Inv X pins σ H s) (g:DGet H a y (some v)) (ry:RelV y u) (h:∀w' s',Inv X pins σ H s'→RelV v w'→Q w' s') :
  wpAny (model X.prog X.w) A (getItem (.ref a) u) Q E s:=by
 rcases g with ⟨kvs,k,e,ey,l⟩|⟨kvs,k,b,e,ey,eb,l⟩
 ·subst ey
  obtain ⟨z,hd,vs,rel,dd⟩:=dk_rd I.hok e
  obtain ⟨w',hw,rw'⟩:=RelO.some_of (v:=v) (o:=valueAt vs k) (by rw [l];exact rel.val k)
  exact wpAny_getItem_of (kV_is ry) dd.mapOf hw (h w' _ (I.tok _) rw')
 ·subst ey
  cases (show u=Value.ref b from ry)
  obtain ⟨z,hd,xs,rel,dd⟩:=dt_rd I.hok e
  obtain ⟨w',hw,rw'⟩:=RelO.some_of (v:=v) (o:=(atKey xs k).map (·.2)) (by rw [l];exact rel.val k)
  obtain ⟨p,hp,hp2⟩:=Option.map_eq_some_iff.mp hw
  refine wpAny_getItem_heap (tupleKind_room_in1 hu) (key_of I.hok eb) dd hp ?_
  rw [hp2]
  exact h w' _ (I.tok _) rw'
theorem d_write {h':Heap} {t':Nat} {ob:HO} (I:Inv X pins σ H s) (mu:Mut (H a)) (hs:Heap.SameBut a s.heap h') (he:∃q,h'.get? a=some q) (new:ObjOk X.prog X.w (upd H a ob) h' a ob) :
  Inv X pins σ (upd H a ob) { s with heap:=h',toks:=t' }:=
 I.write (x:=a) (e:=a) mu (.inl rfl) (fun b q hb z=>(hs.2 b hb).trans z) he new
theorem dk_new {P:Program} {w:World} {H':Hp} {h':Heap} {kvs:List (Key×V)} {vs:List (Key×Value)} (z:kvs.length≤sizeLine) (hd:(a == sysModules)=false) (rel:KV kvs vs) (dd:h'.DictOf (mixKind P w) a vs) :
  ObjOk P w H' h' a (.dK kvs):=⟨z,hd,vs,rel,dd⟩
theorem d_setItem {H':Hp} {Q:Unit→Shared→Prop} (hu:A.units+1<cLine) (I:Inv X pins σ H s) (g:DPut H a y v H') (ry:RelV y u) (rv:RelV v r) (h:∀s',Inv X pins σ H' s'→Q () s') :
  wpAny (model X.prog X.w) A (setItem (.ref a) u r) Q E s:=by
 rcases g with ⟨kvs,k,e,ey,l,eH⟩|⟨kvs,k,b,e,ey,eb,l,eH⟩
 ·subst ey eH
  obtain ⟨z,hd,vs,rel,dd⟩:=dk_of I.hok e
  have hz:vs.length≤sizeLine:=by rw [←rel.length];exact z
  have hl:(putK kvs k v).length≤sizeLine:=by have:=length_putK kvs k v; (first|lia|omega)
  refine wpAny_setItem_pairs (hsz:=hz) (kV_is ry) dd fun h' dd' hs=>h _ ?_
  have he:∃q,h'.get? a=some q:=let ⟨q,_,_,hq,_⟩:=dd'; ⟨q,hq⟩
  exact d_write I (by rw [e];exact True.intro) hs he (dk_new hl hd (rel.put k rv) dd')
 ·subst ey eH
  cases (show u=Value.ref b from ry)
  obtain ⟨z,hd,xs,rel,dd⟩:=dt_of I.hok e
  have hz:xs.length≤sizeLine:=by rw [←Paired.length rel];exact z
  have hl:(putK kvs k v).length≤sizeLine:=by have:=length_putK kvs k v; (first|lia|omega)
  refine wpAny_setItem_heap (hsz:=hz) (tupleKind_room_in1 hu) (key_of I.hok eb) dd fun h' dd' hs=>h _ ?_
  obtain ⟨q,es,ep,hq,h2,h3,h4,_,h5⟩:=dd'
  refine d_write I (by rw [e];exact True.intro) hs ⟨q,hq⟩ ⟨hl,hd,_,(rel.put k eb rv).keeps fun c ys ec => ?_,q,es,ep,hq,h2,h3,h4,h5⟩
  rw [upd_ne (ne_of ec e (fun z=>nomatch z))]
  exact ec
end
section
variable {X:Cx} {pins:List (Addr×Obj)} {σ:St} {H:Hp} {s:Shared} {a:Addr} {kvs:List (Key×V)} {k:Key} {u:Value} {A:Around} {E:Value→Shared→Prop}
end
def NoSl (i:Expr):Prop:=∀ov iv,subscripted i false ov iv=operate [ov,iv] (getItem ov iv)
theorem subD_of {prog:Program} {w:World} {A:Around} {E:Value→Shared→Prop} {s:Shared} {env:Env} {value slice:Expr} {pos:Pos} {T id:String} {Q:Value→Shared→Prop}
  (hl:typeLookup (.type T) "__getitem__" = pure (some (.builtin id))) (hs:NoSl slice)
  (h:wpAny (model prog w) A (eval value env) (fun o s₁=>wpAny (model prog w) A (eval slice env) (fun i s₂=>s₂.TypeIs o T∧wpAny (model prog w) A (getItem o i) Q E s₂) E s₁) E s) :
  wpAny (model prog w) A (eval (.Subscript value slice pos) env) Q E s:=by
 refine Subscript_ (wpAny_mono h (fun o s₁ h₁=>wpAny_mono h₁ (fun i s₂ h₂ => ?_) fun _ _ x=>x) fun _ _ x=>x)
 obtain ⟨hT,h₂⟩:=h₂
 unfold subscriptTail
 refine wpAny_bind ?_
 rw [getitemInPython_of_ne hT.not_modules]
 refine wpAny_bind (wpAny_specialOf hT hl ?_)
 have fin:wpAny (model prog w) A (subscripted slice false o i) (fun r s₃=>wpAny (model prog w) A (letTemporaryGo value o r >>= fun _=>pure r) Q E s₃) E s₂:=by
  rw [hs o i]
  exact wpAny_operating (wpAny_mono h₂ (fun r s₃ h₃=>wpAny_bind (wpAny_letTemporaryGo (wpAny_pure h₃))) fun _ _ x=>x)
 first
  | exact wpAny_pure (wpAny_bind fin)
  | exact wpAny_bind (wpAny_pure (wpAny_bind fin))
  | exact wpAny_bind fin
theorem dict_typeIs {X:Cx} {pins:List (Addr×Obj)} {σ:St} {H:Hp} {s:Shared} {a:Addr} {y:V} {o:Option V} (I:Inv X pins σ H s) (g:DGet H a y o):s.TypeIs (.ref a) "dict":=by
 rcases g with ⟨kvs,k,e,_,_⟩|⟨kvs,k,b,e,_,_,_⟩
 ·obtain ⟨_,_,vs,_,dd⟩:=dk_rd I.hok e
  exact dd.typeIs
 ·obtain ⟨_,_,xs,_,dd⟩:=dt_rd I.hok e
  exact dd.typeIs
def tDGet (td ty:TE):TE:=fun σ H Q=>td σ H fun x H1=>ty σ H1 fun y H2=>Ex2 fun a v=>x = .ref a∧DGet H2 a y (some v)∧Q v H2
def sDPut (td ty tv:TE):TS:=fun D σ H=>tv σ H fun v H1=>td σ H1 fun x H2=>ty σ H2 fun y H3=>Ex2 fun a H4=>x = .ref a∧DPut H3 a y v H4∧D.nx σ H4
section
variable {X:Cx} {o i e value:Expr} {pos pos' tpos:Pos} {td ty tv:TE}
theorem pe_dget (hu:X.A.units+1<cLine) (ho:PE X o td) (hi:PE X i ty) (hs:NoSl i):PE X (.Subscript o i pos) (tDGet td ty):=by
 intro pins s σ H Q I h
 refine subD_of PySem.F.slot_dict_getitem.lookup hs (thn (ho s σ H _ I h) fun u s1 ⟨x,H1,I1,rx,q1⟩=>thn (hi s1 σ H1 _ I1 q1) fun iv s2 ⟨y,H2,I2,ry,a,v,ex,g,q2⟩ => ?_)
 subst ex
 obtain rfl:u=Value.ref a:=rx
 exact ⟨dict_typeIs I2 g,d_getItem hu I2 g ry fun w' s3 I3 rw'=>⟨v,H2,I3,rw',q2⟩⟩
theorem ps_dput (hu:X.A.units+1<cLine) (ho:PE X o td) (hi:PE X i ty) (hv:PE X value tv) (hs:swapsWith value (some (.Subscript o i pos')) pos.line X.env=pure false) :
  PS X (.Assign [.Subscript o i pos'] value pos) (sDPut td ty tv):=by
 intro pins s σ H D I h
 refine wpAny_Assign_Subscript (thn (hv s σ H _ I h) fun r s1 ⟨v,H1,I1,rv,q1⟩=>thn (ho s1 σ H1 _ I1 q1) fun u s2 ⟨x,H2,I2,rx,q2⟩=>thn (hi s2 σ H2 _ I2 q2) fun iv s3 ⟨y,H3,I3,ry,a,H4,ex,g,q3⟩ => ?_) hs
 subst ex
 obtain rfl:u=Value.ref a:=rx
 exact d_setItem hu I3 g ry rv fun s4 I4=>⟨σ,H4,I4,q3⟩
end
theorem dk_empty {P:Program} {w:World} {H:Hp} (h:Heap) (hb:sysModules<h.objs.size):ObjOk P w H (h.push { cls := .type "dict",data := .dict #[] }) h.objs.size (.dK []):=
 ⟨Nat.zero_le _,beq_eq_false_iff_ne.mpr (Ne.symm (Nat.ne_of_lt hb)),[], .nil,Heap.DictOf.new h⟩
section
variable {X:Cx} {pos:Pos}
end
def tPairs:List (TE×TE)→St→Hp→(List (V×V)→Hp→Prop)→Prop
 | [],_,H,Q=>Q [] H
 | (tk,tv) :: r, σ,H,Q=>tk σ H fun x H1=>tv σ H1 fun y H2=>tPairs r σ H2 fun ps H3=>Q ((x,y) :: ps) H3
abbrev VV:List (V×V)→List (Value×Value)→Prop:=Paired fun p q=>RelV p.1 q.1∧RelV p.2 q.2
def PPs (X:Cx) (pos:Pos) (keys:List (Option Expr)) (values:List Expr) (trs:List (TE×TE)):Prop:=
 ∀ ⦃pins:List (Addr×Obj)⦄ (s:Shared) (σ:St) (H:Hp) (Q:List (V×V)→Hp→Prop),Inv X pins σ H s→tPairs trs σ H Q →
  wpAny (model X.prog X.w) X.A (evalPairs (pairTrees keys values X.env pos)) (fun vs s'=>Ex2 fun ps H'=>Inv X pins σ H' s'∧VV ps vs∧Q ps H') X.xe s
theorem pps_nil {X:Cx} {pos:Pos} : PPs X pos [] [] []:=fun pins s σ H Q I h=>pairTrees_nil_walk ⟨[],H,I, .nil,h⟩
theorem pps_cons {X:Cx} {pos:Pos} {k v:Expr} {ks:List (Option Expr)} {vs:List Expr} {tk tv:TE} {trs:List (TE×TE)} (hk:PE X k tk) (hv:PE X v tv) (hr:PPs X pos ks vs trs) :
  PPs X pos (some k :: ks) (v :: vs) ((tk,tv) :: trs):=fun pins s σ H Q I h=>
 pairTrees_cons_walk (thn (hk s σ H _ I h) fun u s1 ⟨x,H1,I1,rx,q1⟩=>thn (hv s1 σ H1 _ I1 q1) fun w2 s2 ⟨y,H2,I2,ry,q2⟩=>
  thn (hr s2 σ H2 _ I2 q2) fun ws s3 ⟨ps,H3,I3,rel,q3⟩=>⟨(x,y) :: ps,H3,I3, .cons ⟨rx,ry⟩ rel,q3⟩)
def mergeK (kvs more:List (Key×V)):List (Key×V):=more.foldl (fun acc kv=>putK acc kv.1 kv.2) kvs
theorem KV.merge:∀{more:List (Key×V)} {rs:List (Key×Value)} {kvs:List (Key×V)} {vs:List (Key×Value)},KV more rs→KV kvs vs→KV (mergeK kvs more) (merged vs rs):=by
 intro more rs kvs vs r
 unfold KV at r
 induction r generalizing kvs vs with
 | nil=>intro q;exact q
 | @cons p q ps qs h t ih=>
  intro r0
  have e:KV (putK kvs p.1 p.2) (stored vs q.1 q.2):=by
   have:=r0.put p.1 h.2
   rw [←h.1];exact this
  exact ih e
theorem length_mergeK:∀(more kvs:List (Key×V)),(mergeK kvs more).length≤kvs.length+more.length
 | [],kvs=>by show kvs.length≤kvs.length+0; (first|lia|omega)
 | p :: r,kvs=>by
  have h1:=length_mergeK r (putK kvs p.1 p.2)
  have h2:=length_putK kvs p.1 p.2
  show (mergeK (putK kvs p.1 p.2) r).length≤_
  rw [List.length_cons]; (first|lia|omega)
theorem carries_of {P:Program} {w:World} : ∀{kvs:List (Key×V)} {ws:List (Value×Value)},VV (kvs.map fun kv=>(kV kv.1,kv.2)) ws→∃rs,Carries (mixKind P w) ws rs∧KV kvs rs
 | [],_,r=>by rw [List.map_nil] at r;cases r;exact ⟨[],True.intro, .nil⟩
 | p :: kvs,_,r=>by
  rw [List.map_cons] at r
  cases r with
  | @cons a b as bs h t=>
   obtain ⟨rs,c,q⟩:=carries_of (P:=P) (w:=w) t
   obtain ⟨b1,b2⟩:=b
   exact ⟨(p.1,b2) :: rs,⟨kV_is h.1,rfl,c⟩, .cons ⟨rfl,h.2⟩ q⟩
def tDisp (trs:List (TE×TE)):TE:=fun σ H Q=>∀p,H p=none→tPairs trs σ (upd H p (.dK [])) fun ps H2=>H2 p=some (.dK [])∧∃kvs:List (Key×V),ps=kvs.map (fun kv=>(kV kv.1,kv.2))∧kvs.length≤15∧Q (.ref p) (upd H2 p (.dK (mergeK [] kvs)))
theorem pe_disp {X:Cx} {pos:Pos} {keys:List (Option Expr)} {values:List Expr} {trs:List (TE×TE)} (h:PPs X pos keys values trs) (hall:keys.all (·.isSome)=true) (hl:keys.length=values.length) (h0:keys≠[])
  (h15:keys.length≤15):PE X (.Dict keys values pos) (tDisp trs):=by
 intro pins s σ H Q I q
 have hn:=I.hok.fresh (Nat.le_refl s.heap.objs.size)
 have I1:=I.laid (a:=s.heap.objs.size) (o := .dK []) (h':=s.heap.push { cls := .type "dict",data := .dict #[] }) (t':=s.toks) (fun _ _ q=>Heap.get?_push_of_some _ q) (Nat.le_refl _) (dk_empty s.heap I.big)
 refine wpAny_Dict_walk (knd:=mixKind X.prog X.w) hall hl h0 h15 (thn (h _ σ _ _ I1 (q _ hn)) fun ws s2 ⟨ps,H2,I2,rel,e,kvs,ep,lk,q2⟩ => ?_)
 subst ep
 obtain ⟨rs,c,rk⟩:=carries_of (P:=X.prog) (w:=X.w) rel
 obtain ⟨z,hd,vs0,r0,dd⟩:=dk_of I2.hok e
 cases r0
 refine ⟨rs,c,dd,fun h' dd' hs=>⟨.ref s.heap.objs.size,_,?_,rfl,q2⟩⟩
 have hz:(mergeK [] kvs).length≤sizeLine:=by
  have h1:=length_mergeK kvs []
  rw [List.length_nil] at h1
  rw [sizeLine_eq]; (first|lia|omega)
 have he:∃q,h'.get? s.heap.objs.size=some q:=let ⟨q,_,_,hq,_⟩:=dd'; ⟨q,hq⟩
 exact d_write I2 (by rw [e];exact True.intro) hs he (dk_new hz hd (rk.merge .nil) dd')
section
variable {X:Cx} {pins:List (Addr×Obj)} {σ:St} {H:Hp} {s:Shared} {a:Addr} {y d:V} {u r:Value} {o:Option V} {A:Around} {E:Value→Shared→Prop}
end
section
variable {X:Cx} {o e f:Expr} {apos cpos:Pos} {td ty tx:TE}
end
section
variable {X:Cx} {pins:List (Addr×Obj)} {σ:St} {H:Hp} {s:Shared} {a:Addr} {kvs:List (Key×V)} {A:Around} {E:Value→Shared→Prop}
end
section
variable {X:Cx} {pins:List (Addr×Obj)} {σ:St} {H:Hp} {s:Shared} {a:Addr} {y:V} {u:Value} {A:Around} {E:Value→Shared→Prop}
end
end L2
namespace HT
open PySem PyProof.Rows
section
open PySem.SeqAt
open PySem.AutoSeq1 (wpAny_loadPart')
open PySem.MeetsSeq PySem.MeetsSeq2 PySem.MeetsSeq3
end
section
variable {prog:Program} {w:World} {A:Around} {E:Value→Shared→Prop} {s:Shared}
def sIx (n d:Nat):Option Int→Nat
 | none=>d
 | some v=>if v<0 then (v+(n:Int)).toNat else min v.toNat n
theorem sIx_none (n d:Nat):sIx n d none=d:=rfl
theorem sIx_nat (n d k:Nat):sIx n d (some (k:Int))=min k n:=by
 show (if (k:Int)<0 then ((k:Int)+(n:Int)).toNat else min (k:Int).toNat n)=min k n
 rw [if_neg (by first|lia|omega),Int.toNat_natCast]
end
end HT
namespace L2
open PySem PySem.Spec PyProof.Rows
abbrev TO:=St→Hp→(Option Int→Hp→Prop)→Prop
def PO (X:Cx) (e:Option Expr) (t:TO):Prop:=
 ∀ ⦃pins:List (Addr×Obj)⦄ (s:Shared) (σ:St) (H:Hp) (Q:Option Int→Hp→Prop),Inv X pins σ H s→t σ H Q →
  wpAny (model X.prog X.w) X.A (evalPart e X.env) (fun u s'=>Ex2 fun o H'=>Inv X pins σ H' s'∧IsPart u o∧Q o H') X.xe s
def tNoPart:TO:=fun _ H Q=>Q none H
def tPart (t:TE):TO:=fun σ H Q=>t σ H fun x H1=>∃i,x = .int i∧Q (some i) H1
theorem intsAre_of {ns:List Int} : ∀{us:List Value},Vals (ns.map V.int) us→IntsAre us ns:=by
 induction ns with
 | nil=>intro us r;rw [List.map_nil] at r;cases r;exact .nil
 | cons n ns ih=>
  intro us r
  rw [List.map_cons] at r
  cases r with
  | cons r1 r2=>
   obtain ⟨t,e⟩:=r1
   subst e
   exact .cons n t (ih r2)
section
variable {X:Cx} {e:Expr} {te:TE} {lo hi:Option Expr} {tl th:TO} {pos p2:Pos}
theorem po_none:PO X none tNoPart:=by
 intro pins s σ H Q I h
 rw [evalPart_none]
 exact wpAny_pure ⟨none,H,I, .none,h⟩
theorem po_some (h:PE X e te):PO X (some e) (tPart te):=by
 intro pins s σ H Q I hw
 rw [evalPart_some]
 refine thn (h s σ H _ I hw) fun u s1 ⟨x,H1,I1,r1,q1⟩ => ?_
 obtain ⟨i,rfl,q⟩:=q1
 obtain ⟨t,rfl⟩:=r1
 exact ⟨some i,H1,I1, .int i t,q⟩
def SlR (X:Cx) (r:V→Option Int→Option Int→Hp→VK→Prop):Prop:=
 ∀ ⦃pins:List (Addr×Obj)⦄ (s:Shared) (σ:St) (H:Hp) (x:V) (v vl vu:Value) (lo hi:Option Int) (sl:Addr) (Q:VK),Inv X pins σ H s→RelV x v→s.heap.IsSliceOf sl vl vu .none→IsPart vl lo→IsPart vu hi→r x lo hi H Q →
  Ex2 fun T id=>typeLookup (.type T) "__getitem__" = pure (some (.builtin id))∧s.TypeIs v T∧wpAny (model X.prog X.w) X.A (getItem v (.ref sl)) (EP X pins σ Q) X.xe s
theorem SlR.or {r r':V→Option Int→Option Int→Hp→VK→Prop} (h:SlR X r) (h':SlR X r'):SlR X (fun x lo hi H Q=>r x lo hi H Q∨r' x lo hi H Q):=by
 intro pins s σ H x v vl vu lo hi sl Q I rx hs pl pu q
 rcases q with q|q
 ·exact h s σ H x v vl vu lo hi sl Q I rx hs pl pu q
 ·exact h' s σ H x v vl vu lo hi sl Q I rx hs pl pu q
def tSl (r:V→Option Int→Option Int→Hp→VK→Prop) (te:TE) (tl th:TO):TE:=fun σ H Q=>te σ H fun x H1=>tl σ H1 fun l H2=>th σ H2 fun u H3=>r x l u H3 Q
theorem pe_slice {r:V→Option Int→Option Int→Hp→VK→Prop} (hr:SlR X r) (he:PE X e te) (hl:PO X lo tl) (hu:PO X hi th):PE X (.Subscript e (.Slice lo hi none p2) pos) (tSl r te tl th):=by
 intro pins s σ H Q I h
 refine Subscript_ (thn (he s σ H _ I h) fun v s1 ⟨x,H1,I1,r1,q1⟩ => ?_)
 refine wpAny_Slice (thn (hl s1 σ H1 _ I1 q1) fun vl s2 ⟨l,H2,I2,pl,q2⟩=>thn (hu s2 σ H2 _ I2 q2) fun vu s3 ⟨u,H3,I3,pu,q3⟩ => ?_)
 rw [evalPart_none]
 refine wpAny_pure ?_
 have I4:Inv X pins σ H3 { s3 with heap:=s3.heap.push { cls := .type "slice",data := .fields #[vl,vu, .none] } }:=I3.kept (t':=s3.toks) fun b ob q=>Heap.get?_push_of_some _ q
 obtain ⟨T,id,hT,ht,hg⟩:=hr { s3 with heap:=s3.heap.push { cls := .type "slice",data := .fields #[vl,vu, .none] } } σ H3 x v vl vu l u s3.heap.objs.size Q I4 r1 (Heap.IsSliceOf.new ..) pl pu q3
 show wpAny (model X.prog X.w) X.A (subscriptTail e (.Slice lo hi none p2) v (.ref s3.heap.objs.size)) (EP X pins σ Q) X.xe { s3 with heap:=s3.heap.push { cls := .type "slice",data := .fields #[vl,vu, .none] } }
 exact tail_any (ops:=[.ref s3.heap.objs.size,v]) ht hT hg (by with_unfolding_all rfl)
def cutV (xs:List V) (lo hi:Option Int):List V:=(xs.drop (HT.sIx xs.length 0 lo)).take (HT.sIx xs.length xs.length hi-HT.sIx xs.length 0 lo)
theorem cutV_length (xs:List V) (lo hi:Option Int):(cutV xs lo hi).length≤xs.length:=by
 unfold cutV
 rw [List.length_take,List.length_drop]
 (first|lia|omega)
end
end L2
namespace L2
open PySem PySem.Spec PyProof.Rows
def ixN (n:Nat) (i:Int):Option Nat:=if 0≤i then (if i<n then some i.toNat else none) else if -(n:Int)≤i then some (i+n).toNat else none
def atI {α:Type} (xs:List α) (i:Int):Option α:=(ixN xs.length i).bind fun j=>xs[j]?
theorem ixN_seq {n:Nat} {i:Int} {j:Nat} (h:ixN n i=some j):seqIndex? i n=some j∧j<n ∧ -(n:Int)≤i∧i<n:=by
 unfold ixN at h
 by_cases h0:0≤i
 ·rw [if_pos h0] at h
  by_cases h1:i<n
  ·rw [if_pos h1] at h
   have e:i.toNat=j:=Option.some.inj h
   exact ⟨by rw [seqIndex_of h0 h1,e],by first|lia|omega,by first|lia|omega,h1⟩
  ·rw [if_neg h1] at h;cases h
 ·rw [if_neg h0] at h
  by_cases h1 : -(n:Int)≤i
  ·rw [if_pos h1] at h
   have e:(i+n).toNat=j:=Option.some.inj h
   exact ⟨by rw [seqIndex_neg (by first|lia|omega) h1,e],by first|lia|omega,h1,by first|lia|omega⟩
  ·rw [if_neg h1] at h;cases h
theorem atI_get {α:Type} {xs:List α} {i:Int} {v : α} (h:atI xs i=some v):∃j,seqIndex? i xs.length=some j∧xs[j]? = some v∧j<xs.length ∧ -(xs.length:Int)≤i∧i<xs.length:=by
 unfold atI at h
 cases e:ixN xs.length i with
 | none=>rw [e] at h;cases h
 | some j=>
  rw [e] at h
  obtain ⟨h1,h2,h3,h4⟩:=ixN_seq e
  exact ⟨j,h1,h,h2,h3,h4⟩
theorem atI_nat {α:Type} {xs:List α} {j:Nat} {v : α} (h:xs[j]? = some v):atI xs (j:Int)=some v:=by
 have hj:j<xs.length:=(List.getElem?_eq_some_iff.mp h).1
 have e:ixN xs.length (j:Int)=some j:=by
  unfold ixN
  rw [if_pos (by first|lia|omega),if_pos (by first|lia|omega)];simp
 unfold atI;rw [e];exact h
def PlainIx (b:Expr):Prop:=∀o i,subscripted b false o i=operate [o,i] (getItem o i)
def IxR (X:Cx) (r:R2):Prop:=
 ∀ ⦃value slice:Expr⦄ ⦃pins:List (Addr×Obj)⦄ (s:Shared) (σ:St) (H:Hp) (x y:V) (v u:Value) (Q:VK),Inv X pins σ H s→RelV x v→RelV y u→r x y H Q →
  subscripted slice false v u=operate [v,u] (getItem v u)→wpAny (model X.prog X.w) X.A (subscriptTail value slice v u) (EP X pins σ Q) X.xe s
def MtR (X:Cx) (id:String) (r:V→List V→Hp→VK→Prop):Prop:=
 ∀ ⦃pins:List (Addr×Obj)⦄ (s:Shared) (σ:St) (H:Hp) (x:V) (xs:List V) (v:Value) (us:List Value) (Q:VK),Inv X pins σ H s→RelV x v→Vals xs us→r x xs H Q →
  wpAny (model X.prog X.w) X.A (call (.builtin id) (v :: us)) (EP X pins σ Q) X.xe s
section
variable {X:Cx} {a b:Expr} {ta tb:TE} {pos:Pos}
theorem IxR.or {r r':R2} (h:IxR X r) (h':IxR X r'):IxR X (fun x y H Q=>r x y H Q∨r' x y H Q):=by
 intro value slice pins s σ H x y v u Q I rx ry q hs
 rcases q with q|q
 ·exact h s σ H x y v u Q I rx ry q hs
 ·exact h' s σ H x y v u Q I rx ry q hs
theorem pe_ix {r:R2} (hr:IxR X r) (ha:PE X a ta) (hb:PE X b tb) (hs:PlainIx b):PE X (.Subscript a b pos) (tOp r ta tb):=by
 intro pins s σ H Q I h
 exact Subscript_ (binT ha hb I h fun v u s2 x y H2 I2 rx ry q=>hr s2 σ H2 x y v u Q I2 rx ry q (hs _ _))
def rIxL (K:PySem.W.Frag):R2:=fun x y H Q=>Ex4 fun p xs i v=>x = .ref p∧y = .int i∧SqL K H p xs∧atI xs i=some v∧Q v H
def rIxT (K:PySem.W.Frag):R2:=fun x y H Q=>Ex4 fun p xs i v=>x = .ref p∧y = .int i∧SqT K H p xs∧atI xs i=some v∧Q v H
def rIxS:R2:=fun x y H Q=>Ex3 fun z i c=>x = .str z∧y = .int i∧z.length≤sizeLine∧atI z.cps.toList i=some c∧Q (.str ⟨#[c]⟩) H
theorem ix_list:IxR X (rIxL X.K):=by
 intro value slice pins s σ H x y v u Q I rx ry h hs
 obtain ⟨p,xs,i,z,rfl,rfl,hq,he,q⟩:=h
 cases rx
 obtain ⟨t,rfl⟩:=ry
 obtain ⟨its,r,pl,hz⟩:=I.list hq
 obtain ⟨j,h1,h2,h3,h4,h5⟩:=atI_get he
 obtain ⟨w,ew,rw'⟩:=r.get h2
 have hl:=r.length
 have hn:=line63
 have fin:EP X pins σ Q w s:=⟨z,H,I,rw',q⟩
 by_cases h0:0≤i
 ·have hj:i.toNat=j:=by
   rw [seqIndex_of h0 h5] at h1
   exact Option.some.inj h1
  exact item_listR pl.isList h0 (by first|lia|omega) (by rw [hj];simpa using ew) fin hs
 ·have hj:(i+(its.toArray.size:Int)).toNat=j:=by
   rw [seqIndex_neg (by first|lia|omega) h4] at h1
   rw [List.size_toArray, ←hl]
   exact Option.some.inj h1
  exact subscriptTail_builtinR (x:=w) pl.isList.typeIs slot_list_getitem.lookup
   (wpAny_getItem_list_neg (Q:=fun r s'=>r=w∧EP X pins σ Q r s') pl.isList (by first|lia|omega) (by rw [List.size_toArray] <;> (first|lia|omega)) (by first|lia|omega) (by rw [hj];simpa using ew) ⟨rfl,fin⟩) hs
theorem ix_tup:IxR X (rIxT X.K):=by
 intro value slice pins s σ H x y v u Q I rx ry h hs
 obtain ⟨p,xs,i,z,rfl,rfl,hq,he,q⟩:=h
 cases rx
 obtain ⟨t,rfl⟩:=ry
 obtain ⟨its,r,pl,hz⟩:=I.tuple hq
 obtain ⟨j,h1,h2,h3,h4,h5⟩:=atI_get he
 obtain ⟨w,ew,rw'⟩:=r.get h2
 have hl:=r.length
 have hn:=line63
 have fin:EP X pins σ Q w s:=⟨z,H,I,rw',q⟩
 exact subscriptTail_builtinR (x:=w) pl.typeIs slot_tuple_getitem.lookup
  (getItem_tuple (j:=j) (Q:=fun r s'=>r=w∧EP X pins σ Q r s') pl (by first|lia|omega) (by first|lia|omega) (by rw [List.size_toArray, ←hl];exact h1) (by simpa using ew) ⟨rfl,fin⟩) hs
theorem ix_str:IxR X rIxS:=by
 intro value slice pins s σ H x y v u Q I rx ry h hs
 obtain ⟨z,i,c,rfl,rfl,hz,he,q⟩:=h
 obtain ⟨t,rfl⟩:=rx
 obtain ⟨t',rfl⟩:=ry
 obtain ⟨j,h1,h2,h3,h4,h5⟩:=atI_get he
 have hl:z.cps.toList.length=z.length:=by simp [Str.length]
 rw [hl] at h1 h4 h5
 have hn:=line63
 exact tail_any (typeIs_str s z t) slot_str_getitem.lookup (getItem_str (c:=c) (by
  have e1:decide (i < -(2 ^ 63:Int))=false:=decide_eq_false (by first|lia|omega)
  have e2:decide (i≥2 ^ 63)=false:=decide_eq_false (by first|lia|omega)
  rw [e1,e2,Bool.or_false]) (by rw [h1];simpa using h2) ⟨.str ⟨#[c]⟩,H,I.tok _,⟨_,rfl⟩,q⟩) hs
def rIx (K:PySem.W.Frag):R2:=fun x y H Q=>rIxL K x y H Q∨rIxT K x y H Q∨rIxS x y H Q
theorem ix_seq:IxR X (rIx X.K):=ix_list.or (ix_tup.or ix_str)
theorem mapSeq_set (its:List Value) (n j:Nat) (u:Value):Obj.mapSeq (·.setIfInBounds j u) { cls := .type "list",data := .seq its.toArray n } = { cls := .type "list",data := .seq (its.set j u).toArray n }:=by
 simp [Obj.mapSeq]
theorem Inv.lst {pins:List (Addr×Obj)} {σ:St} {H:Hp} {s:Shared} {p:Addr} {xs:List V} (I:Inv X pins σ H s) (h:H p=some (.lst xs)) :
  ∃(its:List Value) (n:Nat),Vals xs its∧s.heap.get? p=some { cls := .type "list",data := .seq its.toArray n } ∧ xs.length≤sizeLine:=by
 obtain ⟨z,its,n,r,e⟩:=I.hok p _ h
 exact ⟨its,n,r,e,z⟩
theorem Inv.lstUpd {pins:List (Addr×Obj)} {σ:St} {H:Hp} {s:Shared} {p:Addr} {xs ys:List V} {its its':List Value} {n n':Nat} {f:Obj→Obj} (I:Inv X pins σ H s) (h:H p=some (.lst xs))
  (ho:s.heap.get? p=some { cls := .type "list",data := .seq its.toArray n }) (hf:f { cls := .type "list",data := .seq its.toArray n } = { cls := .type "list",data := .seq its'.toArray n' }) (r:Vals ys its') (hz:ys.length≤sizeLine) (t:Nat) :
  Inv X pins σ (upd H p (.lst ys)) { s with heap:=s.heap.update p f,toks:=t }:=by
 have e:(s.heap.update p f).get? p=some { cls := .type "list",data := .seq its'.toArray n' }:=by
  rw [Heap.get?_update_self f ho (by rw [hf] <;> rfl),hf]
 refine I.write (x:=p) (e:=p) (by rw [h];trivial) (.inl rfl) (fun b u hb q=>(Heap.get?_update_other _ _ (Ne.symm hb)).trans q) ⟨_,e⟩ ?_
 exact ⟨hz,its',n',r,e⟩
def rSetL:V→V→V→Hp→(Hp→Prop)→Prop:=fun o i v H Q=>Ex4 fun p xs k j=>o = .ref p∧i = .int k∧H p=some (.lst xs)∧ixN xs.length k=some j∧Q (upd H p (.lst (xs.set j v)))
theorem set_list:PSet X rSetL:=by
 intro pins s σ H o i v ov iv u Q I ro ri rv h
 obtain ⟨p,xs,k,j,rfl,rfl,hp,hj,q⟩:=h
 cases ro
 obtain ⟨t,rfl⟩:=ri
 obtain ⟨its,n,r,ho,hz⟩:=I.lst hp
 obtain ⟨h1,h2,h3,h4⟩:=ixN_seq hj
 have hl:=r.length
 have hn:=line63
 have I':Inv X pins σ (upd H p (.lst (xs.set j v))) { s with heap:=s.heap.update p (Obj.mapSeq (·.setIfInBounds j u)) }:=
  I.lstUpd hp ho (mapSeq_set its n j u) (r.set rv j) (by rw [List.length_set];exact hz) s.toks
 by_cases h0:0≤k
 ·have hk:k.toNat=j:=by
   rw [seqIndex_of h0 h4] at h1
   exact Option.some.inj h1
  exact PySem.W.ki_setAt ho h0 (by first|lia|omega) (by rw [List.size_toArray, ←hl];exact h4) (by rw [hk];exact ⟨_,I',q⟩)
 ·have hk:(k+(its.toArray.size:Int)).toNat=j:=by
   rw [seqIndex_neg (by first|lia|omega) h3] at h1
   rw [List.size_toArray, ←hl]
   exact Option.some.inj h1
  exact PySem.W.ki_setBack ho (by first|lia|omega) (by rw [List.size_toArray, ←hl];exact h3) (by first|lia|omega) (by rw [hk];exact ⟨_,I',q⟩)
theorem slice_bounds (lo hi:Option Int) (n:Nat):(sliceBounds lo hi none n).1=((HT.sIx n 0 lo:Nat):Int)∧(sliceBounds lo hi none n).2.1=((HT.sIx n n hi:Nat):Int)∧(sliceBounds lo hi none n).2.2=1:=by
 refine ⟨?_,?_,rfl⟩
 ·cases lo with
  | none=>simp [sliceBounds,HT.sIx]
  | some i=>
   simp only [sliceBounds,HT.sIx,Option.getD_none,show (1:Int)>0 by decide,if_true]
   by_cases h:i<0
   ·simp only [h,if_true] <;> (first|lia|omega)
   ·simp only [h,if_false] <;> (first|lia|omega)
 ·cases hi with
  | none=>simp [sliceBounds,HT.sIx]
  | some i=>
   simp only [sliceBounds,HT.sIx,Option.getD_none,show (1:Int)>0 by decide,if_true]
   by_cases h:i<0
   ·simp only [h,if_true] <;> (first|lia|omega)
   ·simp only [h,if_false] <;> (first|lia|omega)
theorem slicePick_cut (its:List Value) (lo hi:Option Int):slicePick its.toArray lo hi none=((its.drop (HT.sIx its.length 0 lo)).take (HT.sIx its.length its.length hi-HT.sIx its.length 0 lo)).toArray:=by
 obtain ⟨h1,h2,h3⟩:=slice_bounds lo hi its.toArray.size
 unfold slicePick
 rw [h1,h2,h3]
 simp only [sliceRange_one,pick_run,List.size_toArray] <;> rfl
def rSlL (K:PySem.W.Frag):V→Option Int→Option Int→Hp→VK→Prop:=fun x lo hi H Q=>Ex2 fun a xs=>x = .ref a∧SqL K H a xs∧∀p,H p=none→Q (.ref p) (upd H p (.lst (cutV xs lo hi)))
theorem sl_list:SlR X (rSlL X.K):=by
 intro pins s σ H x v vl vu lo hi sl Q I rx hs pl pu h
 obtain ⟨a,xs,rfl,hx,q⟩:=h
 cases rx
 obtain ⟨its,r,ht,hz⟩:=I.list hx
 have hlen:=r.length
 refine ⟨"list",_,slot_list_getitem.lookup,ht.isList.typeIs,?_⟩
 refine wpAny_getItem_list_slice ht.isList hs pl pu .none (by simp) ?_ (by rw [List.size_toArray] <;> (first|lia|omega))
 rw [slicePick_cut, ←hlen]
 refine ⟨.ref s.heap.objs.size,_,I.laid (t':=s.toks) (o := .lst (cutV xs lo hi)) (fun b ob q=>Heap.get?_push_of_some _ q) (Nat.le_refl _) ?_,rfl,q _ (I.hok.fresh (Nat.le_refl _))⟩
 exact ⟨Nat.le_trans (cutV_length xs lo hi) hz,_,0,(r.drop (HT.sIx xs.length 0 lo)).take (HT.sIx xs.length xs.length hi-HT.sIx xs.length 0 lo),Heap.get?_push_size _ rfl⟩
theorem CallR.or {f:Value} {r r':List V→Hp→VK→Prop} (h:CallR X f r) (h':CallR X f r'):CallR X f (fun xs H Q=>r xs H Q∨r' xs H Q):=by
 intro pins s σ H xs us Q I rs q
 rcases q with q|q
 ·exact h s σ H xs us Q I rs q
 ·exact h' s σ H xs us Q I rs q
theorem call_list_of:CallR X (.type "list") (fun xs H Q=>∃p ys,xs=[.ref p]∧(SqL X.K H p ys∨SqT X.K H p ys)∧∀l,H l=none→Q (.ref l) (upd H l (.lst ys))):=by
 intro pins s σ H xs us Q I r h
 obtain ⟨p,ys,rfl,hq,q⟩:=h
 obtain ⟨u,rfl,rx⟩:=vals1 r
 cases rx
 have fin:∀(its:List Value),Vals ys its→ys.length≤sizeLine→∀(h':Heap) (c':Nat),(∀b o',s.heap.get? b=some o'→h'.get? b=some o') →
   h'.get? s.heap.objs.size=some { cls := .type "list",dict:=none,data := .seq its.toArray c',slots := #[] } → EP X pins σ Q (.ref s.heap.objs.size) { s with heap:=h' }:=fun its r' hz h' c' kp e=>
  ⟨.ref s.heap.objs.size,_,I.laid (t':=s.toks) kp (Nat.le_refl _) (show ObjOk X.prog X.w _ h' _ (.lst ys) from ⟨hz,its,c',r',e⟩),rfl,q _ (I.hok.fresh (Nat.le_refl _))⟩
 rcases hq with hq|hq
 ·obtain ⟨its,r',pl,hz⟩:=I.list hq
  have hlen:=r'.length
  obtain ⟨o,ho,hc,n,hd⟩:=pl.isList
  exact call_list_seq p (.inl rfl) ho hc hd (fun h' c' kp e=>fin its r' hz h' c' kp e) (by simp only [List.size_toArray] <;> (first|lia|omega))
 ·obtain ⟨its,r',pl,hz⟩:=I.tuple hq
  have hlen:=r'.length
  obtain ⟨o,ho,hc,n,hd⟩:=pl
  exact call_list_seq p (.inr rfl) ho hc hd (fun h' c' kp e=>fin its r' hz h' c' kp e) (by simp only [List.size_toArray] <;> (first|lia|omega))
def tyV (K:PySem.W.Frag) (T:String) (x:V) (H:Hp):Prop:=match x with
 | .str _=>T = "str"
 | .int _=>T = "int"
 | .ref p=>(T = "list" ∧ ∃xs,SqL K H p xs)∨(T = "tuple" ∧ ∃o,K.lookup p=some o∧o.cls = .type "tuple" ∧ o.dict=none) ∨
   (T = "dict" ∧ ((∃kvs,H p=some (.dK kvs))∨∃kvs,H p=some (.dT kvs)))∨(T = "set" ∧ Ex2 fun S n=>H p=some (.set S n))
 | _=>False
theorem tyV_is {pins:List (Addr×Obj)} {σ:St} {H:Hp} {s:Shared} {T:String} {x:V} {v:Value} (I:Inv X pins σ H s) (r:RelV x v) (ty:tyV X.K T x H) :
  s.TypeIs v T∧∀a,v = .ref a→∃ob,s.heap.get? a=some ob∧ob.dict=none:=by
 cases x with
 | str z=>
  obtain ⟨t,rfl⟩:=r
  cases (show T = "str" from ty)
  exact ⟨typeIs_str s z t,fun _ e=>nomatch e⟩
 | int i=>
  obtain ⟨t,rfl⟩:=r
  cases (show T = "int" from ty)
  exact ⟨typeIs_int s i t,fun _ e=>nomatch e⟩
 | ref p=>
  cases r
  rcases ty with ⟨rfl,xs,hq⟩|⟨rfl,o,hk,hc,hd⟩|⟨rfl,hk⟩|⟨rfl,S,n,hk⟩
  ·obtain ⟨its,_,pl,_⟩:=I.list hq
   refine ⟨pl.isList.typeIs,fun a e => ?_⟩
   cases e
   obtain ⟨o,n,e,c,hd,_⟩:=pl
   exact ⟨o,e,hd⟩
  ·refine ⟨⟨o,I.kIn p o hk,hc⟩,fun a e => ?_⟩
   cases e
   exact ⟨o,I.kIn _ o hk,hd⟩
  ·have z:∃o,s.heap.get? p=some o∧o.ExactDict:=by
    rcases hk with ⟨kvs,hk⟩|⟨kvs,hk⟩
    ·obtain ⟨_,_,_,_,o,_,_,e,ex,_⟩:=I.hok p _ hk
     exact ⟨o,e,ex⟩
    ·obtain ⟨_,_,_,_,o,_,_,e,ex,_⟩:=I.hok p _ hk
     exact ⟨o,e,ex⟩
   obtain ⟨o,e,ex⟩:=z
   refine ⟨⟨o,e,ex.1⟩,fun a e2 => ?_⟩
   cases e2
   exact ⟨o,e,ex.2.1⟩
  ·obtain ⟨o,_,_,_,e,ex,_⟩:=I.hok p _ hk
   refine ⟨⟨o,e,ex.1⟩,fun a e2 => ?_⟩
   cases e2
   exact ⟨o,e,ex.2.1⟩
 | _=>exact False.elim ty
def tBM (K:PySem.W.Frag) (T:String) (r:V→List V→Hp→VK→Prop) (to:TE) (t:TA):TE:=fun σ H Q=>to σ H fun x H1=>tyV K T x H1∧t σ H1 fun xs H2=>r x xs H2 Q
variable {o e:Expr} {es:List Expr} {to:TE} {t:TA} {name:Str} {apos cpos:Pos} {T id:String} {r:V→List V→Hp→VK→Prop}
theorem pe_bm (pa:PlainAttrs T) (slot:Slot T name id) (hty:typeOf (.builtin id)=pure (.type "method_descriptor")) (hm:MtR X id r) (ho:PE X o to) (ha:PA X (e :: es) t)
  (hbase:attributeBase o name X.env (eval o X.env)=eval o X.env:=by rfl)
  (hfew:((backTo cpos (starEach (e :: es) X.env)).all (fun x => !x.1)&&(backToKw cpos (keywordEach [] X.env)).all (fun x=>x.1.isSome)
   && decide ((e :: es).length+([]:List Keyword).length+(if ([]:List Keyword).isEmpty then 0 else 1)<30))=true:=by rfl)
  (hline:(apos.endLine == cpos.line)=true:=by rfl) (hs:starEach (e :: es) X.env=(false,eval e X.env) :: starEach es X.env:=by rfl) (hplain:(backTo cpos (starEach es X.env)).any (·.1)=false:=by rfl) :
  PE X (.Call (.Attribute o name apos) (e :: es) [] cpos) (tBM X.K T r to t):=by
 intro pins s σ H Q I h
 refine wpAny_Call_method_late hbase hfew hline rfl (thn (ho s σ H _ I h) fun v s1 ⟨x,H1,I1,r1,ty,q1⟩ => ?_)
 obtain ⟨h1,h2⟩:=tyV_is I1 r1 ty
 refine ⟨T,id,pa,slot,hty,h1,h2,?_⟩
 have hA:=ha (pos:=cpos) s1 σ H1 _ I1 q1
 rw [hs] at hA ⊢
 refine Calls.callWith_builtin (by show (false||(backTo cpos (starEach es X.env)).any (·.1))=false;rw [hplain] <;> rfl) (Calls.evalArgs_plain ?_)
 exact thn hA fun us s2 ⟨vs,H2,I2,r2,q2⟩=>hm s2 σ H2 x vs v us Q I2 r1 r2 q2
end
end L2
namespace L2
open PySem PySem.Spec PyProof.Rows
def MtM (X:Cx) (id:String) (r:V→List V→Hp→VK→Prop):Prop:=
 ∀ ⦃pins:List (Addr×Obj)⦄ (s:Shared) (σ:St) (H:Hp) (x:V) (xs:List V) (v:Value) (us:List Value) (Q:VK),Inv X pins σ H s→RelV x v→Vals xs us→r x xs H Q →
  wpAny (model X.prog X.w) X.A (call (.builtin id) (v :: us)) (EP X pins σ Q) X.xe s
theorem Vals.hd {x:V} {xs:List V} {us:List Value} (h:Vals (x :: xs) us):∃u r,us=u :: r∧RelV x u∧Vals xs r:=by
 cases h with|cons a b=>exact ⟨_,_,rfl,a,b⟩
theorem Vals.one {x:V} {us:List Value} (h:Vals [x] us):∃u,us=[u]∧RelV x u:=by
 obtain ⟨u,r,rfl,a,h⟩:=h.hd
 cases h
 exact ⟨_,rfl,a⟩
theorem Vals.eraseIdx:∀{xs:List V} {us:List Value} (i:Nat),Vals xs us→Vals (xs.eraseIdx i) (us.eraseIdx i)
 | _,_,_, .nil => .nil
 | _,_,0, .cons _ t=>t
 | _,_,i+1, .cons r t => .cons r (Vals.eraseIdx i t)
theorem Vals.rep {xs:List V} {us:List Value} (h:Vals xs us):∀k:Nat,Vals (List.replicate k xs).flatten (List.replicate k us).flatten
 | 0 => .nil
 | k+1=>by
  rw [List.replicate_succ,List.replicate_succ,List.flatten_cons,List.flatten_cons]
  exact Vals.append h (Vals.rep h k)
theorem len_erase {α:Type} : ∀(l:List α) (i:Nat),(l.eraseIdx i).length≤l.length
 | [],_=>Nat.le_refl _
 | _ :: _,0=>Nat.le_succ _
 | _ :: r,i+1=>Nat.succ_le_succ (len_erase r i)
theorem foldl_rep (its:List Value):∀(k:Nat) (acc:List Value),
  List.foldl (fun x1 x2=>x1++x2) acc.toArray (List.replicate k its.toArray)=(acc++(List.replicate k its).flatten).toArray
 | 0,acc=>by simp
 | k+1,acc=>by
  have e:acc.toArray++its.toArray=(acc++its).toArray:=by simp
  have e2:(acc++its)++(List.replicate k its).flatten=acc++(List.replicate (k+1) its).flatten:=by
   rw [List.replicate_succ,List.flatten_cons,List.append_assoc]
  rw [←e2, ←foldl_rep its k (acc++its), ←e,List.replicate_succ,List.foldl_cons]
section
variable {X:Cx} {pins:List (Addr×Obj)} {σ:St} {H:Hp} {s:Shared} {l b:Addr} {xs ys zs:List V}
theorem Inv.lset {its its':List Value} {n:Nat} {f:Array Value→Array Value} {t':Nat} (I:Inv X pins σ H s) (hH:H l=some (.lst xs))
  (e:s.heap.get? l=some { cls := .type "list",data := .seq its.toArray n }) (hf:f its.toArray=its'.toArray) (hv:Vals ys its') (hz:ys.length≤sizeLine) :
  Inv X pins σ (upd H l (.lst ys)) { s with heap:=s.heap.update l (Obj.mapSeq f),toks:=t' }:=by
 have q:=PySem.IsL.update e f
 rw [hf] at q
 refine I.write (x:=l) (e:=l) (by rw [hH];exact trivial) (.inl rfl) (fun b' u hb hu=>(Heap.get?_update_other s.heap (Obj.mapSeq f) (Ne.symm hb)).trans hu) ⟨_,q⟩ ?_
 exact ⟨hz,its',_,hv,q⟩
theorem Inv.lnew {its:List Value} {t':Nat} (I:Inv X pins σ H s) (hv:Vals ys its) (hz:ys.length≤sizeLine) :
  Inv X pins σ (upd H s.heap.objs.size (.lst ys)) { s with heap:=s.heap.push { cls := .type "list",data := .seq its.toArray },toks:=t' }:=
 I.laid (fun _ _ q=>Heap.get?_push_of_some _ q) (Nat.le_refl _) ⟨hz,its,0,hv,Heap.get?_push_size _ rfl⟩
theorem Inv.fresh (I:Inv X pins σ H s):H s.heap.objs.size=none:=I.hok.fresh (Nat.le_refl _)
theorem Inv.lstM (I:Inv X pins σ H s) (hH:H l=some (.lst xs)):xs.length≤sizeLine∧∃(its:List Value) (n:Nat),Vals xs its∧xs.length=its.length∧s.heap.get? l=some { cls := .type "list",data := .seq its.toArray n }:=by
 obtain ⟨z,its,n,r,e⟩:=I.hok l _ hH
 exact ⟨z,its,n,r,r.length,e⟩
theorem notLongL {n:Nat} (h:n≤sizeLine):Builtin.List.listTooLong n=false:=by
 unfold Builtin.List.listTooLong
 exact decide_eq_false (by first|lia|omega)
end
section
variable {X:Cx}
def rAppend:V→List V→Hp→VK→Prop:=fun x vs H Q=>Ex3 fun l xs y=>x = .ref l∧vs=[y]∧H l=some (.lst xs)∧xs.length<sizeLine∧Q .non (upd H l (.lst (xs++[y])))
theorem mt_append:MtM X "list.append" rAppend:=by
 intro pins s σ H x vs v us Q I rx rv h
 obtain ⟨l,xs,y,rfl,rfl,hH,hz,q⟩:=h
 cases rx
 obtain ⟨u,rfl,ru⟩:=rv.one
 obtain ⟨z,its,n,r,hl,e⟩:=I.lstM hH
 refine call_meets F.slot_list_append ⟨_,e,rfl⟩ F.entry_list_append (F.args_list_append_2 _ _) (PySem.list_append l its.toArray n u (by rw [List.size_toArray]; (first|lia|omega))) ⟨e,?_⟩
 refine ⟨.non,_,I.lset (its':=its++[u]) hH e (by simp) (r.append (.cons ru .nil)) ?_,rfl,q⟩
 rw [List.length_append,List.length_singleton]
 (first|lia|omega)
def rPopAt:V→List V→Hp→VK→Prop:=fun x vs H Q=>Ex5 fun l xs i k y=>x = .ref l∧vs=[.int i]∧H l=some (.lst xs) ∧ -(2 ^ 63)≤i∧i<2 ^ 63∧seqIndex? i xs.length=some k∧xs[k]? = some y∧Q y (upd H l (.lst (xs.eraseIdx k)))
theorem mt_popAt:MtM X "list.pop" rPopAt:=by
 intro pins s σ H x vs v us Q I rx rv h
 obtain ⟨l,xs,i,k,y,rfl,rfl,hH,h1,h2,hk,hy,q⟩:=h
 cases rx
 obtain ⟨u,rfl,ru⟩:=rv.one
 obtain ⟨t,rfl⟩:=ru
 obtain ⟨z,its,n,r,hl,e⟩:=I.lstM hH
 obtain ⟨w,hw,rw'⟩:=r.get hy
 refine call_meets F.slot_list_pop ⟨_,e,rfl⟩ F.entry_list_pop (F.args_list_pop_2 _ _)
  (MeetsSeq.list_pop_at l its.toArray n i t k w (fitsIndex_both h1 h2) (by rw [List.size_toArray, ←hl];exact hk) (by rw [←Array.getElem?_toList];exact hw) (by rw [List.size_toArray]; (first|lia|omega))) ⟨e,?_⟩
 refine ⟨y,_,I.lset (its':=its.eraseIdx k) hH e ?_ (r.eraseIdx k) ?_,rw',q⟩
 ·show its.toArray.eraseIdxIfInBounds k=(its.eraseIdx k).toArray
  rw [List.eraseIdxIfInBounds_toArray]
 ·have:=len_erase xs k
  (first|lia|omega)
def rCat:R2:=fun x y H Q=>Ex4 fun l b xs zs=>x = .ref l∧y = .ref b∧H l=some (.lst xs)∧H b=some (.lst zs)∧xs.length+zs.length≤sizeLine∧∀p,H p=none→Q (.ref p) (upd H p (.lst (xs++zs)))
theorem op_cat:OpR X (binaryOp .Add) rCat:=by
 intro pins s σ H x y v u Q I rx ry h
 obtain ⟨l,b,xs,zs,rfl,rfl,hH,hB,hz,q⟩:=h
 cases rx
 cases ry
 obtain ⟨z,its,n,r,hl,e⟩:=I.lstM hH
 obtain ⟨z2,its2,n2,r2,hl2,e2⟩:=I.lstM hB
 refine PySem.P.add_list e e2 ?_ (by rw [List.size_toArray,List.size_toArray]; (first|lia|omega))
 have ea:its.toArray++its2.toArray=(its++its2).toArray:=by simp
 rw [ea]
 exact ⟨.ref _,_,I.lnew (t':=s.toks) (r.append r2) (by rw [List.length_append]; (first|lia|omega)),rfl,q _ I.fresh⟩
def rRep:R2:=fun x y H Q=>Ex3 fun l k xs=>x = .ref l∧y = .int k∧H l=some (.lst xs) ∧ -(2 ^ 63)≤k∧k<2 ^ 63∧xs.length*k.toNat≤sizeLine ∧
 ∀p,H p=none→Q (.ref p) (upd H p (.lst (List.replicate k.toNat xs).flatten))
theorem len_rep {α:Type} (xs:List α) (k:Nat):(List.replicate k xs).flatten.length=k*xs.length:=by
 induction k with
 | zero=>simp
 | succ k ih=>rw [List.replicate_succ,List.flatten_cons,List.length_append,ih,Nat.succ_mul,Nat.add_comm]
theorem op_rep:OpR X (binaryOp .Mult) rRep:=by
 intro pins s σ H x y v u Q I rx ry h
 obtain ⟨l,k,xs,rfl,rfl,hH,h1,h2,hz,q⟩:=h
 cases rx
 obtain ⟨t,rfl⟩:=ry
 obtain ⟨z,its,n,r,hl,e⟩:=I.lstM hH
 have hlen:its.toArray.size*k.toNat≤sizeLine:=by rw [List.size_toArray, ←hl];exact hz
 have hcap:¬its.toArray.size*k.toNat>(2 ^ 63-1) / 8:=by
  have:(sizeLine:Nat)≤(2 ^ 63-1) / 8:=by decide
  (first|lia|omega)
 have hfit:¬(!Builtin.List.listFitsIndex k)=true:=by
  rw [fitsIndex_both h1 h2]
  exact Bool.false_ne_true
 have hlong:¬Builtin.List.listTooLong (its.toArray.size*k.toNat)=true:=by
  rw [notLongL hlen]
  exact Bool.false_ne_true
 have hnew:List.foldl (fun x1 x2=>x1++x2) #[] (List.replicate (if its.toArray.isEmpty=true then 0 else k.toNat) its.toArray)=(List.replicate k.toNat its).flatten.toArray:=by
  have f0:∀m:Nat,List.foldl (fun x1 x2=>x1++x2) #[] (List.replicate m its.toArray)=(List.replicate m its).flatten.toArray:=fun m=>by
   have:=foldl_rep its m []
   rw [List.nil_append] at this
   exact this
  rw [f0]
  cases its with
  | nil=>simp
  | cons a r'=>rw [if_neg (by simp)]
 refine wpAny_binaryOp_repeat_ref (T := "list") (U := "int") (by decide) ⟨_,e,rfl⟩ (fun s'=>typeIs_int s' k t) noFill_list_mul F.fills_int_mul F.slot_int_rmul repeat_list F.slot_int_index.lookup
  (call_meets F.slot_int_rmul (typeIs_int s k t) F.entry_int_rmul (F.args_int_rmul_2 _ _) (int___rmul___int_list k t l its.toArray n)
   ⟨e,rfl,⟨_,e,rfl⟩,call_meets F.slot_list_mul ⟨_,e,rfl⟩ F.entry_list_mul (F.args_list_mul_2 _ _) (AutoListH.list___mul___list_int_3 l its.toArray n k t hfit hcap hlong) ⟨e,?_⟩⟩)
 rw [hnew]
 exact ⟨.ref _,_,I.lnew (t':=s.toks) (r.rep k.toNat) (by rw [len_rep,Nat.mul_comm];exact hz),rfl,q _ I.fresh⟩
end
section
variable {prog:Program} {w:World} {A:Around} {E:Value→Shared→Prop} {s:Shared}
set_option maxRecDepth 100000 in
end
section
variable {X:Cx}
end
end L2
namespace Att
open PySem PySem.W PySem.Calls PyProof.Rows
theorem ints_of_wellAll {P:Params} {h:Heap} : ∀(ns:List Int) (vs:List Value),WellAll P h vs (ns.map WData.int)→IntsAre vs ns:=by
 intro ns
 induction ns with
 | nil=>
  intro vs w
  rw [List.map_nil] at w
  cases w
  exact .nil
 | cons n ns ih=>
  intro vs w
  rw [List.map_cons] at w
  cases w with
  | cons a b=>
   cases a
   exact .cons _ _ (ih _ b)
theorem script_of {l:OpenLaw} {n:Nat} (hn:l.most=some n) {P:Params} {h:Heap} {args:List WData} {vals:List Value}
  (hpre:l.row.toRowW.claim.pre args=true) (hwl:WellAll P h vals args) :
  ∃a vs ns,vals=[Value.ref a]∧args=[WData.list (ns.map WData.int)]∧h.get? a=some { cls := .type "list",data := .seq vs.toArray } ∧ IntsAre vs ns∧ns.length≤n:=by
 have hsh:WShape.hasAll [] args [.list .int]=true:=(pre_splitW hpre).1
 have hc:l.pre.holds [] { args:=args } = true:=(pre_splitW hpre).2
 obtain ⟨d,r,rfl,h1,h2⟩:=hasAllW_cons hsh
 obtain rfl:=hasAllW_nil h2
 obtain ⟨xs,rfl,h3⟩:=hasW_list h1
 obtain ⟨ns,rfl⟩:=items_int h3
 have hlen:ns.length≤n:=by
  unfold OpenLaw.pre at hc
  have h4:(WTm.not (.lt (.lit (.int (n:Int))) (.len (.arg 0)))).holds [] { args:=[.list (ns.map .int)] } = true:=by
   have h4:=(holds_andW hc).1
   rw [hn] at h4
   exact h4
  have h5:=condW_of h4 (w_not (w_lt w_lit (w_len_list (w_arg rfl))))
  rw [List.length_map] at h5
  refine Nat.le_of_not_lt fun q => ?_
  have q':(n:Int)<((ns.length:Nat):Int):=by (first|lia|omega)
  first
   | (rw [decide_eq_true q'] at h5;exact absurd h5 (by decide))
   | (simp at h5; (first|lia|omega))
 cases hwl with
 | cons w1 w2=>
  cases w2
  cases w1 with
  | list ho hall=>exact ⟨_,_,ns,rfl,rfl,ho,ints_of_wellAll ns _ hall,hlen⟩
theorem post_true (l:OpenLaw) (args:List WData):l.row.toRowW.claim.post args (.bool true) args=true:=
 postW_of (r:=l.row.toRowW) (X:=(true == true))
  (show WShape.has [] (.bool true) .bool=true by first|rfl|decide|simp [WShape.has,WShape.arms,WShape.armsAll])
  (show (WTm.eq .res (.lit (.bool true))).value [] { args:=args,res:=some (.bool true),after:=args } = some (.bool (true == true)) from w_eq_bool (w_res rfl) w_lit) rfl
theorem attach_call {l:OpenLaw} {n:Nat} {q:Program} {loose:List Str} {XP:(Str→Option Value)→Heap→Prop} {YP:World→Heap→Prop} {d:DefRec}
  (hn:l.most=some n) (hdf:d.params.defaults=[])
  (call:∀(w:World) (s₀ s₁:Shared) (mg mb:Str→Option Value) (fa:Addr) (o:Obj) (pm cd doc:Value) (a:Addr) (vs:List Value) (ns:List Int),
   Ground q loose [] XP w s₀ mg mb s₁.heap→YP w s₁.heap →
   s₁.heap.get? fa=some o→o.data = .func (docDef d.name d.params d.body d.scope pm cd doc)→s₁.heap.CodeRec cd d.name→mg d.name=some (.ref fa) →
   s₁.heap.get? a=some { cls := .type "list",data := .seq vs.toArray } → IntsAre vs ns→ns.length≤n→s₁.gens = #[] →
   codeAny (model l.prog w) callerA (.call (.ref fa) ⟨[.ref a],[]⟩) (fun r s'=>r = .ok (.ret (.bool true))∧OldK s₁.heap s'.heap∧s'.os=s₁.os∧AllBare s'.gens) s₁) :
  WalkO q loose XP YP l.row.toRowW d [] (fun f vs=>PySem.call f vs):=by
 intro w s₀ s₁ mg mb G Y fa o pm cd doc dV kV ho hd hcd hD hmg hg args vals as hpre hlay hrd hwl hlo
 obtain rfl:dV = .none:=Dflts.none hD hdf
 obtain rfl:kV = .none:=Dflts.noKw hD
 obtain ⟨a,vs,ns,rfl,rfl,hobj,hints,hlen⟩:=script_of hn hpre hwl
 refine enter_call (codeAny_mono (call w s₀ s₁ mg mb fa o pm cd doc a vs ns G Y ho (fd_plain hd) hcd hmg hobj hints hlen hg) fun r s' hq => ?_)
 obtain ⟨rfl,h2,h3,h4⟩:=hq
 exact ⟨.inl ⟨.bool true, .bool true,[],rfl,fun _=>rfl, .bool true,post_true l _,fun _=>⟨List.Pairwise.nil,fun _ hm=>(nomatch hm)⟩⟩,h2,h3,h4⟩
section
variable {prog:Program} {w:World} {A:Around} {E:Value→Shared→Prop} {s:Shared} {K:Frag}
end
end Att
namespace L2
open PySem PySem.Spec PyProof.Rows
theorem vals_ints {vs:List Value} {ns:List Int} (h:IntsAre vs ns):Vals (ns.map V.int) vs:=by
 induction h with
 | nil=>exact .nil
 | cons n t h ih=>exact .cons ⟨t,rfl⟩ ih
def Only (H:Hp):Prop:=∀b,H b=none∨Ex2 fun o xs=>H b=some (.frz o (.lst xs))
theorem law_call {P:Program} {w:World} {K:PySem.W.Frag} {mg mb:Str→Option Value} {CX:CXT} {k:Nat} {fa a:Addr} {fd:FuncData} {x:Str} {sp:Sp} {s₁:Shared} {vs:List Value} {ns:List Int}
  (KX:K.In s₁.heap) (hns:s₁.heap.Ns mainGlobals mg) (hb:s₁.heap.Ns builtinsNs mb) (hbb:∀x:Str,x ≠ "__name__" → mb x=bootBuiltins x) (hlim:s₁.heap.NoLimit) (hg:s₁.gens = #[])
  (ha:s₁.heap.get? a=some { cls := .type "list",data := .seq vs.toArray }) (hi:IntsAre vs ns) (hl:ns.length≤sizeLine) (hr:Room k callerA)
  (F:∀base:Heap,K.In base→base.Ns mainGlobals mg→FnOk P w K mg base CX k fa fd [x] sp) (hbind:∀(s:Shared) (u:Value),BindsTo s fd ⟨[u],[]⟩ [(x,u)])
  (hsp:∀H:Hp,Only H→SqL K H a (ns.map V.int)→sp [.ref a] H (fun v _=>v = .bl true) fun _ _ _=>False)
  (hCX:∀H e s',CX [] H s₁ (fun _ _ _=>False) e s'→False) :
  codeAny (model P w) callerA (.call (.ref fa) ⟨[.ref a],[]⟩) (fun r s'=>r = .ok (.ret (.bool true))∧OldK s₁.heap s'.heap∧s'.os=s₁.os∧AllBare s'.gens) s₁:=by
 have rv:=vals_ints hi
 have lenV:=hi.length
 have core:∀H:Hp,Only H→SqL K H a (ns.map V.int)→HOk P w H s₁.heap→(∀b,H b≠none→b=a)→(H a≠none→K.lookup a=none) →
   codeAny (model P w) callerA (.call (.ref fa) ⟨[.ref a],[]⟩) (fun r s'=>r = .ok (.ret (.bool true))∧OldK s₁.heap s'.heap∧s'.os=s₁.os∧AllBare s'.gens) s₁:=by
  intro H hO hS hok hA hK
  have base_of:∀{b:Addr} {o:Obj},s₁.heap.get? b=some o→H b=none→(hidT s₁.heap H).get? b=some o:=fun e n=>hidT_get e n
  have noA:∀{b:Addr} {o:Obj} {es:Array DictEntry} {ep:Nat},s₁.heap.get? b=some o→o.data = .dict es ep→H b=none:=fun {b o es ep} e d=>by
   cases q:H b with
   | none=>rfl
   | some u=>
    have e':b=a:=hA b (by rw [q];simp)
    subst e'
    rw [ha] at e;cases e
    have d':Data.seq vs.toArray _=Data.dict es ep:=d
    cases d'
  have nsK:∀{b:Addr} {m:Str→Option Value},s₁.heap.Ns b m→(hidT s₁.heap H).Ns b m:=fun {b m} ⟨o,es,ep,e,d,r⟩=>⟨o,es,ep,base_of e (noA e d),d,r⟩
  have hKb:K.In (hidT s₁.heap H):=fun b o e=>base_of (KX b o e) (by
   cases q:H b with
   | none=>rfl
   | some u=>
    have e':b=a:=hA b (by rw [q];simp)
    subst e'
    rw [hK (by rw [q];simp)] at e;cases e)
  have hM:Mod K mg (hidT s₁.heap H):=⟨hKb,nsK hns,⟨mb,nsK hb,hbb⟩,let ⟨mc,h1,h2⟩:=hlim; ⟨mc,nsK h1,h2⟩⟩
  have e0:Env0 P w K mg (hidT s₁.heap H) callerA [] s₁ H:=⟨rfl,hM,fun b o e=>of_hidT e,Nat.le_of_eq (hidT_size _ _),trivial,fun b hb=>absurd (show b∈([]:List Addr) from hb) (by simp),hok, .of_eq hg⟩
  refine codeAny_mono ((F _ hKb (nsK hns)).run callerA [] s₁ H ⟨[.ref a],[]⟩ [.ref a] [.ref a] _ _ hr e0 (hbind s₁ (.ref a)) (.cons rfl .nil) (hsp H hO hS)) fun r s' h => ?_
  cases r with
  | error e=>exact (hCX H e s' h).elim
  | ok fl=>
   cases fl with
   | next=>exact False.elim h
   | brk=>exact False.elim h
   | cont=>exact False.elim h
   | ret u=>
    obtain ⟨v,H',os,bare,un,hok',r',q⟩:=h
    have q':v = .bl true:=q
    subst q'
    obtain rfl:u=Value.bool true:=r'
    refine ⟨rfl,OldK.of_keep fun b o e => ?_,os,bare⟩
    cases q:H b with
    | none=>exact un.keep b o e q (by intro z;exact absurd (show b∈([]:List Addr) from z) (by simp)) (by simp)
    | some u=>
     rcases hO b with z|⟨ob,xs,z⟩
     ·rw [q] at z;cases z
     ·have z2:=un.frzs b ob _ z
      obtain ⟨e1,_⟩:=hok b _ z
      obtain ⟨e2,_⟩:=hok' b _ z2
      rw [e] at e1;cases e1
      exact e2
 cases hk:K.lookup a with
 | some o=>
  have e:=KX a o hk
  rw [ha] at e
  cases e
  refine core (fun _=>none) (fun _ => .inl rfl) (.inr ⟨_,vs.toArray,_,hk,rfl,rfl,rfl,by rw [List.size_toArray,lenV];exact hl,by simpa using rv⟩) (fun b u z=>by have z':(none:Option HO)=some u:=z;cases z') (fun b z=>absurd rfl z) fun z=>absurd rfl z
 | none=>
  refine core (fun b=>if b=a then some (.frz { cls := .type "list",data := .seq vs.toArray } (.lst (ns.map V.int))) else none) (fun b => ?_) (.inl (.inr ⟨{ cls := .type "list",data := .seq vs.toArray },if_pos rfl⟩)) (fun b u z => ?_) (fun b z => ?_) fun _=>hk
  ·by_cases hb:b=a
   ·exact .inr ⟨_,_,if_pos hb⟩
   ·exact .inl (if_neg hb)
  ·by_cases hb:b=a
   ·have z':=(if_pos hb).symm.trans z
    cases z'
    subst hb
    exact ⟨ha,by rw [List.length_map];exact hl,vs,_,rv,ha⟩
   ·have z':=(if_neg hb).symm.trans z
    cases z'
  ·by_cases hb:b=a
   ·exact hb
   ·exact absurd (if_neg hb) z
end L2
namespace L2
open PySem PySem.Spec PyProof.Rows
theorem walk_of {l:PySem.W.OpenLaw} {n k:Nat} {q:Program} {loose:List Str} {XP:(Str→Option Value)→Heap→Prop} {YP:World→Heap→Prop} {d:DefRec} {K:Params→PySem.W.Frag} {CX:World→CXT} {sp:World→Sp} {x:Str}
  (hn:l.most=some n) (hn2:n≤sizeLine) (hdf:d.params.defaults=[]) (hr:Room k callerA)
  (hY:∀(w:World) (h:Heap),YP w h→(K w.params).In h)
  (F:∀(w:World) (mg:Str→Option Value) (fa:Addr) (h:Heap),(K w.params).In h→h.Ns mainGlobals mg→mg d.name=some (.ref fa) →
   ∃fd:FuncData,(∀(s:Shared) (u:Value),BindsTo s fd ⟨[u],[]⟩ [(x,u)]) ∧
    ∀base:Heap,(K w.params).In base→base.Ns mainGlobals mg→FnOk l.prog w (K w.params) mg base (CX w) k fa fd [x] (sp w))
  (hsp:∀(w:World) (H:Hp) (a:Addr) (ns:List Int),ns.length≤n→Only H→SqL (K w.params) H a (ns.map V.int)→sp w [.ref a] H (fun v _=>v = .bl true) fun _ _ _=>False)
  (hCX:∀(w:World) (H:Hp) (s:Shared) (e:Value) (s':Shared),CX w [] H s (fun _ _ _=>False) e s'→False) :
  PySem.W.WalkO q loose XP YP l.row.toRowW d [] (fun f vs=>PySem.call f vs):=by
 refine Att.attach_call hn hdf fun w s₀ s₁ mg mb fa o pm cd doc a vs ns G Y ho hd hcd hmg hobj hints hlen hg => ?_
 have KX:=hY w _ Y
 obtain ⟨fd,hb,hF⟩:=F w mg fa _ KX G.T.g hmg
 exact law_call KX G.T.g G.T.b G.T.builtins G.T.nolimit hg hobj hints (Nat.le_trans hlen hn2) hr hF hb (fun H hO hS=>hsp w H a ns hlen hO hS) fun H e s'=>hCX w H s₁ e s'
end L2
namespace L2
open PySem PySem.Spec PyProof.Rows
def defArgs (s:Stmt):Arguments:=match s with
 | .FunctionDef _ a _ _ _ _ _ _ _ _=>a
 | _=>{ posonlyargs:=[],args:=[],vararg:=none,kwonlyargs:=[],kw_defaults:=[],kwarg:=none,defaults:=[] }
def defBody (s:Stmt):List Stmt:=match s with
 | .FunctionDef _ _ b _ _ _ _ _ _ _=>b
 | _=>[]
def defScope (s:Stmt):Scope:=match s with
 | .FunctionDef _ _ _ _ _ _ sc _ _ _=>sc
 | _=>{ kind := .function,names:=[],isGenerator:=false,isCoroutine:=false }
abbrev CX0:CXT:=fun _ _ _ _ _ _=>False
abbrev E0:XK:=fun _ _ _=>False
theorem pass0 {X:Cx} : Passes CX0 X E0:=fun _ _ _ _ _ _ _ h=>h.elim
structure Fun (K:PySem.W.Frag) (x qual:Str) (st:Stmt) (f:Addr) (fd:FuncData):Prop where
 ex:∃(oc:Value) (od:Option Addr) (kV doc pm:Value) (an:Option Addr) (cdv ct:Value) (osl:Array (Option Value)),
  fd=PySem.W.fnOf x qual (defArgs st) (defBody st) (defScope st) .none kV doc pm an cdv ct∧K.lookup f=some ⟨oc,od, .func fd,osl⟩∧PySem.W.codeIn K cdv qual=true
 kp:PySem.W.keepIn K (.ref f)=true
section
variable {P:Program} {w:World} {K:PySem.W.Frag} {mg:Str→Option Value} {base:Heap}
theorem Fun.ok {x qual:Str} {st:Stmt} {f:Addr} {fd:FuncData} {N ps:List Str} {k:Nat} {sp:Sp} (F:Fun K x qual st f fd) (S:FnScope N ps (defScope st)) (len:∀vs H Q E,sp vs H Q E→vs.length=ps.length)
  (hbody:∀(cdv:Value) (A:Around) (outer:List Env) (s:Shared) (H:Hp) (vs:List V) (Q:VK) (E:XK),Room k (A.deeper (envOfC qual (defScope st) s.heap.objs.size f cdv))→sp vs H Q E →
   ∃t,PSs (cxOf CX0 P w K mg base N qual (defScope st) f cdv A outer s H E).nox (defBody st) t∧t { nx:=fun _ H'=>Q .non H',rt:=Q } (start N vs) H):FnOk P w K mg base CX0 (k+1) f fd ps sp:=by
 obtain ⟨oc,od,kV,doc,pm,an,cdv,ct,osl,rfl,lk,hcd⟩:=F.ex
 refine fn_of lk hcd S len fun A outer s H vs Q E hr hsp => ?_
 obtain ⟨t,h,q⟩:=hbody cdv A outer s H vs Q E hr hsp
 exact ⟨t,h.nox,q⟩
theorem Fun.binds {x qual:Str} {st:Stmt} {f:Addr} {fd:FuncData} {ps:List Str} (F:Fun K x qual st f fd)
  (h:∀(kV doc pm:Value) (an:Option Addr) (cdv ct:Value) (us:List Value),us.length=ps.length→bindArgs (PySem.W.fnOf x qual (defArgs st) (defBody st) (defScope st) .none kV doc pm an cdv ct) ⟨us,[]⟩=pure (ps.zip us)):Binds K fd ps []:=by
 obtain ⟨oc,od,kV,doc,pm,an,cdv,ct,osl,rfl,lk,hcd⟩:=F.ex
 exact .all (h kV doc pm an cdv ct)
theorem fun_mk {x qual:Str} {st:Stmt} {f:Addr} {oc:Value} {od an:Option Addr} {osl:Array (Option Value)} {kV doc pm cdv ct:Value} (l:K.lookup f=some ⟨oc,od, .func (PySem.W.fnOf x qual (defArgs st) (defBody st) (defScope st) .none kV doc pm an cdv ct),osl⟩)
  (c:PySem.W.codeIn K cdv qual=true) (k:PySem.W.keepIn K (.ref f)=true):Fun K x qual st f (PySem.W.fnOf x qual (defArgs st) (defBody st) (defScope st) .none kV doc pm an cdv ct):=⟨⟨oc,od,kV,doc,pm,an,cdv,ct,osl,rfl,l,c⟩,k⟩
end
theorem hu_of {A:Around} {k:Nat} (hr:Room k A):A.units+1<cLine:=Nat.lt_of_le_of_lt (Nat.add_le_add_left (by decide:1≤64) _) hr.units
section
variable {X:Cx}
theorem pv (i:Nat) {x:Str} {pos:Pos} (hN:X.N[i]? = some x:=by rfl) (hv:Vis X.env.scope x:=by first|exact Or.inl rfl|exact Or.inr (Or.inl rfl)|exact Or.inr (Or.inr rfl)) (hd:(x == ("__debug__" : Str))=false:=by decide)
  (hcd:(x == ("__classdict__" : Str))=false:=by decide):PE X (.Name x pos) (tVar i):=pe_var hN hv hd hcd
end
theorem iteF {A B:Prop} (h:B):if false=true then A else B:=by
 rw [if_neg Bool.false_ne_true]
 exact h
theorem iteT {A B:Prop} (h:A):if true=true then A else B:=by
 rw [if_pos rfl]
 exact h
theorem ite2 {c A B:Prop} [Decidable c] (h1:c→A) (h2:¬c→B):if c then A else B:=by
 by_cases h:c
 ·rw [if_pos h]
  exact h1 h
 ·rw [if_neg h]
  exact h2 h
def Same (H H':Hp):Prop:=∀b o,H b=some o→H' b=some o
theorem Same.refl (H:Hp):Same H H:=fun _ _ h=>h
theorem Same.trans {H H1 H2:Hp} (a:Same H H1) (b:Same H1 H2):Same H H2:=fun c o h=>b c o (a c o h)
theorem Same.free {H H':Hp} (e:Same H H') {l:Addr} (h:H' l=Option.none):H l=Option.none:=by
 cases q:H l with
 | none=>rfl
 | some o=>
  rw [e l o q] at h
  cases h
theorem Same.seq {K:PySem.W.Frag} {H H':Hp} {a:Addr} {xs:List V} (e:Same H H') (h:SqL K H a xs):SqL K H' a xs:=by
 rcases h with (h|⟨o,h⟩)|h
 ·exact .inl (.inl (e _ _ h))
 ·exact .inl (.inr ⟨o,e _ _ h⟩)
 ·exact .inr h
end L2
namespace L2
open PySem PySem.Spec PyProof.Rows
section
variable {X:Cx}
end
end L2
namespace L2
open PySem PySem.Spec PyProof.Rows
section
variable {κ:Type} [DecidableEq κ]
end
end L2
set_option maxHeartbeats 4000000
namespace L2
class Elim (P:Prop) (F:outParam (Prop→Prop)):Prop where
 el:P→∀G:Prop,F G→G
instance (priority:=low) elimBase {P:Prop} : Elim P (fun G=>P→G):=⟨fun h _ k=>k h⟩
instance elimEx {α:Sort u} {P : α→Prop} {F : α→Prop→Prop} [h:∀x,Elim (P x) (F x)]:Elim (∃x,P x) (fun G=>∀x,F x G):=⟨fun ⟨x,hx⟩ G k=>(h x).el hx G (k x)⟩
instance elimAnd {A B:Prop} {F:Prop→Prop} [h:Elim B F]:Elim (A∧B) (fun G=>A→F G):=⟨fun ⟨a,b⟩ G k=>h.el b G (k a)⟩
instance elimEx2 {α0 α1:Type} {P : α0 → α1→Prop} {F : α0 → α1→Prop→Prop} [i:∀x0 x1,Elim (P x0 x1) (F x0 x1)]:Elim (Ex2 P) (fun G=>∀x0 x1,F x0 x1 G):=⟨fun ⟨x0,x1,h⟩ G k=>(i x0 x1).el h G (k x0 x1)⟩
instance elimEx3 {α0 α1 α2:Type} {P : α0 → α1 → α2→Prop} {F : α0 → α1 → α2→Prop→Prop} [i:∀x0 x1 x2,Elim (P x0 x1 x2) (F x0 x1 x2)]:Elim (Ex3 P) (fun G=>∀x0 x1 x2,F x0 x1 x2 G):=⟨fun ⟨x0,x1,x2,h⟩ G k=>(i x0 x1 x2).el h G (k x0 x1 x2)⟩
instance elimEx4 {α0 α1 α2 α3:Type} {P : α0 → α1 → α2 → α3→Prop} {F : α0 → α1 → α2 → α3→Prop→Prop} [i:∀x0 x1 x2 x3,Elim (P x0 x1 x2 x3) (F x0 x1 x2 x3)]:Elim (Ex4 P) (fun G=>∀x0 x1 x2 x3,F x0 x1 x2 x3 G):=⟨fun ⟨x0,x1,x2,x3,h⟩ G k=>(i x0 x1 x2 x3).el h G (k x0 x1 x2 x3)⟩
instance elimEx5 {α0 α1 α2 α3 α4:Type} {P : α0 → α1 → α2 → α3 → α4→Prop} {F : α0 → α1 → α2 → α3 → α4→Prop→Prop} [i:∀x0 x1 x2 x3 x4,Elim (P x0 x1 x2 x3 x4) (F x0 x1 x2 x3 x4)]:Elim (Ex5 P) (fun G=>∀x0 x1 x2 x3 x4,F x0 x1 x2 x3 x4 G):=⟨fun ⟨x0,x1,x2,x3,x4,h⟩ G k=>(i x0 x1 x2 x3 x4).el h G (k x0 x1 x2 x3 x4)⟩
instance elimEx9 {α0 α1 α2 α3 α4 α5 α6 α7 α8:Type} {P : α0 → α1 → α2 → α3 → α4 → α5 → α6 → α7 → α8→Prop} {F : α0 → α1 → α2 → α3 → α4 → α5 → α6 → α7 → α8→Prop→Prop} [i:∀x0 x1 x2 x3 x4 x5 x6 x7 x8,Elim (P x0 x1 x2 x3 x4 x5 x6 x7 x8) (F x0 x1 x2 x3 x4 x5 x6 x7 x8)]:Elim (Ex9 P) (fun G=>∀x0 x1 x2 x3 x4 x5 x6 x7 x8,F x0 x1 x2 x3 x4 x5 x6 x7 x8 G):=⟨fun ⟨x0,x1,x2,x3,x4,x5,x6,x7,x8,h⟩ G k=>(i x0 x1 x2 x3 x4 x5 x6 x7 x8).el h G (k x0 x1 x2 x3 x4 x5 x6 x7 x8)⟩
end L2
namespace L2
open PySem PySem.Spec PyProof.Rows
abbrev noE:Value→Shared→Prop:=fun _ _=>False
theorem noE_to {α:Type} {M:Model} {A:Around} {t:Sem α} {Q : α→Shared→Prop} {E:Value→Shared→Prop} {s:Shared} (h:wpAny M A t Q noE s):wpAny M A t Q E s:=
 wpAny_mono h (fun _ _ q=>q) fun _ _ z=>z.elim
theorem addr_ne {a b:Addr} {n:Nat} (h:a<n) (h':n≤b):a≠b:=fun e=>absurd (Nat.lt_of_lt_of_le h h') (by rw [e];exact Nat.lt_irrefl _)
theorem addr_ne' {a b:Addr} {n:Nat} (h:a<n) (h':n≤b):b≠a:=fun e=>addr_ne h h' e.symm
theorem closure_go (env:Env):∀(names:List (Str×NameKind)) (acc:List (Str×Addr)),
  (∀y∈names,y.2 = .free→∃c,env.cells.lookup y.1=some c)→(∀n c,acc.lookup n=some c→env.cells.lookup n=some c) →
  ∃cl,(forIn names acc fun (x:Str×NameKind) (cs:List (Str×Addr))=>(if (x.2 == NameKind.free)=true then do
    let a ←cellOf env x.1
    pure (ForInStep.yield ((x.1,a) :: cs)) else pure (ForInStep.yield cs):Sem (ForInStep (List (Str×Addr)))))=pure cl ∧
   (∀n c,cl.lookup n=some c→env.cells.lookup n=some c)∧(∀n c,acc.lookup n=some c→∃c',cl.lookup n=some c')∧∀y∈names,y.2 = .free→∃c,cl.lookup y.1=some c
 | [],acc,_,h2=>⟨acc,rfl,h2,fun _ c h=>⟨c,h⟩,fun _ h=>nomatch h⟩
 | (n,k) :: r,acc,h1,h2=>by
  have hr:∀y∈r,y.2 = .free→∃c,env.cells.lookup y.1=some c:=fun y hy=>h1 y (List.mem_cons_of_mem _ hy)
  by_cases hk:k = .free
  ·subst hk
   obtain ⟨c,hc⟩:=h1 (n, .free) List.mem_cons_self rfl
   obtain ⟨cl,e,p1,p2,p3⟩:=closure_go env r ((n,c) :: acc) hr (fun m d hm=>by
    rw [List.lookup_cons] at hm
    by_cases q:m == n
    ·rw [q] at hm
     have:m=n:=by simpa using q
     subst this
     cases hm
     exact hc
    ·have q':(m == n)=false:=by simpa using q
     rw [q'] at hm
     exact h2 m d hm)
   refine ⟨cl,?_,p1,fun m d hm => ?_,fun y hy hf => ?_⟩
   ·rw [List.forIn_cons]
    rw [←e]
    show (cellOf env n >>= fun a=>_) >>= _=_
    unfold cellOf
    rw [hc]
    rfl
   ·by_cases q:m=n
    ·subst q
     exact p2 m c (by rw [List.lookup_cons];simp)
    ·exact p2 m d (by rw [List.lookup_cons];simp only [beq_eq_false_iff_ne.mpr q];exact hm)
   ·rcases List.mem_cons.mp hy with rfl|hy
    ·exact p2 n c (by rw [List.lookup_cons];simp)
    ·exact p3 y hy hf
  ·refine Elim.el (closure_go env r acc hr h2) _ ?_
   rintro cl e p1 p2 p3
   refine ⟨cl,?_,p1,p2,fun y hy hf => ?_⟩
   ·rw [List.forIn_cons, ←e]
    have hb:(k == NameKind.free)=false:=by simpa using hk
    simp only [hb,Bool.false_eq_true,if_false]
    rfl
   ·rcases List.mem_cons.mp hy with rfl|hy
    ·exact absurd hf hk
    ·exact p3 y hy hf
theorem closure_of {scope:Scope} {env:Env} (h:∀y∈scope.names,y.2 = .free→∃c,env.cells.lookup y.1=some c) :
  ∃cl,closureFor scope env=pure cl∧(∀n c,cl.lookup n=some c→env.cells.lookup n=some c)∧∀y∈scope.names,y.2 = .free→∃c,cl.lookup y.1=some c:=by
 obtain ⟨cl,e,p1,_,p3⟩:=closure_go env scope.names [] h (fun n c h=>by simp at h)
 refine ⟨cl,?_,p1,p3⟩
 unfold closureFor
 refine Eq.trans ?_ (congrArg (fun m=>m >>= fun (cs:List (Str×Addr))=>(pure cs:Sem _)) e)
 rfl
def testsOf (ifs:List Expr) (env:Env):Sem Bool:=forIn ifs true fun c r=>if r=true then do let ok ←isTrue c env (eval c env);pure (ForInStep.yield ok) else pure (ForInStep.yield r)
section
variable {prog:Program} {w:World} {A:Around} {R:Result→Shared→Prop} {s:Shared}
theorem comp_turns {elt target iter:Expr} {ifs:List Expr} {scope:Scope} {pos:Pos} {it acc:Value} {env:Env} (I:Nat→Shared→Prop)
  (turn:∀n s,I n s→wpAny (model prog w) A (pyNext it) (fun r s1=>match r with
   | none=>R (.ok .next) s1
   | some v=>wpAny (model prog w) A (letOwnedTupleGo target it v) (fun _ s1'=>wpAny (model prog w) A (assign target env v) (fun _ s2=>
     wpAny (model prog w) A (testsOf ifs env) (fun ok s3=>
      if ok=true then wpAny (model prog w) A (eval elt env) (fun x s4=>
       wpAny (model prog w) A (call (.builtin "list.append") [acc,x]) (fun _ s5=>∃m,m<n∧I m s5) noE s4) noE s3
      else ∃m,m<n∧I m s3) noE s2) noE s1') noE s1) noE s)
  (n:Nat) (h:I n s):codeAny (model prog w) A (.compLoop (.ListComp elt [⟨target,iter,ifs,0⟩] scope pos) 0 it acc env) R s:=by
 refine codeAny_loop rfl I (fun n s hI=>(show wpAny _ A (Sem.onRaise (compTurn (.ListComp elt [⟨target,iter,ifs,0⟩] scope pos) 0 it acc env) (fun x=>do noteFrame x env;theTreesLotGoes x)) _ _ s from wpAny_noted ?_)) n h
 rw [compTurn_list]
 refine wpAny_bind (wpAny_standAt (wpAny_bind (noE_to (thn (turn n s hI) fun r s1 h1 => ?_))))
 cases r with
 | none=>exact wpAny_pure h1
 | some v=>
  refine wpAny_bind (noE_to (thn h1 fun _ s1' h1' => ?_))
  refine wpAny_bind (noE_to (thn h1' fun _ s2 h2=>wpAny_bind (noE_to (thn h2 fun ok s3 h3 => ?_))))
  cases ok with
  | false=>exact wpAny_pure ⟨rfl,h3⟩
  | true=>exact wpAny_bind (wpAny_bind (noE_to (thn h3 fun x s4 h4=>wpAny_bind (noE_to (thn h4 fun _ s5 h5=>wpAny_pure (wpAny_pure ⟨rfl,h5⟩))))))
end
theorem HOk.adopt {P:Program} {w:World} {H:Hp} {h:Heap} {a:Addr} {o:HO} (x:HOk P w H h) (hn:H a=none) (new:ObjOk P w (upd H a o) h a o):HOk P w (upd H a o) h:=fun b u e=>by
 by_cases hb:b=a
 ·subst hb;rw [upd_same] at e;cases e;exact new
 ·rw [upd_ne hb] at e
  exact (x b u e).stay (fun c v _ q=>q) (fun c q=>by rw [upd_ne (ne_of_none q hn)];exact q) fun c xs q=>by rw [upd_ne (ne_of_none q hn)];exact q
structure CompOk (X:Cx) (scope:Scope) (Nc Fc:List Str) (js:List Nat):Prop where
 kind:scope.kind = .function
 nocell:∀y∈scope.names,y.2 ≠ .cell
 names:∀y∈scope.names,y.2 = .local→scope.names.lookup y.1=some .local
 free:∀y∈scope.names,y.2 = .free→X.env.kindOf y.1=some .cell∨X.env.kindOf y.1=some .free
 frees:∀(k:Nat) (x:Str),Fc[k]? = some x→scope.names.lookup x=some .free∧∃j,js[k]? = some j∧X.N[j]? = some x
 lens:js.length=Fc.length
def cvals (σ:St) (js:List Nat):St:=js.map fun j=>(σ[j]?).join
def cxC (X:Cx) (Nc Fc:List Str) (scope:Scope) (cl:List (Str×Addr)) (C:Addr) (s:Shared) (H:Hp) (fp:List Addr):Cx:=
 { X with N:=Nc++Fc,s₀:=s,H₀:=H,env:=compEnvC scope cl C X.env,outer:=X.stack,stack:=X.stack,ex:=fp,fn:=fun _=>false,pn:=[],xe:=noE }
theorem relabel_free {env:Env} : ∀{names:List (Str×NameKind)} {x:Str} {k:NameKind},(names.map fun (n,k)=>if (k == NameKind.free&&env.scope.kind == .function&&env.kindOf n == some .cell) then (n,NameKind.cell) else (n,k)).lookup x=some k →
  names.lookup x=some k∨(k = .cell∧names.lookup x=some .free)
 | [],_,_,h=>by simp at h
 | (n,k0) :: r,x,k,h=>by
  have ih := @relabel_free env r x k
  rw [List.map_cons] at h
  dsimp only at h
  by_cases hx:x=n
  ·subst hx
   by_cases hc:(k0 == NameKind.free&&env.scope.kind == .function&&env.kindOf x == some .cell)=true
   ·rw [if_pos hc] at h
    simp only [List.lookup_cons,beq_self_eq_true] at h
    have hk:k0 = .free:=by
     have:=(Bool.and_eq_true _ _).mp ((Bool.and_eq_true _ _).mp hc).1
     simpa using this.1
    subst hk
    cases h
    exact .inr ⟨rfl,by simp only [List.lookup_cons,beq_self_eq_true]⟩
   ·rw [if_neg hc] at h
    simp only [List.lookup_cons,beq_self_eq_true] at h ⊢
    exact .inl h
  ·have hb:(x == n)=false:=beq_eq_false_iff_ne.mpr hx
   have e:List.lookup x ((if (k0 == NameKind.free&&env.scope.kind == .function&&env.kindOf n == some .cell)=true then (n,NameKind.cell) else (n,k0)) :: (r.map fun (n,k)=>if (k == NameKind.free&&env.scope.kind == .function&&env.kindOf n == some .cell) then (n,NameKind.cell) else (n,k)))=some k:=h
   have e2:List.lookup x (r.map fun (n,k)=>if (k == NameKind.free&&env.scope.kind == .function&&env.kindOf n == some .cell) then (n,NameKind.cell) else (n,k))=some k:=by
    by_cases hc:(k0 == NameKind.free&&env.scope.kind == .function&&env.kindOf n == some .cell)=true
    ·rw [if_pos hc] at e;simp only [List.lookup_cons,hb] at e;exact e
    ·rw [if_neg hc] at e;simp only [List.lookup_cons,hb] at e;exact e
   simp only [List.lookup_cons,hb]
   exact ih e2
theorem relabel_of_free {env:Env} : ∀{names:List (Str×NameKind)} {x:Str},names.lookup x=some .free →
  (names.map fun (n,k)=>if (k == NameKind.free&&env.scope.kind == .function&&env.kindOf n == some .cell) then (n,NameKind.cell) else (n,k)).lookup x=some .cell ∨
  (names.map fun (n,k)=>if (k == NameKind.free&&env.scope.kind == .function&&env.kindOf n == some .cell) then (n,NameKind.cell) else (n,k)).lookup x=some .free
 | [],_,h=>by simp at h
 | (n,k0) :: r,x,h=>by
  have ih := @relabel_of_free env r x
  rw [List.map_cons]
  dsimp only
  by_cases hx:x=n
  ·subst hx
   simp only [List.lookup_cons,beq_self_eq_true] at h
   cases h
   by_cases hc:(NameKind.free == NameKind.free&&env.scope.kind == .function&&env.kindOf x == some .cell)=true
   ·rw [if_pos hc];left;simp only [List.lookup_cons,beq_self_eq_true]
   ·rw [if_neg hc];right;simp only [List.lookup_cons,beq_self_eq_true]
  ·have hb:(x == n)=false:=beq_eq_false_iff_ne.mpr hx
   simp only [List.lookup_cons,hb] at h
   by_cases hc:(k0 == NameKind.free&&env.scope.kind == .function&&env.kindOf n == some .cell)=true
   ·rw [if_pos hc];simp only [List.lookup_cons,hb];exact ih h
   ·rw [if_neg hc];simp only [List.lookup_cons,hb];exact ih h
theorem mem_of_lookup':∀{l:List (Str×NameKind)} {x:Str} {k:NameKind},l.lookup x=some k→(x,k)∈l:=fun h=>PySem.mem_of_lookup h
section
variable {X:Cx} {pins:List (Addr×Obj)} {σ:St} {H:Hp} {s:Shared} {scope:Scope} {Nc Fc:List Str} {js:List Nat} {cl:List (Str×Addr)} {C D:Addr} {fp:List Addr}
theorem cxC_kind {x:Str} : (cxC X Nc Fc scope cl C s H fp).env.kindOf x=(scope.names.map fun (n,k)=>if (k == NameKind.free&&X.env.scope.kind == .function&&X.env.kindOf n == some .cell) then (n,NameKind.cell) else (n,k)).lookup x:=rfl
theorem cxC_ok (I:Inv X pins σ H s) (c:CompOk X scope Nc Fc js) (hsub:∀n c,cl.lookup n=some c→X.env.cells.lookup n=some c) (hhas:∀y∈scope.names,y.2 = .free→∃c,cl.lookup y.1=some c)
  (hC:s.heap.objs.size≤C) (hf:∀b∈fp,FpOk X pins H b) (ho:∀b∈fp,∃o,s.heap.get? b=some o):(cxC X Nc Fc scope cl C s H fp).Ok where
 mod:=I.ok.mod
 kind:=c.kind
 glob:=I.ok.glob
 blt:=I.ok.blt
 above:=hC
 inj:=fun x y a h1 h2=>I.ok.inj x y a (hsub _ _ h1) (hsub _ _ h2)
 has:=fun x hx=>by
  have key:scope.names.lookup x=some .free:=by
   rw [cxC_kind] at hx
   rcases hx with h|h
   ·rcases relabel_free h with q|⟨_,q⟩
    ·exact absurd rfl (c.nocell _ (mem_of_lookup' q))
    ·exact q
   ·rcases relabel_free h with q|⟨q,_⟩
    ·exact q
    ·cases q
  exact hhas _ (mem_of_lookup' key) rfl
 cab:=fun _ _ h=>nomatch h
 hd:=I.ok.hd
 frames:=I.ok.frames
 stk := .inl rfl
 exf:=fun b hb=>⟨fun z=>by
   obtain ⟨o,e⟩:=ho b hb
   exact addr_ne (Heap.lt_size e) hC z,fun x a e z=>(hf b hb).2.2.2.2.1 x a (hsub _ _ e) z⟩
 bs:=fun b o e=>I.bs b o e
 bsz:=Nat.le_trans I.ok.bsz I.sz
 noex:=fun b o e hb=>by
  rcases (hf b hb).2.2.2.1 with z|z
  ·exact I.ok.noex b o e z
  ·exact absurd (Nat.lt_of_lt_of_le (Heap.lt_size (I.ok.bs b o e).1) z) (Nat.lt_irrefl _)
 exfs:=fun b hb z=>by
  rcases List.mem_cons.mp (I.stkSub b z) with q|q
  ·exact (hf b hb).2.1 q
  ·exact (hf b hb).2.2.1 q
 funs:=I.stack
 frf:=I.stkFree
theorem cxC_inv (I:Inv X pins σ H s) (c:CompOk X scope Nc Fc js) (hsub:∀n c,cl.lookup n=some c→X.env.cells.lookup n=some c) (hhas:∀y∈scope.names,y.2 = .free→∃c,cl.lookup y.1=some c)
  (hC:s.heap.objs.size≤C) (hD:s.heap.objs.size≤D) (hDC:D≠C) (hf:∀b∈fp,FpOk X pins H b) (ho:∀b∈fp,∃o,s.heap.get? b=some o) {h1:Heap} {t1:Nat} {m:Str→Option Value} {ob:Obj}
  (hk:∀b o,s.heap.get? b=some o→h1.get? b=some o) (hm:h1.Ns C m) (hob:h1.get? D=some ob) (hnc:∀v,ob.data ≠ .cell v) :
  Inv (cxC X Nc Fc scope cl C s H fp) [(D,ob)] (List.replicate Nc.length none++cvals σ js) H { s with heap:=h1,toks:=t1 }:=by
 refine ⟨cxC_ok I c hsub hhas hC hf ho,rfl,I.bare,Un.kept hk,⟨m,hm,fun i x v e1 e2 e3 => ?_⟩,fun x a e => ?_,I.hok.fresh hC,fun x a e=>I.freeC x a (hsub x a e),fun p hp => ?_,I.hok.kept hk,?_⟩
 ·have e1:(Nc++Fc)[i]? = some x:=e1
  have e2:(List.replicate Nc.length none++cvals σ js)[i]? = some (some v):=e2
  by_cases hi:i<Nc.length
  ·rw [List.getElem?_append_left (by simpa using hi),List.getElem?_replicate] at e2
   split at e2 <;> cases e2
  ·rw [List.getElem?_append_right (by first|lia|omega)] at e1
   rw [List.getElem?_append_right (by rw [List.length_replicate]; (first|lia|omega)),List.length_replicate] at e2
   refine Elim.el (c.frees _ _ e1) _ ?_
   rintro hfr j hj hN
   have hv : σ[j]? = some (some v):=by
    unfold cvals at e2
    rw [List.getElem?_map,hj] at e2
    have e2:some ((σ[j]?).join)=some (some v):=e2
    cases q : σ[j]? with
    | none=>rw [q] at e2;cases e2
    | some z=>rw [q] at e2;cases e2;rfl
   have kx:=c.free _ (mem_of_lookup' hfr) rfl
   refine Elim.el (I.loc) _ ?_
   rintro m0 hn0 hl0
   have vis:Vis X.env.scope x:=by
    rcases kx with k|k
    ·exact .inr (.inl k)
    ·exact .inr (.inr k)
   refine Elim.el (hl0 j x v hN hv vis) _ ?_
   rintro u ru lk
   refine ⟨u,ru, .inr ⟨?_,?_⟩⟩
   ·rw [cxC_kind];exact relabel_of_free hfr
   ·obtain ⟨a,ha⟩:=hhas _ (mem_of_lookup' hfr) rfl
    refine ⟨a,ha,?_⟩
    rcases lk with ⟨k,_⟩|⟨_,a',ha',hcell⟩
    ·rcases kx with q|q <;> (rw [k] at q;cases q)
    ·have e:=hsub _ _ ha
     dsimp only at e
     rw [ha'] at e;cases e
     exact hcell.keeps hk
 ·obtain ⟨v,z⟩:=I.cell x a (hsub x a e)
  exact ⟨v,z.keeps hk⟩
 ·have hp:p=(D,ob):=by
   have:p∈[(D,ob)]:=hp
   simpa using this
  subst hp
  refine ⟨hob,I.hok.fresh hD,hDC,fun z => ?_,hnc⟩
  have z:D∈frs X.stack:=z
  rcases List.mem_cons.mp (I.stkSub D z) with q|q
  ·exact addr_ne' I.lt hD q
  ·exact I.nofs hD q
 ·show (List.replicate Nc.length none++cvals σ js).length=(Nc++Fc).length
  unfold cvals
  rw [List.length_append,List.length_append,List.length_replicate,List.length_map,c.lens]
end
def PTs (X:Cx) (ifs:List Expr) (t:TT):Prop:=
 ∀ ⦃pins:List (Addr×Obj)⦄ (s:Shared) (σ:St) (H:Hp) (Q:Bool→Hp→Prop),Inv X pins σ H s→t σ H Q→wpAny (model X.prog X.w) X.A (testsOf ifs X.env) (TP X pins σ Q) X.xe s
def tYes:TT:=fun _ H Q=>Q true H
theorem pts_nil {X:Cx} : PTs X [] tYes:=fun _ _ _ H _ I h=>wpAny_tests_nil ⟨H,I,h⟩
theorem pts_one {X:Cx} {c:Expr} {t:TT} (h:PT X c t):PTs X [c] t:=fun pins s σ H Q I hw=>wpAny_tests_one (h s σ H Q I hw)
def CompW (J:It) (n:Nat) (js:List Nat) (g:TG) (tc:TT) (te:TE) (σ:St) (H1:Hp) (fin:List V→Hp→Prop):Prop:=
 ∃W:Nat→Nat→List V→Hp→Prop,(∃m,W 0 m [] H1)∧∀i m ys H,W i m ys H →
  (J.stop i H∧fin ys H) ∨
  (J.go i H∧ys.length<sizeLine∧∀x H',J.yld i H x H'→g x (List.replicate n none++cvals σ js) H' fun σ2 H2=>tc σ2 H2 fun b H3=>
   if b=true then te σ2 H3 fun y H4=>∃m',m'<m∧W (i+1) m' (ys++[y]) H4 else ∃m',m'<m∧W (i+1) m' ys H3)
def tComp (wi:TI) (n:Nat) (js:List Nat) (g:TG) (tc:TT) (te:TE):TE:=fun σ H Q=>wi σ H fun J H1=>
 CompW J n js g tc te σ H1 fun ys H2=>∀p,H2 p=none→Q (.ref p) (upd H2 p (.lst ys))
def Gk (n:Nat) (g:TG):Prop:=∀x σ H Q,g x σ H Q→g x σ H fun σ' H'=>Q σ' H'∧(∀j,n≤j → σ'[j]? = σ[j]?) ∧ σ'.length = σ.length
def Gks (n:Nat) (g:TGs):Prop:=∀x σ H Q,g x σ H Q→g x σ H fun σ' H'=>Q σ' H'∧(∀j,n≤j → σ'[j]? = σ[j]?) ∧ σ'.length = σ.length
theorem gk_name {n i:Nat} (h:i<n:=by decide):Gk n (gName i):=fun x σ H Q q=>⟨q,fun j hj=>List.getElem?_set_ne (by first|lia|omega),List.length_set⟩
theorem gks_nil {n:Nat} : Gks n gNil:=fun x σ H Q q=>⟨q.1,q.2,fun _ _=>rfl,rfl⟩
theorem gks_cons {n:Nat} {t:TG} {u:TGs} (h1:Gk n t) (h2:Gks n u) (mt:∀x σ H Q Q',(∀a b,Q a b→Q' a b)→t x σ H Q→t x σ H Q') (mu:∀x σ H Q Q',(∀a b,Q a b→Q' a b)→u x σ H Q→u x σ H Q'):Gks n (gCons t u):=fun x σ H Q q=>by
 obtain ⟨v,r,e,q⟩:=q
 refine ⟨v,r,e,mt _ _ _ _ _ (fun σ1 H1 z => ?_) (h1 _ _ _ _ q)⟩
 refine Elim.el (z) _ ?_
 rintro z k1 l1
 exact mu _ _ _ _ _ (fun σ2 H2 ⟨z2,k2,l2⟩=>⟨z2,fun j hj=>(k2 j hj).trans (k1 j hj),l2.trans l1⟩) (h2 _ _ _ _ z)
theorem gk_tup {K:PySem.W.Frag} {n m:Nat} {t:TGs} (h:Gks n t):Gk n (gTup K m t):=fun x σ H Q q=>by
 obtain ⟨a,xs,e,h1,h2,q⟩:=q
 exact ⟨a,xs,e,h1,h2,h _ _ _ _ q⟩
theorem comp_core {X:Cx} {elt tg iter:Expr} {ifs:List Expr} {scope:Scope} {pos:Pos} {Nc Fc:List Str} {js:List Nat} {wi:TI} {g:TG} {tc:TT} {te:TE} {use:Option (Value→Sem Unit)} {QV:Value→Shared→Prop}
  (hcalm:X.calm=true) (c:CompOk X scope Nc Fc js) (hi:PI X tg iter wi)
  (hg:∀cl C s H fp,PG (cxC X Nc Fc scope cl C s H fp) tg g) (htc:∀cl C s H fp,PTs (cxC X Nc Fc scope cl C s H fp) ifs tc) (hte:∀cl C s H fp,PE (cxC X Nc Fc scope cl C s H fp) elt te) (gk:Gk Nc.length g)
  {pins:List (Addr×Obj)} {s:Shared} {σ:St} {H:Hp} {fin:List V→Hp→Prop} (I:Inv X pins σ H s)
  (h:wi σ H fun J H1=>CompW J Nc.length js g tc te σ H1 fin)
  (behind:∀(C D:Addr) (m:Str→Option Value) (ys:List V) (H2:Hp) (s2:Shared),Inv X pins σ (upd H2 D (.lst ys)) s2→s2.heap.Ns C m→FpOk X pins (upd H2 D (.lst ys)) C→H2 D=none→fin ys H2→compPost (model X.prog X.w) X.A X.xe use QV (.ref D) C (.ok .next) s2)
  (hs:∀x,foldedSetIterable iter X.env x=pure x) :
  wpAny (model X.prog X.w) X.A (comprehension (.ListComp elt [⟨tg,iter,ifs,0⟩] scope pos) scope X.env (firstIterPos [⟨tg,iter,ifs,0⟩] pos) (newList []) false (eval iter X.env) use) QV X.xe s:=by
 obtain ⟨cl,hclos,hsub,hhas⟩:=closure_of (scope:=scope) (env:=X.env) fun y hy hf=>I.ok.has y.1 (c.free y hy hf)
 refine wpAny_comprehension_free (use:=use) rfl hs hclos c.kind c.names ?_
 refine thn (hi s σ H _ I h) fun v s1 h1=>thn h1 fun itv s2 h2 => ?_
 obtain ⟨it,fp,tn,J,H2,e,I2,T,st2,f2,W,⟨m0,w0⟩,turn⟩:=h2
 subst e
 refine wpAny_newObj_type (wpAny_newFunctionEnv c.nocell (by intro y hy;simp at hy) (fun h1 hns1 hsb1 => ?_) c.kind)
 dsimp only at hns1 hsb1 ⊢
 generalize hG:s2.heap.push { cls := .type "list",dict:=none,data := .seq ([]:List Value).toArray } = G at hns1 hsb1 ⊢
 have hC:G.objs.size=s2.heap.objs.size+1:=by rw [←hG,Heap.size_push]
 have hDC:s2.heap.objs.size≠G.objs.size:=by rw [hC];exact Nat.ne_of_lt (Nat.lt_succ_self _)
 have hle:s2.heap.objs.size≤G.objs.size:=by rw [hC];exact Nat.le_succ _
 have old:∀b o,s2.heap.get? b=some o→h1.get? b=some o:=fun b o e=>
  hsb1.extBut b o (addr_ne (Heap.lt_size e) hle) (Heap.get?_push_of_some _ (hG ▸ Heap.get?_push_of_some _ e))
 have hacc:h1.PlainList s2.heap.objs.size #[]:=⟨_,hsb1.extBut _ _ hDC (Heap.get?_push_of_some _ (hG ▸ Heap.get?_push_size _ rfl))⟩
 obtain ⟨n0,hacc⟩:=hacc
 have fo:∀b∈fp,∃o,s2.heap.get? b=some o:=fun b hb=>let ⟨o,e,_⟩:=T.obj 0 _ st2 b hb; ⟨o,e⟩
 have hDfp:∀b∈fp,b<s2.heap.objs.size:=fun b hb=>let ⟨o,e⟩:=fo b hb;Heap.lt_size e
 let Xc:Cx:=cxC X Nc Fc scope cl G.objs.size s2 H2 fp
 let D:Addr:=s2.heap.objs.size
 have stat:∀{pl:List (Addr×Obj)} {H':Hp},(∀p∈pl,p.1=D)→(∀b∈fp,H' b=none)→∀b∈fp,FpOk Xc pl H' b:=fun {pl H'} hp hn b hb=>by
  refine ⟨hn b hb,?_,?_, .inl hb,fun x a e => ?_,fun p hq => ?_⟩
  ·exact addr_ne (hDfp b hb) hle
  ·exact (cxC_ok I2 c hsub hhas hle f2 fo).exfs b hb
  ·exact (f2 b hb).2.2.2.2.1 x a (hsub _ _ e)
  ·have q:p∈([]:List (Addr×Obj))++pl:=hq
   rw [hp p (by simpa using q)]
   exact addr_ne' (hDfp b hb) (Nat.le_refl _)
 have loop:∀t1,codeAny (model X.prog X.w) X.A (.compLoop (.ListComp elt [⟨tg,iter,ifs,0⟩] scope pos) 0 (.ref it) (.ref s2.heap.objs.size) (compEnvC scope cl G.objs.size X.env))
   (compPost (model X.prog X.w) X.A X.xe use QV (.ref s2.heap.objs.size) G.objs.size) { s2 with heap:=h1,toks:=t1 }:=by
  intro t1
  refine comp_turns (fun n s'=>∃i ys H' its k,Inv Xc [(D,{ cls := .type "list",data := .seq its k })] (List.replicate Nc.length none++cvals σ js) H' s'∧Vals ys its.toList∧ys.length≤sizeLine∧tn i s'.heap∧(∀b∈fp,H' b=none)∧W i n ys H') ?_ m0
   ⟨0,[],H2, #[],n0,cxC_inv I2 c hsub hhas hle (Nat.le_refl _) hDC f2 fo old hns1 hacc (fun _ z=>nomatch z), .nil,Nat.zero_le _,T.keep _ _ _ st2 (fun b hb o e=>old b o e),fun b hb=>(f2 b hb).1,w0⟩
  intro n s3 hz_
  refine Elim.el hz_ _ ?_
  clear hz_
  rintro i ys H3 its k I3 rv hz st3 fr3 w3
  have onlyD:∀p∈[(D,({ cls := .type "list",data := .seq its k } : Obj))],p.1=D:=fun p hp=>congrArg Prod.fst (List.mem_singleton.mp hp)
  rcases turn i n ys H3 w3 with ⟨stop,qn⟩|⟨go,hlt,step⟩
  ·refine thn (T.done Xc rfl rfl rfl hcalm i _ s3 _ H3 noE I3 (stat onlyD fr3) st3 stop) fun r s4 ⟨hr,I4⟩ => ?_
   subst hr
   show compPost _ _ _ _ _ _ _ _ _
   obtain ⟨hDo,hDn,hDne,hDfs,_⟩:=I4.pin (D,_) (List.mem_append_right _ List.mem_cons_self)
   have hDC':D≠G.objs.size:=hDC
   refine Elim.el (I4.loc) _ ?_
   rintro mC hmC _
   have hCn:H3 G.objs.size=none:=I4.free
   have neD:∀b o,s2.heap.get? b=some o→b≠D:=fun b o e=>Nat.ne_of_lt (Heap.lt_size e)
   have u:Un (frs X.stack) fp H2 H3 s2.heap s4.heap:=I4.base
   have hdn2:H2 D=none:=I2.hok.fresh (Nat.le_refl _)
   have u':Un (frs X.stack) fp H2 (upd H3 D (.lst ys)) s2.heap s4.heap:=
    ⟨u.keep,u.slot,fun b o e n hx=>by rw [upd_ne (neD b o e)];exact u.free b o e n hx,u.there,
      fun b xs e=>by rw [upd_ne (ne_of_none e hdn2)];exact u.tups b xs e,fun b o xs e=>by rw [upd_ne (ne_of_none e hdn2)];exact u.frzs b o xs e,
      fun b ps e=>by rw [upd_ne (ne_of_none e hdn2)];exact u.tbls b ps e⟩
   have hok':HOk X.prog X.w (upd H3 D (.lst ys)) s4.heap:=I4.hok.adopt hDn ⟨hz,its.toList,k,rv,by simpa using hDo⟩
   have hch:∀b∈fp,(b∈X.ex∨X.s₀.heap.objs.size≤b)∧b≠X.env.locals∧(∀x c,X.env.cells.lookup x=some c→c≠b)∧∀p∈X.pn++pins,p.1≠b:=fun b hb=>
    ⟨(f2 b hb).2.2.2.1,(f2 b hb).2.1,(f2 b hb).2.2.2.2.1,(f2 b hb).2.2.2.2.2⟩
   have os4:s4.os=s2.os:=I4.os
   have J4:Inv X pins σ (upd H3 D (.lst ys)) s4:=I2.call' (H':=upd H3 D (.lst ys)) os4 u' hok' I4.bare hch
   refine behind G.objs.size D mC ys H3 s4 J4 hmC (I2.fpOk hle ?_) hDn qn
   rw [upd_ne (Ne.symm hDC')]
   exact hCn
  ·refine thn (T.item Xc rfl rfl rfl hcalm i _ s3 _ H3 noE I3 (stat onlyD fr3) st3 go) fun r s4 ⟨u,hr,h4⟩ => ?_
   subst hr
   show wpAny _ _ (letOwnedTupleGo tg (.ref it) u) _ _ _
   refine thn h4 fun _ s5 ⟨x,H5,I5,r5,y5,st5,fr5⟩ => ?_
   have I5':=I5.pinned (stat onlyD fr5) (T.obj _ _ st5)
   refine thn (hg cl G.objs.size s2 H2 fp s5 _ H5 x u _ I5' r5 (gk _ _ _ _ (step x H5 y5))) fun _ s6 ⟨σ6,H6,I6,q6,kσ,kl⟩ => ?_
   refine thn (htc cl G.objs.size s2 H2 fp s6 σ6 H6 _ I6 q6) fun b s7 ⟨H7,I7,q7⟩ => ?_
   have later:∀{σ':St} {H':Hp} {s':Shared},Inv Xc ([(D,({ cls := .type "list",data := .seq its k } : Obj))]++pinsAt fp s5.heap) σ' H' s'→tn (i+1) s'.heap∧∀b∈fp,H' b=none:=fun {σ' H' s'} Iz=>by
    refine ⟨T.keep _ _ _ st5 fun b hb o e=>(Iz.pin (b,o) (List.mem_append_right _ (List.mem_append_right _ (mem_pinsAt hb e)))).1,fun b hb => ?_⟩
    refine Elim.el (T.obj _ _ st5 b hb) _ ?_
    rintro o e d
    exact (Iz.pin (b,o) (List.mem_append_right _ (List.mem_append_right _ (mem_pinsAt hb e)))).2.1
   have back:∀{pl:List (Addr×Obj)} {H':Hp} {s':Shared},Inv Xc pl σ6 H' s'→Inv Xc pl (List.replicate Nc.length none++cvals σ js) H' s':=fun {pl H' s'} Iz=>by
    refine Iz.weak (by rw [←kl]) fun j v hj => ?_
    by_cases hn:j<Nc.length
    ·rw [List.getElem?_append_left (by simpa using hn),List.getElem?_replicate] at hj
     split at hj <;> cases hj
    ·rw [kσ j (by first|lia|omega)];exact hj
   cases b with
   | false=>
    rw [if_neg Bool.false_ne_true] at q7 ⊢
    refine Elim.el (q7) _ ?_
    rintro m' hm' w7
    obtain ⟨l1,l2⟩:=later I7
    exact ⟨m',hm',i+1,ys,H7,its,k,back I7.unpinned,rv,hz,l1,l2,w7⟩
   | true=>
    rw [if_pos rfl] at q7 ⊢
    refine thn (hte cl G.objs.size s2 H2 fp s7 σ6 H7 _ I7 q7) fun yv s8 ⟨y,H8,I8,r8,q8⟩ => ?_
    refine Elim.el (q8) _ ?_
    rintro m' hm' w8
    obtain ⟨hDo,hDn,hDne,hDfs,_⟩:=I8.pin (D,_) (List.mem_append_right _ (List.mem_append_left _ List.mem_cons_self))
    obtain ⟨l1,l2⟩:=later I8
    have hits:its.size=ys.length:=by
     have e1:=rv.length
     simp only [Array.length_toList] at e1
     (first|lia|omega)
    refine wpAny_list_append_plain (hsz:=by first|lia|omega) ⟨k,hDo⟩ fun h9 hl9 hs9 => ?_
    obtain ⟨k9,hD9⟩:=hl9
    have pinF:∀p∈pinsAt fp s5.heap,p.1≠D:=fun p hp=>by
     obtain ⟨hb,_⟩:=of_pinsAt hp
     exact addr_ne (hDfp _ hb) (Nat.le_refl _)
    have I8':Inv Xc (pinsAt fp s5.heap) σ6 H8 s8:=I8.pins_of fun p hp=>I8.pin p (List.mem_append_right _ (List.mem_append_right _ hp))
    have I9:Inv Xc (pinsAt fp s5.heap) σ6 H8 { s8 with heap:=h9,toks:=s8.toks }:=I8'.turned (it:=D) (fun b o hb e=>hs9.extBut b o hb e) hDn hDC (.inr (Nat.le_refl _))
     (fun x a e z=>by
      obtain ⟨v,q⟩:=I2.cell x a (hsub _ _ e)
      exact addr_ne q.lt (Nat.le_refl _) z) (fun p hp=>pinF p (by
       have hp:p∈([]:List (Addr×Obj))++pinsAt fp s5.heap:=hp
       simpa using hp))
    obtain ⟨st9,fr9⟩:tn (i+1) h9∧∀b∈fp,H8 b=none:=by
     refine ⟨T.keep _ _ _ l1 fun b hb o e=>hs9.extBut b o ?_ e,l2⟩
     exact addr_ne (hDfp _ hb) (Nat.le_refl _)
    refine ⟨m',hm',i+1,ys++[y],H8,its.push yv,k9,back (I9.pins_of fun p hp => ?_),?_,?_,st9,fr9,w8⟩
    ·cases List.mem_singleton.mp hp
     exact ⟨hD9,hDn,hDne,hDfs,fun _ z=>nomatch z⟩
    ·rw [Array.toList_push]
     exact rv.append (.cons r8 .nil)
    ·rw [List.length_append,List.length_singleton]; (first|lia|omega)
 exact codeAny_compStart_list (loop _) (T.self _ 0 _ _ _ (T.keep _ _ _ st2 fun b hb o e=>old b o e) (loop _))
theorem pe_lcomp {X:Cx} {elt tg iter:Expr} {ifs:List Expr} {scope:Scope} {pos:Pos} {Nc Fc:List Str} {js:List Nat} {wi:TI} {g:TG} {tc:TT} {te:TE}
  (hcalm:X.calm=true) (c:CompOk X scope Nc Fc js) (hi:PI X tg iter wi) (gk:Gk Nc.length g)
  (hg:∀cl C s H fp,PG (cxC X Nc Fc scope cl C s H fp) tg g) (htc:∀cl C s H fp,PTs (cxC X Nc Fc scope cl C s H fp) ifs tc) (hte:∀cl C s H fp,PE (cxC X Nc Fc scope cl C s H fp) elt te)
  (hs:∀x,foldedSetIterable iter X.env x=pure x:=by intro _;rfl) :
  PE X (.ListComp elt [⟨tg,iter,ifs,0⟩] scope pos) (tComp wi Nc.length js g tc te):=by
 intro pins s σ H Q I h
 rw [eval_ListComp]
 refine comp_core (use:=none) hcalm c hi hg htc hte gk I h (fun C D m ys H2 s2 I2 hm hC hD q => ?_) hs
 refine ⟨m,hm,fun h' hs' => ?_⟩
 refine ⟨.ref D,_,I2.turned (it:=C) (t':=s2.toks) (fun b o hb e=>hs'.extBut b o hb e) hC.1 (hC.2.1) hC.2.2.2.1 hC.2.2.2.2.1 hC.2.2.2.2.2,rfl,q D hD⟩
theorem ps_setcomp {X:Cx} {i:Nat} {y:Str} {elt tg iter:Expr} {ifs:List Expr} {scope:Scope} {pos pos' py:Pos} {Nc Fc:List Str} {js:List Nat} {wi:TI} {g:TG} {tc:TT} {te:TE} (hN:X.N.Nodup) (hy:X.N[i]? = some y) (hl:Loc X.env.scope y)
  (hcalm:X.calm=true) (c:CompOk X scope Nc Fc js) (hi:PI X tg iter wi) (gk:Gk Nc.length g)
  (hg:∀cl C s H fp,PG (cxC X Nc Fc scope cl C s H fp) tg g) (htc:∀cl C s H fp,PTs (cxC X Nc Fc scope cl C s H fp) ifs tc) (hte:∀cl C s H fp,PE (cxC X Nc Fc scope cl C s H fp) elt te)
  (hsw:swapsWith (.ListComp elt [⟨tg,iter,ifs,0⟩] scope pos) (some (.Name y py)) pos'.line X.env=pure true:=by rfl)
  (hs:∀x,foldedSetIterable iter X.env x=pure x:=by intro _;rfl)
  (hf:X.fn y=true∨X.env.scope.names.lookup y=some .local:=by first|exact .inl rfl|exact .inr rfl|assumption) :
  PS X (.Assign [.Name y py] (.ListComp elt [⟨tg,iter,ifs,0⟩] scope pos) pos') (tAsg (tComp wi Nc.length js g tc te) (gName i)):=by
 intro pins s σ H E I h
 rw [exec_Assign_Name_used _ _ _ _ hsw]
 refine wpAny_bind (wpAny_standAt (wpAny_bind ?_))
 show wpAny _ X.A (do let _ ←comprehension (.ListComp elt [⟨tg,iter,ifs,0⟩] scope pos) scope X.env _ (newList []) false (eval iter X.env) (some (assign (.Name y py) X.env))) _ _ s
 refine wpAny_bind (thn (comp_core (use:=some (assign (.Name y py) X.env)) (QV:=fun _ s'=>SP X pins E .next s') hcalm c hi hg htc hte gk I h (fun C D m ys H2 s2 I2 hm hC hD q => ?_) hs) fun _ s' hq=>wpAny_pure (wpAny_pure hq))
 show wpAny _ _ (assign (.Name y py) X.env (.ref D)) _ _ s2
 refine wpAny_assign_Name (store_ok2 I2 hN hy hl (v := .ref D) rfl (fun s3 I3 ⟨a,hsa,ha⟩ => ?_) hf)
 have hne:C≠a:=by
  rcases ha with e|e
  ·rw [e];exact hC.2.1
  ·exact fun z=>hC.2.2.2.2.1 _ _ e z.symm
 refine ⟨m,hm.at' fun o e=>hsa.extBut _ o hne e,fun h' hs' => ?_⟩
 exact ⟨_,_,I3.turned (it:=C) (t':=s3.toks) (fun b o hb e=>hs'.extBut b o hb e) hC.1 hC.2.1 hC.2.2.2.1 hC.2.2.2.2.1 hC.2.2.2.2.2,q D hD⟩
end L2
namespace L2
open PySem PySem.Spec PyProof.Rows
section
variable {X:Cx} {pins:List (Addr×Obj)} {σ:St} {H:Hp} {s:Shared} {p:Addr} {ys:List V}
theorem walk_list {A:Around} (hh:A.handled=none) (I:Inv X pins σ H s) (hq:SqL X.K H p ys) {R:Value→Shared→Prop} {E:Value→Shared→Prop}
  (h:∀(its:List Value) (it:Addr) (s2:Shared),Vals ys its→its.length≤sizeLine →
   Walks X.prog X.w A it [it,p] [it] its.toArray.size (fun i v=>its.toArray[i]? = some v) (fun i h=>h.IsListIter it p i∧h.IsList p its.toArray)→(s2.heap.IsListIter it p 0∧s2.heap.IsList p its.toArray)→(∀b∈[it,p],b<s2.heap.objs.size) →
   (∀h' tk,(∀b o,b ∉ [it]→s2.heap.get? b=some o→h'.get? b=some o)→Inv X pins σ H { s2 with heap:=h',toks:=tk })→R (.ref it) s2) :
  wpAny (model X.prog X.w) A (pyIter (.ref p)) R E s:=by
 obtain ⟨its,rv,pl,hz⟩:=I.list hq
 have hl:=pl.isList
 have hp:p<s.heap.objs.size:=by obtain ⟨o,e,_⟩:=hl;exact Heap.lt_size e
 refine wpAny_pyIter_list hl ?_
 refine h its s.heap.objs.size _ rv (by have:=rv.length; (first|lia|omega)) (Walks.list hh _ p (Nat.ne_of_lt hp) its.toArray) ⟨⟨_,Heap.get?_push_size _ rfl,rfl,rfl⟩,hl.push _⟩ (fun b hb => ?_) fun h' tk hk => ?_
 ·show b<(s.heap.push _).objs.size
  rw [Heap.size_push]
  rcases List.mem_cons.mp hb with rfl|hb
  ·exact Nat.lt_succ_self _
  ·rw [List.mem_singleton.mp hb];exact Nat.lt_succ_of_lt hp
 ·exact I.kept (t':=tk) fun b o e=>hk b o (fun z=>addr_ne (Heap.lt_size e) (Nat.le_refl _) (List.mem_singleton.mp z)) (Heap.get?_push_of_some _ e)
theorem vals_at {ys:List V} {its:List Value} (r:Vals ys its) {i:Nat} {v:Value} (e:its.toArray[i]? = some v):∃y,ys[i]? = some y∧RelV y v:=by
 have e':its[i]? = some v:=by simpa using e
 have hi:i<its.length:=(List.getElem?_eq_some_iff.mp e').1
 have hl:=r.length
 obtain ⟨u,h1,h2⟩:=r.get (i:=i) (x:=ys[i]'(by first|lia|omega)) (by simp)
 rw [e'] at h1;cases h1
 exact ⟨_,by simp,h2⟩
theorem range_all (bs:List Bool):(List.range bs.length).all (fun i=>bs.getD i false)=bs.all id:=by
 induction bs with
 | nil=>rfl
 | cons b r ih=>
  rw [List.length_cons,List.range_succ_eq_map,List.all_cons,List.all_map,List.all_cons, ←ih]
  rfl
theorem truth_bl {A:Around} {bs:List Bool} {its:List Value} (r:Vals (bs.map V.bl) its):TruthOf X.prog X.w A (fun i v=>its.toArray[i]? = some v) (fun i=>bs.getD i false):=by
 intro i v s Q E e hQ
 obtain ⟨y,h1,h2⟩:=vals_at r e
 rw [List.getElem?_map] at h1
 cases q:bs[i]? with
 | none=>rw [q] at h1;cases h1
 | some b=>
  rw [q] at h1;cases h1
  cases h2
  have:bs.getD i false=b:=by simp [List.getD,q]
  have hQ:Q (bs.getD i false) s:=hQ
  rw [this] at hQ
  exact wpAny_pure hQ
theorem call_all_bl (hc:X.calm=true):CallR X (.builtin "all") (fun xs H Q=>∃(p:Addr) (bs:List Bool),xs=[.ref p]∧SqL X.K H p (bs.map V.bl)∧Q (.bl (bs.all id)) H):=by
 intro pins s σ H xs us Q I r h
 obtain ⟨p,bs,rfl,hq,q⟩:=h
 obtain ⟨u,rfl,ru⟩:=vals1 r
 cases ru
 refine call_all_walk (walk_list (A:=X.A.in1) (I.ok.hd hc) I hq fun its it s2 rv hz W st hlt hI => ?_)
 refine ⟨it,_,_,_,_,_,fun i=>bs.getD i false,rfl,W,st,truth_bl rv,fun h' tk hk => ?_⟩
 have hl:its.toArray.size=bs.length:=by have:=rv.length;simp at this ⊢; (first|lia|omega)
 rw [hl,range_all]
 exact ⟨.bl _,H,hI h' tk hk,rfl,q⟩
theorem int_at {ns:List Int} {its:List Value} (r:Vals (ns.map V.int) its) {i:Nat} {v:Value} (e:its.toArray[i]? = some v):∃n t,ns[i]? = some n∧v = .int n t:=by
 obtain ⟨y,h1,h2⟩:=vals_at r e
 rw [List.getElem?_map] at h1
 cases q:ns[i]? with
 | none=>rw [q] at h1;cases h1
 | some b=>
  rw [q] at h1;cases h1
  obtain ⟨t,rfl⟩:=h2
  exact ⟨b,t,rfl,rfl⟩
theorem preSum_shift (val:Nat→Int) (n:Nat):preSum val (n+1)=val 0+preSum (fun i=>val (i+1)) n:=by
 induction n with
 | zero=>simp [preSum]
 | succ n ih=>rw [preSum,ih,preSum]; (first|lia|omega)
theorem preSum_list (ns:List Int):preSum (fun i=>ns.getD i 0) ns.length=ns.sum:=by
 induction ns with
 | nil=>rfl
 | cons n r ih=>
  rw [List.length_cons,preSum_shift,List.sum_cons, ←ih]
  rfl
theorem call_sum_ints (hc:X.calm=true):CallR X (.builtin "sum") (fun xs H Q=>∃(p:Addr) (ns:List Int),xs=[.ref p]∧SqL X.K H p (ns.map V.int)∧Q (.int ns.sum) H):=by
 intro pins s σ H xs us Q I r h
 obtain ⟨p,ns,rfl,hq,q⟩:=h
 obtain ⟨u,rfl,ru⟩:=vals1 r
 cases ru
 refine call_sum_walkG (walk_list (A:=X.A.in1) (I.ok.hd hc) I hq fun its it s2 rv hz W st hlt hI => ?_)
 refine ⟨it,_,_,_,_,_,fun i=>ns.getD i 0,rfl,W,st,hlt,fun i v e => ?_,fun h' tk t' hk => ?_⟩
 ·obtain ⟨n,t,h1,rfl⟩:=int_at rv e
  exact ⟨t,by simp [List.getD,h1]⟩
 ·have hl:its.toArray.size=ns.length:=by have:=rv.length;simp at this ⊢; (first|lia|omega)
  rw [hl,preSum_list]
  exact ⟨.int _,H,hI h' tk hk,⟨_,rfl⟩,q⟩
theorem call_max_ints (hc:X.calm=true):CallR X (.builtin "max") (fun xs H Q=>∃(p:Addr) (ns:List Int),xs=[.ref p]∧SqL X.K H p (ns.map V.int)∧ns≠[]∧∀M,M∈ns→(∀a∈ns,a≤M)→Q (.int M) H):=by
 intro pins s σ H xs us Q I r h
 obtain ⟨p,ns,rfl,hq,hne,q⟩:=h
 obtain ⟨u,rfl,ru⟩:=vals1 r
 cases ru
 have hn0:0<ns.length:=List.length_pos_iff.mpr hne
 refine call_max_walk (walk_list (A:=X.A.in1) (I.ok.hd hc) I hq fun its it s2 rv hz W st hlt hI => ?_)
 have hl:its.toArray.size=ns.length:=by have:=rv.length;simp at this ⊢; (first|lia|omega)
 refine ⟨it,_,_,_,_,_,fun i j=>decide (ns.getD i 0>ns.getD j 0),rfl,W,st,hlt,by first|lia|omega,?_,fun v h' tk e hk => ?_⟩
 ·refine CmpOf.ints_gt (fun i=>ns.getD i 0) fun {i v} e => ?_
  obtain ⟨n,t,h1,rfl⟩:=int_at rv e
  exact ⟨t,by simp [List.getD,h1]⟩
 ·obtain ⟨n,t,h1,rfl⟩:=int_at rv e
  obtain ⟨b1,b2⟩:=argBest_gt (fun i=>ns.getD i 0) (its.toArray.size-1)
  refine ⟨.int n,H,hI h' tk hk,⟨_,rfl⟩,q n (List.mem_of_getElem? h1) fun a ha => ?_⟩
  obtain ⟨j,hj⟩:=List.getElem?_of_mem ha
  have hjl:j<ns.length:=(List.getElem?_eq_some_iff.mp hj).1
  have z:=b2 j (by first|lia|omega)
  have e1:ns.getD j 0=a:=by simp [List.getD,hj]
  have e2:ns.getD (argBest (fun i j=>decide (ns.getD i 0>ns.getD j 0)) (its.toArray.size-1)) 0=n:=by rw [List.getD_eq_getElem?_getD,h1];rfl
  rw [←e1, ←e2]
  exact z
theorem sumK (K:PySem.W.Frag) (hc:X.calm=true) (hK:X.K=K:=by rfl):CallR X (.builtin "sum") (fun xs H Q=>∃(p:Addr) (ns:List Int),xs=[.ref p]∧SqL K H p (ns.map V.int)∧Q (.int ns.sum) H):=by subst hK;exact call_sum_ints hc
theorem maxK (K:PySem.W.Frag) (hc:X.calm=true) (hK:X.K=K:=by rfl):CallR X (.builtin "max") (fun xs H Q=>∃(p:Addr) (ns:List Int),xs=[.ref p]∧SqL K H p (ns.map V.int)∧ns≠[]∧∀M,M∈ns→(∀a∈ns,a≤M)→Q (.int M) H):=by subst hK;exact call_max_ints hc
theorem allK (K:PySem.W.Frag) (hc:X.calm=true) (hK:X.K=K:=by rfl):CallR X (.builtin "all") (fun xs H Q=>∃(p:Addr) (bs:List Bool),xs=[.ref p]∧SqL K H p (bs.map V.bl)∧Q (.bl (bs.all id)) H):=by subst hK;exact call_all_bl hc
theorem mt_startswith:MtR X "str.startswith" (fun x vs H Q=>∃a b,x = .str a∧vs=[.str b]∧Q (.bl (Txt.startswith a b)) H):=by
 intro pins s σ H x vs v us Q I rx rv h
 obtain ⟨a,b,rfl,rfl,q⟩:=h
 obtain ⟨t,rfl⟩:=rx
 obtain ⟨u,rfl,t',rfl⟩:=rv.one
 exact SC.startswith ⟨.bl _,H,I,rfl,q⟩
theorem mt_strip1:MtR X "str.strip" (fun x vs H Q=>∃a b,x = .str a∧vs=[.str b]∧a.length≤sizeLine∧Q (.str (Txt.stripChars a b)) H):=by
 intro pins s σ H x vs v us Q I rx rv h
 obtain ⟨a,b,rfl,rfl,hz,q⟩:=h
 obtain ⟨t,rfl⟩:=rx
 obtain ⟨u,rfl,t',rfl⟩:=rv.one
 exact SC.stripChars (fun t' k=>⟨.str _,H,I.tok _,⟨_,rfl⟩,q⟩) hz
theorem strs_are:∀{xs:List Str} {its:List Value},Vals (xs.map V.str) its→StrsAre its xs:=by
 intro xs its r
 induction xs generalizing its with
 | nil=>cases r;exact StrsAre.nil
 | cons x xs ih=>
  cases r with
  | cons r1 r2=>
   obtain ⟨t,rfl⟩:=r1
   exact StrsAre.cons x t (ih r2)
theorem mt_join:MtR X "str.join" (fun x vs H Q=>∃(sep:Str) (p:Addr) (xs:List Str),x = .str sep∧vs=[.ref p]∧SqL X.K H p (xs.map V.str)∧(xs.map (·.length)).sum+xs.length*sep.length≤16777216∧Q (.str (Txt.join sep xs)) H):=by
 intro pins s σ H x vs v us Q I rx rv h
 obtain ⟨sep,p,xs,rfl,rfl,hq,hz,q⟩:=h
 obtain ⟨t,rfl⟩:=rx
 obtain ⟨u,rfl,ru⟩:=rv.one
 cases ru
 obtain ⟨its,r',pl,_⟩:=I.list hq
 exact join_list pl.isList (strs_are r') hz fun t' k=>⟨.str _,H,I.tok _,⟨_,rfl⟩,q⟩
end
end L2
namespace L2
open PySem PySem.Spec PyProof.Rows
mutual
def Den (K:PySem.W.Frag) (H:Hp):PyData→V→Prop
 | .none,v=>v = .non
 | .bool b,v=>v = .bl b
 | .int i,v=>v = .int i
 | .str x,v=>v = .str x
 | .list ds,v=>Ex2 fun a vs=>v = .ref a∧SqL K H a vs∧Dens K H ds vs
 | .tuple ds,v=>Ex2 fun a vs=>v = .ref a∧SqT K H a vs∧Dens K H ds vs
 | .dict _,_=>False
def Dens (K:PySem.W.Frag) (H:Hp):List PyData→List V→Prop
 | [],vs=>vs=[]
 | d :: ds,vs=>Ex2 fun v r=>vs=v :: r∧Den K H d v∧Dens K H ds r
end
theorem Same.seqT {K:PySem.W.Frag} {H H':Hp} {a:Addr} {xs:List V} (e:Same H H') (h:SqT K H a xs):SqT K H' a xs:=by
 rcases h with (h|⟨o,h⟩)|h
 ·exact .inl (.inl (e _ _ h))
 ·exact .inl (.inr ⟨o,e _ _ h⟩)
 ·exact .inr h
mutual
theorem Den.same {K:PySem.W.Frag} {H H':Hp} (e:Same H H'):∀{d:PyData} {v:V},Den K H d v→Den K H' d v
 | .none,_,h=>by unfold Den at h ⊢;exact h
 | .bool _,_,h=>by unfold Den at h ⊢;exact h
 | .int _,_,h=>by unfold Den at h ⊢;exact h
 | .str _,_,h=>by unfold Den at h ⊢;exact h
 | .list ds,_,h=>by
  unfold Den at h ⊢
  obtain ⟨a,vs,h1,h2,h3⟩:=h
  exact ⟨a,vs,h1,e.seq h2,Dens.same e h3⟩
 | .tuple ds,_,h=>by
  unfold Den at h ⊢
  obtain ⟨a,vs,h1,h2,h3⟩:=h
  exact ⟨a,vs,h1,e.seqT h2,Dens.same e h3⟩
 | .dict _,_,h=>by unfold Den at h;exact h.elim
theorem Dens.same {K:PySem.W.Frag} {H H':Hp} (e:Same H H'):∀{ds:List PyData} {vs:List V},Dens K H ds vs→Dens K H' ds vs
 | [],_,h=>by unfold Dens at h ⊢;exact h
 | d :: ds,_,h=>by
  unfold Dens at h ⊢
  obtain ⟨v,r,h1,h2,h3⟩:=h
  exact ⟨v,r,h1,Den.same e h2,Dens.same e h3⟩
end
mutual
theorem Den.reads {X:Cx} {pins:List (Addr×Obj)} {σ:St} {H:Hp} {s:Shared} (I:Inv X pins σ H s):∀{d:PyData} {v:V} {u:Value},Den X.K H d v→RelV v u→∃as,Reads s.heap u d as
 | .none,_,_,h,r=>by unfold Den at h;subst h;cases r;exact ⟨_, .none⟩
 | .bool _,_,_,h,r=>by unfold Den at h;subst h;cases r;exact ⟨_, .bool _⟩
 | .int _,_,_,h,r=>by unfold Den at h;subst h;obtain ⟨t,rfl⟩:=r;exact ⟨_, .int _ _⟩
 | .str _,_,_,h,r=>by unfold Den at h;subst h;obtain ⟨t,rfl⟩:=r;exact ⟨_, .str _ _⟩
 | .list ds,_,_,h,r=>by
  unfold Den at h
  obtain ⟨a,vs,rfl,h2,h3⟩:=h
  cases r
  obtain ⟨its,rv,⟨o,n,e1,e2,_,e4⟩,_⟩:=I.list h2
  obtain ⟨as,q⟩:=Dens.reads I h3 rv
  exact ⟨_, .list e1 e2 e4 (by simpa using q)⟩
 | .tuple ds,_,_,h,r=>by
  unfold Den at h
  obtain ⟨a,vs,rfl,h2,h3⟩:=h
  cases r
  obtain ⟨its,rv,⟨o,e1,e2,n,e4⟩,_⟩:=I.tuple h2
  obtain ⟨as,q⟩:=Dens.reads I h3 rv
  exact ⟨_, .tuple e1 e2 e4 (by simpa using q)⟩
 | .dict _,_,_,h,_=>by unfold Den at h;exact h.elim
theorem Dens.reads {X:Cx} {pins:List (Addr×Obj)} {σ:St} {H:Hp} {s:Shared} (I:Inv X pins σ H s):∀{ds:List PyData} {vs:List V} {us:List Value},Dens X.K H ds vs→Vals vs us→∃as,ReadsAll s.heap us ds as
 | [],_,_,h,r=>by unfold Dens at h;subst h;cases r;exact ⟨_, .nil⟩
 | d :: ds,_,_,h,r=>by
  unfold Dens at h
  obtain ⟨v,q,rfl,h2,h3⟩:=h
  cases r with
  | cons r1 r2=>
   obtain ⟨as,q1⟩:=Den.reads I h2 r1
   obtain ⟨bs,q2⟩:=Dens.reads I h3 r2
   exact ⟨_, .cons q1 q2⟩
end
section
variable {X:Cx}
open PySem.SeqAt in
theorem op_eqD (hu:X.A.units+64<cLine):OpR X (compareOp .Eq) (fun x y H Q=>∃d e,Den X.K H d x∧Den X.K H e y∧shaped d=true∧shaped e=true∧Q (.bl (PyData.eqv d e)) H):=by
 intro pins s σ H x y v u Q I rx ry h
 obtain ⟨d,e,hd,he,sd,se,q⟩:=h
 obtain ⟨as,r1⟩:=hd.reads I rx
 obtain ⟨bs,r2⟩:=he.reads I ry
 exact eq_dataH r1 r2 sd se hu ⟨.bl _,H,I,rfl,q⟩
open PySem.SeqAt in
theorem op_neD (hu:X.A.units+64<cLine):OpR X (compareOp .NotEq) (fun x y H Q=>∃d e,Den X.K H d x∧Den X.K H e y∧shaped d=true∧shaped e=true∧Q (.bl (!PyData.eqv d e)) H):=by
 intro pins s σ H x y v u Q I rx ry h
 obtain ⟨d,e,hd,he,sd,se,q⟩:=h
 obtain ⟨as,r1⟩:=hd.reads I rx
 obtain ⟨bs,r2⟩:=he.reads I ry
 exact ne_dataH r1 r2 sd se hu ⟨.bl _,H,I,rfl,q⟩
theorem op_isB:OpR X (compareOp .Is) (fun x y H Q=>∃a b,x = .bl a∧y = .bl b∧Q (.bl (decide (a=b))) H):=by
 intro pins s σ H x y v u Q I rx ry h
 obtain ⟨a,b,rfl,rfl,q⟩:=h
 cases rx;cases ry
 refine wpAny_is_plain rfl (fin_bl I q ?_)
 cases a <;> cases b <;> rfl
theorem op_isnotB:OpR X (compareOp .IsNot) (fun x y H Q=>∃a b,x = .bl a∧y = .bl b∧Q (.bl (!decide (a=b))) H):=by
 intro pins s σ H x y v u Q I rx ry h
 obtain ⟨a,b,rfl,rfl,q⟩:=h
 cases rx;cases ry
 refine wpAny_isNot_plain rfl (fin_bl I q ?_)
 cases a <;> cases b <;> rfl
theorem call_isi:CallR X (.builtin "isinstance") (fun xs H Q=>∃x T t b,xs=[x, .ty T]∧TyOf X.K H x t∧PySem.W.kitOne X.K t (.type T)=some b∧Q (.bl b) H):=by
 intro pins s σ H xs us Q I r h
 obtain ⟨x,T,t,b,rfl,ty,e,q⟩:=h
 obtain ⟨u,w',rfl,r1,r2⟩:=vals2 r
 cases r2
 exact isinst_ok I r1 ty e fun tk=>⟨.bl b,H,I.tok _,rfl,q⟩
theorem sl_str:SlR X (fun x lo hi H Q=>∃z,x = .str z∧z.length≤sizeLine∧Q (.str (Txt.slice z lo hi)) H):=by
 intro pins s σ H x v vl vu lo hi sl Q I rx hs pl pu q
 obtain ⟨z,rfl,hz,q⟩:=q
 obtain ⟨t,rfl⟩:=rx
 refine ⟨"str",_,F.slot_str_getitem.lookup,typeIs_str _ _ _,?_⟩
 have fin:∀t' k,EP X pins σ Q (.str (Txt.slice z lo hi) t') { s with toks:=k }:=fun t' k=>⟨.str _,H,I.tok _,⟨_,rfl⟩,q⟩
 cases pl with
 | none=>
  cases pu with
  | none=>exact wpAny_getItem_str_slice (l:=none) (u:=none) (st:=none) hs rfl (post_val_or_str ⟨Nat.le_trans (Txt.slice_le z _ _) hz,fin⟩)
  | int j uj=>exact wpAny_getItem_str_slice (l:=none) (u:=some (j,uj)) (st:=none) hs rfl (post_val_or_str ⟨Nat.le_trans (Txt.slice_le z _ _) hz,fin⟩)
 | int i ui=>
  cases pu with
  | none=>exact wpAny_getItem_str_slice (l:=some (i,ui)) (u:=none) (st:=none) hs rfl (post_val_or_str ⟨Nat.le_trans (Txt.slice_le z _ _) hz,fin⟩)
  | int j uj=>exact wpAny_getItem_str_slice (l:=some (i,ui)) (u:=some (j,uj)) (st:=none) hs rfl (post_val_or_str ⟨Nat.le_trans (Txt.slice_le z _ _) hz,fin⟩)
end
end L2
namespace L2
open PySem PySem.Spec PyProof.Rows
section
variable {X:Cx} {pins:List (Addr×Obj)} {σ:St} {H:Hp} {s:Shared} {h':Heap}
theorem Inv.iter {t':Nat} {ch:List Addr} (I:Inv X pins σ H s) (hf:∀b∈ch,FpOk X pins H b) (keep:∀b o,b ∉ ch→s.heap.get? b=some o→h'.get? b=some o):Inv X pins σ H { s with heap:=h',toks:=t' }:=by
 have nch:∀b u,H b=some u→b ∉ ch:=fun b u e z=>by rw [(hf b z).1] at e;cases e
 refine I.step (g':=s.gens) (d':=s.drawn) (ch:=ch) (fun b hb=>⟨(hf b hb).2.2.2.1,(hf b hb).2.1,(hf b hb).2.2.2.2.1,(hf b hb).2.2.2.2.2⟩) (fun b o _ _ hc e _=>keep b o hc e) (fun b o _ _ hc e _=>⟨o.slots,keep b o hc e⟩)
  (fun _ _ _ _ n=>n) (fun b o hc e=>⟨o,keep b o hc e⟩) (fun _ _ e=>e) (fun _ _ _ e=>e) (fun b ps e=>⟨#[],by rw [e];simp⟩) (fun m hm=>hm.at' fun o e=>keep _ o (fun z=>(hf _ z).2.1 rfl) e) (fun b u e => ?_) I.bare
 refine (I.hok b u e).stay (fun c v hc q=>keep c v ?_ q) (fun _ q=>q) fun _ _ q=>q
 rcases hc with z|z
 ·rw [z];exact nch b u e
 ·exact nch c _ z
theorem Inv.adopt {T:Addr} {o:HO} (I:Inv X pins σ H s) (hT:FpOk X pins H T) (hex:X.s₀.heap.objs.size≤T) (new:ObjOk X.prog X.w (upd H T o) s.heap T o):Inv X pins σ (upd H T o) s:=
 ⟨I.ok,I.os,I.bare,⟨I.base.keep,I.base.slot,fun b ob e n hx=>by rw [upd_ne (addr_ne (Heap.lt_size e) hex)];exact I.base.free b ob e n hx,I.base.there,
   fun b xs e=>by rw [upd_ne (ne_of_none (I.base.tups b xs e) hT.1)];exact I.base.tups b xs e,fun b ob xs e=>by rw [upd_ne (ne_of_none (I.base.frzs b ob xs e) hT.1)];exact I.base.frzs b ob xs e,
   fun b ps e=>by
    obtain ⟨m,q⟩:=I.base.tbls b ps e
    exact ⟨m,by rw [upd_ne (ne_of_none q hT.1)];exact q⟩⟩,
  I.loc,I.cell,by rw [upd_ne (Ne.symm hT.2.1)];exact I.free,fun x c e=>by rw [upd_ne (hT.2.2.2.2.1 x c e)];exact I.freeC x c e,
  fun p hp=>by
   refine Elim.el (I.pin p hp) _ ?_
   rintro a b c d f
   exact ⟨a,by rw [upd_ne (hT.2.2.2.2.2 p hp)];exact b,c,d,f⟩,I.hok.adopt hT.1 new,I.len⟩
end
theorem vals_get {xs:List V} {its:List Value} {i:Nat} {x:V} (r:Vals xs its) (e:xs[i]? = some x):∃u,its.toArray[i]? = some u∧RelV x u:=by
 refine Elim.el (r.get e) _ ?_
 rintro u h1 h2
 exact ⟨u,by simpa using h1,h2⟩
section
variable {X:Cx}
end
end L2
namespace L2
open PySem PySem.Spec PyProof.Rows
def Ite (K:PySem.W.Frag) (a:Addr):It:=
 ⟨fun i H=>Ex2 fun xs x=>SqL K H a xs∧xs[i]? = some x,
   fun i H v H'=>∃T,v = .ref T∧H T=none∧∀xs x,SqL K H a xs→xs[i]? = some x→H'=upd H T (.tup [.int i,x]),
   fun i H=>∃xs,SqL K H a xs∧xs.length≤i⟩
theorem turn_enum {P:Program} {w:World} {K:PySem.W.Frag} {elts:List Expr} {k:Nat} {tp:Pos} (e it l:Addr) (hei:e≠it) (hle:l≠e) (hli:l≠it) :
  Turn P w K (.Tuple elts k tp) (Ite K l) [e,it] e (fun i h=>(∃old,IsEnum h e it i old)∧h.IsListIter it l i) where
 mem:=by simp
 obj:=fun i h st b hb=>by
  obtain ⟨⟨_,h1⟩,⟨o4,h4,_,d4⟩⟩:=st
  simp at hb
  rcases hb with rfl|rfl
  ·exact ⟨_,h1,fun _ z=>nomatch z⟩
  ·exact ⟨_,h4,fun v q=>by rw [d4] at q;cases q⟩
 keep:=fun i h h' st hk=>by
  obtain ⟨⟨a,h1⟩,h4⟩:=st
  exact ⟨⟨a,hk e (by simp) _ h1⟩,h4.at fun o e=>hk it (by simp) o e⟩
 item:=fun X hP hw hK hc i pins s σ H E I hf st go=>by
  subst hP hw hK
  obtain ⟨⟨old,he⟩,h1⟩:=st
  obtain ⟨xs,x,q1,e1⟩:=go
  obtain ⟨its1,r1,p1,_⟩:=I.list q1
  obtain ⟨u1,g1,ru1⟩:=vals_get r1 e1
  refine wpAny_pyNext_enum_item he h1 p1.isList g1 hei fun h' a1 a3 a5 a6 a7=>⟨_,rfl,?_⟩
  refine wpAny_letOwnedTupleGo_enum a1 fun h'' b1 b2 => ?_
  have hTz:s.heap.objs.size≠e:=addr_ne' (Heap.lt_size he) (Nat.le_refl _)
  have kp:∀c o,c ∉ [e,it]→s.heap.get? c=some o→h''.get? c=some o:=fun c o hc z=>by
   simp only [List.mem_cons,List.not_mem_nil,or_false,not_or] at hc
   exact b2.extBut c o hc.1 (a7 c o hc.1 hc.2 z)
  have I1:Inv X pins σ H { s with heap:=h'',toks:=s.toks+1 }:=I.iter hf kp
  have fT:FpOk X pins H s.heap.objs.size:=I.fpOk (Nat.le_refl _) (I.hok.fresh (Nat.le_refl _))
  have oT:h''.get? s.heap.objs.size=some { cls := .type "tuple",data := .seq #[.int i s.toks,u1] }:=b2.extBut _ _ hTz a5
  have I2:=I1.adopt (T:=s.heap.objs.size) (o := .tup [.int i,x]) fT I.sz ⟨by show 2≤sizeLine;decide,[.int i s.toks,u1], .cons ⟨_,rfl⟩ (.cons ru1 .nil),⟨_,oT,rfl,_,rfl⟩⟩
  refine ⟨.ref s.heap.objs.size,_,I2,rfl,⟨_,rfl,fT.1,fun xs' x' q1' e1' => ?_⟩,⟨⟨_,by
   have b1:IsEnum h'' e it ((i:Int)+1) u1:=b1
   have z:(((i+1:Nat):Int))=(i:Int)+1:=by (first|lia|omega)
   show IsEnum h'' e it ((i+1:Nat):Int) _
   rw [z];exact b1⟩,a3.extBut b2.extBut (Ne.symm hei)⟩,fun c hc => ?_⟩
  ·rw [I.list_inj q1' q1] at e1'
   rw [e1] at e1';cases e1';rfl
  ·have hcs:c<s.heap.objs.size:=by
    simp at hc
    obtain ⟨_,h1,_⟩:=h1
    rcases hc with rfl|rfl
    ·exact Heap.lt_size he
    ·exact Heap.lt_size h1
   rw [upd_ne (addr_ne hcs (Nat.le_refl _))]
   exact (hf c hc).1
 done:=fun X hP hw hK hc i pins s σ H E I hf st stop=>by
  subst hP hw hK
  obtain ⟨⟨old,he⟩,h1⟩:=st
  obtain ⟨xs,q1,e⟩:=stop
  obtain ⟨its1,r1,p1,_⟩:=I.list q1
  have l1':=r1.length
  refine wpAny_pyNext_enum_end (I.ok.hd hc) he h1 p1.isList (by simp; (first|lia|omega)) fun h' kp=>⟨rfl,?_⟩
  refine I.iter (ch:=[it]) (t':=s.toks) (fun c hc=>hf c (by simp at hc ⊢;simp [hc])) fun c o hc z=>kp c o (fun q=>hc (by simp [q])) z
 self:=fun A i s Q E st hQ=>by
  obtain ⟨⟨old,he⟩,_⟩:=st
  exact wpAny_pyIter_enum he hQ
section
variable {X:Cx}
def iEnum (K:PySem.W.Frag) (ta:TA):TI:=fun σ H R=>ta σ H fun vs H1=>∃a,vs=[.ref a]∧(∃xs,SqL K H1 a xs)∧R (Ite K a) H1
theorem pi_enum {elts:List Expr} {k:Nat} {tp:Pos} {a:Expr} {ta:TA} {p pos:Pos} (hg:Gl X "enumerate") (hm:X.mg "enumerate" = none) (ha:PA X [a] ta) (hb:bootBuiltins "enumerate" = some (.type "enumerate"):=by first|rfl|decide) (hs:starEach [a] X.env=[(false,eval a X.env)]:=by rfl) :
  PI X (.Tuple elts k tp) (.Call (.Name "enumerate" p) [a] [] pos) (iEnum X.K ta):=by
 intro pins s σ H R I h
 refine Call_ (ld_blt I hg hm hb (PyProof.Rows.callWith_type1 (thn (ha s σ H _ I h) fun us s1 ⟨vs,H1,I1,r1,q1⟩ => ?_) hs rfl))
 obtain ⟨l1,e,⟨xs,q1⟩,q⟩:=q1
 subst e
 obtain ⟨u,rfl,ru⟩:=vals1 r1
 cases ru
 obtain ⟨its1,rv1,p1,_⟩:=I1.list q1
 have a1:l1<s1.heap.objs.size:=by obtain ⟨_,e,_⟩:=p1.isList;exact Heap.lt_size e
 refine call_enumerate_list p1.isList (fun h' he hi1 hsz hk => ?_)
 refine wpAny_pyIter_enum he ?_
 have I2:Inv X pins σ H1 { s1 with heap:=h' }:=I1.kept (t':=s1.toks) hk
 refine ⟨_,_,_,_,H1,rfl,I2,turn_enum _ _ _ (Nat.succ_ne_self _) (Nat.ne_of_lt (Nat.lt_succ_of_lt a1)) (Nat.ne_of_lt a1),⟨⟨_,he⟩,hi1⟩,fun c hc => ?_,q⟩
 have hcs:s1.heap.objs.size≤c:=by
  simp at hc
  rcases hc with rfl|rfl
  ·exact Nat.le_add_right _ _
  ·exact Nat.le_refl _
 exact I1.fpOk hcs (I1.hok.fresh hcs)
end
end L2
namespace L2
open PySem PySem.Spec PyProof.Rows
section
variable {X:Cx}
def rAddA:R2:=fun x y H Q=>(Ex2 fun i j=>x = .int i∧y = .int j∧Q (.int (i+j)) H)∨(∃i j,x = .str i∧y = .str j∧i.length+j.length≤sizeLine∧Q (.str (i++j)) H)∨rCat x y H Q
theorem g_add:OpR X (binaryOp .Add) rAddA:=op_add.or (op_add_str.or op_cat)
def rMulA:R2:=fun x y H Q=>(Ex2 fun i j=>x = .int i∧y = .int j∧CMul i j∧Q (.int (i*j)) H)∨rRep x y H Q
theorem g_mul:OpR X (binaryOp .Mult) rMulA:=op_mul.or op_rep
structure Fn (P:Program) (w:World) (K:PySem.W.Frag) (mg:Str→Option Value) (base:Heap) (k:Nat) (x:Str) (ps:List Str) (sp:Sp):Prop where
 ex:∃f fd,FnOk P w K mg base CX0 k f fd ps sp∧Binds K fd ps []∧PySem.W.keepIn K (.ref f)=true∧mg x=some (.ref f)
theorem Fn.mono {P:Program} {w:World} {K:PySem.W.Frag} {mg:Str→Option Value} {base:Heap} {j k:Nat} {x:Str} {ps:List Str} {sp:Sp} (F:Fn P w K mg base j x ps sp) (h:j≤k):Fn P w K mg base k x ps sp:=by
 refine Elim.el (F.ex) _ ?_
 rintro f fd a b c d
 exact ⟨f,fd,a.mono h,b,c,d⟩
theorem pe_fn {k:Nat} {x:Str} {ps:List Str} {sp:Sp} {p pos:Pos} {e:Expr} {es:List Expr} {t:TA} (F:Fn X.prog X.w X.K X.mg X.base k x ps sp) (hr:Room k X.A) (hg:Gl X x)
  (ha:PA X (e :: es) t) (hdb:(x == ("__debug__" : Str))=false:=by decide) (he:starEach (e :: es) X.env=(false,eval e X.env) :: starEach es X.env:=by rfl) (hpl:(backTo pos (starEach es X.env)).any (·.1)=false:=by rfl) :
  PE X (.Call (.Name x p) (e :: es) [] pos) (tCall sp [] E0 t):=by
 refine Elim.el (F.ex) _ ?_
 rintro f fd a b c d
 exact pe_call a hr hg d c b .nil pass0 ha hdb he hpl
end
def compChk (pn sn:List (Str×NameKind)) (N Fc:List Str) (js:List Nat):Bool:=
 sn.all (fun y=>y.2 != .cell)&&sn.all (fun y=>y.2 != .local||sn.lookup y.1 == some .local)&&sn.all (fun y=>y.2 != .free||pn.lookup y.1 == some .cell||pn.lookup y.1 == some .free)&&js.length == Fc.length &&
 (List.range Fc.length).all fun k=>match Fc[k]?,js[k]? with
  | some x,some j=>sn.lookup x == some .free&&N[j]? == some x
  | _,_=>false
theorem comp_ok {X:Cx} {scope:Scope} {Nc Fc:List Str} {js:List Nat} (hk:scope.kind = .function:=by rfl) (h:compChk X.env.scope.names scope.names X.N Fc js=true:=by rfl):CompOk X scope Nc Fc js:=by
 unfold compChk at h
 simp only [Bool.and_eq_true,List.all_eq_true,Bool.or_eq_true,bne_iff_ne,beq_iff_eq,ne_eq] at h
 obtain ⟨⟨⟨⟨h1,h2⟩,h3⟩,h4⟩,h5⟩:=h
 refine ⟨hk,h1,fun y hy hl=>(h2 y hy).resolve_left (fun z=>z hl),fun y hy hf => ?_,fun k x hx => ?_,h4⟩
 ·rcases h3 y hy with (z|z)|z
  ·exact absurd hf z
  ·exact .inl z
  ·exact .inr z
 ·have hk':k<Fc.length:=(List.getElem?_eq_some_iff.mp hx).1
  have q:=h5 k (List.mem_range.mpr hk')
  have hj:k<js.length:=by (first|lia|omega)
  rw [hx,List.getElem?_eq_getElem hj] at q
  simp only [Bool.and_eq_true,beq_iff_eq] at q
  exact ⟨q.1,_,List.getElem?_eq_getElem hj,q.2⟩
end L2
namespace L2
open PySem PySem.Spec PyProof.Rows
section
variable {X:Cx}
theorem g_eq (hu:X.A.units+64<cLine):OpR X (compareOp .Eq) (fun x y H Q=>rEq x y H Q∨(∃d e,Den X.K H d x∧Den X.K H e y∧SeqAt.shaped d=true∧SeqAt.shaped e=true∧Q (.bl (PyData.eqv d e)) H)):=op_eq.or (op_eqD hu)
theorem g_ne (hu:X.A.units+64<cLine):OpR X (compareOp .NotEq) (fun x y H Q=>rNe x y H Q∨(∃d e,Den X.K H d x∧Den X.K H e y∧SeqAt.shaped d=true∧SeqAt.shaped e=true∧Q (.bl (!PyData.eqv d e)) H)):=op_ne.or (op_neD hu)
theorem g_is:OpR X (compareOp .Is) (fun x y H Q=>(y = .non∧Q (.bl (decide (x = .non))) H)∨(∃a b,x = .bl a∧y = .bl b∧Q (.bl (decide (a=b))) H)):=op_isN.or op_isB
theorem g_isnot:OpR X (compareOp .IsNot) (fun x y H Q=>(y = .non∧Q (.bl (!decide (x = .non))) H)∨(∃a b,x = .bl a∧y = .bl b∧Q (.bl (!decide (a=b))) H)):=op_notN.or op_isnotB
theorem g_sl:SlR X (fun x lo hi H Q=>rSlL X.K x lo hi H Q∨(∃z,x = .str z∧z.length≤sizeLine∧Q (.str (Txt.slice z lo hi)) H)):=sl_list.or sl_str
structure Nm (mg:Str→Option Value):Prop where
 n_len:mg "len" = none
 n_range:mg "range" = none
 n_max:mg "max" = none
 n_min:mg "min" = none
 n_sum:mg "sum" = none
 n_all:mg "all" = none
 n_any:mg "any" = none
 n_list:mg "list" = none
 n_tuple:mg "tuple" = none
 n_int:mg "int" = none
 n_str:mg "str" = none
 n_bool:mg "bool" = none
 n_zip:mg "zip" = none
 n_enumerate:mg "enumerate" = none
 n_isinstance:mg "isinstance" = none
 n_divmod:mg "divmod" = none
end
end L2
namespace L2
open PySem PySem.Spec PyProof.Rows
theorem comp_go {J:It} {n:Nat} {js:List Nat} {g:TG} {tc:TT} {te:TE} {σ:St} {H1:Hp} {fin:List V→Hp→Prop} (N:Nat) (Pv:Nat→List V→Hp→Prop) (h0:Pv 0 [] H1)
  (go:∀i ys H (Nx:List V→Hp→Prop),i<N→Pv i ys H→(∀ys' H',Pv (i+1) ys' H'→Nx ys' H')→J.go i H∧ys.length<sizeLine ∧
   ∀x H',J.yld i H x H'→g x (List.replicate n none++cvals σ js) H' fun σ2 H2=>tc σ2 H2 fun b H3=>if b=true then te σ2 H3 fun y H4=>Nx (ys++[y]) H4 else Nx ys H3)
  (stop:∀ys H,Pv N ys H→J.stop N H∧fin ys H):CompW J n js g tc te σ H1 fin:=by
 refine ⟨fun i m ys H=>m=N-i∧i≤N∧Pv i ys H,⟨N,by simp,Nat.zero_le _,h0⟩,?_⟩
 rintro i m ys H ⟨rfl,hi,p⟩
 by_cases hlt:i<N
 ·exact .inr (go i ys H (fun ys' H'=>∃m',m'<N-i∧(m'=N-(i+1)∧i+1≤N∧Pv (i+1) ys' H')) hlt p fun ys' H' q=>⟨_,by first|lia|omega,rfl,hlt,q⟩)
 ·have e:i=N:=by (first|lia|omega)
  subst e
  exact .inl (stop ys H p)
section
variable {X:Cx} (K:PySem.W.Frag)
theorem ixK (hK:X.K=K:=by rfl):IxR X (rIx K):=by subst hK;exact ix_seq
theorem slK (hK:X.K=K:=by rfl):SlR X (fun x lo hi H Q=>rSlL K x lo hi H Q∨(∃z,x = .str z∧z.length≤sizeLine∧Q (.str (Txt.slice z lo hi)) H)):=by subst hK;exact g_sl
theorem lenK (hK:X.K=K:=by rfl):CallR X (.builtin "len") (fun xs H Q=>∃x n,xs=[x]∧LenV K x H n∧Q (.int n) H):=by subst hK;exact call_len
theorem joinK (hK:X.K=K:=by rfl):MtR X "str.join" (fun x vs H Q=>∃(sep:Str) (p:Addr) (xs:List Str),x = .str sep∧vs=[.ref p]∧SqL K H p (xs.map V.str)∧(xs.map (·.length)).sum+xs.length*sep.length≤16777216∧Q (.str (Txt.join sep xs)) H):=by subst hK;exact mt_join
theorem piK {tg l:Expr} {tl:TE} (hl:PE X l tl) (hK:X.K=K:=by rfl):PI X tg l (iList K tl):=by subst hK;exact pi_list hl
theorem tupK {pos:Pos} {es:List Expr} {k:Nat} {t:TGs} (n:Nat) (hc:X.calm=true) (h:PGs X es t) (hn:(assignEach es X.env).length=n:=by rfl) (hst:(assignEach es X.env).findIdx? (·.1)=none:=by rfl) (hK:X.K=K:=by rfl):PG X (.Tuple es k pos) (gTup K n t):=by subst hK;exact pg_tup hc h hn hst
theorem bmK {o e:Expr} {es:List Expr} {to:TE} {t:TA} {name:Str} {apos cpos:Pos} {T id:String} {r:V→List V→Hp→VK→Prop} (pa:PlainAttrs T) (slot:Slot T name id) (hty:typeOf (.builtin id)=pure (.type "method_descriptor")) (hm:MtR X id r) (ho:PE X o to) (ha:PA X (e :: es) t)
  (hbase:attributeBase o name X.env (eval o X.env)=eval o X.env:=by rfl)
  (hfew:((backTo cpos (starEach (e :: es) X.env)).all (fun x => !x.1)&&(backToKw cpos (keywordEach [] X.env)).all (fun x=>x.1.isSome)
   && decide ((e :: es).length+([]:List Keyword).length+(if ([]:List Keyword).isEmpty then 0 else 1)<30))=true:=by rfl)
  (hline:(apos.endLine == cpos.line)=true:=by rfl) (hs:starEach (e :: es) X.env=(false,eval e X.env) :: starEach es X.env:=by rfl) (hplain:(backTo cpos (starEach es X.env)).any (·.1)=false:=by rfl) (hK:X.K=K:=by rfl) :
  PE X (.Call (.Attribute o name apos) (e :: es) [] cpos) (tBM K T r to t):=by subst hK;exact pe_bm pa slot hty hm ho ha hbase hfew hline hs hplain
theorem eqK (hu:X.A.units+64<cLine) (hK:X.K=K:=by rfl):OpR X (compareOp .Eq) (fun x y H Q=>rEq x y H Q∨(∃d e,Den K H d x∧Den K H e y∧SeqAt.shaped d=true∧SeqAt.shaped e=true∧Q (.bl (PyData.eqv d e)) H)):=by subst hK;exact g_eq hu
theorem neK (hu:X.A.units+64<cLine) (hK:X.K=K:=by rfl):OpR X (compareOp .NotEq) (fun x y H Q=>rNe x y H Q∨(∃d e,Den K H d x∧Den K H e y∧SeqAt.shaped d=true∧SeqAt.shaped e=true∧Q (.bl (!PyData.eqv d e)) H)):=by subst hK;exact g_ne hu
end
end L2
namespace L2
open PySem PySem.Spec PyProof.Rows
abbrev Keeps (g h:Heap) (c:Addr→Prop):Prop:=∀b o, ¬c b→g.get? b=some o→h.get? b=some o
section
variable {prog:Program} {w:World} {A:Around} {it S:Addr} {T:String} {fp:Addr→Prop} {n:Nat} {P:Nat→Value→Heap→Prop} {R:Value→Value→Prop} {St:Nat→Heap→Prop}
end
end L2
namespace L2
open PySem PySem.Spec PyProof.Rows
section
variable {prog:Program} {w:World} {A:Around} {E:Value→Shared→Prop} {s:Shared} {z TI TO i1 i2 l1 l2 a:Addr} {f:Bool} {oa:Obj}
end
end L2
namespace L2
open PySem PySem.Spec PyProof.Rows
section
variable {X:Cx}
end
end L2
namespace L2
open PySem PySem.Spec PyProof.Rows
structure New (H:Hp) (p:Addr) (o:HO) (H':Hp):Prop where
 nn:H p=none
 eq:H'=upd H p o
theorem New.at {H H':Hp} {p:Addr} {o:HO} (n:New H p o H'):H' p=some o:=by rw [n.eq];exact upd_same
theorem New.ne {H H':Hp} {p a:Addr} {o:HO} (n:New H p o H') (h:a≠p):H' a=H a:=by rw [n.eq];exact upd_ne h
theorem New.same {H H':Hp} {p:Addr} {o:HO} (n:New H p o H'):Same H H':=fun a u e=>by rw [n.ne (ne_of_none e n.nn)];exact e
structure Chg (H:Hp) (p:Addr) (o:HO) (H':Hp):Prop where
 eq:H'=upd H p o
theorem Chg.at {H H':Hp} {p:Addr} {o:HO} (n:Chg H p o H'):H' p=some o:=by rw [n.eq];exact upd_same
theorem Chg.ne {H H':Hp} {p a:Addr} {o:HO} (n:Chg H p o H') (h:a≠p):H' a=H a:=by rw [n.eq];exact upd_ne h
theorem new_all {H:Hp} {o:HO} {F:Addr→Hp→Prop} : (∀p,H p=none→F p (upd H p o)) = ∀p H',New H p o H'→F p H':=
 propext ⟨fun h p H' n=>by rw [n.eq];exact h p n.nn,fun h p hp=>h p _ ⟨hp,rfl⟩⟩
theorem chg_all {H:Hp} {p:Addr} {o:HO} {F:Hp→Prop} : F (upd H p o) = ∀H',Chg H p o H'→F H':=
 propext ⟨fun h H' n=>by rw [n.eq];exact h,fun h=>h _ ⟨rfl⟩⟩
section
variable {X:Cx} {pos:Pos} {es:List Expr} {t:TA}
def tTupN (t:TA):TE:=fun σ H Q=>t σ H fun xs H1=>xs.length≤sizeLine∧∀p H',New H1 p (.tup xs) H'→Q (.ref p) H'
def tLstN (t:TA):TE:=fun σ H Q=>t σ H fun xs H1=>xs.length≤sizeLine∧∀p H',New H1 p (.lst xs) H'→Q (.ref p) H'
theorem tupN {x1} (h:PA X es t):PE X (.Tuple es x1 pos) (tTupN t):=by
 have e:tTupN t=tTup t:=by
  funext σ H Q
  show t σ H _=t σ H _
  congr 1;funext xs H1
  exact congrArg (_ ∧ ·) (new_all (F:=fun p H'=>Q (.ref p) H')).symm
 rw [e];exact pe_tup h
theorem lstN (h:PA X es t):PE X (.List es pos) (tLstN t):=by
 have e:tLstN t=tLst t:=by
  funext σ H Q
  show t σ H _=t σ H _
  congr 1;funext xs H1
  exact congrArg (_ ∧ ·) (new_all (F:=fun p H'=>Q (.ref p) H')).symm
 rw [e];exact pe_lst h
def tDispN (trs:List (TE×TE)):TE:=fun σ H Q=>∀p H0,New H p (.dK []) H0→tPairs trs σ H0 fun ps H2=>H2 p=some (.dK [])∧∃kvs:List (Key×V),ps=kvs.map (fun kv=>(kV kv.1,kv.2))∧kvs.length≤15∧∀H3,Chg H2 p (.dK (mergeK [] kvs)) H3→Q (.ref p) H3
theorem dispN {keys:List (Option Expr)} {values:List Expr} {trs:List (TE×TE)} (h:PPs X pos keys values trs) (hall:keys.all (·.isSome)=true) (hl:keys.length=values.length) (h0:keys≠[])
  (h15:keys.length≤15):PE X (.Dict keys values pos) (tDispN trs):=by
 have e:tDispN trs=tDisp trs:=by
  funext σ H Q
  unfold tDispN tDisp
  rw [new_all (F:=fun p H0=>tPairs trs σ H0 fun ps H2=>H2 p=some (.dK [])∧∃kvs:List (Key×V),ps=kvs.map (fun kv=>(kV kv.1,kv.2))∧kvs.length≤15∧Q (.ref p) (upd H2 p (.dK (mergeK [] kvs))))]
  simp only [←chg_all (F:=fun H3=>Q (.ref _) H3)]
 rw [e];exact pe_disp h hall hl h0 h15
end
section
variable {X:Cx} (K:PySem.W.Frag)
def rSlN (K:PySem.W.Frag):V→Option Int→Option Int→Hp→VK→Prop:=fun x lo hi H Q=>(Ex2 fun a xs=>x = .ref a∧SqL K H a xs∧∀p H',New H p (.lst (cutV xs lo hi)) H'→Q (.ref p) H')∨(∃z,x = .str z∧z.length≤sizeLine∧Q (.str (Txt.slice z lo hi)) H)
theorem slN (hK:X.K=K:=by rfl):SlR X (rSlN K):=by
 subst hK
 intro pins s σ H x v vl vu lo hi sl Q I rx hs pl pu q
 refine g_sl s σ H x v vl vu lo hi sl Q I rx hs pl pu ?_
 rcases q with ⟨a,xs,e,h,q⟩|q
 ·exact .inl ⟨a,xs,e,h,fun p hp=>q p _ ⟨hp,rfl⟩⟩
 ·exact .inr q
theorem listN (hK:X.K=K:=by rfl):CallR X (.type "list") (fun xs H Q=>∃p ys,xs=[.ref p]∧(SqL K H p ys∨SqT K H p ys)∧∀l H',New H l (.lst ys) H'→Q (.ref l) H'):=by
 subst hK
 intro pins s σ H xs us Q I r h
 refine Elim.el (h) _ ?_
 rintro p ys e h q
 exact call_list_of s σ H xs us Q I r ⟨p,ys,e,h,fun l hl=>q l _ ⟨hl,rfl⟩⟩
end
section
variable {X:Cx}
def rAddN:R2:=fun x y H Q=>(Ex2 fun i j=>x = .int i∧y = .int j∧Q (.int (i+j)) H)∨(∃i j,x = .str i∧y = .str j∧i.length+j.length≤sizeLine∧Q (.str (i++j)) H) ∨
 Ex4 fun l b xs zs=>x = .ref l∧y = .ref b∧H l=some (.lst xs)∧H b=some (.lst zs)∧xs.length+zs.length≤sizeLine∧∀p H',New H p (.lst (xs++zs)) H'→Q (.ref p) H'
theorem addN:OpR X (binaryOp .Add) rAddN:=by
 intro pins s σ H x y v u Q I rx ry h
 refine g_add s σ H x y v u Q I rx ry ?_
 rcases h with h|h|⟨l,b,xs,zs,e1,e2,h1,h2,h3,q⟩
 ·exact .inl h
 ·exact .inr (.inl h)
 ·exact .inr (.inr ⟨l,b,xs,zs,e1,e2,h1,h2,h3,fun p hp=>q p _ ⟨hp,rfl⟩⟩)
def rMulN:R2:=fun x y H Q=>(Ex2 fun i j=>x = .int i∧y = .int j∧CMul i j∧Q (.int (i*j)) H) ∨
 Ex3 fun l k xs=>x = .ref l∧y = .int k∧H l=some (.lst xs) ∧ -(2 ^ 63)≤k∧k<2 ^ 63∧xs.length*k.toNat≤sizeLine∧∀p H',New H p (.lst (List.replicate k.toNat xs).flatten) H'→Q (.ref p) H'
theorem mulN:OpR X (binaryOp .Mult) rMulN:=by
 intro pins s σ H x y v u Q I rx ry h
 refine g_mul s σ H x y v u Q I rx ry ?_
 rcases h with h|⟨l,k,xs,e1,e2,h1,h2,h3,h4,q⟩
 ·exact .inl h
 ·exact .inr ⟨l,k,xs,e1,e2,h1,h2,h3,h4,fun p hp=>q p _ ⟨hp,rfl⟩⟩
theorem appendN:MtM X "list.append" (fun x vs H Q=>∃l xs y,x = .ref l∧vs=[y]∧H l=some (.lst xs)∧xs.length<sizeLine∧∀H',Chg H l (.lst (xs++[y])) H'→Q .non H'):=by
 intro pins s σ H x xs v us Q I rx rv h
 refine Elim.el (h) _ ?_
 rintro l ys y e1 e2 h1 h2 q
 exact mt_append s σ H x xs v us Q I rx rv ⟨l,ys,y,e1,e2,h1,h2,q _ ⟨rfl⟩⟩
theorem popAtN:MtM X "list.pop" (fun x vs H Q=>∃l xs i y,x = .ref l∧vs=[.int i]∧H l=some (.lst xs)∧0≤i∧i<2 ^ 63∧xs[i.toNat]? = some y∧∀H',Chg H l (.lst (xs.eraseIdx i.toNat)) H'→Q y H'):=by
 intro pins s σ H x xs v us Q I rx rv h
 refine Elim.el (h) _ ?_
 rintro l ys i y e1 e2 h1 h2 h3 h4 q
 refine mt_popAt s σ H x xs v us Q I rx rv ⟨l,ys,i,i.toNat,y,e1,e2,h1,by first|lia|omega,h3,?_,h4,q _ ⟨rfl⟩⟩
 have hl:=(List.getElem?_eq_some_iff.mp h4).1
 have q:atI ys ((i.toNat:Nat):Int)=some y:=atI_nat h4
 have ei:((i.toNat:Nat):Int)=i:=by omega
 rw [ei] at q
 obtain ⟨j,hj,hj2,_⟩:=atI_get q
 have:ixN ys.length i=some i.toNat:=by unfold ixN;rw [if_pos h2,if_pos (by first|lia|omega)]
 exact (ixN_seq this).1
end
theorem comp_goN {J:It} {n:Nat} {js:List Nat} {g:TG} {tc:TT} {te:TE} {σ:St} {H1:Hp} {Q:V→Hp→Prop} (N:Nat) (Pv:Nat→List V→Hp→Prop) (h0:Pv 0 [] H1)
  (go:∀i ys H (Nx:List V→Hp→Prop),i<N→Pv i ys H→(∀ys' H',Pv (i+1) ys' H'→Nx ys' H')→J.go i H∧ys.length<sizeLine ∧
   ∀x H',J.yld i H x H'→g x (List.replicate n none++cvals σ js) H' fun σ2 H2=>tc σ2 H2 fun b H3=>if b=true then te σ2 H3 fun y H4=>Nx (ys++[y]) H4 else Nx ys H3)
  (stop:∀ys H,Pv N ys H→J.stop N H∧∀p H',New H p (.lst ys) H'→Q (.ref p) H'):CompW J n js g tc te σ H1 fun ys H2=>∀p,H2 p=none→Q (.ref p) (upd H2 p (.lst ys)):=
 comp_go N Pv h0 go fun ys H h=>⟨(stop ys H h).1,fun p hp=>(stop ys H h).2 p _ ⟨hp,rfl⟩⟩
theorem at_nat {α:Type} {xs:List α} {i:Int} {v : α} (h0:0≤i) (h:xs[i.toNat]? = some v):atI xs i=some v:=by
 have q:=atI_nat h
 have e:((i.toNat:Nat):Int)=i:=by (first|lia|omega)
 rw [e] at q
 exact q
end L2
namespace L2
open PySem PySem.Spec PyProof.Rows
def tyD:PyData→String
 | .none => "NoneType"
 | .bool _ => "bool"
 | .int _ => "int"
 | .str _ => "str"
 | .list _ => "list"
 | .tuple _ => "tuple"
 | .dict _ => "dict"
def isD (d:PyData) (T:String):Bool:=tyD d == T||(tyD d == "bool" && T == "int")
theorem kitT (K:PySem.W.Frag) (d:PyData):PySem.W.kitOne K (.type (tyD d)) (.type "bool")=some (isD d "bool")∧PySem.W.kitOne K (.type (tyD d)) (.type "int")=some (isD d "int")∧PySem.W.kitOne K (.type (tyD d)) (.type "str")=some (isD d "str") ∧
  PySem.W.kitOne K (.type (tyD d)) (.type "list")=some (isD d "list")∧PySem.W.kitOne K (.type (tyD d)) (.type "tuple")=some (isD d "tuple"):=by
 cases d <;> exact ⟨rfl,rfl,rfl,rfl,rfl⟩
section
variable {X:Cx}
theorem den_kit {pins:List (Addr×Obj)} {σ:St} {H:Hp} {s:Shared} {x:V} {u:Value} {d:PyData} (I:Inv X pins σ H s) (rx:RelV x u) (h:Den X.K H d x):∃HH:Heap→Prop,PySem.W.KitX X.K u (.type (tyD d)) HH∧HH s.heap∧u ≠ .builtin "__main__.__loader__#opaque":=by
 cases d with
 | none=>unfold Den at h;subst h;cases rx;exact ⟨_,PySem.W.kitx_none,True.intro,fun z=>nomatch z⟩
 | bool b=>unfold Den at h;subst h;cases rx;exact ⟨_,PySem.W.kitx_bool,True.intro,fun z=>nomatch z⟩
 | int i=>unfold Den at h;subst h;obtain ⟨t,rfl⟩:=rx;exact ⟨_,PySem.W.kitx_int,True.intro,fun z=>nomatch z⟩
 | str y=>unfold Den at h;subst h;obtain ⟨t,rfl⟩:=rx;exact ⟨_,PySem.W.kitx_str,True.intro,fun z=>nomatch z⟩
 | list ds=>
  unfold Den at h
  refine Elim.el (h) _ ?_
  rintro a vs rfl h2 _
  cases rx
  obtain ⟨its,_,⟨o,n,e1,e2,_⟩,_⟩:=I.list h2
  exact ⟨_,PySem.W.kitx_list,⟨o,e1,e2⟩,fun z=>nomatch z⟩
 | tuple ds=>
  unfold Den at h
  refine Elim.el (h) _ ?_
  rintro a vs rfl h2 _
  cases rx
  obtain ⟨its,_,⟨o,e1,e2,_⟩,_⟩:=I.tuple h2
  exact ⟨_,PySem.W.kitx_tuple,⟨o,e1,e2⟩,fun z=>nomatch z⟩
 | dict _=>unfold Den at h;exact h.elim
theorem call_isiD:CallR X (.builtin "isinstance") (fun xs H Q=>∃(x:V) (T:String) (d:PyData) (b:Bool),xs=[x, .ty T]∧Den X.K H d x∧PySem.W.kitOne X.K (.type (tyD d)) (.type T)=some b∧Q (.bl b) H):=by
 intro pins s σ H xs us Q I r h
 refine Elim.el (h) _ ?_
 rintro x T d b rfl hd e q
 refine Elim.el (vals2 r) _ ?_
 rintro u w' rfl r1 r2
 cases r2
 refine Elim.el (den_kit I r1 hd) _ ?_
 rintro HH Z hh hx
 exact PySem.W.kia_one Z I.kIn hh e hx fun tk=>⟨.bl b,H,I.tok _,rfl,q⟩
theorem call_isiTD:CallR X (.builtin "isinstance") (fun xs H Q=>∃(x:V) (p:Addr) (Ts:List String) (d:PyData) (b:Bool),xs=[x, .ref p]∧H p=some (.tup (Ts.map V.ty))∧Den X.K H d x∧PySem.W.kitAny X.K (.type (tyD d)) (Ts.map Value.type)=some b∧Q (.bl b) H):=by
 intro pins s σ H xs us Q I r h
 refine Elim.el (h) _ ?_
 rintro x p Ts d b rfl hp hd e q
 refine Elim.el (vals2 r) _ ?_
 rintro u w' rfl r1 r2
 cases r2
 refine Elim.el (den_kit I r1 hd) _ ?_
 rintro HH Z hh hx
 obtain ⟨_,its,rv,o,h1,h2,n,h3⟩:=(show ObjOk X.prog X.w H s.heap p (.tup (Ts.map V.ty)) from I.hok p _ hp)
 have ei:its=Ts.map Value.type:=by
  clear e hp h3 h2 h1
  rename_i hz
  clear hz
  induction Ts generalizing its with
  | nil=>cases rv;rfl
  | cons T Ts ih=>
   cases rv with
   | cons q1 q2=>cases q1;rw [ih _ q2];rfl
 subst ei
 obtain ⟨cls,dd,data,sl⟩:=o
 simp only at h2 h3
 subst h2 h3
 exact PySem.W.kia_tup Z I.kIn hh h1 e hx fun tk=>⟨.bl b,H,I.tok _,rfl,q⟩
def rIsi (K:PySem.W.Frag):List V→Hp→VK→Prop:=fun xs H Q=>(∃(x:V) (T:String) (d:PyData) (b:Bool),xs=[x, .ty T]∧Den K H d x∧PySem.W.kitOne K (.type (tyD d)) (.type T)=some b∧Q (.bl b) H) ∨
 ∃x T t b,xs=[x, .ty T]∧TyOf K H x t∧PySem.W.kitOne K t (.type T)=some b∧Q (.bl b) H
theorem isiK (K:PySem.W.Frag) (hK:X.K=K:=by rfl):CallR X (.builtin "isinstance") (rIsi K):=by subst hK;exact call_isiD.or call_isi
def rIsiT (K:PySem.W.Frag):List V→Hp→VK→Prop:=fun xs H Q=>∃(x:V) (p:Addr) (Ts:List String) (d:PyData) (b:Bool),xs=[x, .ref p]∧H p=some (.tup (Ts.map V.ty))∧Den K H d x∧PySem.W.kitAny K (.type (tyD d)) (Ts.map Value.type)=some b∧Q (.bl b) H
theorem isiTK (K:PySem.W.Frag) (hK:X.K=K:=by rfl):CallR X (.builtin "isinstance") (rIsiT K):=by subst hK;exact call_isiTD
end
end L2
namespace L2
open PySem PySem.Spec PyProof.Rows
def kSeq (k:Bool):String:=if k then "tuple" else "list"
def kIter (k:Bool):String:=if k then "tuple_iterator" else "list_iterator"
def SeqOf (k:Bool) (h:Heap) (a:Addr) (its:Array Value):Prop:=∃o,h.get? a=some o∧o.cls = .type (kSeq k)∧∃n,o.data = .seq its n
def SeqIt (k:Bool) (h:Heap) (it a:Addr) (i:Nat):Prop:=∃o,h.get? it=some o∧o.cls = .type (kIter k)∧o.data = .fields #[.ref a, .int i 0]
theorem SeqOf.at {k:Bool} {h h':Heap} {a:Addr} {its:Array Value} (x:SeqOf k h a its) (e:∀o,h.get? a=some o→h'.get? a=some o):SeqOf k h' a its:=let ⟨o,ho,r⟩:=x; ⟨o,e _ ho,r⟩
theorem SeqIt.at {k:Bool} {h h':Heap} {it a:Addr} {i:Nat} (x:SeqIt k h it a i) (e:∀o,h.get? it=some o→h'.get? it=some o):SeqIt k h' it a i:=let ⟨o,ho,r⟩:=x; ⟨o,e _ ho,r⟩
theorem SeqOf.lt {k:Bool} {h:Heap} {a:Addr} {its:Array Value} (x:SeqOf k h a its):a<h.objs.size:=let ⟨_,e,_⟩:=x;Heap.lt_size e
theorem SeqIt.lt {k:Bool} {h:Heap} {it a:Addr} {i:Nat} (x:SeqIt k h it a i):it<h.objs.size:=let ⟨_,e,_⟩:=x;Heap.lt_size e
section
variable {prog:Program} {w:World} {A:Around} {E:Value→Shared→Prop} {s:Shared} {k:Bool} {it a:Addr} {i:Nat} {its:Array Value}
theorem seq_next {x:Value} {Q:Value→Shared→Prop} (h1:SeqIt k s.heap it a i) (h2:SeqOf k s.heap a its) (hx:its[i]? = some x)
  (q:∀h',SeqIt k h' it a (i+1)→Heap.SameBut it s.heap h'→Q x { s with heap:=h' }):wpAny (model prog w) A (Builtin.SmallTypes.nextOf (.ref it)) Q E s:=by
 cases k with
 | false=>exact wpAny_nextOf_list_item h1 h2 hx q
 | true=>
  obtain ⟨o,ho,hc,hd⟩:=h1
  obtain ⟨ol,hol,_,nl,hdl⟩:=h2
  have hT:s.TypeIs (.ref it) "tuple_iterator":=⟨o,ho,hc⟩
  unfold Builtin.SmallTypes.nextOf
  refine wpAny_bind (wpAny_callSpecial?_slot (name:=Str.ofString "__next__") hT F.slot_tuple_iterator_next (wpAny_call_entry F.slot_tuple_iterator_next hT F.entry_tuple_iterator_next ?_ (F.args_tuple_iterator_next_1 _)))
  change wpAny _ _ (Bind.bind (field (.ref it) 0) _) _ _ s
  refine wpAny_bind (wpAny_field ho hd (x := .ref a) rfl ?_)
  rw [if_neg (by intro z;cases z)]
  refine wpAny_bind (wpAny_field ho hd (x := .int i 0) rfl (wpAny_bind (wpAny_seqItems hol hdl ?_)))
  simp only [Int.toNat_natCast,hx]
  refine wpAny_bind (wpAny_setField ho hd (by simp) (wpAny_pure ⟨x,rfl,wpAny_pure (q _ ⟨_,Heap.get?_update_self _ ho (Obj.isFreed_of_fields (Obj.data_mapFields hd _)),(Obj.cls_mapFields ..).trans hc,?_⟩ (Heap.SameBut.update ..))⟩))
  rw [Obj.data_mapFields hd]
  simp [rawInt]
theorem seq_stop {Q:Value→Shared→Prop} (hh:A.handled=none) (h1:SeqIt k s.heap it a i) (h2:SeqOf k s.heap a its) (hx:its[i]? = none)
  (q:∀h' e,Heap.ExtBut it s.heap h'→(∃o,h'.get? e=some o∧o.cls = .type "StopIteration")→E (.ref e) { s with heap:=h' }):wpAny (model prog w) A (Builtin.SmallTypes.nextOf (.ref it)) Q E s:=by
 cases k with
 | false=>exact wpAny_nextOf_list_end hh h1 h2 hx q
 | true=>
  obtain ⟨o,ho,hc,hd⟩:=h1
  obtain ⟨ol,hol,_,nl,hdl⟩:=h2
  have hT:s.TypeIs (.ref it) "tuple_iterator":=⟨o,ho,hc⟩
  unfold Builtin.SmallTypes.nextOf
  refine wpAny_bind (wpAny_callSpecial?_slot (name:=Str.ofString "__next__") hT F.slot_tuple_iterator_next (wpAny_call_entry F.slot_tuple_iterator_next hT F.entry_tuple_iterator_next ?_ (F.args_tuple_iterator_next_1 _)))
  change wpAny _ _ (Bind.bind (field (.ref it) 0) _) _ _ s
  refine wpAny_bind (wpAny_field ho hd (x := .ref a) rfl ?_)
  rw [if_neg (by intro z;cases z)]
  refine wpAny_bind (wpAny_field ho hd (x := .int i 0) rfl (wpAny_bind (wpAny_seqItems hol hdl ?_)))
  simp only [Int.toNat_natCast,hx]
  refine wpAny_bind (wpAny_rule (wpAny_bind (wpAny_setField ho hd (by simp) (wpAny_bind ?_))))
  simp only [newExc,newTuple]
  refine wpAny_bind (wpAny_newObj_type ?_ (by size_fits))
  refine wpAny_bind (m:=firstArgMember _ _) (wpAny_of_eq (a:=Value.none) (by first|rfl|(simp only [firstArgMember];rfl)) (wpAny_newObj_type ?_ (by size_fits)))
  simp only [raiseNew]
  refine wpAny_bind (wpAny_handled ?_)
  rw [show A.in1.handled=none from hh]
  exact wpAny_bind (wpAny_pure (wpAny_throw (q _ _ (((Heap.SameBut.update ..).extBut.push _).push _) ⟨_,Heap.get?_push_size _ rfl,rfl⟩)))
end
structure ZipSt (k1 k2:Bool) (z TI TO i1 i2 l1 l2:Addr) (i:Nat) (h:Heap):Prop where
 zp:IsZip h z TI TO .none
 ti:IsPair h TI (.ref i1) (.ref i2)
 to:∃a b,IsPair h TO a b
 it1:SeqIt k1 h i1 l1 i
 it2:SeqIt k2 h i2 l2 i
section
variable {prog:Program} {w:World} {A:Around} {E:Value→Shared→Prop} {s:Shared} {k1 k2:Bool} {z TI TO i1 i2 l1 l2:Addr} {i:Nat} {xs ys:Array Value}
abbrev zipW (z TO i1 i2:Addr) (b:Addr):Prop:=b=z∨b=TO∨b=i1∨b=i2
theorem zipk_item {x y:Value} {Q:Option Value→Shared→Prop} (D:ZipApart z TI TO i1 i2 l1 l2) (st:ZipSt k1 k2 z TI TO i1 i2 l1 l2 i s.heap) (hl1:SeqOf k1 s.heap l1 xs) (hl2:SeqOf k2 s.heap l2 ys) (hx:xs[i]? = some x) (hy:ys[i]? = some y)
  (q:∀h',IsZip h' z TI TO (rawInt s.heap.objs.size)→IsPair h' TO x y→SeqIt k1 h' i1 l1 (i+1)→SeqIt k2 h' i2 l2 (i+1)→IsPair h' s.heap.objs.size x y→Keeps s.heap h' (zipW z TO i1 i2)→Q (some (.ref s.heap.objs.size)) { s with heap:=h' }) :
  wpAny (model prog w) A (pyNext (.ref z)) Q E s:=by
 obtain ⟨hz,hTI,⟨a,b,hTO⟩,h1,h2⟩:=st
 have hT:s.TypeIs (.ref z) "zip":=⟨_,hz,rfl⟩
 unfold pyNext
 refine wpAny_bind (wpAny_attempt (wpAny_callSpecial?_slot (name:=Str.ofString "__next__") hT F.slot_zip_next (wpAny_call_entry F.slot_zip_next hT F.entry_zip_next ?_ (F.args_zip_next_1 _))))
 change wpAny _ _ (Bind.bind (field (.ref z) 2) _) _ _ _
 refine wpAny_bind (wpAny_field hz rfl (x := .bool false) rfl ?_)
 change wpAny _ _ (Bind.bind (field (.ref z) 3) _) _ _ _
 refine wpAny_bind (wpAny_field hz rfl (x := .ref TI) rfl (wpAny_bind (wpAny_seqItems hTI rfl ?_)))
 change wpAny _ _ (Bind.bind (Builtin.SmallTypes.ownedTupleIsFree (.ref z)) _) _ _ _
 refine wpAny_bind ?_
 unfold Builtin.SmallTypes.ownedTupleIsFree
 refine wpAny_bind (wpAny_field hz rfl (x := .none) rfl (wpAny_pure ?_))
 simp only [if_true]
 refine wpAny_bind (wpAny_rule (wpAny_bind (wpAny_field hz rfl (x := .ref TO) rfl (wpAny_bind (wpAny_setField_rec hz (by simp) fun g1 z1 e1=>wpAny_bind ?_)))))
 simp only [List.zipIdx_cons,List.zipIdx_nil,List.forIn_cons,List.forIn_nil]
 refine wpAny_bind (wpAny_bind (wpAny_onRaise ?_))
 change wpAny _ _ (Bind.bind (Builtin.SmallTypes.nextOf (.ref i1)) _) _ _ _
 refine wpAny_bind (seq_next (h1.at fun o e=>e1.extBut _ _ D.i1z e) (hl1.at fun o e=>e1.extBut _ _ D.l1z e) hx fun g2 it1 e2=>wpAny_pure ?_)
 have to2:IsPair g2 TO a b:=e2.extBut _ _ D.TOi1 (e1.extBut _ _ D.TOz hTO)
 refine wpAny_bind (wpAny_seqItems to2 rfl (wpAny_bind (wpAny_updateSeq_pair to2 fun g3 to3 e3=>wpAny_bind (wpAny_letGo (wpAny_pure ?_)))))
 have to3:IsPair g3 TO x b:=to3
 have k13:Keeps s.heap g3 (fun c=>c=z∨c=i1∨c=TO):=fun c o nc e=>e3.extBut _ _ (fun q=>nc (.inr (.inr q))) (e2.extBut _ _ (fun q=>nc (.inr (.inl q))) (e1.extBut _ _ (fun q=>nc (.inl q)) e))
 refine wpAny_bind (wpAny_bind (wpAny_onRaise ?_))
 change wpAny _ _ (Bind.bind (Builtin.SmallTypes.nextOf (.ref i2)) _) _ _ _
 refine wpAny_bind (seq_next (h2.at fun o e=>k13 _ _ (fun q=>q.elim D.i2z fun q=>q.elim D.i12.symm D.TOi2.symm) e) (hl2.at fun o e=>k13 _ _ (fun q=>q.elim D.l2z fun q=>q.elim D.l2i1 D.l2TO) e) hy fun g4 it2 e4=>wpAny_pure ?_)
 have to4:IsPair g4 TO x b:=e4.extBut _ _ D.TOi2 to3
 refine wpAny_bind (wpAny_seqItems to4 rfl (wpAny_bind (wpAny_updateSeq_pair to4 fun g5 to5 e5=>wpAny_bind (wpAny_letGo (wpAny_pure (wpAny_pure ?_))))))
 have to5:IsPair g5 TO x y:=to5
 refine wpAny_bind (wpAny_seqItems to5 rfl (wpAny_bind (wpAny_newTuple ?_)))
 have hsz:g5.objs.size=s.heap.objs.size:=by rw [e5.1,e4.1,e3.1,e2.1,e1.1]
 have z5:IsZip g5 z TI TO .ellipsis:=e5.extBut _ _ D.TOz.symm (e4.extBut _ _ D.i2z.symm (e3.extBut _ _ D.TOz.symm (e2.extBut _ _ D.i1z.symm z1)))
 have k5:Keeps s.heap g5 (zipW z TO i1 i2):=fun c o nc e=>e5.extBut _ _ (fun q=>nc (.inr (.inl q))) (e4.extBut _ _ (fun q=>nc (.inr (.inr (.inr q)))) (k13 c o (fun q=>q.elim (fun q=>nc (.inl q)) fun q=>q.elim (fun q=>nc (.inr (.inr (.inl q)))) fun q=>nc (.inr (.inl q))) e))
 have it1':SeqIt k1 g5 i1 l1 (i+1):=it1.at fun o e=>e5.extBut _ _ D.TOi1.symm (e4.extBut _ _ D.i12 (e3.extBut _ _ D.TOi1.symm e))
 have it2':SeqIt k2 g5 i2 l2 (i+1):=it2.at fun o e=>e5.extBut _ _ D.TOi2.symm e
 have zlt:z<g5.objs.size:=Heap.lt_size z5
 change wpAny _ _ (Bind.bind (Builtin.SmallTypes.ownedTupleHandOut (.ref z) (.ref g5.objs.size)) _) _ _ _
 refine wpAny_bind ?_
 unfold Builtin.SmallTypes.ownedTupleHandOut
 have z6:IsZip (g5.push { cls := .type "tuple",data := .seq #[x,y] }) z TI TO .ellipsis:=Heap.get?_push_of_some _ z5
 refine wpAny_bind (wpAny_setField_rec z6 (by simp) fun g7 z7 e7 => ?_)
 have z7:IsZip g7 z TI TO (rawInt g5.objs.size):=z7
 refine wpAny_setField_rec z7 (by simp) fun g8 z8 e8=>wpAny_pure ⟨_,rfl,wpAny_pure ?_⟩
 have up:∀c o,c≠z→g5.get? c=some o→g8.get? c=some o:=fun c o c1 e=>e8.extBut _ _ c1 (e7.extBut _ _ c1 (Heap.get?_push_of_some _ e))
 have tp:IsPair g8 g5.objs.size x y:=e8.extBut _ _ (Nat.ne_of_gt zlt) (e7.extBut _ _ (Nat.ne_of_gt zlt) (Heap.get?_push_size _ rfl))
 have z8:IsZip g8 z TI TO (rawInt g5.objs.size):=z8
 show Q (some (.ref g5.objs.size)) _
 rw [hsz] at z8 tp ⊢
 exact q g8 z8 (up _ _ D.TOz to5) (it1'.at fun o e=>up _ o D.i1z e) (it2'.at fun o e=>up _ o D.i2z e) tp fun c o nc e=>up c o (fun q=>nc (.inl q)) (k5 c o nc e)
theorem zipk_stop {Q:Option Value→Shared→Prop} (hh:A.handled=none) (D:ZipApart z TI TO i1 i2 l1 l2) (st:ZipSt k1 k2 z TI TO i1 i2 l1 l2 i s.heap) (hl1:SeqOf k1 s.heap l1 xs) (hl2:SeqOf k2 s.heap l2 ys) (hend:xs[i]? = none∨ys[i]? = none)
  (q:∀h',Keeps s.heap h' (zipW z TO i1 i2)→Q none { s with heap:=h' }):wpAny (model prog w) A (pyNext (.ref z)) Q E s:=by
 obtain ⟨hz,hTI,⟨a,b,hTO⟩,h1,h2⟩:=st
 have hT:s.TypeIs (.ref z) "zip":=⟨_,hz,rfl⟩
 unfold pyNext
 refine wpAny_bind (wpAny_attempt (wpAny_callSpecial?_slot (name:=Str.ofString "__next__") hT F.slot_zip_next (wpAny_call_entry F.slot_zip_next hT F.entry_zip_next ?_ (F.args_zip_next_1 _))))
 change wpAny _ _ (Bind.bind (field (.ref z) 2) _) _ _ _
 refine wpAny_bind (wpAny_field hz rfl (x := .bool false) rfl ?_)
 change wpAny _ _ (Bind.bind (field (.ref z) 3) _) _ _ _
 refine wpAny_bind (wpAny_field hz rfl (x := .ref TI) rfl (wpAny_bind (wpAny_seqItems hTI rfl ?_)))
 change wpAny _ _ (Bind.bind (Builtin.SmallTypes.ownedTupleIsFree (.ref z)) _) _ _ _
 refine wpAny_bind ?_
 unfold Builtin.SmallTypes.ownedTupleIsFree
 refine wpAny_bind (wpAny_field hz rfl (x := .none) rfl (wpAny_pure ?_))
 simp only [if_true]
 refine wpAny_bind (wpAny_rule (wpAny_bind (wpAny_field hz rfl (x := .ref TO) rfl (wpAny_bind (wpAny_setField_rec hz (by simp) fun g1 z1 e1=>wpAny_bind ?_)))))
 have z1:IsZip g1 z TI TO .ellipsis:=z1
 simp only [List.zipIdx_cons,List.zipIdx_nil,List.forIn_cons,List.forIn_nil]
 refine wpAny_bind (wpAny_bind (wpAny_onRaise ?_))
 change wpAny _ _ (Bind.bind (Builtin.SmallTypes.nextOf (.ref i1)) _) _ _ _
 cases hx:xs[i]? with
 | none=>
  refine wpAny_bind (seq_stop hh (h1.at fun o e=>e1.extBut _ _ D.i1z e) (hl1.at fun o e=>e1.extBut _ _ D.l1z e) hx fun g2 e e2 oe => ?_)
  refine Elim.el (oe) _ ?_
  rintro o ho hc
  have z2:IsZip g2 z TI TO .ellipsis:=e2 _ _ D.i1z.symm z1
  have ez:e≠z:=fun q=>by subst q;rw [z2] at ho;cases ho;simp at hc
  refine wpAny_setField_rec z2 (by simp) fun g3 _ e3 => ?_
  refine wpAny_bind (wpAny_isInstance (T := "StopIteration") (b:=true) ⟨o,e3.extBut _ _ ez ho,hc⟩ isSubtype_stop (wpAny_pure (q g3 fun c o nc h => ?_)))
  exact e3.extBut _ _ (fun q=>nc (.inl q)) (e2 _ _ (fun q=>nc (.inr (.inr (.inl q)))) (e1.extBut _ _ (fun q=>nc (.inl q)) h))
 | some x=>
  have hy:ys[i]? = none:=hend.resolve_left (by rw [hx];exact fun z=>nomatch z)
  refine wpAny_bind (seq_next (h1.at fun o e=>e1.extBut _ _ D.i1z e) (hl1.at fun o e=>e1.extBut _ _ D.l1z e) hx fun g2 it1 e2=>wpAny_pure ?_)
  have to2:IsPair g2 TO a b:=e2.extBut _ _ D.TOi1 (e1.extBut _ _ D.TOz hTO)
  refine wpAny_bind (wpAny_seqItems to2 rfl (wpAny_bind (wpAny_updateSeq_pair to2 fun g3 to3 e3=>wpAny_bind (wpAny_letGo (wpAny_pure ?_)))))
  have k13:Keeps s.heap g3 (fun c=>c=z∨c=i1∨c=TO):=fun c o nc e=>e3.extBut _ _ (fun q=>nc (.inr (.inr q))) (e2.extBut _ _ (fun q=>nc (.inr (.inl q))) (e1.extBut _ _ (fun q=>nc (.inl q)) e))
  refine wpAny_bind (wpAny_bind (wpAny_onRaise ?_))
  change wpAny _ _ (Bind.bind (Builtin.SmallTypes.nextOf (.ref i2)) _) _ _ _
  refine wpAny_bind (seq_stop hh (h2.at fun o e=>k13 _ _ (fun q=>q.elim D.i2z fun q=>q.elim D.i12.symm D.TOi2.symm) e) (hl2.at fun o e=>k13 _ _ (fun q=>q.elim D.l2z fun q=>q.elim D.l2i1 D.l2TO) e) hy fun g4 e e4 oe => ?_)
  refine Elim.el (oe) _ ?_
  rintro o ho hc
  have z4:IsZip g4 z TI TO .ellipsis:=e4 _ _ D.i2z.symm (e3.extBut _ _ D.TOz.symm (e2.extBut _ _ D.i1z.symm z1))
  have ez:e≠z:=fun q=>by subst q;rw [z4] at ho;cases ho;simp at hc
  refine wpAny_setField_rec z4 (by simp) fun g5 _ e5 => ?_
  refine wpAny_bind (wpAny_isInstance (T := "StopIteration") (b:=true) ⟨o,e5.extBut _ _ ez ho,hc⟩ isSubtype_stop (wpAny_pure (q g5 fun c o nc h => ?_)))
  exact e5.extBut _ _ (fun q=>nc (.inl q)) (e4 _ _ (fun q=>nc (.inr (.inr (.inr q)))) (k13 c o (fun q=>q.elim (fun q=>nc (.inl q)) fun q=>q.elim (fun q=>nc (.inr (.inr (.inl q)))) fun q=>nc (.inr (.inl q))) h))
theorem seq_iter {k:Bool} {a:Addr} {its:Array Value} {Q:Value→Shared→Prop} (h:SeqOf k s.heap a its) (q:Q (.ref s.heap.objs.size) { s with heap:=s.heap.push { cls := .type (kIter k),data := .fields #[.ref a, .int 0 0] } }):wpAny (model prog w) A (pyIter (.ref a)) Q E s:=by
 cases k with
 | false=>exact wpAny_pyIter_list h q
 | true=>exact wpAny_pyIter_tuple h q
end
abbrev zpO (k:Bool) (a:Addr):Obj:={ cls := .type (kIter k),data := .fields #[.ref a, .int 0 0] }
abbrev zpH (k1 k2:Bool) (h:Heap) (a b:Addr):Heap:=((((h.push (zpO k1 a)).push (zpO k2 b)).push { cls := .type "tuple",data := .seq #[.ref h.objs.size, .ref (h.objs.size+1)] }).push { cls := .type "tuple",data := .seq #[.none, .none] }).push
 { cls := .type "zip",data := .fields #[.none, .bool false, .bool false, .ref (h.objs.size+2), .ref (h.objs.size+3)] }
theorem zipk_new (k1 k2:Bool) (a b:Addr) (xs ys:Array Value) :
  Meets (Builtin.«zip.__new__» ⟨[.type "zip", .ref a, .ref b],[]⟩) (fun _ R s=>SeqOf k1 s.heap a xs∧SeqOf k2 s.heap b ys∧R (.ok (.ret (.ref (s.heap.objs.size+4)))) { s with heap:=zpH k1 k2 s.heap a b }):=
 .of_wp fun prog w A R s h=>by
  obtain ⟨hp,g,d,tk,os⟩:=s;obtain ⟨hl1,hl2,h⟩:=h
  have hsub:=sub_zip
  have hL1:SeqOf k1 (Shared.heap ⟨hp,g,d,tk,os⟩) a xs:=hl1
  have hL2:SeqOf k2 (Shared.heap ⟨hp.push (zpO k1 a),g,d,tk,os⟩) b ys:=hl2.at fun o e=>Heap.get?_push_of_some _ e
  have s1:(hp.push (zpO k1 a)).objs.size=hp.objs.size+1:=Heap.size_push ..
  wp_walk using seq_iter hL1,seq_iter hL2
  refine ⟨_,rfl,?_⟩
  simp only [Heap.size_push] at h ⊢
  exact h
end L2
namespace L2
open PySem PySem.Spec PyProof.Rows
section
variable {prog:Program} {w:World} {A:Around} {E:Value→Shared→Prop} {s:Shared}
theorem call_zipk {k1 k2:Bool} {a b:Addr} {xs ys:Array Value} {Q:Value→Shared→Prop} (h1:SeqOf k1 s.heap a xs) (h2:SeqOf k2 s.heap b ys)
  (q:∀h',ZipSt k1 k2 (s.heap.objs.size+4) (s.heap.objs.size+2) (s.heap.objs.size+3) s.heap.objs.size (s.heap.objs.size+1) a b 0 h'→(∀c o,s.heap.get? c=some o→h'.get? c=some o)→Q (.ref (s.heap.objs.size+4)) { s with heap:=h' }) :
  wpAny (model prog w) A (call (.type "zip") [.ref a, .ref b]) Q E s:=by
 refine callType_new F.called_zip (by decide) (F.typeCall_zip_2 _ _) (F.newCall_zip_2 _ _) (fun obj=>F.args_object_init_3 obj _ _) F.entry_zip_new (zipk_new k1 k2 a b xs ys) ⟨h1,h2,?_⟩
 have up:∀{h:Heap} {c:Addr} {o:Obj} (p:Obj),h.get? c=some o→(h.push p).get? c=some o:=fun p e=>Heap.get?_push_of_some p e
 have last:∀{h:Heap} {n:Nat} {p:Obj},h.objs.size=n→p.isFreed=false→(h.push p).get? n=some p:=fun e hf=>by rw [←e];exact Heap.get?_push_size _ hf
 have z1:(s.heap.push (zpO k1 a)).objs.size=s.heap.objs.size+1:=Heap.size_push ..
 have z2:((s.heap.push (zpO k1 a)).push (zpO k2 b)).objs.size=s.heap.objs.size+2:=by rw [Heap.size_push,z1]
 have z3:(((s.heap.push (zpO k1 a)).push (zpO k2 b)).push { cls := .type "tuple",data := .seq #[.ref s.heap.objs.size, .ref (s.heap.objs.size+1)] }).objs.size=s.heap.objs.size+3:=by rw [Heap.size_push,z2]
 have z4:((((s.heap.push (zpO k1 a)).push (zpO k2 b)).push { cls := .type "tuple",data := .seq #[.ref s.heap.objs.size, .ref (s.heap.objs.size+1)] }).push { cls := .type "tuple",data := .seq #[.none, .none] }).objs.size=s.heap.objs.size+4:=by rw [Heap.size_push,z3]
 have st:ZipSt k1 k2 (s.heap.objs.size+4) (s.heap.objs.size+2) (s.heap.objs.size+3) s.heap.objs.size (s.heap.objs.size+1) a b 0 (zpH k1 k2 s.heap a b):=
  ⟨last z4 rfl,up _ (up _ (last z2 rfl)),⟨.none, .none,up _ (last z3 rfl)⟩,⟨_,up _ (up _ (up _ (up _ (last rfl rfl)))),rfl,rfl⟩,⟨_,up _ (up _ (up _ (last z1 rfl))),rfl,rfl⟩⟩
 have kp:∀c o,s.heap.get? c=some o→(zpH k1 k2 s.heap a b).get? c=some o:=fun c o e=>up _ (up _ (up _ (up _ (up _ e))))
 have ob:(zpH k1 k2 s.heap a b).get? (s.heap.objs.size+4)=some _:=st.zp
 exact ⟨⟨_,ob,rfl⟩,q _ st kp⟩
end
def SqK (k:Bool) (K:PySem.W.Frag) (H:Hp) (a:Addr) (xs:List V):Prop:=if k=true then SqT K H a xs else SqL K H a xs
theorem Inv.seqk {X:Cx} {pins:List (Addr×Obj)} {σ:St} {H:Hp} {s:Shared} {k:Bool} {a:Addr} {xs:List V} (I:Inv X pins σ H s) (h:SqK k X.K H a xs):∃its:List Value,Vals xs its∧SeqOf k s.heap a its.toArray∧xs.length≤sizeLine:=by
 cases k with
 | false=>
  obtain ⟨its,r,⟨o,n,e1,e2,_,e4⟩,z⟩:=I.list h
  exact ⟨its,r,⟨o,e1,e2,n,e4⟩,z⟩
 | true=>
  obtain ⟨its,r,⟨o,e1,e2,n,e4⟩,z⟩:=I.tuple h
  exact ⟨its,r,⟨o,e1,e2,n,e4⟩,z⟩
theorem Inv.seqk_inj {X:Cx} {pins:List (Addr×Obj)} {σ:St} {H:Hp} {s:Shared} {k:Bool} {a:Addr} {xs ys:List V} (I:Inv X pins σ H s) (h:SqK k X.K H a xs) (h':SqK k X.K H a ys):xs=ys:=by
 cases k with
 | false=>exact I.list_inj h h'
 | true=>exact I.tuple_inj h h'
def ItzK (K:PySem.W.Frag) (k1 k2:Bool) (a b:Addr):It:=
 ⟨fun i H=>Ex4 fun xs ys x y=>SqK k1 K H a xs∧SqK k2 K H b ys∧xs[i]? = some x∧ys[i]? = some y,
   fun i H v H'=>∃T,v = .ref T∧∀xs ys x y,SqK k1 K H a xs→SqK k2 K H b ys→xs[i]? = some x→ys[i]? = some y→New H T (.tup [x,y]) H',
   fun i H=>Ex2 fun xs ys=>SqK k1 K H a xs∧SqK k2 K H b ys∧(xs.length≤i∨ys.length≤i)⟩
theorem turn_zipk {P:Program} {w:World} {K:PySem.W.Frag} {elts:List Expr} {k:Nat} {tp:Pos} (k1 k2:Bool) (z TI TO i1 i2 l1 l2:Addr) (D:ZipApart z TI TO i1 i2 l1 l2) :
  Turn P w K (.Tuple elts k tp) (ItzK K k1 k2 l1 l2) [z,TI,TO,i1,i2] z (ZipSt k1 k2 z TI TO i1 i2 l1 l2) where
 mem:=by simp
 obj:=fun i h st b hb=>by
  obtain ⟨h1,h2,⟨_,_,h3⟩,⟨o4,h4,_,d4⟩,⟨o5,h5,_,d5⟩⟩:=st
  simp at hb
  rcases hb with rfl|rfl|rfl|rfl|rfl
  ·exact ⟨_,h1,fun _ z=>nomatch z⟩
  ·exact ⟨_,h2,fun _ z=>nomatch z⟩
  ·exact ⟨_,h3,fun _ z=>nomatch z⟩
  ·exact ⟨_,h4,fun v q=>by rw [d4] at q;cases q⟩
  ·exact ⟨_,h5,fun v q=>by rw [d5] at q;cases q⟩
 keep:=fun i h h' st hk=>by
  obtain ⟨h1,h2,⟨a,b,h3⟩,h4,h5⟩:=st
  exact ⟨hk z (by simp) _ h1,hk TI (by simp) _ h2,⟨a,b,hk TO (by simp) _ h3⟩,h4.at fun o e=>hk i1 (by simp) o e,h5.at fun o e=>hk i2 (by simp) o e⟩
 item:=fun X hP hw hK hc i pins s σ H E I hf st go=>by
  subst hP hw hK
  obtain ⟨xs,ys,x,y,q1,q2,e1,e2⟩:=go
  refine Elim.el (I.seqk q1) _ ?_
  rintro its1 r1 p1 _
  refine Elim.el (I.seqk q2) _ ?_
  rintro its2 r2 p2 _
  refine Elim.el (vals_get r1 e1) _ ?_
  rintro u1 g1 ru1
  refine Elim.el (vals_get r2 e2) _ ?_
  rintro u2 g2 ru2
  have hz:=st.zp
  have hTI:=st.ti
  refine zipk_item D st p1 p2 g1 g2 fun h' a1 a2 a3 a4 a5 a7=>⟨_,rfl,?_⟩
  refine wpAny_letOwnedTupleGo_zip a1 fun h'' b1 b2 => ?_
  have hTz:s.heap.objs.size≠z:=addr_ne' (Heap.lt_size hz) (Nat.le_refl _)
  have hf':∀c∈[z,TO,i1,i2],FpOk X pins H c:=fun c hc=>hf c (by simp at hc ⊢;rcases hc with q|q|q|q <;> simp [q])
  have kp:∀c o,c ∉ [z,TO,i1,i2]→s.heap.get? c=some o→h''.get? c=some o:=fun c o hc e=>by
   simp only [List.mem_cons,List.not_mem_nil,or_false] at hc
   exact b2.extBut c o (fun q=>hc (.inl q)) (a7 c o hc e)
  have I1:Inv X pins σ H { s with heap:=h'',toks:=s.toks }:=I.iter hf' kp
  have fT:FpOk X pins H s.heap.objs.size:=I.fpOk (Nat.le_refl _) (I.hok.fresh (Nat.le_refl _))
  have oT:h''.get? s.heap.objs.size=some { cls := .type "tuple",data := .seq #[u1,u2] }:=b2.extBut _ _ hTz a5
  have I2:=I1.adopt (T:=s.heap.objs.size) (o := .tup [x,y]) fT I.sz ⟨by show 2≤sizeLine;decide,[u1,u2], .cons ru1 (.cons ru2 .nil),⟨_,oT,rfl,_,rfl⟩⟩
  refine ⟨.ref s.heap.objs.size,_,I2,rfl,⟨_,rfl,fun xs' ys' x' y' q1' q2' e1' e2' => ?_⟩,⟨b1,b2.extBut _ _ D.TIz (a7 _ _ (fun q=>q.elim D.TIz fun q=>q.elim D.TITO fun q=>q.elim D.TIi1 D.TIi2) hTI),⟨_,_,b2.extBut _ _ D.TOz a2⟩,a3.at fun o e=>b2.extBut _ _ D.i1z e,a4.at fun o e=>b2.extBut _ _ D.i2z e⟩,fun c hc => ?_⟩
  ·rw [I.seqk_inj q1' q1] at e1'
   rw [I.seqk_inj q2' q2] at e2'
   rw [e1] at e1';rw [e2] at e2';cases e1';cases e2'
   exact ⟨fT.1,rfl⟩
  ·obtain ⟨_,_,⟨_,_,hTO⟩,h1,h2⟩:=st
   have hcs:c<s.heap.objs.size:=by
    simp at hc
    rcases hc with rfl|rfl|rfl|rfl|rfl
    ·exact Heap.lt_size hz
    ·exact Heap.lt_size hTI
    ·exact Heap.lt_size hTO
    ·exact h1.lt
    ·exact h2.lt
   rw [upd_ne (addr_ne hcs (Nat.le_refl _))]
   exact (hf c hc).1
 done:=fun X hP hw hK hc i pins s σ H E I hf st stop=>by
  subst hP hw hK
  obtain ⟨xs,ys,q1,q2,e⟩:=stop
  refine Elim.el (I.seqk q1) _ ?_
  rintro its1 r1 p1 _
  refine Elim.el (I.seqk q2) _ ?_
  rintro its2 r2 p2 _
  have l1':=r1.length
  have l2':=r2.length
  refine zipk_stop (I.ok.hd hc) D st p1 p2 ?_ fun h' kp=>⟨rfl,?_⟩
  ·rcases e with e|e
   ·exact .inl (by simp; (first|lia|omega))
   ·exact .inr (by simp; (first|lia|omega))
  ·refine I.iter (ch:=[z,TO,i1,i2]) (t':=s.toks) (fun c hc=>hf c (by simp at hc ⊢;rcases hc with q|q|q|q <;> simp [q])) fun c o hc e => ?_
   simp only [List.mem_cons,List.not_mem_nil,or_false] at hc
   exact kp c o hc e
 self:=fun A i s Q E st hQ=>wpAny_pyIter_zip st.zp hQ
section
variable {X:Cx}
def iZipK (K:PySem.W.Frag) (ta:TA):TI:=fun σ H R=>ta σ H fun vs H1=>Ex4 fun k1 k2 a b=>vs=[.ref a, .ref b]∧(∃xs,SqK k1 K H1 a xs)∧(∃ys,SqK k2 K H1 b ys)∧R (ItzK K k1 k2 a b) H1
theorem pi_zipK (K:PySem.W.Frag) {elts:List Expr} {k:Nat} {tp:Pos} {a b:Expr} {ta:TA} {p pos:Pos} (hg:Gl X "zip") (hm:X.mg "zip" = none) (ha:PA X [a,b] ta) (hb:bootBuiltins "zip" = some (.type "zip"):=by first|rfl|decide)
  (hs:starEach [a,b] X.env=[(false,eval a X.env),(false,eval b X.env)]:=by rfl) (hs2:starEach [b] X.env=[(false,eval b X.env)]:=by rfl) (hK:X.K=K:=by rfl) :
  PI X (.Tuple elts k tp) (.Call (.Name "zip" p) [a,b] [] pos) (iZipK K ta):=by
 subst hK
 intro pins s σ H R I h
 refine Call_ (ld_blt I hg hm hb (PyProof.Rows.callWith_type1 (thn (ha s σ H _ I h) fun us s1 ⟨vs,H1,I1,r1,q1⟩ => ?_) (by rw [hs,hs2]) (by rw [hs2];rfl)))
 obtain ⟨k1,k2,l1,l2,e,⟨xs,q1⟩,⟨ys,q2⟩,q⟩:=q1
 subst e
 refine Elim.el (vals2 r1) _ ?_
 rintro u w' rfl r1 r2
 cases r1;cases r2
 refine Elim.el (I1.seqk q1) _ ?_
 rintro its1 rv1 p1 _
 refine Elim.el (I1.seqk q2) _ ?_
 rintro its2 rv2 p2 _
 refine call_zipk p1 p2 fun h' st hk=>wpAny_pyIter_zip st.zp ?_
 have I2:Inv X pins σ H1 { s1 with heap:=h' }:=I1.kept (t':=s1.toks) hk
 refine ⟨_,_,_,_,H1,rfl,I2,turn_zipk k1 k2 _ _ _ _ _ _ _ (zipApart_new p1.lt p2.lt),st,fun c hc => ?_,q⟩
 have hcs:s1.heap.objs.size≤c:=by
  simp at hc
  rcases hc with rfl|rfl|rfl|rfl|rfl
  ·exact Nat.le_add_right _ _
  ·exact Nat.le_add_right _ _
  ·exact Nat.le_add_right _ _
  ·exact Nat.le_refl _
  ·exact Nat.le_add_right _ _
 exact I1.fpOk hcs (I1.hok.fresh hcs)
end
end L2
namespace L2
open PySem PySem.Spec PyProof.Rows
section
variable {X:Cx}
theorem Vals.mid {xs:List V} {us:List Value} {y:V} {u:Value} (r:Vals xs us) (ry:RelV y u) (k:Nat):Vals (xs.take k++y :: xs.drop k) (us.take k++u :: us.drop k):=(r.take k).append (.cons ry (r.drop k))
theorem insertN:MtM X "list.insert" (fun x vs H Q=>∃l xs i y,x = .ref l∧vs=[.int i,y]∧H l=some (.lst xs)∧0≤i∧i≤(xs.length:Int)∧xs.length<sizeLine∧∀H',Chg H l (.lst (xs.take i.toNat++y :: xs.drop i.toNat)) H'→Q .non H'):=by
 intro pins s σ H x vs v us Q I rx rv h
 obtain ⟨l,xs,i,y,rfl,rfl,hH,h0,h1,hz,q⟩:=h
 cases rx
 obtain ⟨w1,w2,rfl,ri,ry⟩:=vals2 rv
 obtain ⟨t,rfl⟩:=ri
 obtain ⟨z,its,n,r,hl,e⟩:=I.lstM hH
 have hfit:¬((!Builtin.List.listFitsIndex i)=true):=by
  have hsl:sizeLine<2 ^ 62:=by decide
  simp only [Builtin.List.listFitsIndex,Bool.not_eq_true',Bool.not_eq_false]
  simp
  (first|lia|omega)
 refine call_meets F.slot_list_insert ⟨_,e,rfl⟩ F.entry_list_insert (F.args_list_insert_3 _ _ _) (AutoListH.list_insert_list_int_val_1 l its.toArray n i t w2 hfit (by rw [List.size_toArray]; (first|lia|omega))) ⟨e,?_⟩
 refine ⟨.non,_,I.lset (its':=its.take i.toNat++w2 :: its.drop i.toNat) hH e ?_ (r.mid ry i.toNat) ?_,rfl,q _ ⟨rfl⟩⟩
 ·rw [if_neg (by first|lia|omega)]
  have:min i.toNat its.toArray.size=i.toNat:=by rw [List.size_toArray]; (first|lia|omega)
  rw [this]
  apply Array.toList_inj.mp
  simp
  rw [List.take_of_length_le (by simp)]
 ·rw [List.length_append,List.length_cons,List.length_take,List.length_drop]; (first|lia|omega)
end
section
variable {X:Cx} {tg:Expr}
end
theorem range_rev (n:Nat):sliceRange (sliceBounds none none (some (-1)) n).1 (sliceBounds none none (some (-1)) n).2.1 (sliceBounds none none (some (-1)) n).2.2=(List.range n).map fun k=>n-1-k:=by
 have e:=PyProof.Rows.picked_rev n
 rw [←e]
 rfl
theorem fm_map {α β:Type} {f : α→Option β} {g : α → β} : ∀{l:List α},(∀k∈l,f k=some (g k))→l.filterMap f=l.map g
 | [],_=>rfl
 | a :: l,h=>by
  rw [List.filterMap_cons_some (h a List.mem_cons_self),List.map_cons,fm_map fun k hk=>h k (List.mem_cons_of_mem _ hk)]
theorem pick_rev (its:List Value):slicePick its.toArray none none (some (-1))=its.reverse.toArray:=by
 unfold slicePick
 rw [range_rev,List.size_toArray]
 congr 1
 apply List.ext_getElem?
 intro i
 rw [List.filterMap_map]
 have hm:∀k∈List.range its.length,((fun x=>its.toArray[x]?) ∘ fun k=>its.length-1-k) k=some (its.reverse.getD k .none):=fun k hk=>by
  have hk:=List.mem_range.mp hk
  simp only [Function.comp]
  rw [List.getD_eq_getElem?_getD,List.getElem?_reverse (by omega)]
  rw [List.getElem?_toArray,List.getElem?_eq_getElem (by omega)]
  rfl
 have e2:(List.range its.length).filterMap ((fun x=>its.toArray[x]?) ∘ fun k=>its.length-1-k)=(List.range its.length).map fun k=>its.reverse.getD k .none:=by
  exact fm_map hm
 rw [e2,List.getElem?_map]
 by_cases hi:i<its.length
 ·rw [List.getElem?_range hi,List.getElem?_eq_getElem (by simpa using hi)]
  simp [List.getD,hi]
 ·rw [List.getElem?_eq_none (by simp; (first|lia|omega)),List.getElem?_eq_none (by simp; (first|lia|omega))]
  rfl
section
variable {X:Cx} {e:Expr} {te:TE} {pos p2 p3 p4:Pos} {j:Nat}
def tRev (K:PySem.W.Frag) (te:TE):TE:=fun σ H Q=>te σ H fun x H1=>Ex2 fun a xs=>x = .ref a∧SqL K H1 a xs∧∀p H',New H1 p (.lst xs.reverse) H'→Q (.ref p) H'
theorem Vals.rev:∀{xs:List V} {us:List Value},Vals xs us→Vals xs.reverse us.reverse
 | _,_, .nil => .nil
 | _,_, .cons r t=>by
  rw [List.reverse_cons,List.reverse_cons]
  exact (Vals.rev t).append (.cons r .nil)
theorem pe_rev (K:PySem.W.Frag) (he:PE X e te) (hK:X.K=K:=by rfl):PE X (.Subscript e (.Slice none none (some (.UnaryOp .USub (.Constant (.int 1) j p4) p3)) p2) pos) (tRev K te):=by
 subst hK
 intro pins s σ H Q I h
 refine Subscript_ (thn (he s σ H _ I h) fun v s1 ⟨x,H1,I1,r1,q1⟩ => ?_)
 obtain ⟨a,xs,rfl,hx,q⟩:=q1
 cases r1
 refine wpAny_Slice ?_
 rw [evalPart_none]
 refine wpAny_pure ?_
 refine wpAny_pure ?_
 have hs:PE X (.UnaryOp .USub (.Constant (.int 1) j p4) p3) (tUn (rU fun i => .int (-i)) (tC (.int 1))):=pe_un un_neg pe_int
 have hp:=po_some hs s1 σ H1 (fun o H2=>o=some (-1)∧H2=H1) I1 ⟨1,rfl, -1,rfl,rfl,rfl⟩
 refine thn hp fun vs s3 ⟨o,H3,I3,ps,eo,eh⟩ => ?_
 subst eo eh
 have I4:Inv X pins σ H3 { s3 with heap:=s3.heap.push { cls := .type "slice",data := .fields #[.none, .none,vs] } }:=I3.kept (t':=s3.toks) fun b ob q=>Heap.get?_push_of_some _ q
 obtain ⟨its,r,ht,hz⟩:=I4.list hx
 have hlen:=r.length
 refine tail_any (ops:=[.ref a, .ref s3.heap.objs.size]) ht.isList.typeIs slot_list_getitem.lookup ?_ (by with_unfolding_all rfl)
 refine wpAny_getItem_list_slice (st:=some (-1)) ht.isList (Heap.IsSliceOf.new ..) .none .none ps (by decide) ?_ (by rw [List.size_toArray]; (first|lia|omega))
 rw [pick_rev]
 refine ⟨.ref _,_,I4.laid (t':=s3.toks) (o := .lst xs.reverse) (fun b ob q=>Heap.get?_push_of_some _ q) (Nat.le_refl _) ?_,rfl,q _ _ ⟨I4.hok.fresh (Nat.le_refl _),rfl⟩⟩
 exact ⟨by rw [List.length_reverse];exact hz,_,0,r.rev,Heap.get?_push_size _ rfl⟩
end
end L2
namespace L2
open PySem PySem.Spec PyProof.Rows
section
variable {prog:Program} {w:World} {A:Around} {R:Result→Shared→Prop} {I S:Addr} {fp wr:List Addr} {n:Nat} {P:Nat→Value→Prop} {St:Nat→Heap→Prop}
end
section
variable {X:Cx} (K:PySem.W.Frag)
end
end L2
namespace L2
open PySem
section
variable {X:Cx} (K:PySem.W.Frag)
theorem enumK {elts:List Expr} {k:Nat} {tp:Pos} {a:Expr} {ta:TA} {p pos:Pos} (hg:Gl X "enumerate") (hm:X.mg "enumerate" = none) (ha:PA X [a] ta) (hb:bootBuiltins "enumerate" = some (.type "enumerate"):=by first|rfl|decide) (hs:starEach [a] X.env=[(false,eval a X.env)]:=by rfl) (hK:X.K=K:=by rfl) :
  PI X (.Tuple elts k tp) (.Call (.Name "enumerate" p) [a] [] pos) (iEnum K ta):=by subst hK;exact pi_enum hg hm ha hb hs
end
end L2
namespace L2
open PySem PySem.Spec PyProof.Rows
section
variable {prog:Program} {w:World} {A:Around} {R:Result→Shared→Prop} {s:Shared}
theorem dcomp_turns {kx vx target iter:Expr} {ifs:List Expr} {scope:Scope} {pos:Pos} {it:Value} {D:Addr} {env:Env} (I:Nat→Shared→Prop)
  (turn:∀n s,I n s→wpAny (model prog w) A (pyNext it) (fun r s1=>match r with
   | none=>R (.ok .next) s1
   | some v=>wpAny (model prog w) A (letOwnedTupleGo target it v) (fun _ s1'=>wpAny (model prog w) A (assign target env v) (fun _ s2=>
     wpAny (model prog w) A (testsOf ifs env) (fun ok s3=>
      if ok=true then wpAny (model prog w) A (eval kx env) (fun kv s4=>wpAny (model prog w) A (eval vx env) (fun vv s5=>
       wpAny (model prog w) A (dictSet D kv vv) (fun _ s6=>∃m,m<n∧I m s6) noE s5) noE s4) noE s3
      else ∃m,m<n∧I m s3) noE s2) noE s1') noE s1) noE s)
  (n:Nat) (h:I n s):codeAny (model prog w) A (.compLoop (.DictComp kx vx [⟨target,iter,ifs,0⟩] scope pos) 0 it (.ref D) env) R s:=by
 refine codeAny_loop rfl I (fun n s hI=>(show wpAny _ A (Sem.onRaise (compTurn (.DictComp kx vx [⟨target,iter,ifs,0⟩] scope pos) 0 it (.ref D) env) (fun x=>do noteFrame x env;theTreesLotGoes x)) _ _ s from wpAny_noted ?_)) n h
 rw [compTurn_dict]
 refine wpAny_bind (wpAny_standAt (wpAny_bind (noE_to (thn (turn n s hI) fun r s1 h1 => ?_))))
 cases r with
 | none=>exact wpAny_pure h1
 | some v=>
  refine wpAny_bind (noE_to (thn h1 fun _ s1' h1' => ?_))
  refine wpAny_bind (noE_to (thn h1' fun _ s2 h2=>wpAny_bind (noE_to (thn h2 fun ok s3 h3 => ?_))))
  cases ok with
  | false=>exact wpAny_pure ⟨rfl,h3⟩
  | true=>
   exact wpAny_bind (wpAny_bind (noE_to (thn h3 fun kv s4 h4=>wpAny_bind (wpAny_holding (noE_to (thn h4 fun vv s5 h5=>wpAny_bind (wpAny_standAt (wpAny_holding (noE_to (thn h5 fun _ s6 h6=>wpAny_pure ⟨rfl,h6⟩))))))))))
end
section
variable {X:Cx} {pins:List (Addr×Obj)} {σ:St} {H:Hp} {s:Shared} {a:Addr} {y v:V} {u r:Value} {A:Around} {E:Value→Shared→Prop}
theorem d_dictSet {kvs:List (Key×V)} {k:Key} {Q:Unit→Shared→Prop} (I:Inv X pins σ H s) (e:H a=some (.dK kvs)) (l:kvs.length<sizeLine) (ry:RelV (kV k) u) (rv:RelV v r)
  (h:∀s',Inv X pins σ (upd H a (.dK (putK kvs k v))) s'→Q () s'):wpAny (model X.prog X.w) A (dictSet a u r) Q E s:=by
 refine Elim.el (dk_of I.hok e) _ ?_
 rintro z hd vs rel dd
 have hz:vs.length≤sizeLine:=by rw [←rel.length];exact z
 have hl:(putK kvs k v).length≤sizeLine:=by have:=length_putK kvs k v; (first|lia|omega)
 refine wpAny_dictSet_pairs (hsz:=hz) (kV_is ry) dd fun h' dd' hs=>h _ ?_
 have he:∃q,h'.get? a=some q:=let ⟨q,_,_,hq,_⟩:=dd'; ⟨q,hq⟩
 exact d_write I (by rw [e];exact True.intro) hs he (dk_new hl hd (rel.put k rv) dd')
end
section
variable {X:Cx} {pins:List (Addr×Obj)} {σ:St} {H:Hp} {s:Shared} {scope:Scope} {Nc Fc:List Str} {js:List Nat} {cl:List (Str×Addr)} {C:Addr} {fp:List Addr}
theorem cxC_inv0 (I:Inv X pins σ H s) (c:CompOk X scope Nc Fc js) (hsub:∀n c,cl.lookup n=some c→X.env.cells.lookup n=some c) (hhas:∀y∈scope.names,y.2 = .free→∃c,cl.lookup y.1=some c)
  (hC:s.heap.objs.size≤C) (hf:∀b∈fp,FpOk X pins H b) (ho:∀b∈fp,∃o,s.heap.get? b=some o) {h1:Heap} {t1:Nat} {m:Str→Option Value}
  (hk:∀b o,s.heap.get? b=some o→h1.get? b=some o) (hm:h1.Ns C m) :
  Inv (cxC X Nc Fc scope cl C s H fp) [] (List.replicate Nc.length none++cvals σ js) H { s with heap:=h1,toks:=t1 }:=by
 refine ⟨cxC_ok I c hsub hhas hC hf ho,rfl,I.bare,Un.kept hk,⟨m,hm,fun i x v e1 e2 e3 => ?_⟩,fun x a e => ?_,I.hok.fresh hC,fun x a e=>I.freeC x a (hsub x a e),fun p hp => ?_,I.hok.kept hk,?_⟩
 ·have e1:(Nc++Fc)[i]? = some x:=e1
  have e2:(List.replicate Nc.length none++cvals σ js)[i]? = some (some v):=e2
  by_cases hi:i<Nc.length
  ·rw [List.getElem?_append_left (by simpa using hi),List.getElem?_replicate] at e2
   split at e2 <;> cases e2
  ·rw [List.getElem?_append_right (by first|lia|omega)] at e1
   rw [List.getElem?_append_right (by rw [List.length_replicate]; (first|lia|omega)),List.length_replicate] at e2
   refine Elim.el (c.frees _ _ e1) _ ?_
   rintro hfr j hj hN
   have hv : σ[j]? = some (some v):=by
    unfold cvals at e2
    rw [List.getElem?_map,hj] at e2
    have e2:some ((σ[j]?).join)=some (some v):=e2
    cases q : σ[j]? with
    | none=>rw [q] at e2;cases e2
    | some z=>rw [q] at e2;cases e2;rfl
   have kx:=c.free _ (mem_of_lookup' hfr) rfl
   refine Elim.el (I.loc) _ ?_
   rintro m0 hn0 hl0
   have vis:Vis X.env.scope x:=by
    rcases kx with k|k
    ·exact .inr (.inl k)
    ·exact .inr (.inr k)
   refine Elim.el (hl0 j x v hN hv vis) _ ?_
   rintro u ru lk
   refine ⟨u,ru, .inr ⟨?_,?_⟩⟩
   ·rw [cxC_kind];exact relabel_of_free hfr
   ·obtain ⟨a,ha⟩:=hhas _ (mem_of_lookup' hfr) rfl
    refine ⟨a,ha,?_⟩
    rcases lk with ⟨k,_⟩|⟨_,a',ha',hcell⟩
    ·rcases kx with q|q <;> (rw [k] at q;cases q)
    ·have e:=hsub _ _ ha
     dsimp only at e
     rw [ha'] at e;cases e
     exact hcell.keeps hk
 ·obtain ⟨v,z⟩:=I.cell x a (hsub x a e)
  exact ⟨v,z.keeps hk⟩
 ·have hp:p∈([]:List (Addr×Obj)):=hp
  cases hp
 ·show (List.replicate Nc.length none++cvals σ js).length=(Nc++Fc).length
  unfold cvals
  rw [List.length_append,List.length_append,List.length_replicate,List.length_map,c.lens]
end
def CompD (J:It) (n:Nat) (js:List Nat) (g:TG) (tc:TT) (tk tv:TE) (σ:St) (D:Addr) (H1:Hp) (fin:Hp→Prop):Prop:=
 ∃W:Nat→Nat→Hp→Prop,(∃m,W 0 m H1)∧∀i m H,W i m H →
  (J.stop i H∧fin H) ∨
  (J.go i H∧∀x H',J.yld i H x H'→g x (List.replicate n none++cvals σ js) H' fun σ2 H2=>tc σ2 H2 fun b H3=>
   if b=true then tk σ2 H3 fun y H4=>tv σ2 H4 fun z H5=>Ex2 fun kvs k=>H5 D=some (.dK kvs)∧y=kV k∧kvs.length<sizeLine∧∃m',m'<m∧W (i+1) m' (upd H5 D (.dK (putK kvs k z))) else ∃m',m'<m∧W (i+1) m' H3)
def tDComp (wi:TI) (n:Nat) (js:List Nat) (g:TG) (tc:TT) (tk tv:TE):TE:=fun σ H Q=>wi σ H fun J H1=>∀D,H1 D=none→CompD J n js g tc tk tv σ D (upd H1 D (.dK [])) fun H2=>Q (.ref D) H2
theorem dcomp_core {X:Cx} {kx vx tg iter:Expr} {ifs:List Expr} {scope:Scope} {pos:Pos} {Nc Fc:List Str} {js:List Nat} {wi:TI} {g:TG} {tc:TT} {tk tv:TE} {use:Option (Value→Sem Unit)} {QV:Value→Shared→Prop}
  (hcalm:X.calm=true) (c:CompOk X scope Nc Fc js) (hi:PI X tg iter wi)
  (hg:∀cl C s H fp,PG (cxC X Nc Fc scope cl C s H fp) tg g) (htc:∀cl C s H fp,PTs (cxC X Nc Fc scope cl C s H fp) ifs tc) (htk:∀cl C s H fp,PE (cxC X Nc Fc scope cl C s H fp) kx tk) (htv:∀cl C s H fp,PE (cxC X Nc Fc scope cl C s H fp) vx tv) (gk:Gk Nc.length g)
  {pins:List (Addr×Obj)} {s:Shared} {σ:St} {H:Hp} {fin:Addr→Hp→Prop} (I:Inv X pins σ H s)
  (h:wi σ H fun J H1=>∀D,H1 D=none→CompD J Nc.length js g tc tk tv σ D (upd H1 D (.dK [])) (fin D))
  (behind:∀(C D:Addr) (m:Str→Option Value) (H2:Hp) (s2:Shared),Inv X pins σ H2 s2→s2.heap.Ns C m→FpOk X pins H2 C→fin D H2→compPost (model X.prog X.w) X.A X.xe use QV (.ref D) C (.ok .next) s2)
  (hs:∀x,foldedSetIterable iter X.env x=pure x) :
  wpAny (model X.prog X.w) X.A (comprehension (.DictComp kx vx [⟨tg,iter,ifs,0⟩] scope pos) scope X.env (firstIterPos [⟨tg,iter,ifs,0⟩] pos) newDict false (eval iter X.env) use) QV X.xe s:=by
 obtain ⟨cl,hclos,hsub,hhas⟩:=closure_of (scope:=scope) (env:=X.env) fun y hy hf=>I.ok.has y.1 (c.free y hy hf)
 refine wpAny_comprehension_free (use:=use) rfl hs hclos c.kind c.names ?_
 refine thn (hi s σ H _ I h) fun v s1 h1=>thn h1 fun itv s2 h2 => ?_
 obtain ⟨it,fp,tn,J,H2,e,I2,T,st2,f2,all⟩:=h2
 subst e
 refine wpAny_newObj_type (wpAny_newFunctionEnv c.nocell (by intro y hy;simp at hy) (fun h1 hns1 hsb1 => ?_) c.kind)
 dsimp only at hns1 hsb1 ⊢
 have hDn:H2 s2.heap.objs.size=none:=I2.hok.fresh (Nat.le_refl _)
 have I2':=I2.laid (a:=s2.heap.objs.size) (o := .dK []) (h':=s2.heap.push { cls := .type "dict",data := .dict #[] }) (t':=s2.toks) (fun _ _ q=>Heap.get?_push_of_some _ q) (Nat.le_refl _) (dk_empty s2.heap I2.big)
 obtain ⟨W,⟨m0,w0⟩,turn⟩:=all _ hDn
 have fo2:∀b∈fp,∃o,s2.heap.get? b=some o:=fun b hb=>let ⟨o,e,_⟩:=T.obj 0 _ st2 b hb; ⟨o,e⟩
 have hDfp:∀b∈fp,b<s2.heap.objs.size:=fun b hb=>let ⟨o,e⟩:=fo2 b hb;Heap.lt_size e
 generalize hG:s2.heap.push { cls := .type "dict",dict:=none,data := .dict #[] } = G at hns1 hsb1 I2' ⊢
 have toG:∀b o,s2.heap.get? b=some o→G.get? b=some o:=fun b o e=>hG ▸ Heap.get?_push_of_some _ e
 have hC:G.objs.size=s2.heap.objs.size+1:=by rw [←hG,Heap.size_push]
 have old:∀b o,G.get? b=some o→h1.get? b=some o:=fun b o e=>
  hsb1.extBut b o (addr_ne (Heap.lt_size e) (Nat.le_refl _)) (Heap.get?_push_of_some _ e)
 let D:Addr:=s2.heap.objs.size
 let s2':Shared:={ s2 with heap:=G,toks:=s2.toks }
 let H2':Hp:=upd H2 D (.dK [])
 have f2':∀b∈fp,FpOk X pins H2' b:=fun b hb=>by
  obtain ⟨a1,a2⟩:=f2 b hb
  refine ⟨?_,a2⟩
  show upd H2 D (.dK []) b=none
  rw [upd_ne (Nat.ne_of_lt (hDfp b hb))];exact a1
 have fo:∀b∈fp,∃o,s2'.heap.get? b=some o:=fun b hb=>let ⟨o,e⟩:=fo2 b hb; ⟨o,toG b o e⟩
 have hfG:∀b∈fp,b<G.objs.size:=fun b hb=>by have:=hDfp b hb;rw [hC];exact Nat.lt_succ_of_lt this
 let Xc:Cx:=cxC X Nc Fc scope cl G.objs.size s2' H2' fp
 have stat:∀{H':Hp},(∀b∈fp,H' b=none)→∀b∈fp,FpOk Xc [] H' b:=fun {H'} hn b hb=>by
  refine ⟨hn b hb,?_,?_, .inl hb,fun x a e => ?_,fun p hq => ?_⟩
  ·exact addr_ne (hfG b hb) (Nat.le_refl _)
  ·exact (cxC_ok I2' c hsub hhas (Nat.le_refl _) f2' fo).exfs b hb
  ·exact (f2 b hb).2.2.2.2.1 x a (hsub _ _ e)
  ·have q:p∈([]:List (Addr×Obj))++[]:=hq
   simp at q
 have loop:∀t1,codeAny (model X.prog X.w) X.A (.compLoop (.DictComp kx vx [⟨tg,iter,ifs,0⟩] scope pos) 0 (.ref it) (.ref s2.heap.objs.size) (compEnvC scope cl G.objs.size X.env))
   (compPost (model X.prog X.w) X.A X.xe use QV (.ref s2.heap.objs.size) G.objs.size) { s2 with heap:=h1,toks:=t1 }:=by
  intro t1
  refine dcomp_turns (fun n s'=>∃i H',Inv Xc [] (List.replicate Nc.length none++cvals σ js) H' s'∧tn i s'.heap∧(∀b∈fp,H' b=none)∧W i n H') ?_ m0
   ⟨0,H2',cxC_inv0 I2' c hsub hhas (Nat.le_refl _) f2' fo old hns1,T.keep _ _ _ st2 (fun b hb o e=>old b o (toG b o e)),fun b hb=>(f2' b hb).1,w0⟩
  intro n s3 hz_
  refine Elim.el hz_ _ ?_
  clear hz_
  rintro i H3 I3 st3 fr3 w3
  rcases turn i n H3 w3 with ⟨stop,qn⟩|⟨go,step⟩
  ·refine thn (T.done Xc rfl rfl rfl hcalm i _ s3 _ H3 noE I3 (stat fr3) st3 stop) fun r s4 ⟨hr,I4⟩ => ?_
   subst hr
   show compPost _ _ _ _ _ _ _ _ _
   refine Elim.el (I4.loc) _ ?_
   rintro mC hmC _
   have hCn:H3 G.objs.size=none:=I4.free
   have u:Un (frs X.stack) fp H2' H3 G s4.heap:=I4.base
   have hch:∀b∈fp,(b∈X.ex∨X.s₀.heap.objs.size≤b)∧b≠X.env.locals∧(∀x c,X.env.cells.lookup x=some c→c≠b)∧∀p∈X.pn++pins,p.1≠b:=fun b hb=>
    ⟨(f2 b hb).2.2.2.1,(f2 b hb).2.1,(f2 b hb).2.2.2.2.1,(f2 b hb).2.2.2.2.2⟩
   have os4:s4.os=s2'.os:=I4.os
   have J4:Inv X pins σ H3 s4:=I2'.call' (H':=H3) os4 u I4.hok I4.bare hch
   exact behind G.objs.size D mC H3 s4 J4 hmC (I2'.fpOk (Nat.le_refl _) hCn) qn
  ·refine thn (T.item Xc rfl rfl rfl hcalm i _ s3 _ H3 noE I3 (stat fr3) st3 go) fun r s4 ⟨u,hr,h4⟩ => ?_
   subst hr
   show wpAny _ _ (letOwnedTupleGo tg (.ref it) u) _ _ _
   refine thn h4 fun _ s5 ⟨x,H5,I5,r5,y5,st5,fr5⟩ => ?_
   have I5':=I5.pinned (stat fr5) (T.obj _ _ st5)
   refine thn (hg cl G.objs.size s2' H2' fp s5 _ H5 x u _ I5' r5 (gk _ _ _ _ (step x H5 y5))) fun _ s6 ⟨σ6,H6,I6,q6,kσ,kl⟩ => ?_
   refine thn (htc cl G.objs.size s2' H2' fp s6 σ6 H6 _ I6 q6) fun b s7 ⟨H7,I7,q7⟩ => ?_
   have later:∀{σ':St} {H':Hp} {s':Shared},Inv Xc ([]++pinsAt fp s5.heap) σ' H' s'→tn (i+1) s'.heap∧∀b∈fp,H' b=none:=fun {σ' H' s'} Iz=>by
    refine ⟨T.keep _ _ _ st5 fun b hb o e=>(Iz.pin (b,o) (List.mem_append_right _ (List.mem_append_right _ (mem_pinsAt hb e)))).1,fun b hb => ?_⟩
    refine Elim.el (T.obj _ _ st5 b hb) _ ?_
    rintro o e d
    exact (Iz.pin (b,o) (List.mem_append_right _ (List.mem_append_right _ (mem_pinsAt hb e)))).2.1
   have back:∀{pl:List (Addr×Obj)} {H':Hp} {s':Shared},Inv Xc pl σ6 H' s'→Inv Xc pl (List.replicate Nc.length none++cvals σ js) H' s':=fun {pl H' s'} Iz=>by
    refine Iz.weak (by rw [←kl]) fun j v hj => ?_
    by_cases hn:j<Nc.length
    ·rw [List.getElem?_append_left (by simpa using hn),List.getElem?_replicate] at hj
     split at hj <;> cases hj
    ·rw [kσ j (by first|lia|omega)];exact hj
   cases b with
   | false=>
    rw [if_neg Bool.false_ne_true] at q7 ⊢
    refine Elim.el (q7) _ ?_
    rintro m' hm' w7
    obtain ⟨l1,l2⟩:=later I7
    exact ⟨m',hm',i+1,H7,back I7.unpinned,l1,l2,w7⟩
   | true=>
    rw [if_pos rfl] at q7 ⊢
    refine thn (htk cl G.objs.size s2' H2' fp s7 σ6 H7 _ I7 q7) fun yv s8 ⟨y,H8,I8,r8,q8⟩ => ?_
    refine thn (htv cl G.objs.size s2' H2' fp s8 σ6 H8 _ I8 q8) fun zv s9 ⟨z,H9,I9,r9,q9⟩ => ?_
    refine Elim.el (q9) _ ?_
    rintro kvs k eD ey hl m' hm' w9
    subst ey
    refine d_dictSet (X:=Xc) I9 eD hl r8 r9 fun s10 I10 => ?_
    obtain ⟨l1,l2⟩:=later I10
    exact ⟨m',hm',i+1,_,back I10.unpinned,l1,l2,w9⟩
 exact codeAny_compStart_dict (loop _) (T.self _ 0 _ _ _ (T.keep _ _ _ st2 fun b hb o e=>old b o (toG b o e)) (loop _))
theorem pe_dcomp {X:Cx} {kx vx tg iter:Expr} {ifs:List Expr} {scope:Scope} {pos:Pos} {Nc Fc:List Str} {js:List Nat} {wi:TI} {g:TG} {tc:TT} {tk tv:TE}
  (hcalm:X.calm=true) (c:CompOk X scope Nc Fc js) (hi:PI X tg iter wi) (gk:Gk Nc.length g)
  (hg:∀cl C s H fp,PG (cxC X Nc Fc scope cl C s H fp) tg g) (htc:∀cl C s H fp,PTs (cxC X Nc Fc scope cl C s H fp) ifs tc) (htk:∀cl C s H fp,PE (cxC X Nc Fc scope cl C s H fp) kx tk) (htv:∀cl C s H fp,PE (cxC X Nc Fc scope cl C s H fp) vx tv)
  (hs:∀x,foldedSetIterable iter X.env x=pure x:=by intro _;rfl) :
  PE X (.DictComp kx vx [⟨tg,iter,ifs,0⟩] scope pos) (tDComp wi Nc.length js g tc tk tv):=by
 intro pins s σ H Q I h
 rw [arm_eval_DictComp]
 refine dcomp_core (use:=none) (fin:=fun D H2=>Q (.ref D) H2) hcalm c hi hg htc htk htv gk I h (fun C D m H2 s2 I2 hm hC q => ?_) hs
 refine ⟨m,hm,fun h' hs' => ?_⟩
 exact ⟨.ref D,_,I2.turned (it:=C) (t':=s2.toks) (fun b o hb e=>hs'.extBut b o hb e) hC.1 (hC.2.1) hC.2.2.2.1 hC.2.2.2.2.1 hC.2.2.2.2.2,rfl,q⟩
end L2
namespace L2
open PySem PySem.Spec PyProof.Rows
theorem vals_of_ints:∀{ns:List Int} {us:List Value},IntsAre us ns→Vals (ns.map V.int) us
 | _,_, .nil => .nil
 | _,_, .cons _ _ h => .cons ⟨_,rfl⟩ (vals_of_ints h)
section
variable {X:Cx} (K:PySem.W.Frag)
theorem sortedI (hK:X.K=K:=by rfl):CallR X (.builtin "sorted") (fun xs H Q=>∃(p:Addr) (ns:List Int),xs=[.ref p]∧SqL K H p (ns.map V.int)∧ns.length<64 ∧
  ∀(ms:List Int) (q:Addr) (H':Hp),ms.Perm ns→ms.Pairwise (· ≤ ·)→New H q (.lst (ms.map V.int)) H'→Q (.ref q) H'):=by
 subst hK
 intro pins s σ H xs us Q I r h
 obtain ⟨p,ns,rfl,hq,hl,q⟩:=h
 obtain ⟨u,rfl,ru⟩:=vals1 r
 cases ru
 obtain ⟨its,rv,pl,hz⟩:=I.list hq
 have hn:its.length=ns.length:=by have:=rv.length;rw [List.length_map] at this;exact this.symm
 refine sorted_ints pl.isList (intsAre_of rv) (by first|lia|omega) fun out ms a1 a2 a3 => ?_
 obtain ⟨e,he⟩:=sortedAll_at s.heap its out
 have hm:ms.length=ns.length:=a2.length_eq
 have hr:=vals_of_ints a1
 refine ⟨.ref (s.heap.objs.size+1),_,I.laid (a:=s.heap.objs.size+1) (o := .lst (ms.map V.int)) (t':=s.toks) (fun _ _=>sortedAll_old) (Nat.le_succ _) ⟨?_,out.toList,e,hr,?_⟩,rfl,q ms _ _ a2 a3 ⟨I.hok.fresh (Nat.le_succ _),rfl⟩⟩
 ·rw [List.length_map];exact Nat.le_trans (show ms.length≤64 by first|lia|omega) (by decide)
 ·simpa [seqObj] using he
end
end L2
namespace L2
open PySem PySem.Spec PyProof.Rows
section
variable {prog:Program} {w:World} {A:Around} {E:Value→Shared→Prop} {s:Shared} {a₀:Array Keyed} {key:Keyed→Int} {kd:SortKind}
def Lts (prog:Program) (w:World) (A:Around) (E:Value→Shared→Prop) (s:Shared) (a₀:Array Keyed) (key:Keyed→Int) (kd:SortKind):Prop:=
 ∀(st:SortSt) (x y:Keyed) (Q:Option Bool→SortSt→Prop),x∈a₀.toList→y∈a₀.toList→kindOf st=kd→Q (some (decide (key x<key y))) st→wpS (model prog w) A E s (lt' x y) Q st
def ky (key:Keyed→Int) (xs:Array Keyed) (i:Nat):Int:=match xs[i]? with
 | some p=>key p
 | none=>0
theorem ky_congr {xs ys:Array Keyed} {i j:Nat} (h:xs[i]? = ys[j]?):ky key xs i=ky key ys j:=by unfold ky;rw [h]
theorem ky_of {xs:Array Keyed} {i:Nat} {p:Keyed} (h:xs[i]? = some p):ky key xs i=key p:=by unfold ky;rw [h]
structure Af (a₀:Array Keyed) (kd:SortKind) (lo:Nat) (st0 st:SortSt):Prop where
 perm:(arrOf st).Perm a₀
 kind:kindOf st=kd
 failed:failedOf st=none
 pend:pendingOf st=pendingOf st0
 low:∀i,i<lo→(arrOf st)[i]? = (arrOf st0)[i]?
theorem Af.size {lo:Nat} {st0 st:SortSt} (h:Af a₀ kd lo st0 st):(arrOf st).size=a₀.size:=h.perm.size_eq
theorem Af.set {lo:Nat} {st0 st:SortSt} (h:Af a₀ kd lo st0 st) {xs:Array Keyed} (hp:xs.Perm (arrOf st)) (hl:∀i,i<lo→xs[i]? = (arrOf st)[i]?):Af a₀ kd lo st0 (setArr st xs):=
 ⟨hp.trans h.perm,h.kind,h.failed,h.pend,fun i hi=>(hl i hi).trans (h.low i hi)⟩
theorem mem_at {xs:Array Keyed} (hp:xs.Perm a₀) {i:Nat} {p:Keyed} (h:xs[i]? = some p):p∈a₀.toList:=by
 refine (Array.perm_iff_toList_perm.mp hp).mem_iff.mp ?_
 exact Array.mem_toList_iff.mpr (Array.mem_of_getElem? h)
theorem tm_elem {xs:Array Keyed} {i:Nat} {st:SortSt} {Q:Keyed→SortSt→Prop} (hi:i<xs.size) (h:∀p,xs[i]? = some p→Q p st):wpS (model prog w) A E s (elem' xs i) Q st:=by
 rw [elem'_eq,getElem?_pos xs i hi]
 exact wpS_pure (h _ (getElem?_pos xs i hi))
theorem tm_ltAt {st:SortSt} {i j:Nat} {Q:Option Bool→SortSt→Prop} (hL:Lts prog w A E s a₀ key kd) (hp:(arrOf st).Perm a₀) (hk:kindOf st=kd) (hi:i<a₀.size) (hj:j<a₀.size)
  (h:Q (some (decide (ky key (arrOf st) i<ky key (arrOf st) j))) st):wpS (model prog w) A E s (ltAt' i j) Q st:=by
 rw [ltAt'_eq]
 refine wpS_bind (wpS_get ?_)
 show wpS _ _ _ _ (do let x ←elem' (arrOf st) i;let y ←elem' (arrOf st) j;lt' x y) Q st
 have hs:=hp.size_eq
 refine wpS_bind (tm_elem (by first|lia|omega) fun p e1=>wpS_bind (tm_elem (by first|lia|omega) fun q e2 => ?_))
 refine hL _ _ _ _ (mem_at hp e1) (mem_at hp e2) hk ?_
 rw [ky_of e1,ky_of e2] at h
 exact h
theorem Af.lt {lo:Nat} {st0 st:SortSt} {i j:Nat} {Q:Option Bool→SortSt→Prop} (h:Af a₀ kd lo st0 st) (hL:Lts prog w A E s a₀ key kd) (hi:i<a₀.size) (hj:j<a₀.size)
  (q:Q (some (decide (ky key (arrOf st) i<ky key (arrOf st) j))) st):wpS (model prog w) A E s (ltAt' i j) Q st:=tm_ltAt hL h.perm h.kind hi hj q
def Sg (key:Keyed→Int) (xs:Array Keyed) (i j:Nat):Prop:=∀p q,i≤p→p≤q→q<j→ky key xs p≤ky key xs q
def Ng (key:Keyed→Int) (xs:Array Keyed) (i j:Nat):Prop:=∀p q,i≤p→p≤q→q<j→ky key xs q≤ky key xs p
theorem ky_mirror {xs:Array Keyed} {i j:Nat} (hj:j≤xs.size) (k:Nat) :
  ky key (mirror xs i j ((j-i) / 2)) k=if i≤k∧k<j then ky key xs (i+j-1-k) else ky key xs k:=by
 have e:=getElem?_mirror_all (i:=i) hj k
 by_cases h1:i≤k∧k<j
 ·rw [if_pos h1] at e ⊢;exact ky_congr e
 ·rw [if_neg h1] at e ⊢;exact ky_congr e
theorem mirror_low {xs:Array Keyed} {i j lo:Nat} (hj:j≤xs.size) (hi:lo≤i):∀k,k<lo→(mirror xs i j ((j-i) / 2))[k]? = xs[k]?:=fun k hk=>by
 rw [getElem?_mirror_all hj,if_neg (by first|lia|omega)]
theorem ky_mirror_equal {xs:Array Keyed} {i j:Nat} (hj:j≤xs.size) (heq:∀k,i≤k→k<j→ky key xs k=ky key xs (j-1)) (k:Nat) :
  ky key (mirror xs i j ((j-i) / 2)) k=ky key xs k:=by
 rw [ky_mirror hj]
 split
 ·rw [heq _ (by first|lia|omega) (by first|lia|omega),heq k (by first|lia|omega) (by first|lia|omega)]
 ·rfl
theorem Af.rev {lo i j:Nat} {st0 st:SortSt} (h:Af a₀ kd lo st0 st) (hi:lo≤i) (hj:j≤a₀.size):Af a₀ kd lo st0 (setArr st (mirror (arrOf st) i j ((j-i) / 2))):=
 h.set (mirror_perm _ _ _ _) (mirror_low (by rw [h.size];exact hj) hi)
def ascL (lo a nrem:Nat):StateT SortSt Sem AscSt:=
 forIn [a:nrem] ((none,a):AscSt) fun _ c=>do
  let x ←ltAt' (lo+c.snd) (lo+c.snd-1)
  match x with
  | some smaller=>if smaller=true then pure (ForInStep.done (none,c.snd)) else pure (ForInStep.yield (none,c.snd+1))
  | _=>pure (ForInStep.done (some none,c.snd))
def tailL (lo n nrem:Nat):StateT SortSt Sem (Option Nat):=do
 reverseSlice' lo (lo+n)
 let c ←ascL lo n nrem
 match c.fst with
 | some r=>pure r
 | none=>pure (some c.snd)
def descL (lo n nrem:Nat):StateT SortSt Sem DescSt:=
 forIn [n:nrem] ((none,n,0):DescSt) fun _ c=>do
  let x ←ltAt' (lo+c.snd.fst) (lo+c.snd.fst-1)
  match x with
  | some smaller=>
   if smaller=true then
    if c.snd.snd>0 then do
     reverseSlice' (lo+c.snd.fst-(c.snd.snd+1)) (lo+c.snd.fst)
     pure (ForInStep.yield (none,c.snd.fst+1,0))
    else pure (ForInStep.yield (none,c.snd.fst+1,0))
   else do
    let x ←ltAt' (lo+c.snd.fst-1) (lo+c.snd.fst)
    match x with
    | some larger=>
     if larger=true then pure (ForInStep.done (none,c.snd.fst,c.snd.snd))
     else pure (ForInStep.yield (none,c.snd.fst+1,c.snd.snd+1))
    | _=>pure (ForInStep.done (some none,c.snd.fst,c.snd.snd))
  | _=>pure (ForInStep.done (some none,c.snd.fst,c.snd.snd))
def descP (lo n nrem:Nat):StateT SortSt Sem (Option Nat):=do
 liftM (rule "list.sort.descending-run")
 let c ←descL lo (n+1) nrem
 match c.fst with
 | some r=>pure r
 | none=>
  if c.snd.snd>0 then do
   reverseSlice' (lo+c.snd.fst-(c.snd.snd+1)) (lo+c.snd.fst)
   tailL lo c.snd.fst nrem
  else tailL lo c.snd.fst nrem
theorem countL_eq (lo nrem:Nat):countRun' lo nrem=(do
  let c ←ascL lo 1 nrem
  match c.fst with
  | some r=>pure r
  | none=>
   if (c.snd == nrem)=true then pure (some c.snd)
   else if c.snd>1 then do
    let x ←ltAt' lo (lo+c.snd-1)
    match x with
    | some rose=>if rose=true then pure (some c.snd) else do
      reverseSlice' lo (lo+c.snd)
      descP lo c.snd nrem
    | _=>pure none
   else descP lo c.snd nrem):=by
 rw [countRun'_eq]
 dsimp only
 unfold descP tailL descL ascL
 congr 1
 funext c
 obtain ⟨r,n⟩:=c
 cases r with
 | some r=>rfl
 | none=>
  dsimp only
  split
  ·rfl
  ·split
   ·congr 1
    funext x
    cases x with
    | none=>rfl
    | some rose=>
     dsimp only
     split
     ·rfl
     ·congr 1
      funext _r
      congr 1;funext _u;congr 1;congr 1;funext s2;obtain ⟨r2,n2,q2⟩:=s2
      cases r2 with
      | some r2=>rfl
      | none=>(dsimp only;split; (congr 1;funext _v; (congr 1;funext _w;congr 1; (funext s3;obtain ⟨r3,n3⟩:=s3;cases r3 <;> rfl))); (congr 1;funext _w;congr 1; (funext s3;obtain ⟨r3,n3⟩:=s3;cases r3 <;> rfl)))
   ·congr 1;funext _u;congr 1;congr 1;funext s2;obtain ⟨r2,n2,q2⟩:=s2
    cases r2 with
    | some r2=>rfl
    | none=>(dsimp only;split; (congr 1;funext _v; (congr 1;funext _w;congr 1; (funext s3;obtain ⟨r3,n3⟩:=s3;cases r3 <;> rfl))); (congr 1;funext _w;congr 1; (funext s3;obtain ⟨r3,n3⟩:=s3;cases r3 <;> rfl)))
theorem tm_asc {st0 st:SortSt} {lo a nrem:Nat} {Q:AscSt→SortSt→Prop} (hL:Lts prog w A E s a₀ key kd) (hn:lo+nrem≤a₀.size) (ha:1≤a) (han:a≤nrem) (hB:Af a₀ kd lo st0 st)
  (hs:Sg key (arrOf st) lo (lo+a))
  (h:∀n,a≤n→n≤nrem→Sg key (arrOf st) lo (lo+n)→(n=nrem∨ky key (arrOf st) (lo+n)<ky key (arrOf st) (lo+n-1))→Q (none,n) st) :
  wpS (model prog w) A E s (ascL lo a nrem) Q st:=by
 unfold ascL
 refine wpS_forRange (I:=fun x c st'=>st'=st∧c=(none,x)∧Sg key (arrOf st) lo (lo+x)) ?step ?fin ⟨rfl,rfl,hs⟩
 case fin=>
  intro c st' hz_
  refine Elim.el hz_ _ ?_
  clear hz_
  rintro rfl rfl hs'
  rw [Nat.max_eq_right (by first|lia|omega)] at hs' ⊢
  exact h nrem han (Nat.le_refl _) hs' (.inl rfl)
 case step=>
  intro x c st' hax hxn hz_
  refine Elim.el hz_ _ ?_
  clear hz_
  rintro rfl rfl hs'
  dsimp only
  refine wpS_bind (hB.lt hL (by first|lia|omega) (by first|lia|omega) ?_)
  by_cases hless:ky key (arrOf st') (lo+x)<ky key (arrOf st') (lo+x-1)
  ·simp only [hless,decide_true,if_true]
   exact wpS_pure (h x hax (by first|lia|omega) hs' (.inr hless))
  ·simp only [hless,decide_false,Bool.false_eq_true,if_false]
   refine wpS_pure ⟨rfl,rfl,fun i j hl hij hj => ?_⟩
   by_cases hjx:j<lo+x
   ·exact hs' i j hl hij hjx
   ·have hj':j=lo+x:=by (first|lia|omega)
    subst hj'
    by_cases hi':i=lo+x
    ·subst hi';exact Int.le_refl _
    ·exact Int.le_trans (hs' i (lo+x-1) hl (Nat.le_sub_one_of_lt (Nat.lt_of_le_of_ne hij hi')) (by first|lia|omega)) (Int.not_lt.mp hless)
theorem tm_tail {st0 st:SortSt} {lo n nrem:Nat} {Q:Option Nat→SortSt→Prop} (hL:Lts prog w A E s a₀ key kd) (hn:lo+nrem≤a₀.size) (h1:1≤n) (hnn:n≤nrem) (hB:Af a₀ kd lo st0 st)
  (hs:Ng key (arrOf st) lo (lo+n)) (h:∀m st',Af a₀ kd lo st0 st'→1≤m→m≤nrem→Sg key (arrOf st') lo (lo+m)→Q (some m) st') :
  wpS (model prog w) A E s (tailL lo n nrem) Q st:=by
 unfold tailL
 have hsz:lo+n≤(arrOf st).size:=by rw [hB.size]; (first|lia|omega)
 refine wpS_bind (wpS_reverse ?_)
 have hB':=hB.rev (i:=lo) (j:=lo+n) (Nat.le_refl _) (by first|lia|omega)
 refine wpS_bind (tm_asc hL hn h1 hnn hB' ?_ fun m hm1 hm2 hsm _=>wpS_pure (h m _ hB' (by first|lia|omega) hm2 hsm))
 intro i j hl hij hj
 show ky key (mirror (arrOf st) lo (lo+n) ((lo+n-lo) / 2)) i≤ky key (mirror (arrOf st) lo (lo+n) ((lo+n-lo) / 2)) j
 rw [ky_mirror hsz,ky_mirror hsz,if_pos (by first|lia|omega),if_pos (by first|lia|omega)]
 exact hs _ _ (by first|lia|omega) (Nat.sub_le_sub_left hij _) (by first|lia|omega)
theorem tm_desc {st0 st:SortSt} {lo n nrem:Nat} {Q:DescSt→SortSt→Prop} (hL:Lts prog w A E s a₀ key kd) (hn:lo+nrem≤a₀.size) (h1:1≤n) (hnn:n≤nrem) (hB:Af a₀ kd lo st0 st)
  (hs:Ng key (arrOf st) lo (lo+n))
  (h:∀m neq st',Af a₀ kd lo st0 st'→n≤m→m≤nrem→Ng key (arrOf st') lo (lo+m)→neq+1≤m→(∀i,lo+m-(neq+1)≤i→i<lo+m→ky key (arrOf st') i=ky key (arrOf st') (lo+m-1))→Q (none,m,neq) st') :
  wpS (model prog w) A E s (descL lo n nrem) Q st:=by
 unfold descL
 refine wpS_forRange (I:=fun x c st'=>∃neq,c=(none,x,neq)∧Af a₀ kd lo st0 st'∧Ng key (arrOf st') lo (lo+x)∧neq+1≤x ∧
   (∀i,lo+x-(neq+1)≤i→i<lo+x→ky key (arrOf st') i=ky key (arrOf st') (lo+x-1))) ?step ?fin ⟨0,rfl,hB,hs,by first|lia|omega,fun i h1 h2=>congrArg (ky key _) (Nat.le_antisymm (Nat.le_sub_one_of_lt h2) h1)⟩
 case fin=>
  intro c st' hz_
  refine Elim.el hz_ _ ?_
  clear hz_
  rintro neq rfl hB' hs' hq he
  rw [Nat.max_eq_right hnn] at hs' hq he ⊢
  exact h nrem neq st' hB' hnn (Nat.le_refl _) hs' hq he
 case step=>
  intro x c st' hax hxn hz_
  refine Elim.el hz_ _ ?_
  clear hz_
  rintro neq rfl hB' hs' hq he
  dsimp only
  have hsz:lo+x≤(arrOf st').size:=by rw [hB'.size]; (first|lia|omega)
  have lx:lo+x-1<lo+x:=by (first|lia|omega)
  refine wpS_bind (hB'.lt hL (by first|lia|omega) (by first|lia|omega) ?_)
  by_cases hless:ky key (arrOf st') (lo+x)<ky key (arrOf st') (lo+x-1)
  ·simp only [hless,decide_true,if_true]
   have step1:∀xs:Array Keyed,(∀k,ky key xs k=ky key (arrOf st') k)→Ng key xs lo (lo+(x+1)):=by
    intro xs hk i j hl hij hj
    rw [hk,hk]
    by_cases hjx:j<lo+x
    ·exact hs' i j hl hij hjx
    ·have hj':j=lo+x:=by (first|lia|omega)
     subst hj'
     by_cases hi':i=lo+x
     ·subst hi';exact Int.le_refl _
     ·exact Int.le_trans (Int.le_of_lt hless) (hs' i (lo+x-1) hl (Nat.le_sub_one_of_lt (Nat.lt_of_le_of_ne hij hi')) lx)
   by_cases hneq:neq>0
   ·rw [if_pos hneq]
    refine wpS_bind (wpS_reverse (wpS_pure ⟨0,rfl,hB'.rev (by first|lia|omega) (by first|lia|omega),step1 _ (ky_mirror_equal hsz he),by first|lia|omega,fun i h1 h2=>congrArg (ky key _) (Nat.le_antisymm (Nat.le_sub_one_of_lt h2) h1)⟩))
   ·rw [if_neg hneq]
    exact wpS_pure ⟨0,rfl,hB',step1 _ (fun _=>rfl),by first|lia|omega,fun i h1 h2=>congrArg (ky key _) (Nat.le_antisymm (Nat.le_sub_one_of_lt h2) h1)⟩
  ·simp only [hless,decide_false,Bool.false_eq_true,if_false]
   refine wpS_bind (hB'.lt hL (by first|lia|omega) (by first|lia|omega) ?_)
   by_cases hlarger:ky key (arrOf st') (lo+x-1)<ky key (arrOf st') (lo+x)
   ·simp only [hlarger,decide_true,if_true]
    exact wpS_pure (h x neq st' hB' hax (by first|lia|omega) hs' hq he)
   ·simp only [hlarger,decide_false,Bool.false_eq_true,if_false]
    have heqx:ky key (arrOf st') (lo+x)=ky key (arrOf st') (lo+x-1):=by (first|lia|omega)
    refine wpS_pure ⟨neq+1,rfl,hB',fun i j hl hij hj => ?_,by first|lia|omega,fun i h1 h2 => ?_⟩
    ·by_cases hjx:j<lo+x
     ·exact hs' i j hl hij hjx
     ·have hj':j=lo+x:=by (first|lia|omega)
      subst hj'
      by_cases hi':i=lo+x
      ·subst hi';exact Int.le_refl _
      ·rw [heqx];exact hs' i (lo+x-1) hl (Nat.le_sub_one_of_lt (Nat.lt_of_le_of_ne hij hi')) lx
    ·rw [show lo+(x+1)-1=lo+x from Nat.add_sub_cancel (lo+x) 1]
     by_cases hix:i=lo+x
     ·subst hix;rfl
     ·rw [heqx];exact he i (Nat.le_trans (Nat.le_of_eq (Nat.succ_sub_succ (lo+x) (neq+1)).symm) h1) (Nat.lt_of_le_of_ne (Nat.le_of_lt_succ h2) hix)
theorem tm_descP {st0 st:SortSt} {lo n nrem:Nat} {Q:Option Nat→SortSt→Prop} (hL:Lts prog w A E s a₀ key kd) (hn:lo+nrem≤a₀.size) (hnn:n+1≤nrem) (hB:Af a₀ kd lo st0 st)
  (hs:Ng key (arrOf st) lo (lo+(n+1))) (h:∀m st',Af a₀ kd lo st0 st'→1≤m→m≤nrem→Sg key (arrOf st') lo (lo+m)→Q (some m) st') :
  wpS (model prog w) A E s (descP lo n nrem) Q st:=by
 unfold descP
 refine wpS_bind (wpS_lift (wpAny_rule ⟨rfl,?_⟩))
 refine wpS_bind (tm_desc hL hn (by first|lia|omega) hnn hB hs fun m neq st' hB' hm1 hm2 hs' hq he => ?_)
 dsimp only
 have hsz:lo+m≤(arrOf st').size:=by rw [hB'.size]; (first|lia|omega)
 by_cases hneq:neq>0
 ·rw [if_pos hneq]
  refine wpS_bind (wpS_reverse (tm_tail hL hn (by first|lia|omega) hm2 (hB'.rev (by first|lia|omega) (by first|lia|omega)) ?_ h))
  intro i j hl hij hj
  show ky key (mirror (arrOf st') _ _ _) j≤ky key (mirror (arrOf st') _ _ _) i
  rw [ky_mirror_equal hsz he,ky_mirror_equal hsz he]
  exact hs' i j hl hij hj
 ·rw [if_neg hneq]
  exact tm_tail hL hn (by first|lia|omega) hm2 hB' hs' h
theorem tm_count {st0 st:SortSt} {lo nrem:Nat} {Q:Option Nat→SortSt→Prop} (hL:Lts prog w A E s a₀ key kd) (hn:lo+nrem≤a₀.size) (h1:1≤nrem) (hB:Af a₀ kd lo st0 st)
  (h:∀m st',Af a₀ kd lo st0 st'→1≤m→m≤nrem→Sg key (arrOf st') lo (lo+m)→Q (some m) st') :
  wpS (model prog w) A E s (countRun' lo nrem) Q st:=by
 rw [countL_eq]
 refine wpS_bind (tm_asc hL hn (Nat.le_refl 1) h1 hB (fun i j hl hij hj=>by rw [show i=j by first|lia|omega];exact Int.le_refl _) fun n hn1 hn2 hsn hor => ?_)
 dsimp only
 by_cases hnn:n=nrem
 ·rw [if_pos (by simpa using hnn)]
  exact wpS_pure (h n st hB hn1 hn2 hsn)
 ·rw [if_neg (by simpa using hnn)]
  have hlt:ky key (arrOf st) (lo+n)<ky key (arrOf st) (lo+n-1):=hor.resolve_left hnn
  by_cases hgt:n>1
  ·rw [if_pos hgt]
   refine wpS_bind (hB.lt hL (by first|lia|omega) (by first|lia|omega) ?_)
   by_cases hrose:ky key (arrOf st) lo<ky key (arrOf st) (lo+n-1)
   ·simp only [hrose,decide_true,if_true]
    exact wpS_pure (h n st hB hn1 hn2 hsn)
   ·simp only [hrose,decide_false,Bool.false_eq_true,if_false]
    have hsz:lo+n≤(arrOf st).size:=by rw [hB.size]; (first|lia|omega)
    have hall:∀k,lo≤k→k<lo+n→ky key (arrOf st) k=ky key (arrOf st) (lo+n-1):=by
     intro k hl hk
     have a1:=hsn lo k (by first|lia|omega) hl hk
     have a2:=hsn k (lo+n-1) hl (by first|lia|omega) (by first|lia|omega)
     (first|lia|omega)
    refine wpS_bind (wpS_reverse (tm_descP hL hn (by first|lia|omega) (hB.rev (by first|lia|omega) (by first|lia|omega)) ?_ h))
    intro i j hl hij hj
    show ky key (mirror (arrOf st) _ _ _) j≤ky key (mirror (arrOf st) _ _ _) i
    rw [ky_mirror_equal hsz hall,ky_mirror_equal hsz hall]
    by_cases hjn:j<lo+n
    ·rw [hall i hl (by first|lia|omega),hall j (by first|lia|omega) hjn];exact Int.le_refl _
    ·have hj':j=lo+n:=by (first|lia|omega)
     subst hj'
     by_cases hi':i=lo+n
     ·subst hi';exact Int.le_refl _
     ·rw [hall i hl (by first|lia|omega)];exact Int.le_of_lt hlt
  ·rw [if_neg hgt]
   have hn1':n=1:=by (first|lia|omega)
   subst hn1'
   refine tm_descP hL hn (by first|lia|omega) hB ?_ h
   intro i j hl hij hj
   by_cases hi':i=j
   ·subst hi';exact Int.le_refl _
   ·have hi0:i=lo:=by (first|lia|omega)
    have hj1:j=lo+1:=by (first|lia|omega)
    subst hi0;subst hj1
    exact Int.le_of_lt hlt
theorem ky_bubble {xs:Array Keyed} {src d:Nat} (hs:src<xs.size) (hd:d≤src) (k:Nat) :
  ky key (bubble xs src d) k=if k=src-d then ky key xs src else if src-d<k∧k≤src then ky key xs (k-1) else ky key xs k:=by
 have e:=getElem?_bubble hs d hd k
 by_cases h1:k=src-d
 ·rw [if_pos h1] at e ⊢;exact ky_congr e
 ·rw [if_neg h1] at e ⊢
  by_cases h2:src-d<k∧k≤src
  ·rw [if_pos h2] at e ⊢;exact ky_congr e
  ·rw [if_neg h2] at e ⊢;exact ky_congr e
theorem tm_bin {st0 st:SortSt} {lo n ok:Nat} {Q:Bool→SortSt→Prop} (hL:Lts prog w A E s a₀ key kd) (hn:lo+n≤a₀.size) (hok:ok≤n) (hB:Af a₀ kd lo st0 st) (hs:Sg key (arrOf st) lo (lo+ok))
  (h:∀st',Af a₀ kd lo st0 st'→Sg key (arrOf st') lo (lo+n)→Q true st'):wpS (model prog w) A E s (binarySort' lo n ok) Q st:=by
 rw [binarySort'_eq]
 refine wpS_bind (wpS_mono (wpS_forRange (I:=fun k c st'=>c=(none,())∧Af a₀ kd lo st0 st'∧Sg key (arrOf st') lo (lo+min k n))
  (Q:=fun c st'=>c=(none,())∧Af a₀ kd lo st0 st'∧Sg key (arrOf st') lo (lo+n)) ?step ?fin ?init) ?post)
 case post=>
  intro c st' hz_
  refine Elim.el hz_ _ ?_
  clear hz_
  rintro rfl hB' hs'
  exact wpS_pure (h st' hB' hs')
 case init=>
  refine ⟨rfl,hB,fun i j hl hij hj => ?_⟩
  by_cases h1:ok=0
  ·subst h1
   have hj2:j<lo+1:=Nat.lt_of_lt_of_le hj (Nat.add_le_add_left (Nat.min_le_left _ _) _)
   have:i=j:=Nat.le_antisymm hij (Nat.le_trans (Nat.le_of_lt_succ hj2) hl)
   subst this;exact Int.le_refl _
  ·exact hs i j hl hij (Nat.lt_of_lt_of_le hj (Nat.add_le_add_left (Nat.le_trans (Nat.min_le_left _ _) (Nat.le_of_eq (Nat.max_eq_left (Nat.pos_of_ne_zero h1)))) _))
 case fin=>
  intro c st' hz_
  refine Elim.el hz_ _ ?_
  clear hz_
  rintro hc hB' hs'
  refine ⟨hc,hB',?_⟩
  rwa [Nat.min_eq_right (Nat.le_max_right _ _)] at hs'
 case step=>
  intro k c st' hak hkn hz_
  refine Elim.el hz_ _ ?_
  clear hz_
  rintro rfl hB' hs'
  rw [Nat.min_eq_left (Nat.le_of_lt hkn)] at hs'
  have hk:lo+k<a₀.size:=by (first|lia|omega)
  refine wpS_bind (wpS_mono (wpS_forRange (I:=fun x c st''=>st''=st'∧∃l r,c=(none,l,r)∧l≤r∧r≤k∧r+x≤k+l ∧
    (∀i,i<l→ky key (arrOf st') (lo+i)≤ky key (arrOf st') (lo+k))∧(∀i,r≤i→i<k→ky key (arrOf st') (lo+k)<ky key (arrOf st') (lo+i)))
   (Q:=fun c st''=>st''=st'∧∃l r,c=(none,l,r)∧l≤k ∧
    (∀i,i<l→ky key (arrOf st') (lo+i)≤ky key (arrOf st') (lo+k))∧(∀i,l≤i→i<k→ky key (arrOf st') (lo+k)<ky key (arrOf st') (lo+i))) ?istep ?ifin ?iinit) ?ipost)
  case iinit=>exact ⟨rfl,0,k,rfl,by first|lia|omega,by first|lia|omega,by first|lia|omega,fun i hi=>by first|lia|omega,fun i h1 h2=>by first|lia|omega⟩
  case ifin=>
   intro c st'' hz_
   refine Elim.el hz_ _ ?_
   clear hz_
   rintro rfl l r rfl hlr hrk hm hlo hhi
   have:l=r:=by (first|lia|omega)
   subst this
   exact ⟨rfl,l,l,rfl,hrk,hlo,hhi⟩
  case istep=>
   intro x c st'' _ hxk hz_
   refine Elim.el hz_ _ ?_
   clear hz_
   rintro rfl l r rfl hlr hrk hm hlo hhi
   dsimp only
   by_cases hge:l≥r
   ·rw [if_pos hge]
    have:l=r:=by (first|lia|omega)
    subst this
    exact wpS_pure ⟨rfl,l,l,rfl,hrk,hlo,hhi⟩
   ·rw [if_neg hge]
    have y1:l≤(l+r) / 2:=by (first|lia|omega)
    have y2:(l+r) / 2<r:=by (first|lia|omega)
    generalize (l+r) / 2=m at y1 y2 ⊢
    refine wpS_bind (hB'.lt hL hk (by first|lia|omega) ?_)
    by_cases hless:ky key (arrOf st'') (lo+k)<ky key (arrOf st'') (lo+m)
    ·simp only [hless,decide_true,if_true]
     refine wpS_pure ⟨rfl,l,m,rfl,y1,by first|lia|omega,by first|lia|omega,hlo,fun i h1 h2 => ?_⟩
     exact Int.lt_of_lt_of_le hless (hs' _ _ (Nat.le_add_right _ _) (by first|lia|omega) (by first|lia|omega))
    ·simp only [hless,decide_false,Bool.false_eq_true,if_false]
     refine wpS_pure ⟨rfl,m+1,r,rfl,y2,hrk,by first|lia|omega,fun i h1 => ?_,hhi⟩
     exact Int.le_trans (hs' (lo+i) (lo+m) (Nat.le_add_right _ _) (by first|lia|omega) (by first|lia|omega)) (Int.not_lt.mp hless)
  case ipost=>
   intro c st'' hz_
   refine Elim.el hz_ _ ?_
   clear hz_
   rintro rfl l r rfl hlk hlo hhi
   show wpS _ _ _ _ (do moveDown' (lo+k) (lo+l);pure (ForInStep.yield (none,()))) _ _
   rw [moveDown'_eq]
   have hks:lo+k<(arrOf st'').size:=by rw [hB'.size];exact hk
   refine wpS_bind (wpS_modify (wpS_pure ⟨rfl,hB'.set (bubble_perm _ _ _) (fun i hi => ?_),?_⟩))
   ·rw [getElem?_bubble hks _ (Nat.sub_le _ _),Nat.sub_sub_self (Nat.add_le_add_left hlk lo),if_neg (by first|lia|omega),if_neg (by first|lia|omega)]
   rw [Nat.min_eq_left hkn]
   have hlo':∀i,lo≤i→i<lo+l→ky key (arrOf st'') i≤ky key (arrOf st'') (lo+k):=fun i h1 h2=>by
    have:=hlo (i-lo) (Nat.sub_lt_left_of_lt_add h1 h2);rwa [Nat.add_sub_of_le h1] at this
   have hhi':∀i,lo+l≤i→i<lo+k→ky key (arrOf st'') (lo+k)<ky key (arrOf st'') i:=fun i h1 h2=>by
    have h0:=Nat.le_trans (Nat.le_add_right lo l) h1;have:=hhi (i-lo) (Nat.le_sub_of_add_le' h1) (Nat.sub_lt_left_of_lt_add h0 h2);rwa [Nat.add_sub_of_le h0] at this
   intro i j hl hij hj
   show ky key (bubble (arrOf st'') (lo+k) (lo+k-(lo+l))) i≤ky key (bubble (arrOf st'') (lo+k) (lo+k-(lo+l))) j
   have hj:j<lo+k+1:=hj
   have hy:lo+l≤lo+k:=Nat.add_le_add_left hlk _
   have h0:lo≤lo+l:=Nat.le_add_right _ _
   rw [ky_bubble hks (Nat.sub_le _ _),ky_bubble hks (Nat.sub_le _ _),Nat.sub_sub_self hy]
   clear hlo hhi h hB hs hn hok hak hkn hk hlk hL
   generalize lo+l=y at h0 hy hlo' hhi' ⊢
   generalize lo+k=z at hy hlo' hhi' hs' hj hks ⊢
   repeat' split
   all_goals first
    | (exfalso; (first|lia|omega))
    | exact Int.le_refl _
    | exact hlo' _ (by first|lia|omega) (by first|lia|omega)
    | exact Int.le_of_lt (hhi' _ (by first|lia|omega) (by first|lia|omega))
    | exact hs' _ _ (by first|lia|omega) (Nat.sub_le_sub_right hij 1) (by first|lia|omega)
    | exact hs' _ _ (by first|lia|omega) (by first|lia|omega) (by first|lia|omega)
end
end L2
namespace L2
open PySem PySem.Spec PyProof.Rows
def gallop':Bool→Keyed→Array Keyed→Nat→Nat→Nat→StateT SortSt Sem (Option Nat):=sortPriv% PySem.Builtin.gallop
def beyond' (left:Bool) (k:Keyed) (arr:Array Keyed) (base i:Nat):StateT SortSt Sem (Option Bool):=do
 let x ←elem' arr (base+i)
 if left then lt' x k else return (←lt' k x).map (!·)
section
variable {prog:Program} {w:World} {A:Around} {E:Value→Shared→Prop} {s:Shared} {a₀:Array Keyed} {key:Keyed→Int} {kd:SortKind}
def bey (left:Bool) (k x:Int):Bool:=if left then decide (x<k) else !decide (k<x)
theorem tm_bey {left:Bool} {k:Keyed} {arr:Array Keyed} {base i:Nat} {st:SortSt} {Q:Option Bool→SortSt→Prop} (hL:Lts prog w A E s a₀ key kd) (hst:kindOf st=kd) (ha:∀p∈arr.toList,p∈a₀.toList) (hk:k∈a₀.toList)
  (hi:base+i<arr.size) (h:Q (some (bey left (key k) (ky key arr (base+i)))) st):wpS (model prog w) A E s (beyond' left k arr base i) Q st:=by
 unfold beyond'
 refine wpS_bind (tm_elem hi fun p e => ?_)
 have hp:=ha p (Array.mem_toList_iff.mpr (Array.mem_of_getElem? e))
 rw [ky_of e] at h
 cases left with
 | true=>exact hL _ _ _ _ hp hk hst h
 | false=>
  refine wpS_bind (m:=lt' k p) (hL _ _ _ _ hk hp hst ?_)
  exact wpS_pure h
theorem bey_mono {left:Bool} {k x y:Int} (h:x≤y) (hy:bey left k y=true):bey left k x=true:=by
 unfold bey at *
 cases left
 ·simp at hy ⊢; (first|lia|omega)
 ·simp at hy ⊢; (first|lia|omega)
def Gal (left:Bool) (k:Int) (key:Keyed→Int) (arr:Array Keyed) (base n r:Nat):Prop:=
 r≤n∧(∀i,i<r→bey left k (ky key arr (base+i))=true)∧∀i,r≤i→i<n→bey left k (ky key arr (base+i))=false
theorem jpGo {α γ:Type} {m:StateT SortSt Sem α} {Q : α→SortSt→Prop} {st:SortSt} (V : γ→StateT SortSt Sem α) (G : γ→Prop) (hV:∀z,G z→wpS (model prog w) A E s (V z) Q st)
  (hm:(∀z,G z→wpS (model prog w) A E s (V z) Q st)→wpS (model prog w) A E s m Q st):wpS (model prog w) A E s m Q st:=hm hV
section
variable {α:Type} {c:Prop} [Decidable c] {m n:StateT SortSt Sem α} {Q : α→SortSt→Prop} {st:SortSt}
theorem ifP (h:c) (hm:wpS (model prog w) A E s m Q st):wpS (model prog w) A E s (if c then m else n) Q st:=by rw [if_pos h];exact hm
theorem ifN (h:¬c) (hm:wpS (model prog w) A E s n Q st):wpS (model prog w) A E s (if c then m else n) Q st:=by rw [if_neg h];exact hm
theorem ifS (h1:c→wpS (model prog w) A E s m Q st) (h2:¬c→wpS (model prog w) A E s n Q st):wpS (model prog w) A E s (if c then m else n) Q st:=by
 split
 ·exact h1 ‹_›
 ·exact h2 ‹_›
theorem ifE {x y:Nat} (h1:x=y→wpS (model prog w) A E s m Q st) (h2:¬x=y→wpS (model prog w) A E s n Q st):wpS (model prog w) A E s (if (x == y)=true then m else n) Q st:=
 ifS (fun z=>h1 (by simpa using z)) fun z=>h2 (by simpa using z)
end
theorem tm_gallop {left:Bool} {k:Keyed} {arr:Array Keyed} {base n hint:Nat} {st:SortSt} {Q:Option Nat→SortSt→Prop} (hL:Lts prog w A E s a₀ key kd) (hst:kindOf st=kd) (ha:∀p∈arr.toList,p∈a₀.toList) (hk:k∈a₀.toList)
  (hs:Sg key arr base (base+n)) (hn:base+n≤arr.size) (hh:hint<n) (h:∀r,Gal left (key k) key arr base n r→Q (some r) st):wpS (model prog w) A E s (gallop' left k arr base n hint) Q st:=by
 have up:∀i j,i≤j→j<n→bey left (key k) (ky key arr (base+j))=true→bey left (key k) (ky key arr (base+i))=true:=fun i j hij hj=>bey_mono (hs _ _ (by first|lia|omega) (by first|lia|omega) (by first|lia|omega))
 have dn:∀i j,i≤j→j<n→bey left (key k) (ky key arr (base+i))=false→bey left (key k) (ky key arr (base+j))=false:=fun i j hij hj e=>by
  cases e2:bey left (key k) (ky key arr (base+j)) with
  | false=>rfl
  | true=>rw [up i j hij hj e2] at e;cases e
 refine wpS_bind (m:=beyond' left k arr base hint) (tm_bey hL hst ha hk (by first|lia|omega) ?_)
 dsimp -zeta only
 extract_lets jp mo1 mo2
 refine jpGo (fun z:Nat×Nat×Nat×Nat=>jp () z.1 z.2.1 z.2.2.1 z.2.2.2) (fun z=>(z.2.2.1≤z.2.2.2∧z.2.2.2≤n)∧(∀i,i<z.2.2.1→bey left (key k) (ky key arr (base+i))=true)∧(∀i,z.2.2.2≤i→i<n→bey left (key k) (ky key arr (base+i))=false)) (fun z hz => ?_) fun H => ?_
 ·obtain ⟨z1,z2,lo0,hi0⟩:=z
  refine wpS_bind (wpS_mono (wpS_forRange (I:=fun x c st'=>st'=st∧∃lo hi,c=(none,lo,hi)∧lo≤hi∧hi≤n∧hi+x≤n+lo∧(∀i,i<lo→bey left (key k) (ky key arr (base+i))=true)∧(∀i,hi≤i→i<n→bey left (key k) (ky key arr (base+i))=false))
   (Q:=fun c st'=>st'=st∧∃r,c=(none,r,r)∧Gal left (key k) key arr base n r) ?stepA ?finA ⟨rfl,lo0,hi0,rfl,hz.1.1,hz.1.2,Nat.le_trans hz.1.2 (Nat.le_add_right _ _),hz.2.1,hz.2.2⟩) ?postA)
  case postA=>
   intro c st' hz_
   refine Elim.el hz_ _ ?_
   clear hz_
   rintro rfl r rfl g
   exact wpS_pure (h r g)
  case finA=>
   intro c st' hz_
   refine Elim.el hz_ _ ?_
   clear hz_
   rintro rfl lo hi rfl b1 b2 b3 b4 b5
   have:lo=hi:=by (first|lia|omega)
   subst this
   exact ⟨rfl,lo,rfl,b2,b4,b5⟩
  case stepA=>
   intro x c st' _ hx hz_
   refine Elim.el hz_ _ ?_
   clear hz_
   rintro rfl lo hi rfl b1 b2 b3 b4 b5
   dsimp only
   refine ifS (fun hge => ?_) fun hge => ?_
   ·have:lo=hi:=by (first|lia|omega)
    subst this
    exact wpS_pure ⟨rfl,lo,rfl,b2,b4,b5⟩
   ·have y1:lo≤lo+(hi-lo) / 2:=Nat.le_add_right _ _
    have y2:lo+(hi-lo) / 2<hi:=by (first|lia|omega)
    generalize lo+(hi-lo) / 2=m at y1 y2 ⊢
    refine wpS_bind (tm_bey hL hst ha hk (by first|lia|omega) ?_)
    cases e:bey left (key k) (ky key arr (base+m)) with
    | true=>
     dsimp only
     refine ifP rfl ?_
     exact wpS_pure ⟨rfl,_,_,rfl,y2,b2,by first|lia|omega,fun i hi'=>up i _ (Nat.le_of_lt_succ hi') (by first|lia|omega) e,b5⟩
    | false=>
     dsimp only
     refine ifN Bool.false_ne_true ?_
     exact wpS_pure ⟨rfl,_,_,rfl,y1,by first|lia|omega,by first|lia|omega,b4,fun i i1 i2=>dn _ i i1 i2 e⟩
 have eN:hint+(n-hint)=n:=Nat.add_sub_of_le (Nat.le_of_lt hh)
 refine ifS (fun e => ?_) fun e => ?_
 ·refine wpS_bind (wpS_mono (wpS_forRange (I:=fun x c st'=>st'=st∧∃last ofs,c=(none,last,ofs)∧last<ofs∧x+1≤ofs∧last<n-hint∧bey left (key k) (ky key arr (base+(hint+last)))=true)
   (Q:=fun c st'=>st'=st∧∃last ofs,c=(none,last,ofs)∧last<ofs∧last<n-hint∧bey left (key k) (ky key arr (base+(hint+last)))=true∧(n-hint≤ofs∨bey left (key k) (ky key arr (base+(hint+ofs)))=false)) ?step ?fin ⟨rfl,0,1,rfl,by first|lia|omega,by first|lia|omega,by first|lia|omega,e⟩) ?post)
  case post=>
   intro c st1 hz_
   refine Elim.el hz_ _ ?_
   clear hz_
   rintro rfl last ofs rfl c1 c2 c3 c4
   refine H (last,ofs,hint+last+1,hint+min ofs (n-hint)) ⟨⟨Nat.add_le_add_left (Nat.le_min.mpr ⟨c1,c2⟩) hint,Nat.le_trans (Nat.add_le_add_left (Nat.min_le_right _ _) _) (Nat.le_of_eq eN)⟩,fun i hi=>up i (hint+last) (Nat.le_of_lt_succ hi) (Nat.lt_of_lt_of_eq (Nat.add_lt_add_left c2 hint) eN) c3,fun i i1 i2 => ?_⟩
   have i1:hint+min ofs (n-hint)≤i:=i1
   rcases Nat.le_total (n-hint) ofs with t|t
   ·rw [Nat.min_eq_right t,eN] at i1
    exact absurd i2 (Nat.not_lt.mpr i1)
   ·rw [Nat.min_eq_left t] at i1
    rcases c4 with c4|c4
    ·rw [Nat.le_antisymm t c4,eN] at i1
     exact absurd i2 (Nat.not_lt.mpr i1)
    ·exact dn (hint+ofs) i i1 i2 c4
  case fin=>
   intro c st' hz_
   refine Elim.el hz_ _ ?_
   clear hz_
   rintro rfl last ofs rfl c1 c2 c3 c4
   exact ⟨rfl,last,ofs,rfl,c1,c3,c4, .inl (by first|lia|omega)⟩
  case step=>
   intro x c st' _ hx hz_
   refine Elim.el hz_ _ ?_
   clear hz_
   rintro rfl last ofs rfl c1 c2 c3 c4
   dsimp only [mo1]
   refine ifS (fun hge=>wpS_pure ⟨rfl,last,ofs,rfl,c1,c3,c4, .inl hge⟩) fun hge => ?_
   refine wpS_bind (tm_bey hL hst ha hk (by first|lia|omega) ?_)
   cases e2:bey left (key k) (ky key arr (base+(hint+ofs))) with
   | true=>
    exact wpS_pure ⟨rfl,ofs,2*ofs+1,rfl,by first|lia|omega,by first|lia|omega,by first|lia|omega,e2⟩
   | false=>
    exact wpS_pure ⟨rfl,last,ofs,rfl,c1,c3,c4, .inr e2⟩
 ·have e:=Bool.eq_false_iff.mpr e
  refine wpS_bind (wpS_mono (wpS_forRange (I:=fun x c st'=>st'=st∧∃last ofs,c=(none,last,ofs)∧last<ofs∧x+1≤ofs∧last<hint+1∧bey left (key k) (ky key arr (base+(hint-last)))=false)
   (Q:=fun c st'=>st'=st∧∃last ofs,c=(none,last,ofs)∧last<ofs∧last<hint+1∧bey left (key k) (ky key arr (base+(hint-last)))=false∧(hint+1≤ofs∨(ofs≤hint∧bey left (key k) (ky key arr (base+(hint-ofs)))=true))) ?step ?fin ⟨rfl,0,1,rfl,by first|lia|omega,by first|lia|omega,by first|lia|omega,e⟩) ?post)
  case post=>
   intro c st1 hz_
   refine Elim.el hz_ _ ?_
   clear hz_
   rintro rfl last ofs rfl c1 c2 c3 c4
   refine H (last,ofs,hint+1-min ofs (hint+1),hint-last) ⟨⟨?_,Nat.le_trans (Nat.sub_le _ _) (Nat.le_of_lt hh)⟩,fun i hi => ?_,fun i i1 i2=>dn (hint-last) i i1 i2 c3⟩
   ·show hint+1-min ofs (hint+1)≤hint-last
    rw [←Nat.succ_sub_succ hint last]
    exact Nat.sub_le_sub_left (Nat.le_min.mpr ⟨c1,c2⟩) _
   have hi:i<hint+1-min ofs (hint+1):=hi
   rcases c4 with c4|⟨c4,c5⟩
   ·rw [Nat.min_eq_right c4,Nat.sub_self] at hi
    exact absurd hi (Nat.not_lt_zero _)
   ·rw [Nat.min_eq_left (Nat.le_succ_of_le c4),Nat.succ_sub c4] at hi
    exact up i (hint-ofs) (Nat.le_of_lt_succ hi) (Nat.lt_of_le_of_lt (Nat.sub_le _ _) hh) c5
  case fin=>
   intro c st' hz_
   refine Elim.el hz_ _ ?_
   clear hz_
   rintro rfl last ofs rfl c1 c2 c3 c4
   exact ⟨rfl,last,ofs,rfl,c1,c3,c4, .inl (by first|lia|omega)⟩
  case step=>
   intro x c st' _ hx hz_
   refine Elim.el hz_ _ ?_
   clear hz_
   rintro rfl last ofs rfl c1 c2 c3 c4
   dsimp only [mo2]
   refine ifS (fun hge=>wpS_pure ⟨rfl,last,ofs,rfl,c1,c3,c4, .inl hge⟩) fun hge => ?_
   refine wpS_bind (tm_bey hL hst ha hk (by first|lia|omega) ?_)
   cases e2:bey left (key k) (ky key arr (base+(hint-ofs))) with
   | true=>
    exact wpS_pure ⟨rfl,last,ofs,rfl,c1,c3,c4, .inr ⟨by first|lia|omega,e2⟩⟩
   | false=>
    exact wpS_pure ⟨rfl,ofs,2*ofs+1,rfl,by first|lia|omega,by first|lia|omega,by first|lia|omega,e2⟩
end
end L2
namespace L2
open PySem PySem.Spec PyProof.Rows
def setG':Nat→StateT SortSt Sem Unit:=sortPriv% PySem.Builtin.setMinGallop
def withG (st:SortSt) (g:Nat):SortSt:=SortSt.mk' (kindOf st) (arrOf st) (pendingOf st) g (failedOf st)
def mergeLo':Array Keyed→Array Keyed→StateT SortSt Sem (Array Keyed):=sortPriv% PySem.Builtin.mergeLo
section
variable {prog:Program} {w:World} {A:Around} {E:Value→Shared→Prop} {s:Shared} {a₀:Array Keyed} {key:Keyed→Int} {kd:SortKind}
def Sl (key:Keyed→Int) (l:List Keyed):Prop:=l.Pairwise fun x y=>key x≤key y
structure Kp (st st':SortSt):Prop where
 kind:kindOf st'=kindOf st
 arr:arrOf st'=arrOf st
 pend:pendingOf st'=pendingOf st
 failed:failedOf st'=failedOf st
theorem Kp.refl (st:SortSt):Kp st st:=⟨rfl,rfl,rfl,rfl⟩
theorem Kp.gal {st st':SortSt} (h:Kp st st') (g:Nat):Kp st (withG st' g):=⟨h.kind,h.arr,h.pend,h.failed⟩
theorem ix {xs:Array Keyed} {i:Nat} {x:Keyed} (h:xs.toList[i]? = some x):xs[i]? = some x:=by rw [←h,Array.getElem?_toList]
theorem mem_drop {xs:Array Keyed} {i:Nat} {x:Keyed} (h:x∈xs.toList.drop i):∃j,i≤j∧j<xs.size∧ky key xs j=key x:=by
 obtain ⟨j,hj⟩:=List.mem_iff_getElem?.mp h
 rw [List.getElem?_drop] at hj
 have hl:=(List.getElem?_eq_some_iff.mp hj).1
 rw [Array.length_toList] at hl
 exact ⟨i+j,by first|lia|omega,hl,ky_of (ix hj)⟩
theorem mem_take {xs:Array Keyed} {i:Nat} {x:Keyed} (h:x∈xs.toList.take i):∃j,j<i∧j<xs.size∧ky key xs j=key x:=by
 obtain ⟨j,hj⟩:=List.mem_iff_getElem?.mp h
 have hl:=(List.getElem?_eq_some_iff.mp hj).1
 rw [List.length_take,Array.length_toList] at hl
 rw [List.getElem?_take_of_lt (by first|lia|omega)] at hj
 exact ⟨j,by first|lia|omega,by first|lia|omega,ky_of (ix hj)⟩
theorem mem_seg {xs:Array Keyed} {i k:Nat} {x:Keyed} (h:x∈(xs.toList.drop i).take k):∃j,i≤j∧j<i+k∧j<xs.size∧ky key xs j=key x:=by
 obtain ⟨j,hj⟩:=List.mem_iff_getElem?.mp h
 have hl:=(List.getElem?_eq_some_iff.mp hj).1
 rw [List.length_take,List.length_drop,Array.length_toList] at hl
 rw [List.getElem?_take_of_lt (by first|lia|omega),List.getElem?_drop] at hj
 exact ⟨i+j,by first|lia|omega,by first|lia|omega,by first|lia|omega,ky_of (ix hj)⟩
theorem seg1 {xs:Array Keyed} {i:Nat} {p:Keyed} (h:xs[i]? = some p):(xs.toList.drop i).take 1=[p]:=by
 rw [←Array.getElem?_toList] at h
 obtain ⟨hl,e⟩:=List.getElem?_eq_some_iff.mp h
 rw [List.drop_eq_getElem_cons hl,e];rfl
theorem sl_of {xs:Array Keyed} (h:Sg key xs 0 xs.size):Sl key xs.toList:=by
 refine List.pairwise_iff_getElem.mpr fun i j hi hj hij => ?_
 rw [Array.length_toList] at hi hj
 have:=h i j (by first|lia|omega) (by first|lia|omega) hj
 rwa [ky_of (getElem?_pos xs i hi),ky_of (getElem?_pos xs j hj)] at this
structure Mg (key:Keyed→Int) (a b:Array Keyed) (out:List Keyed) (ia ib:Nat):Prop where
 ha:ia≤a.size
 hb:ib≤b.size
 sa:Sg key a 0 a.size
 sb:Sg key b 0 b.size
 perm:(out++(a.toList.drop ia++b.toList.drop ib)).Perm (a.toList++b.toList)
 so:Sl key out
 la:∀x∈out,∀y∈a.toList.drop ia,key x≤key y
 lb:∀x∈out,∀y∈b.toList.drop ib,key x≤key y
theorem Mg.swap {a b:Array Keyed} {out:List Keyed} {ia ib:Nat} (h:Mg key a b out ia ib):Mg key b a out ib ia:=
 ⟨h.hb,h.ha,h.sb,h.sa,((List.perm_append_comm).append_left out).trans (h.perm.trans List.perm_append_comm),h.so,h.lb,h.la⟩
theorem Mg.tA {a b:Array Keyed} {out:List Keyed} {ia ib k:Nat} (h:Mg key a b out ia ib) (hk:ia+k≤a.size) (q:∀j,ia≤j→j<ia+k→ky key a j≤ky key b ib):Mg key a b (out++(a.toList.drop ia).take k) (ia+k) ib:=by
 have e:a.toList.drop ia=(a.toList.drop ia).take k++a.toList.drop (ia+k):=by
  rw [←List.drop_drop,List.take_append_drop]
 have sd:Sl key (a.toList.drop ia):=(sl_of h.sa).sublist (List.drop_sublist _ _)
 rw [e] at sd
 obtain ⟨s1,s2,s3⟩:=List.pairwise_append.mp sd
 refine ⟨hk,h.hb,h.sa,h.sb,?_,?_,?_,?_⟩
 ·have p:=h.perm
  rw [e] at p
  rw [List.append_assoc] at p ⊢
  exact p
 ·refine List.pairwise_append.mpr ⟨h.so,s1,fun x hx y hy=>h.la x hx y (List.mem_of_mem_take hy)⟩
 ·intro x hx y hy
  rcases List.mem_append.mp hx with hx|hx
  ·exact h.la x hx y (by rw [e];exact List.mem_append_right _ hy)
  ·exact s3 x hx y hy
 ·intro x hx y hy
  rcases List.mem_append.mp hx with hx|hx
  ·exact h.lb x hx y hy
  ·obtain ⟨j,j1,j2,j3,e1⟩:=mem_seg (key:=key) hx
   obtain ⟨i,i1,i2,e2⟩:=mem_drop (key:=key) hy
   have:=q j j1 j2
   have:=h.sb ib i (by first|lia|omega) i1 i2
   (first|lia|omega)
theorem Mg.tB {a b:Array Keyed} {out:List Keyed} {ia ib k:Nat} (h:Mg key a b out ia ib) (hk:ib+k≤b.size) (q:∀j,ib≤j→j<ib+k→ky key b j≤ky key a ia):Mg key a b (out++(b.toList.drop ib).take k) ia (ib+k):=
 (h.swap.tA hk q).swap
theorem Mg.pushA {a b out:Array Keyed} {ia ib:Nat} {p:Keyed} (h:Mg key a b out.toList ia ib) (e:a[ia]? = some p) (hk:ia<a.size) (q:ky key a ia≤ky key b ib):Mg key a b (out.push p).toList (ia+1) ib:=by
 rw [Array.toList_push, ←seg1 e]
 exact h.tA hk fun j j1 j2=>by rw [show j=ia by first|lia|omega];exact q
theorem Mg.pushB {a b out:Array Keyed} {ia ib:Nat} {p:Keyed} (h:Mg key a b out.toList ia ib) (e:b[ib]? = some p) (hk:ib<b.size) (q:ky key b ib≤ky key a ia):Mg key a b (out.push p).toList ia (ib+1):=by
 rw [Array.toList_push, ←seg1 e]
 exact h.tB hk fun j j1 j2=>by rw [show j=ib by first|lia|omega];exact q
theorem ext_toList {xs:Array Keyed} {i k:Nat} (h:i+k≤xs.size):(xs.extract i (i+k)).toList=(xs.toList.drop i).take k:=by
 rw [Array.toList_extract,List.extract_eq_take_drop]
 congr 1; (first|lia|omega)
theorem ext_end {xs:Array Keyed} {i:Nat} : (xs.extract i xs.size).toList=xs.toList.drop i:=by
 rw [Array.toList_extract,List.extract_eq_take_drop]
 refine List.take_of_length_le ?_
 rw [List.length_drop,Array.length_toList]; (first|lia|omega)
theorem Mg.exA {a b out:Array Keyed} {ia ib k:Nat} (h:Mg key a b out.toList ia ib) (hk:ia+k≤a.size) (q:∀j,ia≤j→j<ia+k→ky key a j≤ky key b ib):Mg key a b (out++a.extract ia (ia+k)).toList (ia+k) ib:=by
 rw [Array.toList_append,ext_toList hk]
 exact h.tA hk q
theorem Mg.exB {a b out:Array Keyed} {ia ib k:Nat} (h:Mg key a b out.toList ia ib) (hk:ib+k≤b.size) (q:∀j,ib≤j→j<ib+k→ky key b j≤ky key a ia):Mg key a b (out++b.extract ib (ib+k)).toList ia (ib+k):=by
 rw [Array.toList_append,ext_toList hk]
 exact h.tB hk q
def Good (key:Keyed→Int) (a b res:Array Keyed):Prop:=res.toList.Perm (a.toList++b.toList)∧Sl key res.toList
theorem Mg.done {a b out:Array Keyed} {ia ib:Nat} (h:Mg key a b out.toList ia ib) (q:ia=a.size∨ib=b.size):Good key a b (out++a.extract ia a.size++b.extract ib b.size):=by
 unfold Good
 rw [Array.toList_append,Array.toList_append,ext_end,ext_end,List.append_assoc]
 refine ⟨h.perm,List.pairwise_append.mpr ⟨h.so,List.pairwise_append.mpr ⟨(sl_of h.sa).sublist (List.drop_sublist _ _),(sl_of h.sb).sublist (List.drop_sublist _ _),fun x hx y hy => ?_⟩,fun x hx y hy => ?_⟩⟩
 ·obtain ⟨j,j1,j2,_⟩:=mem_drop (key:=key) hx
  obtain ⟨i,i1,i2,_⟩:=mem_drop (key:=key) hy
  (first|lia|omega)
 ·rcases List.mem_append.mp hy with hy|hy
  ·exact h.la x hx y hy
  ·exact h.lb x hx y hy
theorem Mg.last {a b out:Array Keyed} {ia ib:Nat} (h:Mg key a b out.toList ia ib) (e:ia+1=a.size) (q:∀j,j<b.size→ky key b j≤ky key a (a.size-1)):Good key a b (out++b.extract ib b.size++a.extract ia a.size):=by
 unfold Good
 rw [Array.toList_append,Array.toList_append,ext_end,ext_end,List.append_assoc]
 refine ⟨(List.perm_append_comm.append_left out.toList).trans h.perm,List.pairwise_append.mpr ⟨h.so,List.pairwise_append.mpr ⟨(sl_of h.sb).sublist (List.drop_sublist _ _),(sl_of h.sa).sublist (List.drop_sublist _ _),fun x hx y hy => ?_⟩,fun x hx y hy => ?_⟩⟩
 ·obtain ⟨j,j1,j2,e1⟩:=mem_drop (key:=key) hx
  obtain ⟨i,i1,i2,e2⟩:=mem_drop (key:=key) hy
  have:=q j j2
  rw [show a.size-1=i by first|lia|omega] at this
  (first|lia|omega)
 ·rcases List.mem_append.mp hy with hy|hy
  ·exact h.lb x hx y hy
  ·exact h.la x hx y hy
theorem gal_le {k x:Int} (h:bey false k x=true):x≤k:=by unfold bey at h;simp at h;exact h
theorem gal_lt {k x:Int} (h:bey false k x=false):k<x:=by unfold bey at h;simp at h;exact h
theorem gal_le' {k x:Int} (h:bey true k x=true):x<k:=by unfold bey at h;simp at h;exact h
theorem gal_lt' {k x:Int} (h:bey true k x=false):k≤x:=by unfold bey at h;simp at h;exact h
end
end L2
namespace L2
open PySem PySem.Spec PyProof.Rows
section
variable {prog:Program} {w:World} {A:Around} {E:Value→Shared→Prop} {s:Shared} {a₀:Array Keyed} {key:Keyed→Int} {kd:SortKind}
theorem elemB {α:Type} {xs:Array Keyed} {i:Nat} {f:Keyed→StateT SortSt Sem α} {Q : α→SortSt→Prop} {st:SortSt} (hi:i<xs.size) (h:∀p,xs[i]? = some p→wpS (model prog w) A E s (f p) Q st):wpS (model prog w) A E s (elem' xs i >>= f) Q st:=wpS_bind (tm_elem hi h)
theorem ltB {α:Type} {x y:Keyed} {f:Option Bool→StateT SortSt Sem α} {Q : α→SortSt→Prop} {st:SortSt} (hL:Lts prog w A E s a₀ key kd) (hx:x∈a₀.toList) (hy:y∈a₀.toList) (hk:kindOf st=kd) (h:wpS (model prog w) A E s (f (some (decide (key x<key y)))) Q st):wpS (model prog w) A E s (lt' x y >>= f) Q st:=wpS_bind (hL _ _ _ _ hx hy hk h)
theorem gallopB {α:Type} {left:Bool} {k:Keyed} {arr:Array Keyed} {base n hint:Nat} {st:SortSt} {f:Option Nat→StateT SortSt Sem α} {Q : α→SortSt→Prop} (hL:Lts prog w A E s a₀ key kd) (hst:kindOf st=kd) (ha:∀p∈arr.toList,p∈a₀.toList) (hk:k∈a₀.toList)
  (hs:Sg key arr base (base+n)) (hn:base+n≤arr.size) (hh:hint<n) (h:∀r,Gal left (key k) key arr base n r→wpS (model prog w) A E s (f (some r)) Q st):wpS (model prog w) A E s (gallop' left k arr base n hint >>= f) Q st:=wpS_bind (tm_gallop hL hst ha hk hs hn hh h)
theorem tup6 {α β γ δ ε ζ:Type} {P : α × β × γ × δ × ε × ζ→Prop} (h:∀a b c d e f,P (a,b,c,d,e,f)):∀x,P x:=fun ⟨a,b,c,d,e,f⟩=>h a b c d e f
theorem tup7 {α β γ δ ε ζ η:Type} {P : α × β × γ × δ × ε × ζ × η→Prop} (h:∀a b c d e f g,P (a,b,c,d,e,f,g)):∀x,P x:=fun ⟨a,b,c,d,e,f,g⟩=>h a b c d e f g
theorem setGo {α:Type} {g:Nat} {f:Unit→StateT SortSt Sem α} {st st3:SortSt} {Q : α→SortSt→Prop} (kp:Kp st st3) (h:∀st4,Kp st st4→wpS (model prog w) A E s (f ()) Q st4):wpS (model prog w) A E s (setG' g >>= f) Q st3:=by
 exact wpS_bind (m:=setG' g) (wpS_modify (f:=fun s=>withG s g) (h _ (kp.gal g)))
theorem mem_of {xs:Array Keyed} {i:Nat} {p:Keyed} (h:xs[i]? = some p):p∈xs.toList:=Array.mem_toList_iff.mpr (Array.mem_of_getElem? h)
theorem sg_from {xs:Array Keyed} {i j:Nat} (h:Sg key xs 0 j):Sg key xs i j:=fun p q _ h2 h3=>h p q (Nat.zero_le _) h2 h3
abbrev LoI0 (key:Keyed→Int) (a b:Array Keyed) (st:SortSt) (x:Nat) (c:Option (Array Keyed)×Array Keyed×Nat×Nat×Nat) (st':SortSt):Prop:=Kp st st'∧∃out ia ib g,c=(none,out,ia,ib,g)∧Mg key a b out.toList ia ib∧x+1≤ia+ib∧ia+1<a.size∧ib<b.size
abbrev LoQ0 (key:Keyed→Int) (a b:Array Keyed) (st:SortSt) (c:Option (Array Keyed)×Array Keyed×Nat×Nat×Nat) (st':SortSt):Prop:=Kp st st'∧∃r,c.1=some r∧Good key a b r
abbrev LoI1 (key:Keyed→Int) (a b:Array Keyed) (st1:SortSt) (x:Nat) (y:Nat) (c:Option (Array Keyed)×Array Keyed×Nat×Nat×Nat×Nat) (st':SortSt):Prop:=st'=st1∧∃out ia ib p q,c=(none,out,ia,ib,p,q)∧Mg key a b out.toList ia ib∧x+1+y≤ia+ib∧ia+1<a.size∧ib<b.size
abbrev LoQ1 (key:Keyed→Int) (a b:Array Keyed) (st1:SortSt) (x:Nat) (c:Option (Array Keyed)×Array Keyed×Nat×Nat×Nat×Nat) (st':SortSt):Prop:=st'=st1∧((∃r,c.1=some r∧Good key a b r)∨(c.1=none∧Mg key a b c.2.1.toList c.2.2.1 c.2.2.2.1∧x+2≤c.2.2.1+c.2.2.2.1∧c.2.2.1+1<a.size∧c.2.2.2.1<b.size))
abbrev LoI2 (key:Keyed→Int) (a b:Array Keyed) (st:SortSt) (x:Nat) (y:Nat) (c:Option (Array Keyed)×Array Keyed×Nat×Nat×Nat×Nat×Nat) (st':SortSt):Prop:=Kp st st'∧∃out ia ib g p q,c=(none,out,ia,ib,g,p,q)∧Mg key a b out.toList ia ib∧x+2≤ia+ib∧ia+1<a.size∧ib<b.size
abbrev LoQ2 (key:Keyed→Int) (a b:Array Keyed) (st:SortSt) (x:Nat) (c:Option (Array Keyed)×Array Keyed×Nat×Nat×Nat×Nat×Nat) (st':SortSt):Prop:=Kp st st'∧((∃r,c.1=some r∧Good key a b r)∨(c.1=none∧Mg key a b c.2.1.toList c.2.2.1 c.2.2.2.1∧x+2≤c.2.2.1+c.2.2.2.1∧c.2.2.1+1<a.size∧c.2.2.2.1<b.size))
theorem tm_lo {a b:Array Keyed} {st:SortSt} {Q:Array Keyed→SortSt→Prop} (hL:Lts prog w A E s a₀ key kd) (hk:kindOf st=kd) (ham:∀p∈a.toList,p∈a₀.toList) (hbm:∀p∈b.toList,p∈a₀.toList)
  (hsa:Sg key a 0 a.size) (hsb:Sg key b 0 b.size) (ha1:1≤a.size) (hb1:1≤b.size) (h0:ky key b 0≤ky key a 0) (hl:∀j,j<b.size→ky key b j≤ky key a (a.size-1))
  (h:∀res st',Kp st st'→Good key a b res→Q res st'):wpS (model prog w) A E s (mergeLo' a b) Q st:=by
 refine wpS_bind (m:=liftM (rule "list.sort.merge-lo")) (wpS_lift (wpAny_rule ⟨rfl,?_⟩))
 refine elemB hb1 fun p e => ?_
 have mz:Mg key a b (#[]:Array Keyed).toList 0 0:=⟨Nat.zero_le _,Nat.zero_le _,hsa,hsb,by simp, .nil,(fun _ h=>by cases h),(fun _ h=>by cases h)⟩
 have m0:Mg key a b (#[p]:Array Keyed).toList 0 1:=mz.pushB e hb1 h0
 refine ifE (fun z1=>wpS_pure (h _ _ (Kp.refl _) (m0.done (.inr z1)))) fun z1 => ?_
 refine ifE (fun z2=>wpS_pure (h _ _ (Kp.refl _) (m0.last z2 hl))) fun z2 => ?_
 refine wpS_bind (wpS_get ?_)
 refine wpS_bind (wpS_mono (wpS_forRange
  (I:=LoI0 key a b st)
  (Q:=LoQ0 key a b st) ?step ?fin ⟨Kp.refl _,_,_,_,_,rfl,m0,by first|lia|omega,by first|lia|omega,by first|lia|omega⟩) ?post)
 case post=>
  rintro ⟨c1,c⟩ st' ⟨kp,r,e1,g⟩
  cases e1
  exact wpS_pure (h _ _ kp g)
 case fin=>
  intro c st' hz_
  refine Elim.el hz_ _ ?_
  clear hz_
  rintro kp out ia ib g rfl mm h1 h2 h3
  rw [Nat.zero_max] at h1
  (first|lia|omega)
 case step=>
  intro x c st1 _ hx hz_
  refine Elim.el hz_ _ ?_
  clear hz_
  rintro kp1 out ia ib g rfl mm h1 h2 h3
  dsimp -zeta only
  refine wpS_bind (wpS_mono (wpS_forRange
   (I:=LoI1 key a b st1 x)
   (Q:=LoQ1 key a b st1 x) ?step1 ?fin1 ⟨rfl,out,ia,ib,_,_,rfl,mm,by first|lia|omega,h2,h3⟩) ?post1)
  case fin1=>
   intro c st' hz_
   refine Elim.el hz_ _ ?_
   clear hz_
   rintro rfl out ia ib p q rfl mm h1 h2 h3
   exact ⟨rfl, .inr ⟨rfl,mm,by rw [Nat.zero_max] at h1;show x+2≤ia+ib; (first|lia|omega),h2,h3⟩⟩
  case step1=>
   intro y c st' _ hy hz_
   refine Elim.el hz_ _ ?_
   clear hz_
   rintro rfl out ia ib p q rfl mm h1 h2 h3
   dsimp only
   refine elemB h3 fun p1 e1=>elemB (Nat.lt_of_succ_lt h2) fun p2 e2 => ?_
   refine ltB hL (hbm _ (mem_of e1)) (ham _ (mem_of e2)) (kp1.kind.trans hk) ?_
   rw [←ky_of (key:=key) e1, ←ky_of (key:=key) e2]
   by_cases hlt:ky key b ib<ky key a ia
   ·rw [decide_eq_true hlt]
    dsimp only
    refine ifP rfl ?_
    refine elemB h3 fun p3 e3 => ?_
    have m1:=mm.pushB e3 h3 (Int.le_of_lt hlt)
    refine ifE (fun z3=>wpS_pure ⟨rfl, .inl ⟨_,rfl,m1.done (.inr z3)⟩⟩) fun z3 => ?_
    refine ifS (fun z4=>wpS_pure ⟨rfl, .inr ⟨rfl,m1,by show x+2≤ia+(ib+1); (first|lia|omega),h2,Nat.lt_of_le_of_ne h3 z3⟩⟩) fun z4 => ?_
    exact wpS_pure ⟨rfl,_,_,_,_,_,rfl,m1,by first|lia|omega,h2,Nat.lt_of_le_of_ne h3 z3⟩
   ·rw [decide_eq_false hlt]
    dsimp only
    refine ifN Bool.false_ne_true ?_
    refine elemB (Nat.lt_of_succ_lt h2) fun p3 e3 => ?_
    have m1:=mm.pushA e3 (by first|lia|omega) (Int.not_lt.mp hlt)
    refine ifE (fun z3=>wpS_pure ⟨rfl, .inl ⟨_,rfl,m1.last z3 hl⟩⟩) fun z3 => ?_
    refine ifS (fun z4=>wpS_pure ⟨rfl, .inr ⟨rfl,m1,by show x+2≤ia+1+ib; (first|lia|omega),Nat.lt_of_le_of_ne h2 z3,h3⟩⟩) fun z4 => ?_
    exact wpS_pure ⟨rfl,_,_,_,_,_,rfl,m1,by first|lia|omega,Nat.lt_of_le_of_ne h2 z3,h3⟩
  refine tup6 fun c1 out ia ib p q => ?_
  intro st2 hc
  have es:st2=st1:=hc.1
  subst es
  refine Or.elim hc.2 (fun gg => ?_) fun gg => ?_
  ·refine Elim.el gg _ ?_
   intro r e1 gd
   have e1:c1=some r:=e1
   subst e1
   exact wpS_pure ⟨kp1,r,rfl,gd⟩
  have e1:c1=none:=gg.1
  have mm:Mg key a b out.toList ia ib:=gg.2.1
  have h1:x+2≤ia+ib:=gg.2.2.1
  have h2:ia+1<a.size:=gg.2.2.2.1
  have h3:ib<b.size:=gg.2.2.2.2
  clear gg hc
  subst e1
  dsimp -zeta only
  refine wpS_bind (wpS_lift (wpAny_rule ⟨rfl,?_⟩))
  refine wpS_bind (wpS_mono (wpS_forRange
   (I:=LoI2 key a b st x)
   (Q:=LoQ2 key a b st x) ?step2 ?fin2 ⟨kp1,out,ia,ib,_,_,_,rfl,mm,by first|lia|omega,h2,h3⟩) ?post2)
  case fin2=>
   intro c st' hz_
   refine Elim.el hz_ _ ?_
   clear hz_
   rintro kp out ia ib g p q rfl mm h1 h2 h3
   exact ⟨kp, .inr ⟨rfl,mm,h1,h2,h3⟩⟩
  case post2=>
   refine tup7 fun c1 out ia ib g p q => ?_
   intro st3 hc
   have kp:Kp st st3:=hc.1
   refine Or.elim hc.2 (fun gg => ?_) fun gg => ?_
   ·refine Elim.el gg _ ?_
    intro r e1 gd
    have e1:c1=some r:=e1
    subst e1
    exact wpS_pure ⟨kp,r,rfl,gd⟩
   have e1:c1=none:=gg.1
   have mm:Mg key a b out.toList ia ib:=gg.2.1
   have h1:x+2≤ia+ib:=gg.2.2.1
   have h2:ia+1<a.size:=gg.2.2.2.1
   have h3:ib<b.size:=gg.2.2.2.2
   clear gg hc
   subst e1
   dsimp only
   exact setGo kp fun st4 kk=>wpS_pure ⟨kk,_,_,_,_,rfl,mm,by first|lia|omega,h2,h3⟩
  case step2=>
   intro y c st3 _ hy hz_
   refine Elim.el hz_ _ ?_
   clear hz_
   rintro kp out ia ib g p q rfl mm h1 h2 h3
   dsimp -zeta only
   extract_lets s1 o1 s2 i1 s3 i2 s4 mg s5 ac bc ib1 jp mg1
   refine jpGo (fun z:Nat=>jp () z) (fun _=>True) (fun g' _ => ?_) fun H => ?_
   rotate_left
   ·exact ifS (fun _=>H _ trivial) fun _=>H _ trivial
   refine setGo kp fun st4 kk => ?_
   dsimp -zeta only [s1,o1,s2,i1,s3,i2,s4,mg,s5,ac,bc,ib1]
   have hkd:kindOf st4=kd:=kk.kind.trans hk
   have eA:ia+(a.size-ia)=a.size:=Nat.add_sub_of_le (Nat.le_of_lt (Nat.lt_of_succ_lt h2))
   refine elemB h3 fun p1 e1 => ?_
   refine gallopB hL hkd ham (hbm _ (mem_of e1)) (by rw [eA];exact sg_from hsa) (Nat.le_of_eq eA) (by first|lia|omega) fun k1 g1 => ?_
   obtain ⟨g11,g12,g13⟩:=g1
   rw [←ky_of (key:=key) e1] at g12 g13
   dsimp -zeta only
   extract_lets ac2 jp2 o2 i3
   refine jpGo (fun z:Array Keyed×Nat=>jp2 () z.1 z.2) (fun z=>Mg key a b z.1.toList z.2 ib∧ia≤z.2∧z.2+1<a.size∧ky key b ib≤ky key a z.2) (fun z hz => ?_) fun H => ?_
   rotate_left
   ·refine ifS (fun ka => ?_) fun ka => ?_
    ·have ka':k1>0:=ka
     have kA:ia+k1≤a.size:=Nat.le_trans (Nat.add_le_add_left g11 ia) (Nat.le_of_eq eA)
     have m1:=mm.exA (k:=k1) kA (fun j j1 j2=>by have:=gal_le (g12 (j-ia) (Nat.sub_lt_left_of_lt_add j1 j2));rw [Nat.add_sub_of_le j1] at this;exact this)
     refine ifE (fun z1=>wpS_pure ⟨kk, .inl ⟨_,rfl,m1.last z1 hl⟩⟩) fun z1 => ?_
     refine ifE (fun z2=>wpS_pure ⟨kk, .inl ⟨_,rfl,m1.done (.inl z2)⟩⟩) fun z2 => ?_
     exact H (o2,i3) ⟨m1,Nat.le_add_right _ _,Nat.lt_of_le_of_ne (Nat.lt_of_le_of_ne kA z2) z1,Int.le_of_lt (gal_lt (g13 k1 (Nat.le_refl _) (by first|lia|omega)))⟩
    ·exact H (out,ia) ⟨mm,Nat.le_refl _,h2,Int.le_of_lt (gal_lt (g13 0 (by first|lia|omega) (by first|lia|omega)))⟩
   obtain ⟨out2,ia2⟩:=z
   have m1:Mg key a b out2.toList ia2 ib:=hz.1
   have n1:ia≤ia2:=hz.2.1
   have n2:ia2+1<a.size:=hz.2.2.1
   have n3:ky key b ib≤ky key a ia2:=hz.2.2.2
   clear hz
   refine elemB h3 fun p2 e2 => ?_
   have m2:=m1.pushB e2 h3 n3
   dsimp -zeta only [ac2]
   extract_lets o3
   refine ifE (fun z3=>wpS_pure ⟨kk, .inl ⟨_,rfl,m2.done (.inr z3)⟩⟩) fun z3 => ?_
   have eB:ib+1+(b.size-(ib+1))=b.size:=Nat.add_sub_of_le h3
   have h4:ib+1<b.size:=Nat.lt_of_le_of_ne h3 z3
   refine elemB (Nat.lt_of_succ_lt n2) fun p3 e3 => ?_
   refine gallopB hL hkd hbm (ham _ (mem_of e3)) (by rw [eB];exact sg_from hsb) (Nat.le_of_eq eB) (Nat.sub_pos_of_lt h4) fun k2 g2 => ?_
   obtain ⟨g21,g22,g23⟩:=g2
   rw [←ky_of (key:=key) e3] at g22 g23
   dsimp -zeta only
   extract_lets bc2 jp3 o4 i4
   refine jpGo (fun z:Array Keyed×Nat=>jp3 () z.1 z.2) (fun z=>Mg key a b z.1.toList ia2 z.2∧ib≤z.2∧z.2<b.size∧ky key a ia2≤ky key b z.2) (fun z hz => ?_) fun H => ?_
   rotate_left
   ·refine ifS (fun kz => ?_) fun kz => ?_
    ·have kB:ib+1+k2≤b.size:=Nat.le_trans (Nat.add_le_add_left g21 _) (Nat.le_of_eq eB)
     have m3:=m2.exB (k:=k2) kB (fun j j1 j2=>by have:=gal_le' (g22 (j-(ib+1)) (Nat.sub_lt_left_of_lt_add j1 j2));rw [Nat.add_sub_of_le j1] at this;exact Int.le_of_lt this)
     refine ifE (fun z4=>wpS_pure ⟨kk, .inl ⟨_,rfl,m3.done (.inr z4)⟩⟩) fun z4 => ?_
     exact H (o4,i4) ⟨m3,Nat.le_trans (Nat.le_succ _) (Nat.le_add_right _ _),Nat.lt_of_le_of_ne kB z4,gal_lt' (g23 k2 (Nat.le_refl _) (by first|lia|omega))⟩
    ·exact H (o3,ib+1) ⟨m2,Nat.le_succ _,h4,gal_lt' (g23 0 (by first|lia|omega) (Nat.sub_pos_of_lt h4))⟩
   obtain ⟨out3,ib3⟩:=z
   have m3:Mg key a b out3.toList ia2 ib3:=hz.1
   have n4:ib≤ib3:=hz.2.1
   have n5:ib3<b.size:=hz.2.2.1
   have n6:ky key a ia2≤ky key b ib3:=hz.2.2.2
   clear hz
   refine elemB (Nat.lt_of_succ_lt n2) fun p4 e4 => ?_
   have m4:=m3.pushA e4 (by first|lia|omega) n6
   dsimp only [bc2]
   refine ifE (fun z5=>wpS_pure ⟨kk, .inl ⟨_,rfl,m4.last z5 hl⟩⟩) fun z5 => ?_
   refine ifS (fun _ => ?_) fun _ => ?_
   ·exact wpS_pure ⟨kk, .inr ⟨rfl,m4,by dsimp only; (first|lia|omega),Nat.lt_of_le_of_ne n2 z5,n5⟩⟩
   ·exact wpS_pure ⟨kk,_,_,_,_,_,_,rfl,m4,by first|lia|omega,Nat.lt_of_le_of_ne n2 z5,n5⟩
end
end L2
namespace L2
open PySem PySem.Spec PyProof.Rows
def mergeHi':Array Keyed→Array Keyed→StateT SortSt Sem (Array Keyed):=sortPriv% PySem.Builtin.mergeHi
section
variable {prog:Program} {w:World} {A:Around} {E:Value→Shared→Prop} {s:Shared} {a₀:Array Keyed} {key:Keyed→Int} {kd:SortKind}
theorem sg_to {xs:Array Keyed} {n:Nat} (hn:n≤xs.size) (h:Sg key xs 0 xs.size):Sg key xs 0 (0+n):=fun p q h1 h2 h3=>h p q h1 h2 (by first|lia|omega)
structure Mh (key:Keyed→Int) (a b:Array Keyed) (out:List Keyed) (na nb:Nat):Prop where
 ha:na≤a.size
 hb:nb≤b.size
 sa:Sg key a 0 a.size
 sb:Sg key b 0 b.size
 perm:(a.toList.take na++b.toList.take nb++out.reverse).Perm (a.toList++b.toList)
 so:Sl key out.reverse
 la:∀x∈a.toList.take na,∀y∈out,key x≤key y
 lb:∀x∈b.toList.take nb,∀y∈out,key x≤key y
theorem Mh.swap {a b:Array Keyed} {out:List Keyed} {na nb:Nat} (h:Mh key a b out na nb):Mh key b a out nb na:=
 ⟨h.hb,h.ha,h.sb,h.sa,((List.perm_append_comm).append_right _).trans (h.perm.trans List.perm_append_comm),h.so,h.lb,h.la⟩
theorem mem_segR {xs:Array Keyed} {t n:Nat} {x:Keyed} (h:x∈(xs.toList.take n).drop t):∃j,t≤j∧j<n∧j<xs.size∧ky key xs j=key x:=by
 rw [List.drop_take] at h
 obtain ⟨j,j1,j2,j3,e⟩:=mem_seg (key:=key) h
 exact ⟨j,j1,by first|lia|omega,j3,e⟩
theorem Mh.tA {a b:Array Keyed} {out:List Keyed} {na nb t:Nat} (h:Mh key a b out na nb) (ht:t≤na) (hn:1≤nb) (q:∀j,t≤j→j<na→ky key b (nb-1)≤ky key a j):Mh key a b (out++((a.toList.take na).drop t).reverse) t nb:=by
 have e:a.toList.take na=a.toList.take t++(a.toList.take na).drop t:=by
  have:=List.take_append_drop t (a.toList.take na)
  rw [List.take_take,Nat.min_eq_left ht] at this
  exact this.symm
 have sd:Sl key (a.toList.take na):=(sl_of h.sa).sublist (List.take_sublist _ _)
 rw [e] at sd
 refine Elim.el (List.pairwise_append.mp sd) _ ?_
 rintro s1 s2 s3
 have ha:=h.ha
 have hb:=h.hb
 refine ⟨by first|lia|omega,h.hb,h.sa,h.sb,?_,?_,?_,?_⟩
 ·have p:=h.perm
  rw [e,List.append_assoc,List.append_assoc] at p
  rw [List.reverse_append,List.reverse_reverse,List.append_assoc]
  refine List.Perm.trans (List.Perm.append_left _ ?_) p
  rw [←List.append_assoc, ←List.append_assoc]
  exact List.perm_append_comm.append_right _
 ·rw [List.reverse_append,List.reverse_reverse]
  exact List.pairwise_append.mpr ⟨s2,h.so,fun x hx y hy=>h.la x (List.mem_of_mem_drop hx) y (List.mem_reverse.mp hy)⟩
 ·intro x hx y hy
  rcases List.mem_append.mp hy with hy|hy
  ·exact h.la x (by rw [e];exact List.mem_append_left _ hx) y hy
  ·exact s3 x hx y (List.mem_reverse.mp hy)
 ·intro x hx y hy
  rcases List.mem_append.mp hy with hy|hy
  ·exact h.lb x hx y hy
  ·obtain ⟨j,j1,j2,j3,e1⟩:=mem_segR (key:=key) (List.mem_reverse.mp hy)
   obtain ⟨i,i1,i2,e2⟩:=mem_take (key:=key) hx
   have:=q j j1 j2
   have:=h.sb i (nb-1) (by first|lia|omega) (by first|lia|omega) (by first|lia|omega)
   (first|lia|omega)
theorem Mh.tB {a b:Array Keyed} {out:List Keyed} {na nb t:Nat} (h:Mh key a b out na nb) (ht:t≤nb) (hn:1≤na) (q:∀j,t≤j→j<nb→ky key a (na-1)≤ky key b j):Mh key a b (out++((b.toList.take nb).drop t).reverse) na t:=
 (h.swap.tA ht hn q).swap
theorem segR1 {xs:Array Keyed} {n:Nat} {p:Keyed} (hn:1≤n) (h:xs[n-1]? = some p):((xs.toList.take n).drop (n-1)).reverse=[p]:=by
 rw [List.drop_take,show n-(n-1)=1 by first|lia|omega,seg1 h];rfl
theorem Mh.pushA {a b out:Array Keyed} {na nb:Nat} {p:Keyed} (h:Mh key a b out.toList na nb) (hn:1≤na) (e:a[na-1]? = some p) (hb:1≤nb) (q:ky key b (nb-1)≤ky key a (na-1)):Mh key a b (out.push p).toList (na-1) nb:=by
 rw [Array.toList_push, ←segR1 hn e]
 exact h.tA (by first|lia|omega) hb fun j j1 j2=>by rw [show j=na-1 by first|lia|omega];exact q
theorem Mh.pushB {a b out:Array Keyed} {na nb:Nat} {p:Keyed} (h:Mh key a b out.toList na nb) (hn:1≤nb) (e:b[nb-1]? = some p) (hb:1≤na) (q:ky key a (na-1)≤ky key b (nb-1)):Mh key a b (out.push p).toList na (nb-1):=by
 rw [Array.toList_push, ←segR1 hn e]
 exact h.tB (by first|lia|omega) hb fun j j1 j2=>by rw [show j=nb-1 by first|lia|omega];exact q
theorem extR {xs:Array Keyed} {t n:Nat} : (xs.extract t n).toList=(xs.toList.take n).drop t:=by
 rw [Array.toList_extract,List.extract_eq_take_drop,List.drop_take]
theorem Mh.exA {a b out:Array Keyed} {na nb t:Nat} (h:Mh key a b out.toList na nb) (ht:t≤na) (hn:1≤nb) (q:∀j,t≤j→j<na→ky key b (nb-1)≤ky key a j):Mh key a b (out++(a.extract t na).reverse).toList t nb:=by
 rw [Array.toList_append,Array.toList_reverse,extR]
 exact h.tA ht hn q
theorem Mh.exB {a b out:Array Keyed} {na nb t:Nat} (h:Mh key a b out.toList na nb) (ht:t≤nb) (hn:1≤na) (q:∀j,t≤j→j<nb→ky key a (na-1)≤ky key b j):Mh key a b (out++(b.extract t nb).reverse).toList na t:=by
 rw [Array.toList_append,Array.toList_reverse,extR]
 exact h.tB ht hn q
theorem ext0 {xs:Array Keyed} {n:Nat} : (xs.extract 0 n).toList=xs.toList.take n:=by rw [extR,List.drop_zero]
theorem Mh.done {a b out:Array Keyed} {na nb:Nat} (h:Mh key a b out.toList na nb) (q:na=0∨nb=0):Good key a b (a.extract 0 na++b.extract 0 nb++out.reverse):=by
 unfold Good
 rw [Array.toList_append,Array.toList_append,ext0,ext0,Array.toList_reverse]
 refine ⟨h.perm,List.pairwise_append.mpr ⟨List.pairwise_append.mpr ⟨(sl_of h.sa).sublist (List.take_sublist _ _),(sl_of h.sb).sublist (List.take_sublist _ _),fun x hx y hy => ?_⟩,h.so,fun x hx y hy => ?_⟩⟩
 ·obtain ⟨j,j1,j2,_⟩:=mem_take (key:=key) hx
  obtain ⟨i,i1,i2,_⟩:=mem_take (key:=key) hy
  (first|lia|omega)
 ·rcases List.mem_append.mp hx with hx|hx
  ·exact h.la x hx y (List.mem_reverse.mp hy)
  ·exact h.lb x hx y (List.mem_reverse.mp hy)
theorem Mh.first {a b out:Array Keyed} {na nb:Nat} (h:Mh key a b out.toList na nb) (e:nb=1) (q:ky key b 0≤ky key a 0):Good key a b (b.extract 0 nb++a.extract 0 na++out.reverse):=by
 unfold Good
 rw [Array.toList_append,Array.toList_append,ext0,ext0,Array.toList_reverse]
 refine ⟨(List.perm_append_comm.append_right _).trans h.perm,List.pairwise_append.mpr ⟨List.pairwise_append.mpr ⟨(sl_of h.sb).sublist (List.take_sublist _ _),(sl_of h.sa).sublist (List.take_sublist _ _),fun x hx y hy => ?_⟩,h.so,fun x hx y hy => ?_⟩⟩
 ·obtain ⟨j,j1,j2,e1⟩:=mem_take (key:=key) hx
  obtain ⟨i,i1,i2,e2⟩:=mem_take (key:=key) hy
  have:=h.sa 0 i (by first|lia|omega) (by first|lia|omega) i2
  rw [show j=0 by first|lia|omega] at e1
  (first|lia|omega)
 ·rcases List.mem_append.mp hx with hx|hx
  ·exact h.lb x hx y (List.mem_reverse.mp hy)
  ·exact h.la x hx y (List.mem_reverse.mp hy)
abbrev HiI0 (key:Keyed→Int) (a b:Array Keyed) (st:SortSt) (x:Nat) (c:Option (Array Keyed)×Nat×Nat×Array Keyed×Nat) (st':SortSt):Prop:=Kp st st'∧∃na nb out g,c=(none,na,nb,out,g)∧Mh key a b out.toList na nb∧na+nb+x+1≤a.size+b.size∧1≤na∧2≤nb
abbrev HiQ0 (key:Keyed→Int) (a b:Array Keyed) (st:SortSt) (c:Option (Array Keyed)×Nat×Nat×Array Keyed×Nat) (st':SortSt):Prop:=Kp st st'∧∃r,c.1=some r∧Good key a b r
abbrev HiI1 (key:Keyed→Int) (a b:Array Keyed) (st1:SortSt) (x:Nat) (y:Nat) (c:Option (Array Keyed)×Nat×Nat×Array Keyed×Nat×Nat) (st':SortSt):Prop:=st'=st1∧∃na nb out p q,c=(none,na,nb,out,p,q)∧Mh key a b out.toList na nb∧na+nb+x+1+y≤a.size+b.size∧1≤na∧2≤nb
abbrev HiQ1 (key:Keyed→Int) (a b:Array Keyed) (st1:SortSt) (x:Nat) (c:Option (Array Keyed)×Nat×Nat×Array Keyed×Nat×Nat) (st':SortSt):Prop:=st'=st1∧((∃r,c.1=some r∧Good key a b r)∨(c.1=none∧Mh key a b c.2.2.2.1.toList c.2.1 c.2.2.1∧c.2.1+c.2.2.1+x+2≤a.size+b.size∧1≤c.2.1∧2≤c.2.2.1))
abbrev HiI2 (key:Keyed→Int) (a b:Array Keyed) (st:SortSt) (x:Nat) (y:Nat) (c:Option (Array Keyed)×Nat×Nat×Array Keyed×Nat×Nat×Nat) (st':SortSt):Prop:=Kp st st'∧∃na nb out g p q,c=(none,na,nb,out,g,p,q)∧Mh key a b out.toList na nb∧na+nb+x+2≤a.size+b.size∧1≤na∧2≤nb
abbrev HiQ2 (key:Keyed→Int) (a b:Array Keyed) (st:SortSt) (x:Nat) (c:Option (Array Keyed)×Nat×Nat×Array Keyed×Nat×Nat×Nat) (st':SortSt):Prop:=Kp st st'∧((∃r,c.1=some r∧Good key a b r)∨(c.1=none∧Mh key a b c.2.2.2.1.toList c.2.1 c.2.2.1∧c.2.1+c.2.2.1+x+2≤a.size+b.size∧1≤c.2.1∧2≤c.2.2.1))
theorem tm_hi {a b:Array Keyed} {st:SortSt} {Q:Array Keyed→SortSt→Prop} (hL:Lts prog w A E s a₀ key kd) (hk:kindOf st=kd) (ham:∀p∈a.toList,p∈a₀.toList) (hbm:∀p∈b.toList,p∈a₀.toList)
  (hsa:Sg key a 0 a.size) (hsb:Sg key b 0 b.size) (ha1:1≤a.size) (hb1:1≤b.size) (h0:ky key b 0≤ky key a 0) (hl:∀j,j<b.size→ky key b j≤ky key a (a.size-1))
  (h:∀res st',Kp st st'→Good key a b res→Q res st'):wpS (model prog w) A E s (mergeHi' a b) Q st:=by
 refine wpS_bind (m:=liftM (rule "list.sort.merge-hi")) (wpS_lift (wpAny_rule ⟨rfl,?_⟩))
 refine elemB (by first|lia|omega) fun p e => ?_
 have mz:Mh key a b (#[]:Array Keyed).toList a.size b.size:=⟨Nat.le_refl _,Nat.le_refl _,hsa,hsb,by rw [←Array.length_toList, ←Array.length_toList,List.take_length,List.take_length];simp, .nil,(fun _ _ _ h=>by cases h),(fun _ _ _ h=>by cases h)⟩
 have m0:Mh key a b (#[p]:Array Keyed).toList (a.size-1) b.size:=mz.pushA ha1 e hb1 (hl _ (by first|lia|omega))
 refine ifE (fun z1=>wpS_pure (h _ _ (Kp.refl _) (m0.done (.inl z1)))) fun z1 => ?_
 refine ifE (fun z2=>wpS_pure (h _ _ (Kp.refl _) (m0.first z2 h0))) fun z2 => ?_
 refine wpS_bind (wpS_get ?_)
 refine wpS_bind (wpS_mono (wpS_forRange
  (I:=HiI0 key a b st)
  (Q:=HiQ0 key a b st) ?step ?fin ⟨Kp.refl _,_,_,_,_,rfl,m0,by first|lia|omega,by first|lia|omega,by first|lia|omega⟩) ?post)
 case post=>
  rintro ⟨c1,c⟩ st' ⟨kp,r,e1,g⟩
  cases e1
  exact wpS_pure (h _ _ kp g)
 case fin=>
  intro c st' hz_
  refine Elim.el hz_ _ ?_
  clear hz_
  rintro kp na nb out g rfl mm h1 h2 h3
  rw [Nat.zero_max] at h1
  (first|lia|omega)
 case step=>
  intro x c st1 _ hx hz_
  refine Elim.el hz_ _ ?_
  clear hz_
  rintro kp1 na nb out g rfl mm h1 h2 h3
  have ua:=mm.ha
  have ub:=mm.hb
  dsimp -zeta only
  refine wpS_bind (wpS_mono (wpS_forRange
   (I:=HiI1 key a b st1 x)
   (Q:=HiQ1 key a b st1 x) ?step1 ?fin1 ⟨rfl,na,nb,out,_,_,rfl,mm,by first|lia|omega,h2,h3⟩) ?post1)
  case fin1=>
   intro c st' hz_
   refine Elim.el hz_ _ ?_
   clear hz_
   rintro rfl na nb out p q rfl mm h1 h2 h3
   exact ⟨rfl, .inr ⟨rfl,mm,by rw [Nat.zero_max] at h1;dsimp only; (first|lia|omega),h2,h3⟩⟩
  case step1=>
   intro y c st' _ hy hz_
   refine Elim.el hz_ _ ?_
   clear hz_
   rintro rfl na nb out p q rfl mm h1 h2 h3
   have ua:=mm.ha
   have ub:=mm.hb
   dsimp only
   have la:na-1<a.size:=Nat.sub_one_lt_of_le h2 mm.ha
   have nb1:1≤nb:=Nat.le_of_succ_le h3
   have lb:nb-1<b.size:=Nat.sub_one_lt_of_le nb1 mm.hb
   refine elemB (by first|assumption|(first|lia|omega)) fun p1 e1=>elemB (by first|assumption|(first|lia|omega)) fun p2 e2 => ?_
   refine ltB hL (hbm _ (mem_of e1)) (ham _ (mem_of e2)) (kp1.kind.trans hk) ?_
   rw [←ky_of (key:=key) e1, ←ky_of (key:=key) e2]
   by_cases hlt:ky key b (nb-1)<ky key a (na-1)
   ·rw [decide_eq_true hlt]
    dsimp only
    refine ifP rfl ?_
    refine elemB (by first|assumption|(first|lia|omega)) fun p3 e3 => ?_
    have m1:=mm.pushA h2 e3 nb1 (by first|exact Int.le_of_lt hlt|(first|lia|omega))
    refine ifE (fun z3=>wpS_pure ⟨rfl, .inl ⟨_,rfl,m1.done (.inl z3)⟩⟩) fun z3 => ?_
    refine ifS (fun z4=>wpS_pure ⟨rfl, .inr ⟨rfl,m1,by dsimp only; (first|lia|omega),by dsimp only; (first|lia|omega),h3⟩⟩) fun z4 => ?_
    exact wpS_pure ⟨rfl,_,_,_,_,_,rfl,m1,by first|lia|omega,by first|lia|omega,h3⟩
   ·rw [decide_eq_false hlt]
    dsimp only
    refine ifN Bool.false_ne_true ?_
    refine elemB (by first|assumption|(first|lia|omega)) fun p3 e3 => ?_
    have m1:=mm.pushB nb1 e3 h2 (Int.not_lt.mp hlt)
    refine ifE (fun z3=>wpS_pure ⟨rfl, .inl ⟨_,rfl,m1.first z3 h0⟩⟩) fun z3 => ?_
    refine ifS (fun z4=>wpS_pure ⟨rfl, .inr ⟨rfl,m1,by dsimp only; (first|lia|omega),h2,by dsimp only; (first|lia|omega)⟩⟩) fun z4 => ?_
    exact wpS_pure ⟨rfl,_,_,_,_,_,rfl,m1,by first|lia|omega,h2,by first|lia|omega⟩
  refine tup6 fun c1 na nb out p q => ?_
  intro st2 hc
  have es:st2=st1:=hc.1
  subst es
  refine Or.elim hc.2 (fun gg => ?_) fun gg => ?_
  ·refine Elim.el gg _ ?_
   intro r e1 gd
   have e1:c1=some r:=e1
   subst e1
   exact wpS_pure ⟨kp1,r,rfl,gd⟩
  have e1:c1=none:=gg.1
  have mm:Mh key a b out.toList na nb:=gg.2.1
  have h1:na+nb+x+2≤a.size+b.size:=gg.2.2.1
  have h2:1≤na:=gg.2.2.2.1
  have h3:2≤nb:=gg.2.2.2.2
  clear gg hc
  subst e1
  dsimp -zeta only
  refine wpS_bind (wpS_lift (wpAny_rule ⟨rfl,?_⟩))
  refine wpS_bind (wpS_mono (wpS_forRange
   (I:=HiI2 key a b st x)
   (Q:=HiQ2 key a b st x) ?step2 ?fin2 ⟨kp1,na,nb,out,_,_,_,rfl,mm,by first|lia|omega,h2,h3⟩) ?post2)
  case fin2=>
   intro c st' hz_
   refine Elim.el hz_ _ ?_
   clear hz_
   rintro kp na nb out g p q rfl mm h1 h2 h3
   exact ⟨kp, .inr ⟨rfl,mm,h1,h2,h3⟩⟩
  case post2=>
   refine tup7 fun c1 na nb out g p q => ?_
   intro st3 hc
   have kp:Kp st st3:=hc.1
   refine Or.elim hc.2 (fun gg => ?_) fun gg => ?_
   ·refine Elim.el gg _ ?_
    intro r e1 gd
    have e1:c1=some r:=e1
    subst e1
    exact wpS_pure ⟨kp,r,rfl,gd⟩
   have e1:c1=none:=gg.1
   have mm:Mh key a b out.toList na nb:=gg.2.1
   have h1:na+nb+x+2≤a.size+b.size:=gg.2.2.1
   have h2:1≤na:=gg.2.2.2.1
   have h3:2≤nb:=gg.2.2.2.2
   clear gg hc
   subst e1
   dsimp only
   exact setGo kp fun st4 kk=>wpS_pure ⟨kk,_,_,_,_,rfl,mm,by first|lia|omega,h2,h3⟩
  case step2=>
   intro y c st3 _ hy hz_
   refine Elim.el hz_ _ ?_
   clear hz_
   rintro kp na nb out g p q rfl mm h1 h2 h3
   have ua:=mm.ha
   have ub:=mm.hb
   dsimp -zeta only
   extract_lets s1 o1 s2 i1 s3 i2 s4 mg s5 ac bc ib1 jp mg1
   refine jpGo (fun z:Nat=>jp () z) (fun _=>True) (fun g' _ => ?_) fun H => ?_
   rotate_left
   ·exact ifS (fun _=>H _ trivial) fun _=>H _ trivial
   refine setGo kp fun st4 kk => ?_
   dsimp -zeta only [s1,o1,s2,i1,s3,i2,s4,mg,s5,ac,bc,ib1]
   have hkd:kindOf st4=kd:=kk.kind.trans hk
   have nb1:1≤nb:=Nat.le_of_succ_le h3
   have lb:nb-1<b.size:=Nat.sub_one_lt_of_le nb1 ub
   refine elemB lb fun p1 e1 => ?_
   refine gallopB hL hkd ham (hbm _ (mem_of e1)) (sg_to ua hsa) (by rw [Nat.zero_add];exact ua) (Nat.sub_one_lt (Nat.ne_of_gt h2)) fun k1 g1 => ?_
   obtain ⟨g11,g12,g13⟩:=g1
   rw [←ky_of (key:=key) e1] at g12 g13
   simp only [Nat.zero_add] at g12 g13
   dsimp -zeta only
   extract_lets kx ac2 jp2 o2 na2
   refine jpGo (fun z:Nat×Array Keyed=>jp2 () z.1 z.2) (fun z=>Mh key a b z.2.toList z.1 nb∧1≤z.1∧z.1≤na∧ky key a (z.1-1)≤ky key b (nb-1)) (fun z hz => ?_) fun H => ?_
   rotate_left
   ·refine ifS (fun ka => ?_) fun ka => ?_
    ·have ka':na-k1>0:=ka
     have m1:=mm.exA (t:=k1) g11 nb1 (fun j j1 j2=>Int.le_of_lt (gal_lt (g13 j j1 j2)))
     refine ifE (fun z1=>wpS_pure ⟨kk, .inl ⟨_,rfl,m1.done (.inl z1)⟩⟩) fun z1 => ?_
     have z2:¬k1=0:=z1
     exact H (na2,o2) ⟨m1,Nat.pos_of_ne_zero z2,g11,gal_le (g12 (k1-1) (Nat.sub_one_lt z2))⟩
    ·have ka':¬na-k1>0:=ka
     exact H (na,out) ⟨mm,h2,Nat.le_refl _,gal_le (g12 (na-1) (Nat.sub_one_lt_of_le h2 (Nat.le_of_sub_eq_zero (Nat.eq_zero_of_not_pos ka'))))⟩
   obtain ⟨na3,out2⟩:=z
   have m1:Mh key a b out2.toList na3 nb:=hz.1
   have n1:1≤na3:=hz.2.1
   have n2:na3≤na:=hz.2.2.1
   have n3:ky key a (na3-1)≤ky key b (nb-1):=hz.2.2.2
   clear hz
   refine elemB lb fun p2 e2 => ?_
   have m2:=m1.pushB nb1 e2 n1 n3
   dsimp -zeta only [ac2,kx]
   extract_lets o3
   refine ifE (fun z3=>wpS_pure ⟨kk, .inl ⟨_,rfl,m2.first z3 h0⟩⟩) fun z3 => ?_
   have la3:na3-1<a.size:=Nat.sub_one_lt_of_le n1 (Nat.le_trans n2 ua)
   have nb2:2≤nb-1:=by (first|lia|omega)
   have nb0:0<nb-1:=Nat.lt_of_lt_of_le Nat.one_pos (Nat.le_of_succ_le nb2)
   refine elemB la3 fun p3 e3 => ?_
   refine gallopB hL hkd hbm (ham _ (mem_of e3)) (sg_to (Nat.le_of_lt lb) hsb) (by rw [Nat.zero_add];exact Nat.le_of_lt lb) (Nat.sub_one_lt (Nat.ne_of_gt nb0)) fun k2 g2 => ?_
   obtain ⟨g21,g22,g23⟩:=g2
   rw [←ky_of (key:=key) e3] at g22 g23
   simp only [Nat.zero_add] at g22 g23
   dsimp -zeta only
   extract_lets ky2 bc2 jp3 o4 nb4
   refine jpGo (fun z:Nat×Array Keyed=>jp3 () z.1 z.2) (fun z=>Mh key a b z.2.toList na3 z.1∧2≤z.1∧z.1≤nb∧ky key b (z.1-1)≤ky key a (na3-1)) (fun z hz => ?_) fun H => ?_
   rotate_left
   ·refine ifS (fun kz => ?_) fun kz => ?_
    ·have kz':nb-1-k2>0:=kz
     have m3:=m2.exB (t:=k2) g21 n1 (fun j j1 j2=>gal_lt' (g23 j j1 j2))
     refine ifE (fun z4=>wpS_pure ⟨kk, .inl ⟨_,rfl,m3.first z4 h0⟩⟩) fun z4 => ?_
     refine ifE (fun z7=>wpS_pure ⟨kk, .inl ⟨_,rfl,m3.done (.inr z7)⟩⟩) fun z7 => ?_
     have y4:¬k2=1:=z4
     have y7:¬k2=0:=z7
     exact H (nb4,o4) ⟨m3,by show 2≤k2; (first|lia|omega),Nat.le_trans g21 (Nat.sub_le _ _),Int.le_of_lt (gal_le' (g22 (k2-1) (Nat.sub_one_lt y7)))⟩
    ·have kz':¬nb-1-k2>0:=kz
     exact H (nb-1,o3) ⟨m2,nb2,Nat.sub_le _ _,Int.le_of_lt (gal_le' (g22 (nb-1-1) (Nat.sub_one_lt_of_le nb0 (Nat.le_of_sub_eq_zero (Nat.eq_zero_of_not_pos kz')))))⟩
   obtain ⟨nb3,out3⟩:=z
   have m3:Mh key a b out3.toList na3 nb3:=hz.1
   have n4:2≤nb3:=hz.2.1
   have n5:nb3≤nb:=hz.2.2.1
   have n6:ky key b (nb3-1)≤ky key a (na3-1):=hz.2.2.2
   clear hz
   dsimp only [jp3]
   refine elemB la3 fun p4 e4 => ?_
   have m4:=m3.pushA n1 e4 (Nat.le_of_succ_le n4) n6
   dsimp only [bc2,ky2]
   refine ifE (fun z5=>wpS_pure ⟨kk, .inl ⟨_,rfl,m4.done (.inl z5)⟩⟩) fun z5 => ?_
   refine ifS (fun _=>wpS_pure ⟨kk, .inr ⟨rfl,m4,by dsimp only; (first|lia|omega),Nat.pos_of_ne_zero z5,n4⟩⟩) fun _ => ?_
   exact wpS_pure ⟨kk,_,_,_,_,_,_,rfl,m4,by first|lia|omega,Nat.pos_of_ne_zero z5,n4⟩
end
end L2
namespace L2
open PySem PySem.Spec PyProof.Rows
section
variable {prog:Program} {w:World} {A:Around} {E:Value→Shared→Prop} {s:Shared} {a₀:Array Keyed} {key:Keyed→Int} {kd:SortKind}
theorem wpS_set {M:Model} {σ:Type} {st st' : σ} {Q:PUnit → σ→Prop} (h:Q ⟨⟩ st'):wpS M A E s (set st':StateT σ Sem PUnit) Q st:=by
 unfold wpS
 rw [StateT.run_set];exact wpAny_pure ⟨rfl,h⟩
theorem wr_get {sa:Nat} : ∀(l:List Keyed) (n:Nat) (xs:Array Keyed),sa+n+l.length≤xs.size→∀k:Nat,
  ((l.zipIdx n).foldl (fun a (p:Keyed×Nat)=>a.setIfInBounds (sa+p.2) p.1) xs)[k]? = if sa+n≤k∧k<sa+n+l.length then l[k-(sa+n)]? else xs[k]?
 | [],n,xs,h,k=>by rw [List.zipIdx_nil,List.foldl_nil,if_neg (by simp only [List.length_nil]; (first|lia|omega))]
 | p :: l,n,xs,h,k=>by
  rw [List.length_cons] at h
  rw [List.zipIdx_cons,List.foldl_cons,wr_get l (n+1) _ (by rw [Array.size_setIfInBounds]; (first|lia|omega)),List.length_cons]
  by_cases e1:sa+(n+1)≤k∧k<sa+(n+1)+l.length
  ·rw [if_pos e1,if_pos (by first|lia|omega),show k-(sa+n)=(k-(sa+(n+1)))+1 by first|lia|omega,List.getElem?_cons_succ]
  ·rw [if_neg e1,Array.getElem?_setIfInBounds]
   by_cases e2:sa+n=k
   ·subst e2
    rw [if_pos rfl,if_pos (by first|lia|omega),if_pos (by first|lia|omega),Nat.sub_self];rfl
   ·rw [if_neg e2,if_neg (by first|lia|omega)]
def wr (sa:Nat) (l:List Keyed) (xs:Array Keyed):Array Keyed:=l.zipIdx.foldl (fun a (p:Keyed×Nat)=>a.setIfInBounds (sa+p.2) p.1) xs
theorem wr_at {sa:Nat} {l:List Keyed} {xs:Array Keyed} (h:sa+l.length≤xs.size) (k:Nat):(wr sa l xs)[k]? = if sa≤k∧k<sa+l.length then l[k-sa]? else xs[k]?:=wr_get l 0 xs h k
theorem wr_list {sa:Nat} {l:List Keyed} {xs:Array Keyed} (h:sa+l.length≤xs.size):(wr sa l xs).toList=xs.toList.take sa++(l++xs.toList.drop (sa+l.length)):=by
 refine List.ext_getElem? fun k => ?_
 have hl:(xs.toList.take sa).length=sa:=by rw [List.length_take,Array.length_toList]; (first|lia|omega)
 rw [Array.getElem?_toList,wr_at h]
 by_cases e1:k<sa
 ·rw [if_neg (by first|lia|omega),List.getElem?_append_left (by first|lia|omega),List.getElem?_take_of_lt e1,Array.getElem?_toList]
 ·rw [List.getElem?_append_right (by first|lia|omega),hl]
  by_cases e2:k<sa+l.length
  ·rw [if_pos (by first|lia|omega),List.getElem?_append_left (by first|lia|omega)]
  ·rw [if_neg (by first|lia|omega),List.getElem?_append_right (by first|lia|omega),List.getElem?_drop, ←Array.getElem?_toList]
   congr 1; (first|lia|omega)
theorem wr_perm {sa:Nat} {l:List Keyed} {xs:Array Keyed} (h:sa+l.length≤xs.size) (hp:l.Perm ((xs.toList.drop sa).take l.length)):(wr sa l xs).Perm xs:=by
 refine Array.perm_iff_toList_perm.mpr ?_
 rw [wr_list h]
 have e:xs.toList=xs.toList.take sa++((xs.toList.drop sa).take l.length++xs.toList.drop (sa+l.length)):=by
  rw [←List.drop_drop,List.take_append_drop,List.take_append_drop]
 exact ((hp.append_right _).append_left _).trans (List.Perm.of_eq e.symm)
theorem ky_ext {xs:Array Keyed} {i j k:Nat} (hj:j≤xs.size) (hk:i+k<j):ky key (xs.extract i j) k=ky key xs (i+k):=by
 refine ky_congr ?_
 rw [Array.getElem?_extract,if_pos (by first|lia|omega)]
theorem sg_ext {xs:Array Keyed} {i j:Nat} (hj:j≤xs.size) (hij:i≤j) (h:Sg key xs i j):Sg key (xs.extract i j) 0 (xs.extract i j).size:=by
 rw [Array.size_extract,Nat.min_eq_left hj]
 intro p q _ h2 h3
 rw [ky_ext hj (by first|lia|omega),ky_ext hj (by first|lia|omega)]
 exact h _ _ (by first|lia|omega) (by first|lia|omega) (by first|lia|omega)
theorem mem_ext {xs:Array Keyed} {i j:Nat} {p:Keyed} (h:p∈(xs.extract i j).toList):p∈xs.toList:=by
 rw [extR] at h
 exact List.mem_of_mem_take (List.mem_of_mem_drop h)
structure Tb (a₀:Array Keyed) (kd:SortKind) (st:SortSt):Prop where
 perm:(arrOf st).Perm a₀
 kind:kindOf st=kd
 failed:failedOf st=none
theorem wr_sorted {xs:Array Keyed} {res:List Keyed} {sa u sb v e:Nat} (h1:sa≤u) (h2:u≤sb) (h3:sb≤v) (h4:v≤e) (h5:e≤xs.size) (h6:sa<sb) (len:u+res.length=v) (gp:res.Perm ((xs.toList.drop u).take res.length)) (gs:res.Pairwise fun a b=>key a≤key b)
  (s1:Sg key xs sa sb) (s2:Sg key xs sb e) (hA:∀p,sa≤p→p<u→ky key xs p≤ky key xs sb) (hB:∀q,v≤q→q<e→ky key xs (sb-1)≤ky key xs q):Sg key (wr u res xs) sa e:=by
 have at':=wr_at (sa:=u) (l:=res) (xs:=xs) (by first|lia|omega)
 have hout:∀p,(p<u∨v≤p)→ky key (wr u res xs) p=ky key xs p:=fun p hp'=>by
  refine ky_congr ?_
  rw [at' p,if_neg (by first|lia|omega)]
 have hin:∀p,u≤p→p<v→∃x,res[p-u]? = some x∧ky key (wr u res xs) p=key x:=fun p a1 a2=>by
  obtain ⟨x,hx⟩:∃x,res[p-u]? = some x:=⟨_,List.getElem?_eq_getElem (by first|lia|omega)⟩
  exact ⟨x,hx,ky_of ((at' p).trans ((if_pos (by first|lia|omega)).trans hx))⟩
 have hm:∀p,u≤p→p<v→∃j,u≤j∧j<v∧ky key (wr u res xs) p=ky key xs j:=fun p a1 a2=>by
  refine Elim.el (hin p a1 a2) _ ?_
  rintro x hx ex
  have hmem2:=gp.mem_iff.mp (List.mem_iff_getElem?.mpr ⟨_,hx⟩)
  obtain ⟨j,j1,j2,j3,e4⟩:=mem_seg (key:=key) hmem2
  exact ⟨j,j1,by first|lia|omega,by first|lia|omega⟩
 have sl:sb-1<sb:=by (first|lia|omega)
 intro p q g1 g2 g3
 by_cases a1:q<u
 ·have a0:=Nat.lt_of_le_of_lt g2 a1
  rw [hout p (.inl a0),hout q (.inl a1)];exact s1 p q g1 g2 (Nat.lt_of_lt_of_le a1 h2)
 have a1:=Nat.le_of_not_lt a1
 by_cases a2:q<v
 ·by_cases a3:p<u
  ·refine Elim.el (hm q a1 a2) _ ?_
   rintro j j1 j2 ej
   rw [hout p (.inl a3),ej]
   by_cases a4:j<sb
   ·exact s1 p j g1 (Nat.le_trans (Nat.le_of_lt a3) j1) a4
   ·exact Int.le_trans (hA p g1 a3) (s2 sb j (Nat.le_refl _) (Nat.le_of_not_lt a4) (Nat.lt_of_lt_of_le j2 h4))
  ·have a3:=Nat.le_of_not_lt a3
   refine Elim.el (hin p a3 (Nat.lt_of_le_of_lt g2 a2)) _ ?_
   rintro x hx ex
   refine Elim.el (hin q a1 a2) _ ?_
   rintro y hy ey
   rw [ex,ey]
   by_cases a5:p=q
   ·subst a5
    rw [hx] at hy;cases hy;exact Int.le_refl _
   ·obtain ⟨l1,e5⟩:=List.getElem?_eq_some_iff.mp hx
    obtain ⟨l2,e6⟩:=List.getElem?_eq_some_iff.mp hy
    have:=List.pairwise_iff_getElem.mp gs _ _ l1 l2 (Nat.sub_lt_sub_right a3 (Nat.lt_of_le_of_ne g2 a5))
    rw [e5,e6] at this;exact this
 ·have a2:=Nat.le_of_not_lt a2
  rw [hout q (.inr a2)]
  have hq:=hB q a2 g3
  by_cases a3:p<u
  ·rw [hout p (.inl a3)]
   exact Int.le_trans (s1 p (sb-1) g1 (by first|lia|omega) sl) hq
  ·by_cases a4:p<v
   ·refine Elim.el (hm p (Nat.le_of_not_lt a3) a4) _ ?_
    rintro j j1 j2 ej
    rw [ej]
    by_cases a5:j<sb
    ·exact Int.le_trans (s1 j (sb-1) (Nat.le_trans h1 j1) (by first|lia|omega) sl) hq
    ·exact s2 j q (Nat.le_of_not_lt a5) (Nat.le_trans (Nat.le_of_lt j2) a2) g3
   ·have a4:=Nat.le_of_not_lt a4
    rw [hout p (.inr a4)]
    exact s2 p q (Nat.le_trans h3 a4) g2 g3
theorem tm_mergeAt {st:SortSt} {i sa na sb nb p1 p2:Nat} {L R:List (Nat×Nat×Nat)} {Q:Bool→SortSt→Prop} (hL:Lts prog w A E s a₀ key kd) (hT:Tb a₀ kd st)
  (hp:(pendingOf st).toList=L++(sa,na,p1) :: (sb,nb,p2) :: R) (hi:L.length=i) (e1:sb=sa+na) (n1:1≤na) (n2:1≤nb) (hz:sb+nb≤a₀.size)
  (s1:Sg key (arrOf st) sa sb) (s2:Sg key (arrOf st) sb (sb+nb))
  (h:∀st',Tb a₀ kd st'→(pendingOf st').toList=L++(sa,na+nb,p1) :: R→(∀k,k<sa∨sb+nb≤k→(arrOf st')[k]? = (arrOf st)[k]?)→Sg key (arrOf st') sa (sb+nb)→Q true st') :
  wpS (model prog w) A E s (mergeAt' i) Q st:=by
 have hsz:=hT.perm.size_eq
 have g1:(pendingOf st)[i]? = some (sa,na,p1):=by
  rw [←Array.getElem?_toList,hp,List.getElem?_append_right (by first|lia|omega),hi,Nat.sub_self];rfl
 have g2:(pendingOf st)[i+1]? = some (sb,nb,p2):=by
  rw [←Array.getElem?_toList,hp,List.getElem?_append_right (by first|lia|omega),hi,show i+1-i=1 by first|lia|omega];rfl
 have hP:(((pendingOf st).setIfInBounds i (sa,na+nb,p1)).eraseIdxIfInBounds (i+1)).toList=L++(sa,na+nb,p1) :: R:=by
  have hlt:i+1<((pendingOf st).setIfInBounds i (sa,na+nb,p1)).size:=by
   rw [Array.size_setIfInBounds, ←Array.length_toList,hp,List.length_append,List.length_cons,List.length_cons]; (first|lia|omega)
  rw [Array.eraseIdxIfInBounds,dif_pos hlt,Array.toList_eraseIdx,Array.toList_setIfInBounds,hp]
  rw [List.set_append_right _ _ (by first|lia|omega),hi,Nat.sub_self,List.set_cons_zero,List.eraseIdx_append_of_length_le (by first|lia|omega),hi,show i+1-i=1 by first|lia|omega]
  rfl
 refine wpS_bind (m:=get) (wpS_get ?_)
 dsimp only
 rw [g1,g2]
 dsimp only
 refine wpS_bind (wpS_set ?_)
 have am:∀p∈(arrOf st).toList,p∈a₀.toList:=fun p h'=>(Array.perm_iff_toList_perm.mp hT.perm).mem_iff.mp h'
 refine wpS_bind (tm_elem (xs:=arrOf st) (by first|lia|omega) fun q1 f1 => ?_)
 refine wpS_bind (tm_gallop (arr:=arrOf st) hL (show kindOf (setPending st _)=kd from hT.kind) am (am _ (mem_of f1)) (by rw [←e1];exact s1) (by first|lia|omega) (by first|lia|omega) fun k gk => ?_)
 obtain ⟨k1,k2,k3⟩:=gk
 rw [←ky_of (key:=key) f1] at k2 k3
 obtain ⟨d,rfl⟩:∃d,na=k+d:=Nat.exists_eq_add_of_le k1
 have eD:sb=sa+k+d:=by (first|lia|omega)
 have hA:∀p,sa≤p→p<sa+k→ky key (arrOf st) p≤ky key (arrOf st) sb:=fun p h1 h2=>by
  have:=gal_le (k2 (p-sa) (by first|lia|omega));rwa [show sa+(p-sa)=p by first|lia|omega] at this
 dsimp only
 rw [Nat.add_sub_cancel_left]
 refine ifE (fun z1 => ?_) fun z1 => ?_
 ·refine wpS_pure (h _ ⟨hT.perm,hT.kind,hT.failed⟩ hP (fun _ _=>rfl) fun p q h1 h2 h3 => ?_)
  show ky key (arrOf st) p≤ky key (arrOf st) q
  by_cases c1:q<sb
  ·exact s1 p q h1 h2 c1
  ·by_cases c2:sb≤p
   ·exact s2 p q c2 h2 h3
   ·exact Int.le_trans (hA p h1 (by first|lia|omega)) (s2 sb q (Nat.le_refl _) (by first|lia|omega) h3)
 have d1:1≤d:=Nat.pos_of_ne_zero z1
 refine wpS_bind (tm_elem (xs:=arrOf st) (by first|lia|omega) fun q2 f2 => ?_)
 refine wpS_bind (tm_gallop (arr:=arrOf st) hL (show kindOf (setPending st _)=kd from hT.kind) am (am _ (mem_of f2)) s2 (by first|lia|omega) (by first|lia|omega) fun m gm => ?_)
 obtain ⟨m1,m2,m3⟩:=gm
 rw [←ky_of (key:=key) f2, ←eD] at m2 m3
 have hB:∀q,sb+m≤q→q<sb+nb→ky key (arrOf st) (sb-1)≤ky key (arrOf st) q:=fun q h1 h2=>by
  have:=gal_lt' (m3 (q-sb) (by first|lia|omega) (by first|lia|omega));rwa [show sb+(q-sb)=q by first|lia|omega] at this
 dsimp only
 have hC:=gal_lt (k3 k (Nat.le_refl _) (by first|lia|omega))
 by_cases z2:m=0
 ·have:=hB sb (by first|lia|omega) (by first|lia|omega)
  have:=s1 (sa+k) (sb-1) (by first|lia|omega) (by first|lia|omega) (by first|lia|omega)
  (first|lia|omega)
 refine ifN (by simpa using z2) ?_
 have x1:((arrOf st).extract (sa+k) sb).size=d:=by rw [Array.size_extract,Nat.min_eq_left (by first|lia|omega),eD,Nat.add_sub_cancel_left]
 have y1:((arrOf st).extract sb (sb+m)).size=m:=by rw [Array.size_extract,Nat.min_eq_left (by first|lia|omega),Nat.add_sub_cancel_left]
 have sx:=sg_ext (key:=key) (xs:=arrOf st) (i:=sa+k) (j:=sb) (by first|lia|omega) (by first|lia|omega) (fun p q h1 h2 h3=>s1 p q (by first|lia|omega) h2 h3)
 have sy:=sg_ext (key:=key) (xs:=arrOf st) (i:=sb) (j:=sb+m) (by first|lia|omega) (by first|lia|omega) (fun p q h1 h2 h3=>s2 p q h1 h2 (by first|lia|omega))
 have h0:ky key ((arrOf st).extract sb (sb+m)) 0≤ky key ((arrOf st).extract (sa+k) sb) 0:=by
  rw [ky_ext (by first|lia|omega) (by first|lia|omega),ky_ext (by first|lia|omega) (by first|lia|omega)]
  exact Int.le_of_lt hC
 have hl:∀j,j<((arrOf st).extract sb (sb+m)).size→ky key ((arrOf st).extract sb (sb+m)) j≤ky key ((arrOf st).extract (sa+k) sb) (((arrOf st).extract (sa+k) sb).size-1):=fun j hj=>by
  rw [y1] at hj
  rw [x1,ky_ext (by first|lia|omega) (by first|lia|omega),ky_ext (by first|lia|omega) (by first|lia|omega),show sa+k+(d-1)=sb-1 by rw [eD,Nat.add_sub_assoc d1]]
  have:=gal_le' (m2 j hj); (first|lia|omega)
 have wb:∀(res:Array Keyed) (st2:SortSt),Kp (setPending st (((pendingOf st).setIfInBounds i (sa,k+d+nb,p1)).eraseIdxIfInBounds (i+1))) st2→Good key ((arrOf st).extract (sa+k) sb) ((arrOf st).extract sb (sb+m)) res→Q true (setArr st2 (wr (sa+k) res.toList (arrOf st2))):=fun res st2 kp gd=>by
  have ea:arrOf st2=arrOf st:=kp.arr
  obtain ⟨gp,gs⟩:=gd
  have len:res.toList.length=d+m:=by rw [gp.length_eq,List.length_append,Array.length_toList,Array.length_toList,x1,y1]
  have hw:sa+k+res.toList.length≤(arrOf st).size:=by (first|lia|omega)
  have eM:((arrOf st).extract (sa+k) sb).toList++((arrOf st).extract sb (sb+m)).toList=((arrOf st).toList.drop (sa+k)).take res.toList.length:=by
   rw [extR,extR,List.drop_take,List.drop_take,len,Nat.add_sub_cancel_left,show sb-(sa+k)=d by rw [eD,Nat.add_sub_cancel_left],List.take_add,List.drop_drop, ←eD]
  refine h _ ⟨?_,kp.kind.trans hT.kind,kp.failed.trans hT.failed⟩ ?_ (fun p hp' => ?_) fun p q h1 h2 h3 => ?_
  ·show (wr (sa+k) res.toList (arrOf st2)).Perm a₀
   rw [ea]
   exact (wr_perm hw (gp.trans (List.Perm.of_eq eM))).trans hT.perm
  ·show (pendingOf st2).toList=_
   rw [kp.pend];exact hP
  ·show (wr (sa+k) res.toList (arrOf st2))[p]? = _
   rw [ea,wr_at hw p,if_neg (by first|lia|omega)]
  ·show ky key (wr (sa+k) res.toList (arrOf st2)) p≤ky key (wr (sa+k) res.toList (arrOf st2)) q
   rw [ea]
   exact wr_sorted (Nat.le_add_right _ _) (Nat.le_trans (Nat.le_add_right _ _) (Nat.le_of_eq eD.symm)) (Nat.le_add_right _ _) (Nat.add_le_add_left m1 _) (Nat.le_trans hz (Nat.le_of_eq hsz.symm)) (by first|lia|omega) (by first|lia|omega) (gp.trans (List.Perm.of_eq eM)) gs s1 s2 hA hB p q h1 h2 h3
 have ham:∀p∈((arrOf st).extract (sa+k) sb).toList,p∈a₀.toList:=fun p hp'=>am _ (mem_ext hp')
 have hbm:∀p∈((arrOf st).extract sb (sb+m)).toList,p∈a₀.toList:=fun p hp'=>am _ (mem_ext hp')
 have tl:∀(res:Array Keyed) (st2:SortSt),Kp (setPending st (((pendingOf st).setIfInBounds i (sa,k+d+nb,p1)).eraseIdxIfInBounds (i+1))) st2→Good key ((arrOf st).extract (sa+k) sb) ((arrOf st).extract sb (sb+m)) res →
   wpS (model prog w) A E s (do
    modify fun s=>setArr s (wr (sa+k) res.toList (arrOf s))
    return (failedOf (←get)).isNone) Q st2:=fun res st2 kp gd=>by
  refine wpS_bind (wpS_modify (wpS_bind (wpS_get (wpS_pure ?_))))
  have ef:failedOf (setArr st2 (wr (sa+k) res.toList (arrOf st2)))=none:=kp.failed.trans hT.failed
  rw [ef]
  exact wb res st2 kp gd
 refine ifS (fun _ => ?_) fun _ => ?_
 ·exact wpS_bind (tm_lo (a:=(arrOf st).extract (sa+k) sb) (b:=(arrOf st).extract sb (sb+m)) hL (show kindOf (setPending st _)=kd from hT.kind) ham hbm sx sy (by first|lia|omega) (by first|lia|omega) h0 hl fun res st2 kp gd=>tl res st2 kp gd)
 ·exact wpS_bind (tm_hi (a:=(arrOf st).extract (sa+k) sb) (b:=(arrOf st).extract sb (sb+m)) hL (show kindOf (setPending st _)=kd from hT.kind) ham hbm sx sy (by first|lia|omega) (by first|lia|omega) h0 hl fun res st2 kp gd=>tl res st2 kp gd)
end
end L2
namespace L2
open PySem PySem.Spec PyProof.Rows
section
variable {prog:Program} {w:World} {A:Around} {E:Value→Shared→Prop} {s:Shared} {a₀:Array Keyed} {key:Keyed→Int} {kd:SortKind}
def Chn (key:Keyed→Int) (xs:Array Keyed):Nat→List (Nat×Nat×Nat)→Nat→Prop
 | lo,[],hi=>lo=hi
 | lo,(s,n,_) :: t,hi=>s=lo∧1≤n∧Sg key xs lo (lo+n)∧Chn key xs (lo+n) t hi
theorem Chn.le {xs:Array Keyed} : ∀{L:List (Nat×Nat×Nat)} {lo hi:Nat},Chn key xs lo L hi→lo+L.length≤hi
 | [],lo,hi,h=>by have h:lo=hi:=h;simp only [List.length_nil]; (first|lia|omega)
 | (s,n,p) :: t,lo,hi,h=>by
  obtain ⟨_,h1,_,h2⟩:=h
  have:=h2.le
  rw [List.length_cons]; (first|lia|omega)
theorem Chn.app {xs:Array Keyed} : ∀{L R:List (Nat×Nat×Nat)} {lo mid hi:Nat},Chn key xs lo L mid→Chn key xs mid R hi→Chn key xs lo (L++R) hi
 | [],R,lo,mid,hi,h,h'=>by have h:lo=mid:=h;rw [h];exact h'
 | (s,n,p) :: t,R,lo,mid,hi,h,h'=>⟨h.1,h.2.1,h.2.2.1,h.2.2.2.app h'⟩
theorem Chn.cut {xs:Array Keyed} : ∀{L R:List (Nat×Nat×Nat)} {lo hi:Nat},Chn key xs lo (L++R) hi→∃mid,Chn key xs lo L mid∧Chn key xs mid R hi
 | [],R,lo,hi,h=>⟨lo,rfl,h⟩
 | (s,n,p) :: t,R,lo,hi,h=>by
  obtain ⟨mid,h1,h2⟩:=Chn.cut (L:=t) h.2.2.2
  exact ⟨mid,⟨h.1,h.2.1,h.2.2.1,h1⟩,h2⟩
theorem sg_same {xs ys:Array Keyed} {i j:Nat} (e:∀k,i≤k→k<j→ys[k]? = xs[k]?) (h:Sg key xs i j):Sg key ys i j:=fun p q h1 h2 h3=>by
 rw [ky_congr (e p h1 (by first|lia|omega)),ky_congr (e q (by first|lia|omega) h3)];exact h p q h1 h2 h3
theorem Chn.same {xs ys:Array Keyed} : ∀{L:List (Nat×Nat×Nat)} {lo hi:Nat},(∀k,lo≤k→k<hi→ys[k]? = xs[k]?)→Chn key xs lo L hi→Chn key ys lo L hi
 | [],lo,hi,e,h=>h
 | (s,n,p) :: t,lo,hi,e,h=>by
  obtain ⟨h0,h1,h2,h3⟩:=h
  have:=h3.le
  exact ⟨h0,h1,sg_same (fun k a b=>e k a (by first|lia|omega)) h2,Chn.same (fun k a b=>e k (by first|lia|omega) b) h3⟩
theorem tm_mergeC {st:SortSt} {i hi:Nat} {Q:Bool→SortSt→Prop} (hL:Lts prog w A E s a₀ key kd) (hT:Tb a₀ kd st) (hc:Chn key (arrOf st) 0 (pendingOf st).toList hi) (hz:hi≤a₀.size) (hi2:i+1<(pendingOf st).size)
  (h:∀st',Tb a₀ kd st'→Chn key (arrOf st') 0 (pendingOf st').toList hi→(pendingOf st').size+1=(pendingOf st).size→(∀k,hi≤k→(arrOf st')[k]? = (arrOf st)[k]?)→Q true st'):wpS (model prog w) A E s (mergeAt' i) Q st:=by
 have hl:i+1<(pendingOf st).toList.length:=by rw [Array.length_toList];exact hi2
 obtain ⟨⟨sa,na,p1⟩,e1⟩:∃y,(pendingOf st).toList[i]'(by first|lia|omega)=y:=⟨_,rfl⟩
 obtain ⟨⟨sb,nb,p2⟩,e2⟩:∃y,(pendingOf st).toList[i+1]'hl=y:=⟨_,rfl⟩
 have ep:(pendingOf st).toList=(pendingOf st).toList.take i++(sa,na,p1) :: (sb,nb,p2) :: (pendingOf st).toList.drop (i+2):=by
  have d1:=List.drop_eq_getElem_cons (i:=i) (l:=(pendingOf st).toList) (by first|lia|omega)
  have d2:=List.drop_eq_getElem_cons (i:=i+1) (l:=(pendingOf st).toList) hl
  rw [e1] at d1
  rw [e2] at d2
  rw [←d2, ←d1,List.take_append_drop]
 have hc':=hc
 rw [ep] at hc'
 refine Elim.el (hc'.cut) _ ?_
 rintro mid c1 c2
 obtain ⟨rfl,n1,s1,c3⟩:=c2
 obtain ⟨rfl,n2,s2,c4⟩:=c3
 have c4l:=c4.le
 refine tm_mergeAt hL hT ep (by rw [List.length_take]; (first|lia|omega)) rfl n1 n2 (by first|lia|omega) s1 s2 fun st' t' p' o' s' => ?_
 refine h st' t' ?_ ?_ (fun k hk=>o' k (.inr (by first|lia|omega)))
 ·rw [p']
  refine Chn.app (mid:=sa) (c1.same fun k _ hk=>o' k (.inl hk)) ⟨rfl,by first|lia|omega,?_,?_⟩
  ·rw [←Nat.add_assoc];exact s'
  ·rw [←Nat.add_assoc];exact c4.same fun k hk _=>o' k (.inr hk)
 ·have l1:=congrArg List.length p'
  have l2:=congrArg List.length ep
  rw [Array.length_toList] at l1 l2
  rw [l1,l2]
  simp only [List.length_append,List.length_cons]
  (first|lia|omega)
theorem Chn.pow {xs:Array Keyed} {f:Nat×Nat×Nat→Nat×Nat×Nat} (hf:∀y,(f y).1=y.1∧(f y).2.1=y.2.1):∀{L:List (Nat×Nat×Nat)} {i lo hi:Nat},Chn key xs lo L hi→Chn key xs lo (L.modify i f) hi
 | [],i,lo,hi,h=>by rw [List.modify_nil];exact h
 | (s,n,p) :: t,0,lo,hi,h=>by
  rw [List.modify_zero_cons]
  obtain ⟨e1,e2⟩:=hf (s,n,p)
  generalize f (s,n,p)=y at e1 e2
  obtain ⟨y1,y2,y3⟩:=y
  dsimp only at e1 e2
  subst e1 e2
  exact h
 | (s,n,p) :: t,i+1,lo,hi,h=>by
  rw [List.modify_succ_cons]
  exact ⟨h.1,h.2.1,h.2.2.1,Chn.pow hf h.2.2.2⟩
theorem ite_lt2 {c:Prop} [Decidable c] {n:Nat} (h:1<n):(if c then n-2-1 else n-2)+1<n:=by
 by_cases z:c
 ·rw [if_pos z]; (first|lia|omega)
 ·rw [if_neg z]; (first|lia|omega)
theorem jpGoS {α γ:Type} {m:StateT SortSt Sem α} {Q : α→SortSt→Prop} {st:SortSt} (V : γ→StateT SortSt Sem α) (G : γ→SortSt→Prop) (hV:∀z st,G z st→wpS (model prog w) A E s (V z) Q st)
  (hm:(∀z st,G z st→wpS (model prog w) A E s (V z) Q st)→wpS (model prog w) A E s m Q st):wpS (model prog w) A E s m Q st:=hm hV
theorem tm_runs {st:SortSt} {Q:Unit→SortSt→Prop} (hL:Lts prog w A E s a₀ key kd) (hT:Tb a₀ kd st) (hp:pendingOf st = #[])
  (h:∀st',Tb a₀ kd st'→Sg key (arrOf st') 0 a₀.size→Q () st'):wpS (model prog w) A E s sortRuns' Q st:=by
 have hsz:=hT.perm.size_eq
 rw [sortRuns'_eq]
 refine wpS_bind (wpS_get ?_)
 dsimp -zeta only
 rw [hsz]
 refine wpS_bind (wpS_mono (wpS_forRange
  (I:=fun x c st'=>∃lo,c=(none,lo)∧Tb a₀ kd st'∧Chn key (arrOf st') 0 (pendingOf st').toList lo∧lo≤a₀.size∧(x≤lo∨lo=a₀.size))
  (Q:=fun c st'=>c=(none,a₀.size)∧Tb a₀ kd st'∧Chn key (arrOf st') 0 (pendingOf st').toList a₀.size) ?step ?fin ⟨0,rfl,hT,by rw [hp];rfl,Nat.zero_le _, .inl (Nat.le_refl _)⟩) ?post)
 case fin=>
  intro c st' hz_
  refine Elim.el hz_ _ ?_
  clear hz_
  rintro lo rfl t ch h1 h2
  have:lo=a₀.size:=by (first|lia|omega)
  subst this
  exact ⟨rfl,t,ch⟩
 case post=>
  intro c st1 hz_
  refine Elim.el hz_ _ ?_
  clear hz_
  rintro rfl t1 ch1
  dsimp only
  refine wpS_bind (wpS_mono (wpS_forRange
   (I:=fun x c st'=>c=(none,())∧Tb a₀ kd st'∧Chn key (arrOf st') 0 (pendingOf st').toList a₀.size∧((pendingOf st').size≤1∨(pendingOf st').size+x≤a₀.size))
   (Q:=fun c st'=>c=(none,())∧Tb a₀ kd st'∧Chn key (arrOf st') 0 (pendingOf st').toList a₀.size∧(pendingOf st').size≤1) ?step2 ?fin2 ⟨rfl,t1,ch1, .inr (by have:=ch1.le;rw [Array.length_toList] at this; (first|lia|omega))⟩) ?post2)
  case fin2=>
   intro c st' hz_
   refine Elim.el hz_ _ ?_
   clear hz_
   rintro rfl t ch hs
   exact ⟨rfl,t,ch,by first|lia|omega⟩
  case post2=>
   intro c st' hz_
   refine Elim.el hz_ _ ?_
   clear hz_
   rintro rfl t ch hs
   refine wpS_pure (h st' t ?_)
   cases e:(pendingOf st').toList with
   | nil=>
    rw [e] at ch
    have ch:0=a₀.size:=ch
    intro p q _ _ h3; (first|lia|omega)
   | cons y r=>
    have hl:(pendingOf st').toList.length≤1:=by rw [Array.length_toList];exact hs
    rw [e] at ch hl
    have hr:r=[]:=by
     cases r with
     | nil=>rfl
     | cons _ _=>simp only [List.length_cons] at hl; (first|lia|omega)
    subst hr
    obtain ⟨y1,y2,y3⟩:=y
    obtain ⟨_,_,g1,g2⟩:=ch
    have g2:0+y2=a₀.size:=g2
    rw [g2] at g1;exact g1
  case step2=>
   intro x c st' _ hx hz_
   refine Elim.el hz_ _ ?_
   clear hz_
   rintro rfl t ch hs
   refine wpS_bind (wpS_get ?_)
   by_cases z:(pendingOf st').size≤1
   ·rw [if_pos z]
    exact wpS_pure ⟨rfl,t,ch,z⟩
   ·rw [if_neg z]
    refine wpS_bind (tm_mergeC hL t ch (Nat.le_refl _) (ite_lt2 (by first|lia|omega)) fun st2 t2 ch2 sz2 _ => ?_)
    exact wpS_pure ⟨rfl,t2,ch2,by first|lia|omega⟩
 case step=>
  intro x c st1 _ hx hz_
  refine Elim.el hz_ _ ?_
  clear hz_
  rintro lo rfl t1 ch1 h1 h2
  dsimp -zeta only
  extract_lets l0 jp fc n2
  refine ifS (fun z => ?_) fun z => ?_
  ·have:lo=a₀.size:=Nat.le_antisymm h1 z
   subst this
   exact wpS_pure ⟨rfl,t1,ch1⟩
  have z:¬lo≥a₀.size:=z
  have tl:∀(n:Nat) (st2:SortSt),Tb a₀ kd st2→1≤n→lo+n≤a₀.size→Sg key (arrOf st2) lo (lo+n)→∀p:Array (Nat×Nat×Nat),Chn key (arrOf st2) 0 p.toList lo →
    Tb a₀ kd (setPending st2 (p.push (lo,n,0)))∧Chn key (arrOf st2) 0 (p.push (lo,n,0)).toList (lo+n):=fun n st2 t2 n1 n2 s2 p hp'=>by
   refine ⟨⟨t2.perm,t2.kind,t2.failed⟩,?_⟩
   rw [Array.toList_push]
   exact hp'.app ⟨rfl,n1,s2,rfl⟩
  have af:Af a₀ kd lo st1 st1:=⟨t1.perm,t1.kind,t1.failed,rfl,fun _ _=>rfl⟩
  have back:∀{st2:SortSt},Af a₀ kd lo st1 st2→Tb a₀ kd st2∧Chn key (arrOf st2) 0 (pendingOf st2).toList lo:=fun {st2} f=>⟨⟨f.perm,f.kind,f.failed⟩,by rw [f.pend];exact ch1.same fun k _ hk=>f.low k hk⟩
  refine jpGoS (fun n:Nat=>jp () n) (fun n st2=>Af a₀ kd lo st1 st2∧1≤n∧lo+n≤a₀.size∧Sg key (arrOf st2) lo (lo+n)) (fun m st2 hz => ?_) fun H => ?_
  rotate_left
  ·refine wpS_bind (tm_count hL (by first|lia|omega) (by first|lia|omega) af fun m st2 f2 m1 m2 s2 => ?_)
   dsimp only [l0,fc,n2]
   refine ifS (fun zm => ?_) fun zm => ?_
   ·refine wpS_bind (wpS_lift (wpAny_rule ⟨rfl,?_⟩))
    refine wpS_bind (tm_bin hL (by first|lia|omega) (by first|lia|omega) f2 s2 fun st3 f3 s3 => ?_)
    simp only [Bool.not_true,Bool.false_eq_true,if_false]
    exact H _ st3 ⟨f3,by first|lia|omega,by first|lia|omega,s3⟩
   ·exact H _ st2 ⟨f2,m1,by first|lia|omega,s2⟩
  obtain ⟨f2,m1,m2,s2⟩:=hz
  have b2:=back f2
  refine wpS_bind (wpS_get ?_)
  dsimp only [l0]
  cases hb:(pendingOf st2).back? with
  | none=>
   dsimp only
   obtain ⟨u1,u2⟩:=tl m st2 b2.1 m1 m2 s2 (pendingOf st2) b2.2
   exact wpS_bind (wpS_modify (wpS_pure ⟨_,rfl,u1,u2,m2, .inl (by first|lia|omega)⟩))
  | some y=>
   obtain ⟨y1,y2,y3⟩:=y
   dsimp only
   refine wpS_bind (wpS_mono (wpS_forRange
    (I:=fun _ c st'=>c=(none,())∧Tb a₀ kd st'∧Chn key (arrOf st') 0 (pendingOf st').toList lo∧Sg key (arrOf st') lo (lo+m))
    (Q:=fun c st'=>c=(none,())∧Tb a₀ kd st'∧Chn key (arrOf st') 0 (pendingOf st').toList lo∧Sg key (arrOf st') lo (lo+m)) ?step4 (fun _ _ hh=>hh) ⟨rfl,b2.1,b2.2,s2⟩) ?post4)
   case post4=>
    intro c st5 hz_
    refine Elim.el hz_ _ ?_
    clear hz_
    rintro rfl t5 c5 s5
    dsimp only
    have c6:Chn key (arrOf st5) 0 ((pendingOf st5).modify ((pendingOf st5).size-1) fun z=>(z.1,z.2.1,power' a₀.size (2*y1+y2) (2*y1+y2+y2+m) a₀.size)).toList lo:=by
     rw [Array.toList_modify]
     refine Chn.pow (fun _ => ?_) c5
     exact ⟨rfl,rfl⟩
    obtain ⟨u1,u2⟩:=tl m st5 t5 m1 m2 s5 _ c6
    exact wpS_bind (wpS_modify (wpS_bind (wpS_modify (wpS_pure ⟨_,rfl,u1,u2,m2, .inl (by first|lia|omega)⟩))))
   case step4=>
    intro x5 c st5 _ _ hz_
    refine Elim.el hz_ _ ?_
    clear hz_
    rintro rfl t5 c5 s5
    refine wpS_bind (wpS_get ?_)
    by_cases z5:(pendingOf st5).size>1
    ·have hb5:(pendingOf st5).size-2<(pendingOf st5).size:=by (first|lia|omega)
     rw [if_pos z5,getElem?_pos (pendingOf st5) ((pendingOf st5).size-2) hb5]
     obtain ⟨⟨v1,v2,v3⟩,ev⟩:∃v,(pendingOf st5)[(pendingOf st5).size-2]'hb5=v:=⟨_,rfl⟩
     rw [ev]
     dsimp only
     refine ifS (fun _=>wpS_pure ⟨rfl,t5,c5,s5⟩) fun _ => ?_
     refine wpS_bind (tm_mergeC hL t5 c5 h1 (by first|lia|omega) fun st6 t6 c6 _ o6 => ?_)
     exact wpS_pure ⟨rfl,t6,c6,sg_same (fun k hk _=>o6 k hk) s5⟩
    ·rw [if_neg z5]
     exact wpS_pure ⟨rfl,t5,c5,s5⟩
end
end L2
namespace L2
open PySem PySem.Spec PyProof.Rows
section
variable {prog:Program} {w:World} {A:Around} {E:Value→Shared→Prop} {s:Shared}
def numK (p:Keyed):Int:=numOf p.1
theorem lts_int {a₀:Array Keyed} (h0:IntKeys a₀):Lts prog w A E s a₀ numK oneType':=fun st x y Q hx hy hk q=>by
 obtain ⟨n,t,e1⟩:=h0 x hx
 obtain ⟨m,u,e2⟩:=h0 y hy
 have ex:numK x=n:=by unfold numK;rw [e1];rfl
 have ey:numK y=m:=by unfold numK;rw [e2];rfl
 rw [ex,ey] at q
 rw [lt'_eq]
 refine wpS_bind (wpS_get ?_)
 rw [hk,keyLt'_oneType,e1,e2]
 refine wpS_bind (wpS_lift (wpAny_attempt (oneLt_int ⟨rfl,?_⟩)))
 exact wpS_pure q
def Ask (prog:Program) (w:World) (A:Around) (E:Value→Shared→Prop) (s:Shared) (vs:List Value) (key:Keyed→Int) (κ:SortKind):Prop:=
 (∀Q:SortKind→Shared→Prop,Q κ s→wpAny (model prog w) A (keyKind' vs.toArray) Q (fun _ _=>False) s)∧Lts prog w A E s (pairsOf vs) key κ
theorem sortG_tree {a:Addr} {vs:List Value} {n:Nat} {κ:SortKind} {key:Keyed→Int} {P:PySem.Fin→Shared→Prop} (ho:s.heap.get? a=some (seqObj "list" vs.toArray n)) (hl:vs.length≤sizeLine)
  (ask:2≤vs.length→∀s6:Shared,(∀b o,b≠a→s.heap.get? b=some o→s6.heap.get? b=some o)→Ask prog w A E s6 vs key κ)
  (h:∀xs:Array Keyed,xs.Perm (pairsOf vs)→Sg key xs 0 xs.size→P (.done (.ret .none)) { s with heap:=sortedHeap s.heap a vs (xs.map (·.2)) }) :
  wpAny (model prog w) A (Builtin.«list.sort» ⟨[.ref a],[]⟩) P E s:=by
 obtain ⟨e,g1⟩:∃e,(s.heap.update a (Obj.mapSeq fun _ => #[])).get? a=some (seqObj "list" #[] e):=⟨_,get?_update_seq ho _⟩
 have g2:=Heap.get?_push_of_some (seqObj "list" #[] 0) (Heap.get?_push_of_some (seqObj "tuple" vs.toArray 0) g1)
 have ls:vs.toArray.size=vs.length:=by simp
 have room:∀{xs:Array Keyed},xs.Perm (pairsOf vs)→(xs.map (·.2)).size≤sizeLine+1:=fun {xs} hp=>by
  have:=hp.size_eq
  rw [pairsOf_size] at this
  rw [Array.size_map]; (first|lia|omega)
 rw [list_sort_plain]
 refine wpAny_bind (listItems_at ho rfl (wpAny_bind (listUpdate_at ho rfl (wpAny_bind (seqEpoch_at g1 rfl (wpAny_bind (wpAny_newTuple (wpAny_bind (wpAny_newList (wpAny_holding ?_)))))))  (by rw [ls];exact hl) (Nat.zero_le _))))
 by_cases few:vs.toArray.size<2
 ·rw [if_pos few,if_pos few]
  refine wpAny_bind (wpAny_pure ?_)
  dsimp only
  rw [StateT.run_pure]
  have srt:Sg key (pairsOf vs) 0 (pairsOf vs).size:=fun i j _ hij hj=>by
   rw [pairsOf_size] at hj
   rw [show i=j by first|lia|omega];exact Int.le_refl _
  refine wpAny_bind (wpAny_pure (wpAny_bind (seqEpoch_at g2 rfl (wpAny_bind (listUpdate_at g2 rfl ?_ (Nat.zero_le _) (room (Array.Perm.refl _)))))))
  simp only [bne_self_eq_false,Bool.false_eq_true,if_false]
  exact wpAny_pure (h _ (Array.Perm.refl _) srt)
 ·rw [if_neg few,if_neg few]
  obtain ⟨kk,hL⟩:=ask (by first|lia|omega) { s with heap:=((s.heap.update a (Obj.mapSeq fun _ => #[])).push (seqObj "tuple" vs.toArray 0)).push (seqObj "list" #[] 0) } fun b o hb q=>Heap.get?_push_of_some _ (Heap.get?_push_of_some _ (by rw [Heap.get?_update_ne _ _ _ _ hb];exact q))
  refine wpAny_bind (wpAny_mono (kk (fun κ' s' => κ' = κ∧s'={ s with heap:=((s.heap.update a (Obj.mapSeq fun _ => #[])).push (seqObj "tuple" vs.toArray 0)).push (seqObj "list" #[] 0) }) ⟨rfl,rfl⟩) (fun κ' s' hk => ?_) fun _ _ z=>z.elim)
  obtain ⟨rfl,rfl⟩:=hk
  refine wpAny_bind (wpAny_mono (tm_runs (a₀:=pairsOf vs) (st:=SortSt.mk' _ (pairsOf vs) #[] 7 none) (Q:=fun _ st=>Tb (pairsOf vs) κ' st∧Sg key (arrOf st) 0 (pairsOf vs).size) hL ⟨Array.Perm.refl _,rfl,rfl⟩ rfl fun _ t g=>⟨t,g⟩) ?_ fun _ _ z=>z)
  rintro ⟨⟨⟩,st⟩ s' ⟨rfl,t,g⟩
  refine wpAny_bind (seqEpoch_at g2 rfl (wpAny_bind (listUpdate_at g2 rfl ?_ (Nat.zero_le _) (room t.perm))))
  rw [t.failed]
  simp only [bne_self_eq_false,Bool.false_eq_true,if_false]
  exact wpAny_pure (h _ t.perm (by rw [t.perm.size_eq];exact g))
theorem sortG {l:Addr} {vs:List Value} {κ:SortKind} {key:Keyed→Int} {Q:Value→Shared→Prop} (hl:s.heap.IsList l vs.toArray) (hz:vs.length≤sizeLine)
  (ask:2≤vs.length→∀s6:Shared,(∀b o,s.heap.get? b=some o→s6.heap.get? b=some o)→Ask prog w A.in1.in1 E s6 vs key κ)
  (h:∀xs:Array Keyed,xs.Perm (pairsOf vs)→Sg key xs 0 xs.size→Q (.ref (s.heap.objs.size+1)) { s with heap:=sortedAll s.heap vs (xs.map (·.2)) }) :
  wpAny (model prog w) A (call (.builtin "sorted") [.ref l]) Q E s:=by
 have k1:((s.heap.push (seqObj "list" #[] 0)).update s.heap.objs.size (Obj.mapSeq (· ++ vs.toArray))).objs.size=s.heap.objs.size+1:=(Heap.size_update ..).trans (size_push' _ _)
 have k2:(((s.heap.push (seqObj "list" #[] 0)).update s.heap.objs.size (Obj.mapSeq (· ++ vs.toArray))).push (seqObj "list" vs.toArray 0)).get? _=some (seqObj "list" vs.toArray 0):=Heap.get?_push_size _ rfl
 refine Calls.call_function_entry kind_sorted plain_sorted entry_sorted (args_sorted1 _) ?_
 unfold Builtin.«sorted»
 refine wpAny_bind (m:=checkCount "sorted" 1 1 _) (wpAny_pure (wpAny_bind (collect_list hl (wpAny_bind (wpAny_newList ?_)) hz)))
 rw [k1] at k2
 show wpAny _ _ _ _ _ { s with heap:=Heap.push _ (seqObj "list" vs.toArray 0) }
 rw [k1]
 refine wpAny_bind (wpAny_holding (wpAny_call_entry slot_list_sort ⟨_,k2,rfl⟩ entry_list_sort (sortG_tree k2 hz (fun h2 s6 k6=>ask h2 s6 fun b o q=>k6 b o (Nat.ne_of_lt (Nat.lt_succ_of_lt (Heap.lt_size q))) (Heap.get?_push_of_some _ (by rw [Heap.get?_update_ne _ _ _ _ (Nat.ne_of_lt (Heap.lt_size q))];exact Heap.get?_push_of_some _ q))) fun xs a1 a2=>⟨_,rfl,wpAny_pure ⟨_,rfl,h xs a1 a2⟩⟩) (args_list_sort _)))
theorem ask_ints {vs:List Value} {ns:List Int} (hI:IntsAre vs ns) (h2:2≤vs.length):Ask prog w A E s vs numK oneType':=by
 refine ⟨fun Q q => ?_,lts_int hI.intKeys⟩
 cases vs with
 | nil=>cases h2
 | cons x vs=>
  cases vs with
  | nil=>exact absurd h2 (by show ¬ 2≤1;decide)
  | cons y r=>rw [keyKind_ints hI];exact wpAny_pure q
end
section
variable {X:Cx} (K:PySem.W.Frag)
theorem sortedL (hK:X.K=K:=by rfl):CallR X (.builtin "sorted") (fun xs H Q=>∃(p:Addr) (ns:List Int),xs=[.ref p]∧SqL K H p (ns.map V.int)∧ns.length≤sizeLine ∧
  ∀(ms:List Int) (q:Addr) (H':Hp),ms.Perm ns→ms.Pairwise (· ≤ ·)→New H q (.lst (ms.map V.int)) H'→Q (.ref q) H'):=by
 subst hK
 intro pins s σ H xs us Q I r h
 obtain ⟨p,ns,rfl,hq,hl,q⟩:=h
 obtain ⟨u,rfl,ru⟩:=vals1 r
 cases ru
 obtain ⟨its,rv,pl,hz⟩:=I.list hq
 have hn:its.length=ns.length:=by have:=rv.length;rw [List.length_map] at this;exact this.symm
 refine sortG pl.isList (by first|lia|omega) (fun h2 s6 _=>ask_ints (intsAre_of rv) h2) fun xs b1 b2 => ?_
 obtain ⟨ms,a1,a2,a3⟩:=sorted_out (intsAre_of rv) b1 fun i j hij hj=>b2 i j (Nat.zero_le _) hij (by rw [b1.size_eq];exact hj)
 obtain ⟨out,ho⟩:∃out:Array Value,out=xs.map (·.2):=⟨_,rfl⟩
 rw [←ho] at a1 ⊢
 obtain ⟨e,he⟩:=sortedAll_at s.heap its out
 have hm:ms.length=ns.length:=a2.length_eq
 have hr:=vals_of_ints a1
 refine ⟨.ref (s.heap.objs.size+1),_,I.laid (a:=s.heap.objs.size+1) (o := .lst (ms.map V.int)) (t':=s.toks) (fun _ _=>sortedAll_old) (Nat.le_succ _) ⟨?_,out.toList,e,hr,?_⟩,rfl,q ms _ _ a2 a3 ⟨I.hok.fresh (Nat.le_succ _),rfl⟩⟩
 ·rw [List.length_map]; (first|lia|omega)
 ·simpa [seqObj] using he
end
end L2
namespace L2
open PySem PySem.Spec PyProof.Rows PySem.W
section
variable {M:Model} {A:Around} {E:Value→Shared→Prop} {s:Shared} {base:Heap} {env:Env} {outer:List Env} {L e:Addr} {cls a0:Value} {dx:Option Addr} {Q:Unit→Shared→Prop}
end
end L2
namespace L2
open PySem PySem.Spec PyProof.Rows PySem.W
section
variable {P:Program} {w:World} {K:PySem.W.Frag} {mg:Str→Option Value} {base:Heap} {N:List Str} {qual:Str} {scope:Scope} {f:Addr} {cd:Value} {A:Around} {outer:List Env} {s0:Shared} {H0:Hp} {E:XK}
end
end L2
namespace L2
open PySem PySem.Spec PyProof.Rows PySem.W
section
variable {X:Cx} {pins pins':List (Addr×Obj)} {σ σ0:St} {E':XK} {H:Hp} {s:Shared}
end
section
variable {X:Cx} {L:Addr}
end
section
variable {X:Cx} {L:Addr} {pins:List (Addr×Obj)} {σ:St} {H:Hp} {s:Shared}
end
section
variable {X:Cx} {L:Addr} {pins:List (Addr×Obj)} {σ:St} {H:Hp} {s:Shared}
end
section
variable {P:Program} {w:World} {K:PySem.W.Frag} {mg:Str→Option Value} {base:Heap}
end
end L2
namespace L2
open PySem PySem.Spec PyProof.Rows PySem.W
theorem refs_vals:∀(as:List Addr),Vals (as.map V.ref) (as.map Value.ref)
 | [] => .nil
 | _ :: as => .cons rfl (refs_vals as)
theorem vals_refs:∀{as:List Addr} {us:List Value},Vals (as.map V.ref) us→us=as.map Value.ref
 | [],_, .nil=>rfl
 | a :: as,_, .cons r t=>by rw [vals_refs t];cases r;rfl
theorem tups_of {h:Heap} : ∀(as:List Addr),(∀a∈as,∃o n z1 z2 t1 t2,h.get? a=some o∧o.cls = .type "tuple" ∧ o.data = .seq #[Value.int z1 t1,Value.int z2 t2] n) →
  ∃fs,KatTups h (as.map Value.ref) fs∧fs.length=as.length∧∀v∈fs,∃z t,v=Value.int z t
 | [],_=>⟨[], .nil,rfl,fun v hv=>by cases hv⟩
 | a :: as,g=>by
  obtain ⟨fs,k,l,q⟩:=tups_of as fun b hb=>g b (List.mem_cons_of_mem _ hb)
  obtain ⟨o,n,z1,z2,t1,t2,e1,e2,e3⟩:=g a List.mem_cons_self
  refine ⟨.int z1 t1 :: fs, .cons e1 e2 e3 rfl k,by rw [List.length_cons,List.length_cons,l],fun v hv => ?_⟩
  rcases List.mem_cons.mp hv with rfl|hv
  ·exact ⟨_,_,rfl⟩
  ·exact q v hv
abbrev kdPair:SortKind:=tuples' (Value.type "int" != Value.type "tuple")
def adOf:Keyed→Addr
 | (.ref q,_)=>q
 | _=>0
theorem pairs_refs (as:List Addr):(pairsOf (as.map Value.ref)).toList=as.map fun a=>(Value.ref a,Value.ref a):=by
 have z:∀l:List Addr,(l.map Value.ref).zip (l.map Value.ref)=l.map fun a=>(Value.ref a,Value.ref a):=fun l=>by
  induction l with
  | nil=>rfl
  | cons a l ih=>rw [List.map_cons,List.map_cons,List.zip_cons_cons,ih]
 unfold pairsOf
 rw [←z as]
 simp
section
variable {prog:Program} {w:World} {A:Around} {E:Value→Shared→Prop} {s:Shared}
theorem lts_pair {as:List Addr} {x y:Addr→Int} {key:Addr→Int} (ht:∀a∈as,∃o n t1 t2,s.heap.get? a=some o∧o.cls = .type "tuple" ∧ o.data = .seq #[.int (x a) t1, .int (y a) t2] n)
  (hk:∀a∈as,∀b∈as,(key a<key b ↔ (x a<x b∨(x a=x b∧y a<y b)))):Lts prog w A E s (pairsOf (as.map Value.ref)) (fun p=>key (adOf p)) kdPair:=fun st p q Q hp hq hs h=>by
 rw [pairs_refs] at hp hq
 obtain ⟨a,ma,rfl⟩:=List.mem_map.mp hp
 obtain ⟨b,mb,rfl⟩:=List.mem_map.mp hq
 obtain ⟨o1,n1,t1,t2,g1,_,d1⟩:=ht a ma
 obtain ⟨o2,n2,u1,u2,g2,_,d2⟩:=ht b mb
 have hab:decide (key a<key b)=decide (x a<x b∨(x a=x b∧y a<y b)):=decide_eq_decide.mpr (hk a ma b mb)
 rw [lt'_eq]
 refine wpS_bind (wpS_get ?_)
 rw [hs]
 refine wpS_bind (wpS_lift (wpAny_attempt (wpAny_mono (kat_lt g1 d1 g2 d2 (Q:=fun r s'=>r=decide (key a<key b)∧s'=s) ?_) (fun r s' hr => ?_) (fun _ _ z=>False.elim z))))
 ·show KatLex _ _ _ _ _ _ [(_,_),(_,_)] 0 s
  rw [hab]
  refine kat_cons (wpAny_eqBool_int ?_)
  by_cases c:x a=x b
  ·rw [show (x a == x b)=true by simpa using c]
   refine kat_yes (kat_cons (wpAny_eqBool_int ?_))
   by_cases d:y a=y b
   ·rw [show (y a == y b)=true by simpa using d]
    refine kat_yes (kat_nil ⟨?_,rfl⟩)
    exact (decide_eq_false (by first|lia|omega)).symm
   ·rw [show (y a == y b)=false by simpa using d]
    refine kat_no (kat_one _ _ (lt_int ?_))
    exact ⟨decide_eq_decide.mpr (by first|lia|omega),rfl⟩
  ·rw [show (x a == x b)=false by simpa using c]
   refine kat_no (oneLt_int ⟨?_,rfl⟩)
   exact decide_eq_decide.mpr (by first|lia|omega)
 ·obtain ⟨rfl,rfl⟩:=hr
  exact ⟨rfl,wpS_pure h⟩
end
section
variable {X:Cx} (K:PySem.W.Frag)
def rSrt (K:PySem.W.Frag):List V→Hp→VK→Prop:=fun xs H Q=>(∃(p:Addr) (v:V),xs=[.ref p]∧SqL K H p [v]∧∀(q:Addr) (H':Hp),New H q (.lst [v]) H'→Q (.ref q) H') ∨
  ∃(p:Addr) (as:List Addr) (x y key:Nat→Int),xs=[.ref p]∧SqL K H p (as.map V.ref)∧2≤as.length∧as.length<64 ∧
  (∀(i:Nat) a,as[i]? = some a→SqT K H a [.int (x i), .int (y i)])∧(∀i j,i<as.length→j<as.length→(key i<key j ↔ (x i<x j∨(x i=x j∧y i<y j))))∧(∀i j,i<as.length→j<as.length→i≠j→key i≠key j) ∧
  ∀(o:List Nat) (bs:List Addr) (q:Addr) (H':Hp),o.Perm (List.range as.length)→o.Pairwise (fun i j=>key i<key j)→bs.length=o.length→(∀(k i:Nat),o[k]? = some i→bs[k]? = as[i]?)→New H q (.lst (bs.map V.ref)) H'→Q (.ref q) H'
theorem idx_range:∀{as:List Addr},as.Nodup→as.map (fun a=>as.idxOf a)=List.range as.length:=fun {as} nd=>by
 refine List.ext_getElem (by simp) fun i h1 h2 => ?_
 rw [List.getElem_map,List.getElem_range]
 rw [List.length_map] at h1
 exact nd.idxOf_getElem i h1
theorem sortedP (hK:X.K=K:=by rfl):CallR X (.builtin "sorted") (rSrt K):=by
 subst hK
 intro pins s σ H xs us Q I r h
 rcases h with h|h
 ·obtain ⟨p,v,rfl,hq,q⟩:=h
  obtain ⟨u,rfl,ru⟩:=vals1 r
  cases ru
  obtain ⟨its,rv,pl,hz⟩:=I.list hq
  obtain ⟨u,rfl,r1⟩:=vals1 rv
  refine sortG (κ:=oneType') (key:=fun _=>0) pl.isList hz (fun h2=>absurd h2 (by show ¬ 2≤1;decide)) fun xs b1 b2 => ?_
  have ex:xs = #[(u,u)]:=by
   have:=Array.perm_iff_toList_perm.mp b1
   have e:(pairsOf [u]).toList=[(u,u)]:=by unfold pairsOf;simp
   rw [e] at this
   have:=List.perm_singleton.mp this
   exact Array.toList_inj.mp this
  subst ex
  obtain ⟨e,he⟩:=sortedAll_at s.heap [u] #[u]
  refine ⟨.ref (s.heap.objs.size+1),_,I.laid (a:=s.heap.objs.size+1) (o := .lst [v]) (t':=s.toks) (fun _ _=>sortedAll_old) (Nat.le_succ _) ⟨by show 1≤sizeLine;decide,[u],e, .cons r1 .nil,?_⟩,rfl,q _ _ ⟨I.hok.fresh (Nat.le_succ _),rfl⟩⟩
  simpa [seqObj] using he
 obtain ⟨p,as,x,y,key,rfl,hq,h2,h64,ht,hkey,hun,q⟩:=h
 obtain ⟨u,rfl,ru⟩:=vals1 r
 cases ru
 obtain ⟨its,rv,pl,hz⟩:=I.list hq
 have e:=vals_refs rv
 subst e
 have nd:as.Nodup:=by
  refine List.pairwise_iff_getElem.mpr fun i j hi hj hij z => ?_
  have g:=I.tuple_inj (ht i _ (List.getElem?_eq_getElem hi)) (ht j _ (by rw [z];exact List.getElem?_eq_getElem hj))
  injection g with g1 g2
  injection g1 with g1
  injection g2 with g2 _
  injection g2 with g2
  have k1:=hkey i j (by first|lia|omega) hj
  have k2:=hkey j i hj (by first|lia|omega)
  exact hun i j (by first|lia|omega) hj (by first|lia|omega) (by first|lia|omega)
 have ix:∀a∈as,as.idxOf a<as.length∧as[as.idxOf a]? = some a:=fun a ha=>⟨List.idxOf_lt_length_of_mem ha,by rw [List.getElem?_eq_getElem (List.idxOf_lt_length_of_mem ha),List.getElem_idxOf]⟩
 refine sortG (κ:=kdPair) (key:=fun p=>key (as.idxOf (adOf p))) pl.isList (by rw [List.length_map] at hz ⊢;exact hz) (fun _ s6 k6 => ?_) fun xs b1 b2 => ?_
 ·have tup:∀a∈as,∃o n t1 t2,s6.heap.get? a=some o∧o.cls = .type "tuple" ∧ o.data = .seq #[.int (x (as.idxOf a)) t1, .int (y (as.idxOf a)) t2] n:=fun a ha=>by
   obtain ⟨its,r1,p1,_⟩:=I.tuple (ht _ a (ix a ha).2)
   obtain ⟨w1,w2,rfl,⟨t1,rfl⟩,⟨t2,rfl⟩⟩:=vals2 r1
   obtain ⟨o,e1,e2,n,e3⟩:=p1
   exact ⟨o,n,t1,t2,k6 _ _ e1,e2,e3⟩
  refine ⟨fun Q6 q6 => ?_,lts_pair (x:=fun a=>x (as.idxOf a)) (y:=fun a=>y (as.idxOf a)) (key:=fun a=>key (as.idxOf a)) tup fun a ha b hb=>hkey _ _ (ix a ha).1 (ix b hb).1⟩
  obtain ⟨fs,kt,lf,hf⟩:=tups_of (h:=s6.heap) as fun a ha=>by
   obtain ⟨o,n,t1,t2,e1,e2,e3⟩:=tup a ha
   exact ⟨o,n,_,_,t1,t2,e1,e2,e3⟩
  refine kat_kind kt (by first|lia|omega) (fun v hv => ?_) (by decide) q6
  obtain ⟨z,t,rfl⟩:=hf v hv
  exact Looks.of_pure rfl
 ·have pl1:=Array.perm_iff_toList_perm.mp b1
  rw [pairs_refs] at pl1
  obtain ⟨bs,hbs⟩:∃bs:List Addr,bs=xs.toList.map adOf:=⟨_,rfl⟩
  have pb:bs.Perm as:=by
   have:=pl1.map adOf
   rw [List.map_map,show (adOf ∘ fun a=>((Value.ref a,Value.ref a):Keyed))=id from rfl,List.map_id] at this
   rw [hbs];exact this
  have ov:(xs.map (·.2)).toList=bs.map Value.ref:=by
   rw [Array.toList_map,hbs,List.map_map]
   refine List.map_congr_left fun p hp => ?_
   obtain ⟨a,_,rfl⟩:=List.mem_map.mp (pl1.subset hp)
   rfl
  have ov2:xs.map (·.2)=(bs.map Value.ref).toArray:=by rw [←ov]
  have lb:bs.length=as.length:=pb.length_eq
  have sz:xs.size=as.length:=by rw [←lb,hbs,List.length_map,Array.length_toList]
  rw [ov2]
  obtain ⟨e,he⟩:=sortedAll_at s.heap (as.map Value.ref) (List.toArray (bs.map Value.ref))
  refine ⟨.ref (s.heap.objs.size+1),_,I.laid (a:=s.heap.objs.size+1) (o := .lst (bs.map V.ref)) (t':=s.toks) (fun _ _=>sortedAll_old) (Nat.le_succ _) ⟨?_,bs.map Value.ref,e,refs_vals bs,?_⟩,rfl,q (bs.map fun a=>as.idxOf a) bs _ _ ?_ ?_ (by rw [List.length_map]) ?_ ⟨I.hok.fresh (Nat.le_succ _),rfl⟩⟩
  ·rw [List.length_map] at hz ⊢; (first|lia|omega)
  ·simpa [seqObj] using he
  ·rw [←idx_range nd];exact pb.map _
  ·rw [List.pairwise_map,List.pairwise_iff_getElem]
   intro i j hi hj hij
   have g:=b2 i j (Nat.zero_le _) (Nat.le_of_lt hij) (by first|lia|omega)
   have kv:∀{i:Nat} (hi:i<bs.length),ky (fun p=>key (as.idxOf (adOf p))) xs i=key (as.idxOf bs[i]):=fun {i} hi=>by
    have hx:i<xs.size:=by (first|lia|omega)
    have:bs[i]=adOf xs[i]:=by simp [hbs]
    unfold ky;rw [Array.getElem?_eq_getElem hx,this]
   rw [kv hi,kv hj] at g
   have m1:=pb.subset (List.getElem_mem hi)
   have m2:=pb.subset (List.getElem_mem hj)
   have ne:as.idxOf bs[i]≠as.idxOf bs[j]:=fun z=>by
    have z1:=(ix _ m1).2
    rw [z,(ix _ m2).2] at z1
    injection z1 with z1
    have:=(List.getElem_inj (pb.nodup_iff.mpr nd)).mp z1
    (first|lia|omega)
   have:=hun _ _ (ix _ m1).1 (ix _ m2).1 ne
   (first|lia|omega)
  ·intro k i hk
   rw [List.getElem?_map] at hk
   obtain ⟨a,ha,rfl⟩:=Option.map_eq_some_iff.mp hk
   rw [(ix a (pb.subset (List.mem_of_getElem? ha))).2];exact ha
theorem rSrt_of {H:Hp} {p:Addr} {as:List Addr} {x key:Nat→Int} {Q:VK} (hq:SqL K H p (as.map V.ref)) (h1:1≤as.length) (h64:as.length<64) (ht:∀(i:Nat) a,as[i]? = some a→SqT K H a [.int (x i), .int i])
  (hk:∀i,key i=x i*64+i)
  (k:∀(o:List Nat) (bs:List Addr) (q:Addr) (H':Hp),o.Perm (List.range as.length)→o.Pairwise (fun i j=>key i<key j)→bs.length=o.length→(∀(k i:Nat),o[k]? = some i→bs[k]? = as[i]?)→New H q (.lst (bs.map V.ref)) H'→Q (.ref q) H') :
  rSrt K [.ref p] H Q:=by
 by_cases h2:2≤as.length
 ·refine .inr ⟨p,as,x,fun i=>i,key,rfl,hq,h2,h64,ht,fun i j hi hj => ?_,fun i j hi hj hij => ?_,k⟩
  ·rw [hk,hk]
   show _ ↔ (x i<x j∨(x i=x j∧(i:Int)<(j:Int)))
   (first|lia|omega)
  ·rw [hk,hk]; (first|lia|omega)
 ·obtain ⟨a,rfl⟩:∃a,as=[a]:=by
   match as,h1,h2 with
   | [a],_,_=>exact ⟨a,rfl⟩
   | _ :: _ :: _,_,h2=>exact absurd (by simp) h2
  refine .inl ⟨p,_,rfl,hq,fun q H' n=>k [0] [a] q H' (by simp) (by simp) rfl (fun k i e => ?_) n⟩
  match k,e with
  | 0,e=>cases e;rfl
  | k+1,e=>simp at e
end
end L2
namespace L2
open PySem PySem.Spec PyProof.Rows
section
variable {X:Cx} {pos:Pos}
end
end L2
namespace L2
open PySem PySem.Spec PyProof.Rows PySem.W
end L2
namespace L2
open PySem PySem.Spec PyProof.Rows PySem.W
end L2
namespace L2
open PySem PySem.Spec PyProof.Rows PySem.W PySem.Calls Builtin Builtin.ObjectAttr Builtin.Getset_descriptor
section
variable {K:Frag} {e C:Addr}
variable {prog:Program} {w:World} {A:Around} {E:Value→Shared→Prop} {s:Shared}
end
section
variable {X:Cx}
end
end L2
namespace L2
open PySem PySem.Spec PyProof.Rows
section
variable {X:Cx}
def nums (n:Nat):List V:=(List.range n).map fun (i:Nat)=>V.int (i:Int)
theorem nums_vals' (r:List Value):(∀(j:Nat) v,r.reverse[j]? = some v→∃t,v = .int (j:Int) t)→Vals (nums r.reverse.length) r.reverse:=by
 induction r with
 | nil=>exact fun _ => .nil
 | cons x r ih=>
  rw [List.reverse_cons]
  generalize r.reverse=l at ih
  intro h
  have e:nums (l++[x]).length=nums l.length++[V.int (l.length:Int)]:=by
   unfold nums
   rw [List.length_append,List.length_singleton,List.range_succ,List.map_append]
   rfl
  rw [e]
  obtain ⟨t,ht⟩:=h l.length x (by simp)
  exact (ih fun j v hj=>h j v (by rw [List.getElem?_append_left (List.getElem?_eq_some_iff.mp hj).1];exact hj)).append (.cons ⟨t,ht⟩ .nil)
theorem nums_vals {its:List Value} {n:Nat} (hl:its.length=n) (h:∀(j:Nat) v,its[j]? = some v→∃t,v = .int (j:Int) t):Vals (nums n) its:=by
 subst hl
 have z:=nums_vals' its.reverse
 rw [List.reverse_reverse] at z
 exact z h
def tLR (ta:TA):TE:=fun σ H Q=>ta σ H fun vs H1=>∃n:Nat,vs=[.int (n:Int)]∧n≤16777216∧∀p H',New H1 p (.lst (nums n)) H'→Q (.ref p) H'
theorem pe_listrange {a:Expr} {ta:TA} {p p2 pos pos2:Pos} (hc:X.calm=true) (hgl:Gl X "list") (hml:X.mg "list" = none) (hgr:Gl X "range") (hmr:X.mg "range" = none) (ha:PA X [a] ta)
  (hbl:bootBuiltins "list" = some (.type "list"):=by first|rfl|decide)
  (hs0:starEach [.Call (.Name "range" p2) [a] [] pos2] X.env=[(false,eval (.Call (.Name "range" p2) [a] [] pos2) X.env)]:=by rfl) (hs:starEach [a] X.env=[(false,eval a X.env)]:=by rfl) :
  PE X (.Call (.Name "list" p) [.Call (.Name "range" p2) [a] [] pos2] [] pos) (tLR ta):=by
 intro pins s σ H Q I h
 refine wpAny_Call_Name_kw (ld_blt I hgl hml hbl ?_)
 refine PyProof.Rows.callWith_type1 ?_ hs0 rfl
 rw [hs0]
 show wpAny _ _ (spliced ((false,eval (.Call (.Name "range" p2) [a] [] pos2) X.env) :: [])) _ _ _
 refine Calls.spliced_cons ?_
 refine Call_ (ld_blt I hgr hmr boot_range (PyProof.Rows.callWith_type1 (thn (ha s σ H _ I h) fun us s1 ⟨vs,H1,I1,r1,q1⟩ => ?_) hs rfl))
 obtain ⟨n,e,hn,q⟩:=q1
 subst e
 obtain ⟨u,rfl,ru⟩:=vals1 r1
 obtain ⟨t,rfl⟩:=ru
 refine call_range_1 ?_
 refine Calls.spliced_nil ?_
 have k1:∀b o,s1.heap.get? b=some o→(s1.heap.push { cls := .type "range",data := .fields #[.int 0 s1.toks, .int n t, .int 1 (s1.toks+1)] }).get? b=some o:=fun b o e=>Heap.get?_push_of_some _ e
 refine call_list_range (I.ok.hd hc) (IsRange.new ..) (small_one (by decide) (by decide) (by first|lia|omega) (by first|lia|omega)) (n:=n) (by rw [rangeSize_one];split <;> (first|lia|omega)) (Nat.le_trans hn (by decide)) fun h' tk acc c hk hD hI => ?_
 have I2:Inv X pins σ H1 { s1 with heap:=s1.heap.push { cls := .type "range",data := .fields #[.int 0 s1.toks, .int n t, .int 1 (s1.toks+1)] },toks:=s1.toks+1+1 }:=I1.kept k1
 have hv:Vals (nums n) acc.toList:=nums_vals (by rw [Array.length_toList];exact hI.1) fun j v hj=>by
  obtain ⟨t',e⟩:=hI.2 j v (by rw [←Array.getElem?_toList];exact hj)
  exact ⟨t',by rw [e];simp⟩
 refine ⟨.ref _,_,I2.laid (o := .lst (nums n)) (t':=tk) hk (Nat.le_refl _) ⟨?_,acc.toList,c,hv,by simpa [seqObj] using hD⟩,rfl,q _ _ ⟨I2.hok.fresh (Nat.le_refl _),rfl⟩⟩
 unfold nums
 rw [List.length_map,List.length_range]
 exact Nat.le_trans hn (by decide)
end
end L2
namespace L2
open PySem PySem.Spec PyProof.Rows
def oneMore {K:Type} [DecidableEq K] (D:List K) (k:K):List K:=if k∈D then D else D++[k]
def metKeys {K:Type} [DecidableEq K] (ks:Nat→K):Nat→List K
 | 0=>[]
 | i+1=>oneMore (metKeys ks i) (ks i)
theorem metKeys_le {K:Type} [DecidableEq K] (ks:Nat→K):∀i,(metKeys ks i).length≤i
 | 0=>Nat.le_refl _
 | i+1=>by
  have:=metKeys_le ks i
  unfold metKeys oneMore
  split
  ·(first|lia|omega)
  ·rw [List.length_append];exact Nat.succ_le_succ this
section
variable {prog:Program} {w:World} {K:Type} [DecidableEq K] {knd:PySem.KeyKind prog w K}
def HasKeys (knd:PySem.KeyKind prog w K) (h:Heap) (a:Addr) (D:List K):Prop:=h.SetOf knd a (fun k=>decide (k∈D)) D.length
theorem HasKeys.at' {h h':Heap} {a:Addr} {D:List K} (x:HasKeys knd h a D) (k:∀o,h.get? a=some o→h'.get? a=some o):HasKeys knd h' a D:=by
 obtain ⟨o,es,ep,t,e,r⟩:=x
 exact ⟨o,es,ep,t,k _ e,r⟩
theorem HasKeys.more {h:Heap} {a:Addr} {D:List K} {k:K} (x:h.SetOf knd a (fun k'=>decide (k'∈D)||decide (k'=k)) (if decide (k∈D)=true then D.length else D.length+1)):HasKeys knd h a (oneMore D k):=by
 unfold HasKeys oneMore
 by_cases q:k∈D
 ·rw [if_pos q]
  rw [if_pos (decide_eq_true q)] at x
  have e:(fun k'=>decide (k'∈D)||decide (k'=k))=fun k'=>decide (k'∈D):=by
   funext k'
   by_cases z:k'=k
   ·subst z;simp [q]
   ·simp [z]
  rwa [e] at x
 ·rw [if_neg q]
  rw [if_neg (by simpa using q)] at x
  have e:(fun k'=>decide (k'∈D)||decide (k'=k))=fun k'=>decide (k'∈D++[k]):=by
   funext k'
   simp [Bool.decide_or]
  rw [e] at x
  rw [List.length_append]
  exact x
variable {A:Around} {R:Result→Shared→Prop} {I:Addr} {fp wr:List Addr} {G:Array GenState→Array GenState→Prop} {n:Nat} {P:Nat→Value→Prop} {St:Nat→Shared→Prop}
end
abbrev setObj0 (led:Bool):Obj:={ cls := .type "set",dict:=none,data := .set #[] 0 (.fresh 0 0 led) }
section
variable {prog:Program} {w:World} {K:Type} [DecidableEq K] {knd:PySem.KeyKind prog w K} {A:Around} {E:Value→Shared→Prop} {s:Shared}
end
section
variable {X:Cx}
end
end L2
namespace L2
open PySem PySem.Spec PyProof.Rows
section
variable {X:Cx} {pins:List (Addr×Obj)} {σ:St} {H:Hp} {s:Shared}
end
end L2
namespace L2
open PySem PySem.Spec PyProof.Rows
structure KeyV (P:Program) (w:World) (K:Type) [DecidableEq K] where
 knd:PySem.KeyKind P w K
 v:K→V
 ok:∀k u,RelV (v k) u→knd.is k u=true∧u.scannable=true
def strV (P:Program) (w:World):KeyV P w Str:=⟨strKind P w,V.str,fun k u r=>by obtain ⟨t,rfl⟩:=r;exact ⟨strKind_is _ _ _ _,rfl⟩⟩
def setK {P:Program} {w:World} {K:Type} [DecidableEq K] (kv:KeyV P w K) (a:Addr) (D:List K):HO := .ext fun h=>HasKeys kv.knd h a D
theorem setK_ok {P:Program} {w:World} {K:Type} [DecidableEq K] {kv:KeyV P w K} {a:Addr} {D:List K} {H:Hp} {h:Heap} (x:HasKeys kv.knd h a D):ObjOk P w H h a (setK kv a D):=by
 have x':=x
 obtain ⟨o,es,ep,t,e,rest⟩:=x'
 exact ⟨x,⟨o,e⟩,fun h1 h2 y k=>HasKeys.at' y k⟩
section
variable {prog:Program} {w:World} {A:Around} {R:Result→Shared→Prop} {s:Shared}
theorem scomp_turn (ex target iter:Expr) (ifs:List Expr) (scope:Scope) (pos:Pos) (it:Value) (D:Addr) (env:Env) :
  compTurn (.SetComp ex [⟨target,iter,ifs,0⟩] scope pos) 0 it (.ref D) env=(do
   standAt iter.pos
   match ←pyNext it with
   | none=>pure (.done .next)
   | some v=>
    letOwnedTupleGo target it v
    assign target env v
    let mut ok:=true
    for c in ifs do
     if ok then ok ←isTrue c env (eval c env)
    if ok then
     (do
      let ev ←eval ex env
      standAt ex.pos
      let _ ←call (.builtin "set.add") [.ref D,ev])
    again (.compLoop (.SetComp ex [⟨target,iter,ifs,0⟩] scope pos) 0 it (.ref D) env)):=by rfl
theorem scomp_turns {ex target iter:Expr} {ifs:List Expr} {scope:Scope} {pos:Pos} {it:Value} {D:Addr} {env:Env} (I:Nat→Shared→Prop)
  (turn:∀n s,I n s→wpAny (model prog w) A (pyNext it) (fun r s1=>match r with
   | none=>R (.ok .next) s1
   | some v=>wpAny (model prog w) A (letOwnedTupleGo target it v) (fun _ s1'=>wpAny (model prog w) A (assign target env v) (fun _ s2=>
     wpAny (model prog w) A (testsOf ifs env) (fun ok s3=>
      if ok=true then wpAny (model prog w) A (eval ex env) (fun ev s4=>wpAny (model prog w) A (call (.builtin "set.add") [.ref D,ev]) (fun _ s6=>∃m,m<n∧I m s6) noE s4) noE s3
      else ∃m,m<n∧I m s3) noE s2) noE s1') noE s1) noE s)
  (n:Nat) (h:I n s):codeAny (model prog w) A (.compLoop (.SetComp ex [⟨target,iter,ifs,0⟩] scope pos) 0 it (.ref D) env) R s:=by
 refine codeAny_loop rfl I (fun n s hI=>(show wpAny _ A (Sem.onRaise (compTurn (.SetComp ex [⟨target,iter,ifs,0⟩] scope pos) 0 it (.ref D) env) (fun x=>do noteFrame x env;theTreesLotGoes x)) _ _ s from wpAny_noted ?_)) n h
 rw [scomp_turn]
 refine wpAny_bind (wpAny_standAt (wpAny_bind (noE_to (thn (turn n s hI) fun r s1 h1 => ?_))))
 cases r with
 | none=>exact wpAny_pure h1
 | some v=>
  refine wpAny_bind (noE_to (thn h1 fun _ s1' h1' => ?_))
  refine wpAny_bind (noE_to (thn h1' fun _ s2 h2=>wpAny_bind (noE_to (thn h2 fun ok s3 h3 => ?_))))
  cases ok with
  | false=>exact wpAny_pure ⟨rfl,h3⟩
  | true=>
   exact wpAny_bind (wpAny_bind (noE_to (thn h3 fun ev s4 h4=>wpAny_bind (wpAny_standAt (wpAny_bind (noE_to (thn h4 fun _ s6 h6=>wpAny_pure (wpAny_pure ⟨rfl,h6⟩))))))))
theorem scomp_start {ex target iter ifs rest scope pos it acc env} (h0:codeAny (model prog w) A (.compLoop (.SetComp ex (⟨target,iter,ifs,0⟩ :: rest) scope pos) 0 it acc env) R s)
  (h:wpAny (model prog w) A (pyIter it) (fun it' s'=>codeAny (model prog w) A (.compLoop (.SetComp ex (⟨target,iter,ifs,0⟩ :: rest) scope pos) 0 it' acc env) R s') (notedBy (model prog w) A env fun x s'=>R (.error x) s') s) :
  codeAny (model prog w) A (.compStart (.SetComp ex (⟨target,iter,ifs,0⟩ :: rest) scope pos) 0 it acc env) R s:=by
 refine codeAny_of_tree (show wpAny _ A ((compStart (.SetComp ex (⟨target,iter,ifs,0⟩ :: rest) scope pos) 0 it acc env).onRaise (fun x=>do noteFrame x env;standAt theWindowsPlace)) _ _ s from wpAny_notedAt ?_)
 unfold compStart
 refine wpAny_bind (m:=ask) (wpAny_askSetting (wpAny_ite ?_))
 split
 ·first
   | exact wpAny_bind (wpAny_pure (wpAny_pure ⟨rfl,h0⟩))
   | exact wpAny_pure ⟨rfl,h0⟩
 ·refine wpAny_bind (wpAny_rule ?_)
  refine wpAny_bind (m:=standAt iter.pos) (wpAny_standAt ?_)
  exact wpAny_bind (wpAny_mono h (fun it' s' h'=>wpAny_pure ⟨rfl,h'⟩) fun _ _ x=>x)
end
section
variable {X:Cx} {pins:List (Addr×Obj)} {σ:St} {H:Hp} {s:Shared} {a:Addr} {u:Value} {A:Around} {E:Value→Shared→Prop} {K:Type} [DecidableEq K] {kv:KeyV X.prog X.w K}
theorem s_add {D:List K} {k:K} {Q:Value→Shared→Prop} (I:Inv X pins σ H s) (e:H a=some (setK kv a D)) (l:D.length≤4000) (ry:RelV (kv.v k) u)
  (h:∀v s',Inv X pins σ (upd H a (setK kv a (oneMore D k))) s'→Q v s'):wpAny (model X.prog X.w) A (call (.builtin "set.add") [.ref a,u]) Q E s:=by
 have x:=(show ObjOk X.prog X.w H s.heap a (setK kv a D) from I.hok a _ e).1
 obtain ⟨h1,h2⟩:=kv.ok k u ry
 refine call_set_add h1 h2 x (by unfold scanBound; (first|lia|omega)) fun h' sb x' => ?_
 have y:HasKeys kv.knd h' a (oneMore D k):=HasKeys.more x'
 have y':=y
 obtain ⟨o,es,ep,t,eo,_⟩:=y'
 exact h _ _ (d_write I (by rw [e];exact True.intro) sb ⟨o,eo⟩ (setK_ok y))
end
def CompS {P:Program} {w:World} {KT:Type} [DecidableEq KT] (kv:KeyV P w KT) (J:It) (n:Nat) (js:List Nat) (g:TG) (tc:TT) (te:TE) (σ:St) (D:Addr) (H1:Hp) (fin:Hp→Prop):Prop:=
 ∃W:Nat→Nat→Hp→Prop,(∃m,W 0 m H1)∧∀i m H,W i m H →
  (J.stop i H∧fin H) ∨
  (J.go i H∧∀x H',J.yld i H x H'→g x (List.replicate n none++cvals σ js) H' fun σ2 H2=>tc σ2 H2 fun b H3=>
   if b=true then te σ2 H3 fun y H4=>∃ks k,H4 D=some (setK kv D ks)∧y=kv.v k∧ks.length≤4000∧∃m',m'<m∧W (i+1) m' (upd H4 D (setK kv D (oneMore ks k))) else ∃m',m'<m∧W (i+1) m' H3)
def tSComp {P:Program} {w:World} {KT:Type} [DecidableEq KT] (kv:KeyV P w KT) (wi:TI) (n:Nat) (js:List Nat) (g:TG) (tc:TT) (te:TE):TE:=fun σ H Q=>wi σ H fun J H1=>∀D,H1 D=none→CompS kv J n js g tc te σ D (upd H1 D (setK kv D [])) fun H2=>Q (.ref D) H2
theorem new_set {prog:Program} {w:World} {A:Around} {s:Shared} {Q:Value→Shared→Prop} {E:Value→Shared→Prop} (h:∀led,Q (.ref s.heap.objs.size) { s with heap:=s.heap.push (setObj0 led) }):wpAny (model prog w) A (newSet (.type "set")) Q E s:=by
 unfold newSet setsByText
 refine wpAny_bind (wpAny_bind (wpAny_askSetting (wpAny_pure ?_)))
 show wpAny _ _ (newObj _ _) _ _ _
 simp only [newObj]
 exact wpAny_bind (wpAny_alloc (wpAny_pure (h _)))
theorem fresh_keys {prog:Program} {w:World} {K:Type} [DecidableEq K] {knd:PySem.KeyKind prog w K} {h:Heap} {a:Addr} {led:Bool} (e:h.get? a=some (setObj0 led)):HasKeys knd h a []:=by
 have z:=(setObjOf_fresh (knd:=knd) led).setOf e (by decide)
 have q:(fun k:K=>decide (k∈([]:List K)))=fun _=>false:=by funext k;simp
 show Heap.SetOf knd _ _ (fun k=>decide (k∈([]:List K))) 0
 rw [q]
 exact z
theorem scomp_core {X:Cx} {KT:Type} [DecidableEq KT] (kv:KeyV X.prog X.w KT) {ex tg iter:Expr} {ifs:List Expr} {scope:Scope} {pos:Pos} {Nc Fc:List Str} {js:List Nat} {wi:TI} {g:TG} {tc:TT} {te:TE} {use:Option (Value→Sem Unit)} {QV:Value→Shared→Prop}
  (hcalm:X.calm=true) (c:CompOk X scope Nc Fc js) (hi:PI X tg iter wi)
  (hg:∀cl C s H fp,PG (cxC X Nc Fc scope cl C s H fp) tg g) (htc:∀cl C s H fp,PTs (cxC X Nc Fc scope cl C s H fp) ifs tc) (hte:∀cl C s H fp,PE (cxC X Nc Fc scope cl C s H fp) ex te) (gk:Gk Nc.length g)
  {pins:List (Addr×Obj)} {s:Shared} {σ:St} {H:Hp} {fin:Addr→Hp→Prop} (I:Inv X pins σ H s)
  (h:wi σ H fun J H1=>∀D,H1 D=none→CompS kv J Nc.length js g tc te σ D (upd H1 D (setK kv D [])) (fin D))
  (behind:∀(C D:Addr) (m:Str→Option Value) (H2:Hp) (s2:Shared),Inv X pins σ H2 s2→s2.heap.Ns C m→FpOk X pins H2 C→fin D H2→compPost (model X.prog X.w) X.A X.xe use QV (.ref D) C (.ok .next) s2)
  (hs:∀x,foldedSetIterable iter X.env x=pure x) :
  wpAny (model X.prog X.w) X.A (comprehension (.SetComp ex [⟨tg,iter,ifs,0⟩] scope pos) scope X.env (firstIterPos [⟨tg,iter,ifs,0⟩] pos) (newSet (.type "set")) false (eval iter X.env) use) QV X.xe s:=by
 obtain ⟨cl,hclos,hsub,hhas⟩:=closure_of (scope:=scope) (env:=X.env) fun y hy hf=>I.ok.has y.1 (c.free y hy hf)
 refine wpAny_comprehension_free (use:=use) rfl hs hclos c.kind c.names ?_
 refine thn (hi s σ H _ I h) fun v s1 h1=>thn h1 fun itv s2 h2 => ?_
 obtain ⟨it,fp,tn,J,H2,e,I2,T,st2,f2,all⟩:=h2
 subst e
 refine new_set fun led => ?_
 refine (wpAny_newFunctionEnv c.nocell (by intro y hy;simp at hy) (fun h1 hns1 hsb1 => ?_) c.kind)
 dsimp only at hns1 hsb1 ⊢
 have hDn:H2 s2.heap.objs.size=none:=I2.hok.fresh (Nat.le_refl _)
 have I2':=I2.laid (a:=s2.heap.objs.size) (o:=setK kv s2.heap.objs.size []) (h':=s2.heap.push (setObj0 led)) (t':=s2.toks) (fun _ _ q=>Heap.get?_push_of_some _ q) (Nat.le_refl _) (setK_ok (fresh_keys (Heap.get?_push_size _ rfl)))
 obtain ⟨W,⟨m0,w0⟩,turn⟩:=all _ hDn
 have fo2:∀b∈fp,∃o,s2.heap.get? b=some o:=fun b hb=>let ⟨o,e,_⟩:=T.obj 0 _ st2 b hb; ⟨o,e⟩
 have hDfp:∀b∈fp,b<s2.heap.objs.size:=fun b hb=>let ⟨o,e⟩:=fo2 b hb;Heap.lt_size e
 generalize hG:s2.heap.push (setObj0 led)=G at hns1 hsb1 I2' ⊢
 have toG:∀b o,s2.heap.get? b=some o→G.get? b=some o:=fun b o e=>hG ▸ Heap.get?_push_of_some _ e
 have hC:G.objs.size=s2.heap.objs.size+1:=by rw [←hG,Heap.size_push]
 have old:∀b o,G.get? b=some o→h1.get? b=some o:=fun b o e=>
  hsb1.extBut b o (addr_ne (Heap.lt_size e) (Nat.le_refl _)) (Heap.get?_push_of_some _ e)
 let D:Addr:=s2.heap.objs.size
 let s2':Shared:={ s2 with heap:=G,toks:=s2.toks }
 let H2':Hp:=upd H2 D (setK kv D [])
 have f2':∀b∈fp,FpOk X pins H2' b:=fun b hb=>by
  obtain ⟨a1,a2⟩:=f2 b hb
  refine ⟨?_,a2⟩
  show upd H2 D (setK kv D []) b=none
  rw [upd_ne (Nat.ne_of_lt (hDfp b hb))];exact a1
 have fo:∀b∈fp,∃o,s2'.heap.get? b=some o:=fun b hb=>let ⟨o,e⟩:=fo2 b hb; ⟨o,toG b o e⟩
 have hfG:∀b∈fp,b<G.objs.size:=fun b hb=>by have:=hDfp b hb;rw [hC];exact Nat.lt_succ_of_lt this
 let Xc:Cx:=cxC X Nc Fc scope cl G.objs.size s2' H2' fp
 have stat:∀{H':Hp},(∀b∈fp,H' b=none)→∀b∈fp,FpOk Xc [] H' b:=fun {H'} hn b hb=>by
  refine ⟨hn b hb,?_,?_, .inl hb,fun x a e => ?_,fun p hq => ?_⟩
  ·exact addr_ne (hfG b hb) (Nat.le_refl _)
  ·exact (cxC_ok I2' c hsub hhas (Nat.le_refl _) f2' fo).exfs b hb
  ·exact (f2 b hb).2.2.2.2.1 x a (hsub _ _ e)
  ·have q:p∈([]:List (Addr×Obj))++[]:=hq
   simp at q
 have loop:∀t1,codeAny (model X.prog X.w) X.A (.compLoop (.SetComp ex [⟨tg,iter,ifs,0⟩] scope pos) 0 (.ref it) (.ref s2.heap.objs.size) (compEnvC scope cl G.objs.size X.env))
   (compPost (model X.prog X.w) X.A X.xe use QV (.ref s2.heap.objs.size) G.objs.size) { s2 with heap:=h1,toks:=t1 }:=by
  intro t1
  refine scomp_turns (fun n s'=>∃i H',Inv Xc [] (List.replicate Nc.length none++cvals σ js) H' s'∧tn i s'.heap∧(∀b∈fp,H' b=none)∧W i n H') ?_ m0
   ⟨0,H2',cxC_inv0 I2' c hsub hhas (Nat.le_refl _) f2' fo old hns1,T.keep _ _ _ st2 (fun b hb o e=>old b o (toG b o e)),fun b hb=>(f2' b hb).1,w0⟩
  intro n s3 hz_
  refine Elim.el hz_ _ ?_
  clear hz_
  rintro i H3 I3 st3 fr3 w3
  rcases turn i n H3 w3 with ⟨stop,qn⟩|⟨go,step⟩
  ·refine thn (T.done Xc rfl rfl rfl hcalm i _ s3 _ H3 noE I3 (stat fr3) st3 stop) fun r s4 ⟨hr,I4⟩ => ?_
   subst hr
   show compPost _ _ _ _ _ _ _ _ _
   refine Elim.el (I4.loc) _ ?_
   rintro mC hmC _
   have hCn:H3 G.objs.size=none:=I4.free
   have u:Un (frs X.stack) fp H2' H3 G s4.heap:=I4.base
   have hch:∀b∈fp,(b∈X.ex∨X.s₀.heap.objs.size≤b)∧b≠X.env.locals∧(∀x c,X.env.cells.lookup x=some c→c≠b)∧∀p∈X.pn++pins,p.1≠b:=fun b hb=>
    ⟨(f2 b hb).2.2.2.1,(f2 b hb).2.1,(f2 b hb).2.2.2.2.1,(f2 b hb).2.2.2.2.2⟩
   have os4:s4.os=s2'.os:=I4.os
   have J4:Inv X pins σ H3 s4:=I2'.call' (H':=H3) os4 u I4.hok I4.bare hch
   exact behind G.objs.size D mC H3 s4 J4 hmC (I2'.fpOk (Nat.le_refl _) hCn) qn
  ·refine thn (T.item Xc rfl rfl rfl hcalm i _ s3 _ H3 noE I3 (stat fr3) st3 go) fun r s4 ⟨u,hr,h4⟩ => ?_
   subst hr
   show wpAny _ _ (letOwnedTupleGo tg (.ref it) u) _ _ _
   refine thn h4 fun _ s5 ⟨x,H5,I5,r5,y5,st5,fr5⟩ => ?_
   have I5':=I5.pinned (stat fr5) (T.obj _ _ st5)
   refine thn (hg cl G.objs.size s2' H2' fp s5 _ H5 x u _ I5' r5 (gk _ _ _ _ (step x H5 y5))) fun _ s6 ⟨σ6,H6,I6,q6,kσ,kl⟩ => ?_
   refine thn (htc cl G.objs.size s2' H2' fp s6 σ6 H6 _ I6 q6) fun b s7 ⟨H7,I7,q7⟩ => ?_
   have later:∀{σ':St} {H':Hp} {s':Shared},Inv Xc ([]++pinsAt fp s5.heap) σ' H' s'→tn (i+1) s'.heap∧∀b∈fp,H' b=none:=fun {σ' H' s'} Iz=>by
    refine ⟨T.keep _ _ _ st5 fun b hb o e=>(Iz.pin (b,o) (List.mem_append_right _ (List.mem_append_right _ (mem_pinsAt hb e)))).1,fun b hb => ?_⟩
    refine Elim.el (T.obj _ _ st5 b hb) _ ?_
    rintro o e d
    exact (Iz.pin (b,o) (List.mem_append_right _ (List.mem_append_right _ (mem_pinsAt hb e)))).2.1
   have back:∀{pl:List (Addr×Obj)} {H':Hp} {s':Shared},Inv Xc pl σ6 H' s'→Inv Xc pl (List.replicate Nc.length none++cvals σ js) H' s':=fun {pl H' s'} Iz=>by
    refine Iz.weak (by rw [←kl]) fun j v hj => ?_
    by_cases hn:j<Nc.length
    ·rw [List.getElem?_append_left (by simpa using hn),List.getElem?_replicate] at hj
     split at hj <;> cases hj
    ·rw [kσ j (by first|lia|omega)];exact hj
   cases b with
   | false=>
    rw [if_neg Bool.false_ne_true] at q7 ⊢
    refine Elim.el (q7) _ ?_
    rintro m' hm' w7
    obtain ⟨l1,l2⟩:=later I7
    exact ⟨m',hm',i+1,H7,back I7.unpinned,l1,l2,w7⟩
   | true=>
    rw [if_pos rfl] at q7 ⊢
    refine thn (hte cl G.objs.size s2' H2' fp s7 σ6 H7 _ I7 q7) fun yv s8 ⟨y,H8,I8,r8,q8⟩ => ?_
    refine Elim.el (q8) _ ?_
    rintro ks k eD ey hl m' hm' w9
    subst ey
    refine s_add (X:=Xc) (kv:=kv) I8 eD hl r8 fun _ s10 I10 => ?_
    obtain ⟨l1,l2⟩:=later I10
    exact ⟨m',hm',i+1,_,back I10.unpinned,l1,l2,w9⟩
 exact scomp_start (loop _) (T.self _ 0 _ _ _ (T.keep _ _ _ st2 fun b hb o e=>old b o (toG b o e)) (loop _))
theorem pe_scomp {X:Cx} {KT:Type} [DecidableEq KT] (kv:KeyV X.prog X.w KT) {ex tg iter:Expr} {ifs:List Expr} {scope:Scope} {pos:Pos} {Nc Fc:List Str} {js:List Nat} {wi:TI} {g:TG} {tc:TT} {te:TE}
  (hcalm:X.calm=true) (c:CompOk X scope Nc Fc js) (hi:PI X tg iter wi) (gk:Gk Nc.length g)
  (hg:∀cl C s H fp,PG (cxC X Nc Fc scope cl C s H fp) tg g) (htc:∀cl C s H fp,PTs (cxC X Nc Fc scope cl C s H fp) ifs tc) (hte:∀cl C s H fp,PE (cxC X Nc Fc scope cl C s H fp) ex te)
  (hs:∀x,foldedSetIterable iter X.env x=pure x:=by intro _;rfl) :
  PE X (.SetComp ex [⟨tg,iter,ifs,0⟩] scope pos) (tSComp kv wi Nc.length js g tc te):=by
 intro pins s σ H Q I h
 rw [arm_eval_SetComp]
 refine scomp_core kv (use:=none) (fin:=fun D H2=>Q (.ref D) H2) hcalm c hi hg htc hte gk I h (fun C D m H2 s2 I2 hm hC q => ?_) hs
 refine ⟨m,hm,fun h' hs' => ?_⟩
 exact ⟨.ref D,_,I2.turned (it:=C) (t':=s2.toks) (fun b o hb e=>hs'.extBut b o hb e) hC.1 (hC.2.1) hC.2.2.2.1 hC.2.2.2.2.1 hC.2.2.2.2.2,rfl,q⟩
theorem call_lenK {X:Cx} {KT:Type} [DecidableEq KT] (kv:KeyV X.prog X.w KT):CallR X (.builtin "len") (fun xs H Q=>∃(a:Addr) (D:List KT),xs=[.ref a]∧H a=some (setK kv a D)∧Q (.int (D.length:Nat)) H):=by
 intro pins s σ H xs us Q I r h
 refine Elim.el (h) _ ?_
 rintro a D rfl ha q
 refine Elim.el (vals1 r) _ ?_
 rintro u rfl ru
 cases ru
 obtain ⟨o,es,ep,t,h1,h2,h3,h4,h5,h6,h7,h8⟩:=(show ObjOk X.prog X.w H s.heap a (setK kv a D) from I.hok a _ ha).1
 have hb:scanBound=4096:=rfl
 refine call_len_set h1 h2 h3 h7 (by first|lia|omega) ⟨.int (D.length:Nat),H,I.tok _,⟨_,by rw [h8]⟩,q⟩
theorem scomp_go {P:Program} {w:World} {KT:Type} [DecidableEq KT] {kv:KeyV P w KT} {J:It} {n:Nat} {js:List Nat} {g:TG} {tc:TT} {te:TE} {σ:St} {D:Addr} {H1:Hp} {fin:Hp→Prop} (N:Nat) (Pv:Nat→Hp→Prop) (h0:Pv 0 H1)
  (go:∀i H (Nx:Hp→Prop),i<N→Pv i H→(∀H',Pv (i+1) H'→Nx H')→J.go i H ∧
   ∀x H',J.yld i H x H'→g x (List.replicate n none++cvals σ js) H' fun σ2 H2=>tc σ2 H2 fun b H3=>if b=true then te σ2 H3 fun y H4=>∃ks k,H4 D=some (setK kv D ks)∧y=kv.v k∧ks.length≤4000∧Nx (upd H4 D (setK kv D (oneMore ks k))) else Nx H3)
  (stop:∀H,Pv N H→J.stop N H∧fin H):CompS kv J n js g tc te σ D H1 fin:=by
 refine ⟨fun i m H=>m=N-i∧i≤N∧Pv i H,⟨N,by simp,Nat.zero_le _,h0⟩,?_⟩
 intro i m H hz_
 refine Elim.el hz_ _ ?_
 clear hz_
 rintro rfl hi p
 by_cases hlt:i<N
 ·obtain ⟨g1,g2⟩:=go i H (fun H'=>∃m',m'<N-i∧(m'=N-(i+1)∧i+1≤N∧Pv (i+1) H')) hlt p fun H' q=>⟨_,by first|lia|omega,rfl,hlt,q⟩
  exact .inr ⟨g1,fun x H' y=>g2 x H' y⟩
 ·have e:i=N:=by (first|lia|omega)
  subst e
  exact .inl (stop H p)
end L2
namespace L2
open PySem PySem.Spec PyProof.Rows
section
variable {X:Cx}
theorem pe_gstr {x:Str} {z:Str} {t:Tok} {pos:Pos} (hg:Gl X x) (hm:X.mg x=some (.str z t)) (hd:(x == ("__debug__" : Str))=false:=by decide):PE X (.Name x pos) (tC (.str z)):=pe_glob (v := .str z) hg hm ⟨t,rfl⟩ hd
theorem pe_gint {x:Str} {z:Int} {t:Tok} {pos:Pos} (hg:Gl X x) (hm:X.mg x=some (.int z t)) (hd:(x == ("__debug__" : Str))=false:=by decide):PE X (.Name x pos) (tC (.int z)):=pe_glob (v := .int z) hg hm ⟨t,rfl⟩ hd
end
end L2
namespace L2
open PySem PySem.Spec PyProof.Rows
section
variable {X:Cx} (K:PySem.W.Frag)
end
section
variable {X:Cx}
end
end L2
namespace L2
open PySem PySem.Spec PyProof.Rows
def Itc (lo c:Int) (n:Nat):It:=⟨fun i _=>i<n,fun i H x H'=>H'=H∧x = .int (lo+i*c),fun i _=>n≤i⟩
theorem turn_step {P:Program} {w:World} {K:PySem.W.Frag} {tg:Expr} (it:Addr) (lo c:Int) (n:Nat):Turn P w K tg (Itc lo c n) [it] it (fun i h=>IsRangeIter h it (lo+(i:Nat)*c) ((n:Int)-(i:Nat)) c) where
 mem:=List.mem_singleton.mpr rfl
 obj:=fun i h st b hb=>by
  obtain rfl:b=it:=List.mem_singleton.mp hb
  refine ⟨_,st,fun v z => ?_⟩
  exact absurd (show Data.fields _=Data.cell v from z) (fun z=>nomatch z)
 keep:=fun i h h' st k=>k it (List.mem_singleton.mpr rfl) _ st
 item:=by
  intro X hP hw hK hc i pins s σ H E I hf st hg
  subst hP hw hK
  have hfi:=hf it (List.mem_singleton.mpr rfl)
  obtain ⟨f0,f1,f2,f3,f4,f5⟩:=hfi
  refine (Walks.range (prog:=X.prog) (w:=X.w) (I.ok.hd hc) it lo c n).item i s _ _ hg st ?_
  rintro v h' tk ⟨t,rfl⟩ st' kk
  have I1:Inv X pins σ H { s with heap:=h',toks:=tk }:=I.turned (fun b o hb e=>kk b o (by simpa using hb) e) f0 f1 f3 f4 f5
  exact ⟨_,rfl,go_of (s:={ s with heap:=h',toks:=tk }) (n := "range_iterator") st' rfl rfl (by decide) ⟨.int (lo+i*c),H,I1,⟨t,rfl⟩,⟨rfl,rfl⟩,st',fun b hb=>(hf b hb).1⟩⟩
 done:=by
  intro X hP hw hK hc i pins s σ H E I hf st hg
  subst hP hw hK
  have hfi:=hf it (List.mem_singleton.mpr rfl)
  obtain ⟨f0,f1,f2,f3,f4,f5⟩:=hfi
  have hn:n≤i:=hg
  exact wpAny_pyNext_range_end (I.ok.hd hc) st (by first|lia|omega) fun h' eb=>⟨rfl,I.turned (t':=s.toks) (fun b o hb e=>eb b o hb e) f0 f1 f3 f4 f5⟩
 self:=fun _ _ _ _ _ st h=>wpAny_pyIter_rangeiter st h
def stepN (i j c:Int):Nat:=(if i<j then (j-i-1) / c+1 else 0).toNat
def iRng3 (ta:TA):TI:=fun σ H R=>ta σ H fun vs H1=>∃i j c:Int,vs=[.int i, .int j, .int c]∧(-1000000≤i∧i<1000000 ∧ -1000000≤j∧j<1000000∧0<c∧c<1000000)∧R (Itc i c (stepN i j c)) H1
section
variable {X:Cx} {tg:Expr}
theorem step_it {pins:List (Addr×Obj)} {σ:St} {H:Hp} {s:Shared} {R:It→Hp→Prop} {E:Value→Shared→Prop} {i j c:Int} {t u v:Tok} (I:Inv X pins σ H s) (h : -1000000≤i∧i<1000000 ∧ -1000000≤j∧j<1000000∧0<c∧c<1000000)
  (q:R (Itc i c (stepN i j c)) H):wpAny (model X.prog X.w) X.A (pyIter (.ref s.heap.objs.size)) (PIE X pins σ tg R) E { s with heap:=s.heap.push { cls := .type "range",data := .fields #[.int i t, .int j u, .int c v] },toks:=s.toks }:=by
 refine Elim.el (h) _ ?_
 rintro h1 h2 h3 h4 h5 h6
 have esz:Builtin.Range.rangeSize i j c=(stepN i j c:Int):=by
  unfold Builtin.Range.rangeSize stepN
  rw [if_pos h5]
  split
  ·have:0≤(j-i-1) / c:=Int.ediv_nonneg (by first|lia|omega) (by first|lia|omega)
   omega
  ·rfl
 have hle:Builtin.Range.rangeSize i j c≤2000000∧0≤Builtin.Range.rangeSize i j c:=by
  refine ⟨?_,by rw [esz]; (first|lia|omega)⟩
  unfold Builtin.Range.rangeSize
  rw [if_pos h5]
  split
  ·have:(j-i-1) / c≤j-i-1:=Int.ediv_le_self _ (by first|lia|omega)
   (first|lia|omega)
  ·(first|lia|omega)
 have hsm:Builtin.Range.small i j c=true:=by
  unfold Builtin.Range.small
  simp only [Builtin.Range.rangeFitsLong,Bool.and_eq_true,Bool.or_eq_true,decide_eq_true_eq,beq_iff_eq]
  have hm:0≤(Builtin.Range.rangeSize i j c)*c∧(Builtin.Range.rangeSize i j c)*c≤2000000*1000000:=⟨Int.mul_nonneg hle.2 (by first|lia|omega),Int.mul_le_mul hle.1 (by first|lia|omega) (by first|lia|omega) (by first|lia|omega)⟩
  refine ⟨⟨⟨⟨⟨by first|lia|omega,by first|lia|omega⟩,by first|lia|omega,by first|lia|omega⟩,by first|lia|omega,by first|lia|omega⟩,by first|lia|omega,by first|lia|omega⟩, .inr ?_⟩
  rw [if_pos h5,decide_eq_true (show -2 ^ 63≤j+(c-1) by first|lia|omega),decide_eq_true (show j+(c-1)<2 ^ 63 by first|lia|omega)]
  rfl
 refine wpAny_pyIter_range (IsRange.new ..) hsm ?_
 have I1:Inv X pins σ H { s with heap:=s.heap.push { cls := .type "range",data := .fields #[.int i t, .int j u, .int c v] },toks:=s.toks }:=I.kept fun b o e=>Heap.get?_push_of_some _ e
 refine ⟨(s.heap.push { cls := .type "range",data := .fields #[.int i t, .int j u, .int c v] }).objs.size,[(s.heap.push { cls := .type "range",data := .fields #[.int i t, .int j u, .int c v] }).objs.size],_,_,H,rfl,I1.kept (t':=s.toks) fun b o e=>Heap.get?_push_of_some _ e,turn_step _ i c (stepN i j c),?_,fun b hb => ?_,q⟩
 ·show IsRangeIter _ _ (i+((0:Nat):Int)*c) (((stepN i j c:Nat):Int)-((0:Nat):Int)) c
  rw [show i+((0:Nat):Int)*c=i by simp,show ((stepN i j c:Nat):Int)-((0:Nat):Int)=Builtin.Range.rangeSize i j c by rw [esz]; (first|lia|omega)]
  exact Heap.get?_push_size _ rfl
 ·obtain rfl:b=(s.heap.push { cls := .type "range",data := .fields #[.int i t, .int j u, .int c v] }).objs.size:=List.mem_singleton.mp hb
  exact I1.fpOk (Nat.le_refl _) (I1.hok.fresh (Nat.le_refl _))
theorem pi_range3 {a b d:Expr} {ta:TA} {p pos:Pos} (hg:Gl X "range") (hm:X.mg "range" = none) (ha:PA X [a,b,d] ta) (hs:starEach [a,b,d] X.env=[(false,eval a X.env),(false,eval b X.env),(false,eval d X.env)]:=by rfl) (hs2:starEach [b,d] X.env=[(false,eval b X.env),(false,eval d X.env)]:=by rfl) :
  PI X tg (.Call (.Name "range" p) [a,b,d] [] pos) (iRng3 ta):=by
 intro pins s σ H R I h
 refine Call_ (ld_blt I hg hm boot_range (PyProof.Rows.callWith_type1 (thn (ha s σ H _ I h) fun us s1 ⟨vs,H1,I1,r1,q1⟩ => ?_) (by rw [hs,hs2]) (by rw [hs2];rfl)))
 refine Elim.el (q1) _ ?_
 rintro i j c rfl hb q
 cases r1 with
 | cons r rr=>
  cases rr with
  | cons r' rr=>
   cases rr with
   | cons r'' rr=>
    cases rr
    obtain ⟨t,rfl⟩:=r
    obtain ⟨t',rfl⟩:=r'
    obtain ⟨t'',rfl⟩:=r''
    exact call_range_3 (by first|lia|omega) (step_it I1 hb q) (Or.inl (PyProof.noPylong_small (by omega)))
end
theorem ps_dead {X:Cx} {st:Stmt} : PS X st (fun _ _ _=>False):=by
 intro pins s σ H D I h
 exact h.elim
end L2
namespace L2
open PySem PySem.Spec PyProof.Rows
section
variable {X:Cx}
end
end L2
namespace L2
open PySem PySem.Spec PyProof.Rows
def Itv (K:PySem.W.Frag) (a:Addr) (n:Nat):It:=
 ⟨fun i H=>∃xs,SqL K H a xs∧xs.length=n∧i<n,fun i H x H'=>H'=H∧∀xs,SqL K H a xs→xs[n-1-i]? = some x,fun i H=>i=n⟩
theorem turn_rev {P:Program} {w:World} {K:PySem.W.Frag} {tg:Expr} (a it:Addr) (n:Nat):Turn P w K tg (Itv K a n) [it] it (fun i h=>h.IsRevIter it a ((n:Int)-1-(i:Nat))) where
 mem:=List.mem_singleton.mpr rfl
 obj:=fun i h st b hb=>by
  obtain rfl:b=it:=List.mem_singleton.mp hb
  obtain ⟨o,e,c,d⟩:=st
  exact ⟨o,e,fun v z=>by rw [d] at z;cases z⟩
 keep:=fun i h h' st k=>st.at fun o e=>k it (List.mem_singleton.mpr rfl) o e
 item:=by
  intro X hP hw hK hc i pins s σ H E I hf st hg
  subst hP hw hK
  obtain ⟨xs,hq,hn,hi⟩:=hg
  obtain ⟨its,rv,p,hz⟩:=I.list hq
  have hx:xs[n-1-i]? = some (xs[n-1-i]'(by omega)):=List.getElem?_eq_getElem _
  obtain ⟨u,hu,ru⟩:=rv.get hx
  have hfi:=hf it (List.mem_singleton.mpr rfl)
  have st0:s.heap.IsRevIter it a ((n-1-i:Nat):Int):=by
   rw [show ((n-1-i:Nat):Int)=(n:Int)-1-(i:Nat) by first|lia|omega];exact st
  refine wpAny_pyNext_rev_item st0 p.isList (x:=u) (by simpa using hu) fun h' st' sb => ?_
  have I1:Inv X pins σ H { s with heap:=h' }:=I.turned (t':=s.toks) (fun b o hb e=>(sb.2 b hb).trans e) hfi.1 hfi.2.1 hfi.2.2.2.1 hfi.2.2.2.2.1 hfi.2.2.2.2.2
  have st'':h'.IsRevIter it a ((n:Int)-1-((i+1:Nat):Nat)):=by
   rw [show (n:Int)-1-((i+1:Nat):Nat)=((n-1-i:Nat):Int)-1 by omega];exact st'
  obtain ⟨o,e,c,d⟩:=id st'
  exact ⟨u,rfl,go_of (s:={ s with heap:=h' }) e c d (by decide) ⟨_,H,I1,ru,⟨rfl,fun ys hy=>by rw [I.list_inj hy hq];exact hx⟩,st'',fun b hb=>(hf b hb).1⟩⟩
 done:=by
  intro X hP hw hK hc i pins s σ H E I hf st hg
  subst hP hw hK
  have hg:i=n:=hg
  subst hg
  have hfi:=hf it (List.mem_singleton.mpr rfl)
  have st0:s.heap.IsRevIter it a (-1):=by
   rw [show (-1:Int)=(i:Int)-1-(i:Nat) by first|lia|omega];exact st
  exact wpAny_pyNext_rev_end (I.ok.hd hc) st0 fun h' eb=>⟨rfl,I.turned (t':=s.toks) (fun b o hb e=>eb b o hb e) hfi.1 hfi.2.1 hfi.2.2.2.1 hfi.2.2.2.2.1 hfi.2.2.2.2.2⟩
 self:=fun _ _ _ _ _ st h=>wpAny_pyIter_revIter st h
section
variable {X:Cx} {K:PySem.W.Frag}
def iRev (K:PySem.W.Frag) (ta:TA):TI:=fun σ H R=>ta σ H fun vs H1=>Ex2 fun a xs=>vs=[.ref a]∧SqL K H1 a xs∧R (Itv K a xs.length) H1
theorem pi_rev {tg a:Expr} {ta:TA} {p pos:Pos} (hg:Gl X "reversed") (hm:X.mg "reversed" = none) (ha:PA X [a] ta) (hb:bootBuiltins "reversed" = some (.type "reversed"):=by first|rfl|decide) (hs:starEach [a] X.env=[(false,eval a X.env)]:=by rfl) :
  PI X tg (.Call (.Name "reversed" p) [a] [] pos) (iRev X.K ta):=by
 intro pins s σ H R I h
 refine Call_ (ld_blt I hg hm hb (PyProof.Rows.callWith_type1 (thn (ha s σ H _ I h) fun us s1 ⟨vs,H1,I1,r1,q1⟩ => ?_) hs rfl))
 obtain ⟨l1,xs,e,q1,q⟩:=q1
 subst e
 obtain ⟨u,rfl,ru⟩:=vals1 r1
 cases ru
 obtain ⟨its1,rv1,p1,_⟩:=I1.list q1
 have hl:=rv1.length
 refine call_reversed_list p1.isList ?_
 have I2:Inv X pins σ H1 { s1 with heap:=s1.heap.push (revObj l1 ((its1.toArray.size:Int)-1)) }:=I1.kept (t':=s1.toks) fun b o e=>Heap.get?_push_of_some _ e
 have st:(s1.heap.push (revObj l1 ((its1.toArray.size:Int)-1))).IsRevIter s1.heap.objs.size l1 ((xs.length:Int)-1-((0:Nat):Nat)):=⟨_,Heap.get?_push_size _ rfl,rfl,by
  show Data.fields #[.ref l1,rawInt ((its1.toArray.size:Int)-1)]=_
  rw [List.size_toArray, ←hl,show ((xs.length:Int)-1-((0:Nat):Nat))=(xs.length:Int)-1 by first|lia|omega]⟩
 refine wpAny_pyIter_revIter st ?_
 refine ⟨_,_,_,_,H1,rfl,I2,turn_rev l1 _ xs.length,st,fun c hc => ?_,q⟩
 obtain rfl:c=s1.heap.objs.size:=List.mem_singleton.mp hc
 exact I1.fpOk (Nat.le_refl _) (I1.hok.fresh (Nat.le_refl _))
theorem revK (K:PySem.W.Frag) {tg a:Expr} {ta:TA} {p pos:Pos} (hg:Gl X "reversed") (hm:X.mg "reversed" = none) (ha:PA X [a] ta) (hK:X.K=K:=by rfl) (hb:bootBuiltins "reversed" = some (.type "reversed"):=by first|rfl|decide) (hs:starEach [a] X.env=[(false,eval a X.env)]:=by rfl) :
  PI X tg (.Call (.Name "reversed" p) [a] [] pos) (iRev K ta):=by subst hK;exact pi_rev hg hm ha hb hs
theorem indexN:MtM X "list.index" (fun x vs H Q=>∃(l:Addr) (xs:List Int) (y:Int) (j:Nat),x = .ref l∧vs=[.int y]∧H l=some (.lst (xs.map V.int))∧xs[j]? = some y∧(∀m,m<j→xs[m]? ≠ some y)∧Q (.int (j:Nat)) H):=by
 intro pins s σ H x vs v us Q I rx rv h
 refine Elim.el (h) _ ?_
 rintro l xs y j rfl rfl hH hj hno q
 cases rx
 refine Elim.el (vals1 rv) _ ?_
 rintro u rfl ru
 obtain ⟨t,rfl⟩:=ru
 refine Elim.el (I.lstM hH) _ ?_
 rintro z its n r hl e
 have hlen:=r.length
 rw [List.length_map] at hlen
 have jl:j<xs.length:=(List.getElem?_eq_some_iff.mp hj).1
 let ev:Value→Bool:=fun u=>match u with | .int a _=>decide (a=y)|_=>false
 have at':∀m (hm:m<its.length),∃t',its[m] = .int (xs[m]'(by first|lia|omega)) t':=fun m hm=>by
  obtain ⟨a,h1,h2⟩:=vals_at r (i:=m) (v:=its[m]) (by simp [hm])
  rw [List.getElem?_map,List.getElem?_eq_getElem (by first|lia|omega)] at h1
  cases h1
  exact h2
 have hn:=line63
 refine call_meets F.slot_list_index ⟨_,e,rfl⟩ F.entry_list_index (F.args_list_index_2 _ _) (SeqAt.list_indexAt l its.toArray n none #[] (.int y t) ev j (by rw [List.size_toArray]; (first|lia|omega)) (by
  have:xs.length≤sizeLine:=by rw [List.length_map] at z;exact z
  (first|lia|omega)) ?_ ?_) ⟨e,fun w hw => ?_,?_⟩
 ·obtain ⟨t',e'⟩:=at' j (by first|lia|omega)
  show ev its[j]=true
  rw [e']
  have:=(List.getElem?_eq_some_iff.mp hj).2
  show decide (xs[j]=y)=true
  exact decide_eq_true this
 ·intro m hm hmj
  have hm':m<its.length:=by rw [List.size_toArray] at hm;exact hm
  obtain ⟨t',e'⟩:=at' m hm'
  show ev its[m]=false
  rw [e']
  show decide (xs[m]=y)=false
  refine decide_eq_false fun z=>hno m hmj ?_
  rw [List.getElem?_eq_getElem (by first|lia|omega),z]
 ·have hw:w∈its:=by simpa using hw
  refine Elim.el (List.mem_iff_getElem.mp hw) _ ?_
  rintro i hi ew
  obtain ⟨t',e'⟩:=at' i hi
  rw [←ew,e']
  exact SeqAt.EqAt.int_int _ t' y t
 ·exact ⟨.int _,H,I.tok _,⟨_,rfl⟩,q⟩
theorem get_list:PGet X (fun o i H Q=>∃(p:Addr) (xs:List V) (k:Nat) (v:V),o = .ref p∧i = .int (k:Nat)∧H p=some (.lst xs)∧xs[k]? = some v∧Q v H):=by
 intro pins s σ H o i ov iv Q I ro ri h
 refine Elim.el (h) _ ?_
 rintro p xs k v rfl rfl hp hk q
 cases ro
 obtain ⟨t,rfl⟩:=ri
 refine Elim.el (I.lst hp) _ ?_
 rintro its n r ho hz
 refine Elim.el (r.get hk) _ ?_
 rintro w ew rw'
 have hl:=r.length
 have hn:=line63
 have kl:k<xs.length:=(List.getElem?_eq_some_iff.mp hk).1
 exact wpAny_getItem_list (items:=its.toArray) ⟨_,ho,rfl,_,rfl⟩ (by first|lia|omega) (by first|lia|omega) (by simpa using ew) ⟨v,H,I,rw',q⟩
end
end L2
namespace L2
open PySem PySem.Spec PyProof.Rows PySem.W
section
variable {X:Cx} {pins:List (Addr×Obj)} {σ:St} {H:Hp} {s:Shared}
end
section
variable {X:Cx}
end
end L2
namespace L2
open PySem PySem.Spec PyProof.Rows
section
variable {X:Cx}
end
end L2
namespace L2
open PySem PySem.Spec PyProof.Rows
section
variable {X:Cx} {e:Expr} {te:TE} {j p2 p3 p4 pos}
end
end L2
namespace Z
open PySem L2
def top (i:Nat):Stmt:=PySem.Challenge.pw_oddlong_k23_least_books.main.body.getD i (.Pass ⟨0,0,0,0⟩)
abbrev i_OddError:Nat:=1
abbrev i_TooFull:Nat:=2
abbrev i_made_of:Nat:=7
abbrev i_is_name:Nat:=8
abbrev i_is_code:Nat:=9
abbrev i_two_to:Nat:=10
abbrev i_figures_of:Nat:=11
abbrev i_rest_of:Nat:=12
abbrev i_next_layer:Nat:=13
abbrev i_sum_by:Nat:=14
abbrev i_is_book:Nat:=16
abbrev i_is_entry:Nat:=17
abbrev i_free:Nat:=18
abbrev i_clash:Nat:=19
abbrev i_halves:Nat:=20
abbrev i_halves_by:Nat:=21
abbrev i_codes_by:Nat:=22
abbrev i_least_codes:Nat:=23
abbrev i_least_book:Nat:=25
abbrev i_least_sum:Nat:=26
abbrev i_layers_of:Nat:=27
abbrev i_lengths_by:Nat:=28
abbrev i_uses_among:Nat:=29
abbrev i_law_begin:Nat:=31
abbrev i_law_take:Nat:=32
abbrev i_law_same:Nat:=33
abbrev i_law_names:Nat:=34
abbrev i_law_uses:Nat:=35
abbrev i_law_case:Nat:=36
abbrev i_law_layers:Nat:=37
abbrev i_law_least:Nat:=38
abbrev i_law_sum:Nat:=39
abbrev i_law:Nat:=40
end Z
namespace L2
inductive Ex12 {α0 α1 α2 α3 α4 α5 α6 α7 α8 α9 α10 α11:Type} (P : α0 → α1 → α2 → α3 → α4 → α5 → α6 → α7 → α8 → α9 → α10 → α11→Prop):Prop|mk (x0 : α0) (x1 : α1) (x2 : α2) (x3 : α3) (x4 : α4) (x5 : α5) (x6 : α6) (x7 : α7) (x8 : α8) (x9 : α9) (x10 : α10) (x11 : α11) (h:P x0 x1 x2 x3 x4 x5 x6 x7 x8 x9 x10 x11):Ex12 P
instance elimEx12 {α0 α1 α2 α3 α4 α5 α6 α7 α8 α9 α10 α11:Type} {P : α0 → α1 → α2 → α3 → α4 → α5 → α6 → α7 → α8 → α9 → α10 → α11→Prop} {F : α0 → α1 → α2 → α3 → α4 → α5 → α6 → α7 → α8 → α9 → α10 → α11→Prop→Prop} [i:∀x0 x1 x2 x3 x4 x5 x6 x7 x8 x9 x10 x11,Elim (P x0 x1 x2 x3 x4 x5 x6 x7 x8 x9 x10 x11) (F x0 x1 x2 x3 x4 x5 x6 x7 x8 x9 x10 x11)]:Elim (Ex12 P) (fun G=>∀x0 x1 x2 x3 x4 x5 x6 x7 x8 x9 x10 x11,F x0 x1 x2 x3 x4 x5 x6 x7 x8 x9 x10 x11 G):=⟨fun ⟨x0,x1,x2,x3,x4,x5,x6,x7,x8,x9,x10,x11,h⟩ G k=>(i x0 x1 x2 x3 x4 x5 x6 x7 x8 x9 x10 x11).el h G (k x0 x1 x2 x3 x4 x5 x6 x7 x8 x9 x10 x11)⟩
end L2
namespace Z
open PySem L2
theorem sizeOk {n:Nat} (h:n≤10000000):n≤sizeLine:=Nat.le_trans h (by decide)
theorem two_succ (i:Nat):(2:Int) ^ i+2 ^ i=2 ^ (i+1):=by rw [Int.pow_succ]; (first|lia|omega)
end Z
namespace Z
open PySem L2
def spTwo:Sp:=fun vs H Q _=>∃n:Nat,vs=[.int n]∧n≤1000∧Q (.int (2 ^ n)) H
section
variable {P:Program} {w:World} {K:PySem.W.Frag} {mg:Str→Option Value} {base:Heap} {f:Addr} {fd:FuncData}
theorem sc_two:FnScope ["power", "whole", "step"] ["power"] (defScope (top i_two_to)):=⟨rfl,rfl,rfl,by decide +kernel,rfl,by decide +kernel,by decide +kernel⟩
theorem ok_two (F:Fun K "two_to" "two_to" (top i_two_to) f fd) (T:Nm mg):FnOk P w K mg base CX0 1 f fd ["power"] spTwo:=by
 refine F.ok sc_two (fun vs H Q E h => ?_) (fun cdv A outer s H vs Q E hr h => ?_)
 ·obtain ⟨n,rfl,_⟩:=h
  rfl
 obtain ⟨n,rfl,hn,q⟩:=h
 refine ⟨_,(pss_cons (ps_set (i:=1) sc_two.nd rfl (Or.inl rfl) pe_int)
  (pss_cons (ps_for PassesOwn.never rfl (pi_range1 rfl T.n_range (pa_cons (pv 0) pa_nil)) (pg_name (i:=2) sc_two.nd rfl (Or.inl rfl)) (pss_one (ps_aug (i:=1) sc_two.nd rfl (Or.inl rfl) (pv 1) ip_add)))
  (pss_one (ps_ret (pv 1))))),?_⟩
 refine ⟨_,rfl,_,rfl,by first|lia|omega,by first|lia|omega,?_⟩
 refine for_range (lo:=0) (n:=n) (fun i σ H'=>H'=H∧∃st, σ=[some (.int n),some (.int (2 ^ i)),st]) ⟨rfl,_,rfl⟩ ?_ ?_
 ·rintro i σ H' hi ⟨rfl,st,rfl⟩
  refine ⟨_,rfl,_,rfl,_,_,rfl,rfl,rfl,some (.int (0+i)),?_⟩
  rw [←two_succ]
  rfl
 ·rintro σ H' ⟨rfl,st,rfl⟩
  exact ⟨_,rfl,q⟩
end
end Z
namespace Z
open PySem L2
structure Box (H:Hp) (b c:Addr) (t:Int) (ns:List Int):Prop where
 d:H b=some (.dK [(.inr "cells", .ref c),(.inr "turn", .int t)])
 l:H c=some (.lst (ns.map V.int))
 ne:0<ns.length
 le:ns.length≤64
def hid (H:Hp) (b c:Addr):Hp:=fun a=>if a=b∨a=c then none else H a
theorem hid_of {H:Hp} {b c a:Addr} (h1:a≠b) (h2:a≠c):hid H b c a=H a:=if_neg (fun z=>z.elim h1 h2)
theorem of_hid {H:Hp} {b c a:Addr} {o:HO} (h:hid H b c a=some o):H a=some o∧a≠b∧a≠c:=by
 unfold hid at h
 split at h
 ·cases h
 ·rename_i n
  exact ⟨h,fun z=>n (.inl z),fun z=>n (.inr z)⟩
theorem Box.bc {H:Hp} {b c:Addr} {t:Int} {ns:List Int} (x:Box H b c t ns):b≠c:=ne_of x.d x.l (by intro z;cases z)
theorem Box.get_turn {H:Hp} {b c:Addr} {t:Int} {ns:List Int} (x:Box H b c t ns):DGet H b (.str "turn") (some (.int t)):=DGet.k (k:=Sum.inr "turn") x.d
theorem Box.get_cells {H:Hp} {b c:Addr} {t:Int} {ns:List Int} (x:Box H b c t ns):DGet H b (.str "cells") (some (.ref c)):=DGet.k (k:=Sum.inr "cells") x.d
theorem Box.put_turn {H:Hp} {b c:Addr} {t:Int} {ns:List Int} (x:Box H b c t ns) (t':Int):DPut H b (.str "turn") (.int t') (upd H b (.dK [(.inr "cells", .ref c),(.inr "turn", .int t')])):=
 DPut.k (k:=Sum.inr "turn") x.d (by show 2<sizeLine;decide)
theorem Box.turned {H:Hp} {b c:Addr} {t:Int} {ns:List Int} (x:Box H b c t ns) (t':Int):Box (upd H b (.dK [(.inr "cells", .ref c),(.inr "turn", .int t')])) b c t' ns:=
 ⟨upd_same,by rw [upd_ne (Ne.symm x.bc)];exact x.l,x.ne,x.le⟩
theorem hid_upd_b {H:Hp} {b c:Addr} {o:HO} : hid (upd H b o) b c=hid H b c:=by
 funext a;unfold hid;split
 ·rfl
 ·rename_i n;exact upd_ne (fun z=>n (.inl z))
def spTake:Sp:=fun vs H Q _=>Ex5 fun (b c:Addr) (t:Int) (ns:List Int) (many:Int)=>vs=[.ref b, .int many]∧Box H b c t ns∧0≤t∧t<100000000∧0<many∧many<1073741824 ∧
 ∀(r:Int) (H':Hp) (ns':List Int),0≤r→r<many→Box H' b c (t+1) ns'→Same (hid H b c) (hid H' b c)→Q (.int r) H'
theorem at_of {ns:List Int} {p:Int} (h0:0≤p) (h1:p<ns.length):∃v,atI (ns.map V.int) p=some (.int v)∧ns[p.toNat]? = some v:=by
 have hk:p.toNat<ns.length:=by (first|lia|omega)
 have ek:p=((p.toNat:Nat):Int):=by (first|lia|omega)
 have q:atI (ns.map V.int) ((p.toNat:Nat):Int)=some (.int ns[p.toNat]):=atI_nat (by rw [List.getElem?_map,List.getElem?_eq_getElem hk] <;> rfl)
 rw [←ek] at q
 exact ⟨_,q,List.getElem?_eq_getElem hk⟩
theorem cm_mod {a j m:Int} (h0:0<m) (h:m<2 ^ 64):CMul (a % m) j:=by
 have h1:=Int.emod_nonneg a (b:=m) (by first|lia|omega)
 have h2:=Int.emod_lt_of_pos a h0
 exact .inl ⟨by first|lia|omega,by first|lia|omega⟩
theorem ixN_of {n:Nat} {p:Int} (h0:0≤p) (h1:p<n):ixN n p=some p.toNat:=by unfold ixN;rw [if_pos h0,if_pos h1]
theorem hid_more {H H':Hp} {b c:Addr} (h:∀a o,a≠b→a≠c→H a=some o→H' a=some o):Same (hid H b c) (hid H' b c):=fun a o e=>by
 refine Elim.el (of_hid e) _ ?_
 rintro e h1 h2
 rw [hid_of h1 h2]
 exact h a o h1 h2 e
end Z
namespace Z
open PySem L2
section
variable {P:Program} {w:World} {K:PySem.W.Frag} {mg:Str→Option Value} {base:Heap} {f:Addr} {fd:FuncData}
theorem sc_take:FnScope ["_law_box", "_law_many", "_law_turn", "_law_place", "_law_cell", "_law_digit", "_law_mixed"] ["_law_box", "_law_many"] (defScope (top i_law_take)):=⟨rfl,rfl,rfl,by decide +kernel,rfl,by decide +kernel,by decide +kernel⟩
theorem ok_take (F:Fun K "_law_take" "_law_take" (top i_law_take) f fd) (T:Nm mg):FnOk P w K mg base CX0 1 f fd ["_law_box", "_law_many"] spTake:=by
 refine F.ok sc_take (fun vs H Q E h => ?_) (fun cdv A outer s H vs Q E hr h => ?_)
 ·obtain ⟨b,c,t,ns,many,rfl,_⟩:=h
  rfl
 obtain ⟨b,c,t,ns,many,rfl,bx,t0,t1,m0,m1,q⟩:=h
 have hu:=hu_of hr
 refine ⟨_,(pss_cons (ps_set (i:=2) sc_take.nd rfl (Or.inl rfl) (pe_op g_add (pe_dget hu (pv 0) pe_str (fun _ _=>rfl)) pe_int))
  (pss_cons (ps_dput hu (pv 0) pe_str (pv 2) rfl)
  (pss_cons (ps_set (i:=3) sc_take.nd rfl (Or.inl rfl) (pe_op op_mod (pv 2) (pe_callB call_len rfl T.n_len PySem.boot_len (pa_cons (pe_dget hu (pv 0) pe_str (fun _ _=>rfl)) pa_nil))))
  (pss_cons (ps_set (i:=4) sc_take.nd rfl (Or.inl rfl) (pe_ix ix_seq (pe_dget hu (pv 0) pe_str (fun _ _=>rfl)) (pv 3) (fun _ _=>rfl)))
  (pss_cons (ps_if (pt_cmpR op_ge (pv 4) (pe_op op_pow pe_int pe_int) (nomark _)) (pss_cons (ps_asg (pe_callB call_divmod rfl T.n_divmod (by rfl) (pa_cons (pv 4) (pa_cons (pv 1) pa_nil))) (pg_tup rfl (pgs_cons (pg_sub (pe_dget hu (pv 0) pe_str (fun _ _=>rfl)) (pv 3) set_list) (pgs_cons (pg_name (i:=5) sc_take.nd rfl (Or.inl rfl)) pgs_nil))))
  (pss_one (ps_ret (pv 5)))) pss_nil)
  (pss_cons (ps_set (i:=6) sc_take.nd rfl (Or.inl rfl) (pe_op op_mod (pe_op g_mul (pe_op g_add (pe_op g_add (pe_op g_add (pe_op op_mod (pv 4) pe_int) (pe_op g_mul (pe_op g_mul pe_int (pv 2)) (pv 2))) (pe_op g_mul pe_int (pv 2))) pe_int) pe_int) pe_int))
  (pss_cons (ps_set (i:=6) sc_take.nd rfl (Or.inl rfl) (pe_op op_mod (pe_op g_mul (pv 6) (pe_op g_add (pe_op op_mod (pv 6) pe_int) (pe_op g_mul pe_int (pv 2)))) pe_int))
  (pss_one (ps_ret (pe_op op_mod (pe_op op_fdiv (pe_op op_mod (pe_op g_mul (pv 6) (pe_op g_add (pe_op op_mod (pv 6) pe_int) (pv 2))) pe_int) pe_int) (pv 1))))))))))),?_⟩
 refine ⟨_,rfl,b,_,rfl,bx.get_turn, .inl ⟨_,_,rfl,rfl,?_⟩⟩
 refine ⟨_,rfl,_,rfl,b,_,rfl,bx.put_turn (t+1),?_⟩
 have bx1:=bx.turned (t+1)
 refine ⟨_,rfl,_,rfl,b,_,rfl,bx1.get_cells,_,_,rfl, .inl ⟨_,SqL.of bx1.l,rfl⟩,_,_,rfl,rfl,?_,?_⟩
 ·rw [List.length_map];have:=bx1.ne; (first|lia|omega)
 have hlen:(ns.map V.int).length=ns.length:=List.length_map _
 have hp0:0≤(t+1) % ((ns.map V.int).length:Int):=Int.emod_nonneg _ (by have:=bx1.ne; (first|lia|omega))
 have hp1:(t+1) % ((ns.map V.int).length:Int)<ns.length:=by rw [hlen];exact Int.emod_lt_of_pos _ (by have:=bx1.ne; (first|lia|omega))
 refine Elim.el (at_of hp0 hp1) _ ?_
 rintro v hv hv'
 refine ⟨_,rfl,b,_,rfl,bx1.get_cells,_,rfl, .inl ⟨c,_,_,_,rfl,rfl,SqL.of bx1.l,hv,?_⟩⟩
 refine ⟨_,rfl,_,_,rfl,rfl,⟨by decide,by decide,by decide⟩,_,_,rfl,rfl,_,rfl,?_⟩
 refine ite2 (fun _ => ?_) (fun _ => ?_)
 ·refine ⟨_,rfl,_,rfl,v,many,rfl,⟨m0,by first|lia|omega⟩,fun pt hpt => ?_⟩
  have hpb:pt≠b:=fun z=>by rw [z,bx1.d] at hpt;cases hpt
  have hpc:pt≠c:=fun z=>by rw [z,bx1.l] at hpt;cases hpt
  have bx2:Box (upd (upd H b (.dK [(.inr "cells", .ref c),(.inr "turn", .int (t+1))])) pt (.tup [.int (v / many), .int (v % many)])) b c (t+1) ns:=
   ⟨by rw [upd_ne (Ne.symm hpb)];exact bx1.d,by rw [upd_ne (Ne.symm hpc)];exact bx1.l,bx1.ne,bx1.le⟩
  refine ⟨pt,_,rfl,SqT.of upd_same,rfl,_,_,rfl,?_⟩
  refine ⟨_,rfl,b,_,rfl,bx2.get_cells,_,rfl,c,_,_,_,rfl,rfl,bx2.l,ixN_of hp0 (by simpa only [hlen] using hp1),?_⟩
  refine ⟨_,_,rfl,rfl,_,rfl,?_⟩
  refine q (v % many) _ (ns.set ((t+1) % ((ns.map V.int).length:Int)).toNat (v / many)) (Int.emod_nonneg _ (by first|lia|omega)) (Int.emod_lt_of_pos _ m0) ⟨?_,?_,?_,?_⟩ ?_
  ·rw [upd_ne bx2.bc];exact bx2.d
  ·rw [upd_same,List.map_set]
  ·rw [List.length_set];exact bx1.ne
  ·rw [List.length_set];exact bx1.le
  ·refine hid_more fun a o h1 h2 e => ?_
   rw [upd_ne h2,upd_ne (fun z => ?_),upd_ne h1]
   ·exact e
   ·rw [z] at e
    rw [upd_ne hpb] at hpt
    rw [hpt] at e;cases e
 ·refine ⟨_,rfl,_,_,rfl,rfl,(by dsimp only;decide),_,rfl, .inl ⟨_,_,rfl,rfl, .inl ⟨by decide,by decide⟩,_,rfl, .inl ⟨_,_,rfl,rfl, .inr ⟨by first|lia|omega,by first|lia|omega⟩, .inl ⟨_,_,rfl,rfl,?_⟩⟩⟩⟩
  refine ⟨_,rfl, .inl ⟨_,_,rfl,rfl, .inl ⟨by decide,by decide⟩, .inl ⟨_,_,rfl,rfl, .inl ⟨_,_,rfl,rfl, .inl ⟨_,_,rfl,rfl, .inr ⟨by decide,by decide⟩,_,_,rfl,rfl,(by dsimp only;decide),?_⟩⟩⟩⟩⟩
  refine ⟨_,rfl,_,rfl,_,_,rfl,rfl,(by dsimp only;decide),_,rfl, .inl ⟨_,_,rfl,rfl, .inl ⟨by decide,by decide⟩, .inl ⟨_,_,rfl,rfl, .inl ⟨_,_,rfl,rfl,cm_mod (by decide) (by decide),_,_,rfl,rfl,(by dsimp only;decide),?_⟩⟩⟩⟩
  refine ⟨_,rfl,_,rfl,_,_,rfl,rfl,(by dsimp only;decide),_,rfl, .inl ⟨_,_,rfl,rfl, .inl ⟨_,_,rfl,rfl,cm_mod (by decide) (by decide),_,_,rfl,rfl,(by dsimp only;decide),_,_,rfl,rfl,⟨by decide,by decide⟩,_,rfl,_,_,rfl,rfl,m0,?_⟩⟩⟩
  exact q _ _ ns (Int.emod_nonneg _ (by first|lia|omega)) (Int.emod_lt_of_pos _ m0) bx1 (by rw [hid_upd_b];exact Same.refl _)
end
end Z
namespace L2
open PySem
def Gm (t:TG):Prop:=∀x σ H (Q Q':St→Hp→Prop),(∀a b,Q a b→Q' a b)→t x σ H Q→t x σ H Q'
def Gms (t:TGs):Prop:=∀x σ H (Q Q':St→Hp→Prop),(∀a b,Q a b→Q' a b)→t x σ H Q→t x σ H Q'
theorem gm_name {i:Nat} : Gm (gName i):=fun _ _ _ _ _ h q=>h _ _ q
theorem gms_nil:Gms gNil:=fun _ _ _ _ _ h q=>⟨q.1,h _ _ q.2⟩
theorem gms_cons {t:TG} {u:TGs} (a:Gm t) (b:Gms u):Gms (gCons t u):=fun _ _ _ _ _ h ⟨v,r,e,q⟩=>⟨v,r,e,a _ _ _ _ _ (fun _ _ z=>b _ _ _ _ _ h z) q⟩
theorem gm_tup {K:PySem.W.Frag} {n:Nat} {t:TGs} (a:Gms t):Gm (gTup K n t):=fun _ _ _ _ _ h ⟨v,r,e,h1,h2,q⟩=>⟨v,r,e,h1,h2,a _ _ _ _ _ h q⟩
theorem Dens.get {K:PySem.W.Frag} {H:Hp} : ∀{ds:List PyData} {vs:List V} {i:Nat} {d:PyData},Dens K H ds vs→ds[i]? = some d→∃v,vs[i]? = some v∧Den K H d v
 | [],_,_,_,_,e=>by simp at e
 | d :: ds,vs,i,d',h,e=>by
  unfold Dens at h
  obtain ⟨v,r,rfl,h1,h2⟩:=h
  cases i with
  | zero=>cases e;exact ⟨v,rfl,h1⟩
  | succ i=>exact Dens.get (i:=i) h2 e
theorem Dens.len {K:PySem.W.Frag} {H:Hp} : ∀{ds:List PyData} {vs:List V},Dens K H ds vs→vs.length=ds.length
 | [],_,h=>by unfold Dens at h;subst h;rfl
 | d :: ds,vs,h=>by
  unfold Dens at h
  obtain ⟨v,r,rfl,h1,h2⟩:=h
  rw [List.length_cons,List.length_cons,Dens.len h2]
theorem Den.pair {K:PySem.W.Frag} {H:Hp} {a b:Str} {v:V} (h:Den K H (.tuple [.str a, .str b]) v):∃p,v = .ref p∧SqT K H p [.str a, .str b]:=by
 unfold Den at h
 obtain ⟨p,vs,e,h1,h2⟩:=h
 unfold Dens at h2
 obtain ⟨v1,r1,rfl,d1,h2⟩:=h2
 unfold Dens at h2
 obtain ⟨v2,r2,rfl,d2,h2⟩:=h2
 unfold Dens at h2
 subst h2
 unfold Den at d1 d2
 subst d1 d2
 exact ⟨p,e,h1⟩
end L2
namespace Z
open PySem L2
def bookD (bk:List (Str×Str)):PyData := .list (bk.map fun q => .tuple [.str q.1, .str q.2])
theorem same_new {H:Hp} {p:Addr} (h:H p=none) (o:HO):Same H (upd H p o):=fun b u q=>by rw [upd_ne (ne_of_none q h)];exact q
end Z
namespace L2
open PySem
theorem for_go {J:It} {g:TG} {tb:TS} {D:Ends} {σ:St} {H:Hp} (N:Nat) (Pv:Nat→St→Hp→Prop) (h0:Pv 0 σ H)
  (go:∀i σ H,i<N→Pv i σ H→J.go i H∧∀x H',J.yld i H x H'→g x σ H' fun σ2 H2=>tb { D with nx:=Pv (i+1),ct:=Pv (i+1),bk:=D.nx } σ2 H2)
  (stop:∀ σ H,Pv N σ H→J.stop N H∧D.nx σ H) :
  ∃W:Nat→Nat→St→Hp→Prop,(∃m,W 0 m σ H)∧∀i m σ H,W i m σ H →
   (J.stop i H∧D.nx σ H)∨(J.go i H∧∃N:St→Hp→Prop,(∀ σ' H',N σ' H'→∃m',m'<m∧W (i+1) m' σ' H')∧∀x H',J.yld i H x H'→g x σ H' fun σ2 H2=>tb { D with nx:=N,ct:=N,bk:=D.nx } σ2 H2):=by
 refine ⟨fun i m σ H=>m=N-i∧i≤N∧Pv i σ H,⟨N,by simp,Nat.zero_le _,h0⟩,?_⟩
 intro i m σ H hz_
 refine Elim.el hz_ _ ?_
 clear hz_
 rintro rfl hi p
 by_cases hlt:i<N
 ·obtain ⟨g1,g2⟩:=go i σ H hlt p
  exact .inr ⟨g1,Pv (i+1),fun σ' H' p'=>⟨N-(i+1),by first|lia|omega,rfl,hlt,p'⟩,g2⟩
 ·have e:i=N:=by (first|lia|omega)
  subst e
  exact .inl (stop σ H p)
end L2
namespace L2
open PySem
theorem seqCut {t u:TS} {D:Ends} {σ:St} {H:Hp} (Ex:St→Hp→Prop) (h:∀Nx:St→Hp→Prop,(∀ σ H,Ex σ H→Nx σ H)→t { D with nx:=Nx } σ H) (fin:∀ σ H,Ex σ H→u D σ H):tSeq t u D σ H:=h (u D) fin
theorem cutE {t:TE} {σ:St} {H:Hp} {Q:VK} (Ex:V→Hp→Prop) (h:∀Qn:VK,(∀v H,Ex v H→Qn v H)→t σ H Qn) (fin:∀v H,Ex v H→Q v H):t σ H Q:=h Q fin
theorem whileGo {c:TT} {tb:TS} {D:Ends} {σ:St} {H:Hp} (Pv:Nat→St→Hp→Prop) (h0:∃m,Pv m σ H)
  (hs:∀m σ H,Pv m σ H→c σ H fun b H1=>if b=true then ∃N:St→Hp→Prop,(∀ σ' H',N σ' H'→∃m',m'<m∧Pv m' σ' H')∧tb { D with nx:=N,ct:=N,bk:=D.nx } σ H1 else D.nx σ H1):tWhile c tb D σ H:=⟨Pv,h0,hs⟩
end L2
namespace L2
open PySem
theorem asgCut {te:TE} {g:TG} {u:TS} {D:Ends} {σ:St} {H:Hp} (Ex:V→Hp→Prop) (h:∀Qn:VK,(∀v H,Ex v H→Qn v H)→te σ H Qn) (fin:∀v H,Ex v H→g v σ H (u D)):tSeq (tAsg te g) u D σ H:=h _ fin
end L2
namespace L2
open PySem
theorem gn {i:Nat} {v:V} {σ:St} {H:Hp} {Q:St→Hp→Prop} (h:Q (σ.set i (some v)) H):gName i v σ H Q:=h
end L2
namespace L2
open PySem
end L2
namespace Z
open PySem L2
def Bx (H:Hp) (b c:Addr) (t:Int):Prop:=∃ns,Box H b c t ns
structure Step (b c:Addr) (H H':Hp) (t t' N:Int):Prop where
 le:t≤t'
 ub:t'≤t+N
 bx:Bx H' b c t'
 sm:Same (hid H b c) (hid H' b c)
theorem Step.refl {b c:Addr} {H:Hp} {t:Int} (h:Bx H b c t):Step b c H H t t 0:=⟨Int.le_refl _,by first|lia|omega,h,Same.refl _⟩
theorem Step.trans {b c:Addr} {H H' H2:Hp} {t t' t2 N M:Int} (x:Step b c H H' t t' N) (y:Step b c H' H2 t' t2 M):Step b c H H2 t t2 (N+M):=
 ⟨by have:=x.le;have:=y.le; (first|lia|omega),by have:=x.ub;have:=y.ub; (first|lia|omega),y.bx,x.sm.trans y.sm⟩
theorem Step.more {b c:Addr} {H H':Hp} {t t' N M:Int} (x:Step b c H H' t t' N) (h:N≤M):Step b c H H' t t' M:=⟨x.le,by have:=x.ub; (first|lia|omega),x.bx,x.sm⟩
theorem Bx.ne_new {H:Hp} {b c p:Addr} {t:Int} (x:Bx H b c t) (h:H p=none):p≠b∧p≠c:=by
 obtain ⟨ns,x⟩:=x
 exact ⟨fun z=>(by rw [z,x.d] at h;cases h),fun z=>(by rw [z,x.l] at h;cases h)⟩
theorem Bx.upd {H:Hp} {b c p:Addr} {t:Int} {o:HO} (x:Bx H b c t) (h1:p≠b) (h2:p≠c):Bx (upd H p o) b c t:=by
 obtain ⟨ns,x⟩:=x
 exact ⟨ns,by rw [upd_ne (Ne.symm h1)];exact x.d,by rw [upd_ne (Ne.symm h2)];exact x.l,x.ne,x.le⟩
theorem Step.new {b c p:Addr} {H H':Hp} {t t' N:Int} (x:Step b c H H' t t' N) (h:H' p=none) (o:HO):Step b c H (upd H' p o) t t' N:=
 ⟨x.le,x.ub,x.bx.upd (x.bx.ne_new h).1 (x.bx.ne_new h).2,x.sm.trans (hid_more fun a u _ _ e=>by rw [upd_ne (ne_of_none e h)];exact e)⟩
theorem Step.chg {b c p:Addr} {H H':Hp} {t t' N:Int} (x:Step b c H H' t t' N) (h:H p=none) (h1:p≠b) (h2:p≠c) (o:HO):Step b c H (upd H' p o) t t' N:=
 ⟨x.le,x.ub,x.bx.upd h1 h2,fun a u e=>by
  have q:=x.sm a u e
  refine Elim.el (of_hid q) _ ?_
  rintro q n1 n2
  rw [hid_of n1 n2,upd_ne (fun z => ?_)]
  ·exact q
  ·rw [z] at e
   rw [(of_hid e).1] at h;cases h⟩
theorem Step.old {b c a:Addr} {H H':Hp} {t t' N:Int} {o:HO} (x:Step b c H H' t t' N) (h:H a=some o) (h1:a≠b) (h2:a≠c):H' a=some o:=
 (of_hid (x.sm a o (by rw [hid_of h1 h2];exact h))).1
theorem Step.fresh {b c a:Addr} {H H':Hp} {t t' N:Int} (x:Step b c H H' t t' N) (hb:Bx H b c t) (h:H' a=none):H a=none:=by
 obtain ⟨h1,h2⟩:=x.bx.ne_new h
 cases e:H a with
 | none=>rfl
 | some o=>rw [x.old e h1 h2] at h;cases h
theorem Same.hid {H H':Hp} {b c:Addr} (s:Same H H'):Same (hid H b c) (hid H' b c):=hid_more fun a o _ _ e=>s a o e
theorem Bx.same {H H':Hp} {b c:Addr} {t:Int} (x:Bx H b c t) (s:Same H H'):Bx H' b c t:=by
 obtain ⟨ns,x⟩:=x
 exact ⟨ns,s _ _ x.d,s _ _ x.l,x.ne,x.le⟩
theorem Step.same {b c:Addr} {H H':Hp} {t:Int} (x:Bx H b c t) (s:Same H H'):Step b c H H' t t 0:=⟨Int.le_refl _,by first|lia|omega,x.same s,Same.hid s⟩
def spTk:Sp:=fun vs H Q _=>Ex4 fun (b c:Addr) (t many:Int)=>vs=[.ref b, .int many]∧Bx H b c t∧0≤t∧t<100000000∧0<many∧many<1073741824 ∧
 ∀(r:Int) (H':Hp),0≤r→r<many→Step b c H H' t (t+1) 1→Q (.int r) H'
theorem spTk_of {vs:List V} {H:Hp} {Q:VK} {E:XK} (h:spTk vs H Q E):spTake vs H Q E:=by
 obtain ⟨b,c,t,many,e,⟨ns,bx⟩,h1,h2,h3,h4,q⟩:=h
 exact ⟨b,c,t,ns,many,e,bx,h1,h2,h3,h4,fun r H' ns' r0 r1 bx' sm=>q r H' r0 r1 ⟨by first|lia|omega,by first|lia|omega,⟨ns',bx'⟩,sm⟩⟩
theorem cut_to (vs:List V) (j:Nat):cutV vs none (some (j:Int))=vs.take j:=by
 unfold cutV
 rw [HT.sIx_none,HT.sIx_nat,List.drop_zero,Nat.sub_zero]
 rcases Nat.le_total j vs.length with h|h
 ·rw [Nat.min_eq_left h]
 ·rw [Nat.min_eq_right h,List.take_of_length_le (Nat.le_refl _),List.take_of_length_le h]
theorem Fn.imp {P:Program} {w:World} {K:PySem.W.Frag} {mg:Str→Option Value} {base:Heap} {k:Nat} {x:Str} {ps:List Str} {sp sp':Sp} (F:Fn P w K mg base k x ps sp) (h:∀vs H Q E,sp' vs H Q E→sp vs H Q E):Fn P w K mg base k x ps sp':=by
 refine Elim.el (F.ex) _ ?_
 rintro f fd a b c d
 exact ⟨f,fd,a.imp h,b,c,d⟩
end Z
namespace Z
open PySem L2
theorem Step.newN {b c p:Addr} {H H' H2:Hp} {t t' N:Int} {o:HO} (x:Step b c H H' t t' N) (n:New H' p o H2):Step b c H H2 t t' N:=by rw [n.eq];exact x.new n.nn _
theorem Step.chgN {b c p:Addr} {H H' H2:Hp} {t t' N:Int} {o:HO} (x:Step b c H H' t t' N) (n:Chg H' p o H2) (h:H p=none) (h1:p≠b) (h2:p≠c):Step b c H H2 t t' N:=by rw [n.eq];exact x.chg h h1 h2 _
end Z
namespace Z
open PySem L2
def Bin (x:Str):Prop:=∀c∈x.cps.toList,c=48∨c=49
theorem glued_list (g:Str):∀(parts:List Str) (acc:Array Nat),(parts.foldl (fun acc p=>acc++g.cps++p.cps) acc).toList=acc.toList++parts.flatMap (fun p=>g.cps.toList++p.cps.toList)
 | [],acc=>by simp
 | p :: r,acc=>by rw [List.foldl_cons,glued_list g r];simp
theorem join_list0 (xs:List Str):(Txt.join "" xs).cps.toList=xs.flatMap (fun p=>p.cps.toList):=by
 cases xs with
 | nil=>rfl
 | cons x r=>
  show ((r.foldl (fun acc p=>acc++(Str.ofString "").cps++p.cps) x.cps)).toList=_
  rw [glued_list]
  have e:(Str.ofString "").cps.toList=[]:=rfl
  simp [e]
end Z
namespace Z
open PySem L2
abbrev abc:Str := "abcdefghijklmnopqrstuvwxyz"
theorem abc_list:abc.cps.toList=(List.range 26).map (97 + ·):=by decide +kernel
theorem abc_at {r:Int} (h0:0≤r) (h1:r<26):atI abc.cps.toList r=some (97+r.toNat):=by
 refine at_nat h0 ?_
 rw [abc_list,List.getElem?_map,List.getElem?_range (by first|lia|omega)]
 rfl
def Low (x:Str):Prop:=∀ch∈x.cps.toList,97≤ch∧ch≤122
theorem str_append_list (x y:Str):(x++y).cps.toList=x.cps.toList++y.cps.toList:=by
 show (x.cps++y.cps).toList=_
 simp
theorem str_len (x:Str):x.length=x.cps.toList.length:=by simp [Str.length]
theorem len_append (x y:Str):(x++y).length=x.length+y.length:=by rw [str_len,str_append_list,List.length_append, ←str_len, ←str_len]
theorem len_one (ch:Nat):(⟨#[ch]⟩:Str).length=1:=rfl
theorem Low.app {x:Str} {ch:Nat} (h:Low x) (h1:97≤ch) (h2:ch≤122):Low (x++⟨#[ch]⟩):=fun d hd=>by
 rw [str_append_list] at hd
 rcases List.mem_append.mp hd with q|q
 ·exact h d q
 ·have e:d=ch:=by simpa using q
  rw [e];exact ⟨h1,h2⟩
end Z
namespace Z
open PySem L2
mutual
theorem eqv_refl:∀(d:PyData),d.canLay0=true→PyData.eqv d d=true
 | .none,_=>by simp [PyData.eqv]
 | .bool _,_=>by simp [PyData.eqv]
 | .int _,_=>by simp [PyData.eqv]
 | .str _,_=>by simp [PyData.eqv]
 | .list ds,h=>by
  simp only [PyData.eqv]
  exact eqvAll_refl ds (by simpa [PyData.canLay0] using h)
 | .tuple ds,h=>by
  simp only [PyData.eqv]
  exact eqvAll_refl ds (by simpa [PyData.canLay0] using h)
 | .dict _,h=>by simp [PyData.canLay0] at h
theorem eqvAll_refl:∀(ds:List PyData),PyData.canLayAll0 ds=true→PyData.eqvAll ds ds=true
 | [],_=>by simp [PyData.eqvAll]
 | d :: ds,h=>by
  simp only [PyData.canLayAll0,Bool.and_eq_true] at h
  simp only [PyData.eqvAll,Bool.and_eq_true]
  exact ⟨eqv_refl d h.1,eqvAll_refl ds h.2⟩
end
def Sh (n:Nat) (d:PyData):Prop:=d.canLay0=true∧d.depth≤n
theorem Sh.all {n:Nat} : ∀{ds:List PyData},(∀d∈ds,Sh n d)→PyData.canLayAll0 ds=true∧PyData.depthAll ds≤n
 | [],_=>⟨by simp [PyData.canLayAll0],by simp [PyData.depthAll]⟩
 | d :: ds,h=>by
  obtain ⟨h1,h2⟩:=h d List.mem_cons_self
  obtain ⟨h3,h4⟩:=Sh.all fun e he=>h e (List.mem_cons_of_mem _ he)
  exact ⟨by simp [PyData.canLayAll0,h1,h3],by simp only [PyData.depthAll]; (first|lia|omega)⟩
theorem Sh.list {n:Nat} {ds:List PyData} (h:∀d∈ds,Sh n d):Sh (n+1) (.list ds):=by
 obtain ⟨h1,h2⟩:=Sh.all h
 exact ⟨by simpa [PyData.canLay0] using h1,by simp only [PyData.depth]; (first|lia|omega)⟩
theorem Sh.tuple {n:Nat} {ds:List PyData} (h:∀d∈ds,Sh n d):Sh (n+1) (.tuple ds):=by
 obtain ⟨h1,h2⟩:=Sh.all h
 exact ⟨by simpa [PyData.canLay0] using h1,by simp only [PyData.depth]; (first|lia|omega)⟩
theorem Sh.shaped {n:Nat} {d:PyData} (h:Sh n d) (hn:n≤64):SeqAt.shaped d=true:=by
 unfold SeqAt.shaped
 rw [h.1,decide_eq_true (Nat.le_trans h.2 hn)]
 rfl
theorem Sh.str {n:Nat} {x:Str} (h:PyData.canLay0 (.str x)=true):Sh n (.str x):=⟨h,by simp [PyData.depth]⟩
theorem Sh.int {n:Nat} {i:Int} : Sh n (.int i):=⟨by simp [PyData.canLay0],by simp [PyData.depth]⟩
theorem canLay_small {x:Str} (h:∀ch∈x.cps.toList,ch<128):PyData.canLay0 (.str x)=true:=by
 simp only [PyData.canLay0,PyData.strOk]
 rw [←Array.all_toList,List.all_eq_true]
 intro ch hc
 have:=h ch hc
 exact decide_eq_true (by first|lia|omega)
theorem Den.strs {K:PySem.W.Frag} {H:Hp} : ∀(xs:List Str),Dens K H (xs.map PyData.str) (xs.map V.str)
 | []=>by unfold Dens;rfl
 | x :: xs=>by
  rw [List.map_cons]
  unfold Dens
  exact ⟨_,_,rfl,by unfold Den;rfl,Den.strs xs⟩
theorem Den.list {K:PySem.W.Frag} {H:Hp} {l:Addr} {ds:List PyData} {vs:List V} (h:SqL K H l vs) (hd:Dens K H ds vs):Den K H (.list ds) (.ref l):=by
 unfold Den
 exact ⟨l,vs,rfl,h,hd⟩
theorem depth_at {n:Nat} : ∀{ds:List PyData} {d:PyData},PyData.depthAll ds≤n→d∈ds→d.depth≤n
 | [],_,_,h=>nomatch h
 | e :: ds,d,hn,h=>by
  simp only [PyData.depthAll] at hn
  rcases List.mem_cons.mp h with rfl|h
  ·(first|lia|omega)
  ·exact depth_at (by first|lia|omega) h
theorem weight_at {n:Nat} : ∀{ds:List PyData} {d:PyData},PyData.weightAll ds≤n→d∈ds→d.weight≤n
 | [],_,_,h=>nomatch h
 | e :: ds,d,hn,h=>by
  simp only [PyData.weightAll] at hn
  rcases List.mem_cons.mp h with rfl|h
  ·(first|lia|omega)
  ·exact weight_at (by first|lia|omega) h
theorem len_weight:∀(ds:List PyData),ds.length≤PyData.weightAll ds
 | []=>by simp
 | e :: ds=>by
  simp only [PyData.weightAll,List.length_cons]
  have:=len_weight ds
  (first|lia|omega)
theorem all_true (n:Nat):(List.replicate n true).all id=true:=by
 induction n with
 | zero=>rfl
 | succ n ih=>rw [List.replicate_succ,List.all_cons,ih];rfl
end Z
namespace Z
open PySem L2
theorem Dens.of_get {K:PySem.W.Frag} {H:Hp} : ∀{ds:List PyData} {vs:List V},ds.length=vs.length→(∀(j:Nat) d v,ds[j]? = some d→vs[j]? = some v→Den K H d v)→Dens K H ds vs
 | [],[],_,_=>by unfold Dens;rfl
 | [],_ :: _,h,_=>by simp at h
 | _ :: _,[],h,_=>by simp at h
 | d :: ds,v :: vs,h,g=>by
  unfold Dens
  exact ⟨v,vs,rfl,g 0 d v rfl rfl,Dens.of_get (by simpa using h) fun j d' v' h1 h2=>g (j+1) d' v' h1 h2⟩
theorem Den.pairOf {K:PySem.W.Frag} {H:Hp} {a:Addr} {x y:Str} (h:H a=some (.tup [.str x, .str y])):Den K H (.tuple [.str x, .str y]) (.ref a):=by
 unfold Den
 refine ⟨a,_,rfl,SqT.of h,?_⟩
 unfold Dens
 refine ⟨_,_,rfl,by unfold Den;rfl,?_⟩
 unfold Dens
 refine ⟨_,_,rfl,by unfold Den;rfl,?_⟩
 unfold Dens
 rfl
structure CodeOk (n:Nat) (x:Str):Prop where
 bin:Bin x
 pos:1≤x.length
 le:x.length≤n
structure BookOk (n:Nat) (bk:List (Str×Str)):Prop where
 ne:bk≠[]
 le:bk.length≤60
 nm:∀q∈bk,Low q.1
 cd:∀q∈bk,CodeOk n q.2
end Z
namespace Z
open PySem L2
def spBegin (K:PySem.W.Frag):Sp:=fun vs H Q _=>Ex2 fun (a:Addr) (ns:List Int)=>vs=[.ref a]∧SqL K H a (ns.map V.int)∧ns.length≤63 ∧
 ∀(b c:Addr) (H':Hp),Bx H' b c 0→H b=none→H c=none→Same H (hid H' b c)→Q (.ref b) H'
section
variable {P:Program} {w:World} {K:PySem.W.Frag} {mg:Str→Option Value} {base:Heap} {f:Addr} {fd:FuncData}
theorem sc_law_begin:FnScope ["_law_script"] ["_law_script"] (defScope (top i_law_begin)):=⟨rfl,rfl,rfl,by decide +kernel,rfl,by decide +kernel,by decide +kernel⟩
theorem ok_begin (F:Fun K "_law_begin" "_law_begin" (top i_law_begin) f fd) (T:Nm mg):FnOk P w K mg base CX0 1 f fd ["_law_script"] (spBegin K):=by
 refine F.ok sc_law_begin (fun vs H Q E h => ?_) (fun cdv A outer s H vs Q E hr h => ?_)
 ·obtain ⟨a,ns,rfl,_⟩:=h
  rfl
 obtain ⟨a,ns,rfl,hS,hlen,q⟩:=h
 have hu6:=hr.units
 refine ⟨_,(pss_one (ps_ret (dispN (pps_cons pe_str (pe_op addN (pe_callTy (listN K) rfl T.n_list (by rfl) (pa_cons (pe_slice (slN K) (pv 0) po_none (po_some pe_int)) pa_nil)) (pe_op mulN (lstN (pa_cons pe_int pa_nil)) (pe_callTy call_int1 rfl T.n_int (by rfl) (pa_cons (pe_cmpR (eqK K hu6) (pe_callB (lenK K) rfl T.n_len (by rfl) (pa_cons (pv 0) pa_nil)) pe_int (nomark _)) pa_nil)))) (pps_cons pe_str pe_int pps_nil)) rfl rfl (by decide) (by decide)))),?_⟩
 intro p H0 n0
 refine ⟨_,rfl,_,rfl, .inl ⟨a,_,rfl,n0.same.seq hS,fun r1 H1 n1 => ?_⟩⟩
 refine ⟨r1,_,rfl, .inl (SqL.of n1.at),fun r2 H2 n2 => ?_⟩
 refine ⟨by show 1≤sizeLine;decide,fun r3 H3 n3 => ?_⟩
 refine ⟨_,rfl,_,_,rfl, .inl ⟨_,(n0.same.trans (n1.same.trans (n2.same.trans n3.same))).seq hS,rfl⟩, .inl ⟨rfl,?_⟩⟩
 refine .inr ⟨_,rfl, .inr ⟨r3,_,_,rfl,rfl,n3.at,?_⟩⟩
 have hk:∀(k:Bool),((if k=true then 1 else 0:Int)).toNat≤1 ∧ -(2 ^ 63:Int)≤(if k=true then 1 else 0:Int)∧(if k=true then 1 else 0:Int)<2 ^ 63:=fun k=>by cases k <;> decide
 refine ⟨(hk _).2.1,(hk _).2.2,?_,fun r4 H4 n4 => ?_⟩
 ·have:=(hk (decide (V.int ↑(List.map V.int ns).length=V.int 0))).1
  exact sizeOk (by simp only [List.length_singleton]; (first|lia|omega))
 have hc:cutV (ns.map V.int) none (some 63)=ns.map V.int:=by
  have e:=cut_to (ns.map V.int) 63
  rw [List.take_of_length_le (by rw [List.length_map];exact hlen)] at e
  exact e
 have hn2:H2 r2=some (.lst (ns.map V.int)):=by rw [←hc];exact n2.at
 refine .inr (.inr ⟨r2,r4,_,_,rfl,rfl,n4.same _ _ (n3.same _ _ n2.at),n4.at,?_,fun r5 H5 n5 => ?_⟩)
 ·rw [hc,List.length_map,len_rep]
  have:=(hk (decide (V.int ↑(List.map V.int ns).length=V.int 0))).1
  exact sizeOk (by simp only [List.length_singleton]; (first|lia|omega))
 have s0:Same H0 H5:=n1.same.trans (n2.same.trans (n3.same.trans (n4.same.trans n5.same)))
 refine ⟨s0 _ _ n0.at,[(.inr "cells", .ref r5),(.inr "turn", .int 0)],rfl,by show 2≤15;decide,fun H6 n6 => ?_⟩
 have hp5:r5≠p:=Ne.symm (ne_of_none ((n1.same.trans (n2.same.trans (n3.same.trans n4.same))) _ _ n0.at) n5.nn)
 have h05:H0 r5=none:=(n1.same.trans (n2.same.trans (n3.same.trans n4.same))).free n5.nn
 have hr5:H r5=none:=by rw [←n0.ne hp5];exact h05
 refine q p r5 H6 ⟨ns++(if ns.length=0 then [5] else []),?_,?_,?_,?_⟩ n0.nn hr5 (fun b o e => ?_)
 ·rw [n6.at];rfl
 ·rw [n6.ne hp5,n5.at,hc,List.map_append]
  congr 3
  by_cases h0:ns.length=0
  ·have e:decide (V.int ((ns.map V.int).length:Nat)=V.int 0)=true:=by rw [List.length_map,h0];rfl
   rw [e,if_pos h0];rfl
  ·have e:decide (V.int ((ns.map V.int).length:Nat)=V.int 0)=false:=decide_eq_false (fun z=>by rw [List.length_map] at z;injection z with z; (first|lia|omega))
   rw [e,if_neg h0];rfl
 ·by_cases h0:ns.length=0
  ·rw [if_pos h0];simp
  ·rw [List.length_append]; (first|lia|omega)
 ·rw [List.length_append];split <;> simp <;> (first|lia|omega)
 ·have hb1:b≠p:=ne_of_none e n0.nn
  have hb2:b≠r5:=ne_of_none e hr5
  rw [hid_of hb1 hb2,n6.ne hb1]
  exact s0 _ _ (n0.same _ _ e)
end
end Z
namespace Z
open PySem L2
theorem hid_same {H:Hp} {b c:Addr} : Same (hid H b c) H:=fun a o e=>(of_hid e).1
theorem weight_int {i:Int} (h:i.natAbs<2 ^ 200):PyData.weight (.int i)≤201:=by
 simp only [PyData.weight]
 split
 ·(first|lia|omega)
 ·rename_i h0
  have hne:i.natAbs≠0:=by
   intro z
   exact h0 (by simp; (first|lia|omega))
  have:=(Nat.log2_lt hne).mpr h
  (first|lia|omega)
end Z
namespace Z
open PySem L2
theorem eint {K:PySem.W.Frag} {H:Hp} {i:Int} : Den K H (.int i) (.int i):=by unfold Den;rfl
end Z
namespace Z
open PySem L2
def srtI (ns:List Int):List Int:=ns.mergeSort fun a b=>decide (a≤b)
theorem srtI_perm (ns:List Int):(srtI ns).Perm ns:=List.mergeSort_perm _ _
theorem srtI_pair (ns:List Int):(srtI ns).Pairwise (· ≤ ·):=by
 have h:=List.pairwise_mergeSort (le:=fun a b:Int=>decide (a≤b)) (by intro a b c h1 h2;simp at *; (first|lia|omega)) (by intro a b;simp; (first|lia|omega)) ns
 exact h.imp fun {a b} h=>by simpa using h
theorem srt_eq:∀{ms ns:List Int},ms.Perm ns→ms.Pairwise (· ≤ ·)→ns.Pairwise (· ≤ ·)→ms=ns
 | [],ns,p,_,_=>(List.nil_perm.mp p).symm
 | m :: ms,ns,p,h1,h2=>by
  cases ns with
  | nil=>exact absurd p.length_eq (by simp)
  | cons n ns=>
   have hm:m∈n :: ns:=p.subset List.mem_cons_self
   have hn:n∈m :: ms:=p.symm.subset List.mem_cons_self
   have e:m=n:=by
    rcases List.mem_cons.mp hm with e|hm
    ·exact e
    ·rcases List.mem_cons.mp hn with e|hn
     ·exact e.symm
     ·have:=(List.pairwise_cons.mp h2).1 m hm
      have:=(List.pairwise_cons.mp h1).1 n hn
      (first|lia|omega)
   subst e
   rw [srt_eq (List.Perm.cons_inv p) (List.pairwise_cons.mp h1).2 (List.pairwise_cons.mp h2).2]
theorem srt_one {ms ns:List Int} (p:ms.Perm ns) (h:ms.Pairwise (· ≤ ·)):ms=srtI ns:=srt_eq (p.trans (srtI_perm ns).symm) h (srtI_pair ns)
def pairS:List Int→List Int
 | a :: b :: r=>(a+b) :: pairS r
 | _=>[]
theorem pairS_len:∀l:List Int,(pairS l).length=l.length / 2
 | []=>rfl
 | [_]=>by simp [pairS]
 | a :: b :: r=>by
  have:=pairS_len r
  simp only [pairS,List.length_cons]
  (first|lia|omega)
theorem pairS_get:∀(l:List Int) (i:Nat),i<l.length / 2→(pairS l)[i]? = some (l.getD (2*i) 0+l.getD (2*i+1) 0)
 | [],i,h=>absurd h (by simp)
 | [_],i,h=>absurd h (by simp)
 | a :: b :: r,0,h=>rfl
 | a :: b :: r,i+1,h=>by
  have:=pairS_get r i (by simp only [List.length_cons] at h; (first|lia|omega))
  show (pairS r)[i]? = _
  rw [this]
  rfl
def nlI (rising layer:List Int):List Int:=srtI (rising++pairS layer)
abbrev natI (ns:List Int):List V:=ns.map V.int
def spNl (K:PySem.W.Frag):Sp:=fun vs H Q _=>Ex4 fun (a l:Addr) (ns ms:List Int)=>vs=[.ref a, .ref l]∧H a=some (.lst (natI ns))∧SqL K H l (natI ms)∧ns.length+ms.length / 2<100∧ms.length≤1000 ∧
 ∀(q:Addr) (H':Hp),Same H H'→H q=none→H' q=some (.lst (natI (nlI ns ms)))→Q (.ref q) H'
def sumBy (xs:List Int) (m:Nat):Int:=if m=1 then xs.headD 0 else (xs.take (2*m-2)).sum
def spSb (K:PySem.W.Frag):Sp:=fun vs H Q _=>Ex3 fun (l:Addr) (xs:List Int) (m:Nat)=>vs=[.ref l, .int (m:Nat)]∧SqL K H l (natI xs)∧1≤m∧m≤1000∧xs≠[]∧∀H',Same H H'→Q (.int (sumBy xs m)) H'
section
variable {P:Program} {w:World} {K:PySem.W.Frag} {mg:Str→Option Value} {base:Heap} {f:Addr} {fd:FuncData}
theorem sc_next_layer:FnScope ["rising", "layer", "sums"] ["rising", "layer"] (defScope (top i_next_layer)):=⟨rfl,rfl,rfl,by decide +kernel,rfl,by decide +kernel,by decide +kernel⟩
theorem ok_nl (F:Fun K "next_layer" "next_layer" (top i_next_layer) f fd) (T:Nm mg) (n_sorted:mg "sorted" = none):FnOk P w K mg base CX0 1 f fd ["rising", "layer"] (spNl K):=by
 refine F.ok sc_next_layer (fun vs H Q E h => ?_) (fun cdv A outer s H vs Q E hr h => ?_)
 ·obtain ⟨a,l,ns,ms,rfl,_⟩:=h
  rfl
 obtain ⟨a,l,ns,ms,rfl,ha,hl,la,lm,q⟩:=h
 have hu6:=hr.units
 refine ⟨_,(pss_cons (ps_setcomp (i:=2) sc_next_layer.nd rfl (Or.inl rfl) rfl (comp_ok (Nc:=["at"]) (Fc:=["layer"]) (js:=[1])) (pi_range3 rfl T.n_range (pa_cons pe_int (pa_cons (pe_op op_sub (pe_callB (lenK K) rfl T.n_len (by rfl) (pa_cons (pv 1) pa_nil)) pe_int) (pa_cons pe_int pa_nil)))) (gk_name (i:=0) (n:=1) (by decide)) (fun _ _ _ _ _=>(pg_name (i:=0) (show (["at", "layer"]:List Str).Nodup by decide +kernel) rfl (Or.inl rfl))) (fun _ _ _ _ _=>pts_nil) (fun _ _ _ _ _=>(pe_op addN (pe_ix (ixK K) (pv 1) (pv 0) (fun _ _=>rfl)) (pe_ix (ixK K) (pv 1) (pe_op addN (pv 0) pe_int) (fun _ _=>rfl)))))
  (pss_one (ps_ret (pe_callB (sortedL K) rfl n_sorted (by rfl) (pa_cons (pe_op addN (pv 0) (pv 2)) pa_nil))))),?_⟩
 have vl:(natI ms).length=ms.length:=List.length_map _
 refine ⟨_,rfl,_,_,rfl, .inl ⟨_,hl,rfl⟩,_,_,rfl,rfl,0,_,2,rfl,⟨by decide,by decide,by first|lia|omega,by first|lia|omega,by decide,by decide⟩,?_⟩
 have eN:stepN 0 ((((natI ms).length:Nat):Int)-1) 2=ms.length / 2:=by
  unfold stepN
  rw [vl]
  split <;> (first|lia|omega)
 rw [eN]
 refine comp_go (N:=ms.length / 2) (fun i ys H'=>H'=H∧ys=natI ((pairS ms).take i)) ⟨rfl,rfl⟩ ?_ ?_
 ·rintro i ys H' Nx hi ⟨rfl,rfl⟩ nx
  refine ⟨hi,Nat.lt_of_le_of_lt (show _≤1000 by rw [List.length_map,List.length_take];exact Nat.le_trans (Nat.min_le_left _ _) (by first|lia|omega)) (by decide),?_⟩
  rintro x' H2 ⟨rfl,rfl⟩
  have g0:atI (natI ms) (0+(i:Int)*2)=some (.int (ms.getD (2*i) 0)):=at_nat (by first|lia|omega) (by
   rw [show (0+(i:Int)*2).toNat=2*i by first|lia|omega,List.getElem?_map,List.getD_eq_getElem?_getD,List.getElem?_eq_getElem (by first|lia|omega)];rfl)
  have g1:atI (natI ms) (0+(i:Int)*2+1)=some (.int (ms.getD (2*i+1) 0)):=at_nat (by first|lia|omega) (by
   rw [show (0+(i:Int)*2+1).toNat=2*i+1 by first|lia|omega,List.getElem?_map,List.getD_eq_getElem?_getD,List.getElem?_eq_getElem (by first|lia|omega)];rfl)
  refine ⟨_,rfl,_,rfl, .inl ⟨l,_,_,_,rfl,rfl,hl,g0,?_⟩⟩
  refine ⟨_,rfl,_,rfl, .inl ⟨_,_,rfl,rfl, .inl ⟨l,_,_,_,rfl,rfl,hl,g1, .inl ⟨_,_,rfl,rfl,nx _ _ ⟨rfl,?_⟩⟩⟩⟩⟩
  have hp:i<(pairS ms).length:=by rw [pairS_len];exact hi
  have e:=pairS_get ms i hi
  rw [List.getElem?_eq_getElem hp] at e
  rw [List.take_succ_eq_append_getElem hp,Option.some.inj e]
  simp only [natI,List.map_append,List.map_cons,List.map_nil]
 ·rintro ys H' ⟨rfl,rfl⟩
  refine ⟨Nat.le_refl _,fun p hp => ?_⟩
  rw [←pairS_len,List.take_length]
  obtain ⟨H1,n1⟩:∃H1,New H' p (.lst (natI (pairS ms))) H1:=⟨_,hp,rfl⟩
  rw [←n1.eq]
  refine gn ?_
  have pl:=pairS_len ms
  refine ⟨_,rfl,_,rfl, .inr (.inr ⟨a,p,_,_,rfl,rfl,n1.same _ _ ha,n1.at,Nat.le_trans (show _≤1000 by rw [List.length_map,List.length_map]; (first|lia|omega)) (by decide),fun p2 H2 n2 => ?_⟩)⟩
  refine ⟨p2,ns++pairS ms,rfl,SqL.of (by rw [n2.at];unfold natI;rw [List.map_append]),Nat.le_trans (show _≤1000 by rw [List.length_append]; (first|lia|omega)) (by decide),fun os q2 H3 pm pw n3 => ?_⟩
  have e:=srt_one pm pw
  subst e
  refine q q2 H3 (n1.same.trans (n2.same.trans n3.same)) ?_ n3.at
  cases z:H' q2 with
  | none=>rfl
  | some o=>have:=(n1.same.trans n2.same) _ _ z;rw [n3.nn] at this;cases this
theorem sc_sum_by:FnScope ["last_layer", "many"] ["last_layer", "many"] (defScope (top i_sum_by)):=⟨rfl,rfl,rfl,by decide +kernel,rfl,by decide +kernel,by decide +kernel⟩
theorem ok_sb (F:Fun K "sum_by" "sum_by" (top i_sum_by) f fd) (T:Nm mg):FnOk P w K mg base CX0 1 f fd ["last_layer", "many"] (spSb K):=by
 refine F.ok sc_sum_by (fun vs H Q E h => ?_) (fun cdv A outer s H vs Q E hr h => ?_)
 ·obtain ⟨l,xs,m,rfl,_⟩:=h
  rfl
 obtain ⟨l,xs,m,rfl,hl,m1,m2,ne,q⟩:=h
 have hu6:=hr.units
 refine ⟨_,(pss_cons (ps_if (pt_cmpR (eqK K hu6) (pv 1) pe_int (nomark _)) (pss_one (ps_ret (pe_ix (ixK K) (pv 0) pe_int (fun _ _=>rfl)))) pss_nil)
  (pss_one (ps_ret (pe_callB (sumK K rfl) rfl T.n_sum (by rfl) (pa_cons (pe_slice (slN K) (pv 0) po_none (po_some (pe_op op_sub (pe_op mulN pe_int (pv 1)) pe_int))) pa_nil))))),?_⟩
 refine ⟨_,rfl, .inl ⟨rfl,_,rfl,ite2 (fun c1 => ?_) (fun c1 => ?_)⟩⟩
 ·have e1:m=1:=by
   have:=of_decide_eq_true c1
   injection this with this
   (first|lia|omega)
  have z:=q H (Same.refl _)
  unfold sumBy at z
  rw [if_pos e1] at z
  cases xs with
  | nil=>exact absurd rfl ne
  | cons x xs=>exact ⟨_,rfl, .inl ⟨l,_,0,_,rfl,rfl,hl,at_nat (by decide) rfl,z⟩⟩
 ·have e1:m≠1:=fun z=>c1 (by rw [z];rfl)
  refine ⟨_,rfl,_,rfl, .inl ⟨_,_,rfl,rfl, .inl ⟨by decide,by decide⟩,_,_,rfl,rfl,_,rfl, .inl ⟨l,_,rfl,hl,fun p H1 n1 => ?_⟩⟩⟩
  have e2:((2:Int)*(m:Nat)-2)=((2*m-2:Nat):Int):=by (first|lia|omega)
  rw [e2,cut_to] at n1
  refine ⟨p,xs.take (2*m-2),rfl,SqL.of (by rw [n1.at];unfold natI;rw [List.map_take]),?_⟩
  have z:=q H1 n1.same
  unfold sumBy at z
  rw [if_neg e1] at z
  exact z
end
end Z
namespace Z
open PySem L2
abbrev useE (q:Str×Int):PyData := .tuple [.str q.1, .int q.2]
abbrev usesD (us:List (Str×Int)):PyData := .list (us.map useE)
def lay (rising:List Int):Nat→List Int
 | 0=>rising
 | n+1=>nlI rising (lay rising n)
def layN (rising:List Int) (n:Nat):List (List Int):=(List.range n).map (lay rising)
theorem layN_len (r:List Int) (n:Nat):(layN r n).length=n:=by unfold layN;rw [List.length_map,List.length_range]
theorem layN_get {r:List Int} {n i:Nat} (h:i<n):(layN r n)[i]? = some (lay r i):=by
 unfold layN
 rw [List.getElem?_map,List.getElem?_range h]
 rfl
theorem lay_ne {r:List Int} (h:r≠[]) (n:Nat):lay r n≠[]:=by
 cases n with
 | zero=>exact h
 | succ n=>
  show srtI (r++pairS (lay r n))≠[]
  intro z
  have:=(srtI_perm (r++pairS (lay r n))).length_eq
  rw [z,List.length_append] at this
  have:0<r.length:=List.length_pos_iff.mpr h
  simp at *
  (first|lia|omega)
abbrev rowD (ns:List Int):PyData := .list (ns.map PyData.int)
abbrev rowsD (ls:List (List Int)):PyData := .list (ls.map rowD)
theorem _root_.L2.Den.pairI {K:PySem.W.Frag} {H:Hp} {a:Str} {i:Int} {v:V} (h:Den K H (.tuple [.str a, .int i]) v):∃p,v = .ref p∧SqT K H p [.str a, .int i]:=by
 unfold Den at h
 obtain ⟨p,vs,rfl,hT,hds⟩:=h
 unfold Dens at hds
 obtain ⟨v1,r1,rfl,h1,hds⟩:=hds
 unfold Dens at hds
 obtain ⟨v2,r2,rfl,h2,hds⟩:=hds
 unfold Dens at hds
 subst hds
 unfold Den at h1 h2
 subst h1 h2
 exact ⟨p,rfl,hT⟩
theorem ints_of {K:PySem.W.Frag} {H:Hp} : ∀{ns:List Int} {vs:List V},Dens K H (ns.map PyData.int) vs→vs=natI ns
 | [],vs,h=>by
  have h:Dens K H [] vs:=h
  unfold Dens at h
  exact h
 | i :: ns,vs,h=>by
  have h:Dens K H (.int i :: ns.map PyData.int) vs:=h
  unfold Dens at h
  obtain ⟨v,r,rfl,hv,hr⟩:=h
  unfold Den at hv
  subst hv
  rw [ints_of hr]
  rfl
theorem ints_den {K:PySem.W.Frag} {H:Hp} : ∀(ns:List Int),Dens K H (ns.map PyData.int) (natI ns)
 | []=>by show Dens K H [] [];unfold Dens;rfl
 | i :: ns=>by
  show Dens K H (.int i :: ns.map PyData.int) (.int i :: natI ns)
  unfold Dens
  exact ⟨_,_,rfl,by unfold Den;rfl,ints_den ns⟩
theorem den_row {K:PySem.W.Frag} {H:Hp} {ns:List Int} {v:V} (h:Den K H (rowD ns) v):∃a,v = .ref a∧SqL K H a (natI ns):=by
 unfold rowD at h
 unfold Den at h
 obtain ⟨a,vs,rfl,hS,hd⟩:=h
 rw [ints_of hd] at hS
 exact ⟨a,rfl,hS⟩
theorem row_den {K:PySem.W.Frag} {H:Hp} {ns:List Int} {a:Addr} (h:SqL K H a (natI ns)):Den K H (rowD ns) (.ref a):=Den.list h (ints_den ns)
theorem lay_len {r:List Int} (h:r.length≤48):∀n,(lay r n).length≤95
 | 0=>by show r.length≤95; (first|lia|omega)
 | n+1=>by
  have:=lay_len h n
  show (srtI (r++pairS (lay r n))).length≤95
  rw [(srtI_perm _).length_eq,List.length_append,pairS_len]
  (first|lia|omega)
theorem at_last {xs:List V} {v:V} (h:xs[xs.length-1]? = some v):atI xs (-1)=some v:=by
 have hl:=(List.getElem?_eq_some_iff.mp h).1
 unfold atI ixN
 rw [if_neg (by decide),if_pos (by first|lia|omega)]
 show xs[((-1:Int)+xs.length).toNat]? = some v
 rw [show ((-1:Int)+xs.length).toNat=xs.length-1 by first|lia|omega]
 exact h
theorem srt_single (u:Int):srtI [u]=[u]:=(srt_one (List.Perm.refl _) (by simp)).symm
theorem lay_single (u:Int):∀n,lay [u] n=[u]
 | 0=>rfl
 | n+1=>by
  show nlI [u] (lay [u] n)=[u]
  rw [lay_single u n]
  unfold nlI
  rw [show pairS [u]=[] by simp [pairS],List.append_nil]
  exact srt_single u
end Z
namespace Z
open PySem L2
def below (x:Int) (l:List Int):Nat:=(l.filter fun a=>decide (a≤x)).length
def insI (x:Int) (l:List Int):List Int:=l.take (below x l)++x :: l.drop (below x l)
theorem below_le (x:Int) (l:List Int):below x l≤l.length:=List.length_filter_le _ _
theorem below_cut:∀{x:Int} {l:List Int},l.Pairwise (· ≤ ·)→(∀a∈l.take (below x l),a≤x)∧∀a∈l.drop (below x l),x<a
 | x,[],_=>⟨fun a h=>(nomatch h),fun a h=>(nomatch h)⟩
 | x,b :: l,h=>by
  obtain ⟨h1,h2⟩:=List.pairwise_cons.mp h
  obtain ⟨i1,i2⟩:=below_cut (x:=x) h2
  by_cases hb:b≤x
  ·have e:below x (b :: l)=below x l+1:=by
    unfold below
    rw [List.filter_cons_of_pos (by simpa using hb)]
    rfl
   rw [e,List.take_succ_cons,List.drop_succ_cons]
   refine ⟨fun a ha => ?_,i2⟩
   rcases List.mem_cons.mp ha with rfl|ha
   ·exact hb
   ·exact i1 a ha
  ·have e:below x (b :: l)=0:=by
    unfold below
    rw [List.filter_cons_of_neg (by simpa using hb),List.length_eq_zero_iff,List.filter_eq_nil_iff]
    intro a ha
    have:=h1 a ha
    simp
    (first|lia|omega)
   rw [e]
   refine ⟨fun a h=>(nomatch h),fun a ha => ?_⟩
   rcases List.mem_cons.mp ha with rfl|ha
   ·(first|lia|omega)
   ·have:=h1 a ha; (first|lia|omega)
theorem ins_perm (x:Int) (l:List Int):(insI x l).Perm (x :: l):=by
 unfold insI
 refine List.perm_middle.trans ?_
 rw [List.take_append_drop]
theorem ins_sort {x:Int} {l:List Int} (h:l.Pairwise (· ≤ ·)):(insI x l).Pairwise (· ≤ ·):=by
 obtain ⟨h1,h2⟩:=below_cut (x:=x) h
 unfold insI
 refine List.pairwise_append.mpr ⟨h.sublist (List.take_sublist _ _),List.pairwise_cons.mpr ⟨fun a ha=>by have:=h2 a ha; (first|lia|omega),h.sublist (List.drop_sublist _ _)⟩,fun a ha c hc => ?_⟩
 have:=h1 a ha
 rcases List.mem_cons.mp hc with rfl|hc
 ·exact this
 ·have:=h2 c hc; (first|lia|omega)
def news (H H':Hp):Hp:=fun a=>match H a with|none=>H' a|some _=>none
theorem news_of {H H':Hp} {a:Addr} {o:HO} (h:H a=none) (h':H' a=some o):news H H' a=some o:=by
 unfold news
 rw [h]
 exact h'
theorem news_same (H H':Hp):Same (news H H') H':=fun a o e=>by
 unfold news at e
 cases h:H a with
 | none=>rw [h] at e;exact e
 | some x=>rw [h] at e;cases e
def spLl (K:PySem.W.Frag):Sp:=fun vs H Q _=>Ex3 fun (vu:V) (us:List (Str×Int)) (most:Nat)=>vs=[vu, .int (most:Nat)]∧Den K H (usesD us) vu∧us.length≤48∧1≤most∧most≤30 ∧
 ∀(l:Addr) (vs:List V) (H':Hp),Same H H'→news H H' l=some (.lst vs)→Dens K (news H H') ((layN (srtI (us.map (·.2))) most).map rowD) vs→Q (.ref l) H'
theorem filt_pos {x a:Int} {l:List Int} (h:decide (a≤x)=true):natI (l.filter fun b=>decide (b≤x))++[V.int a]=natI ((l++[a]).filter fun b=>decide (b≤x)):=by
 rw [List.filter_append,List.filter_cons_of_pos (p:=fun b=>decide (b≤x)) h]
 simp only [natI,List.map_append,List.filter_nil,List.map_cons,List.map_nil]
theorem filt_neg {x a:Int} {l:List Int} (h:¬decide (a≤x)=true):natI (l.filter fun b=>decide (b≤x))=natI ((l++[a]).filter fun b=>decide (b≤x)):=by
 rw [List.filter_append,List.filter_cons_of_neg (p:=fun b=>decide (b≤x)) h]
 simp only [List.filter_nil,List.append_nil]
section
variable {P:Program} {w:World} {K:PySem.W.Frag} {mg:Str→Option Value} {base:Heap} {f:Addr} {fd:FuncData}
theorem sc_law_layers:FnScope ["_law_uses_here", "_law_most", "_law_own", "_law_name", "_law_use", "_law_place", "_law_found", "_law_turn", "_law_row", "_law_ahead", "_law_k", "_law_both"] ["_law_uses_here", "_law_most"] (defScope (top i_law_layers)):=⟨rfl,rfl,rfl,by decide +kernel,rfl,by decide +kernel,by decide +kernel⟩
theorem ok_ll (F:Fun K "_law_layers" "_law_layers" (top i_law_layers) f fd) (T:Nm mg):FnOk P w K mg base CX0 1 f fd ["_law_uses_here", "_law_most"] (spLl K):=by
 refine F.ok sc_law_layers (fun vs H Q E h => ?_) (fun cdv A outer s H vs Q E hr h => ?_)
 ·obtain ⟨vu,us,most,rfl,_⟩:=h
  rfl
 obtain ⟨vu,us,most,rfl,hu,ul,m1,m2,q⟩:=h
 have hu6:=hr.units
 refine ⟨_,(pss_cons (ps_set (i:=2) sc_law_layers.nd rfl (Or.inl rfl) (lstN pa_nil))
  (pss_cons (ps_for PassesOwn.never rfl (piK K (pv 0)) (tupK K 2 rfl (pgs_cons (pg_name (i:=3) sc_law_layers.nd rfl (Or.inl rfl)) (pgs_cons (pg_name (i:=4) sc_law_layers.nd rfl (Or.inr rfl)) pgs_nil))) (pss_cons (ps_set (i:=5) sc_law_layers.nd rfl (Or.inl rfl) (pe_callB (lenK K) rfl T.n_len (by rfl) (pa_cons (pe_lcomp rfl (comp_ok (Nc:=["_law_one"]) (Fc:=["_law_use"]) (js:=[4])) (piK K (pv 2)) (gk_name (i:=0) (n:=1) (by decide)) (fun _ _ _ _ _=>(pg_name (i:=0) (show (["_law_one", "_law_use"]:List Str).Nodup by decide +kernel) rfl (Or.inl rfl))) (fun _ _ _ _ _=>(pts_one (pt_cmpR op_le (pv 0) (pv 1) (nomark _)))) (fun _ _ _ _ _=>(pv 0))) pa_nil)))
  (pss_one (ps_expr (bmK K PySem.F.plainAttrs_list PySem.F.slot_list_insert PySem.F.type_list_insert insertN (pv 2) (pa_cons (pv 5) (pa_cons (pv 4) pa_nil)))))))
  (pss_cons (ps_set (i:=6) sc_law_layers.nd rfl (Or.inl rfl) (lstN (pa_cons (pv 2) pa_nil)))
  (pss_cons (ps_for PassesOwn.never rfl (pi_range1 rfl T.n_range (pa_cons (pe_op op_sub (pv 1) pe_int) pa_nil)) (pg_name (i:=7) sc_law_layers.nd rfl (Or.inl rfl)) (pss_cons (ps_par (i:=8) (j:=9) rfl sc_law_layers.nd rfl rfl (by decide) rfl rfl (pa_cons (pe_callTy (listN K) rfl T.n_list (by rfl) (pa_cons (pv 2) pa_nil)) (pa_cons (pe_ix (ixK K) (pv 6) (pe_un un_neg pe_int) (fun _ _=>rfl)) pa_nil)) rfl)
  (pss_cons (ps_for PassesOwn.never rfl (pi_range1 rfl T.n_range (pa_cons (pe_op op_fdiv (pe_callB (lenK K) rfl T.n_len (by rfl) (pa_cons (pv 9) pa_nil)) pe_int) pa_nil)) (pg_name (i:=10) sc_law_layers.nd rfl (Or.inl rfl)) (pss_cons (ps_set (i:=11) sc_law_layers.nd rfl (Or.inr rfl) (pe_op addN (pe_ix (ixK K) (pv 9) (pe_op mulN pe_int (pv 10)) (fun _ _=>rfl)) (pe_ix (ixK K) (pv 9) (pe_op addN (pe_op mulN pe_int (pv 10)) pe_int) (fun _ _=>rfl))))
  (pss_one (ps_expr (bmK K PySem.F.plainAttrs_list PySem.F.slot_list_insert PySem.F.type_list_insert insertN (pv 8) (pa_cons (pe_callB (lenK K) rfl T.n_len (by rfl) (pa_cons (pe_lcomp rfl (comp_ok (Nc:=["_law_one"]) (Fc:=["_law_both"]) (js:=[11])) (piK K (pv 8)) (gk_name (i:=0) (n:=1) (by decide)) (fun _ _ _ _ _=>(pg_name (i:=0) (show (["_law_one", "_law_both"]:List Str).Nodup by decide +kernel) rfl (Or.inl rfl))) (fun _ _ _ _ _=>(pts_one (pt_cmpR op_le (pv 0) (pv 1) (nomark _)))) (fun _ _ _ _ _=>(pv 0))) pa_nil)) (pa_cons (pv 11) pa_nil)))))))
  (pss_one (ps_expr (bmK K PySem.F.plainAttrs_list PySem.F.slot_list_append PySem.F.type_list_append appendN (pv 6) (pa_cons (pv 8) pa_nil)))))))
  (pss_one (ps_ret (pv 6))))))),?_⟩
 obtain ⟨lu,uvs,rfl,hSu,hdu⟩:Ex2 fun lu uvs=>vu = .ref lu∧SqL K H lu uvs∧Dens K H (us.map useE) uvs:=by
  unfold usesD at hu
  unfold Den at hu
  exact hu
 have huv:uvs.length=us.length:=by rw [hdu.len,List.length_map]
 refine ⟨by show 0≤sizeLine;decide,fun lo H1 n1=>gn ?_⟩
 have len40:(srtI (us.map (·.2))).length≤48:=by rw [(srtI_perm _).length_eq,List.length_map];exact ul
 dsimp only
 refine seqCut (t:=tFor _ _ _) (fun σ H'=>Ex4 fun (own:List Int) (x3 x4 x5:Option V) => σ=[some (.ref lu),some (.int (most:Nat)),some (.ref lo),x3,x4,x5,none,none,none,none,none,none]∧H' lo=some (.lst (natI own))∧own.Perm (us.map (·.2))∧own.Pairwise (· ≤ ·)∧Same H H') (fun Nx nx => ?_) ?_
 ·refine ⟨_,rfl,lu,rfl,⟨_,n1.same.seq hSu⟩,?_⟩
  refine for_go (N:=us.length) (fun i σ H'=>Ex4 fun (own:List Int) (x3 x4 x5:Option V) => σ=[some (.ref lu),some (.int (most:Nat)),some (.ref lo),x3,x4,x5,none,none,none,none,none,none]∧H' lo=some (.lst (natI own))∧own.Perm ((us.take i).map (·.2))∧own.Pairwise (· ≤ ·)∧Same H H') ⟨[],_,_,_,rfl,n1.at,List.Perm.refl _,List.Pairwise.nil,n1.same⟩ ?_ ?_
  ·intro i σ H2 hi hz_
   refine Elim.el hz_ _ ?_
   clear hz_
   rintro own x3 x4 x5 rfl hlo pm pw sm2
   obtain ⟨x,hx,dx⟩:=(hdu.same sm2).get (i:=i) (d:=useE us[i]) (by rw [List.getElem?_map,List.getElem?_eq_getElem hi];rfl)
   refine Elim.el (dx.pairI) _ ?_
   rintro pa rfl hT
   have ol:own.length≤48:=by rw [pm.length_eq,List.length_map,List.length_take];exact Nat.le_trans (Nat.min_le_right _ _) ul
   refine ⟨⟨_,_,sm2.seq hSu,hx⟩,?_⟩
   rintro x' H3 ⟨rfl,hy⟩
   have e:=hy _ (sm2.seq hSu)
   rw [hx] at e;cases e
   refine ⟨pa,_,rfl,hT,rfl,_,_,rfl,_,_,rfl,rfl,?_⟩
   have hSo:SqL K H3 lo (natI own):=SqL.of hlo
   refine ⟨_,rfl,lo,rfl,⟨_,hSo⟩,?_⟩
   refine comp_go (N:=own.length) (fun j ys H'=>H'=H3∧ys=natI ((own.take j).filter fun a=>decide (a≤us[i].2))) ⟨rfl,rfl⟩ ?_ ?_
   ·rintro j ys H' Nx hj ⟨rfl,rfl⟩ nx
    have hx:(natI own)[j]? = some (.int own[j]):=by rw [List.getElem?_map,List.getElem?_eq_getElem hj];rfl
    refine ⟨⟨_,_,hSo,hx⟩,Nat.lt_of_le_of_lt (show _≤1000 by rw [List.length_map];exact Nat.le_trans (List.length_filter_le _ _) (by rw [List.length_take];exact Nat.le_trans (Nat.min_le_right _ _) (Nat.le_trans ol (by decide)))) (by decide),?_⟩
    rintro x' H3 ⟨rfl,hy⟩
    have e:=hy _ hSo
    rw [hx] at e;cases e
    refine gn ⟨_,rfl,_,rfl,_,_,rfl,rfl,_,rfl,ite2 (fun c => ?_) (fun c => ?_)⟩
    ·refine ⟨_,rfl,nx _ _ ⟨rfl,?_⟩⟩
     rw [List.take_succ_eq_append_getElem hj]
     exact filt_pos c
    ·refine nx _ _ ⟨rfl,?_⟩
     rw [List.take_succ_eq_append_getElem hj]
     exact filt_neg c
   rintro ys H' ⟨rfl,rfl⟩
   refine ⟨⟨_,hSo,by rw [List.length_map];exact Nat.le_refl _⟩,fun pf hpf => ?_⟩
   rw [List.take_length]
   obtain ⟨H4,n4⟩:∃H4,New H' pf (.lst (natI (own.filter fun a=>decide (a≤us[i].2)))) H4:=⟨_,hpf,rfl⟩
   rw [←n4.eq]
   refine ⟨_,_,rfl, .inl ⟨_,SqL.of n4.at,rfl⟩,gn ?_⟩
   have hlo4:=n4.same _ _ hlo
   have bl:=below_le us[i].2 own
   have eb:(natI (own.filter fun a=>decide (a≤us[i].2))).length=below us[i].2 own:=List.length_map _
   rw [eb]
   refine ⟨_,rfl, .inl ⟨rfl,_,SqL.of hlo4⟩,_,rfl,_,rfl,lo,_,_,_,rfl,rfl,hlo4,by first|lia|omega,by rw [List.length_map]; (first|lia|omega),Nat.lt_of_lt_of_le (show _<1000 by rw [List.length_map]; (first|lia|omega)) (by decide),fun H5 c5 => ?_⟩
   refine ⟨insI us[i].2 own,_,_,_,rfl,?_,?_,ins_sort pw,fun a o e => ?_⟩
   ·rw [c5.at,Int.toNat_natCast]
    unfold insI natI
    rw [List.map_append,List.map_cons,List.map_take,List.map_drop]
   ·rw [List.take_succ_eq_append_getElem hi,List.map_append]
    exact (ins_perm _ _).trans ((List.Perm.cons _ pm).trans (List.perm_append_singleton _ _).symm)
   ·rw [c5.ne (ne_of_none e n1.nn)]
    exact n4.same _ _ (sm2 _ _ e)
  ·intro σ H2 hz_
   refine Elim.el hz_ _ ?_
   clear hz_
   rintro own x3 x4 x5 rfl hlo pm pw sm2
   rw [List.take_length] at pm
   exact ⟨⟨_,sm2.seq hSu,by rw [huv];exact Nat.le_refl _⟩,nx _ _ ⟨own,_,_,_,rfl,hlo,pm,pw,sm2⟩⟩
 intro σ H2 hz_
 refine Elim.el hz_ _ ?_
 clear hz_
 rintro r x3 x4 x5 rfl hlo pm pw sm2
 have er:=srt_one pm pw
 rw [←er] at q len40
 refine ⟨_,rfl,by show 1≤sizeLine;decide,fun lf H3 n3=>gn ?_⟩
 have smf:Same H2 H3:=n3.same
 dsimp only
 refine seqCut (t:=tFor _ _ _) (fun σ H'=>Ex9 fun (as:List Addr) (x3 x4 x5 x7 x8 x9 x10 x11:Option V) => σ=[some (.ref lu),some (.int (most:Nat)),some (.ref lo),x3,x4,x5,some (.ref lf),x7,x8,x9,x10,x11]∧as.length=most∧H' lf=some (.lst (as.map V.ref))∧Same H2 H'∧∀j a,as[j]? = some a→H' a=some (.lst (natI (lay r j)))∧a≠lf∧H a=none) (fun Nx nx => ?_) ?_
 ·refine ⟨_,rfl,_,_,rfl,rfl,_,rfl,by first|lia|omega,by first|lia|omega,?_⟩
  have eN:(((most:Nat):Int)-1).toNat=most-1:=Int.toNat_sub most 1
  refine for_range (lo:=0) (n:=(((most:Nat):Int)-1).toNat) (fun i σ H'=>Ex9 fun (as:List Addr) (x3 x4 x5 x7 x8 x9 x10 x11:Option V) => σ=[some (.ref lu),some (.int (most:Nat)),some (.ref lo),x3,x4,x5,some (.ref lf),x7,x8,x9,x10,x11]∧as.length=i+1∧H' lf=some (.lst (as.map V.ref))∧Same H2 H'∧∀j a,as[j]? = some a→H' a=some (.lst (natI (lay r j)))∧a≠lf∧H a=none) ⟨[lo],_,_,_,_,_,_,_,_,rfl,rfl,n3.at,smf,fun j a ea => ?_⟩ ?_ ?_
  ·have:j=0:=by
    have:=(List.getElem?_eq_some_iff.mp ea).1
    simp at this;exact this
   subst this
   cases ea
   exact ⟨smf _ _ hlo,ne_of_none hlo n3.nn,n1.nn⟩
  ·intro i σ H4 hi hz_
   refine Elim.el hz_ _ ?_
   clear hz_
   rintro as y3 y4 y5 y7 y8 y9 y10 y11 rfl al hlf sm4 has
   have hlo4:=sm4 _ _ hlo
   have vl:(as.map V.ref).length=i+1:=by rw [List.length_map];exact al
   have ea:as[i]? = some (as[i]'(by first|lia|omega)):=List.getElem?_eq_getElem _
   refine Elim.el (has i _ ea) _ ?_
   rintro g1 g2 g3
   have ll:=lay_len len40 i
   refine ⟨_,rfl,lo,_,rfl, .inl (SqL.of hlo4),fun lr H5 n5 => ?_⟩
   have hlf5:=n5.same _ _ hlf
   refine ⟨_,rfl,_,rfl, .inl ⟨lf,_,_,_,rfl,rfl,SqL.of hlf5,at_last (by rw [vl,Nat.add_sub_cancel,List.getElem?_map,ea];rfl),⟨_,_,rfl,?_⟩⟩⟩
   have lrlf:lr≠lf:=Ne.symm (ne_of_none hlf n5.nn)
   have gr5:=n5.same _ _ g1
   have lra:lr≠as[i]'(by first|lia|omega):=Ne.symm (ne_of_none g1 n5.nn)
   have v9:(natI (lay r i)).length=(lay r i).length:=List.length_map _
   dsimp only
   refine seqCut (t:=tFor _ _ _) (fun σ H'=>Ex3 fun (row:List Int) (z10 z11:Option V) => σ=[some (.ref lu),some (.int (most:Nat)),some (.ref lo),y3,y4,y5,some (.ref lf),some (.int (0+i)),some (.ref lr),some (.ref (as[i]'(by first|lia|omega))),z10,z11]∧H' lr=some (.lst (natI row))∧row.Perm (r++pairS (lay r i))∧row.Pairwise (· ≤ ·)∧∀a o,a≠lr→H5 a=some o→H' a=some o) (fun Nx nx => ?_) ?_
   ·refine ⟨_,rfl,_,_,rfl, .inl ⟨_,SqL.of gr5,rfl⟩,_,_,rfl,rfl,⟨by decide,by decide⟩,_,rfl,by first|lia|omega,by first|lia|omega,?_⟩
    have eM:((((natI (lay r i)).length:Nat):Int) / 2).toNat=(lay r i).length / 2:=by rw [show (natI (lay r i)).length=(lay r i).length from List.length_map _];rfl
    refine for_range (lo:=0) (n:=((((natI (lay r i)).length:Nat):Int) / 2).toNat) (fun k σ H'=>Ex3 fun (row:List Int) (z10 z11:Option V) => σ=[some (.ref lu),some (.int (most:Nat)),some (.ref lo),y3,y4,y5,some (.ref lf),some (.int (0+i)),some (.ref lr),some (.ref (as[i]'(by first|lia|omega))),z10,z11]∧H' lr=some (.lst (natI row))∧row.Perm (r++(pairS (lay r i)).take k)∧row.Pairwise (· ≤ ·)∧∀a o,a≠lr→H5 a=some o→H' a=some o) ⟨r,_,_,rfl,n5.at,by simp,pw,fun a o _ e=>e⟩ ?_ ?_
    ·intro k σ H6 hk hz_
     refine Elim.el hz_ _ ?_
     clear hz_
     rintro row z10 z11 rfl hrow rp rw' kp
     have hk:k<(lay r i).length / 2:=by rw [eM] at hk;exact hk
     have g6:=kp _ _ (Ne.symm lra) gr5
     have rl:row.length≤100:=by
      rw [rp.length_eq,List.length_append,List.length_take,pairS_len]
      (first|lia|omega)
     have b0:atI (natI (lay r i)) (2*(0+(k:Int)))=some (.int ((lay r i).getD (2*k) 0)):=at_nat (by first|lia|omega) (by
      rw [show (2*(0+(k:Int))).toNat=2*k by rw [Int.zero_add];rfl,List.getElem?_map,List.getD_eq_getElem?_getD,List.getElem?_eq_getElem (by first|lia|omega)];rfl)
     have b1:atI (natI (lay r i)) (2*(0+(k:Int))+1)=some (.int ((lay r i).getD (2*k+1) 0)):=at_nat (by first|lia|omega) (by
      rw [show (2*(0+(k:Int))+1).toNat=2*k+1 by rw [Int.zero_add];rfl,List.getElem?_map,List.getD_eq_getElem?_getD,List.getElem?_eq_getElem (by first|lia|omega)];rfl)
     have cm:CMul 2 (0+(k:Int)) := .inl ⟨by decide,by decide⟩
     refine ⟨_,rfl,_,rfl, .inl ⟨_,_,rfl,rfl,cm, .inl ⟨_,_,_,_,rfl,rfl,SqL.of g6,b0,?_⟩⟩⟩
     refine ⟨_,rfl,_,rfl, .inl ⟨_,_,rfl,rfl,cm, .inl ⟨_,_,rfl,rfl, .inl ⟨_,_,_,_,rfl,rfl,SqL.of g6,b1, .inl ⟨_,_,rfl,rfl,gn ?_⟩⟩⟩⟩⟩
     obtain ⟨both,hboth⟩:∃both,both=(lay r i).getD (2*k) 0+(lay r i).getD (2*k+1) 0:=⟨_,rfl⟩
     rw [←hboth]
     have hSr:SqL K H6 lr (natI row):=SqL.of hrow
     refine ⟨_,rfl, .inl ⟨rfl,_,hSr⟩,_,rfl,lr,rfl,⟨_,hSr⟩,?_⟩
     refine comp_go (N:=row.length) (fun j ys H'=>H'=H6∧ys=natI ((row.take j).filter fun a=>decide (a≤both))) ⟨rfl,rfl⟩ ?_ ?_
     ·rintro j ys H' Nx hj ⟨rfl,rfl⟩ nx
      have hx:(natI row)[j]? = some (.int row[j]):=by rw [List.getElem?_map,List.getElem?_eq_getElem hj];rfl
      refine ⟨⟨_,_,hSr,hx⟩,Nat.lt_of_le_of_lt (show _≤1000 by rw [List.length_map];refine Nat.le_trans (List.length_filter_le _ _) (by rw [List.length_take];exact Nat.le_trans (Nat.min_le_right _ _) (Nat.le_trans rl (by decide)))) (by decide),?_⟩
      rintro x' H3 ⟨rfl,hy⟩
      have e:=hy _ hSr
      rw [hx] at e;cases e
      refine gn ⟨_,rfl,_,rfl,_,_,rfl,rfl,_,rfl,ite2 (fun c => ?_) (fun c => ?_)⟩
      ·refine ⟨_,rfl,nx _ _ ⟨rfl,?_⟩⟩
       rw [List.take_succ_eq_append_getElem hj]
       exact filt_pos c
      ·refine nx _ _ ⟨rfl,?_⟩
       rw [List.take_succ_eq_append_getElem hj]
       exact filt_neg c
     rintro ys H' ⟨rfl,rfl⟩
     refine ⟨⟨_,hSr,by rw [List.length_map];exact Nat.le_refl _⟩,fun pf hpf => ?_⟩
     rw [List.take_length]
     obtain ⟨H7,n7⟩:∃H7,New H' pf (.lst (natI (row.filter fun a=>decide (a≤both)))) H7:=⟨_,hpf,rfl⟩
     rw [←n7.eq]
     refine ⟨_,_,rfl, .inl ⟨_,SqL.of n7.at,rfl⟩,_,rfl,?_⟩
     have hr7:=n7.same _ _ hrow
     have bl:=below_le both row
     have eb:(natI (row.filter fun a=>decide (a≤both))).length=below both row:=List.length_map _
     rw [eb]
     refine ⟨lr,_,_,_,rfl,rfl,hr7,by first|lia|omega,by rw [List.length_map]; (first|lia|omega),Nat.lt_of_lt_of_le (show _<1000 by rw [List.length_map]; (first|lia|omega)) (by decide),fun H8 c8 => ?_⟩
     refine ⟨insI both row,_,_,rfl,?_,?_,ins_sort rw',fun a o h e => ?_⟩
     ·rw [c8.at,Int.toNat_natCast]
      unfold insI natI
      rw [List.map_append,List.map_cons,List.map_take,List.map_drop]
     ·have hp:k<(pairS (lay r i)).length:=by rw [pairS_len];exact hk
      have e:=pairS_get (lay r i) k hk
      rw [List.getElem?_eq_getElem hp, ←hboth] at e
      rw [List.take_succ_eq_append_getElem hp,Option.some.inj e, ←List.append_assoc]
      exact (ins_perm _ _).trans ((List.Perm.cons _ rp).trans (List.perm_append_singleton _ _).symm)
     ·rw [c8.ne h]
      exact n7.same _ _ (kp a o h e)
    ·intro σ H6 hz_
     refine Elim.el hz_ _ ?_
     clear hz_
     rintro row z10 z11 rfl hrow rp rw' kp
     refine nx _ _ ⟨row,_,_,rfl,hrow,?_,rw',kp⟩
     rw [List.take_of_length_le (by rw [pairS_len]; (first|lia|omega))] at rp
     exact rp
   ·intro σ H6 hz_
    refine Elim.el hz_ _ ?_
    clear hz_
    rintro row z10 z11 rfl hrow rp rw' kp
    have e:=srt_one rp rw'
    have hlf6:=kp _ _ (Ne.symm lrlf) hlf5
    refine ⟨_,rfl, .inl ⟨rfl,_,SqL.of hlf6⟩,_,rfl,lf,_,_,rfl,rfl,hlf6,Nat.lt_of_lt_of_le (show _<1000 by first|lia|omega) (by decide),fun H7 c7 => ?_⟩
    have k7:∀a o,a≠lf→a≠lr→H4 a=some o→H7 a=some o:=fun a o h1 h2 e=>by
     rw [c7.ne h1]
     exact kp a o h2 (n5.same _ _ e)
    refine ⟨as++[lr],_,_,_,_,_,_,_,_,rfl,by rw [List.length_append,al];rfl,by rw [c7.at,List.map_append];rfl,fun a o e=>k7 a o (ne_of_none e n3.nn) (ne_of_none (sm4 _ _ e) n5.nn) (sm4 _ _ e),fun j a ej => ?_⟩
    by_cases hj:j<as.length
    ·rw [List.getElem?_append_left hj] at ej
     refine Elim.el (has j a ej) _ ?_
     rintro h1 h2 h3
     exact ⟨k7 a _ h2 (ne_of_none h1 n5.nn) h1,h2,h3⟩
    ·have:j=i+1:=by
      have:=(List.getElem?_eq_some_iff.mp ej).1
      simp at this; (first|lia|omega)
     subst this
     rw [List.getElem?_append_right (by first|lia|omega),al,Nat.sub_self] at ej
     cases ej
     refine ⟨?_,lrlf,?_⟩
     ·rw [c7.ne lrlf,hrow,e]
      rfl
     ·cases z:H lr with
      | none=>rfl
      | some o=>have:=sm4 _ _ (sm2 _ _ z);rw [n5.nn] at this;cases this
  ·intro σ H4 hz_
   refine Elim.el hz_ _ ?_
   clear hz_
   rintro as y3 y4 y5 y7 y8 y9 y10 y11 rfl al hlf sm4 has
   exact nx _ _ ⟨as,_,_,_,_,_,_,_,_,rfl,by first|lia|omega,hlf,sm4,has⟩
 ·intro σ H4 hz_
  refine Elim.el hz_ _ ?_
  clear hz_
  rintro as y3 y4 y5 y7 y8 y9 y10 y11 rfl al hlf sm4 has
  have hlf0:H lf=none:=by
   cases z:H lf with
   | none=>rfl
   | some o=>have:=sm2 _ _ z;rw [n3.nn] at this;cases this
  refine ⟨_,rfl,q lf (as.map V.ref) _ (sm2.trans sm4) (news_of hlf0 hlf) (Dens.of_get ?_ fun j d v hd hv => ?_)⟩
  ·rw [List.length_map,List.length_map,layN_len,al]
  ·rw [List.getElem?_map] at hd hv
   cases ea:as[j]? with
   | none=>rw [ea] at hv;cases hv
   | some a'=>
    rw [ea] at hv;cases hv
    have hj:=(List.getElem?_eq_some_iff.mp ea).1
    rw [layN_get (by first|lia|omega)] at hd
    cases hd
    refine Elim.el (has j a' ea) _ ?_
    rintro h1 _ h3
    exact row_den (SqL.of (news_of h3 h1))
def spLd (K:PySem.W.Frag):Sp:=fun vs H Q _=>Ex3 fun (vu:V) (us:List (Str×Int)) (most:Nat)=>vs=[vu, .int (most:Nat)]∧Den K H (usesD us) vu∧us.length≤48∧1≤most∧most≤30 ∧
 ∀(v:V) (H':Hp),Same H H'→Den K H' (rowsD (layN (srtI (us.map (·.2))) most)) v→Q v H'
theorem spLd_of {vs:List V} {H:Hp} {Q:VK} {E:XK} (h:spLd K vs H Q E):spLl K vs H Q E:=by
 obtain ⟨vu,us,most,e,h1,h2,h3,h4,q⟩:=h
 exact ⟨vu,us,most,e,h1,h2,h3,h4,fun l vs H' sm hl hd=>q _ H' sm (Den.list (SqL.of (news_same _ _ _ _ hl)) (hd.same (news_same _ _)))⟩
end
end Z
namespace Z
open PySem L2
def spLe (K:PySem.W.Frag):Sp:=fun vs H Q _=>Ex3 fun (vu:V) (us:List (Str×Int)) (most:Nat)=>vs=[vu, .int (most:Nat)]∧Den K H (usesD us) vu∧us.length≤48∧us≠[]∧1≤most∧most≤30 ∧
 ∀(H':Hp),Same H H'→Q (.int (sumBy (lay (srtI (us.map (·.2))) (most-1)) us.length)) H'
section
variable {P:Program} {w:World} {K:PySem.W.Frag} {mg:Str→Option Value} {base:Heap} {f:Addr} {fd:FuncData}
theorem sc_law_least:FnScope ["_law_uses_here", "_law_most"] ["_law_uses_here", "_law_most"] (defScope (top i_law_least)):=⟨rfl,rfl,rfl,by decide +kernel,rfl,by decide +kernel,by decide +kernel⟩
theorem ok_le (F:Fun K "_law_least" "_law_least" (top i_law_least) f fd) (T:Nm mg) (f_law_layers:Fn P w K mg base 1 "_law_layers" ["_law_uses_here", "_law_most"] (spLd K)):FnOk P w K mg base CX0 2 f fd ["_law_uses_here", "_law_most"] (spLe K):=by
 refine F.ok sc_law_least (fun vs H Q E h => ?_) (fun cdv A outer s H vs Q E hr h => ?_)
 ·obtain ⟨vu,us,most,rfl,_⟩:=h
  rfl
 obtain ⟨vu,us,most,rfl,hu,ul,une,m1,m2,q⟩:=h
 have hu6:=hr.units
 refine ⟨_,(pss_cons (ps_if (pt_cmpR (eqK K hu6) (pe_callB (lenK K) rfl T.n_len (by rfl) (pa_cons (pv 0) pa_nil)) pe_int (nomark _)) (pss_one (ps_ret (pe_ix (ixK K) (pe_ix (ixK K) (pv 0) pe_int (fun _ _=>rfl)) pe_int (fun _ _=>rfl)))) pss_nil)
  (pss_one (ps_ret (pe_callB (sumK K rfl) rfl T.n_sum (by rfl) (pa_cons (pe_slice (slN K) (pe_ix (ixK K) (pe_fn (f_law_layers.mono (by first|decide|exact Nat.le_refl _|(first|lia|omega))) hr rfl (pa_cons (pv 0) (pa_cons (pv 1) pa_nil))) (pe_un un_neg pe_int) (fun _ _=>rfl)) po_none (po_some (pe_op op_sub (pe_op mulN pe_int (pe_callB (lenK K) rfl T.n_len (by rfl) (pa_cons (pv 0) pa_nil))) pe_int))) pa_nil))))),?_⟩
 obtain ⟨lu,uvs,rfl,hSu,hdu⟩:Ex2 fun lu uvs=>vu = .ref lu∧SqL K H lu uvs∧Dens K H (us.map useE) uvs:=by
  have hu':=hu
  unfold usesD at hu'
  unfold Den at hu'
  exact hu'
 have huv:uvs.length=us.length:=by rw [hdu.len,List.length_map]
 refine ⟨_,rfl,_,_,rfl, .inl ⟨_,hSu,rfl⟩, .inl ⟨rfl,_,rfl,ite2 (fun c1 => ?_) (fun c1 => ?_)⟩⟩
 ·have e1:us.length=1:=by
   have:=of_decide_eq_true c1
   injection this with this
   (first|lia|omega)
  obtain ⟨u,rfl⟩:∃u,us=[u]:=List.length_eq_one_iff.mp e1
  obtain ⟨x,hx,dx⟩:=hdu.get (i:=0) (d:=useE u) rfl
  refine Elim.el (dx.pairI) _ ?_
  rintro pa rfl hT
  have z:=q H (Same.refl _)
  have e:srtI ([u].map (·.2))=[u.2]:=srt_single u.2
  rw [e,lay_single] at z
  exact ⟨_,rfl, .inl ⟨lu,_,0, .ref pa,rfl,rfl,hSu,at_nat (by decide) hx, .inr (.inl ⟨pa,_,1,_,rfl,rfl,hT,rfl,z⟩)⟩⟩
 ·have e1:us.length≠1:=fun z=>c1 (by rw [huv,z];rfl)
  refine ⟨_,rfl,_,rfl,_,us,most,rfl,hu,ul,m1,m2,fun vd H1 sm1 dd => ?_⟩
  obtain ⟨l,vs,rfl,hS,hds⟩:Ex2 fun l vs=>vd = .ref l∧SqL K H1 l vs∧Dens K H1 ((layN (srtI (us.map (·.2))) most).map rowD) vs:=by
   unfold rowsD at dd
   unfold Den at dd
   exact dd
  have hl:vs.length=most:=by rw [hds.len,List.length_map,layN_len]
  obtain ⟨x,hx,dx⟩:=hds.get (i:=most-1) (d:=rowD (lay (srtI (us.map (·.2))) (most-1))) (by rw [List.getElem?_map,layN_get (by first|lia|omega)];rfl)
  refine Elim.el (den_row dx) _ ?_
  rintro al rfl hSl
  have hSu1:=sm1.seq hSu
  refine ⟨_,rfl, .inl ⟨l,_,_, .ref al,rfl,rfl,hS,at_last (by rw [hl];exact hx),?_⟩⟩
  refine ⟨_,rfl,_,_,rfl, .inl ⟨_,hSu1,rfl⟩, .inl ⟨_,_,rfl,rfl, .inl ⟨by decide,by decide⟩,_,_,rfl,rfl,_,rfl, .inl ⟨al,_,rfl,hSl,fun p H2 n2 => ?_⟩⟩⟩
  have:0<us.length:=List.length_pos_iff.mpr une
  have e2:((2:Int)*(uvs.length:Nat)-2)=((2*us.length-2:Nat):Int):=by (first|lia|omega)
  rw [e2,cut_to] at n2
  refine ⟨p,(lay (srtI (us.map (·.2))) (most-1)).take (2*us.length-2),rfl,SqL.of (by rw [n2.at];unfold natI;rw [List.map_take]),?_⟩
  have z:=q H2 (sm1.trans n2.same)
  unfold sumBy at z
  rw [if_neg e1] at z
  exact z
end
end Z
namespace Z
open PySem L2
def spSame (K:PySem.W.Frag) (n:Nat):Sp:=fun vs H Q _=>Ex3 fun (v1 v2:V) (d:PyData)=>vs=[v1,v2]∧Den K H d v1∧Den K H d v2∧d.depth<n∧d.weight≤1000000∧∀H',Same H H'→Q (.bl true) H'
section
variable {P:Program} {w:World} {K:PySem.W.Frag} {mg:Str→Option Value} {base:Heap} {f:Addr} {fd:FuncData}
theorem sc_law_same:FnScope ["_law_found", "_law_due"] ["_law_found", "_law_due"] (defScope (top i_law_same)):=⟨rfl,rfl,rfl,by decide +kernel,rfl,by decide +kernel,by decide +kernel⟩
theorem ok_same {n:Nat} (F:Fun K "_law_same" "_law_same" (top i_law_same) f fd) (T:Nm mg) (f_law_same:Fn P w K mg base n "_law_same" ["_law_found", "_law_due"] (spSame K n)):FnOk P w K mg base CX0 (n+1) f fd ["_law_found", "_law_due"] (spSame K (n+1)):=by
 refine F.ok sc_law_same (fun vs H Q E h => ?_) (fun cdv A outer s H vs Q E hr h => ?_)
 ·obtain ⟨v1,v2,d,rfl,_⟩:=h
  rfl
 obtain ⟨v1,v2,d,rfl,d1,d2,hn,hw,q⟩:=h
 have hu6:=hr.units
 refine ⟨_,(pss_cons (ps_if (pt_cmpR g_is (pv 1) pe_non (nomark _)) (pss_one (ps_ret (pe_cmpR g_is (pv 0) pe_non (nomark _)))) pss_nil)
  (pss_cons (ps_if (pt_val (pe_callB (isiK K) rfl T.n_isinstance (by rfl) (pa_cons (pv 1) (pa_cons (pe_bltn rfl T.n_bool (by rfl) (v := .ty "bool") rfl) pa_nil)))) (pss_one (ps_ret (pe_and (pe_callB (isiK K) rfl T.n_isinstance (by rfl) (pa_cons (pv 0) (pa_cons (pe_bltn rfl T.n_bool (by rfl) (v := .ty "bool") rfl) pa_nil))) (pe_one (pe_cmpR (eqK K hu6) (pv 0) (pv 1) (nomark _)))))) pss_nil)
  (pss_cons (ps_if (pt_val (pe_callB (isiTK K) rfl T.n_isinstance (by rfl) (pa_cons (pv 1) (pa_cons (tupN (pa_cons (pe_bltn rfl T.n_list (by rfl) (v := .ty "list") rfl) (pa_cons (pe_bltn rfl T.n_tuple (by rfl) (v := .ty "tuple") rfl) pa_nil))) pa_nil)))) (pss_cons (ps_if (PW.pt (pw_or (pt_cmpR (neK K hu6) (pe_callB (isiK K) rfl T.n_isinstance (by rfl) (pa_cons (pv 0) (pa_cons (pe_bltn rfl T.n_list (by rfl) (v := .ty "list") rfl) pa_nil))) (pe_callB (isiK K) rfl T.n_isinstance (by rfl) (pa_cons (pv 1) (pa_cons (pe_bltn rfl T.n_list (by rfl) (v := .ty "list") rfl) pa_nil))) (nomark _)) (pw_or1 (pt_cmpR (neK K hu6) (pe_callB (isiK K) rfl T.n_isinstance (by rfl) (pa_cons (pv 0) (pa_cons (pe_bltn rfl T.n_tuple (by rfl) (v := .ty "tuple") rfl) pa_nil))) (pe_callB (isiK K) rfl T.n_isinstance (by rfl) (pa_cons (pv 1) (pa_cons (pe_bltn rfl T.n_tuple (by rfl) (v := .ty "tuple") rfl) pa_nil))) (nomark _))))) (pss_one (ps_ret pe_bl)) pss_nil)
  (pss_one (ps_ret (pe_and (pe_cmpR (eqK K hu6) (pe_callB (lenK K) rfl T.n_len (by rfl) (pa_cons (pv 0) pa_nil)) (pe_callB (lenK K) rfl T.n_len (by rfl) (pa_cons (pv 1) pa_nil)) (nomark _)) (pe_one (pe_callB (allK K rfl) rfl T.n_all (by rfl) (pa_cons (pe_lcomp rfl (comp_ok (Nc:=["_law_one", "_law_other"]) (Fc:=[]) (js:=[])) (pi_zipK K rfl T.n_zip (pa_cons (pv 0) (pa_cons (pv 1) pa_nil))) (gk_tup (gks_cons (gk_name (i:=0) (n:=2) (by decide)) (gks_cons (gk_name (i:=1) (n:=2) (by decide)) gks_nil gm_name gms_nil) gm_name (gms_cons gm_name gms_nil))) (fun _ _ _ _ _=>(tupK K 2 rfl (pgs_cons (pg_name (i:=0) (show (["_law_one", "_law_other"]:List Str).Nodup by decide +kernel) rfl (Or.inl rfl)) (pgs_cons (pg_name (i:=1) (show (["_law_one", "_law_other"]:List Str).Nodup by decide +kernel) rfl (Or.inl rfl)) pgs_nil)))) (fun _ _ _ _ _=>pts_nil) (fun _ _ _ _ _=>(pe_fn (f_law_same.mono (by first|decide|exact Nat.le_refl _|(first|lia|omega))) hr rfl (pa_cons (pv 0) (pa_cons (pv 1) pa_nil))))) pa_nil))))))) pss_nil)
  (pss_cons (ps_if (pt_val (pe_callB (isiK K) rfl T.n_isinstance (by rfl) (pa_cons (pv 1) (pa_cons (pe_bltn rfl T.n_str (by rfl) (v := .ty "str") rfl) pa_nil)))) (pss_one (ps_ret (pe_and (pe_callB (isiK K) rfl T.n_isinstance (by rfl) (pa_cons (pv 0) (pa_cons (pe_bltn rfl T.n_str (by rfl) (v := .ty "str") rfl) pa_nil))) (pe_one (pe_cmpR (eqK K hu6) (pv 0) (pv 1) (nomark _)))))) pss_nil)
  (pss_one (ps_ret (pe_and (pe_callB (isiK K) rfl T.n_isinstance (by rfl) (pa_cons (pv 0) (pa_cons (pe_bltn rfl T.n_int (by rfl) (v := .ty "int") rfl) pa_nil))) (pe_and (pe_not (pe_callB (isiK K) rfl T.n_isinstance (by rfl) (pa_cons (pv 0) (pa_cons (pe_bltn rfl T.n_bool (by rfl) (v := .ty "bool") rfl) pa_nil)))) (pe_one (pe_cmpR (eqK K hu6) (pv 0) (pv 1) (nomark _))))))))))),?_⟩
 refine ⟨_,rfl, .inl ⟨rfl,_,rfl,?_⟩⟩
 cases d with
 | none=>
  unfold Den at d1 d2
  subst d1 d2
  exact iteT ⟨_,rfl, .inl ⟨rfl,q H (Same.refl _)⟩⟩
 | bool b=>
  have d1':=d1
  have d2':=d2
  unfold Den at d1' d2'
  subst d1' d2'
  refine iteF ⟨_,rfl, .inl ⟨_, "bool", .bool b,true,rfl,d2,rfl,_,rfl,iteT ?_⟩⟩
  refine ⟨_,rfl, .inl ⟨_, "bool", .bool b,true,rfl,d1,rfl,_,rfl,iteT ⟨_,rfl,_,rfl, .inl ⟨rfl,?_⟩⟩⟩⟩
  rw [decide_eq_true rfl]
  exact q H (Same.refl _)
 | int i=>
  have d1':=d1
  have d2':=d2
  unfold Den at d1' d2'
  subst d1' d2'
  refine iteF ⟨_,rfl, .inl ⟨_, "bool", .int i,false,rfl,d2,rfl,_,rfl,iteF ?_⟩⟩
  refine ⟨_,rfl,by show 2≤sizeLine;decide,fun p H1 n1=>⟨_,p,["list", "tuple"], .int i,false,rfl,n1.at,d2,rfl,_,rfl,iteF ?_⟩⟩
  refine ⟨_,rfl, .inl ⟨_, "str", .int i,false,rfl,d2,rfl,_,rfl,iteF ?_⟩⟩
  refine ⟨_,rfl, .inl ⟨_, "int", .int i,true,rfl,d1,rfl,_,rfl,iteT ⟨_,rfl, .inl ⟨_, "bool", .int i,false,rfl,d1,rfl,_,rfl,_,rfl,iteT ⟨_,rfl,_,rfl, .inl ⟨rfl,?_⟩⟩⟩⟩⟩⟩
  rw [decide_eq_true rfl]
  exact q H1 n1.same
 | str x=>
  have d1':=d1
  have d2':=d2
  unfold Den at d1' d2'
  subst d1' d2'
  refine iteF ⟨_,rfl, .inl ⟨_, "bool", .str x,false,rfl,d2,rfl,_,rfl,iteF ?_⟩⟩
  refine ⟨_,rfl,by show 2≤sizeLine;decide,fun p H1 n1=>⟨_,p,["list", "tuple"], .str x,false,rfl,n1.at,d2,rfl,_,rfl,iteF ?_⟩⟩
  refine ⟨_,rfl, .inl ⟨_, "str", .str x,true,rfl,d2,rfl,_,rfl,iteT ?_⟩⟩
  refine ⟨_,rfl, .inl ⟨_, "str", .str x,true,rfl,d1,rfl,_,rfl,iteT ⟨_,rfl,_,rfl, .inl ⟨rfl,?_⟩⟩⟩⟩
  rw [decide_eq_true rfl]
  exact q H1 n1.same
 | list ds=>
  have e1:=d1
  have e2:=d2
  unfold Den at e1 e2
  obtain ⟨a1,vs1,rfl,s1,ds1⟩:=e1
  obtain ⟨a2,vs2,rfl,s2,ds2⟩:=e2
  simp only [PyData.depth] at hn
  simp only [PyData.weight] at hw
  have hlw:=len_weight ds
  refine iteF ⟨_,rfl, .inl ⟨_, "bool", .list ds,false,rfl,d2,rfl,_,rfl,iteF ?_⟩⟩
  refine ⟨_,rfl,by show 2≤sizeLine;decide,fun p H1 n1=>⟨_,p,["list", "tuple"], .list ds,true,rfl,n1.at,d2.same n1.same,rfl,_,rfl,iteT ?_⟩⟩
  have b1:=d1.same n1.same
  have b2:=d2.same n1.same
  refine ⟨_,rfl, .inl ⟨_, "list", .list ds,true,rfl,b1,rfl,_,rfl, .inl ⟨_, "list", .list ds,true,rfl,b2,rfl, .inl ⟨rfl,_,rfl,iteF ?_⟩⟩⟩⟩
  refine ⟨_,rfl, .inl ⟨_, "tuple", .list ds,false,rfl,b1,rfl,_,rfl, .inl ⟨_, "tuple", .list ds,false,rfl,b2,rfl, .inl ⟨rfl,_,rfl,iteF ?_⟩⟩⟩⟩
  refine ⟨_,rfl,_,_,rfl, .inl ⟨vs1,n1.same.seq s1,rfl⟩,_,rfl,_,_,rfl, .inl ⟨vs2,n1.same.seq s2,rfl⟩, .inl ⟨rfl,_,rfl,?_⟩⟩
  rw [decide_eq_true (show V.int (vs1.length:Nat)=V.int (vs2.length:Nat) by rw [ds1.len,ds2.len])]
  refine iteT ⟨_,rfl,_,rfl,false,false,a1,a2,rfl,⟨_,n1.same.seq s1⟩,⟨_,n1.same.seq s2⟩,?_⟩
  refine comp_go (N:=ds.length) (fun i ys H'=>Same H1 H'∧ys=(List.replicate i true).map V.bl) ⟨Same.refl _,rfl⟩ ?_ ?_
  ·rintro i ys H2 Nx hi ⟨sm,rfl⟩ nx
   have sm2:=n1.same.trans sm
   obtain ⟨x,hx,dx⟩:=ds1.get (i:=i) (d:=ds[i]) (List.getElem?_eq_getElem hi)
   obtain ⟨y,hy,dy⟩:=ds2.get (i:=i) (d:=ds[i]) (List.getElem?_eq_getElem hi)
   have q1:SqK false K H2 a1 vs1:=sm2.seq s1
   have q2:SqK false K H2 a2 vs2:=sm2.seq s2
   refine ⟨⟨_,_,_,_,q1,q2,hx,hy⟩,by rw [List.length_map,List.length_replicate];exact Nat.lt_of_lt_of_le (show i<10000000 by first|lia|omega) (by decide),?_⟩
   rintro x' H3 ⟨T',rfl,hN⟩
   have n3:=hN _ _ _ _ q1 q2 hx hy
   refine ⟨T',_,rfl,SqT.of n3.at,rfl,_,_,rfl,_,_,rfl,rfl,?_⟩
   have sm3:=sm2.trans n3.same
   refine ⟨_,rfl,_,rfl,x,y,ds[i],rfl,dx.same sm3,dy.same sm3,?_,?_,fun H4 sm4=>nx _ _ ⟨sm.trans (n3.same.trans sm4),?_⟩⟩
   ·have:=depth_at (n:=n-1) (by first|lia|omega) (List.getElem_mem hi)
    (first|lia|omega)
   ·exact weight_at hw (List.getElem_mem hi)
   ·rw [List.replicate_succ',List.map_append];rfl
  ·rintro ys H2 ⟨sm,rfl⟩
   have sm2:=n1.same.trans sm
   have q1:SqK false K H2 a1 vs1:=sm2.seq s1
   have q2:SqK false K H2 a2 vs2:=sm2.seq s2
   refine ⟨⟨_,_,q1,q2, .inl (by rw [ds1.len];exact Nat.le_refl _)⟩,fun p2 hp2 => ?_⟩
   refine ⟨p2,List.replicate ds.length true,rfl,SqL.of upd_same,?_⟩
   rw [all_true]
   exact q _ (sm2.trans (same_new hp2 _))
 | tuple ds=>
  have e1:=d1
  have e2:=d2
  unfold Den at e1 e2
  obtain ⟨a1,vs1,rfl,s1,ds1⟩:=e1
  obtain ⟨a2,vs2,rfl,s2,ds2⟩:=e2
  simp only [PyData.depth] at hn
  simp only [PyData.weight] at hw
  have hlw:=len_weight ds
  refine iteF ⟨_,rfl, .inl ⟨_, "bool", .tuple ds,false,rfl,d2,rfl,_,rfl,iteF ?_⟩⟩
  refine ⟨_,rfl,by show 2≤sizeLine;decide,fun p H1 n1=>⟨_,p,["list", "tuple"], .tuple ds,true,rfl,n1.at,d2.same n1.same,rfl,_,rfl,iteT ?_⟩⟩
  have b1:=d1.same n1.same
  have b2:=d2.same n1.same
  refine ⟨_,rfl, .inl ⟨_, "list", .tuple ds,false,rfl,b1,rfl,_,rfl, .inl ⟨_, "list", .tuple ds,false,rfl,b2,rfl, .inl ⟨rfl,_,rfl,iteF ?_⟩⟩⟩⟩
  refine ⟨_,rfl, .inl ⟨_, "tuple", .tuple ds,true,rfl,b1,rfl,_,rfl, .inl ⟨_, "tuple", .tuple ds,true,rfl,b2,rfl, .inl ⟨rfl,_,rfl,iteF ?_⟩⟩⟩⟩
  refine ⟨_,rfl,_,_,rfl, .inr ⟨vs1,n1.same.seqT s1,rfl⟩,_,rfl,_,_,rfl, .inr ⟨vs2,n1.same.seqT s2,rfl⟩, .inl ⟨rfl,_,rfl,?_⟩⟩
  rw [decide_eq_true (show V.int (vs1.length:Nat)=V.int (vs2.length:Nat) by rw [ds1.len,ds2.len])]
  refine iteT ⟨_,rfl,_,rfl,true,true,a1,a2,rfl,⟨_,n1.same.seqT s1⟩,⟨_,n1.same.seqT s2⟩,?_⟩
  refine comp_go (N:=ds.length) (fun i ys H'=>Same H1 H'∧ys=(List.replicate i true).map V.bl) ⟨Same.refl _,rfl⟩ ?_ ?_
  ·rintro i ys H2 Nx hi ⟨sm,rfl⟩ nx
   have sm2:=n1.same.trans sm
   obtain ⟨x,hx,dx⟩:=ds1.get (i:=i) (d:=ds[i]) (List.getElem?_eq_getElem hi)
   obtain ⟨y,hy,dy⟩:=ds2.get (i:=i) (d:=ds[i]) (List.getElem?_eq_getElem hi)
   have q1:SqK true K H2 a1 vs1:=sm2.seqT s1
   have q2:SqK true K H2 a2 vs2:=sm2.seqT s2
   refine ⟨⟨_,_,_,_,q1,q2,hx,hy⟩,by rw [List.length_map,List.length_replicate];exact Nat.lt_of_lt_of_le (show i<10000000 by first|lia|omega) (by decide),?_⟩
   rintro x' H3 ⟨T',rfl,hN⟩
   have n3:=hN _ _ _ _ q1 q2 hx hy
   refine ⟨T',_,rfl,SqT.of n3.at,rfl,_,_,rfl,_,_,rfl,rfl,?_⟩
   have sm3:=sm2.trans n3.same
   refine ⟨_,rfl,_,rfl,x,y,ds[i],rfl,dx.same sm3,dy.same sm3,?_,?_,fun H4 sm4=>nx _ _ ⟨sm.trans (n3.same.trans sm4),?_⟩⟩
   ·have:=depth_at (n:=n-1) (by first|lia|omega) (List.getElem_mem hi)
    (first|lia|omega)
   ·exact weight_at hw (List.getElem_mem hi)
   ·rw [List.replicate_succ',List.map_append];rfl
  ·rintro ys H2 ⟨sm,rfl⟩
   have sm2:=n1.same.trans sm
   have q1:SqK true K H2 a1 vs1:=sm2.seqT s1
   have q2:SqK true K H2 a2 vs2:=sm2.seqT s2
   refine ⟨⟨_,_,q1,q2, .inl (by rw [ds1.len];exact Nat.le_refl _)⟩,fun p2 hp2 => ?_⟩
   refine ⟨p2,List.replicate ds.length true,rfl,SqL.of upd_same,?_⟩
   rw [all_true]
   exact q _ (sm2.trans (same_new hp2 _))
 | dict _=>unfold Den at d1;exact d1.elim
end
end Z
namespace Z
open PySem L2 PyProof.Rows
def LayAt (H H':Hp) (r:List Int) (most:Nat) (l:Addr):Prop:=∃as:List Addr,(H l=none∧as.Nodup)∧H' l=some (.lst (as.map V.ref))∧as.length=most∧∀i a,as[i]? = some a→H a=none∧H' a=some (.lst (natI (lay r i)))∧a≠l
def spLyF (K:PySem.W.Frag):Sp:=fun vs H Q _=>Ex3 fun (vu:V) (us:List (Str×Int)) (most:Nat)=>vs=[vu, .int (most:Nat)]∧Den K H (usesD us) vu∧1≤most∧most≤30∧us≠[]∧us.length≤48∧us.length≤2 ^ most ∧
 ∀(l:Addr) (H':Hp),Same H H'→LayAt H H' (srtI (us.map (·.2))) most l→Q (.ref l) H'
theorem nn_of {H H':Hp} {a:Addr} (s:Same H H') (h:H' a=none):H a=none:=by
 cases z:H a with
 | none=>rfl
 | some o=>have:=s _ _ z;rw [h] at this;cases this
section
variable {P:Program} {w:World} {K:PySem.W.Frag} {mg:Str→Option Value} {base:Heap} {f:Addr} {fd:FuncData} {C:Addr} {bmB:List Value} {B newId initId:String}
theorem sc_layers_of:FnScope ["uses", "most", "rising", "layers"] ["uses", "most"] (defScope (top i_layers_of)):=⟨rfl,rfl,rfl,by decide +kernel,rfl,by decide +kernel,by decide +kernel⟩
theorem ok_lyf (F:Fun K "layers_of" "layers_of" (top i_layers_of) f fd) (T:Nm mg) (n_sorted:mg "sorted" = none) (f_two_to:Fn P w K mg base 1 "two_to" ["power"] spTwo) (f_next_layer:Fn P w K mg base 1 "next_layer" ["rising", "layer"] (spNl K)):FnOk P w K mg base CX0 2 f fd ["uses", "most"] (spLyF K):=by
 refine F.ok sc_layers_of (fun vs H Q E h => ?_) (fun cdv A outer s H vs Q E hr h => ?_)
 ·obtain ⟨vu,us,most,rfl,_⟩:=h
  rfl
 obtain ⟨vu,us,most,rfl,hu,m1,m2,une,ul,fit,q⟩:=h
 have hu6:=hr.units
 refine ⟨_,(pss_cons (ps_if (pt_cmpR op_gt (pe_callB (lenK K) rfl T.n_len (by rfl) (pa_cons (pv 0) pa_nil)) (pe_fn (f_two_to.mono (by first|decide|exact Nat.le_refl _|(first|lia|omega))) hr rfl (pa_cons (pv 1) pa_nil)) (nomark _)) (pss_one ps_dead) pss_nil)
  (pss_cons (ps_set (i:=2) sc_layers_of.nd rfl (Or.inl rfl) (pe_callB (sortedI K) rfl n_sorted (by rfl) (pa_cons (pe_lcomp rfl (comp_ok (Nc:=["name", "use"]) (Fc:=[]) (js:=[])) (piK K (pv 0)) (gk_tup (gks_cons (gk_name (i:=0) (n:=2) (by decide)) (gks_cons (gk_name (i:=1) (n:=2) (by decide)) gks_nil gm_name gms_nil) gm_name (gms_cons gm_name gms_nil))) (fun _ _ _ _ _=>(tupK K 2 rfl (pgs_cons (pg_name (i:=0) (show (["name", "use"]:List Str).Nodup by decide +kernel) rfl (Or.inl rfl)) (pgs_cons (pg_name (i:=1) (show (["name", "use"]:List Str).Nodup by decide +kernel) rfl (Or.inl rfl)) pgs_nil)))) (fun _ _ _ _ _=>pts_nil) (fun _ _ _ _ _=>(pv 1))) pa_nil)))
  (pss_cons (ps_set (i:=3) sc_layers_of.nd rfl (Or.inl rfl) (lstN (pa_cons (pv 2) pa_nil)))
  (pss_cons (ps_while PassesOwn.never (pt_cmpR op_lt (pe_callB (lenK K) rfl T.n_len (by rfl) (pa_cons (pv 3) pa_nil)) (pv 1) (nomark _)) (pss_one (ps_expr (bmK K PySem.F.plainAttrs_list PySem.F.slot_list_append PySem.F.type_list_append appendN (pv 3) (pa_cons (pe_fn (f_next_layer.mono (by first|decide|exact Nat.le_refl _|(first|lia|omega))) hr rfl (pa_cons (pv 2) (pa_cons (pe_ix (ixK K) (pv 3) (pe_un un_neg pe_int) (fun _ _=>rfl)) pa_nil))) pa_nil)))))
  (pss_one (ps_ret (pv 3))))))),?_⟩
 obtain ⟨lu,uvs,rfl,hSu,hdu⟩:Ex2 fun lu uvs=>vu = .ref lu∧SqL K H lu uvs∧Dens K H (us.map useE) uvs:=by
  unfold usesD at hu
  unfold Den at hu
  exact hu
 have huv:uvs.length=us.length:=by rw [hdu.len,List.length_map]
 refine ⟨_,rfl,_,_,rfl, .inl ⟨_,hSu,rfl⟩,?_⟩
 refine ⟨_,rfl,most,rfl,by first|lia|omega,_,_,rfl,rfl,_,rfl,?_⟩
 have e2:((2:Int) ^ most)=((2 ^ most:Nat):Int):=by simp
 refine ite2 (fun c0 => ?_) (fun c0 => ?_)
 ·have c0:=of_decide_eq_true c0
  rw [e2,huv] at c0
  exact absurd fit (by first|lia|omega)
 refine ⟨_,rfl,lu,rfl,⟨_,hSu⟩,?_⟩
 refine comp_go (N:=us.length) (fun i ys H'=>H'=H∧ys=natI ((us.take i).map (·.2))) ⟨rfl,rfl⟩ ?_ ?_
 ·rintro i ys H' Nx hi ⟨rfl,rfl⟩ nx
  obtain ⟨x,hx,dx⟩:=hdu.get (i:=i) (d:=useE us[i]) (by rw [List.getElem?_map,List.getElem?_eq_getElem hi];rfl)
  refine Elim.el (dx.pairI) _ ?_
  rintro pa rfl hT
  refine ⟨⟨_,_,hSu,hx⟩,Nat.lt_of_le_of_lt (show _≤1000 by rw [List.length_map,List.length_map,List.length_take];exact Nat.le_trans (Nat.min_le_left _ _) (by first|lia|omega)) (by decide),?_⟩
  rintro x' H3 ⟨rfl,hy⟩
  have e:=hy _ hSu
  rw [hx] at e;cases e
  refine ⟨pa,_,rfl,hT,rfl,_,_,rfl,_,_,rfl,rfl,?_⟩
  refine ⟨_,rfl,nx _ _ ⟨rfl,?_⟩⟩
  rw [List.take_succ_eq_append_getElem hi]
  simp only [natI,List.map_append,List.map_cons,List.map_nil]
 rintro ys H' ⟨rfl,rfl⟩
 refine ⟨⟨_,hSu,by rw [huv];exact Nat.le_refl _⟩,fun p2 hp2 => ?_⟩
 rw [List.take_length]
 obtain ⟨H3,n3⟩:∃H3,New H' p2 (.lst (natI (us.map (·.2)))) H3:=⟨_,hp2,rfl⟩
 rw [←n3.eq]
 refine ⟨p2,us.map (·.2),rfl,SqL.of n3.at,by rw [List.length_map]; (first|lia|omega),fun r pr H4 pm pw n4=>gn ?_⟩
 have e:=srt_one pm pw
 rw [←e] at q
 have rl:r.length≤48:=by rw [pm.length_eq,List.length_map];exact ul
 refine ⟨_,rfl,by show 1≤sizeLine;decide,fun pl H5 n5=>gn ?_⟩
 have sm4:=n3.same.trans n4.same
 dsimp only
 refine whileGo (fun m σ H6=>∃as:List Addr, σ=[some (.ref lu),some (.int (most:Nat)),some (.ref pr),some (.ref pl)]∧m=most-as.length∧1≤as.length∧as.length≤most∧H6 pl=some (.lst (as.map V.ref))∧(Same H4 H6∧as.Nodup)∧∀i a,as[i]? = some a→H' a=none∧H6 a=some (.lst (natI (lay r i)))∧a≠pl) ⟨most-1,[pr],rfl,rfl,Nat.le_refl _,m1,n5.at,⟨n5.same,List.nodup_cons.mpr ⟨by simp,List.nodup_nil⟩⟩,fun i a ea => ?_⟩ ?_
 ·have:i=0:=by
   have:=(List.getElem?_eq_some_iff.mp ea).1
   simp at this;exact this
  subst this
  cases ea
  exact ⟨nn_of n3.same n4.nn,n5.same _ _ n4.at,ne_of_none n4.at n5.nn⟩
 ·intro m σ H6 hz_
  refine Elim.el hz_ _ ?_
  clear hz_
  rintro as rfl rfl k1 k2 hpl ⟨sm6,ndA⟩ has
  have vl:(as.map V.ref).length=as.length:=List.length_map _
  refine ⟨_,rfl,_,_,rfl, .inl ⟨_,SqL.of hpl,rfl⟩,_,rfl,_,_,rfl,rfl,_,rfl,ite2 (fun c1 => ?_) (fun c1 => ?_)⟩
  ·have c1:=of_decide_eq_true c1
   refine ⟨fun σ' H2'=>∃m',m'<most-as.length∧∃as:List Addr, σ'=[some (.ref lu),some (.int (most:Nat)),some (.ref pr),some (.ref pl)]∧m'=most-as.length∧1≤as.length∧as.length≤most∧H2' pl=some (.lst (as.map V.ref))∧(Same H4 H2'∧as.Nodup)∧∀i a,as[i]? = some a→H' a=none∧H2' a=some (.lst (natI (lay r i)))∧a≠pl,fun σ' H' h=>h,?_⟩
   have ea:as[as.length-1]? = some (as[as.length-1]'(by first|lia|omega)):=List.getElem?_eq_getElem _
   refine Elim.el (has _ _ ea) _ ?_
   rintro _ g1 g2
   refine ⟨_,rfl, .inl ⟨rfl,_,SqL.of hpl⟩,_,rfl,_,rfl,_,rfl, .inl ⟨pl,_,_,_,rfl,rfl,SqL.of hpl,at_last (by rw [vl,List.getElem?_map,ea];rfl),?_⟩⟩
   refine ⟨pr,_,r,lay r (as.length-1),rfl,sm6 _ _ n4.at,SqL.of g1,by have:=lay_len rl (as.length-1); (first|lia|omega),by have:=lay_len rl (as.length-1); (first|lia|omega),fun pq H7 sm7 hq hq7 => ?_⟩
   have hpl7:=sm7 _ _ hpl
   refine ⟨pl,_,_,rfl,rfl,hpl7,Nat.lt_of_lt_of_le (show _<1000 by first|lia|omega) (by decide),fun H8 c8 => ?_⟩
   have kp:∀a o,a≠pl→H6 a=some o→H8 a=some o:=fun a o h e=>by rw [c8.ne h];exact sm7 _ _ e
   have pqpl:pq≠pl:=Ne.symm (ne_of_none hpl hq)
   refine ⟨most-(as++[pq]).length,?_,as++[pq],rfl,rfl,by simp,by rw [List.length_append,List.length_singleton]; (first|lia|omega),by rw [c8.at,List.map_append];rfl,⟨fun a o e=>kp a o (ne_of_none e n5.nn) (sm6 _ _ e),List.nodup_append.mpr ⟨ndA,List.nodup_cons.mpr ⟨by simp,List.nodup_nil⟩,fun x hx y hy e => ?_⟩⟩,fun i a ei => ?_⟩
   ·rw [List.length_append,List.length_singleton]; (first|lia|omega)
   ·obtain ⟨i,hi⟩:=List.mem_iff_getElem?.mp hx
    obtain ⟨_,h1,_⟩:=has i x hi
    rw [e,List.mem_singleton.mp hy,hq] at h1
    cases h1
   ·by_cases hi:i<as.length
    ·rw [List.getElem?_append_left hi] at ei
     refine Elim.el (has i a ei) _ ?_
     rintro h0 h1 h2
     exact ⟨h0,kp a _ h2 h1,h2⟩
    ·have:i=as.length:=by
      have:=(List.getElem?_eq_some_iff.mp ei).1
      simp at this; (first|lia|omega)
     subst this
     rw [List.getElem?_append_right (Nat.le_refl _),Nat.sub_self] at ei
     cases ei
     refine ⟨nn_of (sm4.trans sm6) hq,?_,pqpl⟩
     rw [c8.ne pqpl,hq7]
     have:lay r as.length=nlI r (lay r (as.length-1)):=by
      obtain ⟨k,hk⟩:∃k,as.length=k+1:=⟨as.length-1,by first|lia|omega⟩
      rw [hk]
      rfl
     rw [this]
  ·have ek:as.length=most:=by
    have:¬((((as.map V.ref).length:Nat):Int)<(most:Nat)):=fun z=>c1 (decide_eq_true z)
    (first|lia|omega)
   refine ⟨_,rfl,q _ _ (sm4.trans sm6) ⟨as,⟨nn_of sm4 n5.nn,ndA⟩,hpl,ek,has⟩⟩
def spLsF (K:PySem.W.Frag):Sp:=fun vs H Q _=>Ex3 fun (vu:V) (us:List (Str×Int)) (most:Nat)=>vs=[vu, .int (most:Nat)]∧Den K H (usesD us) vu∧1≤most∧most≤30∧us≠[]∧us.length≤48∧us.length≤2 ^ most ∧
 ∀(H':Hp),Same H H'→Q (.int (sumBy (lay (srtI (us.map (·.2))) (most-1)) us.length)) H'
theorem sc_least_sum:FnScope ["uses", "most"] ["uses", "most"] (defScope (top i_least_sum)):=⟨rfl,rfl,rfl,by decide +kernel,rfl,by decide +kernel,by decide +kernel⟩
theorem ok_lsf (F:Fun K "least_sum" "least_sum" (top i_least_sum) f fd) (T:Nm mg) (f_layers_of:Fn P w K mg base 2 "layers_of" ["uses", "most"] (spLyF K)) (f_sum_by:Fn P w K mg base 1 "sum_by" ["last_layer", "many"] (spSb K)):FnOk P w K mg base CX0 3 f fd ["uses", "most"] (spLsF K):=by
 refine F.ok sc_least_sum (fun vs H Q E h => ?_) (fun cdv A outer s H vs Q E hr h => ?_)
 ·obtain ⟨vu,us,most,rfl,_⟩:=h
  rfl
 obtain ⟨vu,us,most,rfl,hu,m1,m2,une,ul,fit,q⟩:=h
 have hu6:=hr.units
 refine ⟨_,(pss_one (ps_ret (pe_fn (f_sum_by.mono (by first|decide|exact Nat.le_refl _|(first|lia|omega))) hr rfl (pa_cons (pe_ix (ixK K) (pe_fn (f_layers_of.mono (by first|decide|exact Nat.le_refl _|(first|lia|omega))) hr rfl (pa_cons (pv 0) (pa_cons (pv 1) pa_nil))) (pe_un un_neg pe_int) (fun _ _=>rfl)) (pa_cons (pe_callB (lenK K) rfl T.n_len (by rfl) (pa_cons (pv 0) pa_nil)) pa_nil))))),?_⟩
 have hu':=hu
 obtain ⟨lu,uvs,rfl,hSu,hdu⟩:Ex2 fun lu uvs=>vu = .ref lu∧SqL K H lu uvs∧Dens K H (us.map useE) uvs:=by
  unfold usesD at hu'
  unfold Den at hu'
  exact hu'
 have huv:uvs.length=us.length:=by rw [hdu.len,List.length_map]
 refine ⟨_,rfl,_,rfl,_,us,most,rfl,hu,m1,m2,une,ul,fit,fun l H1 sm1 hl => ?_⟩
 obtain ⟨as,_,hl1,al,has⟩:=hl
 have ea:as[most-1]? = some (as[most-1]'(by first|lia|omega)):=List.getElem?_eq_getElem _
 refine Elim.el (has _ _ ea) _ ?_
 rintro _ g1 _
 have vl:(as.map V.ref).length=as.length:=List.length_map _
 refine ⟨_,rfl, .inl ⟨l,_,_,_,rfl,rfl,SqL.of hl1,at_last (by rw [vl,al,List.getElem?_map,ea];rfl),?_⟩⟩
 have u1:1≤us.length:=List.length_pos_iff.mpr une
 have rne:srtI (us.map (·.2))≠[]:=fun z=>by
  have:=(srtI_perm (us.map (·.2))).length_eq
  rw [z,List.length_map] at this
  simp at this; (first|lia|omega)
 refine ⟨_,rfl,_,_,rfl, .inl ⟨_,sm1.seq hSu,rfl⟩,_,_,us.length,(congrArg (fun n:Nat=>[V.ref (as[most-1]'(by first|lia|omega)),V.int (n:Int)]) huv),SqL.of g1,u1,by first|lia|omega,lay_ne rne _,fun H2 sm2=>q _ (sm1.trans sm2)⟩
end
end Z
namespace Z
open PySem L2
def spHalvesBy (K:PySem.W.Frag):Sp:=fun vs H Q _=>Ex2 fun (l:Addr) (ns:List Nat)=>vs=[.ref l]∧SqL K H l (ns.map fun (n:Nat)=>V.int (n:Int))∧ns≠[]∧ns.length≤1000∧(∀n∈ns,n≤1000) ∧
 ∀(M:Nat) (p:Addr) (H':Hp),M∈ns→(∀n∈ns,n≤M)→Same H H'→H p=none→H' p=some (.tup [.int ((ns.map fun (n:Nat)=>(2:Int) ^ (M-n)).sum), .int (2 ^ M)])→Q (.ref p) H'
section
variable {P:Program} {w:World} {K:PySem.W.Frag} {mg:Str→Option Value} {base:Heap} {f:Addr} {fd:FuncData}
theorem sc_hb:FnScope ["lengths", "longest"] ["lengths"] (defScope (top i_halves_by)):=⟨rfl,rfl,rfl,by decide +kernel,rfl,by decide +kernel,by decide +kernel⟩
theorem ok_hb (F:Fun K "halves_by" "halves_by" (top i_halves_by) f fd) (T:Nm mg) (f_two_to:Fn P w K mg base 1 "two_to" ["power"] spTwo):FnOk P w K mg base CX0 2 f fd ["lengths"] (spHalvesBy K):=by
 refine F.ok sc_hb (fun vs H Q E h => ?_) (fun cdv A outer s H vs Q E hr h => ?_)
 ·obtain ⟨l,ns,rfl,_⟩:=h
  rfl
 obtain ⟨l,ns,rfl,hS,hne,hlen,hle,q⟩:=h
 refine ⟨_,(pss_cons (ps_set (i:=1) sc_hb.nd rfl (Or.inr rfl) (pe_callB (call_max_ints rfl) rfl T.n_max (by rfl) (pa_cons (pv 0) pa_nil)))
  (pss_one (ps_ret (pe_tup (pa_cons (pe_callB (call_sum_ints rfl) rfl T.n_sum (by rfl) (pa_cons (pe_lcomp rfl (comp_ok (Nc:=["length"]) (Fc:=["longest"]) (js:=[1])) (piK K (pv 0)) (gk_name (i:=0) (n:=1) (by decide)) (fun _ _ _ _ _=>(pg_name (i:=0) (show (["length", "longest"]:List Str).Nodup by decide +kernel) rfl (Or.inl rfl))) (fun _ _ _ _ _=>pts_nil) (fun _ _ _ _ _=>(pe_fn f_two_to hr rfl (pa_cons (pe_op op_sub (pv 1) (pv 0)) pa_nil)))) pa_nil)) (pa_cons (pe_fn f_two_to hr rfl (pa_cons (pv 1) pa_nil)) pa_nil)))))),?_⟩
 have hS':SqL K H l ((ns.map fun (n:Nat)=>(n:Int)).map V.int):=by rw [List.map_map];exact hS
 refine ⟨_,rfl,l,ns.map (fun (n:Nat)=>(n:Int)),rfl,hS',by simpa using hne,fun M' hM hmax => ?_⟩
 refine Elim.el (List.mem_map.mp hM) _ ?_
 rintro M hMm rfl
 have hmx:∀n∈ns,n≤M:=fun n hn=>by
  have:=hmax (n:Int) (List.mem_map.mpr ⟨n,hn,rfl⟩)
  (first|lia|omega)
 refine ⟨_,rfl,l,rfl,⟨_,hS⟩,?_⟩
 refine comp_go (N:=ns.length) (fun i ys H'=>H'=H∧ys=((ns.take i).map fun (n:Nat)=>V.int (2 ^ (M-n)))) ⟨rfl,rfl⟩ ?_ ?_
 ·rintro i ys H' Nx hi ⟨rfl,rfl⟩ nx
  have hx:(ns.map fun (n:Nat)=>V.int (n:Int))[i]? = some (V.int ns[i]):=by rw [List.getElem?_map,List.getElem?_eq_getElem hi];rfl
  refine ⟨⟨_,_,hS,hx⟩,Nat.lt_of_le_of_lt (by rw [List.length_map,List.length_take];exact Nat.le_trans (Nat.min_le_left _ _) (by first|lia|omega)) (show 1000<sizeLine by decide),?_⟩
  rintro x H2 ⟨rfl,hy⟩
  have e:=hy _ hS
  rw [hx] at e;cases e
  have hn:=hmx ns[i] (List.getElem_mem hi)
  refine ⟨_,rfl,_,rfl,_,_,rfl,rfl,M-ns[i],?_,by have:=hle M hMm; (first|lia|omega),nx _ _ ⟨rfl,?_⟩⟩
  ·show [V.int ((M:Int)-(ns[i]:Int))]=_
   congr 2
   (first|lia|omega)
  ·rw [List.take_succ_eq_append_getElem hi,List.map_append];rfl
 ·rintro ys H' ⟨rfl,rfl⟩
  refine ⟨⟨_,hS,by rw [List.length_map];exact Nat.le_refl _⟩,fun p hp => ?_⟩
  refine ⟨p,ns.map (fun (n:Nat)=>(2:Int) ^ (M-n)),rfl,SqL.of ?_,?_⟩
  ·rw [upd_same,List.take_length,List.map_map];rfl
  refine ⟨_,rfl,M,rfl,hle M hMm,?_⟩
  refine ⟨by show 2≤sizeLine;decide,fun t ht => ?_⟩
  have ht0:H' t=none:=by
   cases z:H' t with
   | none=>rfl
   | some o=>rw [upd_ne (ne_of_none z hp)] at ht;rw [z] at ht;cases ht
  exact q M t _ hMm hmx ((same_new hp _).trans (same_new ht _)) ht0 upd_same
end
end Z
namespace Z
open PySem L2
def digs:Nat→Nat→List Nat
 | 0,_=>[]
 | k+1,n=>digs k (n / 2)++[48+n % 2]
def figs (n k:Nat):Str:=⟨(digs k n).toArray⟩
theorem digs_low:∀(k n:Nat),((List.range k).map fun j=>48+n / 2 ^ j % 2).reverse=digs k n
 | 0,_=>rfl
 | k+1,n=>by
  rw [List.range_succ_eq_map,List.map_cons,List.reverse_cons,List.map_map]
  show _++[48+n / 2 ^ 0 % 2]=digs k (n / 2)++[48+n % 2]
  rw [←digs_low k (n / 2)]
  congr 2
  ·refine List.map_congr_left fun j _ => ?_
   show 48+n / 2 ^ (j+1) % 2=48+n / 2 / 2 ^ j % 2
   rw [Nat.div_div_eq_div_mul,Nat.pow_succ,Nat.mul_comm]
  ·simp
theorem digs_len:∀(k n:Nat),(digs k n).length=k
 | 0,_=>rfl
 | k+1,n=>by unfold digs;rw [List.length_append,digs_len k];rfl
theorem and_one (n:Nat):Builtin.bitAnd (n:Int) 1=((n % 2:Nat):Int):=by
 rw [PyProof.Rows.bitAnd_pp (by first|lia|omega) (by decide)]
 have:((n:Int).toNat &&& (1:Int).toNat)=n % 2:=by
  show (n &&& 1)=n % 2
  exact Nat.and_one_is_mod n
 rw [this]
theorem str_bit (n:Nat):(Str.ofString (toString ((n % 2:Nat):Int)))=⟨#[48+n % 2]⟩:=by
 rcases Nat.mod_two_eq_zero_or_one n with h|h <;> rw [h] <;> decide +kernel
theorem sum_ones:∀k:Nat,(List.replicate k 1).sum=k
 | 0=>rfl
 | k+1=>by rw [List.replicate_succ,List.sum_cons,sum_ones k]; (first|lia|omega)
theorem flat_one {α β:Type} (g : α → β):∀l:List α,l.flatMap (fun j=>[g j])=l.map g
 | []=>rfl
 | a :: l=>by rw [List.flatMap_cons,flat_one g l];rfl
def spFig:Sp:=fun vs H Q _=>Ex2 fun (n k:Nat)=>vs=[.int n, .int k]∧k≤60∧∀H',Same H H'→Q (.str (figs n k)) H'
section
variable {P:Program} {w:World} {K:PySem.W.Frag} {mg:Str→Option Value} {base:Heap} {f:Addr} {fd:FuncData}
theorem sc_figures_of:FnScope ["number", "many", "figures", "step"] ["number", "many"] (defScope (top i_figures_of)):=⟨rfl,rfl,rfl,by decide +kernel,rfl,by decide +kernel,by decide +kernel⟩
theorem ok_fig (F:Fun K "figures_of" "figures_of" (top i_figures_of) f fd) (T:Nm mg):FnOk P w K mg base CX0 1 f fd ["number", "many"] spFig:=by
 refine F.ok sc_figures_of (fun vs H Q E h => ?_) (fun cdv A outer s H vs Q E hr h => ?_)
 ·obtain ⟨n,k,rfl,_⟩:=h
  rfl
 obtain ⟨n,k,rfl,hk,q⟩:=h
 have hu6:=hr.units
 refine ⟨_,(pss_cons (ps_set (i:=2) sc_figures_of.nd rfl (Or.inl rfl) (lstN pa_nil))
  (pss_cons (ps_for PassesOwn.never rfl (pi_range1 rfl T.n_range (pa_cons (pv 1) pa_nil)) (pg_name (i:=3) sc_figures_of.nd rfl (Or.inl rfl)) (pss_cons (ps_expr (bmK K PySem.F.plainAttrs_list PySem.F.slot_list_append PySem.F.type_list_append appendN (pv 2) (pa_cons (pe_callTy call_str_int rfl T.n_str (by rfl) (pa_cons (pe_op op_and (pv 0) pe_int) pa_nil)) pa_nil)))
  (pss_one (ps_aug (i:=0) sc_figures_of.nd rfl (Or.inl rfl) pe_int iop_fdiv))))
  (pss_one (ps_ret (bmK K PySem.F.plainAttrs_str PySem.F.slot_str_join PySem.F.type_str_join (joinK K) pe_str (pa_cons (pe_rev K (pv 2)) pa_nil)))))),?_⟩
 refine ⟨by show 0≤sizeLine;decide,fun l H1 n1 => ?_⟩
 refine ⟨_,rfl,k,rfl,by first|lia|omega,by first|lia|omega,?_⟩
 refine for_range (lo:=0) (n:=k) (fun i σ H'=>∃x3, σ=[some (.int ((n / 2 ^ i:Nat):Int)),some (.int k),some (.ref l),x3]∧H' l=some (.lst (((List.range i).map fun j=>(⟨#[48+n / 2 ^ j % 2]⟩:Str)).map V.str))∧Same H H') ⟨_,by simp;rfl,n1.at,n1.same⟩ ?_ ?_
 ·intro i σ H2 hi hz_
  refine Elim.el hz_ _ ?_
  clear hz_
  rintro x3 rfl hl2 sm2
  refine ⟨_,rfl, .inl ⟨rfl,_,SqL.of hl2⟩,_,rfl,_,_,rfl,rfl,_,rfl,?_,l,_,_,rfl,rfl,hl2,?_,fun H3 c3 => ?_⟩
  ·rw [and_one]
   have:((n / 2 ^ i % 2:Nat):Int).natAbs≤1:=by (first|lia|omega)
   have hb:((n / 2 ^ i % 2:Nat):Int).natAbs=0∨((n / 2 ^ i % 2:Nat):Int).natAbs=1:=by (first|lia|omega)
   rcases hb with z|z <;> rw [z] <;> decide
  ·rw [List.length_map,List.length_map,List.length_range];exact Nat.lt_of_lt_of_le (show i<1000 by first|lia|omega) (by decide)
  have ed:((n / 2 ^ i:Nat):Int) / 2=((n / 2 ^ (i+1):Nat):Int):=by rw [Nat.pow_succ, ←Nat.div_div_eq_div_mul]; (first|lia|omega)
  refine ⟨_,rfl,_,_,rfl,rfl,⟨by decide,by decide⟩,some (.int (0+i)),?_,?_,?_⟩
  ·show [some (V.int (((n / 2 ^ i:Nat):Int) / 2)),_,_,_]=_
   rw [ed]
  ·rw [c3.at,and_one,str_bit,List.range_succ,List.map_append,List.map_append]
   rfl
  ·intro a o e
   rw [c3.ne (ne_of_none e n1.nn)]
   exact sm2 a o e
 ·intro σ H2 hz_
  refine Elim.el hz_ _ ?_
  clear hz_
  rintro x3 rfl hl2 sm2
  refine ⟨rfl,_,rfl,l,_,rfl,SqL.of hl2,fun pr H3 n3 => ?_⟩
  refine ⟨_,pr,((List.range k).map fun j=>(⟨#[48+n / 2 ^ j % 2]⟩:Str)).reverse,rfl,rfl,SqL.of (by rw [n3.at,List.map_reverse]),?_,?_⟩
  ·rw [List.map_reverse,List.map_map,List.sum_reverse]
   have:((List.range k).map ((fun x:Str=>x.length) ∘ fun j=>(⟨#[48+n / 2 ^ j % 2]⟩:Str)))=List.replicate k 1:=by
    rw [List.eq_replicate_iff]
    refine ⟨by simp,fun b hb => ?_⟩
    refine Elim.el (List.mem_map.mp hb) _ ?_
    rintro j _ rfl
    rfl
   rw [this,sum_ones]
   show k+_*0≤16777216
   (first|lia|omega)
  ·have e:Txt.join "" ((List.range k).map fun j=>(⟨#[48+n / 2 ^ j % 2]⟩:Str)).reverse=figs n k:=by
    have h1:=join_list0 ((List.range k).map fun j=>(⟨#[48+n / 2 ^ j % 2]⟩:Str)).reverse
    have h2:(((List.range k).map fun j=>(⟨#[48+n / 2 ^ j % 2]⟩:Str)).reverse.flatMap fun p=>p.cps.toList)=digs k n:=by
     rw [←digs_low, ←List.map_reverse, ←List.map_reverse,List.flatMap_map]
     show (List.range k).reverse.flatMap (fun j=>[48+n / 2 ^ j % 2])=_
     exact flat_one _ _
    rw [h2] at h1
    unfold figs
    rw [←h1]
   exact e ▸ q H3 (sm2.trans n3.same)
end
end Z
namespace Z
open PySem L2 PyProof.Rows
def LenAt (K:PySem.W.Frag) (H:Hp) (bk:List (Str×Nat)) (l:Addr):Prop:=∃as:List Addr,SqL K H l (as.map V.ref)∧as.length=bk.length∧∀(i:Nat) a q,as[i]? = some a→bk[i]? = some q→SqT K H a [.str q.1, .int (q.2:Nat)]
def Fits (ns:List Nat):Prop:=∀M,M∈ns→(∀n∈ns,n≤M)→(ns.map fun n=>(2:Int) ^ (M-n)).sum≤2 ^ M
def spLC (K:PySem.W.Frag) (lc:List Nat→List Str→Prop):Sp:=fun vs H Q _=>Ex2 fun (l:Addr) (ns:List Nat)=>vs=[.ref l]∧SqL K H l (ns.map fun (n:Nat)=>V.int (n:Int))∧1≤ns.length∧ns.length<64∧(∀n∈ns,1≤n∧n≤60)∧Fits ns ∧
 ∀(cs:List Str) (p:Addr) (H':Hp),lc ns cs→Same H H'→H p=none→H' p=some (.lst (cs.map V.str))→Q (.ref p) H'
def spCB (K:PySem.W.Frag) (lc:List Nat→List Str→Prop):Sp:=fun vs H Q _=>Ex2 fun (l:Addr) (bk:List (Str×Nat))=>vs=[.ref l]∧LenAt K H bk l∧1≤bk.length∧bk.length<64∧(∀q∈bk,1≤q.2∧q.2≤60)∧Fits (bk.map (·.2)) ∧
 ∀(cs:List Str) (as:List Addr) (p:Addr) (H':Hp),lc (bk.map (·.2)) cs→Same H H'→H p=none→H' p=some (.lst (as.map V.ref))→as.length=bk.length→(∀(i:Nat) a q y,as[i]? = some a→bk[i]? = some q→cs[i]? = some y→H' a=some (.tup [.str q.1, .str y]))→Q (.ref p) H'
theorem len_compW {K:PySem.W.Frag} {H:Hp} {l:Addr} {bk:List (Str×Nat)} {σ:L2.St} {fin:List V→Hp→Prop} {as:List Addr} (hS:SqL K H l (as.map V.ref)) (hlen:as.length=bk.length) (ht:∀(i:Nat) a q,as[i]? = some a→bk[i]? = some q→SqT K H a [.str q.1, .int (q.2:Nat)])
  (hb:bk.length<64) (q:fin (bk.map fun q=>V.int (q.2:Nat)) H):CompW (Itl K l) 2 [] (gTup K 2 (gCons (gName 0) (gCons (gName 1) gNil))) tYes (tVar 1) σ H fin:=by
 refine comp_go (N:=bk.length) (fun i ys H'=>H'=H∧ys=((bk.take i).map fun q=>V.int (q.2:Nat))) ⟨rfl,rfl⟩ ?_ ?_
 ·rintro i ys H' Nx hi ⟨rfl,rfl⟩ nx
  have hx:(as.map V.ref)[i]? = some (V.ref (as[i]'(by first|lia|omega))):=by rw [List.getElem?_map,List.getElem?_eq_getElem (by first|lia|omega)];rfl
  have hT:=ht i _ _ (List.getElem?_eq_getElem (by first|lia|omega)) (List.getElem?_eq_getElem hi)
  refine ⟨⟨_,_,hS,hx⟩,Nat.lt_of_le_of_lt (by rw [List.length_map,List.length_take];exact Nat.le_trans (Nat.min_le_left _ _) (by first|lia|omega)) (show 1000<sizeLine by decide),?_⟩
  rintro x' H2 ⟨rfl,hy⟩
  have e:=hy _ hS
  rw [hx] at e;cases e
  refine ⟨_,_,rfl,hT,rfl,_,_,rfl,_,_,rfl,rfl,?_⟩
  refine ⟨_,rfl,nx _ _ ⟨rfl,?_⟩⟩
  rw [List.take_succ_eq_append_getElem hi,List.map_append];rfl
 ·rintro ys H' ⟨rfl,rfl⟩
  refine ⟨⟨_,hS,by rw [List.length_map]; (first|lia|omega)⟩,?_⟩
  rw [List.take_length]
  exact q
section
variable {P:Program} {w:World} {K:PySem.W.Frag} {mg:Str→Option Value} {base:Heap} {f:Addr} {fd:FuncData} {lc:List Nat→List Str→Prop} {C:Addr} {bmB:List Value} {B newId initId:String}
theorem sc_codes_by:FnScope ["lengths", "filled", "whole", "codes"] ["lengths"] (defScope (top i_codes_by)):=⟨rfl,rfl,rfl,by decide +kernel,rfl,by decide +kernel,by decide +kernel⟩
theorem ok_cby (F:Fun K "codes_by" "codes_by" (top i_codes_by) f fd) (T:Nm mg) (hlc:∀ns cs,lc ns cs→cs.length=ns.length) (f_halves_by:Fn P w K mg base 2 "halves_by" ["lengths"] (spHalvesBy K)) (f_least_codes:Fn P w K mg base 2 "least_codes" ["lengths"] (spLC K lc)) :
  FnOk P w K mg base CX0 3 f fd ["lengths"] (spCB K lc):=by
 refine F.ok sc_codes_by (fun vs H Q E h => ?_) (fun cdv A outer s H vs Q E hr h => ?_)
 ·obtain ⟨l,bk,rfl,_⟩:=h
  rfl
 obtain ⟨l,bk,rfl,hL,b1,b2,hb,fit,qf⟩:=h
 have hu6:=hr.units
 refine ⟨_,(pss_cons (ps_asg (pe_fn (f_halves_by.mono (by first|decide|exact Nat.le_refl _|(first|lia|omega))) hr rfl (pa_cons (pe_lcomp rfl (comp_ok (Nc:=["name", "length"]) (Fc:=[]) (js:=[])) (piK K (pv 0)) (gk_tup (gks_cons (gk_name (i:=0) (n:=2) (by decide)) (gks_cons (gk_name (i:=1) (n:=2) (by decide)) gks_nil gm_name gms_nil) gm_name (gms_cons gm_name gms_nil))) (fun _ _ _ _ _=>(tupK K 2 rfl (pgs_cons (pg_name (i:=0) (show (["name", "length"]:List Str).Nodup by decide +kernel) rfl (Or.inl rfl)) (pgs_cons (pg_name (i:=1) (show (["name", "length"]:List Str).Nodup by decide +kernel) rfl (Or.inl rfl)) pgs_nil)))) (fun _ _ _ _ _=>pts_nil) (fun _ _ _ _ _=>(pv 1))) pa_nil)) (tupK K 2 rfl (pgs_cons (pg_name (i:=1) sc_codes_by.nd rfl (Or.inl rfl)) (pgs_cons (pg_name (i:=2) sc_codes_by.nd rfl (Or.inl rfl)) pgs_nil))))
  (pss_cons (ps_if (pt_cmpR op_gt (pv 1) (pv 2) (nomark _)) (pss_one ps_dead) pss_nil)
  (pss_cons (ps_set (i:=3) sc_codes_by.nd rfl (Or.inl rfl) (pe_fn (f_least_codes.mono (by first|decide|exact Nat.le_refl _|(first|lia|omega))) hr rfl (pa_cons (pe_lcomp rfl (comp_ok (Nc:=["name", "length"]) (Fc:=[]) (js:=[])) (piK K (pv 0)) (gk_tup (gks_cons (gk_name (i:=0) (n:=2) (by decide)) (gks_cons (gk_name (i:=1) (n:=2) (by decide)) gks_nil gm_name gms_nil) gm_name (gms_cons gm_name gms_nil))) (fun _ _ _ _ _=>(tupK K 2 rfl (pgs_cons (pg_name (i:=0) (show (["name", "length"]:List Str).Nodup by decide +kernel) rfl (Or.inl rfl)) (pgs_cons (pg_name (i:=1) (show (["name", "length"]:List Str).Nodup by decide +kernel) rfl (Or.inl rfl)) pgs_nil)))) (fun _ _ _ _ _=>pts_nil) (fun _ _ _ _ _=>(pv 1))) pa_nil)))
  (pss_one (ps_ret (pe_lcomp rfl (comp_ok (Nc:=["name", "length", "code"]) (Fc:=[]) (js:=[])) (pi_zipK K rfl T.n_zip (pa_cons (pv 0) (pa_cons (pv 3) pa_nil))) (gk_tup (gks_cons (gk_tup (gks_cons (gk_name (i:=0) (n:=3) (by decide)) (gks_cons (gk_name (i:=1) (n:=3) (by decide)) gks_nil gm_name gms_nil) gm_name (gms_cons gm_name gms_nil))) (gks_cons (gk_name (i:=2) (n:=3) (by decide)) gks_nil gm_name gms_nil) (gm_tup (gms_cons gm_name (gms_cons gm_name gms_nil))) (gms_cons gm_name gms_nil))) (fun _ _ _ _ _=>(tupK K 2 rfl (pgs_cons (tupK K 2 rfl (pgs_cons (pg_name (i:=0) (show (["name", "length", "code"]:List Str).Nodup by decide +kernel) rfl (Or.inl rfl)) (pgs_cons (pg_name (i:=1) (show (["name", "length", "code"]:List Str).Nodup by decide +kernel) rfl (Or.inl rfl)) pgs_nil))) (pgs_cons (pg_name (i:=2) (show (["name", "length", "code"]:List Str).Nodup by decide +kernel) rfl (Or.inl rfl)) pgs_nil)))) (fun _ _ _ _ _=>pts_nil) (fun _ _ _ _ _=>(tupN (pa_cons (pv 0) (pa_cons (pv 2) pa_nil)))))))))),?_⟩
 obtain ⟨as,hS,hal,hts⟩:=id hL
 refine ⟨_,rfl,l,rfl,⟨_,hS⟩,len_compW hS hal hts b2 fun p1 hp1 => ?_⟩
 obtain ⟨H1,n1⟩:∃H1,New H p1 (.lst (bk.map fun q=>V.int (q.2:Nat))) H1:=⟨_,hp1,rfl⟩
 rw [←n1.eq]
 have e1:(bk.map fun q=>V.int (q.2:Nat))=((bk.map (·.2)).map fun (n:Nat)=>V.int (n:Int)):=by rw [List.map_map];rfl
 have hne:bk.map (·.2)≠[]:=fun z=>by have:=congrArg List.length z;simp at this;rw [this] at b1;simp at b1
 have hle:∀n∈bk.map (·.2),1≤n∧n≤60:=fun n hn=>by
  refine Elim.el (List.mem_map.mp hn) _ ?_
  rintro q hq rfl
  exact hb q hq
 refine ⟨p1,bk.map (·.2),rfl,SqL.of (by rw [n1.at,e1]),hne,by rw [List.length_map]; (first|lia|omega),fun n hn=>by have:=hle n hn; (first|lia|omega),fun M t H2 hM hmx sm2 ht0 ht => ?_⟩
 have fitM:Fits (bk.map (·.2)) ↔ ((bk.map (·.2)).map fun n=>(2:Int) ^ (M-n)).sum≤2 ^ M:=by
  refine ⟨fun z=>z M hM hmx,fun z M' h1 h2 => ?_⟩
  have:M'=M:=Nat.le_antisymm (hmx M' h1) (h2 M hM)
  rw [this];exact z
 have sm02:=n1.same.trans sm2
 refine ⟨t,_,rfl,SqT.of ht,rfl,_,_,rfl,_,_,rfl,rfl,?_⟩
 refine ⟨_,rfl,_,rfl,_,_,rfl,rfl,_,rfl,ite2 (fun hgt => ?_) (fun hgt => ?_)⟩
 ·have:=fitM.mp fit
  have hgt:=of_decide_eq_true hgt
  exact absurd this (by first|lia|omega)
 ·refine ⟨_,rfl,l,rfl,⟨_,sm02.seq hS⟩,len_compW (sm02.seq hS) hal (fun i a q e1 e2=>sm02.seqT (hts i a q e1 e2)) b2 fun p3 hp3 => ?_⟩
  obtain ⟨H3,n3⟩:∃H3,New H2 p3 (.lst (bk.map fun q=>V.int (q.2:Nat))) H3:=⟨_,hp3,rfl⟩
  rw [←n3.eq]
  refine ⟨p3,bk.map (·.2),rfl,SqL.of (by rw [n3.at,e1]),by rw [List.length_map]; (first|lia|omega),by rw [List.length_map]; (first|lia|omega),hle,fit,fun lcs pc H4 hR sm4 hc0 hc => ?_⟩
  have sm04:=sm02.trans (n3.same.trans sm4)
  have hll:lcs.length=bk.length:=by rw [hlc _ _ hR,List.length_map]
  have qf:=qf lcs
  refine ⟨_,rfl,_,rfl,false,false,l,pc,rfl,⟨_,sm04.seq hS⟩,⟨_,SqL.of hc⟩,?_⟩
  refine comp_go (N:=bk.length) (fun i ys H'=>∃cs:List Addr,ys=cs.map V.ref∧cs.length=i∧Same H4 H'∧∀(j:Nat) a q y,cs[j]? = some a→bk[j]? = some q→lcs[j]? = some y→H' a=some (.tup [.str q.1, .str y])) ⟨[],rfl,rfl,Same.refl _,fun j a q y e=>by simp at e⟩ ?_ ?_
  ·intro i ys H5 Nx hi hz_ nx
   refine Elim.el hz_ _ ?_
   clear hz_
   rintro cs rfl hcl sm5 hcs
   have q1:SqK false K H5 l (as.map V.ref):=(sm04.trans sm5).seq hS
   have q2:SqK false K H5 pc (lcs.map V.str):=SqL.of (sm5 _ _ hc)
   have hx:(as.map V.ref)[i]? = some (V.ref (as[i]'(by first|lia|omega))):=by rw [List.getElem?_map,List.getElem?_eq_getElem (by first|lia|omega)];rfl
   have hy:(lcs.map V.str)[i]? = some (V.str (lcs[i]'(by first|lia|omega))):=by rw [List.getElem?_map,List.getElem?_eq_getElem (by first|lia|omega)];rfl
   have hT:=hts i _ _ (List.getElem?_eq_getElem (by first|lia|omega)) (List.getElem?_eq_getElem hi)
   refine ⟨⟨_,_,_,_,q1,q2,hx,hy⟩,Nat.lt_of_lt_of_le (show (cs.map V.ref).length<1000 by rw [List.length_map]; (first|lia|omega)) (by decide),?_⟩
   rintro x' H6 ⟨T',rfl,hN⟩
   have n6:=hN _ _ _ _ q1 q2 hx hy
   refine ⟨T',_,rfl,SqT.of n6.at,rfl,_,_,rfl,_,_,rfl,((sm04.trans sm5).trans n6.same).seqT hT,rfl,_,_,rfl,_,_,rfl,⟨rfl,_,_,rfl,rfl,?_⟩⟩
   refine ⟨_,rfl,_,rfl,by show 2≤sizeLine;decide,fun pt H7 n7=>nx _ _ ⟨cs++[pt],by rw [List.map_append];rfl,by rw [List.length_append,hcl];rfl,sm5.trans (n6.same.trans n7.same),fun j a q y ea eq ey => ?_⟩⟩
   by_cases hj:j<cs.length
   ·rw [List.getElem?_append_left hj] at ea
    exact n7.same _ _ (n6.same _ _ (hcs j a q y ea eq ey))
   ·have:j=cs.length:=by
     have:=(List.getElem?_eq_some_iff.mp ea).1
     simp at this; (first|lia|omega)
    subst this
    rw [List.getElem?_append_right (Nat.le_refl _),Nat.sub_self] at ea
    cases ea
    rw [hcl,List.getElem?_eq_getElem hi] at eq
    rw [hcl,List.getElem?_eq_getElem (by first|lia|omega)] at ey
    cases eq;cases ey
    exact n7.at
  ·intro ys H5 hz_
   refine Elim.el hz_ _ ?_
   clear hz_
   rintro cs rfl hcl sm5 hcs
   refine ⟨⟨_,_,(show SqK false K H5 l (as.map V.ref) from (sm04.trans sm5).seq hS),(show SqK false K H5 pc (lcs.map V.str) from SqL.of (sm5 _ _ hc)), .inl (by rw [List.length_map]; (first|lia|omega))⟩,fun p hp => ?_⟩
   refine qf cs p _ hR ((sm04.trans sm5).trans (same_new hp _)) ?_ upd_same hcl fun j a q y ea eq ey => ?_
   ·cases z:H p with
    | none=>rfl
    | some o=>rw [(sm04.trans sm5) _ _ z] at hp;cases hp
   ·exact same_new hp _ _ _ (hcs j a q y ea eq ey)
end
end Z
namespace Z
open PySem L2
def plc (r M:List Int) (i:Nat):Int:=(M.idxOf (r.getD i 0):Int)+i-(r.idxOf (r.getD i 0):Int)
def uam (r M:List Int) (t:Int):Nat:=(List.range r.length).countP fun i=>decide (plc r M i<t)
def tkn (r:List Int) (L:Nat):Nat→Int
 | 0=>2*(r.length:Int)-2
 | k+1=>2*(tkn r L k-uam r (lay r (L-1-k)) (tkn r L k))
def mny (r:List Int) (L k:Nat):Nat:=uam r (lay r (L-1-k)) (tkn r L k)
def lenP (r:List Int) (L:Nat):List Nat:=if r.length=1 then [1] else (List.range r.length).map fun i=>(List.range L).countP fun k=>decide (i<mny r L k)
theorem uam_le (r M:List Int) (t:Int):uam r M t≤r.length:=by
 unfold uam
 have:=List.countP_le_length (p:=fun i=>decide (plc r M i<t)) (l:=List.range r.length)
 rw [List.length_range] at this
 exact this
theorem idx_cnt:∀{M:List Int} {u:Int},M.Pairwise (· ≤ ·)→u∈M→M.idxOf u=M.countP (fun a=>decide (a<u))
 | [],u,_,h=>nomatch h
 | a :: M,u,hp,h=>by
  obtain ⟨h1,h2⟩:=List.pairwise_cons.mp hp
  rw [List.idxOf_cons,List.countP_cons]
  by_cases e:a=u
  ·subst e
   rw [show (a == a)=true by simp]
   simp only [cond_true]
   have:M.countP (fun b=>decide (b<a))=0:=by
    rw [List.countP_eq_zero]
    intro b hb
    have:=h1 b hb
    simp;omega
   rw [this]
   simp
  ·have hm:u∈M:=(List.mem_cons.mp h).resolve_left fun z=>e z.symm
   have:=h1 u hm
   rw [show (a == u)=false by simpa using e]
   simp only [cond_false]
   rw [idx_cnt h2 hm,if_pos (by simp; (first|lia|omega))]
theorem plc_eq {r M ps:List Int} (hr:r.Pairwise (· ≤ ·)) (hM:M.Pairwise (· ≤ ·)) (pm:M.Perm (r++ps)) {i:Nat} (hi:i<r.length):plc r M i=(i:Int)+(ps.countP (fun a=>decide (a<r.getD i 0)):Nat):=by
 have e:r.getD i 0=r[i]:=by simp [List.getD,hi]
 unfold plc
 rw [e]
 have m1:r[i]∈r:=List.getElem_mem hi
 have m2:r[i]∈M:=pm.symm.subset (List.mem_append_left _ m1)
 rw [idx_cnt hM m2,idx_cnt hr m1,pm.countP_eq,List.countP_append]
 (first|lia|omega)
theorem rise {r:List Int} (hr:r.Pairwise (· ≤ ·)) {i j:Nat} (hij:i≤j) (hj:j<r.length):r.getD i 0≤r.getD j 0:=by
 have ei:r.getD i 0=r[i]'(by first|lia|omega):=by simp [List.getD,show i<r.length by first|lia|omega]
 have ej:r.getD j 0=r[j]:=by simp [List.getD,hj]
 rw [ei,ej]
 rcases Nat.lt_or_eq_of_le hij with h|h
 ·exact List.pairwise_iff_getElem.mp hr i j (by first|lia|omega) hj h
 ·subst h;exact Int.le_refl _
theorem cnt_mono {l:List Int} {a b:Int} (h:a≤b):l.countP (fun x=>decide (x<a))≤l.countP (fun x=>decide (x<b)):=
 List.countP_mono_left fun x _ hx=>by simp at hx ⊢; (first|lia|omega)
theorem cnt_first {p:Nat→Bool} : ∀{n:Nat},(∀i j,i≤j→j<n→p j=true→p i=true)→∀i,i<n→(p i=true ↔ i<(List.range n).countP p)
 | 0,_,i,h=>absurd h (Nat.not_lt_zero _)
 | n+1,hp,i,hi=>by
  rw [List.range_succ,List.countP_append,List.countP_singleton]
  have ih:=cnt_first (p:=p) (n:=n) fun i j h1 h2 h3=>hp i j h1 (by first|lia|omega) h3
  have le:(List.range n).countP p≤n:=by
   have:=List.countP_le_length (p:=p) (l:=List.range n)
   rw [List.length_range] at this;exact this
  by_cases hn:p n=true
  ·have all:(List.range n).countP p=n:=by
    have:(List.range n).countP p=(List.range n).length:=by
     rw [List.countP_eq_length]
     intro j hj
     exact hp j n (Nat.le_of_lt (List.mem_range.mp hj)) (by first|lia|omega) hn
    rw [this,List.length_range]
   rw [all,if_pos hn]
   exact ⟨fun _=>hi,fun _=>hp i n (by first|lia|omega) (by first|lia|omega) hn⟩
  ·rw [if_neg hn]
   rcases Nat.lt_or_eq_of_le (Nat.le_of_lt_succ hi) with h|h
   ·rw [ih i h]; (first|lia|omega)
   ·subst h
    exact ⟨fun z=>absurd z hn,fun z=>by first|lia|omega⟩
section
variable {r M ps:List Int} (hr:r.Pairwise (· ≤ ·)) (hM:M.Pairwise (· ≤ ·)) (pm:M.Perm (r++ps))
include hr hM pm
theorem uam_first (t:Int) (i:Nat) (hi:i<r.length):plc r M i<t ↔ i<uam r M t:=by
 have:=cnt_first (p:=fun i=>decide (plc r M i<t)) (n:=r.length) (fun i j h1 h2 h3=>by
  have h3:plc r M j<t:=by simpa using h3
  have e1:=plc_eq hr hM pm (show i<r.length by first|lia|omega)
  have e2:=plc_eq hr hM pm h2
  have:=cnt_mono (l:=ps) (rise hr h1 h2)
  simp; (first|lia|omega)) i hi
 simpa [uam] using this
theorem uam_tk {t:Int} (h0:0≤t):(uam r M t:Int)≤t:=by
 cases hm:uam r M t with
 | zero=>omega
 | succ m=>
  have hl:=uam_le r M t
  have:=(uam_first hr hM pm t m (by first|lia|omega)).mpr (by first|lia|omega)
  have e:=plc_eq hr hM pm (show m<r.length by first|lia|omega)
  (first|lia|omega)
end
theorem lay_pair {r:List Int} (hr:r.Pairwise (· ≤ ·)):∀j,(lay r j).Pairwise (· ≤ ·)
 | 0=>hr
 | j+1=>srtI_pair _
def sumsOf (r:List Int):Nat→List Int
 | 0=>[]
 | j+1=>pairS (lay r j)
theorem lay_perm (r:List Int):∀j,(lay r j).Perm (r++sumsOf r j)
 | 0=>by show r.Perm (r++[]);rw [List.append_nil]
 | j+1=>srtI_perm _
theorem lay_nn {r:List Int} (h0:∀a∈r,0≤a):∀j,∀a∈lay r j,0≤a
 | 0=>h0
 | j+1=>fun a ha=>by
  have ih:=lay_nn h0 j
  have:=(srtI_perm (r++pairS (lay r j))).subset ha
  rcases List.mem_append.mp this with h|h
  ·exact h0 a h
  ·obtain ⟨k,hk,e⟩:=List.mem_iff_getElem.mp h
   rw [pairS_len] at hk
   have g:=pairS_get (lay r j) k hk
   rw [List.getElem?_eq_getElem (by rw [pairS_len];exact hk),e] at g
   have g:=Option.some.inj g
   have a1:(lay r j).getD (2*k) 0=(lay r j)[2*k]:=by simp [List.getD,show 2*k<(lay r j).length by omega]
   have a2:(lay r j).getD (2*k+1) 0=(lay r j)[2*k+1]:=by simp [List.getD,show 2*k+1<(lay r j).length by first|lia|omega]
   have b1:=ih _ (List.getElem_mem (show 2*k<(lay r j).length by omega))
   have b2:=ih _ (List.getElem_mem (show 2*k+1<(lay r j).length by omega))
   (first|lia|omega)
theorem below_first {M:List Int} (hM:M.Pairwise (· ≤ ·)) {x:Int} {k:Nat} (hk:k≤M.countP (fun a=>decide (a<x))):∀i,i<k→∃h:i<M.length,M[i]<x:=by
 induction M generalizing k with
 | nil=>intro i hi;simp at hk; (first|lia|omega)
 | cons a M ih=>
  obtain ⟨h1,h2⟩:=List.pairwise_cons.mp hM
  rw [List.countP_cons] at hk
  intro i hi
  by_cases ha:a<x
  ·rw [if_pos (by simpa using ha)] at hk
   cases i with
   | zero=>exact ⟨by simp,ha⟩
   | succ i=>
    obtain ⟨p,q⟩:=ih h2 (k:=k-1) (by first|lia|omega) i (by first|lia|omega)
    exact ⟨by simp;omega,by simpa using q⟩
  ·rw [if_neg (by simpa using ha)] at hk
   have:M.countP (fun b=>decide (b<x))=0:=by
    rw [List.countP_eq_zero]
    intro b hb
    have:=h1 b hb
    simp; (first|lia|omega)
   (first|lia|omega)
theorem cnt_of_first:∀{M:List Int} {x:Int} {k:Nat},(∀i,i<k→∃h:i<M.length,M[i]<x)→k≤M.countP (fun a=>decide (a<x))
 | [],x,0,_=>Nat.zero_le _
 | [],x,k+1,h=>by obtain ⟨p,_⟩:=h 0 (by first|lia|omega);simp at p
 | a :: M,x,0,_=>Nat.zero_le _
 | a :: M,x,k+1,h=>by
  obtain ⟨_,q⟩:=h 0 (by first|lia|omega)
  have q:a<x:=q
  have:=cnt_of_first (M:=M) (x:=x) (k:=k) fun i hi=>by
   obtain ⟨p,q⟩:=h (i+1) (by first|lia|omega)
   exact ⟨by simpa using p,by simpa using q⟩
  rw [List.countP_cons,if_pos (by simpa using q)]
  (first|lia|omega)
theorem not_ahead {r:List Int} (hr:r.Pairwise (· ≤ ·)) (h0:∀a∈r,0≤a) (j:Nat) {t:Int} (ht:0≤t) {i:Nat} (hi:i<r.length) (hn:uam r (lay r (j+1)) t≤i):uam r (lay r j) (2*(t-uam r (lay r (j+1)) t))≤i:=by
 obtain ⟨m,hm⟩:∃m,uam r (lay r (j+1)) t=m:=⟨_,rfl⟩
 rw [hm] at hn ⊢
 have hS:=lay_pair hr (j+1)
 have hP:=lay_perm r (j+1)
 have hS':=lay_pair hr j
 have hP':=lay_perm r j
 have mt:=uam_tk hr hS hP ht
 rw [hm] at mt
 obtain ⟨s,hs⟩:∃s:Nat,(s:Int)=t-m:=⟨(t-m).toNat,by first|lia|omega⟩
 have nm:¬(plc r (lay r (j+1)) m<t):=fun z=>by
  have:=(uam_first hr hS hP t m (by first|lia|omega)).mp z
  (first|lia|omega)
 have em:=plc_eq hr hS hP (show m<r.length by first|lia|omega)
 have c1:s≤(pairS (lay r j)).countP (fun a=>decide (a<r.getD m 0)):=by
  show s≤(sumsOf r (j+1)).countP _
  (first|lia|omega)
 have c2:s≤(pairS (lay r j)).countP (fun a=>decide (a<r.getD i 0)):=Nat.le_trans c1 (cnt_mono (rise hr hn hi))
 have ps:(pairS (lay r j)).Pairwise (· ≤ ·):=by
  rw [List.pairwise_iff_getElem]
  intro a b ha hb hab
  rw [pairS_len] at ha hb
  have ga:=pairS_get (lay r j) a ha
  have gb:=pairS_get (lay r j) b hb
  rw [List.getElem?_eq_getElem (by rw [pairS_len];exact ha)] at ga
  rw [List.getElem?_eq_getElem (by rw [pairS_len];exact hb)] at gb
  rw [Option.some.inj ga,Option.some.inj gb]
  have:=rise hS' (show 2*a≤2*b by first|lia|omega) (show 2*b<(lay r j).length by first|lia|omega)
  have:=rise hS' (show 2*a+1≤2*b+1 by first|lia|omega) (show 2*b+1<(lay r j).length by first|lia|omega)
  (first|lia|omega)
 have f:=below_first ps c2
 have c3:2*s≤(lay r j).countP (fun a=>decide (a<r.getD i 0)):=cnt_of_first fun k hk=>by
  obtain ⟨p,q⟩:=f (k / 2) (by first|lia|omega)
  have p':k / 2<(lay r j).length / 2:=by rw [pairS_len] at p;exact p
  have g:=pairS_get (lay r j) (k / 2) p'
  rw [List.getElem?_eq_getElem p] at g
  rw [Option.some.inj g] at q
  have kl:k<(lay r j).length:=by (first|lia|omega)
  refine ⟨kl,?_⟩
  have a1:(lay r j).getD (2*(k / 2)) 0=(lay r j)[2*(k / 2)]:=by simp [List.getD,show 2*(k / 2)<(lay r j).length by first|lia|omega]
  have a2:(lay r j).getD (2*(k / 2)+1) 0=(lay r j)[2*(k / 2)+1]:=by simp [List.getD,show 2*(k / 2)+1<(lay r j).length by first|lia|omega]
  have b1:=lay_nn h0 j _ (List.getElem_mem (show 2*(k / 2)<(lay r j).length by first|lia|omega))
  have b2:=lay_nn h0 j _ (List.getElem_mem (show 2*(k / 2)+1<(lay r j).length by omega))
  rcases Nat.mod_two_eq_zero_or_one k with h|h
  ·have:2*(k / 2)=k:=by (first|lia|omega)
   simp only [this] at *
   (first|lia|omega)
  ·have:2*(k / 2)+1=k:=by (first|lia|omega)
   simp only [this] at *
   (first|lia|omega)
 rw [(hP').countP_eq,List.countP_append] at c3
 have c4:r.countP (fun a=>decide (a<r.getD i 0))≤i:=by
  refine Nat.le_of_not_lt fun z => ?_
  obtain ⟨_,q⟩:=below_first hr (k:=i+1) z i (by first|lia|omega)
  have e:r.getD i 0=r[i]:=by simp [List.getD,hi]
  (first|lia|omega)
 have ei:=plc_eq hr hS' hP' hi
 refine Nat.le_of_not_lt fun z => ?_
 have:=(uam_first hr hS' hP' _ i hi).mpr z
 (first|lia|omega)
section
variable {r:List Int} {L:Nat} (hr:r.Pairwise (· ≤ ·)) (h0:∀a∈r,0≤a) (h1:1≤r.length)
include hr h0 h1
theorem tkn_nn:∀k,0≤tkn r L k
 | 0=>by show (0:Int)≤2*(r.length:Int)-2; (first|lia|omega)
 | k+1=>by
  have ih:=tkn_nn (k:=k)
  have:=uam_tk hr (lay_pair hr (L-1-k)) (lay_perm r (L-1-k)) ih
  show (0:Int)≤2*(tkn r L k-uam r (lay r (L-1-k)) (tkn r L k))
  (first|lia|omega)
theorem mny_down {k i:Nat} (hk:k+1<L) (hi:i<r.length) (h:mny r L k≤i):mny r L (k+1)≤i:=by
 unfold mny at h ⊢
 have e:L-1-k=(L-1-(k+1))+1:=by (first|lia|omega)
 have nn:=tkn_nn hr h0 h1 (L:=L) (k:=k)
 have:=not_ahead hr h0 (L-1-(k+1)) nn hi (by rw [←e];exact h)
 rw [←e] at this
 exact this
theorem mny_down' {k k' i:Nat} (hkk:k≤k') (hk:k'<L) (hi:i<r.length) (h:mny r L k≤i):mny r L k'≤i:=by
 induction k' with
 | zero=>
  have:k=0:=by (first|lia|omega)
  subst this;exact h
 | succ k' ih=>
  rcases Nat.lt_or_eq_of_le hkk with z|z
  ·exact mny_down hr h0 h1 hk hi (ih (by first|lia|omega) (by first|lia|omega))
  ·rw [←z];exact h
theorem tkn_end (hL:1≤L) (fit:r.length≤2 ^ L):tkn r L L=0:=by
 obtain ⟨K,rfl⟩:∃K,L=K+1:=⟨L-1,by first|lia|omega⟩
 have e0:K+1-1-K=0:=by (first|lia|omega)
 have nn:=tkn_nn hr h0 h1 (L:=K+1) (k:=K)
 show 2*(tkn r (K+1) K-uam r (lay r (K+1-1-K)) (tkn r (K+1) K))=0
 have hle:=uam_le r (lay r (K+1-1-K)) (tkn r (K+1) K)
 have hS:=lay_pair hr (K+1-1-K)
 have hP:=lay_perm r (K+1-1-K)
 have htk:=uam_tk hr hS hP nn
 by_cases full:uam r (lay r (K+1-1-K)) (tkn r (K+1) K)=r.length
 ·-- all are taken in each layer
  have all:∀k,k≤K→mny r (K+1) k=r.length:=fun k hk=>by
   have l:=uam_le r (lay r (K+1-1-k)) (tkn r (K+1) k)
   refine Nat.le_antisymm l (Nat.le_of_not_lt fun z => ?_)
   have:=mny_down' hr h0 h1 (L:=K+1) (k:=k) (k':=K) (i:=r.length-1) hk (by first|lia|omega) (by first|lia|omega) (by first|lia|omega)
   unfold mny at this
   (first|lia|omega)
  have tk:∀k,k≤K→tkn r (K+1) k=2*(r.length:Int)-((2 ^ (k+1):Nat):Int):=fun k=>by
   induction k with
   | zero=>intro _;show 2*(r.length:Int)-2=_;simp
   | succ k ih=>
    intro hk
    have i1:=ih (by first|lia|omega)
    have i2:=all k (by first|lia|omega)
    unfold mny at i2
    show 2*(tkn r (K+1) k-uam r (lay r (K+1-1-k)) (tkn r (K+1) k))=_
    rw [i2,i1]
    have:(2 ^ (k+1+1):Nat)=2*2 ^ (k+1):=by rw [Nat.pow_succ]; (first|lia|omega)
    rw [this]
    push_cast
    (first|lia|omega)
  have t:=tk K (Nat.le_refl _)
  rw [full]
  rw [full] at htk
  (first|lia|omega)
 ·obtain ⟨m,hm⟩:∃m,uam r (lay r (K+1-1-K)) (tkn r (K+1) K)=m:=⟨_,rfl⟩
  rw [hm] at full hle htk ⊢
  have hml:m<r.length:=by (first|lia|omega)
  have nt:¬(plc r (lay r (K+1-1-K)) m<tkn r (K+1) K):=fun z=>by
   have:=(uam_first hr hS hP _ m hml).mp z
   (first|lia|omega)
  have e:=plc_eq hr hS hP hml
  rw [show sumsOf r (K+1-1-K)=[] by rw [e0];rfl] at e
  simp only [List.countP_nil] at e
  (first|lia|omega)
end
def sm (f:Nat→Int):Nat→Int
 | 0=>0
 | n+1=>sm f n+f n
theorem sm_congr {f g:Nat→Int} : ∀{n:Nat},(∀i,i<n→f i=g i)→sm f n=sm g n
 | 0,_=>rfl
 | n+1,h=>by show sm f n+f n=sm g n+g n;rw [sm_congr fun i hi=>h i (by first|lia|omega),h n (by first|lia|omega)]
theorem sm_add (f g:Nat→Int):∀n,sm (fun i=>f i+g i) n=sm f n+sm g n
 | 0=>rfl
 | n+1=>by show sm _ n+(f n+g n)=(sm f n+f n)+(sm g n+g n);rw [sm_add f g n]; (first|lia|omega)
theorem sm_mul (c:Int) (f:Nat→Int):∀n,sm (fun i=>c*f i) n=c*sm f n
 | 0=>by show (0:Int)=c*0;simp
 | n+1=>by show sm _ n+c*f n=c*(sm f n+f n);rw [sm_mul c f n,Int.mul_add]
theorem sm_ind {m:Nat} : ∀{n:Nat},sm (fun i=>if i<m then 1 else 0) n=(min m n:Nat)
 | 0=>by show (0:Int)=_;simp
 | n+1=>by
  show sm _ n+(if n<m then (1:Int) else 0)=_
  rw [sm_ind (n:=n)]
  split <;> (first|lia|omega)
theorem sm_const (c:Int):∀n,sm (fun _=>c) n=n*c
 | 0=>by show (0:Int)=_;simp
 | n+1=>by show sm _ n+c=_;rw [sm_const c n];push_cast;rw [Int.add_mul]; (first|lia|omega)
theorem sm_nn {f:Nat→Int} : ∀{n:Nat},(∀i,i<n→0≤f i)→0≤sm f n
 | 0,_=>Int.le_refl _
 | n+1,h=>by
  have:=sm_nn (f:=f) (n:=n) fun i hi=>h i (by first|lia|omega)
  have:=h n (by first|lia|omega)
  show 0≤sm f n+f n
  (first|lia|omega)
theorem sm_one {f:Nat→Int} : ∀{n i:Nat},(∀i,i<n→0≤f i)→i<n→f i≤sm f n
 | 0,i,_,h=>absurd h (Nat.not_lt_zero _)
 | n+1,i,h,hi=>by
  show f i≤sm f n+f n
  have hn:=h n (by first|lia|omega)
  have hs:=sm_nn (f:=f) (n:=n) fun i hi=>h i (by first|lia|omega)
  rcases Nat.lt_or_eq_of_le (Nat.le_of_lt_succ hi) with z|z
  ·have:=sm_one (f:=f) (n:=n) (fun i hi=>h i (by first|lia|omega)) z
   (first|lia|omega)
  ·subst z; (first|lia|omega)
theorem sm_list {α:Type} (g : α→Int) (d : α):∀l:List α,(l.map g).sum=sm (fun i=>g (l.getD i d)) l.length:=by
 intro l
 have key:∀l:List α,∀n,n≤l.length→((l.take n).map g).sum=sm (fun i=>g (l.getD i d)) n:=fun l n=>by
  induction n with
  | zero=>intro _;simp [sm]
  | succ n ih=>
   intro hn
   rw [List.take_succ_eq_append_getElem (by first|lia|omega),List.map_append,List.sum_append,ih (by first|lia|omega)]
   show _=sm _ n+g (l.getD n d)
   have:l.getD n d=l[n]:=by simp [List.getD,show n<l.length by first|lia|omega]
   rw [this];simp
 have:=key l l.length (Nat.le_refl _)
 rw [List.take_length] at this
 exact this
def lnK (r:List Int) (L j i:Nat):Nat:=(List.range j).countP fun k=>decide (i<mny r L k)
theorem lnK_le (r:List Int) (L j i:Nat):lnK r L j i≤j:=by
 unfold lnK
 have:=List.countP_le_length (p:=fun k=>decide (i<mny r L k)) (l:=List.range j)
 rw [List.length_range] at this;exact this
theorem lnK_succ (r:List Int) (L j i:Nat):lnK r L (j+1) i=lnK r L j i+if i<mny r L j then 1 else 0:=by
 unfold lnK
 rw [List.range_succ,List.countP_append,List.countP_singleton]
 simp
def sK (r:List Int) (L:Nat):Nat→Int
 | 0=>0
 | j+1=>2*sK r L j+mny r L j
section
variable {r:List Int} {L:Nat} (hr:r.Pairwise (· ≤ ·)) (h0:∀a∈r,0≤a) (h1:1≤r.length)
include hr h0 h1
theorem lnK_full {j i:Nat} (hj:j<L) (hi:i<r.length) (h:i<mny r L j):lnK r L j i=j:=by
 unfold lnK
 have:(List.range j).countP (fun k=>decide (i<mny r L k))=(List.range j).length:=by
  rw [List.countP_eq_length]
  intro k hk
  have hk:=List.mem_range.mp hk
  simp only [decide_eq_true_iff]
  refine Nat.lt_of_not_le fun z => ?_
  have:=mny_down' hr h0 h1 (k:=k) (k':=j) (by first|lia|omega) hj hi z
  (first|lia|omega)
 rw [this,List.length_range]
theorem sK_eq:∀j,j≤L→sm (fun i=>2 ^ j-2 ^ (j-lnK r L j i)) r.length=sK r L j
 | 0,_=>by
  have:∀n,sm (fun i=>(2:Int) ^ 0-2 ^ (0-lnK r L 0 i)) n=0:=fun n=>by
   induction n with
   | zero=>rfl
   | succ n ih=>show sm _ n+((2:Int) ^ 0-2 ^ (0-lnK r L 0 n))=0;rw [ih,Nat.zero_sub];simp
  exact this _
 | j+1,hj=>by
  have ih:=sK_eq j (by first|lia|omega)
  have ml:=uam_le r (lay r (L-1-j)) (tkn r L j)
  have ml:mny r L j≤r.length:=ml
  show _=2*sK r L j+mny r L j
  rw [←ih, ←sm_mul,show ((mny r L j:Nat):Int)=sm (fun i=>if i<mny r L j then 1 else 0) r.length by rw [sm_ind]; (first|lia|omega), ←sm_add]
  refine sm_congr fun i hi => ?_
  rw [lnK_succ]
  by_cases c:i<mny r L j
  ·rw [if_pos c,if_pos c,lnK_full hr h0 h1 (by first|lia|omega) hi c,Nat.sub_self,Nat.sub_self]
   rw [Int.pow_succ]; (first|lia|omega)
  ·rw [if_neg c,if_neg c]
   simp only [Nat.add_zero,Int.add_zero]
   have:=lnK_le r L j i
   rw [show j+1-lnK r L j i=(j-lnK r L j i)+1 by first|lia|omega,Int.pow_succ,Int.pow_succ]
   (first|lia|omega)
theorem sK_tk:∀j,2*sK r L j+tkn r L j=2 ^ j*(2*(r.length:Int)-2)
 | 0=>by show 2*(0:Int)+(2*(r.length:Int)-2)=_;simp
 | j+1=>by
  have ih:=sK_tk j
  show 2*(2*sK r L j+mny r L j)+2*(tkn r L j-uam r (lay r (L-1-j)) (tkn r L j))=_
  have e:(mny r L j:Int)=(uam r (lay r (L-1-j)) (tkn r L j):Int):=rfl
  rw [Int.pow_succ,Int.mul_comm (2 ^ j) 2,Int.mul_assoc, ←ih]
  (first|lia|omega)
theorem kraft_pm (hL:1≤L) (fit:r.length≤2 ^ L):sm (fun i=>(2:Int) ^ (L-lnK r L L i)) r.length=2 ^ L:=by
 have a:=sK_eq hr h0 h1 (L:=L) L (Nat.le_refl _)
 have b:=sK_tk hr h0 h1 (L:=L) L
 rw [tkn_end hr h0 h1 hL fit] at b
 have c:sm (fun i=>(2:Int) ^ L-2 ^ (L-lnK r L L i)) r.length=sm (fun _=>(2:Int) ^ L) r.length+(-1)*sm (fun i=>(2:Int) ^ (L-lnK r L L i)) r.length:=by
  rw [←sm_mul, ←sm_add]
  exact sm_congr fun i _=>by (first|lia|omega)
 rw [c,sm_const] at a
 obtain ⟨X,hX⟩:∃X:Int,X=2 ^ L:=⟨_,rfl⟩
 obtain ⟨n,hn⟩:∃n:Int,n=(r.length:Int):=⟨_,rfl⟩
 obtain ⟨S,hS⟩:∃S:Int,S=sm (fun i=>(2:Int) ^ (L-lnK r L L i)) r.length:=⟨_,rfl⟩
 rw [←hX, ←hn, ←hS] at a
 rw [←hX, ←hn] at b
 rw [←hX, ←hS]
 have e:X*(2*n-2)=2*(n*X)-2*X:=by rw [Int.mul_sub,Int.mul_comm n X, ←Int.mul_assoc,Int.mul_comm X 2,Int.mul_assoc]
 (first|lia|omega)
theorem ln_one (hL:1≤L) (fit:r.length≤2 ^ L) (h2:2≤r.length) {i:Nat} (hi:i<r.length):1≤lnK r L L i:=by
 refine Nat.pos_of_ne_zero fun z => ?_
 have k:=kraft_pm hr h0 h1 hL fit
 have nn:∀i,i<r.length→(0:Int)<2 ^ (L-lnK r L L i):=fun i _=>Int.pow_pos (by decide)
 obtain ⟨j,hj,hji⟩:∃j,j<r.length∧j≠i:=by
  by_cases h:i=0
  ·exact ⟨1,by first|lia|omega,by first|lia|omega⟩
  ·exact ⟨0,by first|lia|omega,by first|lia|omega⟩
 have two:∀{n a b:Nat} {f:Nat→Int},(∀i,i<n→0<f i)→a<b→b<n→f a+f b≤sm f n:=fun {n a b f} h hab hb=>by
  induction n with
  | zero=>(first|lia|omega)
  | succ n ih=>
   show f a+f b≤sm f n+f n
   have hn:=h n (by first|lia|omega)
   rcases Nat.lt_or_eq_of_le (Nat.le_of_lt_succ hb) with q|q
   ·have:=ih (fun i hi=>h i (by first|lia|omega)) q
    (first|lia|omega)
   ·subst q
    have:=sm_one (f:=f) (n:=b) (fun i hi=>Int.le_of_lt (h i (by first|lia|omega))) hab
    (first|lia|omega)
 have t:(2:Int) ^ (L-lnK r L L i)+2 ^ (L-lnK r L L j)≤2 ^ L:=by
  rw [←k]
  rcases Nat.lt_or_gt_of_ne hji with q|q
  ·have:=two (f:=fun i=>(2:Int) ^ (L-lnK r L L i)) nn q hi
   (first|lia|omega)
  ·exact two (f:=fun i=>(2:Int) ^ (L-lnK r L L i)) nn q hj
 rw [z,Nat.sub_zero] at t
 have:=nn j hj
 (first|lia|omega)
end
theorem sum_perm {l m:List Int} (p:l.Perm m):l.sum=m.sum:=by
 induction p with
 | nil=>rfl
 | cons x _ ih=>simp [ih]
 | swap x y l=>simp; (first|lia|omega)
 | trans _ _ h1 h2=>exact h1.trans h2
theorem lenP_len (r:List Int) (L:Nat):(lenP r L).length=r.length:=by
 unfold lenP
 split
 ·rename_i h;rw [h];rfl
 ·rw [List.length_map,List.length_range]
theorem lenP_get {r:List Int} {L i:Nat} (h2:r.length≠1) (hi:i<r.length):(lenP r L).getD i 0=lnK r L L i:=by
 unfold lenP
 rw [if_neg h2,List.getD_eq_getElem?_getD,List.getElem?_map,List.getElem?_range hi]
 rfl
end Z
namespace Z
open PySem L2
theorem Fits.perm {a b:List Nat} (p:a.Perm b) (h:Fits a):Fits b:=fun M hM hx=>by
 have:=h M (p.symm.subset hM) fun n hn=>hx n (p.subset hn)
 rw [sum_perm (p.map fun n=>(2:Int) ^ (M-n))] at this
 exact this
theorem lenP_ok {r:List Int} {L:Nat} (hr:r.Pairwise (· ≤ ·)) (h0:∀a∈r,0≤a) (h1:1≤r.length) (hL:1≤L) (fit:r.length≤2 ^ L):(∀n∈lenP r L,1≤n∧n≤L)∧Fits (lenP r L):=by
 by_cases h2:r.length=1
 ·have e:lenP r L=[1]:=by unfold lenP;rw [if_pos h2]
  rw [e]
  refine ⟨fun n hn => ?_,fun M hM _ => ?_⟩
  ·obtain rfl:n=1:=by simpa using hn
   (first|lia|omega)
  ·obtain rfl:M=1:=by simpa using hM
   decide
 ·have all:∀n∈lenP r L,∃i,i<r.length∧n=lnK r L L i:=fun n hn=>by
   obtain ⟨i,hi,e⟩:=List.mem_iff_getElem.mp hn
   have hl:=lenP_len r L
   refine ⟨i,by first|lia|omega,?_⟩
   rw [←lenP_get h2 (by first|lia|omega), ←e]
   simp [List.getD,hi]
  have rng:∀n∈lenP r L,1≤n∧n≤L:=fun n hn=>by
   obtain ⟨i,hi,rfl⟩:=all n hn
   exact ⟨ln_one hr h0 h1 hL fit (by first|lia|omega) hi,lnK_le r L L i⟩
  refine ⟨rng,fun M hM hx => ?_⟩
  have k:=kraft_pm hr h0 h1 hL fit
  have e:sm (fun i=>(2:Int) ^ (L-lnK r L L i)) r.length=((lenP r L).map fun n=>(2:Int) ^ (L-n)).sum:=by
   rw [sm_list (fun n=>(2:Int) ^ (L-n)) 0,lenP_len]
   exact sm_congr fun i hi=>by rw [lenP_get h2 hi]
  rw [e] at k
  have ML:=(rng M hM).2
  have e2:((lenP r L).map fun n=>(2:Int) ^ (L-n)).sum=2 ^ (L-M)*((lenP r L).map fun n=>(2:Int) ^ (M-n)).sum:=by
   have:∀l:List Nat,(∀n∈l,n≤M)→(l.map fun n=>(2:Int) ^ (L-n)).sum=2 ^ (L-M)*(l.map fun n=>(2:Int) ^ (M-n)).sum:=fun l=>by
    induction l with
    | nil=>intro _;simp
    | cons n l ih=>
     intro h
     have hn:=h n List.mem_cons_self
     rw [List.map_cons,List.sum_cons,List.map_cons,List.sum_cons,ih fun m hm=>h m (List.mem_cons_of_mem _ hm),Int.mul_add, ←Int.pow_add,show L-n=L-M+(M-n) by first|lia|omega]
   exact this _ hx
  rw [e2] at k
  have e3:(2:Int) ^ L=2 ^ (L-M)*2 ^ M:=by rw [←Int.pow_add,show L-M+M=L by first|lia|omega]
  rw [e3] at k
  have p:(2:Int) ^ (L-M)≠0:=Int.ne_of_gt (Int.pow_pos (by decide))
  exact Int.le_of_eq (Int.eq_of_mul_eq_mul_left p k)
end Z
namespace Z
open PySem L2
def keyOf (ns:List Nat) (i:Nat):Int:=((ns.getD i 0:Nat):Int)*64+i
def stOf:List Nat→Nat×Nat:=List.foldl (fun q len=>(q.1*2 ^ (len-q.2)+1,len)) (0,0)
def LcR (ns:List Nat) (cs:List Str):Prop:=cs.length=ns.length∧∃o:List Nat,o.Perm (List.range ns.length)∧o.Pairwise (fun i j=>keyOf ns i<keyOf ns j) ∧
 ∀(k i:Nat),o[k]? = some i→cs[i]? = some (figs ((stOf ((o.take k).map fun j=>ns.getD j 0)).1*2 ^ (ns.getD i 0-(stOf ((o.take k).map fun j=>ns.getD j 0)).2)) (ns.getD i 0))
theorem rSrt_nil {K:PySem.W.Frag} {σ:L2.St} {H:Hp} {p:Addr} {as:List Addr} {x key:Nat→Int} {Q:VK} (hq:SqL K H p (as.map V.ref)) (h1:1≤as.length) (h64:as.length<64) (ht:∀(i:Nat) a,as[i]? = some a→SqT K H a [.int (x i), .int i])
  (hk:∀i,key i=x i*64+i)
  (k:∀(o:List Nat) (bs:List Addr) (q:Addr) (H':Hp),o.Perm (List.range as.length)→o.Pairwise (fun i j=>key i<key j)→bs.length=o.length→(∀(k i:Nat),o[k]? = some i→bs[k]? = as[i]?)→New H q (.lst (bs.map V.ref)) H'→Q (.ref q) H') :
  tNil σ H fun xs H2=>rSrt K (V.ref p :: xs) H2 Q:=rSrt_of K hq h1 h64 ht hk k
section
variable {P:Program} {w:World} {K:PySem.W.Frag} {mg:Str→Option Value} {base:Heap} {f:Addr} {fd:FuncData}
theorem sc_least_codes:FnScope ["lengths", "codes", "number", "figures", "length", "at"] ["lengths"] (defScope (top i_least_codes)):=⟨rfl,rfl,rfl,by decide +kernel,rfl,by decide +kernel,by decide +kernel⟩
theorem ok_lc (F:Fun K "least_codes" "least_codes" (top i_least_codes) f fd) (T:Nm mg) (n_sorted:mg "sorted" = none) (f_two_to:Fn P w K mg base 1 "two_to" ["power"] spTwo) (f_figures_of:Fn P w K mg base 1 "figures_of" ["number", "many"] spFig):FnOk P w K mg base CX0 2 f fd ["lengths"] (spLC K LcR):=by
 refine F.ok sc_least_codes (fun vs H Q E h => ?_) (fun cdv A outer s H vs Q E hr h => ?_)
 ·obtain ⟨l,ns,rfl,_⟩:=h
  rfl
 obtain ⟨l,ns,rfl,hS,b1,b2,hb,_,q⟩:=h
 have hu6:=hr.units
 refine ⟨_,(pss_cons (ps_set (i:=1) sc_least_codes.nd rfl (Or.inl rfl) (pe_op mulN (lstN (pa_cons pe_str pa_nil)) (pe_callB (lenK K) rfl T.n_len (by rfl) (pa_cons (pv 0) pa_nil))))
  (pss_cons (ps_set (i:=2) sc_least_codes.nd rfl (Or.inl rfl) pe_int)
  (pss_cons (ps_set (i:=3) sc_least_codes.nd rfl (Or.inl rfl) pe_int)
  (pss_cons (ps_for PassesOwn.never rfl (piK K (pe_callB (sortedP K) rfl n_sorted (by rfl) (pa_cons (pe_lcomp rfl (comp_ok (Nc:=["at", "length"]) (Fc:=[]) (js:=[])) (enumK K rfl T.n_enumerate (pa_cons (pv 0) pa_nil)) (gk_tup (gks_cons (gk_name (i:=0) (n:=2) (by decide)) (gks_cons (gk_name (i:=1) (n:=2) (by decide)) gks_nil gm_name gms_nil) gm_name (gms_cons gm_name gms_nil))) (fun _ _ _ _ _=>(tupK K 2 rfl (pgs_cons (pg_name (i:=0) (show (["at", "length"]:List Str).Nodup by decide +kernel) rfl (Or.inl rfl)) (pgs_cons (pg_name (i:=1) (show (["at", "length"]:List Str).Nodup by decide +kernel) rfl (Or.inl rfl)) pgs_nil)))) (fun _ _ _ _ _=>pts_nil) (fun _ _ _ _ _=>(tupN (pa_cons (pv 1) (pa_cons (pv 0) pa_nil))))) pa_nil))) (tupK K 2 rfl (pgs_cons (pg_name (i:=4) sc_least_codes.nd rfl (Or.inl rfl)) (pgs_cons (pg_name (i:=5) sc_least_codes.nd rfl (Or.inl rfl)) pgs_nil))) (pss_cons (ps_aug (i:=2) sc_least_codes.nd rfl (Or.inl rfl) (pe_fn (f_two_to.mono (by first|decide|exact Nat.le_refl _|(first|lia|omega))) hr rfl (pa_cons (pe_op op_sub (pv 4) (pv 3)) pa_nil)) iop_mul)
  (pss_cons (ps_set (i:=3) sc_least_codes.nd rfl (Or.inl rfl) (pv 4))
  (pss_cons (ps_asg (pe_fn (f_figures_of.mono (by first|decide|exact Nat.le_refl _|(first|lia|omega))) hr rfl (pa_cons (pv 2) (pa_cons (pv 3) pa_nil))) (pg_sub (pv 1) (pv 5) set_list))
  (pss_one (ps_aug (i:=2) sc_least_codes.nd rfl (Or.inl rfl) pe_int ip_add))))))
  (pss_one (ps_ret (pv 1))))))),?_⟩
 have hlen:(ns.map fun (n:Nat)=>V.int (n:Int)).length=ns.length:=List.length_map _
 refine ⟨by show 1≤sizeLine;decide,fun pe H1 n1 => ?_⟩
 refine ⟨_,rfl,_,_,rfl, .inl ⟨_,n1.same.seq hS,rfl⟩, .inr ⟨pe,_,_,rfl,rfl,n1.at,by first|lia|omega,by first|lia|omega,?_,fun pc H2 n2 => ?_⟩⟩
 ·rw [hlen];exact Nat.le_trans (show 1*(ns.length:Int).toNat≤64 by first|lia|omega) (by decide)
 have sm2:=n1.same.trans n2.same
 have hflat:(List.replicate (((ns.map fun (n:Nat)=>V.int (n:Int)).length:Nat):Int).toNat [V.str (Str.ofString "")]).flatten=(List.replicate ns.length (Str.ofString "")).map V.str:=by
  rw [hlen]
  have:((ns.length:Nat):Int).toNat=ns.length:=by (first|lia|omega)
  rw [this,List.map_replicate]
  induction ns.length with
  | zero=>rfl
  | succ m ih=>rw [List.replicate_succ,List.flatten_cons,ih,List.replicate_succ];rfl
 have hc2:=n2.at
 rw [hflat] at hc2
 have hgd:∀j (hj:j<ns.length),ns.getD j 0=ns[j]:=fun j hj=>by simp [List.getD,hj]
 refine ⟨_,rfl,l,rfl,⟨_,sm2.seq hS⟩,?_⟩
 refine comp_go (N:=ns.length) (fun i ys H'=>∃as:List Addr,ys=as.map V.ref∧as.length=i∧Same H2 H'∧∀(j:Nat) a,as[j]? = some a→a≠pc∧H' a=some (.tup [.int (ns.getD j 0:Nat), .int (j:Nat)])) ⟨[],rfl,rfl,Same.refl _,fun j a e=>by simp at e⟩ ?_ ?_
 ·intro i ys H3 Nx hi hz_ nx
  refine Elim.el hz_ _ ?_
  clear hz_
  rintro as rfl hal sm3 has
  have hS3:=(sm2.trans sm3).seq hS
  have hx:(ns.map fun (n:Nat)=>V.int (n:Int))[i]? = some (V.int ((ns[i]:Nat):Int)):=by rw [List.getElem?_map,List.getElem?_eq_getElem hi];rfl
  refine ⟨⟨_,_,hS3,hx⟩,Nat.lt_of_lt_of_le (show (as.map V.ref).length<1000 by rw [List.length_map]; (first|lia|omega)) (by decide),?_⟩
  rintro v H4 ⟨T',rfl,hT0,hT⟩
  have e4:=hT _ _ hS3 hx
  subst e4
  refine ⟨T',_,rfl,SqT.of upd_same,rfl,_,_,rfl,_,_,rfl,rfl,?_⟩
  refine ⟨_,rfl,_,rfl,by show 2≤sizeLine;decide,fun pt H5 n5=>nx _ _ ⟨as++[pt],by rw [List.map_append];rfl,by rw [List.length_append,hal];rfl,sm3.trans ((same_new hT0 _).trans n5.same),fun j a e => ?_⟩⟩
  by_cases hj:j<as.length
  ·rw [List.getElem?_append_left hj] at e
   obtain ⟨g1,g2⟩:=has j a e
   exact ⟨g1,n5.same _ _ (same_new hT0 _ _ _ g2)⟩
  ·have:j=as.length:=by
    have:=(List.getElem?_eq_some_iff.mp e).1
    simp at this; (first|lia|omega)
   subst this
   rw [List.getElem?_append_right (Nat.le_refl _),Nat.sub_self] at e
   cases e
   refine ⟨fun z => ?_,?_⟩
   ·have:=n5.nn
    rw [z] at this
    rw [same_new hT0 _ _ _ (sm3 _ _ n2.at)] at this
    cases this
   ·rw [n5.at,hal,hgd i hi]
 intro ys H3 hz_
 refine Elim.el hz_ _ ?_
 clear hz_
 rintro as rfl hal sm3 has
 refine ⟨⟨_,(sm2.trans sm3).seq hS,by rw [hlen];exact Nat.le_refl _⟩,fun pl hpl => ?_⟩
 obtain ⟨H4,n4⟩:∃H4,New H3 pl (.lst (as.map V.ref)) H4:=⟨_,hpl,rfl⟩
 rw [←n4.eq]
 refine rSrt_nil (K:=K) (x:=fun j=>(ns.getD j 0:Nat)) (key:=keyOf ns) (SqL.of n4.at) (by first|lia|omega) (by first|lia|omega) (fun i a e=>SqT.of (n4.same _ _ (has i a e).2)) (fun i=>rfl) fun o bs qs H5 po pw hbl hbs n5 => ?_
 have sm5:Same H H5:=sm2.trans (sm3.trans (n4.same.trans n5.same))
 have hol:o.length=ns.length:=by rw [po.length_eq,List.length_range,hal]
 have hin:∀i∈o,i<ns.length:=fun i hi=>by have:=List.mem_range.mp (po.subset hi); (first|lia|omega)
 have hpc5:H5 pc=some (.lst ((List.replicate ns.length (Str.ofString "")).map V.str)):=n5.same _ _ (n4.same _ _ (sm3 _ _ hc2))
 have hqp:qs≠pc:=fun z=>by
  have:=n5.nn
  rw [z,n4.same _ _ (sm3 _ _ n2.at)] at this
  cases this
 have htup:∀(k:Nat) b,bs[k]? = some b→∃i,o[k]? = some i∧i<ns.length∧b≠pc∧H5 b=some (.tup [.int (ns.getD i 0:Nat), .int (i:Nat)]):=fun k b e=>by
  have hk:k<o.length:=by have:=(List.getElem?_eq_some_iff.mp e).1; (first|lia|omega)
  have eo:o[k]? = some o[k]:=List.getElem?_eq_getElem hk
  have ea:=hbs k _ eo
  rw [e] at ea
  obtain ⟨g1,g2⟩:=has _ _ ea.symm
  exact ⟨_,eo,hin _ (List.getElem_mem hk),g1,n5.same _ _ (n4.same _ _ g2)⟩
 let st:=fun k=>stOf ((o.take k).map fun j=>ns.getD j 0)
 refine ⟨qs,rfl,⟨_,SqL.of n5.at⟩,?_⟩
 refine for_list (K:=K) (a:=qs) (xs:=bs.map V.ref) (fun k σ H'=>Ex3 fun (x4 x5:Option V) (cur:List Str) => σ=[some (.ref l),some (.ref pc),some (.int ((st k).1:Nat)),some (.int ((st k).2:Nat)),x4,x5]∧cur.length=ns.length∧H' pc=some (.lst (cur.map V.str)) ∧
   (∀a u,a≠pc→H5 a=some u→H' a=some u)∧∀(k' i:Nat),k'<k→o[k']? = some i→cur[i]? = some (figs ((st k').1*2 ^ (ns.getD i 0-(st k').2)) (ns.getD i 0)))
  ⟨_,_,List.replicate ns.length (Str.ofString ""),rfl,by simp,hpc5,fun a u _ e=>e,fun k' i h=>absurd h (Nat.not_lt_zero _)⟩ (fun k σ H' _ ⟨_,_,_,_,_,_,kp,_⟩=>SqL.of (kp _ _ hqp n5.at)) ?_ ?_
 ·intro k x σ H6 hx hz_
  refine Elim.el hz_ _ ?_
  clear hz_
  rintro x4 x5 cur rfl hcl hcur kp hfig
  obtain ⟨b,eb,rfl⟩:∃b,bs[k]? = some b∧x=V.ref b:=by
   rw [List.getElem?_map] at hx
   cases e:bs[k]? with
   | none=>rw [e] at hx;cases hx
   | some b=>rw [e] at hx;cases hx;exact ⟨b,rfl,rfl⟩
  refine Elim.el (htup k b eb) _ ?_
  rintro i ei hi hbp hb5
  have hk:k<o.length:=(List.getElem?_eq_some_iff.mp ei).1
  have hb6:=kp _ _ hbp hb5
  have hst:∀m j,o[m]? = some j→st (m+1)=((st m).1*2 ^ (ns.getD j 0-(st m).2)+1,ns.getD j 0):=fun m j e=>by
   show stOf ((o.take (m+1)).map _)=_
   have hm:m<o.length:=(List.getElem?_eq_some_iff.mp e).1
   have ej:o[m]=j:=(List.getElem?_eq_some_iff.mp e).2
   rw [List.take_succ_eq_append_getElem hm,List.map_append]
   unfold stOf
   rw [List.foldl_append]
   show _=_
   rw [ej]
   rfl
  have fle:(st k).2≤ns.getD i 0:=by
   match k,ei with
   | 0,_=>exact Nat.zero_le _
   | m+1,ei=>
    have hm1:m+1<o.length:=(List.getElem?_eq_some_iff.mp ei).1
    have em:o[m]? = some o[m]:=List.getElem?_eq_getElem (by first|lia|omega)
    rw [hst m _ em]
    have:=List.pairwise_iff_getElem.mp pw m (m+1) (by first|lia|omega) hm1 (by first|lia|omega)
    have e1:o[m+1]=i:=(List.getElem?_eq_some_iff.mp ei).2
    rw [e1] at this
    unfold keyOf at this
    have:=hin _ (List.getElem_mem (show m<o.length by first|lia|omega))
    show ns.getD o[m] 0≤_
    (first|lia|omega)
  have hle:1≤ns.getD i 0∧ns.getD i 0≤60:=by rw [hgd i hi];exact hb _ (List.getElem_mem hi)
  refine ⟨b,_,rfl,SqT.of hb6,rfl,_,_,rfl,_,_,rfl,rfl,?_⟩
  refine ⟨_,rfl,_,rfl,_,rfl,_,_,rfl,rfl,ns.getD i 0-(st k).2,?_,by first|lia|omega,_,_,rfl,rfl, .inr ⟨?_,?_⟩,?_⟩
  ·show [V.int (((ns.getD i 0:Nat):Int)-((st k).2:Nat))]=_
   congr 2
   (first|lia|omega)
  ·have:(0:Int)≤2 ^ (ns.getD i 0-(st k).2):=two_pow_nn _
   (first|lia|omega)
  ·have h1:(2:Nat) ^ (ns.getD i 0-(st k).2)≤2 ^ 60:=Nat.pow_le_pow_right (by decide) (by first|lia|omega)
   have h2:((2:Int) ^ (ns.getD i 0-(st k).2))=(((2:Nat) ^ (ns.getD i 0-(st k).2):Nat):Int):=by rw [Int.natCast_pow];rfl
   rw [h2]
   have:((2:Nat) ^ 60)<2 ^ 64:=by decide
   have h3:(2:Nat) ^ (ns.getD i 0-(st k).2)<2 ^ 64:=Nat.lt_of_le_of_lt h1 this
   exact_mod_cast h3
  refine ⟨_,rfl,?_⟩
  obtain ⟨num,hnum⟩:∃num:Nat,num=(st k).1*2 ^ (ns.getD i 0-(st k).2):=⟨_,rfl⟩
  have hnumI:(((st k).1:Nat):Int)*2 ^ (ns.getD i 0-(st k).2)=(num:Int):=by
   rw [hnum,Int.natCast_mul,Int.natCast_pow];rfl
  refine ⟨_,rfl,_,rfl,num,ns.getD i 0,?_,hle.2,fun H7 sm7 => ?_⟩
  ·show [V.int ((((st k).1:Nat):Int)*2 ^ (ns.getD i 0-(st k).2)),V.int ((ns.getD i 0:Nat):Int)]=_
   rw [hnumI]
  refine ⟨_,rfl,_,rfl,pc,_,(i:Int),i,rfl,rfl,sm7 _ _ hcur,?_,?_⟩
  ·rw [ixN_of (by first|lia|omega) (by rw [List.length_map,hcl]; (first|lia|omega))];rfl
  refine ⟨_,rfl,_,_,rfl,rfl,some (.int (ns.getD i 0:Nat)),some (.int i),cur.set i (figs num (ns.getD i 0)),?_,by rw [List.length_set];exact hcl,?_,fun a u ha e => ?_,fun k' i' hk' e' => ?_⟩
  ·show [some (V.ref l),some (V.ref pc),some (V.int ((((st k).1:Nat):Int)*2 ^ (ns.getD i 0-(st k).2)+1)),some (V.int ((ns.getD i 0:Nat):Int)),some (V.int ((ns.getD i 0:Nat):Int)),some (V.int (i:Int))]=_
   rw [hst k i ei, ←hnum,hnumI]
   rfl
  ·rw [upd_same,List.map_set]
  ·rw [upd_ne ha]
   exact sm7 _ _ (kp a u ha e)
  ·by_cases z:k'=k
   ·subst z
    rw [ei] at e';cases e'
    rw [List.getElem?_set_self (by rw [hcl];exact hi),hnum]
   ·have hne:i'≠i:=fun w=>by
     subst w
     have h1:k'<o.length:=(List.getElem?_eq_some_iff.mp e').1
     have:=List.pairwise_iff_getElem.mp pw k' k h1 hk (by first|lia|omega)
     rw [(List.getElem?_eq_some_iff.mp e').2,(List.getElem?_eq_some_iff.mp ei).2] at this
     (first|lia|omega)
    rw [List.getElem?_set_ne (Ne.symm hne)]
    exact hfig k' i' (by first|lia|omega) e'
 ·intro σ H6 hz_
  refine Elim.el hz_ _ ?_
  clear hz_
  rintro x4 x5 cur rfl hcl hcur kp hfig
  refine ⟨_,rfl,q cur pc H6 ⟨hcl,o,by rw [←hal];exact po,pw,fun k i e => ?_⟩ (fun a u e => ?_) ?_ hcur⟩
  ·have hk:k<o.length:=(List.getElem?_eq_some_iff.mp e).1
   exact hfig k i (by rw [List.length_map,hbl];exact hk) e
  ·refine kp a u (fun z => ?_) (sm5 _ _ e)
   have:=n2.nn
   rw [←z,n1.same _ _ e] at this
   cases this
  ·cases z:H pc with
   | none=>rfl
   | some u=>have:=n2.nn;rw [n1.same _ _ z] at this;cases this
end
end Z
namespace Z
open PySem L2 PyProof.Rows
def spUa (K:PySem.W.Frag):Sp:=fun vs H Q _=>Ex5 fun (pr pl:Addr) (r M:List Int) (t:Int)=>vs=[.ref pr, .ref pl, .int t]∧H pr=some (.lst (natI r))∧H pl=some (.lst (natI M))∧r.length≤100∧(∀u∈r,u∈M) ∧
 ∀H',Same H H'→Q (.int (uam r M t:Nat)) H'
theorem idx_at {M:List Int} {u:Int} (h:u∈M):M[M.idxOf u]? = some u∧∀m,m<M.idxOf u→M[m]? ≠ some u:=by
 have hl:M.idxOf u<M.length:=List.idxOf_lt_length_iff.mpr h
 refine ⟨by rw [List.getElem?_eq_getElem hl,List.getElem_idxOf hl],fun m hm e => ?_⟩
 have hm':m<List.findIdx (· == u) M:=hm
 have:=List.not_of_lt_findIdx hm'
 rw [List.getElem?_eq_getElem (by first|lia|omega)] at e
 rw [Option.some.inj e] at this
 simp at this
section
variable {P:Program} {w:World} {K:PySem.W.Frag} {mg:Str→Option Value} {base:Heap} {f:Addr} {fd:FuncData} {C:Addr}
theorem sc_uses_among:FnScope ["rising", "layer", "taken", "places"] ["rising", "layer", "taken"] (defScope (top i_uses_among)):=⟨rfl,rfl,rfl,by decide +kernel,rfl,by decide +kernel,by decide +kernel⟩
theorem ok_ua (F:Fun K "uses_among" "uses_among" (top i_uses_among) f fd) (T:Nm mg):FnOk P w K mg base CX0 1 f fd ["rising", "layer", "taken"] (spUa K):=by
 refine F.ok sc_uses_among (fun vs H Q E h => ?_) (fun cdv A outer s H vs Q E hr h => ?_)
 ·obtain ⟨pr,pl,r,M,t,rfl,_⟩:=h
  rfl
 obtain ⟨pr,pl,r,M,t,rfl,hpr,hpl,rl,sub,q⟩:=h
 have hu6:=hr.units
 refine ⟨_,(pss_cons (ps_setcomp (i:=3) sc_uses_among.nd rfl (Or.inl rfl) rfl (comp_ok (Nc:=["at", "use"]) (Fc:=["rising", "layer"]) (js:=[0,1])) (enumK K rfl T.n_enumerate (pa_cons (pv 0) pa_nil)) (gk_tup (gks_cons (gk_name (i:=0) (n:=2) (by decide)) (gks_cons (gk_name (i:=1) (n:=2) (by decide)) gks_nil gm_name gms_nil) gm_name (gms_cons gm_name gms_nil))) (fun _ _ _ _ _=>(tupK K 2 rfl (pgs_cons (pg_name (i:=0) (show (["at", "use", "rising", "layer"]:List Str).Nodup by decide +kernel) rfl (Or.inl rfl)) (pgs_cons (pg_name (i:=1) (show (["at", "use", "rising", "layer"]:List Str).Nodup by decide +kernel) rfl (Or.inl rfl)) pgs_nil)))) (fun _ _ _ _ _=>pts_nil) (fun _ _ _ _ _=>(pe_op op_sub (pe_op addN (bmK K PySem.F.plainAttrs_list PySem.F.slot_list_index PySem.F.type_list_index indexN (pv 3) (pa_cons (pv 1) pa_nil)) (pv 0)) (bmK K PySem.F.plainAttrs_list PySem.F.slot_list_index PySem.F.type_list_index indexN (pv 2) (pa_cons (pv 1) pa_nil)))))
  (pss_one (ps_ret (pe_callB (lenK K) rfl T.n_len (by rfl) (pa_cons (pe_lcomp rfl (comp_ok (Nc:=["place"]) (Fc:=["taken"]) (js:=[2])) (piK K (pv 3)) (gk_name (i:=0) (n:=1) (by decide)) (fun _ _ _ _ _=>(pg_name (i:=0) (show (["place", "taken"]:List Str).Nodup by decide +kernel) rfl (Or.inl rfl))) (fun _ _ _ _ _=>(pts_one (pt_cmpR op_lt (pv 0) (pv 1) (nomark _)))) (fun _ _ _ _ _=>(pv 0))) pa_nil))))),?_⟩
 have vl:(natI r).length=r.length:=List.length_map _
 refine ⟨_,rfl,pr,rfl,⟨_,SqL.of hpr⟩,?_⟩
 refine comp_go (N:=r.length) (fun i ys H'=>Same H H'∧ys=natI ((List.range i).map (plc r M))) ⟨Same.refl _,rfl⟩ ?_ ?_
 ·rintro i ys H1 Nx hi ⟨sm1,rfl⟩ nx
  have hS1:SqL K H1 pr (natI r):=SqL.of (sm1 _ _ hpr)
  have hx:(natI r)[i]? = some (V.int r[i]):=by rw [List.getElem?_map,List.getElem?_eq_getElem hi];rfl
  refine ⟨⟨_,_,hS1,hx⟩,Nat.lt_of_le_of_lt (show _≤1000 by rw [List.length_map,List.length_map,List.length_range]; (first|lia|omega)) (by decide),?_⟩
  rintro v H2 ⟨T',rfl,hT0,hT⟩
  have e2:=hT _ _ hS1 hx
  subst e2
  refine ⟨T',_,rfl,SqT.of upd_same,rfl,_,_,rfl,_,_,rfl,rfl,?_⟩
  have sm2:Same H (upd H1 T' (.tup [.int i, .int r[i]])):=sm1.trans (same_new hT0 _)
  have hpr2:=sm2 _ _ hpr
  have hpl2:=sm2 _ _ hpl
  have e0:r.getD i 0=r[i]:=by simp [List.getD,hi]
  have mr:r[i]∈r:=List.getElem_mem hi
  obtain ⟨a1,a2⟩:=idx_at (sub _ mr)
  obtain ⟨b1,b2⟩:=idx_at mr
  refine ⟨_,rfl, .inl ⟨rfl,_,SqL.of hpl2⟩,_,rfl,pl,M,r[i],_,rfl,rfl,hpl2,a1,a2,?_⟩
  refine ⟨_,rfl, .inl ⟨_,_,rfl,rfl,?_⟩⟩
  refine ⟨_,rfl, .inl ⟨rfl,_,SqL.of hpr2⟩,_,rfl,pr,r,r[i],_,rfl,rfl,hpr2,b1,b2,_,_,rfl,rfl,nx _ _ ⟨sm2,?_⟩⟩
  rw [List.range_succ,List.map_append]
  simp only [natI,List.map_append,List.map_cons,List.map_nil]
  unfold plc
  rw [e0]
 ·rintro ys H1 ⟨sm1,rfl⟩
  refine ⟨⟨_,SqL.of (sm1 _ _ hpr),by rw [vl];exact Nat.le_refl _⟩,fun p hp => ?_⟩
  obtain ⟨H2,n2⟩:∃H2,New H1 p (.lst (natI ((List.range r.length).map (plc r M)))) H2:=⟨_,hp,rfl⟩
  rw [←n2.eq]
  refine gn ?_
  have hS2:SqL K H2 p (natI ((List.range r.length).map (plc r M))):=SqL.of n2.at
  refine ⟨_,rfl,p,rfl,⟨_,hS2⟩,?_⟩
  refine comp_go (N:=r.length) (fun i ys H'=>H'=H2∧ys=natI (((List.range i).map (plc r M)).filter fun x=>decide (x<t))) ⟨rfl,rfl⟩ ?_ ?_
  ·rintro i ys H3 Nx hi ⟨rfl,rfl⟩ nx
   have hx:(natI ((List.range r.length).map (plc r M)))[i]? = some (V.int (plc r M i)):=by rw [List.getElem?_map,List.getElem?_map,List.getElem?_range hi];rfl
   refine ⟨⟨_,_,hS2,hx⟩,Nat.lt_of_le_of_lt (show _≤1000 by rw [List.length_map];have:=List.length_filter_le (fun x=>decide (x<t)) ((List.range i).map (plc r M));rw [List.length_map,List.length_range] at this; (first|lia|omega)) (by decide),?_⟩
   rintro x' H4 ⟨rfl,hy⟩
   have e:=hy _ hS2
   rw [hx] at e;cases e
   refine gn ⟨_,rfl,_,rfl,_,_,rfl,rfl,_,rfl,ite2 (fun c => ?_) (fun c => ?_)⟩
   ·refine ⟨_,rfl,nx _ _ ⟨rfl,?_⟩⟩
    rw [List.range_succ,List.map_append,List.map_cons,List.map_nil,List.filter_append,List.filter_cons_of_pos (p:=fun x=>decide (x<t)) c]
    simp only [natI,List.map_append,List.filter_nil,List.map_cons,List.map_nil]
   ·refine nx _ _ ⟨rfl,?_⟩
    rw [List.range_succ,List.map_append,List.map_cons,List.map_nil,List.filter_append,List.filter_cons_of_neg (p:=fun x=>decide (x<t)) c]
    simp only [List.filter_nil,List.append_nil]
  ·rintro ys H3 ⟨rfl,rfl⟩
   refine ⟨⟨_,hS2,by rw [List.length_map,List.length_map,List.length_range];exact Nat.le_refl _⟩,fun p3 hp3 => ?_⟩
   obtain ⟨H4,n4⟩:∃H4,New H3 p3 (.lst (natI (((List.range r.length).map (plc r M)).filter fun x=>decide (x<t)))) H4:=⟨_,hp3,rfl⟩
   rw [←n4.eq]
   have el:(natI (((List.range r.length).map (plc r M)).filter fun x=>decide (x<t))).length=uam r M t:=by
    rw [List.length_map, ←List.countP_eq_length_filter,List.countP_map]
    rfl
   refine ⟨_,_,rfl, .inl ⟨_,SqL.of n4.at,rfl⟩,?_⟩
   rw [el]
   exact q _ (sm1.trans (n2.same.trans n4.same))
def spLnb (K:PySem.W.Frag):Sp:=fun vs H Q _=>Ex4 fun (pr pl:Addr) (r:List Int) (as:List Addr)=>vs=[.ref pr, .ref pl]∧H pr=some (.lst (natI r))∧H pl=some (.lst (as.map V.ref))∧(∀i a,as[i]? = some a→H a=some (.lst (natI (lay r i))))∧1≤r.length∧r.length≤48∧as.length≤30 ∧
 ∀(q:Addr) (H':Hp),Same H H'→H q=none→H' q=some (.lst ((lenP r as.length).map fun (n:Nat)=>V.int (n:Int)))→Q (.ref q) H'
theorem lay_sub (r:List Int) (j:Nat):∀u∈r,u∈lay r j:=fun u hu=>(lay_perm r j).symm.subset (List.mem_append_left _ hu)
theorem sc_lengths_by:FnScope ["rising", "layers", "lengths", "taken", "layer", "many", "at"] ["rising", "layers"] (defScope (top i_lengths_by)):=⟨rfl,rfl,rfl,by decide +kernel,rfl,by decide +kernel,by decide +kernel⟩
theorem ok_lnb (F:Fun K "lengths_by" "lengths_by" (top i_lengths_by) f fd) (T:Nm mg) (n_reversed:mg "reversed" = none) (f_uses_among:Fn P w K mg base 1 "uses_among" ["rising", "layer", "taken"] (spUa K)):FnOk P w K mg base CX0 2 f fd ["rising", "layers"] (spLnb K):=by
 refine F.ok sc_lengths_by (fun vs H Q E h => ?_) (fun cdv A outer s H vs Q E hr h => ?_)
 ·obtain ⟨pr,pl,r,as,rfl,_⟩:=h
  rfl
 obtain ⟨pr,pl,r,as,rfl,hpr,hpl,has,r1,r2,al,q⟩:=h
 have hu6:=hr.units
 refine ⟨_,(pss_cons (ps_if (pt_cmpR (eqK K hu6) (pe_callB (lenK K) rfl T.n_len (by rfl) (pa_cons (pv 0) pa_nil)) pe_int (nomark _)) (pss_one (ps_ret (lstN (pa_cons pe_int pa_nil)))) pss_nil)
  (pss_cons (ps_set (i:=2) sc_lengths_by.nd rfl (Or.inl rfl) (pe_op mulN (lstN (pa_cons pe_int pa_nil)) (pe_callB (lenK K) rfl T.n_len (by rfl) (pa_cons (pv 0) pa_nil))))
  (pss_cons (ps_set (i:=3) sc_lengths_by.nd rfl (Or.inl rfl) (pe_op op_sub (pe_op mulN pe_int (pe_callB (lenK K) rfl T.n_len (by rfl) (pa_cons (pv 0) pa_nil))) pe_int))
  (pss_cons (ps_for PassesOwn.never rfl (revK K rfl n_reversed (pa_cons (pv 1) pa_nil)) (pg_name (i:=4) sc_lengths_by.nd rfl (Or.inl rfl)) (pss_cons (ps_set (i:=5) sc_lengths_by.nd rfl (Or.inl rfl) (pe_fn (f_uses_among.mono (by first|decide|exact Nat.le_refl _|(first|lia|omega))) hr rfl (pa_cons (pv 0) (pa_cons (pv 4) (pa_cons (pv 3) pa_nil)))))
  (pss_cons (ps_for PassesOwn.never rfl (pi_range1 rfl T.n_range (pa_cons (pv 5) pa_nil)) (pg_name (i:=6) sc_lengths_by.nd rfl (Or.inl rfl)) (pss_one (ps_augS (pv 2) (pv 6) get_list pe_int ip_add set_list)))
  (pss_one (ps_set (i:=3) sc_lengths_by.nd rfl (Or.inl rfl) (pe_op mulN pe_int (pe_op op_sub (pv 3) (pv 5))))))))
  (pss_one (ps_ret (pv 2))))))),?_⟩
 have vl:(natI r).length=r.length:=List.length_map _
 refine ⟨_,rfl,_,_,rfl, .inl ⟨_,SqL.of hpr,rfl⟩, .inl ⟨rfl,_,rfl,ite2 (fun c1 => ?_) (fun c1 => ?_)⟩⟩
 ·have e1:r.length=1:=by
   have:=of_decide_eq_true c1
   injection this with this
   (first|lia|omega)
  refine ⟨by show 1≤sizeLine;decide,fun p H1 n1=>q p H1 n1.same n1.nn ?_⟩
  unfold lenP
  rw [if_pos e1]
  exact n1.at
 have e1:r.length≠1:=fun z=>c1 (by rw [vl,z];rfl)
 refine ⟨by show 1≤sizeLine;decide,fun pe H1 n1 => ?_⟩
 refine ⟨_,rfl,_,_,rfl, .inl ⟨_,SqL.of (n1.same _ _ hpr),rfl⟩, .inr ⟨pe,_,_,rfl,rfl,n1.at,by first|lia|omega,by first|lia|omega,?_,fun ps H2 n2 => ?_⟩⟩
 ·rw [vl];exact Nat.le_trans (show 1*(r.length:Int).toNat≤64 by first|lia|omega) (by decide)
 have sm2:=n1.same.trans n2.same
 obtain ⟨L,hL⟩:∃L,L=as.length:=⟨_,rfl⟩
 have hflat:(List.replicate (((natI r).length:Nat):Int).toNat [V.int 0]).flatten=(List.range r.length).map fun i=>V.int ((lnK r L 0 i:Nat):Int):=by
  rw [vl]
  have:((r.length:Nat):Int).toNat=r.length:=by (first|lia|omega)
  rw [this]
  induction r.length with
  | zero=>rfl
  | succ m ih=>
   rw [List.replicate_succ',List.flatten_append,ih,List.range_succ,List.map_append]
   rfl
 have hc2:=n2.at
 rw [hflat] at hc2
 refine gn ?_
 refine ⟨_,rfl,_,_,rfl, .inl ⟨_,SqL.of (sm2 _ _ hpr),rfl⟩, .inl ⟨_,_,rfl,rfl, .inl ⟨by decide,by decide⟩,_,_,rfl,rfl,?_⟩⟩
 have et:(2:Int)*(((natI r).length:Nat):Int)-2=tkn r L 0:=by rw [vl];rfl
 dsimp only
 rw [et]
 refine gn ?_
 have psn:∀a o,H a=some o→a≠ps:=fun a o e z=>by
  have:=n2.nn
  rw [←z,n1.same _ _ e] at this
  cases this
 refine seqCut (t:=tFor _ _ _) (fun σ H'=>Ex3 fun (x4 x5 x6:Option V) => σ=[some (.ref pr),some (.ref pl),some (.ref ps),some (.int (tkn r L L)),x4,x5,x6]∧H' ps=some (.lst ((List.range r.length).map fun i=>V.int ((lnK r L L i:Nat):Int)))∧∀a o,a≠ps→H2 a=some o→H' a=some o) (fun Nx nx => ?_) ?_
 ·refine ⟨_,rfl,pl,_,rfl,SqL.of (sm2 _ _ hpl),?_⟩
  have vla:(as.map V.ref).length=L:=by rw [List.length_map,hL]
  rw [vla]
  refine for_go (N:=L) (fun k σ H'=>Ex3 fun (x4 x5 x6:Option V) => σ=[some (.ref pr),some (.ref pl),some (.ref ps),some (.int (tkn r L k)),x4,x5,x6]∧H' ps=some (.lst ((List.range r.length).map fun i=>V.int ((lnK r L k i:Nat):Int)))∧∀a o,a≠ps→H2 a=some o→H' a=some o) ⟨_,_,_,rfl,hc2,fun a o _ e=>e⟩ ?_ ?_
  ·intro k σ H3 hk hz_
   refine Elim.el hz_ _ ?_
   clear hz_
   rintro x4 x5 x6 rfl hps kp
   have hpl3:=kp _ _ (psn _ _ hpl) (sm2 _ _ hpl)
   refine ⟨⟨_,SqL.of hpl3,vla,hk⟩,?_⟩
   rintro x' H4 ⟨rfl,hy⟩
   have e:=hy _ (SqL.of hpl3)
   have ea:as[L-1-k]? = some (as[L-1-k]'(by first|lia|omega)):=List.getElem?_eq_getElem _
   rw [List.getElem?_map,ea] at e
   cases e
   have ha:=has _ _ ea
   have ha3:=kp _ _ (psn _ _ ha) (sm2 _ _ ha)
   refine ⟨_,rfl,_,rfl,_,rfl,pr,_,r,lay r (L-1-k),tkn r L k,rfl,kp _ _ (psn _ _ hpr) (sm2 _ _ hpr),ha3,by first|lia|omega,lay_sub r _,fun H5 sm5=>gn ?_⟩
   have em:uam r (lay r (L-1-k)) (tkn r L k)=mny r L k:=rfl
   rw [em]
   have ml:mny r L k≤r.length:=uam_le _ _ _
   dsimp only
   refine seqCut (t:=tFor _ _ _) (fun σ H'=>∃(x6:Option V), σ=[some (.ref pr),some (.ref pl),some (.ref ps),some (.int (tkn r L k)),some (.ref (as[L-1-k]'(by first|lia|omega))),some (.int (mny r L k:Nat)),x6]∧H' ps=some (.lst ((List.range r.length).map fun i=>V.int ((lnK r L (k+1) i:Nat):Int)))∧∀a o,a≠ps→H5 a=some o→H' a=some o) (fun Nx nx => ?_) ?_
   ·refine ⟨_,rfl,_,rfl,by first|lia|omega,by first|lia|omega,?_⟩
    have eM:(((mny r L k:Nat):Int)).toNat=mny r L k:=by (first|lia|omega)
    refine for_range (lo:=0) (n:=(((mny r L k:Nat):Int)).toNat) (fun i σ H'=>∃(x6:Option V), σ=[some (.ref pr),some (.ref pl),some (.ref ps),some (.int (tkn r L k)),some (.ref (as[L-1-k]'(by first|lia|omega))),some (.int (mny r L k:Nat)),x6]∧H' ps=some (.lst ((List.range r.length).map fun j=>V.int ((lnK r L k j+(if j<i then 1 else 0):Nat):Int)))∧∀a o,a≠ps→H5 a=some o→H' a=some o) ⟨_,rfl,?_,fun a o _ e=>e⟩ ?_ ?_
    ·rw [sm5 _ _ hps]
     congr 2
    ·intro i σ H6 hi hz_
     refine Elim.el hz_ _ ?_
     clear hz_
     rintro x6 rfl hps6 kp6
     have hi:i<r.length:=by (first|lia|omega)
     have hx:((List.range r.length).map fun j=>V.int ((lnK r L k j+(if j<i then 1 else 0):Nat):Int))[i]? = some (V.int ((lnK r L k i:Nat):Int)):=by
      rw [List.getElem?_map,List.getElem?_range hi]
      show some (V.int ((lnK r L k i+(if i<i then 1 else 0):Nat):Int))=_
      rw [if_neg (Nat.lt_irrefl i),Nat.add_zero]
     refine ⟨_,rfl,_,rfl,ps,_,i,_,rfl,by rw [Int.zero_add],hps6,hx,_,_,rfl,rfl,ps,_,_,i,rfl,rfl,hps6,?_,?_⟩
     ·rw [ixN_of (by first|lia|omega) (by rw [List.length_map,List.length_range]; (first|lia|omega))]
      congr 1
      (first|lia|omega)
     ·refine ⟨_,rfl,?_,fun a o ha e=>by rw [upd_ne ha];exact kp6 a o ha e⟩
      rw [upd_same]
      congr 2
      refine List.ext_getElem? fun j => ?_
      by_cases hj:j=i
      ·subst hj
       rw [List.getElem?_set_self (by rw [List.length_map,List.length_range]; (first|lia|omega)),List.getElem?_map,List.getElem?_range hi]
       show _=some (V.int ((lnK r L k j+(if j<j+1 then 1 else 0):Nat):Int))
       rw [if_pos (Nat.lt_succ_self j)]
       rfl
      ·rw [List.getElem?_set_ne (Ne.symm hj),List.getElem?_map,List.getElem?_map]
       cases ez:(List.range r.length)[j]? with
       | none=>rfl
       | some z=>
        have ez2:z=j:=by
         obtain ⟨hz,e⟩:=List.getElem?_eq_some_iff.mp ez
         rw [List.getElem_range] at e
         exact e.symm
        subst ez2
        show some (V.int ((lnK r L k z+(if z<i then 1 else 0):Nat):Int))=some (V.int ((lnK r L k z+(if z<i+1 then 1 else 0):Nat):Int))
        by_cases c:z<i
        ·rw [if_pos c,if_pos (by first|lia|omega)]
        ·rw [if_neg c,if_neg (by first|lia|omega)]
    ·intro σ H6 hz_
     refine Elim.el hz_ _ ?_
     clear hz_
     rintro x6 rfl hps6 kp6
     refine nx _ _ ⟨_,rfl,?_,kp6⟩
     rw [hps6,eM]
     congr 2
     exact List.map_congr_left fun j _=>by rw [lnK_succ]
   ·intro σ H6 hz_
    refine Elim.el hz_ _ ?_
    clear hz_
    rintro x6 rfl hps6 kp6
    refine ⟨_,rfl,_,rfl,_,_,rfl,rfl, .inl ⟨_,_,rfl,rfl, .inl ⟨by decide,by decide⟩,_,_,_,rfl,hps6,fun a o ha e=>kp6 a o ha (sm5 _ _ (kp a o ha e))⟩⟩
  ·intro σ H3 hz_
   refine Elim.el hz_ _ ?_
   clear hz_
   rintro x4 x5 x6 rfl hps kp
   exact ⟨rfl,nx _ _ ⟨_,_,_,rfl,hps,kp⟩⟩
 intro σ H3 hz_
 refine Elim.el hz_ _ ?_
 clear hz_
 rintro x4 x5 x6 rfl hps kp
 refine ⟨_,rfl,q ps H3 (fun a o e=>kp a o (psn _ _ e) (sm2 _ _ e)) (nn_of n1.same n2.nn) ?_⟩
 rw [hps, ←hL]
 unfold lenP
 rw [if_neg e1,List.map_map]
 rfl
end
end Z
namespace Z
open PySem L2
theorem snoc_ind {α:Type} {P:List α→Prop} (h0:P []) (h1:∀l x,P l→P (l++[x])) (l:List α):P l:=by
 have:∀r:List α,P r.reverse:=fun r=>by
  induction r with
  | nil=>exact h0
  | cons a r ih=>rw [List.reverse_cons];exact h1 _ _ ih
 have z:=this l.reverse
 rwa [List.reverse_reverse] at z
theorem st_snoc (ls:List Nat) (x:Nat):stOf (ls++[x])=((stOf ls).1*2 ^ (x-(stOf ls).2)+1,x):=by
 unfold stOf;rw [List.foldl_append];rfl
def upTo (len:Nat) (ls:List Nat):Nat:=(stOf ls).1*2 ^ (len-(stOf ls).2)
theorem st_le {x:Nat} (ls:List Nat):(∀n∈ls,n≤x)→(stOf ls).2≤x:=by
 refine snoc_ind (P:=fun ls=>(∀n∈ls,n≤x)→(stOf ls).2≤x) (fun _=>Nat.zero_le _) (fun l y _ h => ?_) ls
 rw [st_snoc]
 exact h y (by simp)
theorem up_mul {len x:Nat} {ls:List Nat} (h:∀n∈ls,n≤x) (hx:x≤len):upTo len ls=upTo x ls*2 ^ (len-x):=by
 have:=st_le ls h
 unfold upTo
 rw [Nat.mul_assoc, ←Nat.pow_add]
 congr 2
 (first|lia|omega)
theorem up_snoc {len x:Nat} {ls:List Nat} (h:∀n∈ls,n≤x) (hx:x≤len):upTo len (ls++[x])=upTo len ls+2 ^ (len-x):=by
 rw [up_mul h hx]
 conv=>lhs;unfold upTo
 rw [st_snoc]
 show (upTo x ls+1)*2 ^ (len-x)=_
 rw [Nat.add_mul,Nat.one_mul]
abbrev Rising (ls:List Nat):Prop:=ls.Pairwise (· ≤ ·)
theorem rising_snoc {ls:List Nat} {x:Nat} (h:Rising (ls++[x])):Rising ls∧∀n∈ls,n≤x:=by
 obtain ⟨a,_,b⟩:=List.pairwise_append.mp h
 exact ⟨a,fun n hn=>b n hn x (by simp)⟩
theorem up_sum {len:Nat} (ls:List Nat):Rising ls→(∀n∈ls,n≤len)→upTo len ls=(ls.map fun n=>2 ^ (len-n)).sum:=by
 refine snoc_ind (P:=fun ls=>Rising ls→(∀n∈ls,n≤len)→upTo len ls=(ls.map fun n=>2 ^ (len-n)).sum) (fun _ _=>Nat.zero_mul _) (fun l x ih r h => ?_) ls
 obtain ⟨r1,r2⟩:=rising_snoc r
 rw [up_snoc r2 (h x (by simp)),ih r1 fun n hn=>h n (by simp [hn]),List.map_append,List.sum_append]
 simp
theorem digs_take:∀(d k n:Nat),(digs (k+d) n).take k=digs k (n / 2 ^ d)
 | 0,k,n=>by rw [Nat.pow_zero,Nat.div_one,Nat.add_zero,List.take_of_length_le (by rw [digs_len];exact Nat.le_refl _)]
 | d+1,k,n=>by
  show (digs (k+d) (n / 2)++[48+n % 2]).take k=_
  rw [List.take_append_of_le_length (by rw [digs_len]; (first|lia|omega)),digs_take d k,Nat.div_div_eq_div_mul,Nat.pow_succ,Nat.mul_comm]
theorem digs_inj:∀(k x y:Nat),x<2 ^ k→y<2 ^ k→digs k x=digs k y→x=y
 | 0,x,y,hx,hy,_=>by simp at hx hy; (first|lia|omega)
 | k+1,x,y,hx,hy,h=>by
  rw [Nat.pow_succ] at hx hy
  unfold digs at h
  obtain ⟨h1,h2⟩:=List.append_inj h (by rw [digs_len,digs_len])
  have e:=digs_inj k (x / 2) (y / 2) (by first|lia|omega) (by first|lia|omega) h1
  simp at h2
  (first|lia|omega)
theorem pre_iff {len x m y:Nat} (hx:x≤len) (hm:m<2 ^ len) (hy:y<2 ^ x):(digs len m).take x=digs x y ↔ m / 2 ^ (len-x)=y:=by
 have e:len=x+(len-x):=by (first|lia|omega)
 have ht:(digs len m).take x=digs x (m / 2 ^ (len-x)):=by
  have z:=digs_take (len-x) x m
  rwa [←e] at z
 rw [ht]
 refine ⟨fun h=>digs_inj x _ _ ?_ hy h,fun h=>by rw [h]⟩
 rw [Nat.div_lt_iff_lt_mul (Nat.pow_pos (by decide)), ←Nat.pow_add, ←e]
 exact hm
def cds (ls:List Nat):List (List Nat):=(List.range ls.length).map fun j=>digs (ls.getD j 0) (upTo (ls.getD j 0) (ls.take j))
theorem cds_snoc (ls:List Nat) (x:Nat):cds (ls++[x])=cds ls++[digs x (upTo x ls)]:=by
 unfold cds
 rw [List.length_append,List.length_singleton,List.range_succ,List.map_append]
 congr 1
 ·refine List.map_congr_left fun j hj => ?_
  have hj:=List.mem_range.mp hj
  have e:(ls++[x]).getD j 0=ls.getD j 0:=by simp [List.getD,List.getElem?_append_left hj]
  rw [e,List.take_append_of_le_length (by first|lia|omega)]
 ·have e:(ls++[x]).getD ls.length 0=x:=by simp [List.getD]
  simp only [List.map_cons,List.map_nil,e]
  rw [List.take_append_of_le_length (Nat.le_refl _),List.take_length]
theorem cds_len (ls:List Nat):(cds ls).length=ls.length:=by unfold cds;simp
def Holds (ls:List Nat):Prop:=∀j x,ls[j]? = some x→upTo x (ls.take j)<2 ^ x
theorem holds_snoc {ls:List Nat} {x:Nat} : Holds (ls++[x]) ↔ Holds ls∧upTo x ls<2 ^ x:=by
 constructor
 ·intro h
  refine ⟨fun j y e => ?_,?_⟩
  ·have hj:=(List.getElem?_eq_some_iff.mp e).1
   have z:=h j y (by rw [List.getElem?_append_left hj];exact e)
   rwa [List.take_append_of_le_length (by first|lia|omega)] at z
  ·have z:=h ls.length x (by simp)
   rwa [List.take_append_of_le_length (Nat.le_refl _),List.take_length] at z
 ·rintro ⟨h1,h2⟩ j y e
  by_cases hj:j<ls.length
  ·rw [List.getElem?_append_left hj] at e
   rw [List.take_append_of_le_length (by first|lia|omega)]
   exact h1 j y e
  ·have:j=ls.length:=by
    have:=(List.getElem?_eq_some_iff.mp e).1
    simp at this; (first|lia|omega)
   subst this
   simp at e
   subst e
   rw [List.take_append_of_le_length (Nat.le_refl _),List.take_length]
   exact h2
theorem taken {len m:Nat} (hm:m<2 ^ len) (ls:List Nat):Rising ls→(∀n∈ls,n≤len)→Holds ls→(cds ls).any (fun c=>decide ((digs len m).take c.length=c))=decide (m<upTo len ls):=by
 refine snoc_ind (P:=fun ls=>Rising ls→(∀n∈ls,n≤len)→Holds ls→(cds ls).any (fun c=>decide ((digs len m).take c.length=c))=decide (m<upTo len ls)) (fun _ _ _ => ?_) (fun l x ih r h hh => ?_) ls
 ·show false=decide (m<0*_)
  simp
 ·obtain ⟨r1,r2⟩:=rising_snoc r
  obtain ⟨h1,h2⟩:=holds_snoc.mp hh
  have hx:=h x (by simp)
  rw [cds_snoc,List.any_append,ih r1 (fun n hn=>h n (by simp [hn])) h1,up_snoc r2 hx]
  simp only [List.any_cons,List.any_nil,Bool.or_false,digs_len]
  rw [Bool.eq_iff_iff,Bool.or_eq_true,decide_eq_true_iff,decide_eq_true_iff,decide_eq_true_iff,pre_iff hx hm h2,up_mul r2 hx]
  have D:0<2 ^ (len-x):=Nat.pow_pos (by decide)
  have e1:m<upTo x l*2 ^ (len-x) ↔ m / 2 ^ (len-x)<upTo x l:=(Nat.div_lt_iff_lt_mul D).symm
  have e2:m<upTo x l*2 ^ (len-x)+2 ^ (len-x) ↔ m / 2 ^ (len-x)<upTo x l+1:=by
   rw [Nat.div_lt_iff_lt_mul D,Nat.add_mul,Nat.one_mul]
  rw [e1,e2]
  (first|lia|omega)
def RNn (a b:List Nat):Prop := ¬(a <+: b)∧¬(b <+: a)
theorem cds_mem {c:List Nat} {ls:List Nat} (h:c∈cds ls):∃n∈ls,c.length=n:=by
 unfold cds at h
 obtain ⟨j,hj,rfl⟩:=List.mem_map.mp h
 have hj:=List.mem_range.mp hj
 refine ⟨ls[j],List.getElem_mem hj,?_⟩
 rw [digs_len]
 simp [List.getD,hj]
theorem cds_free (ls:List Nat):Rising ls→Holds ls→(cds ls).Pairwise RNn:=by
 refine snoc_ind (P:=fun ls=>Rising ls→Holds ls→(cds ls).Pairwise RNn) (fun _ _=>List.Pairwise.nil) (fun l x ih r hh => ?_) ls
 obtain ⟨r1,r2⟩:=rising_snoc r
 obtain ⟨h1,h2⟩:=holds_snoc.mp hh
 rw [cds_snoc]
 refine List.pairwise_append.mpr ⟨ih r1 h1,List.pairwise_singleton _ _,fun c hc d hd => ?_⟩
 rw [List.mem_singleton.mp hd]
 have no:¬(c <+: digs x (upTo x l)):=fun p=>by
  have z:=taken h2 l r1 r2 h1
  rw [decide_eq_false (Nat.lt_irrefl _),List.any_eq_false] at z
  refine z c hc (decide_eq_true ?_)
  exact (List.prefix_iff_eq_take.mp p).symm
 refine ⟨no,fun p=>no ?_⟩
 obtain ⟨n,hn,e⟩:=cds_mem hc
 have:=r2 n hn
 have l1:=p.length_le
 rw [digs_len] at l1
 rw [p.eq_of_length (by rw [digs_len]; (first|lia|omega))]
 exact List.prefix_refl _
def shr (M:Nat) (ls:List Nat):Nat:=(ls.map fun n=>2 ^ (M-n)).sum
theorem shr_mul {M N:Nat} : ∀{ls:List Nat},(∀n∈ls,n≤M)→M≤N→shr N ls=shr M ls*2 ^ (N-M)
 | [],_,_=>by simp [shr]
 | a :: ls,h,hN=>by
  have ih:=shr_mul (ls:=ls) (fun n hn=>h n (by simp [hn])) hN
  have ha:=h a (by simp)
  have e:2 ^ (N-a)=2 ^ (M-a)*2 ^ (N-M):=by rw [←Nat.pow_add];congr 1; (first|lia|omega)
  unfold shr at ih ⊢
  rw [List.map_cons,List.sum_cons,List.map_cons,List.sum_cons,ih,e,Nat.add_mul]
theorem shr_fit {M N:Nat} {ls:List Nat} (h:∀n∈ls,n≤M) (h':M≤N):shr M ls≤2 ^ M ↔ shr N ls≤2 ^ N:=by
 have e:2 ^ N=2 ^ M*2 ^ (N-M):=by rw [←Nat.pow_add];congr 1; (first|lia|omega)
 rw [shr_mul h h',e]
 exact ⟨fun z=>Nat.mul_le_mul_right _ z,fun z=>Nat.le_of_mul_le_mul_right z (Nat.pow_pos (by decide))⟩
theorem not_fits {M k x:Nat} {ls:List Nat} (r:Rising ls) (h:∀n∈ls,n≤M) (e:ls[k]? = some x) (hx:2 ^ x≤upTo x (ls.take k)):¬shr M ls≤2 ^ M:=by
 have hk:=(List.getElem?_eq_some_iff.mp e).1
 have ek:=(List.getElem?_eq_some_iff.mp e).2
 have hxM:x≤M:=h x (by rw [←ek];exact List.getElem_mem hk)
 have es:ls=(ls.take k++[x])++ls.drop (k+1):=by
  rw [←ek, ←List.take_succ_eq_append_getElem hk,List.take_append_drop]
 have r1:Rising (ls.take k++[x]):=by rw [es] at r;exact (List.pairwise_append.mp r).1
 obtain ⟨r2,r3⟩:=rising_snoc r1
 have s1:shr M ls=shr M (ls.take k++[x])+shr M (ls.drop (k+1)):=by
  conv=>lhs;rw [es]
  unfold shr
  rw [List.map_append,List.sum_append]
 have s2:=up_sum (len:=M) _ r1 fun n hn=>by
  rcases List.mem_append.mp hn with q|q
  ·exact h n (List.mem_of_mem_take q)
  ·rw [List.mem_singleton.mp q];exact hxM
 rw [up_snoc r3 hxM,up_mul r3 hxM] at s2
 have s3:2 ^ x*2 ^ (M-x)≤upTo x (ls.take k)*2 ^ (M-x):=Nat.mul_le_mul_right _ hx
 rw [←Nat.pow_add,show x+(M-x)=M by first|lia|omega] at s3
 have D:0<2 ^ (M-x):=Nat.pow_pos (by decide)
 have s4:shr M (ls.take k++[x])=upTo x (ls.take k)*2 ^ (M-x)+2 ^ (M-x):=s2.symm
 (first|lia|omega)
theorem shr_perm {M:Nat} {a b:List Nat} (p:a.Perm b):shr M a=shr M b:=(p.map _).sum_nat
theorem figs_len (n k:Nat):(figs n k).length=k:=by
 show (digs k n).toArray.size=k
 rw [List.size_toArray,digs_len]
def cdS (ls:List Nat):List Str:=(cds ls).map fun c=>(⟨c.toArray⟩:Str)
theorem shrI (M:Nat):∀ns:List Nat,(ns.map fun n=>(2:Int) ^ (M-n)).sum=(shr M ns:Int)
 | []=>rfl
 | n :: ns=>by
  have ih:=shrI M ns
  unfold shr at ih ⊢
  rw [List.map_cons,List.sum_cons,List.map_cons,List.sum_cons,ih,Int.natCast_add,Int.natCast_pow]
  rfl
theorem twoI (M:Nat):(2:Int) ^ M=((2 ^ M:Nat):Int):=by rw [Int.natCast_pow];rfl
theorem exM:∀{ns:List Nat},ns≠[]→∃M,M∈ns∧∀n∈ns,n≤M
 | [],h=>absurd rfl h
 | [a],_=>⟨a,by simp,fun n hn=>by simp at hn; (first|lia|omega)⟩
 | a :: b :: r,_=>by
  obtain ⟨M,h1,h2⟩:=exM (ns:=b :: r) (by simp)
  by_cases q:a≤M
  ·exact ⟨M,List.mem_cons_of_mem _ h1,fun n hn=>by
    rcases List.mem_cons.mp hn with rfl|hn
    ·exact q
    ·exact h2 n hn⟩
  ·exact ⟨a,List.mem_cons_self,fun n hn=>by
    rcases List.mem_cons.mp hn with rfl|hn
    ·exact Nat.le_refl _
    ·have:=h2 n hn
     (first|lia|omega)⟩
theorem fits_iff {ns:List Nat} {M:Nat} (hne:ns≠[]) (h:∀n∈ns,n≤M):Fits ns ↔ shr M ns≤2 ^ M:=by
 obtain ⟨m,hm,hmx⟩:=exM hne
 rw [←shr_fit (M:=m) hmx (h m hm)]
 unfold Fits
 constructor
 ·intro z
  have z:=z m hm hmx
  rw [shrI,twoI] at z
  exact Int.ofNat_le.mp z
 ·intro z M' h1 h2
  have e:M'=m:=Nat.le_antisymm (hmx _ h1) (h2 _ hm)
  subst e
  rw [shrI,twoI]
  exact Int.ofNat_le.mpr z
theorem digs_bin:∀(k n:Nat),∀ch∈digs k n,ch=48∨ch=49
 | 0,_,ch,h=>by simp [digs] at h
 | k+1,n,ch,h=>by
  unfold digs at h
  rcases List.mem_append.mp h with q|q
  ·exact digs_bin k _ ch q
  ·have:=List.mem_singleton.mp q
   (first|lia|omega)
end Z
namespace Z
open PySem L2
abbrev sg (x:Str):List Nat:=x.cps.toList
def RF (a b:Str):Prop := ¬(sg a <+: sg b)∧¬(sg b <+: sg a)
theorem RF.symm {a b:Str} (h:RF a b):RF b a:=⟨h.2,h.1⟩
abbrev Free (cs:List Str):Prop:=cs.Pairwise RF
theorem Free.perm {cs ds:List Str} (h:Free cs) (p:cs.Perm ds):Free ds:=(p.pairwise_iff fun h=>RF.symm h).mp h
end Z
namespace Z
open PySem L2
theorem sl_to {x:Str} {j:Int} (h0:0≤j) (h1:j≤x.length):sg (Txt.slice x none (some j))=(sg x).take j.toNat:=by
 have e:=PyProof.Rows.slice_closes_to (x:=x) (j:=j) ⟨h0,by rw [←str_len];exact h1⟩
 rw [eq_of_beq e]
 simp
end Z
namespace Z
open PySem L2
theorem LcR.len {ns:List Nat} {cs:List Str} (h:LcR ns cs):∀(i:Nat) y,cs[i]? = some y→Bin y∧ns[i]? = some y.length:=fun i y e=>by
 obtain ⟨l1,o1,p1,w1,g1⟩:=h
 have hi:i<ns.length:=by have:=(List.getElem?_eq_some_iff.mp e).1; (first|lia|omega)
 obtain ⟨k,hk,ek⟩:=List.mem_iff_getElem.mp (p1.symm.subset (List.mem_range.mpr hi))
 have e1:o1[k]? = some i:=by rw [List.getElem?_eq_getElem hk,ek]
 have g:=g1 k i e1
 rw [e] at g
 cases g
 refine ⟨fun ch h=>digs_bin _ _ ch h,?_⟩
 rw [figs_len,List.getElem?_eq_getElem hi]
 simp [List.getD,hi]
theorem LcR.lens {ns:List Nat} {cs:List Str} (h:LcR ns cs):cs.map (·.length)=ns:=by
 refine List.ext_getElem? fun i => ?_
 rw [List.getElem?_map]
 cases e:cs[i]? with
 | none=>
  have:=List.getElem?_eq_none_iff.mp e
  rw [h.1] at this
  rw [List.getElem?_eq_none this];rfl
 | some y=>exact ((h.len i y e).2).symm
theorem LcR.free {ns:List Nat} {cs:List Str} (h:LcR ns cs) (hne:ns≠[]) (fit:Fits ns) (hM:∀n∈ns,n≤30) (b2:ns.length<64):Free cs:=by
 obtain ⟨l1,o,p,pw,g⟩:=h
 have hin:∀i∈o,i<ns.length:=fun i hi=>List.mem_range.mp (p.subset hi)
 have hLp:(o.map fun j=>ns.getD j 0).Perm ns:=by
  have q:=p.map fun j=>ns.getD j 0
  have e:(List.range ns.length).map (fun j=>ns.getD j 0)=ns:=by
   refine List.ext_getElem (by simp) fun j h1 h2 => ?_
   simp [List.getD,h2]
  rw [e] at q
  exact q
 have rL:Rising (o.map fun j=>ns.getD j 0):=by
  refine List.pairwise_map.mpr (pw.imp_of_mem fun {i j} hi hj z => ?_)
  unfold keyOf at z
  have:=hin i hi
  have:=hin j hj
  (first|lia|omega)
 have fit':=(fits_iff (M:=30) hne hM).mp fit
 rw [←shr_perm hLp] at fit'
 have hh:Holds (o.map fun j=>ns.getD j 0):=fun j x e=>by
  apply Classical.byContradiction
  intro z
  exact not_fits rL (fun n hn=>hM n (hLp.subset hn)) e (Nat.le_of_not_lt z) fit'
 have fr:Free (cdS (o.map fun j=>ns.getD j 0)):=by
  unfold cdS
  exact List.pairwise_map.mpr ((cds_free _ rL hh).imp fun {a b} r=>⟨r.1,r.2⟩)
 have e1:cdS (o.map fun j=>ns.getD j 0)=o.map fun i=>cs.getD i Str.empty:=by
  refine List.ext_getElem? fun k => ?_
  by_cases hk:k<o.length
  ·have eo:o[k]? = some o[k]:=List.getElem?_eq_getElem hk
   have hi:=hin o[k] (List.getElem_mem hk)
   have gk:=g k _ eo
   rw [List.getElem?_map,eo]
   show _=some (cs.getD o[k] Str.empty)
   rw [show cs.getD o[k] Str.empty=(cs[o[k]]?).getD Str.empty from rfl,gk]
   unfold cdS cds
   rw [List.getElem?_map,List.getElem?_map,List.length_map,List.getElem?_range hk]
   have e2:(o.map fun j=>ns.getD j 0).getD k 0=ns.getD o[k] 0:=by simp [List.getD,hk]
   simp only [Option.map_some,e2]
   rw [←List.map_take]
   rfl
  ·rw [List.getElem?_eq_none (by unfold cdS;rw [List.length_map,cds_len,List.length_map]; (first|lia|omega)),List.getElem?_eq_none (by rw [List.length_map]; (first|lia|omega))]
 have e3:(List.range ns.length).map (fun i=>cs.getD i Str.empty)=cs:=by
  refine List.ext_getElem (by simp [l1]) fun j h1 h2 => ?_
  simp [List.getD,h2]
 rw [e1] at fr
 have q:=p.map fun i=>cs.getD i Str.empty
 rw [e3] at q
 exact fr.perm q
theorem bookW:∀{bk:List (Str×Str)},(∀q∈bk,q.1.length≤8∧q.2.length≤60)→PyData.weightAll (bk.map fun q => .tuple [.str q.1, .str q.2])≤bk.length*71
 | [],_=>by simp [PyData.weightAll]
 | q :: bk,h=>by
  have ih:=bookW fun r hr=>h r (List.mem_cons_of_mem _ hr)
  obtain ⟨h1,h2⟩:=h q List.mem_cons_self
  have e1:q.1.cps.size=q.1.length:=rfl
  have e2:q.2.cps.size=q.2.length:=rfl
  rw [List.map_cons,List.length_cons]
  simp only [PyData.weight,PyData.weightAll]
  (first|lia|omega)
end Z
namespace Z
open PySem L2
abbrev spCBf (K:PySem.W.Frag):Sp:=spCB K LcR
end Z
namespace L2
open PySem
theorem dcomp_go {J:It} {n:Nat} {js:List Nat} {g:TG} {tc:TT} {tk tv:TE} {σ:St} {D:Addr} {H1:Hp} {fin:Hp→Prop} (N:Nat) (Pv:Nat→List (Key×V)→Hp→Prop) (hD:H1 D=some (.dK [])) (h0:Pv 0 [] H1)
  (go:∀i kvs H (Nx:Hp→Prop),i<N→H D=some (.dK kvs)→kvs.length≤i→Pv i kvs H→(∀kvs' H',H' D=some (.dK kvs')→kvs'.length≤i+1→Pv (i+1) kvs' H'→Nx H') →
   J.go i H∧∀x H',J.yld i H x H'→g x (List.replicate n none++cvals σ js) H' fun σ2 H2=>tc σ2 H2 fun b H3=>
    if b=true then tk σ2 H3 fun y H4=>tv σ2 H4 fun z H5=>Ex2 fun kvs k=>H5 D=some (.dK kvs)∧y=kV k∧kvs.length<sizeLine∧Nx (upd H5 D (.dK (putK kvs k z))) else Nx H3)
  (stop:∀kvs H,H D=some (.dK kvs)→Pv N kvs H→J.stop N H∧fin H):CompD J n js g tc tk tv σ D H1 fin:=by
 refine ⟨fun i m H=>m=N-i∧i≤N∧∃kvs,H D=some (.dK kvs)∧kvs.length≤i∧Pv i kvs H,⟨N,rfl,Nat.zero_le _,[],hD,Nat.le_refl _,h0⟩,?_⟩
 intro i m H hz_
 refine Elim.el hz_ _ ?_
 clear hz_
 rintro rfl hi kvs hk hl p
 by_cases h:i<N
 ·refine .inr ?_
  obtain ⟨g1,g2⟩:=go i kvs H (fun H'=>∃m',m'<N-i∧m'=N-(i+1)∧i+1≤N∧∃kvs,H' D=some (.dK kvs)∧kvs.length≤i+1∧Pv (i+1) kvs H') h hk hl p fun kvs' H' a b c=>⟨N-(i+1),by first|lia|omega,rfl,h,kvs',a,b,c⟩
  exact ⟨g1,g2⟩
 ·have:i=N:=by (first|lia|omega)
  subst this
  exact .inl (stop kvs H hk p)
theorem putK_len {kvs:List (Key×V)} {k:Key} {v:V} : (putK kvs k v).length≤kvs.length+1:=by
 unfold putK
 split
 ·rw [List.length_map]; (first|lia|omega)
 ·rw [List.length_append];simp
end L2
namespace Z
open PySem L2 PyProof.Rows
def useK (us:List Int) (i:Nat):Int:=us.getD i 0*64+i
def LensR (us:List Int) (most:Nat) (ls:List Nat):Prop:=ls.length=us.length∧∃o:List Nat,o.Perm (List.range us.length)∧o.Pairwise (fun i j=>useK us i<useK us j)∧∀(k i:Nat),o[k]? = some i→ls[i]? = (lenP (srtI us) most)[k]?
theorem map_range {α:Type} (l:List α) (d : α):(List.range l.length).map (fun i=>l.getD i d)=l:=by
 refine List.ext_getElem? fun i => ?_
 rw [List.getElem?_map]
 by_cases h:i<l.length
 ·rw [List.getElem?_range h,List.getElem?_eq_getElem h]
  simp [List.getD,h]
 ·rw [List.getElem?_eq_none (by rw [List.length_range]; (first|lia|omega)),List.getElem?_eq_none (by first|lia|omega)]
  rfl
theorem LensR.perm {us:List Int} {most:Nat} {ls:List Nat} (h:LensR us most ls):ls.Perm (lenP (srtI us) most):=by
 obtain ⟨hl,o,po,_,ho⟩:=h
 have ol:o.length=us.length:=by rw [po.length_eq,List.length_range]
 have pl:(lenP (srtI us) most).length=us.length:=by rw [lenP_len,(srtI_perm us).length_eq]
 have e:o.map (fun i=>ls.getD i 0)=lenP (srtI us) most:=by
  refine List.ext_getElem? fun k => ?_
  rw [List.getElem?_map]
  by_cases hk:k<o.length
  ·have eo:o[k]? = some o[k]:=List.getElem?_eq_getElem hk
   rw [eo]
   have:=ho k _ eo
   rw [List.getElem?_eq_getElem (l:=lenP (srtI us) most) (by first|lia|omega)] at this
   show some (ls.getD o[k] 0)=_
   rw [List.getD_eq_getElem?_getD,this,List.getElem?_eq_getElem (by first|lia|omega)]
   rfl
  ·rw [List.getElem?_eq_none (by first|lia|omega),List.getElem?_eq_none (by first|lia|omega)]
   rfl
 rw [←e]
 have:=(po.map fun i=>ls.getD i 0).symm
 rw [←hl,map_range] at this
 exact this
theorem rise_use {us:List Int} {o:List Nat} (po:o.Perm (List.range us.length)) (hl:us.length<64) (pw:o.Pairwise (fun i j=>useK us i<useK us j)):o.map (fun i=>us.getD i 0)=srtI us:=by
 refine srt_one ?_ ?_
 ·have:=po.map fun i=>us.getD i 0
  rw [map_range] at this
  exact this
 ·rw [List.pairwise_map]
  refine List.Pairwise.imp_of_mem (fun {a b} ha hb h => ?_) pw
  have h1:=List.mem_range.mp (po.subset ha)
  have h2:=List.mem_range.mp (po.subset hb)
  unfold useK at h
  (first|lia|omega)
theorem LensR.ok {us:List Int} {most:Nat} {ls:List Nat} (h:LensR us most ls) (h0:∀u∈us,0≤u) (h1:1≤us.length) (hm:1≤most) (fit:us.length≤2 ^ most):(∀n∈ls,1≤n∧n≤most)∧Fits ls:=by
 have pm:=srtI_perm us
 obtain ⟨a,b⟩:=lenP_ok (r:=srtI us) (L:=most) (srtI_pair us) (fun a ha=>h0 a (pm.subset ha)) (by rw [pm.length_eq];exact h1) hm (by rw [pm.length_eq];exact fit)
 exact ⟨fun n hn=>a n (h.perm.subset hn),Fits.perm h.perm.symm b⟩
def spLbF (K:PySem.W.Frag):Sp:=fun vs H Q _=>Ex3 fun (vu:V) (us:List (Str×Int)) (most:Nat)=>vs=[vu, .int (most:Nat)]∧Den K H (usesD us) vu∧1≤most∧most≤30∧us≠[]∧(∀q∈us,0≤q.2)∧us.length≤48∧us.length≤2 ^ most ∧
 ∀(ls:List Nat) (cs:List Str) (as:List Addr) (p:Addr) (H':Hp),LensR (us.map (·.2)) most ls→LcR ls cs→Same H H'→H p=none→H' p=some (.lst (as.map V.ref))→as.length=us.length →
  (∀(i:Nat) a q y,as[i]? = some a→us[i]? = some q→cs[i]? = some y→H' a=some (.tup [.str q.1, .str y]))→Q (.ref p) H'
section
variable {P:Program} {w:World} {K:PySem.W.Frag} {mg:Str→Option Value} {base:Heap} {f:Addr} {fd:FuncData} {C:Addr}
theorem sc_least_book:FnScope ["uses", "most", "layers", "ranks", "lengths", "length_at"] ["uses", "most"] (defScope (top i_least_book)):=⟨rfl,rfl,rfl,by decide +kernel,rfl,by decide +kernel,by decide +kernel⟩
theorem ok_lbf (F:Fun K "least_book" "least_book" (top i_least_book) f fd) (T:Nm mg) (n_sorted:mg "sorted" = none) (f_layers_of:Fn P w K mg base 2 "layers_of" ["uses", "most"] (spLyF K)) (f_lengths_by:Fn P w K mg base 2 "lengths_by" ["rising", "layers"] (spLnb K)) (f_codes_by:Fn P w K mg base 3 "codes_by" ["lengths"] (spCBf K)):FnOk P w K mg base CX0 4 f fd ["uses", "most"] (spLbF K):=by
 refine F.ok sc_least_book (fun vs H Q E h => ?_) (fun cdv A outer s H vs Q E hr h => ?_)
 ·obtain ⟨vu,us,most,rfl,_⟩:=h
  rfl
 obtain ⟨vu,us,most,rfl,hu,m1,m2,une,u0,ul,fit,q⟩:=h
 have hu:=hu_of hr
 have hu6:=hr.units
 refine ⟨_,(pss_cons (ps_set (i:=2) sc_least_book.nd rfl (Or.inl rfl) (pe_fn (f_layers_of.mono (by first|decide|exact Nat.le_refl _|(first|lia|omega))) hr rfl (pa_cons (pv 0) (pa_cons (pv 1) pa_nil))))
  (pss_cons (ps_set (i:=3) sc_least_book.nd rfl (Or.inl rfl) (pe_callB (sortedP K) rfl n_sorted (by rfl) (pa_cons (pe_lcomp rfl (comp_ok (Nc:=["at", "name", "use"]) (Fc:=[]) (js:=[])) (enumK K rfl T.n_enumerate (pa_cons (pv 0) pa_nil)) (gk_tup (gks_cons (gk_name (i:=0) (n:=3) (by decide)) (gks_cons (gk_tup (gks_cons (gk_name (i:=1) (n:=3) (by decide)) (gks_cons (gk_name (i:=2) (n:=3) (by decide)) gks_nil gm_name gms_nil) gm_name (gms_cons gm_name gms_nil))) gks_nil (gm_tup (gms_cons gm_name (gms_cons gm_name gms_nil))) gms_nil) gm_name (gms_cons (gm_tup (gms_cons gm_name (gms_cons gm_name gms_nil))) gms_nil))) (fun _ _ _ _ _=>(tupK K 2 rfl (pgs_cons (pg_name (i:=0) (show (["at", "name", "use"]:List Str).Nodup by decide +kernel) rfl (Or.inl rfl)) (pgs_cons (tupK K 2 rfl (pgs_cons (pg_name (i:=1) (show (["at", "name", "use"]:List Str).Nodup by decide +kernel) rfl (Or.inl rfl)) (pgs_cons (pg_name (i:=2) (show (["at", "name", "use"]:List Str).Nodup by decide +kernel) rfl (Or.inl rfl)) pgs_nil))) pgs_nil)))) (fun _ _ _ _ _=>pts_nil) (fun _ _ _ _ _=>(tupN (pa_cons (pv 2) (pa_cons (pv 0) pa_nil))))) pa_nil)))
  (pss_cons (ps_set (i:=4) sc_least_book.nd rfl (Or.inl rfl) (pe_fn (f_lengths_by.mono (by first|decide|exact Nat.le_refl _|(first|lia|omega))) hr rfl (pa_cons (pe_lcomp rfl (comp_ok (Nc:=["use", "at"]) (Fc:=[]) (js:=[])) (piK K (pv 3)) (gk_tup (gks_cons (gk_name (i:=0) (n:=2) (by decide)) (gks_cons (gk_name (i:=1) (n:=2) (by decide)) gks_nil gm_name gms_nil) gm_name (gms_cons gm_name gms_nil))) (fun _ _ _ _ _=>(tupK K 2 rfl (pgs_cons (pg_name (i:=0) (show (["use", "at"]:List Str).Nodup by decide +kernel) rfl (Or.inl rfl)) (pgs_cons (pg_name (i:=1) (show (["use", "at"]:List Str).Nodup by decide +kernel) rfl (Or.inl rfl)) pgs_nil)))) (fun _ _ _ _ _=>pts_nil) (fun _ _ _ _ _=>(pv 0))) (pa_cons (pv 2) pa_nil))))
  (pss_cons (ps_set (i:=5) sc_least_book.nd rfl (Or.inr rfl) (pe_dcomp rfl (comp_ok (Nc:=["use", "at", "length"]) (Fc:=[]) (js:=[])) (pi_zipK K rfl T.n_zip (pa_cons (pv 3) (pa_cons (pv 4) pa_nil))) (gk_tup (gks_cons (gk_tup (gks_cons (gk_name (i:=0) (n:=3) (by decide)) (gks_cons (gk_name (i:=1) (n:=3) (by decide)) gks_nil gm_name gms_nil) gm_name (gms_cons gm_name gms_nil))) (gks_cons (gk_name (i:=2) (n:=3) (by decide)) gks_nil gm_name gms_nil) (gm_tup (gms_cons gm_name (gms_cons gm_name gms_nil))) (gms_cons gm_name gms_nil))) (fun _ _ _ _ _=>(tupK K 2 rfl (pgs_cons (tupK K 2 rfl (pgs_cons (pg_name (i:=0) (show (["use", "at", "length"]:List Str).Nodup by decide +kernel) rfl (Or.inl rfl)) (pgs_cons (pg_name (i:=1) (show (["use", "at", "length"]:List Str).Nodup by decide +kernel) rfl (Or.inl rfl)) pgs_nil))) (pgs_cons (pg_name (i:=2) (show (["use", "at", "length"]:List Str).Nodup by decide +kernel) rfl (Or.inl rfl)) pgs_nil)))) (fun _ _ _ _ _=>pts_nil) (fun _ _ _ _ _=>(pv 1)) (fun _ _ _ _ _=>(pv 2))))
  (pss_one (ps_ret (pe_fn (f_codes_by.mono (by first|decide|exact Nat.le_refl _|(first|lia|omega))) hr rfl (pa_cons (pe_lcomp rfl (comp_ok (Nc:=["at", "name", "use"]) (Fc:=["length_at"]) (js:=[5])) (enumK K rfl T.n_enumerate (pa_cons (pv 0) pa_nil)) (gk_tup (gks_cons (gk_name (i:=0) (n:=3) (by decide)) (gks_cons (gk_tup (gks_cons (gk_name (i:=1) (n:=3) (by decide)) (gks_cons (gk_name (i:=2) (n:=3) (by decide)) gks_nil gm_name gms_nil) gm_name (gms_cons gm_name gms_nil))) gks_nil (gm_tup (gms_cons gm_name (gms_cons gm_name gms_nil))) gms_nil) gm_name (gms_cons (gm_tup (gms_cons gm_name (gms_cons gm_name gms_nil))) gms_nil))) (fun _ _ _ _ _=>(tupK K 2 rfl (pgs_cons (pg_name (i:=0) (show (["at", "name", "use", "length_at"]:List Str).Nodup by decide +kernel) rfl (Or.inl rfl)) (pgs_cons (tupK K 2 rfl (pgs_cons (pg_name (i:=1) (show (["at", "name", "use", "length_at"]:List Str).Nodup by decide +kernel) rfl (Or.inl rfl)) (pgs_cons (pg_name (i:=2) (show (["at", "name", "use", "length_at"]:List Str).Nodup by decide +kernel) rfl (Or.inl rfl)) pgs_nil))) pgs_nil)))) (fun _ _ _ _ _=>pts_nil) (fun _ _ _ _ _=>(tupN (pa_cons (pv 1) (pa_cons (pe_dget hu (pv 3) (pv 0) (fun _ _=>rfl)) pa_nil))))) pa_nil)))))))),?_⟩
 rename_i huD
 have hu':=huD
 obtain ⟨lu,uvs,rfl,hSu,hdu⟩:Ex2 fun lu uvs=>vu = .ref lu∧SqL K H lu uvs∧Dens K H (us.map useE) uvs:=by
  unfold usesD at hu'
  unfold Den at hu'
  exact hu'
 have huv:uvs.length=us.length:=by rw [hdu.len,List.length_map]
 refine ⟨_,rfl,_,rfl,_,us,most,rfl,huD,m1,m2,une,ul,fit,fun l H1 sm1 hl => ?_⟩
 have u1:1≤us.length:=List.length_pos_iff.mpr une
 refine gn ?_
 obtain ⟨las,_,hl1,lal,hlas⟩:=hl
 refine ⟨_,rfl,lu,rfl,⟨_,sm1.seq hSu⟩,?_⟩
 obtain ⟨ns,hns⟩:∃ns:List Int,ns=us.map (·.2):=⟨_,rfl⟩
 have nl:ns.length=us.length:=by rw [hns,List.length_map]
 refine comp_go (N:=us.length) (fun i ys H'=>∃as:List Addr,ys=as.map V.ref∧as.length=i∧Same H1 H'∧∀(j:Nat) a,as[j]? = some a→H' a=some (.tup [.int (ns.getD j 0), .int (j:Nat)])) ⟨[],rfl,rfl,Same.refl _,fun j a e=>by simp at e⟩ ?_ ?_
 ·intro i ys H3 Nx hi hz_ nx
  refine Elim.el hz_ _ ?_
  clear hz_
  rintro as rfl hal sm3 has
  have hS3:=(sm1.trans sm3).seq hSu
  obtain ⟨x,hx,dx⟩:=hdu.get (i:=i) (d:=useE us[i]) (by rw [List.getElem?_map,List.getElem?_eq_getElem hi];rfl)
  refine Elim.el (dx.pairI) _ ?_
  rintro pa rfl hT
  refine ⟨⟨_,_,hS3,hx⟩,Nat.lt_of_lt_of_le (show (as.map V.ref).length<1000 by rw [List.length_map,hal];exact Nat.lt_of_lt_of_le hi (Nat.le_trans ul (by decide))) (by decide),?_⟩
  rintro v H4 ⟨T',rfl,hT0,hT'⟩
  have e4:=hT' _ _ hS3 hx
  subst e4
  refine ⟨T',_,rfl,SqT.of upd_same,rfl,_,_,rfl,_,_,rfl,⟨pa,_,rfl,((sm1.trans sm3).trans (same_new hT0 _)).seqT hT,rfl,_,_,rfl,_,_,rfl,rfl,rfl,?_⟩⟩
  refine ⟨_,rfl,_,rfl,by show 2≤sizeLine;decide,fun pt H5 n5=>nx _ _ ⟨as++[pt],by rw [List.map_append];rfl,by rw [List.length_append,hal];rfl,sm3.trans ((same_new hT0 _).trans n5.same),fun j a e => ?_⟩⟩
  by_cases hj:j<as.length
  ·rw [List.getElem?_append_left hj] at e
   exact n5.same _ _ (same_new hT0 _ _ _ (has j a e))
  ·have:j=as.length:=by
    have:=(List.getElem?_eq_some_iff.mp e).1
    simp at this; (first|lia|omega)
   subst this
   rw [List.getElem?_append_right (Nat.le_refl _),Nat.sub_self] at e
   cases e
   rw [n5.at,hal,hns]
   have:(us.map (·.2)).getD i 0=us[i].2:=by simp [List.getD,hi]
   rw [this]
 intro ys H3 hz_
 refine Elim.el hz_ _ ?_
 clear hz_
 rintro as rfl hal sm3 has
 refine ⟨⟨_,(sm1.trans sm3).seq hSu,by rw [huv];exact Nat.le_refl _⟩,fun pp hpp => ?_⟩
 obtain ⟨H4,n4⟩:∃H4,New H3 pp (.lst (as.map V.ref)) H4:=⟨_,hpp,rfl⟩
 rw [←n4.eq]
 refine rSrt_nil (K:=K) (x:=fun j=>ns.getD j 0) (key:=useK ns) (SqL.of n4.at) (by first|lia|omega) (by first|lia|omega) (fun i a e=>SqT.of (n4.same _ _ (has i a e))) (fun i=>rfl) fun o bs qs H5 po pw hbl hbs n5 => ?_
 rw [hal, ←nl] at po
 have sm5:Same H1 H5:=sm3.trans (n4.same.trans n5.same)
 have sm05:=sm1.trans sm5
 have hol:o.length=us.length:=by rw [po.length_eq,List.length_range,nl]
 have hin:∀i∈o,i<us.length:=fun i hi=>by have:=List.mem_range.mp (po.subset hi); (first|lia|omega)
 have htup:∀(k:Nat) b,bs[k]? = some b→∃i,o[k]? = some i∧i<us.length∧H5 b=some (.tup [.int (ns.getD i 0), .int (i:Nat)]):=fun k b e=>by
  have hk:k<o.length:=by have:=(List.getElem?_eq_some_iff.mp e).1; (first|lia|omega)
  have eo:o[k]? = some o[k]:=List.getElem?_eq_getElem hk
  have ea:=hbs k _ eo
  rw [e] at ea
  exact ⟨_,eo,hin _ (List.getElem_mem hk),n5.same _ _ (n4.same _ _ (has _ _ ea.symm))⟩
 have hbk:∀k,k<us.length→∃b i,bs[k]? = some b∧o[k]? = some i∧i<us.length∧H5 b=some (.tup [.int (ns.getD i 0), .int (i:Nat)]):=fun k hk=>by
  have eb:bs[k]? = some (bs[k]'(by first|lia|omega)):=List.getElem?_eq_getElem _
  refine Elim.el (htup k _ eb) _ ?_
  rintro i h1 h2 h3
  exact ⟨_,i,eb,h1,h2,h3⟩
 refine gn ?_
 have hS5:SqL K H5 qs (bs.map V.ref):=SqL.of n5.at
 refine ⟨_,rfl,qs,rfl,⟨_,hS5⟩,?_⟩
 refine comp_go (N:=us.length) (fun i ys H'=>H'=H5∧ys=natI ((o.take i).map fun j=>ns.getD j 0)) ⟨rfl,rfl⟩ ?_ ?_
 ·rintro k ys H6 Nx hk ⟨rfl,rfl⟩ nx
  refine Elim.el (hbk k hk) _ ?_
  rintro b i eb eo hi hb
  have hx:(bs.map V.ref)[k]? = some (V.ref b):=by rw [List.getElem?_map,eb];rfl
  refine ⟨⟨_,_,hS5,hx⟩,Nat.lt_of_le_of_lt (show _≤1000 by rw [List.length_map,List.length_map,List.length_take];exact Nat.le_trans (Nat.min_le_left _ _) (Nat.le_trans (Nat.le_of_lt hk) (Nat.le_trans ul (by decide)))) (by decide),?_⟩
  rintro x' H7 ⟨rfl,hy⟩
  have e:=hy _ hS5
  rw [hx] at e;cases e
  refine ⟨b,_,rfl,SqT.of hb,rfl,_,_,rfl,_,_,rfl,rfl,?_⟩
  refine ⟨_,rfl,nx _ _ ⟨rfl,?_⟩⟩
  have ho:=(List.getElem?_eq_some_iff.mp eo)
  rw [List.take_succ_eq_append_getElem ho.1,ho.2]
  simp only [natI,List.map_append,List.map_cons,List.map_nil]
 rintro ys H6 ⟨rfl,rfl⟩
 refine ⟨⟨_,hS5,by rw [List.length_map]; (first|lia|omega)⟩,fun pr hpr => ?_⟩
 rw [show us.length=o.length from hol.symm,List.take_length]
 have er:(o.map fun j=>ns.getD j 0)=srtI ns:=rise_use po (by first|lia|omega) pw
 rw [er]
 obtain ⟨H7,n7⟩:∃H7,New H6 pr (.lst (natI (srtI ns))) H7:=⟨_,hpr,rfl⟩
 rw [←n7.eq]
 have sl:(srtI ns).length=us.length:=by rw [(srtI_perm ns).length_eq,nl]
 refine ⟨_,rfl,pr,l,srtI ns,las,rfl,n7.at,n7.same _ _ (sm5 _ _ hl1),fun i a ea => ?_,by first|lia|omega,by first|lia|omega,by first|lia|omega,fun pn H8 sm8 hpn0 hpn => ?_⟩
 ·rw [hns]
  exact n7.same _ _ (sm5 _ _ (hlas i a ea).2.1)
 refine gn ?_
 rw [lal] at hpn
 obtain ⟨lens,hlens⟩:∃lens:List Nat,lens=lenP (srtI ns) most:=⟨_,rfl⟩
 rw [←hlens] at hpn
 have ll:lens.length=us.length:=by rw [hlens,lenP_len,sl]
 have sm68:Same H6 H8:=n7.same.trans sm8
 have hS8:SqK false K H8 qs (bs.map V.ref):=sm68.seq hS5
 dsimp only
 refine ⟨_,rfl,_,rfl,false,false,qs,pn,rfl,⟨_,hS8⟩,⟨_,SqL.of hpn⟩,fun D hD => ?_⟩
 have nD:∀a v,H8 a=some v→a≠D:=fun a v e=>ne_of_none e hD
 refine dcomp_go (N:=us.length) (fun k kvs H'=>(∀a v,a≠D→H8 a=some v→H' a=some v)∧∀(j i:Nat),j<k→o[j]? = some i→valV kvs (Sum.inl (i:Int))=some (V.int (lens.getD j 0:Nat))) upd_same ⟨fun a v h e=>by rw [upd_ne h];exact e,fun j i h=>absurd h (Nat.not_lt_zero _)⟩ ?_ ?_
 ·rintro k kvs H9 Nx hk hkv hkl ⟨kp,hv⟩ nx
  refine Elim.el (hbk k hk) _ ?_
  rintro b i eb eo hi hb
  have hx:(bs.map V.ref)[k]? = some (V.ref b):=by rw [List.getElem?_map,eb];rfl
  have hy:(lens.map fun (n:Nat)=>V.int (n:Int))[k]? = some (V.int ((lens.getD k 0:Nat):Int)):=by
   rw [List.getElem?_map,List.getElem?_eq_getElem (ll.symm ▸ hk)]
   have:lens.getD k 0=lens[k]:=by simp [List.getD,show k<lens.length from ll.symm ▸ hk]
   rw [this];rfl
  have q1:SqK false K H9 qs (bs.map V.ref):=SqL.of (kp _ _ (nD _ _ (sm68 _ _ n5.at)) (sm68 _ _ n5.at))
  have q2:SqK false K H9 pn (lens.map fun (n:Nat)=>V.int (n:Int)):=SqL.of (kp _ _ (nD _ _ hpn) hpn)
  refine ⟨⟨_,_,_,_,q1,q2,hx,hy⟩,?_⟩
  rintro x' H10 ⟨T',rfl,hN⟩
  have n10:=hN _ _ _ _ q1 q2 hx hy
  have hb10:=n10.same _ _ (kp _ _ (nD _ _ (sm68 _ _ hb)) (sm68 _ _ hb))
  refine ⟨T',_,rfl,SqT.of n10.at,rfl,_,_,rfl,⟨b,_,rfl,SqT.of hb10,rfl,_,_,rfl,_,_,rfl,rfl,_,_,rfl,rfl,?_⟩⟩
  refine ⟨_,rfl,_,rfl,kvs,Sum.inl (i:Int),n10.same _ _ hkv,rfl,Nat.lt_of_le_of_lt (Nat.le_trans hkl (Nat.le_trans (Nat.le_of_lt hk) (Nat.le_trans ul (by decide:48≤1000)))) (by decide),nx _ _ upd_same (Nat.le_trans putK_len (Nat.succ_le_succ hkl)) ⟨fun a v h e => ?_,fun j i' hj e' => ?_⟩⟩
  ·rw [upd_ne h]
   exact n10.same _ _ (kp a v h e)
  ·rw [valV_put]
   have nd:o.Nodup:=po.nodup_iff.mpr List.nodup_range
   by_cases hjk:j=k
   ·subst hjk
    rw [eo] at e';cases e'
    rw [if_pos rfl]
   ·have:i'≠i:=fun z=>by
     subst z
     have h1:=(List.getElem?_eq_some_iff.mp e')
     have h2:=(List.getElem?_eq_some_iff.mp eo)
     exact hjk ((List.getElem_inj nd).mp (h1.2.trans h2.2.symm))
    rw [if_neg (fun z=>this (by injection z with z; (first|lia|omega)))]
    exact hv j i' (by first|lia|omega) e'
 ·rintro kvs H9 hkv ⟨kp,hv⟩
  have q1:SqK false K H9 qs (bs.map V.ref):=SqL.of (kp _ _ (nD _ _ (sm68 _ _ n5.at)) (sm68 _ _ n5.at))
  have q2:SqK false K H9 pn (lens.map fun (n:Nat)=>V.int (n:Int)):=SqL.of (kp _ _ (nD _ _ hpn) hpn)
  refine ⟨⟨_,_,q1,q2, .inl (by rw [List.length_map]; (first|lia|omega))⟩,gn ?_⟩
  have sm09:Same H H9:=fun a v e=>by
   have e8:=sm68 _ _ (sm05 _ _ e)
   exact kp a v (nD _ _ e8) e8
  obtain ⟨ls,hls⟩:∃ls:List Nat,ls=(List.range us.length).map fun i=>lens.getD (o.idxOf i) 0:=⟨_,rfl⟩
  have lsl:ls.length=us.length:=by rw [hls,List.length_map,List.length_range]
  have nd:o.Nodup:=po.nodup_iff.mpr List.nodup_range
  have hidx:∀i,i<us.length→o.idxOf i<o.length∧o[o.idxOf i]? = some i:=fun i hi=>by
   have hm:i∈o:=po.symm.subset (List.mem_range.mpr (by first|lia|omega))
   have h:=List.idxOf_lt_length_iff.mpr hm
   exact ⟨h,by rw [List.getElem?_eq_getElem h,List.getElem_idxOf h]⟩
  have lsg:∀i,i<us.length→ls.getD i 0=lens.getD (o.idxOf i) 0:=fun i hi=>by
   rw [hls,List.getD_eq_getElem?_getD,List.getElem?_map,List.getElem?_range hi]
   rfl
  have LR:LensR (us.map (·.2)) most ls:=by
   rw [←hns]
   refine ⟨by rw [lsl,nl],o,po,pw,fun k i eo => ?_⟩
   have ho:=List.getElem?_eq_some_iff.mp eo
   have hi:i<us.length:=hin i (by rw [←ho.2];exact List.getElem_mem ho.1)
   obtain ⟨h1,h2⟩:=hidx i hi
   have ek:o.idxOf i=k:=by
    have h2:=List.getElem?_eq_some_iff.mp h2
    exact (List.getElem_inj nd).mp (h2.2.trans ho.2.symm)
   have:ls[i]? = some (ls.getD i 0):=by rw [List.getElem?_eq_getElem (by first|lia|omega)];simp [List.getD,show i<ls.length by first|lia|omega]
   rw [this,lsg i hi,ek, ←hlens,List.getElem?_eq_getElem (by first|lia|omega)]
   simp [List.getD,show k<lens.length by first|lia|omega]
  obtain ⟨rng,fts⟩:=LR.ok (fun u hu=>by obtain ⟨q,hq,rfl⟩:=List.mem_map.mp hu;exact u0 q hq) (by rw [List.length_map];exact u1) m1 (by rw [List.length_map];exact fit)
  have hS9:=sm09.seq hSu
  refine ⟨_,rfl,lu,rfl,⟨_,hS9⟩,?_⟩
  refine comp_go (N:=us.length) (fun i ys H'=>∃cs:List Addr,ys=cs.map V.ref∧cs.length=i∧Same H9 H'∧∀(j:Nat) a q,cs[j]? = some a→us[j]? = some q→H' a=some (.tup [.str q.1, .int (ls.getD j 0:Nat)])) ⟨[],rfl,rfl,Same.refl _,fun j a q e=>by simp at e⟩ ?_ ?_
  ·intro i ys H11 Nx hi hz_ nx
   refine Elim.el hz_ _ ?_
   clear hz_
   rintro cs rfl hcl sm11 hcs
   have hS11:=(sm09.trans sm11).seq hSu
   obtain ⟨x,hx,dx⟩:=hdu.get (i:=i) (d:=useE us[i]) (by rw [List.getElem?_map,List.getElem?_eq_getElem hi];rfl)
   refine Elim.el (dx.pairI) _ ?_
   rintro pa rfl hT
   refine ⟨⟨_,_,hS11,hx⟩,Nat.lt_of_lt_of_le (show (cs.map V.ref).length<1000 by rw [List.length_map]; (first|lia|omega)) (by decide),?_⟩
   rintro v H12 ⟨T',rfl,hT0,hT'⟩
   have e12:=hT' _ _ hS11 hx
   subst e12
   have sm12:=same_new hT0 (.tup [.int i, .ref pa])
   refine ⟨T',_,rfl,SqT.of upd_same,rfl,_,_,rfl,_,_,rfl,⟨pa,_,rfl,((sm09.trans sm11).trans sm12).seqT hT,rfl,_,_,rfl,_,_,rfl,rfl,rfl,?_⟩⟩
   obtain ⟨h1,h2⟩:=hidx i hi
   have gv:=hv _ i (by first|lia|omega) h2
   refine ⟨_,rfl,⟨_,rfl,_,rfl,D,_,rfl,by rw [←gv];exact DGet.k (k:=Sum.inl (i:Int)) (sm12 _ _ (sm11 _ _ hkv)),?_⟩⟩
   refine ⟨by show 2≤sizeLine;decide,fun pt H13 n13=>nx _ _ ⟨cs++[pt],by rw [List.map_append];rfl,by rw [List.length_append,hcl];rfl,sm11.trans (sm12.trans n13.same),fun j a q ea eq => ?_⟩⟩
   by_cases hj:j<cs.length
   ·rw [List.getElem?_append_left hj] at ea
    exact n13.same _ _ (sm12 _ _ (hcs j a q ea eq))
   ·have:j=cs.length:=by
     have:=(List.getElem?_eq_some_iff.mp ea).1
     simp at this; (first|lia|omega)
    subst this
    rw [List.getElem?_append_right (Nat.le_refl _),Nat.sub_self] at ea
    cases ea
    rw [hcl,List.getElem?_eq_getElem hi] at eq
    cases eq
    rw [n13.at,hcl,lsg i hi]
  intro ys H11 hz_
  refine Elim.el hz_ _ ?_
  clear hz_
  rintro cs rfl hcl sm11 hcs
  refine ⟨⟨_,(sm09.trans sm11).seq hSu,by rw [huv];exact Nat.le_refl _⟩,fun pk hpk => ?_⟩
  obtain ⟨H12,n12⟩:∃H12,New H11 pk (.lst (cs.map V.ref)) H12:=⟨_,hpk,rfl⟩
  rw [←n12.eq]
  have sm12:=sm09.trans (sm11.trans n12.same)
  obtain ⟨bk,hbk'⟩:∃bk:List (Str×Nat),bk=(List.range us.length).map fun i=>((us.getD i ("",0)).1,ls.getD i 0):=⟨_,rfl⟩
  have bkl:bk.length=us.length:=by rw [hbk',List.length_map,List.length_range]
  have bkg:∀i (hi:i<us.length),bk[i]? = some (us[i].1,ls.getD i 0):=fun i hi=>by
   rw [hbk',List.getElem?_map,List.getElem?_range hi]
   have:us.getD i ("",0)=us[i]:=by simp [List.getD,hi]
   show some ((us.getD i ("",0)).1,ls.getD i 0)=_
   rw [this]
  have bk2:bk.map (·.2)=ls:=by
   rw [hbk',List.map_map]
   have:=map_range ls 0
   rw [lsl] at this
   exact this
  refine ⟨pk,bk,rfl,⟨cs,SqL.of n12.at,by first|lia|omega,fun i a q' ea eq => ?_⟩,by first|lia|omega,by first|lia|omega,fun q' hq' => ?_,by rw [bk2];exact fts,fun codes as' p H' hL smz hp0 hp apl hat => ?_⟩
  ·have hi:i<us.length:=by have:=(List.getElem?_eq_some_iff.mp ea).1; (first|lia|omega)
   rw [bkg i hi] at eq
   cases eq
   exact SqT.of (n12.same _ _ (hcs i a _ ea (List.getElem?_eq_getElem hi)))
  ·have:q'.2∈ls:=by rw [←bk2];exact List.mem_map_of_mem hq'
   have:=rng _ this
   (first|lia|omega)
  ·rw [bk2] at hL
   refine q ls codes as' p H' LR hL (sm12.trans smz) (nn_of sm12 hp0) hp (by first|lia|omega) fun i a q' y ea eq ey => ?_
   have hi:i<us.length:=(List.getElem?_eq_some_iff.mp eq).1
   have:=hat i a (us[i].1,ls.getD i 0) y ea (bkg i hi) ey
   rw [List.getElem?_eq_getElem hi] at eq
   cases eq
   exact this
end
end Z
namespace Z
open PySem L2
theorem cstN {v:V} {i:Nat} {u:TS} {D:Ends} {σ:L2.St} {H:Hp} (h:u D (σ.set i (some v)) H):tSeq (tAsg (tC v) (gName i)) u D σ H:=h
theorem sl_overT (j:Int) (n:Nat) (h:n≤j):PySem.Builtin.Str.strSliceIndices none (some j) 1 n=PySem.Builtin.Str.strSliceIndices none (some (n:Int)) 1 n:=by
 unfold PySem.Builtin.Str.strSliceIndices
 dsimp only
 congr 1
 have a:¬j<0:=by (first|lia|omega)
 have b:¬((n:Nat):Int)<0:=by (first|lia|omega)
 rw [if_neg a,if_neg b,Int.min_eq_right h,Int.min_self,if_pos (by decide),if_pos (by decide)]
theorem sl_toO {x:Str} {j:Int} (h0:0≤j):sg (Txt.slice x none (some j))=(sg x).take j.toNat:=by
 by_cases h1:j≤x.length
 ·exact sl_to h0 h1
 ·have e:Txt.slice x none (some j)=Txt.slice x none (some (x.length:Int)):=by
   unfold Txt.slice
   rw [sl_overT j _ (by first|lia|omega)]
  rw [e,sl_to (by first|lia|omega) (Int.le_refl _),List.take_of_length_le (by show (sg x).length≤_;rw [show (sg x).length=x.length from (str_len x).symm]; (first|lia|omega)),List.take_of_length_le (by rw [show (sg x).length=x.length from (str_len x).symm]; (first|lia|omega))]
structure NmAt (many g:Int) (i:Nat) (x:Str):Prop where
 low:Low x
 pos:1≤x.length
 le:x.length≤8
 last:x.cps.toList.getLast? = some (97+((g+3*i) % 26).toNat)
 two:27≤many→x.cps.toList.dropLast.getLast? = some (97+i / 26)
theorem NmAt.nodup {many g:Int} {xs:List Str} (hm:(xs.length:Int)=many) (hg:0≤g) (h:∀(i:Nat) x,xs[i]? = some x→NmAt many g i x):xs.Nodup:=by
 refine List.nodup_iff_pairwise_ne.mpr (List.pairwise_iff_getElem.mpr fun i j hi hj hij e => ?_)
 have h1:=h i _ (List.getElem?_eq_getElem hi)
 have h2:=h j _ (List.getElem?_eq_getElem hj)
 have l1:=h1.last
 rw [e,h2.last] at l1
 have l1:=Option.some.inj l1
 have a1:=Int.toNat_of_nonneg (Int.emod_nonneg (g+3*j) (by decide:(26:Int)≠0))
 have a2:=Int.toNat_of_nonneg (Int.emod_nonneg (g+3*i) (by decide:(26:Int)≠0))
 rw [Nat.add_left_cancel l1,a2] at a1
 have a3:=Int.emod_eq_emod_iff_emod_sub_eq_zero.mp a1
 clear l1 a1 a2
 obtain ⟨d,rfl⟩:=Nat.exists_eq_add_of_lt hij
 have a4:(3*((d:Int)+1)) % 26=0:=by (first|lia|omega)
 clear a3
 by_cases c:27≤many
 ·have t1:=h1.two c
  rw [e,h2.two c] at t1
  have t1:=Option.some.inj t1
  (first|lia|omega)
 ·(first|lia|omega)
def spNm23:Sp:=fun vs H Q _=>Ex4 fun (b c:Addr) (t many:Int)=>vs=[.ref b, .int many]∧Bx H b c t∧0≤t∧t<1000000∧0≤many∧many≤60 ∧
 ∀(xs:List Str) (l:Addr) (H':Hp) (t':Int),(xs.length:Int)=many→xs.Nodup→(∀x∈xs,Low x∧1≤x.length∧x.length≤8)→Step b c H H' t t' 1000→H l=none→H' l=some (.lst (xs.map V.str))→Q (.ref l) H'
section
variable {P:Program} {w:World} {K:PySem.W.Frag} {mg:Str→Option Value} {base:Heap} {f:Addr} {fd:FuncData}
theorem sc_law_names:FnScope ["_law_box", "_law_many", "_law_letters", "_law_begin_here", "_law_found", "_law_place", "_law_way", "_law_word", "_law_turn", "_law_last"] ["_law_box", "_law_many"] (defScope (top i_law_names)):=⟨rfl,rfl,rfl,by decide +kernel,rfl,by decide +kernel,by decide +kernel⟩
theorem ok_nm23 (F:Fun K "_law_names" "_law_names" (top i_law_names) f fd) (T:Nm mg) (f_law_take:Fn P w K mg base 1 "_law_take" ["_law_box", "_law_many"] spTk):FnOk P w K mg base CX0 2 f fd ["_law_box", "_law_many"] spNm23:=by
 refine F.ok sc_law_names (fun vs H Q E h => ?_) (fun cdv A outer s H vs Q E hr h => ?_)
 ·obtain ⟨b,c,t,many,rfl,_⟩:=h
  rfl
 obtain ⟨b,c,t,many,rfl,bx,t0,t1,m0,m1,q⟩:=h
 have hu:=hu_of hr
 refine ⟨_,(pss_cons (ps_set (i:=2) sc_law_names.nd rfl (Or.inl rfl) pe_str)
  (pss_cons (ps_par (i:=3) (j:=4) rfl sc_law_names.nd rfl rfl (by decide) rfl rfl (pa_cons (pe_fn (f_law_take.mono (by first|decide|exact Nat.le_refl _|(first|lia|omega))) hr rfl (pa_cons (pv 0) (pa_cons pe_int pa_nil))) (pa_cons (lstN pa_nil) pa_nil)) rfl)
  (pss_cons (ps_for PassesOwn.never rfl (pi_range1 rfl T.n_range (pa_cons (pv 1) pa_nil)) (pg_name (i:=5) sc_law_names.nd rfl (Or.inl rfl)) (pss_cons (ps_set (i:=6) sc_law_names.nd rfl (Or.inl rfl) (pe_fn (f_law_take.mono (by first|decide|exact Nat.le_refl _|(first|lia|omega))) hr rfl (pa_cons (pv 0) (pa_cons pe_int pa_nil))))
  (pss_cons (ps_set (i:=7) sc_law_names.nd rfl (Or.inl rfl) pe_str)
  (pss_cons (ps_for PassesOwn.never rfl (pi_range1 rfl T.n_range (pa_cons (pe_ifExp (pt_cmpR op_lt (pv 6) pe_int (nomark _)) (pe_ix (ixK K) (lstN (pa_cons pe_int (pa_cons pe_int (pa_cons pe_int (pa_cons pe_int pa_nil))))) (pv 6) (fun _ _=>rfl)) (pe_fn (f_law_take.mono (by first|decide|exact Nat.le_refl _|(first|lia|omega))) hr rfl (pa_cons (pv 0) (pa_cons pe_int pa_nil)))) pa_nil)) (pg_name (i:=8) sc_law_names.nd rfl (Or.inl rfl)) (pss_one (ps_set (i:=7) sc_law_names.nd rfl (Or.inl rfl) (pe_op addN (pv 7) (pe_ix (ixK K) (pv 2) (pe_fn (f_law_take.mono (by first|decide|exact Nat.le_refl _|(first|lia|omega))) hr rfl (pa_cons (pv 0) (pa_cons pe_int pa_nil))) (fun _ _=>rfl))))))
  (pss_cons (ps_set (i:=9) sc_law_names.nd rfl (Or.inl rfl) (pe_ix (ixK K) (pv 2) (pe_op op_mod (pe_op addN (pv 3) (pe_op mulN pe_int (pv 5))) pe_int) (fun _ _=>rfl)))
  (pss_one (ps_expr (bmK K PySem.F.plainAttrs_list PySem.F.slot_list_append PySem.F.type_list_append appendN (pv 4) (pa_cons (pe_ifExp (pt_cmpR op_lt (pv 1) pe_int (nomark _)) (pe_op addN (pv 7) (pv 9)) (pe_op addN (pe_op addN (pe_slice (slN K) (pv 7) po_none (po_some pe_int)) (pe_ix (ixK K) (pv 2) (pe_op op_fdiv (pv 5) pe_int) (fun _ _=>rfl))) (pv 9))) pa_nil)))))))))
  (pss_one (ps_ret (pv 4)))))),?_⟩
 refine ⟨_,rfl,b,c,t,26,rfl,bx,t0,by first|lia|omega,by decide,by decide,fun g H1 g0 g1 st1 => ?_⟩
 refine ⟨by show 0≤sizeLine;decide,fun l H2 n2=>⟨_,_,rfl,?_⟩⟩
 have hl:H l=none:=st1.fresh bx n2.nn
 obtain ⟨lb,lc⟩:=st1.bx.ne_new n2.nn
 have st2:Step b c H H2 t (t+1) 1:=by rw [n2.eq];exact st1.new n2.nn _
 refine ⟨_,rfl,many,rfl,by first|lia|omega,by first|lia|omega,?_⟩
 refine for_range (lo:=0) (n:=many.toNat) (fun i σ H'=>∃xs t' x5 x6 x7 x8 x9, σ=[some (.ref b),some (.int many),some (.str abc),some (.int g),some (.ref l),x5,x6,x7,x8,x9]∧xs.length=i ∧
  (∀(j:Nat) x,xs[j]? = some x→NmAt many g j x)∧Step b c H H' t t' (1+10*i)∧H' l=some (.lst (xs.map V.str))) ⟨[],t+1,_,_,_,_,_,rfl,rfl,by simp,by simpa using st2,n2.at⟩ ?_ ?_
 ·intro i σ H3 hi hz_
  refine Elim.el hz_ _ ?_
  clear hz_
  rintro xs t3 x5 x6 x7 x8 x9 rfl hxl hx st3 hl3
  have hub:=st3.ub
  have hlo:=st3.le
  refine ⟨_,rfl,b,c,t3,5,rfl,st3.bx,by first|lia|omega,by first|lia|omega,by decide,by decide,fun r H4 r0 r1 st4=>gn ?_⟩
  have hl4:H4 l=some (.lst (xs.map V.str)):=st4.old hl3 lb lc
  have st4:=st3.trans st4
  refine @cstN _ 7 _ _ _ _ ?_
  dsimp only
  refine seqCut (t:=tFor _ _ _) (fun σ H'=>∃x t' x8, σ=[some (.ref b),some (.int many),some (.str abc),some (.int g),some (.ref l),some (.int (0+i)),some (.int r),some (.str x),x8,x9]∧x.length≤7∧Low x∧Step b c H H' t t' (1+10*i+9)∧H' l=some (.lst (xs.map V.str))) (fun Nx nx => ?_) ?_
  ·have four:r<4→∃v:Int,atI ([.int 0, .int 0, .int 1, .int 7]:List V) r=some (.int v)∧0≤v∧v≤7:=fun h=>by
    have:r=0∨r=1∨r=2∨r=3:=by (first|lia|omega)
    rcases this with rfl|rfl|rfl|rfl
    ·exact ⟨0,rfl,by decide,by decide⟩
    ·exact ⟨0,rfl,by decide,by decide⟩
    ·exact ⟨1,rfl,by decide,by decide⟩
    ·exact ⟨7,rfl,by decide,by decide⟩
   refine ⟨_,rfl,_,_,rfl,rfl,_,rfl,?_⟩
   refine ite2 (fun c4 => ?_) (fun c4 => ?_)
   ·refine Elim.el (four (of_decide_eq_true c4)) _ ?_
    rintro m hm hm0 hm1
    refine ⟨by show 4≤sizeLine;decide,fun p H5 n5 => ?_⟩
    have st5:Step b c H H5 t (t3+1) (1+10*i+2):=by rw [n5.eq];exact (st4.new n5.nn _).more (by first|lia|omega)
    have hl5:H5 l=some (.lst (xs.map V.str)):=n5.same _ _ hl4
    obtain ⟨t5,st5⟩:∃t5,Step b c H H5 t t5 (1+10*i+2):=⟨_,st5⟩
    refine ⟨_,rfl, .inl ⟨p,_,_,_,rfl,rfl,SqL.of n5.at,hm,m,rfl,by first|lia|omega,by first|lia|omega,?_⟩⟩
    clear n5 c4 hm st4 hl4 four
    refine for_range (lo:=0) (n:=m.toNat) (fun k σ H'=>∃x t' x8, σ=[some (.ref b),some (.int many),some (.str abc),some (.int g),some (.ref l),some (.int (0+i)),some (.int r),some (.str x),x8,x9]∧x.length=k ∧
     Low x∧Step b c H H' t t' (1+10*i+2+k)∧H' l=some (.lst (xs.map V.str))) ⟨Str.empty,t5,_,rfl,rfl,(fun _ h=>by cases h),by simpa using st5,hl5⟩ ?_ ?_
    ·intro k σ H6 hk hz_
     refine Elim.el hz_ _ ?_
     clear hz_
     rintro x t6 y8 rfl hk1 hlow st6 hl6
     have hub6:=st6.ub
     have hlo6:=st6.le
     refine ⟨_,rfl,_,rfl,_,rfl,b,c,t6,26,rfl,st6.bx,by first|lia|omega,by first|lia|omega,by decide,by decide,fun d H7 d0 d1 st7 => ?_⟩
     refine .inr (.inr ⟨_,d,_,rfl,rfl,by decide +kernel,abc_at d0 d1, .inr (.inl ⟨_,_,rfl,rfl,?_,?_⟩)⟩)
     ·rw [len_one,hk1];exact sizeOk (by first|lia|omega)
     ·exact ⟨x++⟨#[97+d.toNat]⟩,t6+1,_,rfl,by rw [len_append,len_one,hk1],hlow.app (by first|lia|omega) (by first|lia|omega),(st6.trans st7).more (by first|lia|omega),st7.old hl6 lb lc⟩
    ·intro σ H6 hz_
     refine Elim.el hz_ _ ?_
     clear hz_
     rintro x t6 y8 rfl hk1 hlow st6 hl6
     exact nx _ _ ⟨x,t6,_,rfl,by first|lia|omega,hlow,st6.more (by first|lia|omega),hl6⟩
   ·have hub4:=st4.ub
    have hlo4:=st4.le
    refine ⟨_,rfl,b,c,t3+1,8,rfl,st4.bx,by first|lia|omega,by first|lia|omega,by decide,by decide,fun m H5 hm0 hm1 st5 => ?_⟩
    have hl5:H5 l=some (.lst (xs.map V.str)):=st5.old hl4 lb lc
    obtain ⟨t5,st5⟩:∃t5,Step b c H H5 t t5 (1+10*i+2):=⟨_,(st4.trans st5).more (by first|lia|omega)⟩
    refine ⟨m,rfl,by first|lia|omega,by first|lia|omega,?_⟩
    have hm1:m≤7:=by (first|lia|omega)
    clear c4 st4 hl4 four
    refine for_range (lo:=0) (n:=m.toNat) (fun k σ H'=>∃x t' x8, σ=[some (.ref b),some (.int many),some (.str abc),some (.int g),some (.ref l),some (.int (0+i)),some (.int r),some (.str x),x8,x9]∧x.length=k ∧
     Low x∧Step b c H H' t t' (1+10*i+2+k)∧H' l=some (.lst (xs.map V.str))) ⟨Str.empty,t5,_,rfl,rfl,(fun _ h=>by cases h),by simpa using st5,hl5⟩ ?_ ?_
    ·intro k σ H6 hk hz_
     refine Elim.el hz_ _ ?_
     clear hz_
     rintro x t6 y8 rfl hk1 hlow st6 hl6
     have hub6:=st6.ub
     have hlo6:=st6.le
     refine ⟨_,rfl,_,rfl,_,rfl,b,c,t6,26,rfl,st6.bx,by first|lia|omega,by first|lia|omega,by decide,by decide,fun d H7 d0 d1 st7 => ?_⟩
     refine .inr (.inr ⟨_,d,_,rfl,rfl,by decide +kernel,abc_at d0 d1, .inr (.inl ⟨_,_,rfl,rfl,?_,?_⟩)⟩)
     ·rw [len_one,hk1];exact sizeOk (by first|lia|omega)
     ·exact ⟨x++⟨#[97+d.toNat]⟩,t6+1,_,rfl,by rw [len_append,len_one,hk1],hlow.app (by first|lia|omega) (by first|lia|omega),(st6.trans st7).more (by first|lia|omega),st7.old hl6 lb lc⟩
    ·intro σ H6 hz_
     refine Elim.el hz_ _ ?_
     clear hz_
     rintro x t6 y8 rfl hk1 hlow st6 hl6
     exact nx _ _ ⟨x,t6,_,rfl,by first|lia|omega,hlow,st6.more (by first|lia|omega),hl6⟩
  ·intro σ H6 hz_
   refine Elim.el hz_ _ ?_
   clear hz_
   rintro x t6 y8 rfl xl hlow st6 hl6
   have h0:0≤(g+3*((0:Int)+i)) % 26:=Int.emod_nonneg _ (by decide)
   have h1:(g+3*((0:Int)+i)) % 26<26:=Int.emod_lt_of_pos _ (by decide)
   refine ⟨_,rfl,_,rfl,_,rfl, .inl ⟨_,_,rfl,rfl, .inl ⟨by decide,by decide⟩, .inl ⟨_,_,rfl,rfl,_,_,rfl,rfl,(by dsimp only;decide),?_⟩⟩⟩
   refine .inr (.inr ⟨_,_,_,rfl,rfl,by decide +kernel,abc_at h0 h1,gn ?_⟩)
   have app:∀y:Str,NmAt many g i y→∀H7,Chg H6 l (.lst (xs.map V.str++[.str y])) H7→∃(xs':List Str) (t':Int) (x5 x6 x7 x8 x9:Option V),[some (.ref b),some (.int many),some (.str abc),some (.int g),some (.ref l),some (.int (0+i)),some (.int r),some (.str x),y8,some (.str ⟨#[97+((g+3*((0:Int)+i)) % 26).toNat]⟩)]=[some (.ref b),some (.int many),some (.str abc),some (.int g),some (.ref l),x5,x6,x7,x8,x9]∧xs'.length=i+1 ∧
     (∀(j:Nat) x,xs'[j]? = some x→NmAt many g j x)∧Step b c H H7 t t' (1+10*(i+1:Nat))∧H7 l=some (.lst (xs'.map V.str)):=fun y hy H7 c7=>by
    refine ⟨xs++[y],t6,_,_,_,_,_,rfl,by rw [List.length_append,hxl];rfl,fun j z hz => ?_,?_,?_⟩
    ·by_cases hj:j<xs.length
     ·rw [List.getElem?_append_left hj] at hz
      exact hx j z hz
     ·rw [List.getElem?_append_right (by first|lia|omega)] at hz
      have e:j-xs.length=0:=by
       have:=(List.getElem?_eq_some_iff.mp hz).1
       simp at this
       (first|lia|omega)
      rw [e] at hz
      cases hz
      have ej:j=i:=by (first|lia|omega)
      subst ej
      exact hy
    ·rw [c7.eq]
     exact (st6.chg hl lb lc _).more (by first|lia|omega)
    ·rw [c7.at,List.map_append]
     rfl
   have room:(xs.map V.str).length<sizeLine:=by rw [List.length_map,hxl];exact Nat.lt_of_lt_of_le (show i<1000 by first|lia|omega) (by decide)
   refine ⟨_,rfl, .inl ⟨rfl,_,SqL.of hl6⟩,_,rfl,_,_,rfl,rfl,_,rfl,?_⟩
   refine ite2 (fun c27 => ?_) (fun c27 => ?_)
   ·have c27:many<27:=of_decide_eq_true c27
    refine ⟨_,rfl,_,rfl, .inr (.inl ⟨_,_,rfl,rfl,by rw [len_one];exact sizeOk (by first|lia|omega),l,_,_,rfl,rfl,hl6,room,fun H7 c7=>app _ ⟨hlow.app (by first|lia|omega) (by first|lia|omega),by rw [len_append,len_one]; (first|lia|omega),by rw [len_append,len_one]; (first|lia|omega),?_,fun z=>by first|lia|omega⟩ H7 c7⟩)⟩
    rw [str_append_list,List.getLast?_append]
    have:((0:Int)+i)=i:=Int.zero_add _
    rw [this]
    rfl
   ·have c27:27≤many:=Int.not_lt.mp (of_decide_eq_false (by simpa using c27))
    have e6:sg (Txt.slice x none (some 6))=(sg x).take 6:=sl_toO (by decide)
    have l6:(Txt.slice x none (some 6)).length≤6:=by
     rw [str_len]
     show (sg (Txt.slice x none (some 6))).length≤6
     rw [e6,List.length_take]; (first|lia|omega)
    have hlow6:Low (Txt.slice x none (some 6)):=fun ch hc=>hlow ch (by
     have hc:ch∈sg (Txt.slice x none (some 6)):=hc
     rw [e6] at hc
     exact List.mem_of_mem_take hc)
    have i0:0≤((0:Int)+i) / 26:=Int.ediv_nonneg (by first|lia|omega) (by decide)
    have i1:((0:Int)+i) / 26<26:=by (first|lia|omega)
    refine ⟨_,rfl,_,rfl, .inr ⟨_,rfl,sizeOk (by first|lia|omega),?_⟩⟩
    refine ⟨_,rfl,_,rfl,_,_,rfl,rfl,⟨by decide,by decide⟩,?_⟩
    refine .inr (.inr ⟨_,_,_,rfl,rfl,by decide +kernel,abc_at i0 i1, .inr (.inl ⟨_,_,rfl,rfl,by rw [len_one];exact sizeOk (by first|lia|omega),?_⟩)⟩)
    refine ⟨_,rfl, .inr (.inl ⟨_,_,rfl,rfl,by rw [len_append,len_one,len_one];exact sizeOk (by first|lia|omega),l,_,_,rfl,rfl,hl6,room,fun H7 c7=>app _ ⟨(hlow6.app (by first|lia|omega) (by first|lia|omega)).app (by first|lia|omega) (by first|lia|omega),by rw [len_append,len_one]; (first|lia|omega),by rw [len_append,len_append,len_one,len_one]; (first|lia|omega),?_,fun _ => ?_⟩ H7 c7⟩)⟩
    ·rw [str_append_list,List.getLast?_append]
     have:((0:Int)+i)=i:=Int.zero_add _
     rw [this]
     rfl
    ·rw [str_append_list]
     show ((Txt.slice x none (some 6)++_).cps.toList++[_]).dropLast.getLast? = _
     rw [List.dropLast_concat,str_append_list,List.getLast?_append]
     show some (97+(((0:Int)+i) / 26).toNat)=_
     congr 2
     rw [Int.zero_add]
     rfl
 ·intro σ H3 hz_
  refine Elim.el hz_ _ ?_
  clear hz_
  rintro xs t3 x5 x6 x7 x8 x9 rfl hxl hx st3 hl3
  refine ⟨_,rfl,q xs l H3 t3 (by first|lia|omega) (NmAt.nodup (by first|lia|omega) g0 hx) (fun x hx' => ?_) (st3.more (by first|lia|omega)) hl hl3⟩
  obtain ⟨k,hk⟩:=List.mem_iff_getElem?.mp hx'
  exact ⟨(hx k x hk).low,(hx k x hk).pos,(hx k x hk).le⟩
end
end Z
namespace Z
open PySem L2
structure UsesOk (uz:List (Str×Int)):Prop where
 nm:∀q∈uz,Low q.1∧q.1.length≤8
 us:∀q∈uz,0≤q.2∧q.2≤1000000000
 po:∀q∈uz,1≤q.1.length
def UsAt (H:Hp) (b c:Addr) (as:List Addr) (us:List (Str×Int)):Prop:=∀(i:Nat) a q,as[i]? = some a→us[i]? = some q→H a=some (.tup [.str q.1, .int q.2])∧a≠b∧a≠c
def UsR (H:Hp) (b c lu:Addr) (as:List Addr) (us:List (Str×Int)):Prop:=lu≠b∧lu≠c∧H lu=some (.lst (as.map V.ref))∧as.length=us.length∧UsAt H b c as us
theorem UsR.den {K:PySem.W.Frag} {H:Hp} {b c lu:Addr} {as:List Addr} {us:List (Str×Int)} (h:UsR H b c lu as us):Den K (hid H b c) (usesD us) (.ref lu):=by
 obtain ⟨n1,n2,hl,al,ua⟩:=h
 refine Den.list (SqL.of (by rw [hid_of n1 n2];exact hl)) (Dens.of_get ?_ fun j d v hd hv => ?_)
 ·rw [List.length_map,List.length_map,al]
 ·rw [List.getElem?_map] at hd hv
  cases eb:as[j]? with
  | none=>rw [eb] at hv;cases hv
  | some a'=>
   rw [eb] at hv;cases hv
   cases eu:us[j]? with
   | none=>rw [eu] at hd;cases hd
   | some q'=>
    rw [eu] at hd;cases hd
    refine Elim.el (ua j a' q' eb eu) _ ?_
    rintro h1 h2 h3
    unfold Den
    refine ⟨a',_,rfl,SqT.of (by rw [hid_of h2 h3];exact h1),?_⟩
    unfold Dens
    refine ⟨_,_,rfl,by unfold Den;rfl,?_⟩
    unfold Dens
    refine ⟨_,_,rfl,by unfold Den;rfl,?_⟩
    unfold Dens
    rfl
theorem UsR.same {H H':Hp} {b c lu:Addr} {as:List Addr} {us:List (Str×Int)} (h:UsR H b c lu as us) (s:Same H H'):UsR H' b c lu as us:=by
 obtain ⟨n1,n2,hl,al,ua⟩:=h
 exact ⟨n1,n2,s _ _ hl,al,fun j a q e1 e2=>by obtain ⟨h1,h2,h3⟩:=ua j a q e1 e2;exact ⟨s _ _ h1,h2,h3⟩⟩
theorem UsR.step {H H':Hp} {b c lu:Addr} {as:List Addr} {us:List (Str×Int)} {t t' N:Int} (h:UsR H b c lu as us) (s:Step b c H H' t t' N):UsR H' b c lu as us:=by
 obtain ⟨n1,n2,hl,al,ua⟩:=h
 exact ⟨n1,n2,s.old hl n1 n2,al,fun j a q e1 e2=>by obtain ⟨h1,h2,h3⟩:=ua j a q e1 e2;exact ⟨s.old h1 h2 h3,h2,h3⟩⟩
def spUsR (K:PySem.W.Frag):Sp:=fun vs H Q _=>Ex4 fun (b c:Addr) (t:Int) (many:Nat)=>vs=[.ref b, .int (many:Nat)]∧Bx H b c t∧0≤t∧t<100000∧many≤40 ∧
 ∀(us:List (Str×Int)) (lu:Addr) (as:List Addr) (H':Hp) (t':Int),us.length=many→UsesOk us→(us.map (·.1)).Nodup→H lu=none→UsR H' b c lu as us→Step b c H H' t t' 1100→Q (.ref lu) H'
section
variable {P:Program} {w:World} {K:PySem.W.Frag} {mg:Str→Option Value} {base:Heap} {f:Addr} {fd:FuncData}
theorem sc_law_uses:FnScope ["_law_box", "_law_many", "_law_way", "_law_names_here", "_law_uses_here", "_law_place", "_law_use", "_law_order"] ["_law_box", "_law_many"] (defScope (top i_law_uses)):=⟨rfl,rfl,rfl,by decide +kernel,rfl,by decide +kernel,by decide +kernel⟩
theorem ok_us (F:Fun K "_law_uses" "_law_uses" (top i_law_uses) f fd) (T:Nm mg) (f_law_take:Fn P w K mg base 1 "_law_take" ["_law_box", "_law_many"] spTk) (f_law_names:Fn P w K mg base 2 "_law_names" ["_law_box", "_law_many"] spNm23):FnOk P w K mg base CX0 3 f fd ["_law_box", "_law_many"] (spUsR K):=by
 refine F.ok sc_law_uses (fun vs H Q E h => ?_) (fun cdv A outer s H vs Q E hr h => ?_)
 ·obtain ⟨b,c,t,many,rfl,_⟩:=h
  rfl
 obtain ⟨b,c,t,many,rfl,bx,t0,t1,hm,q⟩:=h
 have hu6:=hr.units
 refine ⟨_,(pss_cons (ps_set (i:=2) sc_law_uses.nd rfl (Or.inl rfl) (pe_fn (f_law_take.mono (by first|decide|exact Nat.le_refl _|(first|lia|omega))) hr rfl (pa_cons (pv 0) (pa_cons pe_int pa_nil))))
  (pss_cons (ps_asg (tupN (pa_cons (pe_fn (f_law_names.mono (by first|decide|exact Nat.le_refl _|(first|lia|omega))) hr rfl (pa_cons (pv 0) (pa_cons (pv 1) pa_nil))) (pa_cons (lstN pa_nil) pa_nil))) (tupK K 2 rfl (pgs_cons (pg_name (i:=3) sc_law_uses.nd rfl (Or.inl rfl)) (pgs_cons (pg_name (i:=4) sc_law_uses.nd rfl (Or.inr rfl)) pgs_nil))))
  (pss_cons (ps_for PassesOwn.never rfl (pi_range1 rfl T.n_range (pa_cons (pv 1) pa_nil)) (pg_name (i:=5) sc_law_uses.nd rfl (Or.inl rfl)) (pss_cons (ps_if (pt_cmpR (eqK K hu6) (pv 2) pe_int (nomark _)) (pss_one (ps_set (i:=6) sc_law_uses.nd rfl (Or.inl rfl) pe_int)) (pss_one (ps_if (pt_cmpR (eqK K hu6) (pv 2) pe_int (nomark _)) (pss_one (ps_set (i:=6) sc_law_uses.nd rfl (Or.inl rfl) (pe_fn (f_law_take.mono (by first|decide|exact Nat.le_refl _|(first|lia|omega))) hr rfl (pa_cons (pv 0) (pa_cons pe_int pa_nil))))) (pss_one (ps_if (pt_cmpR (eqK K hu6) (pv 2) pe_int (nomark _)) (pss_one (ps_set (i:=6) sc_law_uses.nd rfl (Or.inl rfl) (pe_callB (call_min2 rfl) rfl T.n_min (by rfl) (pa_cons (pe_op op_pow pe_int pe_int) (pa_cons (pe_op op_shl pe_int (pe_callB (call_min2 rfl) rfl T.n_min (by rfl) (pa_cons (pv 5) (pa_cons pe_int pa_nil)))) pa_nil))))) (pss_one (ps_if (pt_cmpR (eqK K hu6) (pv 2) pe_int (nomark _)) (pss_one (ps_set (i:=6) sc_law_uses.nd rfl (Or.inl rfl) (pe_fn (f_law_take.mono (by first|decide|exact Nat.le_refl _|(first|lia|omega))) hr rfl (pa_cons (pv 0) (pa_cons (pe_op addN (pe_op op_pow pe_int pe_int) pe_int) pa_nil))))) (pss_one (ps_set (i:=6) sc_law_uses.nd rfl (Or.inl rfl) (pe_fn (f_law_take.mono (by first|decide|exact Nat.le_refl _|(first|lia|omega))) hr rfl (pa_cons (pv 0) (pa_cons pe_int pa_nil))))))))))))
  (pss_one (ps_expr (bmK K PySem.F.plainAttrs_list PySem.F.slot_list_append PySem.F.type_list_append appendN (pv 4) (pa_cons (tupN (pa_cons (pe_ix (ixK K) (pv 3) (pv 5) (fun _ _=>rfl)) (pa_cons (pv 6) pa_nil))) pa_nil))))))
  (pss_cons (ps_set (i:=7) sc_law_uses.nd rfl (Or.inr rfl) (pe_listrange rfl rfl T.n_list rfl T.n_range (pa_cons (pv 1) pa_nil)))
  (pss_one (ps_ret (pe_lcomp rfl (comp_ok (Nc:=["_law_turn"]) (Fc:=["_law_uses_here", "_law_order", "_law_box"]) (js:=[4,7,0])) (pi_range1 rfl T.n_range (pa_cons (pv 1) pa_nil)) (gk_name (i:=0) (n:=1) (by decide)) (fun _ _ _ _ _=>(pg_name (i:=0) (show (["_law_turn", "_law_uses_here", "_law_order", "_law_box"]:List Str).Nodup by decide +kernel) rfl (Or.inl rfl))) (fun _ _ _ _ _=>pts_nil) (fun _ _ _ _ _=>(pe_ix (ixK K) (pv 1) (bmK K PySem.F.plainAttrs_list PySem.F.slot_list_pop PySem.F.type_list_pop popAtN (pv 2) (pa_cons (pe_fn (f_law_take.mono (by first|decide|exact Nat.le_refl _|(first|lia|omega))) hr rfl (pa_cons (pv 3) (pa_cons (pe_callB (lenK K) rfl T.n_len (by rfl) (pa_cons (pv 2) pa_nil)) pa_nil))) pa_nil)) (fun _ _=>rfl)))))))))),?_⟩
 refine ⟨_,rfl,b,c,t,6,rfl,bx,t0,by first|lia|omega,by decide,by decide,fun wy H1 w0 w1 st1=>gn ?_⟩
 refine ⟨_,rfl,_,rfl,b,c,t+1,_,rfl,st1.bx,by first|lia|omega,by first|lia|omega,by first|lia|omega,by first|lia|omega,fun xs ln H2 t2 xl xnd hx st2 hln hln2 => ?_⟩
 refine ⟨by show 0≤sizeLine;decide,fun lu H3 n3 => ?_⟩
 refine ⟨by show 2≤sizeLine;decide,fun pt H4 n4=>⟨pt,_,rfl,SqT.of n4.at,rfl,_,_,rfl,_,_,rfl,rfl,?_⟩⟩
 have ub2:=st2.ub
 have lo2:=st2.le
 have lnb:ln≠b∧ln≠c:=st1.bx.ne_new hln
 have lub:lu≠b∧lu≠c:=st2.bx.ne_new n3.nn
 have st4:=((st1.trans st2).newN n3).newN n4
 have hlu4:=n4.same _ _ n3.at
 have hln4:=n4.same _ _ (n3.same _ _ hln2)
 have lnlu:ln≠lu:=ne_of_none hln2 n3.nn
 have hlu0:H lu=none:=(st1.trans st2).fresh bx n3.nn
 have hln0:H ln=none:=st1.fresh bx hln
 dsimp only
 refine seqCut (t:=tFor _ _ _) (fun σ H'=>Ex5 fun (t':Int) (as:List Addr) (us:List (Str×Int)) (x5 x6:Option V) => σ=[some (.ref b),some (.int (many:Nat)),some (.int wy),some (.ref ln),some (.ref lu),x5,x6,none]∧as.length=many∧us.length=many∧H' lu=some (.lst (as.map V.ref))∧UsAt H' b c as us∧UsesOk us∧us.map (·.1)=xs.take many∧Step b c H H' t t' (1001+40)) (fun Nx nx => ?_) ?_
 ·refine ⟨_,rfl,_,rfl,by first|lia|omega,by first|lia|omega,?_⟩
  refine for_range (lo:=0) (n:=((many:Nat):Int).toNat) (fun j σ H'=>Ex5 fun (t':Int) (as:List Addr) (us:List (Str×Int)) (x5 x6:Option V) => σ=[some (.ref b),some (.int (many:Nat)),some (.int wy),some (.ref ln),some (.ref lu),x5,x6,none]∧as.length=j∧us.length=j∧H' lu=some (.lst (as.map V.ref))∧H' ln=some (.lst (xs.map V.str))∧UsAt H' b c as us∧UsesOk us∧us.map (·.1)=xs.take j∧Step b c H H' t t' (1001+j))
   ⟨t2,[],[],_,_,rfl,rfl,rfl,hlu4,hln4,(fun i a q e=>by simp at e),⟨fun q h=>(nomatch h),fun q h=>(nomatch h),fun q h=>(nomatch h)⟩,rfl,st4.more (by first|lia|omega)⟩ ?_ ?_
  ·intro j σ H5 hj hz_
   refine Elim.el hz_ _ ?_
   clear hz_
   rintro t5 as us x5 x6 rfl al ul hlu5 hln5 ua uo unm st5
   have ub5:=st5.ub
   have lo5:=st5.le
   dsimp only
   refine seqCut (t:=tIfS _ _ _) (fun σ H'=>Ex2 fun (use t':Int) => σ=[some (.ref b),some (.int (many:Nat)),some (.int wy),some (.ref ln),some (.ref lu),some (.int (0+j)),some (.int use),none]∧0≤use∧use≤1000000000∧Step b c H5 H' t5 t' 1) (fun Nx nx => ?_) ?_
   ·have tk:∀(m:Int),0<m→m≤1000000001→spTk [.ref b, .int m] H5 (fun v H'=>Nx ([some (.ref b),some (.int (many:Nat)),some (.int wy),some (.ref ln),some (.ref lu),some (.int (0+j)),some v,none]) H') (fun _ _ _=>False):=fun m h0 h1=>
     ⟨b,c,t5,m,rfl,st5.bx,by first|lia|omega,by first|lia|omega,h0,by first|lia|omega,fun r H6 r0 r1 st6=>nx _ _ ⟨r,_,rfl,r0,by first|lia|omega,st6⟩⟩
    refine ⟨_,rfl, .inl ⟨rfl,_,rfl,ite2 (fun _=>gn (nx _ _ ⟨7,t5,rfl,by decide,by decide,(Step.refl st5.bx).more (by first|lia|omega)⟩)) (fun _ => ?_)⟩⟩
    refine ⟨_,rfl, .inl ⟨rfl,_,rfl,ite2 (fun _ => ?_) (fun _ => ?_)⟩⟩
    ·exact ⟨_,rfl,b,c,t5,2,rfl,st5.bx,by first|lia|omega,by first|lia|omega,by decide,by decide,fun r H6 r0 r1 st6=>gn (nx _ _ ⟨r,_,rfl,r0,by first|lia|omega,st6⟩)⟩
    refine ⟨_,rfl, .inl ⟨rfl,_,rfl,ite2 (fun _ => ?_) (fun _ => ?_)⟩⟩
    ·have mn:∀x:Int,0≤x→0≤(if x<(10:Int) ^ (9:Int).toNat then x else 10 ^ (9:Int).toNat)∧(if x<(10:Int) ^ (9:Int).toNat then x else 10 ^ (9:Int).toNat)≤1000000000:=fun x hx=>by
      have e:(10:Int) ^ (9:Int).toNat=1000000000:=by decide
      rw [e]
      split <;> (first|lia|omega)
     refine ⟨_,_,rfl,rfl,⟨by decide,by decide,by decide⟩,_,rfl,_,_,rfl,_,_,rfl,rfl,⟨by split <;> (first|lia|omega),by split <;> (first|lia|omega),by decide⟩,_,_,rfl,gn (nx _ _ ⟨_,t5,rfl,(mn _ ?_).1,(mn _ ?_).2,(Step.refl st5.bx).more (by first|lia|omega)⟩)⟩
     all_goals exact Int.mul_nonneg (by decide) (Int.pow_nonneg (by decide))
    refine ⟨_,rfl, .inl ⟨rfl,_,rfl,ite2 (fun _ => ?_) (fun _ => ?_)⟩⟩
    ·exact ⟨_,rfl,_,_,rfl,rfl,⟨by decide,by decide,by decide⟩, .inl ⟨_,_,rfl,rfl,b,c,t5,_,rfl,st5.bx,by first|lia|omega,by first|lia|omega,by decide,by decide,fun r H6 r0 r1 st6=>gn (nx _ _ ⟨r,_,rfl,r0,Int.lt_add_one_iff.mp r1,st6⟩)⟩⟩
    ·exact ⟨_,rfl,b,c,t5,20,rfl,st5.bx,by first|lia|omega,by first|lia|omega,by decide,by decide,fun r H6 r0 r1 st6=>gn (nx _ _ ⟨r,_,rfl,r0,by first|lia|omega,st6⟩)⟩
   ·intro σ H6 hz_
    refine Elim.el hz_ _ ?_
    clear hz_
    rintro use t6 rfl u0 u1 st6
    have hlu6:=st6.old hlu5 lub.1 lub.2
    have hln6:=st6.old hln5 lnb.1 lnb.2
    have hjx:j<xs.length:=by (first|lia|omega)
    have ex:(xs.map V.str)[j]? = some (.str xs[j]):=by rw [List.getElem?_map,List.getElem?_eq_getElem hjx];rfl
    have nmj:=hx _ (List.getElem_mem hjx)
    refine ⟨_,rfl, .inl ⟨rfl,_,SqL.of hlu6⟩,_,rfl,_,rfl, .inl ⟨ln,_,_,_,rfl,rfl,SqL.of hln6,at_nat (by first|lia|omega) (by rw [show (0+(j:Int)).toNat=j by first|lia|omega];exact ex),_,rfl,by show 2≤sizeLine;decide,fun pp H7 n7 => ?_⟩⟩
    have hlu7:=n7.same _ _ hlu6
    refine ⟨lu,_,_,rfl,rfl,hlu7,Nat.lt_of_lt_of_le (show _<1000 by rw [List.length_map]; (first|lia|omega)) (by decide),fun H8 c8 => ?_⟩
    have ppb:=st6.bx.ne_new n7.nn
    have pplu:pp≠lu:=Ne.symm (ne_of_none hlu6 n7.nn)
    refine ⟨t6,as++[pp],us++[(xs[j],use)],_,_,rfl,by rw [List.length_append,al];rfl,by rw [List.length_append,ul];rfl,by rw [c8.at,List.map_append];rfl,?_,fun i a q ea eq => ?_,⟨fun q hq => ?_,fun q hq => ?_,fun q hq => ?_⟩,by rw [List.map_append,unm,List.take_succ_eq_append_getElem hjx];rfl,((st5.trans st6).newN n7 |>.chgN c8 hlu0 lub.1 lub.2).more (by first|lia|omega)⟩
    ·rw [c8.ne lnlu];exact n7.same _ _ hln6
    ·by_cases hi:i<as.length
     ·rw [List.getElem?_append_left hi] at ea
      rw [List.getElem?_append_left (by first|lia|omega)] at eq
      refine Elim.el (ua i a q ea eq) _ ?_
      rintro g1 g2 g3
      have e7:=n7.same _ _ (st6.old g1 g2 g3)
      refine ⟨?_,g2,g3⟩
      rw [c8.ne (fun z=>by rw [z,hlu7] at e7;cases e7)]
      exact e7
     ·have:i=as.length:=by
       have:=(List.getElem?_eq_some_iff.mp ea).1
       simp at this; (first|lia|omega)
      subst this
      rw [List.getElem?_append_right (Nat.le_refl _),Nat.sub_self] at ea
      rw [List.getElem?_append_right (Nat.le_of_eq (ul.trans al.symm)),show as.length-us.length=0 by rw [al,ul];exact Nat.sub_self _] at eq
      cases ea;cases eq
      refine ⟨?_,ppb.1,ppb.2⟩
      rw [c8.ne pplu];exact n7.at
    ·rcases List.mem_append.mp hq with z|z
     ·exact uo.nm q z
     ·rw [List.mem_singleton.mp z];exact ⟨nmj.1,nmj.2.2⟩
    ·rcases List.mem_append.mp hq with z|z
     ·exact uo.us q z
     ·rw [List.mem_singleton.mp z];exact ⟨u0,u1⟩
    ·rcases List.mem_append.mp hq with z|z
     ·exact uo.po q z
     ·rw [List.mem_singleton.mp z];exact nmj.2.1
  ·intro σ H5 hz_
   refine Elim.el hz_ _ ?_
   clear hz_
   rintro t5 as us x5 x6 rfl al ul hlu5 hln5 ua uo unm st5
   have em:((many:Nat):Int).toNat=many:=Int.toNat_natCast _
   rw [em] at al ul unm st5
   exact nx _ _ ⟨t5,as,us,_,_,rfl,al,ul,hlu5,ua,uo,unm,st5.more (by first|lia|omega)⟩
 ·intro σ H5 hz_
  refine Elim.el hz_ _ ?_
  clear hz_
  rintro t5 as us x5 x6 rfl al ul hlu5 ua uo unm st5
  have ub5:=st5.ub
  have lo5:=st5.le
  rw [List.take_of_length_le (by first|lia|omega)] at unm
  refine ⟨_,rfl,many,rfl,by first|lia|omega,fun lo H6 n6=>gn ?_⟩
  have lob:=st5.bx.ne_new n6.nn
  have lolu:lo≠lu:=Ne.symm (ne_of_none hlu5 n6.nn)
  have lo0:H lo=none:=st5.fresh bx n6.nn
  have ua6:UsAt H6 b c as us:=fun i a q e1 e2=>by
   refine Elim.el (ua i a q e1 e2) _ ?_
   rintro g1 g2 g3
   exact ⟨n6.same _ _ g1,g2,g3⟩
  refine ⟨_,rfl,_,rfl,by first|lia|omega,by first|lia|omega,?_⟩
  refine comp_go (N:=((many:Nat):Int).toNat) (fun i ys H'=>Ex4 fun (t':Int) (os:List Nat) (bs:List Addr) (us':List (Str×Int))=>ys=bs.map V.ref∧bs.length=i∧us'.length=i∧H' lo=some (.lst (os.map fun (n:Nat)=>V.int (n:Int)))∧os.length+i=many∧(∀o∈os,o<many)∧H' lu=some (.lst (as.map V.ref))∧UsAt H' b c as us∧UsAt H' b c bs us'∧(∀q∈us',q∈us)∧(∃ix:List Nat,(ix++os).Nodup∧(∀j∈ix,j<many)∧us'.map (·.1)=ix.map fun j=>xs.getD j Str.empty)∧Step b c H H' t t' (1041+i))
   ⟨t5,List.range many,[],[],rfl,rfl,rfl,n6.at,by rw [List.length_range]; (first|lia|omega),fun o ho=>List.mem_range.mp ho,n6.same _ _ hlu5,ua6,(fun i a q e=>by simp at e),(fun q h=>(nomatch h)),⟨[],by rw [List.nil_append];exact List.nodup_range,(fun _ h=>nomatch h),rfl⟩,(st5.newN n6).more (by first|lia|omega)⟩ ?_ ?_
  ·intro i ys H7 Nx hi hz_ nx
   refine Elim.el hz_ _ ?_
   clear hz_
   intro t7 os bs us' rfl bl ul' hlo7 ol oo hlu7 ua7 ub7 um hz_ st7
   refine Elim.el hz_ _ ?_
   clear hz_
   rintro ix ixn ixl ixe
   have hi:i<many:=by (first|lia|omega)
   have u7:=st7.ub
   have l7:=st7.le
   refine ⟨by show i<((many:Nat):Int).toNat; (first|lia|omega),Nat.lt_of_lt_of_le (show _<1000 by rw [List.length_map]; (first|lia|omega)) (by decide),?_⟩
   rintro x' H8 ⟨rfl,rfl⟩
   have vl:(os.map fun (n:Nat)=>V.int (n:Int)).length=os.length:=List.length_map _
   refine ⟨_,rfl,_,rfl, .inl ⟨rfl,_,SqL.of hlo7⟩,_,rfl,_,rfl,_,_,rfl, .inl ⟨_,SqL.of hlo7,rfl⟩,b,c,t7,_,rfl,st7.bx,by first|lia|omega,by first|lia|omega,by first|lia|omega,by first|lia|omega,fun r H9 r0 r1 st9 => ?_⟩
   have hro:r.toNat<os.length:=(Int.toNat_lt r0).mpr (by rw [vl] at r1;exact r1)
   have er:(os.map fun (n:Nat)=>V.int (n:Int))[r.toNat]? = some (.int (os[r.toNat]:Nat)):=by rw [List.getElem?_map,List.getElem?_eq_getElem hro];rfl
   have hlo9:=st9.old hlo7 lob.1 lob.2
   have hlu9:=st9.old hlu7 lub.1 lub.2
   refine ⟨lo,_,r,_,rfl,rfl,hlo9,r0,by first|lia|omega,er,fun H10 c10 => ?_⟩
   have om:=oo _ (List.getElem_mem hro)
   have ea:as[os[r.toNat]]? = some (as[os[r.toNat]]'(by first|lia|omega)):=List.getElem?_eq_getElem _
   have eu:us[os[r.toNat]]? = some (us[os[r.toNat]]'(by first|lia|omega)):=List.getElem?_eq_getElem _
   have k10:∀(a:Addr) (x y:V),a≠b→a≠c→H8 a=some (.tup [x,y])→H10 a=some (.tup [x,y]):=fun a x y ab ac e=>by
    have e9:=st9.old e ab ac
    rw [c10.ne (fun z=>by rw [z,hlo9] at e9;cases e9)]
    exact e9
   have hlu10:H10 lu=some (.lst (as.map V.ref)):=by rw [c10.ne (Ne.symm lolu)];exact hlu9
   refine Elim.el (ua7 _ _ _ ea eu) _ ?_
   rintro g1 g2 g3
   refine .inl ⟨lu,_,_,_,rfl,rfl,SqL.of hlu10,atI_nat (by rw [List.getElem?_map,ea];rfl),nx _ _ ⟨t7+1,os.eraseIdx r.toNat,bs++[as[os[r.toNat]]'(by first|lia|omega)],us'++[us[os[r.toNat]]'(by first|lia|omega)],by rw [List.map_append];rfl,by rw [List.length_append,bl];rfl,by rw [List.length_append,ul'];rfl,?_,?_,fun o ho=>oo o (List.mem_of_mem_eraseIdx ho),hlu10,fun i a q e1 e2 => ?_,fun i' a q e1 e2 => ?_,fun q hq => ?_,⟨ix++[os[r.toNat]],?_,?_,?_⟩,((st7.trans st9).chgN c10 lo0 lob.1 lob.2).more (by first|lia|omega)⟩⟩
   ·rw [c10.at,List.eraseIdx_eq_take_drop_succ,List.eraseIdx_eq_take_drop_succ,List.map_append,List.map_take,List.map_drop]
   ·rw [List.length_eraseIdx_of_lt hro]; (first|lia|omega)
   ·refine Elim.el (ua7 i a q e1 e2) _ ?_
    rintro h1 h2 h3
    exact ⟨k10 a _ _ h2 h3 h1,h2,h3⟩
   ·by_cases hb:i'<bs.length
    ·rw [List.getElem?_append_left hb] at e1
     rw [List.getElem?_append_left (by rw [ul', ←bl];exact hb)] at e2
     refine Elim.el (ub7 i' a q e1 e2) _ ?_
     rintro h1 h2 h3
     exact ⟨k10 a _ _ h2 h3 h1,h2,h3⟩
    ·have:i'=bs.length:=by
      have:=(List.getElem?_eq_some_iff.mp e1).1
      simp at this; (first|lia|omega)
     subst this
     rw [List.getElem?_append_right (Nat.le_refl _),Nat.sub_self] at e1
     rw [List.getElem?_append_right (Nat.le_of_eq (ul'.trans bl.symm)),show bs.length-us'.length=0 by rw [bl,ul'];exact Nat.sub_self _] at e2
     cases e1;cases e2
     exact ⟨k10 _ _ _ g2 g3 g1,g2,g3⟩
   ·rcases List.mem_append.mp hq with z|z
    ·exact um q z
    ·rw [List.mem_singleton.mp z];exact List.getElem_mem _
   ·refine (List.Perm.nodup_iff ?_).mpr ixn
    rw [List.append_assoc]
    refine List.Perm.append_left _ ?_
    rw [List.eraseIdx_eq_take_drop_succ]
    refine (List.perm_middle (l₁:=os.take r.toNat)).symm.trans (List.Perm.of_eq ?_)
    rw [←List.drop_eq_getElem_cons hro,List.take_append_drop]
   ·intro j hj
    rcases List.mem_append.mp hj with z|z
    ·exact ixl j z
    ·rw [List.mem_singleton.mp z];exact om
   ·rw [List.map_append,List.map_append,ixe]
    have hxo:os[r.toNat]<xs.length:=by (first|lia|omega)
    have e1:(us.map (·.1))[os[r.toNat]]? = some xs[os[r.toNat]]:=by rw [unm];exact List.getElem?_eq_getElem hxo
    rw [List.getElem?_map,eu] at e1
    have e1:=Option.some.inj e1
    show _++[_]=_++[_]
    rw [e1]
    congr 2
    simp [List.getD,hxo]
  ·intro ys H7 hz_
   refine Elim.el hz_ _ ?_
   clear hz_
   intro t7 os bs us' rfl bl ul' hlo7 ol oo hlu7 ua7 ub7 um hz_ st7
   refine Elim.el hz_ _ ?_
   clear hz_
   rintro ix ixn ixl ixe
   refine ⟨Nat.le_refl _,fun p hp => ?_⟩
   have pb:=st7.bx.ne_new hp
   have em:((many:Nat):Int).toNat=many:=Int.toNat_natCast _
   rw [em] at bl ul' st7
   refine q us' p bs _ t7 ul' ⟨fun q hq=>uo.nm q (um q hq),fun q hq=>uo.us q (um q hq),fun q hq=>uo.po q (um q hq)⟩ ?_ (st7.fresh bx hp) ⟨pb.1,pb.2,upd_same,bl.trans ul'.symm,fun j a' q' eb eu => ?_⟩ ((st7.new hp _).more (by first|lia|omega))
   ·rw [ixe]
    have ixn:=(List.nodup_append.mp ixn).1
    refine List.pairwise_map.mpr (List.Pairwise.imp_of_mem (fun {a b} ha hb hab e => ?_) ixn)
    have la:=ixl a ha
    have lb':=ixl b hb
    have xm:many=xs.length:=(Int.ofNat_inj.mp xl).symm
    have ea:xs.getD a Str.empty=xs[a]'(xm ▸ la):=by simp [List.getD,show a<xs.length from xm ▸ la]
    have eb:xs.getD b Str.empty=xs[b]'(xm ▸ lb'):=by simp [List.getD,show b<xs.length from xm ▸ lb']
    rw [ea,eb] at e
    exact hab ((List.getElem_inj xnd).mp e)
   refine Elim.el (ub7 j a' q' eb eu) _ ?_
   rintro h1 h2 h3
   exact ⟨by rw [upd_ne (ne_of_none h1 hp)];exact h1,h2,h3⟩
end
end Z
namespace Z
open PySem L2
def spCase23 (K:PySem.W.Frag):Sp:=fun vs H Q _=>Ex5 fun (b c:Addr) (t:Int) (few great:Nat)=>vs=[.ref b, .int (few:Nat), .int (great:Nat)]∧1≤few∧few≤24∧1≤great∧great≤24∧Bx H b c t∧0≤t∧t<90000 ∧
 ∀(us:List (Str×Int)) (most:Nat) (p lu:Addr) (as:List Addr) (H':Hp) (t':Int),1≤us.length→us.length≤40→UsesOk us→(us.map (·.1)).Nodup→1≤most→most≤30→us.length≤2 ^ most→H lu=none→UsR H' b c lu as us→H' p=some (.tup [.ref lu, .int (most:Nat)])→Step b c H H' t t' 1200→Q (.ref p) H'
section
variable {P:Program} {w:World} {K:PySem.W.Frag} {mg:Str→Option Value} {base:Heap} {f:Addr} {fd:FuncData}
theorem sc_law_case:FnScope ["_law_box", "_law_few", "_law_great", "_law_sort", "_law_many", "_law_least_here", "_law_way", "_law_most"] ["_law_box", "_law_few", "_law_great"] (defScope (top i_law_case)):=⟨rfl,rfl,rfl,by decide +kernel,rfl,by decide +kernel,by decide +kernel⟩
theorem ok_case23 (F:Fun K "_law_case" "_law_case" (top i_law_case) f fd) (T:Nm mg) (f_law_take:Fn P w K mg base 1 "_law_take" ["_law_box", "_law_many"] spTk) (f_law_uses:Fn P w K mg base 3 "_law_uses" ["_law_box", "_law_many"] (spUsR K)):FnOk P w K mg base CX0 4 f fd ["_law_box", "_law_few", "_law_great"] (spCase23 K):=by
 refine F.ok sc_law_case (fun vs H Q E h => ?_) (fun cdv A outer s H vs Q E hr h => ?_)
 ·obtain ⟨b,c,t,few,great,rfl,_⟩:=h
  rfl
 obtain ⟨b,c,t,few,great,rfl,f1,f2,g1,g2,bx,t0,t1,q⟩:=h
 have hu6:=hr.units
 refine ⟨_,(pss_cons (ps_set (i:=3) sc_law_case.nd rfl (Or.inl rfl) (pe_fn (f_law_take.mono (by first|decide|exact Nat.le_refl _|(first|lia|omega))) hr rfl (pa_cons (pv 0) (pa_cons pe_int pa_nil))))
  (pss_cons (ps_set (i:=4) sc_law_case.nd rfl (Or.inl rfl) (pe_ifExp (pt_cmpR (eqK K hu6) (pv 3) pe_int (nomark _)) (pe_op addN pe_int (pe_fn (f_law_take.mono (by first|decide|exact Nat.le_refl _|(first|lia|omega))) hr rfl (pa_cons (pv 0) (pa_cons pe_int pa_nil)))) (pe_op addN pe_int (pe_fn (f_law_take.mono (by first|decide|exact Nat.le_refl _|(first|lia|omega))) hr rfl (pa_cons (pv 0) (pa_cons (pe_ifExp (pt_cmpR (eqK K hu6) (pv 3) pe_int (nomark _)) (pv 2) (pv 1)) pa_nil))))))
  (pss_cons (ps_set (i:=5) sc_law_case.nd rfl (Or.inl rfl) pe_int)
  (pss_cons (ps_while PassesOwn.never (pt_cmpR op_lt (pe_op op_shl pe_int (pv 5)) (pv 4) (nomark _)) (pss_one (ps_set (i:=5) sc_law_case.nd rfl (Or.inl rfl) (pe_op addN (pv 5) pe_int))))
  (pss_cons (ps_set (i:=6) sc_law_case.nd rfl (Or.inl rfl) (pe_fn (f_law_take.mono (by first|decide|exact Nat.le_refl _|(first|lia|omega))) hr rfl (pa_cons (pv 0) (pa_cons pe_int pa_nil))))
  (pss_cons (ps_set (i:=7) sc_law_case.nd rfl (Or.inl rfl) (pe_ifExp (pt_cmpR op_lt (pv 6) pe_int (nomark _)) (pe_callB (call_min2 rfl) rfl T.n_min (by rfl) (pa_cons pe_int (pa_cons (pe_op addN (pv 5) (pv 6)) pa_nil))) (pe_op addN (pv 5) (pe_fn (f_law_take.mono (by first|decide|exact Nat.le_refl _|(first|lia|omega))) hr rfl (pa_cons (pv 0) (pa_cons (pe_op op_sub pe_int (pv 5)) pa_nil))))))
  (pss_one (ps_ret (tupN (pa_cons (pe_fn (f_law_uses.mono (by first|decide|exact Nat.le_refl _|(first|lia|omega))) hr rfl (pa_cons (pv 0) (pa_cons (pv 4) pa_nil))) (pa_cons (pv 7) pa_nil))))))))))),?_⟩
 refine ⟨_,rfl,b,c,t,8,rfl,bx,t0,by first|lia|omega,by decide,by decide,fun r H0 r0 r1 st0=>gn ?_⟩
 dsimp only
 have u0:=st0.ub
 have l0:=st0.le
 refine asgCut (te:=tIf _ _ _) (fun v H'=>Ex2 fun (many:Nat) (t':Int)=>v = .int (many:Nat)∧1≤many∧many≤40∧Step b c H H' t t' 2) (fun Qn qn => ?_) ?_
 ·refine ⟨_,rfl, .inl ⟨rfl,_,rfl,ite2 (fun _ => ?_) (fun _ => ?_)⟩⟩
  ·refine ⟨_,rfl,b,c,_,_,rfl,st0.bx,by first|lia|omega,by first|lia|omega,by decide,by decide,fun d H2 d0 d1 st2 => .inl ⟨_,_,rfl,rfl,qn _ _ ⟨(25+d).toNat,_,?_,by first|lia|omega,by first|lia|omega,(st0.trans st2).more (by first|lia|omega)⟩⟩⟩
   rw [show (((25+d).toNat:Nat):Int)=25+d by first|lia|omega]
  ·refine ⟨_,rfl,_,rfl, .inl ⟨rfl,_,rfl,ite2 (fun _ => ?_) (fun _ => ?_)⟩⟩
   ·refine ⟨_,rfl,b,c,_,_,rfl,st0.bx,by first|lia|omega,by first|lia|omega,by first|lia|omega,by first|lia|omega,fun d H2 d0 d1 st2 => .inl ⟨_,_,rfl,rfl,qn _ _ ⟨(1+d).toNat,_,?_,by first|lia|omega,by first|lia|omega,(st0.trans st2).more (by first|lia|omega)⟩⟩⟩
    rw [show (((1+d).toNat:Nat):Int)=1+d by first|lia|omega]
   ·refine ⟨_,rfl,b,c,_,_,rfl,st0.bx,by first|lia|omega,by first|lia|omega,by first|lia|omega,by first|lia|omega,fun d H2 d0 d1 st2 => .inl ⟨_,_,rfl,rfl,qn _ _ ⟨(1+d).toNat,_,?_,by first|lia|omega,by first|lia|omega,(st0.trans st2).more (by first|lia|omega)⟩⟩⟩
    rw [show (((1+d).toNat:Nat):Int)=1+d by first|lia|omega]
 intro v H1 hz_
 refine Elim.el hz_ _ ?_
 clear hz_
 rintro many t1' rfl y1 y2 st1
 refine gn ?_
 refine gn ?_
 have u1:=st1.ub
 have l1:=st1.le
 dsimp only
 refine whileGo (fun m σ H'=>∃k:Nat, σ=[some (.ref b),some (.int (few:Nat)),some (.int (great:Nat)),some (.int r),some (.int (many:Nat)),some (.int (k:Nat)),none,none]∧m=8-k∧1≤k∧k≤6∧H'=H1) ⟨7,1,rfl,rfl,by decide,by decide,rfl⟩ ?_
 intro m σ H2 hz_
 refine Elim.el hz_ _ ?_
 clear hz_
 rintro k rfl rfl k1 k2 rfl
 have epow:(1:Int)*2 ^ ((k:Nat):Int).toNat=((2 ^ k:Nat):Int):=by rw [Int.one_mul,Int.toNat_natCast];simp
 refine ⟨_,rfl,_,_,rfl,rfl,⟨by first|lia|omega,by first|lia|omega,by decide⟩,_,rfl,_,_,rfl,rfl,_,rfl,ite2 (fun c1 => ?_) (fun c1 => ?_)⟩
 ·have c1:=of_decide_eq_true c1
  rw [epow] at c1
  have hk:k≤5:=by
   apply Classical.byContradiction
   intro z
   have:k=6:=by (first|lia|omega)
   subst this
   have:(2 ^ 6:Nat)=64:=by decide
   (first|lia|omega)
  refine ⟨fun σ' H'=>∃m',m'<8-k∧∃k:Nat, σ'=[some (.ref b),some (.int (few:Nat)),some (.int (great:Nat)),some (.int r),some (.int (many:Nat)),some (.int (k:Nat)),none,none]∧m'=8-k∧1≤k∧k≤6∧H'=H2,fun σ' H' h=>h,?_⟩
  exact ⟨_,rfl, .inl ⟨_,_,rfl,rfl,gn ⟨8-(k+1),by first|lia|omega,k+1,rfl,rfl,by first|lia|omega,by first|lia|omega,rfl⟩⟩⟩
 ·have hm:many≤2 ^ k:=by
   have:¬((1:Int)*2 ^ ((k:Nat):Int).toNat<(many:Nat)):=fun z=>c1 (decide_eq_true z)
   rw [epow] at this
   (first|lia|omega)
  refine ⟨_,rfl,b,c,t1',4,rfl,st1.bx,by first|lia|omega,by first|lia|omega,by decide,by decide,fun wy H3 w0 w1 st3=>gn ?_⟩
  have st3:=st1.trans st3
  dsimp only
  refine asgCut (te:=tIf _ _ _) (fun v H'=>Ex2 fun (most:Nat) (t':Int)=>v = .int (most:Nat)∧k≤most∧most≤30∧Step b c H H' t t' 4) (fun Qn qn => ?_) ?_
  ·refine ⟨_,rfl,_,_,rfl,rfl,_,rfl,ite2 (fun c2 => ?_) (fun _ => ?_)⟩
   ·have c2:=of_decide_eq_true c2
    refine ⟨_,rfl,_,rfl, .inl ⟨_,_,rfl,rfl,_,_,rfl,?_⟩⟩
    rw [if_pos (show ((k:Nat):Int)+wy<24 by first|lia|omega)]
    refine qn _ _ ⟨((k:Int)+wy).toNat,_,?_,by first|lia|omega,by first|lia|omega,st3.more (by first|lia|omega)⟩
    rw [show ((((k:Int)+wy).toNat:Nat):Int)=(k:Int)+wy by first|lia|omega]
   ·refine ⟨_,rfl,_,rfl,_,rfl,_,_,rfl,rfl,b,c,_,_,rfl,st3.bx,by first|lia|omega,by first|lia|omega,by first|lia|omega,by first|lia|omega,fun r H4 r0 r1 st4 => .inl ⟨_,_,rfl,rfl,?_⟩⟩
    refine qn _ _ ⟨((k:Int)+r).toNat,_,?_,by first|lia|omega,by first|lia|omega,(st3.trans st4).more (by first|lia|omega)⟩
    rw [show ((((k:Int)+r).toNat:Nat):Int)=(k:Int)+r by first|lia|omega]
  ·intro v H4 hz_
   refine Elim.el hz_ _ ?_
   clear hz_
   rintro most t4 rfl m1 m2 st4
   refine gn ?_
   have u4:=st4.ub
   have l4:=st4.le
   refine ⟨_,rfl,_,rfl,b,c,t4,many,rfl,st4.bx,by first|lia|omega,by first|lia|omega,y2,fun us lu as H5 t5 ul uo und lu0 du st5=>⟨_,rfl,by show 2≤sizeLine;decide,fun p H6 n6 => ?_⟩⟩
   refine q us most p lu as H6 t5 (by first|lia|omega) (by first|lia|omega) uo und (by first|lia|omega) m2 ?_ (st4.fresh bx lu0) (du.same n6.same) n6.at (((st4.trans st5).newN n6).more (by first|lia|omega))
   rw [ul]
   exact Nat.le_trans hm (Nat.pow_le_pow_right (by decide) m1)
end
end Z
namespace Z
open PySem L2
theorem subS {a k:Nat} (h:k<a):a-k=a-(k+1)+1:=by rw [Nat.sub_add_eq,Nat.sub_add_cancel (Nat.sub_pos_of_lt h)]
theorem pre_sel {M S R:List Int} (hM:M.Pairwise (· ≤ ·)) (p:(S++R).Perm M) (h:∀a∈S,∀b∈R,a≤b):(M.take S.length).sum=S.sum:=by
 have e:M=srtI S++srtI R:=by
  refine srt_eq (p.symm.trans ((srtI_perm S).symm.append (srtI_perm R).symm)) hM (List.pairwise_append.mpr ⟨srtI_pair S,srtI_pair R,fun a ha b hb=>h a ((srtI_perm S).subset ha) b ((srtI_perm R).subset hb)⟩)
 rw [e, ←(srtI_perm S).length_eq,List.take_left,sum_perm (srtI_perm S)]
theorem pairS_pre:∀(l:List Int) (s:Nat),2*s≤l.length→((pairS l).take s).sum=(l.take (2*s)).sum
 | l,0,_=>by simp
 | [],s+1,h=>by simp at h
 | [_],s+1,h=>by simp at h; (first|lia|omega)
 | a :: b :: r,s+1,h=>by
  have ih:=pairS_pre r s (by simp only [List.length_cons] at h; (first|lia|omega))
  rw [show 2*(s+1)=(2*s)+1+1 by first|lia|omega]
  simp only [pairS,List.take_succ_cons,List.sum_cons,ih]
  (first|lia|omega)
theorem pairS_rise {M:List Int} (hM:M.Pairwise (· ≤ ·)):(pairS M).Pairwise (· ≤ ·):=by
 rw [List.pairwise_iff_getElem]
 intro a b ha hb hab
 rw [pairS_len] at ha hb
 have ga:=pairS_get M a ha
 have gb:=pairS_get M b hb
 rw [List.getElem?_eq_getElem (by rw [pairS_len];exact ha)] at ga
 rw [List.getElem?_eq_getElem (by rw [pairS_len];exact hb)] at gb
 rw [Option.some.inj ga,Option.some.inj gb]
 have:=rise hM (show 2*a≤2*b by first|lia|omega) (show 2*b<M.length by first|lia|omega)
 have:=rise hM (show 2*a+1≤2*b+1 by first|lia|omega) (show 2*b+1<M.length by first|lia|omega)
 (first|lia|omega)
theorem mem_take_get {l:List Int} {a:Int} {m:Nat} (h:a∈l.take m):∃i,i<m∧i<l.length∧l.getD i 0=a:=by
 refine Elim.el (List.mem_iff_getElem.mp h) _ ?_
 rintro i hi e
 rw [List.length_take] at hi
 exact ⟨i,by first|lia|omega,by first|lia|omega,by rw [List.getElem_take] at e;simp [List.getD,show i<l.length by first|lia|omega,e]⟩
theorem mem_drop_get {l:List Int} {a:Int} {m:Nat} (h:a∈l.drop m):∃i,m≤i∧i<l.length∧l.getD i 0=a:=by
 refine Elim.el (List.mem_iff_getElem.mp h) _ ?_
 rintro i hi e
 rw [List.length_drop] at hi
 exact ⟨m+i,by first|lia|omega,by first|lia|omega,by rw [List.getElem_drop] at e;simp [List.getD,show m+i<l.length by first|lia|omega,e]⟩
theorem pre_layer {r M ps:List Int} (hr:r.Pairwise (· ≤ ·)) (hM:M.Pairwise (· ≤ ·)) (pm:M.Perm (r++ps)) (hp:ps.Pairwise (· ≤ ·)) {t m s:Nat} (hm:uam r M t=m) (hs:t=m+s) (hl:t≤M.length):(M.take t).sum=(r.take m).sum+(ps.take s).sum∧s≤ps.length:=by
 have ml:m≤r.length:=by rw [←hm];exact uam_le _ _ _
 have Ml:M.length=r.length+ps.length:=by rw [pm.length_eq,List.length_append]
 have up:∀i,m≤i→i<r.length→s≤ps.countP (fun a=>decide (a<r.getD i 0)):=fun i h1 h2=>by
  have nt:¬plc r M i<(t:Int):=fun z=>by
   have:=(uam_first hr hM pm t i h2).mp z
   (first|lia|omega)
  have nm:¬plc r M m<(t:Int):=fun z=>by
   have:=(uam_first hr hM pm t m (by first|lia|omega)).mp z
   (first|lia|omega)
  have e:=plc_eq hr hM pm (show m<r.length by first|lia|omega)
  have:=cnt_mono (l:=ps) (rise hr h1 h2)
  (first|lia|omega)
 have sl:s≤ps.length:=by
  by_cases h:m<r.length
  ·exact Nat.le_trans (up m (Nat.le_refl _) h) List.countP_le_length
  ·(first|lia|omega)
 refine ⟨?_,sl⟩
 have key:=pre_sel (M:=M) (S:=r.take m++ps.take s) (R:=r.drop m++ps.drop s) hM (by
  refine List.Perm.trans ?_ pm.symm
  have a:(r.take m++ps.take s++(r.drop m++ps.drop s)).Perm ((r.take m++r.drop m)++(ps.take s++ps.drop s)):=by
   rw [List.append_assoc,List.append_assoc]
   refine List.Perm.append_left _ ?_
   rw [←List.append_assoc, ←List.append_assoc]
   exact List.Perm.append_right _ List.perm_append_comm
  rw [List.take_append_drop,List.take_append_drop] at a
  exact a) fun a ha b hb=>by
   rcases List.mem_append.mp ha with ha|ha <;> rcases List.mem_append.mp hb with hb|hb
   ·refine Elim.el (mem_take_get ha) _ ?_
    rintro i i1 i2 rfl
    refine Elim.el (mem_drop_get hb) _ ?_
    rintro j j1 j2 rfl
    exact rise hr (by first|lia|omega) j2
   ·refine Elim.el (mem_take_get ha) _ ?_
    rintro i i1 i2 rfl
    refine Elim.el (mem_drop_get hb) _ ?_
    rintro j j1 j2 rfl
    have ti:=(uam_first hr hM pm t (m-1) (by first|lia|omega)).mpr (by first|lia|omega)
    have e:=plc_eq hr hM pm (show m-1<r.length by first|lia|omega)
    have c1:ps.countP (fun a=>decide (a<r.getD (m-1) 0))≤s:=by (first|lia|omega)
    have c2:r.getD i 0≤r.getD (m-1) 0:=rise hr (by first|lia|omega) (by first|lia|omega)
    refine Int.not_lt.mp fun z => ?_
    have:s+1≤ps.countP (fun a=>decide (a<r.getD (m-1) 0)):=by
     refine cnt_of_first fun k hk=>⟨by first|lia|omega,?_⟩
     have:=rise hp (show k≤j by first|lia|omega) j2
     have ek:ps.getD k 0=ps[k]'(by first|lia|omega):=by simp [List.getD,show k<ps.length by first|lia|omega]
     rw [←ek]
     (first|lia|omega)
    (first|lia|omega)
   ·refine Elim.el (mem_take_get ha) _ ?_
    rintro i i1 i2 rfl
    refine Elim.el (mem_drop_get hb) _ ?_
    rintro j j1 j2 rfl
    obtain ⟨h,q⟩:=below_first hp (up j j1 j2) i i1
    have ek:ps.getD i 0=ps[i]:=by simp [List.getD,h]
    (first|lia|omega)
   ·refine Elim.el (mem_take_get ha) _ ?_
    rintro i i1 i2 rfl
    refine Elim.el (mem_drop_get hb) _ ?_
    rintro j j1 j2 rfl
    exact rise hp (by first|lia|omega) j2
 have e1:(r.take m++ps.take s).length=t:=by rw [List.length_append,List.length_take,List.length_take]; (first|lia|omega)
 rw [e1] at key
 rw [key,List.sum_append]
section
variable {r:List Int} {L:Nat} (hr:r.Pairwise (· ≤ ·)) (h0:∀a∈r,0≤a) (h1:1≤r.length) (hL:1≤L) (fit:r.length≤2 ^ L)
include hr h0 h1 hL fit
theorem tkn_le:∀k,k<L→tkn r L k≤((lay r (L-1-k)).length:Int):=fun k hk=>by
 refine Int.not_lt.mp fun z => ?_
 have up:∀d k,k+d=L-1→((lay r (L-1-k)).length:Int)<tkn r L k→(r.length:Int)<tkn r L (L-1):=fun d=>by
  induction d with
  | zero=>
   intro k hk z
   have:k=L-1:=by (first|lia|omega)
   subst this
   rw [Nat.sub_self] at z
   exact z
  | succ d ih=>
   intro k hk z
   refine ih (k+1) (by first|lia|omega) ?_
   have hS:=lay_pair hr (L-1-k)
   have hP:=lay_perm r (L-1-k)
   have e:L-1-k=(L-1-(k+1))+1:=subS (by first|lia|omega)
   have ll:(lay r (L-1-k)).length=r.length+(lay r (L-1-(k+1))).length / 2:=by
    rw [hP.length_eq,List.length_append,e]
    show r.length+(pairS (lay r (L-1-(k+1)))).length=_
    rw [pairS_len]
   have full:uam r (lay r (L-1-k)) (tkn r L k)=r.length:=by
    refine Nat.le_antisymm (uam_le _ _ _) (Nat.le_of_not_lt fun q => ?_)
    have nt:¬plc r (lay r (L-1-k)) (r.length-1)<tkn r L k:=fun w=>by
     have:=(uam_first hr hS hP _ (r.length-1) (by first|lia|omega)).mp w
     (first|lia|omega)
    have pe:=plc_eq hr hS hP (show r.length-1<r.length by first|lia|omega)
    have cl:=List.countP_le_length (p:=fun a=>decide (a<r.getD (r.length-1) 0)) (l:=sumsOf r (L-1-k))
    have pl:=hP.length_eq
    rw [List.length_append] at pl
    (first|lia|omega)
   show _<2*(tkn r L k-uam r (lay r (L-1-k)) (tkn r L k))
   rw [full]
   (first|lia|omega)
 have a:=up (L-1-k) k (by first|lia|omega) z
 have b:=tkn_end hr h0 h1 hL fit
 obtain ⟨K,rfl⟩:∃K,L=K+1:=⟨L-1,by first|lia|omega⟩
 have b:2*(tkn r (K+1) K-uam r (lay r (K+1-1-K)) (tkn r (K+1) K))=0:=b
 have:=uam_le r (lay r (K+1-1-K)) (tkn r (K+1) K)
 rw [Nat.add_sub_cancel] at a
 (first|lia|omega)
theorem pre_cost:∀d k,k+d=L→((lay r (L-1-k)).take (tkn r L k).toNat).sum*(if k<L then 1 else 0)=sm (fun j=>(r.take (mny r L (k+j))).sum) d:=fun d=>by
 induction d with
 | zero=>
  intro k hk
  rw [if_neg (by first|lia|omega)]
  simp [sm]
 | succ d ih=>
  intro k hk
  rw [if_pos (by first|lia|omega),Int.mul_one]
  have ih:=ih (k+1) (by first|lia|omega)
  have sms:∀{f:Nat→Int} {n:Nat},sm f (n+1)=f 0+sm (fun j=>f (j+1)) n:=fun {f n}=>by
   induction n with
   | zero=>simp [sm]
   | succ n ih=>show sm f (n+1)+f (n+1)=f 0+(sm (fun j=>f (j+1)) n+f (n+1));rw [ih]; (first|lia|omega)
  have hfun:sm (fun j=>(r.take (mny r L (k+(j+1)))).sum) d=sm (fun j=>(r.take (mny r L (k+1+j))).sum) d:=sm_congr fun j _=>by rw [show k+(j+1)=k+1+j from (Nat.add_right_comm k 1 j).symm]
  rw [sms,hfun, ←ih]
  have nn:=tkn_nn hr h0 h1 (L:=L) (k:=k)
  have hS:=lay_pair hr (L-1-k)
  have hP:=lay_perm r (L-1-k)
  have tle:=tkn_le hr h0 h1 hL fit k (by first|lia|omega)
  have mt:=uam_tk hr hS hP nn
  have mt:(mny r L k:Int)≤tkn r L k:=mt
  obtain ⟨T,eT⟩:∃T:Nat,tkn r L k=T:=⟨(tkn r L k).toNat,(Int.toNat_of_nonneg nn).symm⟩
  rw [eT] at mt tle
  obtain ⟨s,eS⟩:∃s,T=mny r L k+s:=Nat.exists_eq_add_of_le (Int.ofNat_le.mp mt)
  have em:uam r (lay r (L-1-k)) ((T:Nat):Int)=mny r L k:=by rw [←eT];rfl
  have tk1:tkn r L (k+1)=((2*s:Nat):Int):=by
   show 2*(tkn r L k-(mny r L k:Int))=_
   rw [eT,eS]; (first|lia|omega)
  rw [eT,Int.toNat_natCast]
  have sp:(sumsOf r (L-1-k)).Pairwise (· ≤ ·):=by
   cases L-1-k with
   | zero=>exact List.Pairwise.nil
   | succ j=>exact pairS_rise (lay_pair hr j)
  obtain ⟨q1,q2⟩:=pre_layer hr hS hP sp (t:=T) (m:=mny r L k) (s:=s) em eS (Int.ofNat_le.mp tle)
  rw [q1]
  by_cases hk2:k+1<L
  ·rw [if_pos hk2,Int.mul_one,Nat.add_zero]
   have e:L-1-k=(L-1-(k+1))+1:=subS (by first|lia|omega)
   rw [e] at q2 ⊢
   have q2:s≤(pairS (lay r (L-1-(k+1)))).length:=q2
   rw [pairS_len] at q2
   have:=pairS_pre (lay r (L-1-(k+1))) s (by first|lia|omega)
   rw [tk1,Int.toNat_natCast, ←this]
   rfl
  ·rw [if_neg hk2,Int.mul_zero,Nat.add_zero]
   have:L=k+1:=by (first|lia|omega)
   have te:=tkn_end hr h0 h1 hL fit
   have t0:tkn r L (k+1)=0:=by rw [←this];exact te
   have s0:s=0:=by (first|lia|omega)
   rw [s0]
   simp
theorem take_sm (f:Nat):∀(l:List Int),(l.take f).sum=sm (fun i=>if i<f then l.getD i 0 else 0) l.length:=fun l=>by
 have key:∀n,n≤l.length→((l.take n).take f).sum=sm (fun i=>if i<f then l.getD i 0 else 0) n:=fun n=>by
  induction n with
  | zero=>intro _;simp [sm]
  | succ n ih=>
   intro hn
   have ih:=ih (by first|lia|omega)
   show _=sm _ n+(if n<f then l.getD n 0 else 0)
   rw [←ih]
   have e:l.getD n 0=l[n]:=by simp [List.getD,show n<l.length by first|lia|omega]
   rw [List.take_take,List.take_take]
   by_cases c:n<f
   ·rw [if_pos c,Nat.min_eq_right (by first|lia|omega),Nat.min_eq_right (by first|lia|omega),List.take_succ_eq_append_getElem (by first|lia|omega),List.sum_append,e]
    simp
   ·rw [if_neg c,Nat.min_eq_left (by first|lia|omega),Nat.min_eq_left (by first|lia|omega)]
    (first|lia|omega)
 have:=key l.length (Nat.le_refl _)
 rw [List.take_length] at this
 exact this
theorem pm_cost:((lay r (L-1)).take (2*r.length-2)).sum=sm (fun i=>r.getD i 0*(lnK r L L i:Nat)) r.length:=by
 have a:=pre_cost hr h0 h1 hL fit L 0 (by first|lia|omega)
 rw [if_pos (by first|lia|omega),Int.mul_one,Nat.sub_zero] at a
 have e:(tkn r L 0).toNat=2*r.length-2:=by show (2*(r.length:Int)-2).toNat=_; (first|lia|omega)
 rw [e] at a
 rw [a]
 have sw:∀d,d≤L→sm (fun j=>(r.take (mny r L (0+j))).sum) d=sm (fun i=>r.getD i 0*(lnK r L d i:Nat)) r.length:=fun d=>by
  induction d with
  | zero=>
   intro _
   show (0:Int)=_
   have:∀n,sm (fun i=>r.getD i 0*(lnK r L 0 i:Nat)) n=0:=fun n=>by
    induction n with
    | zero=>rfl
    | succ n ih=>show sm _ n+_=0;rw [ih];show (0:Int)+r.getD n 0*((0:Nat):Int)=0;simp
   rw [this]
  | succ d ih=>
   intro hd
   show sm _ d+(r.take (mny r L (0+d))).sum=_
   rw [ih (by first|lia|omega),take_sm hr h0 h1 hL fit, ←sm_add,Nat.zero_add]
   refine sm_congr fun i hi => ?_
   rw [lnK_succ]
   by_cases c:i<mny r L d
   ·rw [if_pos c,if_pos c];push_cast;rw [Int.mul_add]; (first|lia|omega)
   ·rw [if_neg c,if_neg c];simp
 exact sw L (Nat.le_refl _)
end
section
variable {r:List Int} {L:Nat} (hr:r.Pairwise (· ≤ ·)) (h0:∀a∈r,0≤a) (l:Nat→Nat)
include hr h0
omit hr h0 in
end
end Z
namespace Z
open PySem L2
theorem getD_at {α:Type} {l:List α} {i:Nat} {d : α} (h:i<l.length):l.getD i d=l[i]:=by simp [List.getD,h]
theorem pow_half {L:Nat} (hL:1≤L):(2:Int) ^ L=2 ^ (L-1)*2:=by
 obtain ⟨K,rfl⟩:∃K,L=K+1:=⟨L-1,by first|lia|omega⟩
 rw [Int.pow_succ,Nat.add_sub_cancel]
def pmS (L:Nat) (us:List Int):Int:=sumBy (lay (srtI us) (L-1)) us.length
def costQ (q:List (Int×Nat)):Int:=(q.map fun p=>p.1*((p.2:Nat):Int)).sum
def fillQ (L:Nat) (q:List (Int×Nat)):Int:=(q.map fun p=>(2:Int) ^ (L-p.2)).sum
theorem costQ_perm {q q':List (Int×Nat)} (p:q.Perm q'):costQ q=costQ q':=sum_perm (p.map _)
theorem pmS_at {L:Nat} {us:List Int} (h0:∀a∈us,0≤a) (h1:1≤us.length) (hL:1≤L) (fit:us.length≤2 ^ L):∃q:List (Int×Nat),q.map (·.1)=srtI us∧q.map (·.2)=lenP (srtI us) L∧(∀p∈q,1≤p.2∧p.2≤L)∧(2≤us.length→fillQ L q=2 ^ L)∧fillQ L q≤2 ^ L∧costQ q=pmS L us∧q.Pairwise (fun a b=>b.2≤a.2):=by
 have pm:=srtI_perm us
 have pl:=pm.length_eq
 have hr:=srtI_pair us
 have h0':∀a∈srtI us,0≤a:=fun a ha=>h0 a (pm.subset ha)
 obtain ⟨r,hrr⟩:∃r,r=srtI us:=⟨_,rfl⟩
 unfold pmS
 rw [←hrr] at hr h0' pl pm ⊢
 by_cases e1:us.length=1
 ·obtain ⟨u,rfl⟩:∃u,us=[u]:=List.length_eq_one_iff.mp e1
  have er:r=[u]:=by rw [hrr,srt_single]
  subst er
  refine ⟨[(u,1)],rfl,rfl,fun p hp => ?_,fun h=>by simp at h,?_,?_,by simp⟩
  ·obtain rfl:p=(u,1):=by simpa using hp
   exact ⟨Nat.le_refl _,hL⟩
  ·unfold fillQ
   simp only [List.map_cons,List.map_nil,List.sum_cons,List.sum_nil,Int.add_zero]
   have:(2:Int) ^ L=2 ^ (L-1)*2:=pow_half (by first|lia|omega)
   have:(0:Int)<2 ^ (L-1):=Int.pow_pos (by decide)
   (first|lia|omega)
  ·rw [lay_single]
   unfold costQ sumBy
   simp
 ·have ll:=lenP_len r L
  have zl:(r.zip (lenP r L)).length=r.length:=by rw [List.length_zip]; (first|lia|omega)
  have zg:∀i,i<r.length→(r.zip (lenP r L)).getD i (0,0)=(r.getD i 0,lnK r L L i):=fun i hi=>by
   rw [←lenP_get (by first|lia|omega) hi]
   have:i<(lenP r L).length:=by (first|lia|omega)
   simp [List.getD,hi,this,List.getElem?_eq_getElem,zl]
  refine ⟨r.zip (lenP r L),by rw [List.map_fst_zip (by first|lia|omega)],by rw [List.map_snd_zip (by first|lia|omega)],?_,fun h2 => ?_,?_,?_,?_⟩
  ·intro p hp
   refine Elim.el (List.mem_iff_getElem.mp hp) _ ?_
   rintro i hi e
   have g:=zg i (by first|lia|omega)
   have:(r.zip (lenP r L)).getD i (0,0)=p:=by rw [←e];exact getD_at hi
   rw [this] at g
   rw [g]
   exact ⟨ln_one hr h0' (by first|lia|omega) hL (by first|lia|omega) (by first|lia|omega) (by first|lia|omega),lnK_le _ _ _ _⟩
  ·unfold fillQ
   rw [sm_list (fun p:Int×Nat=>(2:Int) ^ (L-p.2)) (0,0),zl, ←kraft_pm hr h0' (by first|lia|omega) hL (by first|lia|omega)]
   exact sm_congr fun i hi=>by rw [zg i hi]
  ·refine Int.le_of_eq ?_
   unfold fillQ
   rw [sm_list (fun p:Int×Nat=>(2:Int) ^ (L-p.2)) (0,0),zl, ←kraft_pm hr h0' (by first|lia|omega) hL (by first|lia|omega)]
   exact sm_congr fun i hi=>by rw [zg i hi]
  ·unfold costQ sumBy
   rw [if_neg e1, ←pl,pm_cost hr h0' (by first|lia|omega) hL (by first|lia|omega),sm_list (fun p:Int×Nat=>p.1*((p.2:Nat):Int)) (0,0),zl]
   exact sm_congr fun i hi=>by rw [zg i hi]
  ·rw [List.pairwise_iff_getElem]
   intro i j hi hj hij
   have gi:=zg i (by first|lia|omega)
   have gj:=zg j (by first|lia|omega)
   have ei:(r.zip (lenP r L)).getD i (0,0)=(r.zip (lenP r L))[i]:=getD_at hi
   have ej:(r.zip (lenP r L)).getD j (0,0)=(r.zip (lenP r L))[j]:=getD_at hj
   rw [←ei, ←ej,gi,gj]
   show lnK r L L j≤lnK r L L i
   unfold lnK
   exact List.countP_mono_left fun k _ h=>by simp at h ⊢; (first|lia|omega)
end Z
namespace Z
open PySem L2
theorem lens_cost {us:List Int} {most:Nat} {ls:List Nat} (h:LensR us most ls) (h0:∀a∈us,0≤a) (h1:1≤us.length) (h64:us.length<64) (hm:1≤most) (fit:us.length≤2 ^ most):costQ (us.zip ls)=pmS most us:=by
 refine Elim.el (pmS_at h0 h1 hm fit) _ ?_
 rintro q e1 e2 _ _ _ hc _
 obtain ⟨hl,o,po,pw,ho⟩:=h
 have ol:o.length=us.length:=by rw [po.length_eq,List.length_range]
 have er:=rise_use po h64 pw
 have pl:(lenP (srtI us) most).length=us.length:=by rw [lenP_len,(srtI_perm us).length_eq]
 have zl:(us.zip ls).length=us.length:=by rw [List.length_zip]; (first|lia|omega)
 have e3:o.map (fun i=>(us.zip ls).getD i (0,0))=q:=by
  have ql:q.length=us.length:=by have:=congrArg List.length e2;rw [List.length_map] at this; (first|lia|omega)
  refine List.ext_getElem? fun k => ?_
  rw [List.getElem?_map]
  by_cases hk:k<o.length
  ·have eo:o[k]? = some o[k]:=List.getElem?_eq_getElem hk
   have hi:o[k]<us.length:=by have:=List.mem_range.mp (po.subset (List.getElem_mem hk));exact this
   have h2:=ho k _ eo
   have a1:(o.map fun i=>us.getD i 0)[k]? = (srtI us)[k]?:=by rw [er]
   rw [List.getElem?_map,eo] at a1
   have b1:=congrArg (·[k]?) e1
   have b2:=congrArg (·[k]?) e2
   simp only [List.getElem?_map] at b1 b2
   rw [←a1] at b1
   rw [←h2] at b2
   rw [eo]
   rw [List.getElem?_eq_getElem (show k<q.length by first|lia|omega)] at b1 b2 ⊢
   have g:(us.zip ls).getD o[k] (0,0)=(us.getD o[k] 0,ls.getD o[k] 0):=by
    have z1:o[k]<ls.length:=by (first|lia|omega)
    have:(us.zip ls)[o[k]]? = some (us[o[k]],ls[o[k]]):=by rw [List.getElem?_eq_getElem (by first|lia|omega)];simp
    rw [List.getD_eq_getElem?_getD,this]
    simp [List.getD,hi,z1]
   show some ((us.zip ls).getD o[k] (0,0))=_
   rw [g]
   have b1:q[k].1=us.getD o[k] 0:=by simpa using b1
   have b2:some q[k].2=ls[o[k]]?:=b2
   have b3:ls.getD o[k] 0=q[k].2:=by rw [List.getD_eq_getElem?_getD, ←b2];rfl
   rw [←b1,b3]
  ·rw [List.getElem?_eq_none (by first|lia|omega),List.getElem?_eq_none (by first|lia|omega)]
   rfl
 have pz:(o.map fun i=>(us.zip ls).getD i (0,0)).Perm (us.zip ls):=by
  have:=po.map fun i=>(us.zip ls).getD i (0,0)
  rw [←zl,map_range] at this
  exact this
 rw [←costQ_perm pz,e3,hc]
def cst (us:List (Str×Int)) (bk:List (Str×Str)):Int:=((us.zip bk).map fun z=>z.1.2*((z.2.2.length:Nat):Int)).sum
def lnQ (us:List (Str×Int)) (bk:List (Str×Str)):List (Int×Nat):=(us.zip bk).map fun z=>(z.1.2,z.2.2.length)
theorem cst_q (us:List (Str×Int)) (bk:List (Str×Str)):cst us bk=costQ (lnQ us bk):=by
 unfold cst costQ lnQ
 rw [List.map_map]
 rfl
theorem lnQ_fst {us:List (Str×Int)} {bk:List (Str×Str)} (h:us.length=bk.length):(lnQ us bk).map (·.1)=us.map (·.2):=by
 unfold lnQ
 rw [List.map_map]
 have:(us.zip bk).map (·.1)=us:=List.map_fst_zip (by first|lia|omega)
 show (us.zip bk).map (fun z=>z.1.2)=_
 conv=>rhs;rw [←this,List.map_map]
 rfl
theorem lnQ_snd {us:List (Str×Int)} {bk:List (Str×Str)} (h:us.length=bk.length):(lnQ us bk).map (·.2)=bk.map fun q=>q.2.length:=by
 unfold lnQ
 rw [List.map_map]
 have:(us.zip bk).map (·.2)=bk:=List.map_snd_zip (by first|lia|omega)
 show (us.zip bk).map (fun z=>z.2.2.length)=_
 conv=>rhs;rw [←this,List.map_map]
 rfl
theorem _root_.L2.Den.pairT {K:PySem.W.Frag} {H:Hp} {a b:Str} {v:V} (h:Den K H (.tuple [.str a, .str b]) v):∃p,v = .ref p∧SqT K H p [.str a, .str b]:=by
 unfold Den at h
 refine Elim.el (h) _ ?_
 rintro p vs rfl hT hds
 unfold Dens at hds
 refine Elim.el (hds) _ ?_
 rintro v1 r1 rfl h1 hds
 unfold Dens at hds
 refine Elim.el (hds) _ ?_
 rintro v2 r2 rfl h2 hds
 unfold Dens at hds
 subst hds
 unfold Den at h1 h2
 subst h1 h2
 exact ⟨p,rfl,hT⟩
def spSum26 (K:PySem.W.Frag):Sp:=fun vs H Q _=>Ex4 fun (vu vb:V) (us:List (Str×Int)) (bk:List (Str×Str))=>vs=[vu,vb]∧Den K H (usesD us) vu∧Den K H (bookD bk) vb∧us.length=bk.length∧us.length≤100∧(∀q∈us,0≤q.2∧q.2≤1000000000000)∧(∀q∈bk,q.2.length≤100)∧∀H',Same H H'→Q (.int (cst us bk)) H'
section
variable {P:Program} {w:World} {K:PySem.W.Frag} {mg:Str→Option Value} {base:Heap} {f:Addr} {fd:FuncData}
theorem sc_law_sum:FnScope ["_law_uses_here", "_law_book"] ["_law_uses_here", "_law_book"] (defScope (top i_law_sum)):=⟨rfl,rfl,rfl,by decide +kernel,rfl,by decide +kernel,by decide +kernel⟩
theorem ok_sum26 (F:Fun K "_law_sum" "_law_sum" (top i_law_sum) f fd) (T:Nm mg):FnOk P w K mg base CX0 1 f fd ["_law_uses_here", "_law_book"] (spSum26 K):=by
 refine F.ok sc_law_sum (fun vs H Q E h => ?_) (fun cdv A outer s H vs Q E hr h => ?_)
 ·obtain ⟨vu,vb,us,bk,rfl,_⟩:=h
  rfl
 obtain ⟨vu,vb,us,bk,rfl,hu,hb,hl,ul,uo,bo,q⟩:=h
 have hu6:=hr.units
 refine ⟨_,(pss_one (ps_ret (pe_callB (sumK K rfl) rfl T.n_sum (by rfl) (pa_cons (pe_lcomp rfl (comp_ok (Nc:=["_law_name", "_law_use", "_law_other", "_law_code"]) (Fc:=[]) (js:=[])) (pi_zipK K rfl T.n_zip (pa_cons (pv 0) (pa_cons (pv 1) pa_nil))) (gk_tup (gks_cons (gk_tup (gks_cons (gk_name (i:=0) (n:=4) (by decide)) (gks_cons (gk_name (i:=1) (n:=4) (by decide)) gks_nil gm_name gms_nil) gm_name (gms_cons gm_name gms_nil))) (gks_cons (gk_tup (gks_cons (gk_name (i:=2) (n:=4) (by decide)) (gks_cons (gk_name (i:=3) (n:=4) (by decide)) gks_nil gm_name gms_nil) gm_name (gms_cons gm_name gms_nil))) gks_nil (gm_tup (gms_cons gm_name (gms_cons gm_name gms_nil))) gms_nil) (gm_tup (gms_cons gm_name (gms_cons gm_name gms_nil))) (gms_cons (gm_tup (gms_cons gm_name (gms_cons gm_name gms_nil))) gms_nil))) (fun _ _ _ _ _=>(tupK K 2 rfl (pgs_cons (tupK K 2 rfl (pgs_cons (pg_name (i:=0) (show (["_law_name", "_law_use", "_law_other", "_law_code"]:List Str).Nodup by decide +kernel) rfl (Or.inl rfl)) (pgs_cons (pg_name (i:=1) (show (["_law_name", "_law_use", "_law_other", "_law_code"]:List Str).Nodup by decide +kernel) rfl (Or.inl rfl)) pgs_nil))) (pgs_cons (tupK K 2 rfl (pgs_cons (pg_name (i:=2) (show (["_law_name", "_law_use", "_law_other", "_law_code"]:List Str).Nodup by decide +kernel) rfl (Or.inl rfl)) (pgs_cons (pg_name (i:=3) (show (["_law_name", "_law_use", "_law_other", "_law_code"]:List Str).Nodup by decide +kernel) rfl (Or.inl rfl)) pgs_nil))) pgs_nil)))) (fun _ _ _ _ _=>pts_nil) (fun _ _ _ _ _=>(pe_op mulN (pv 1) (pe_callB (lenK K) rfl T.n_len (by rfl) (pa_cons (pv 3) pa_nil))))) pa_nil)))),?_⟩
 obtain ⟨lu,uvs,rfl,hSu,hdu⟩:Ex2 fun lu uvs=>vu = .ref lu∧SqL K H lu uvs∧Dens K H (us.map useE) uvs:=by
  unfold usesD at hu
  unfold Den at hu
  exact hu
 have huv:uvs.length=us.length:=by rw [hdu.len,List.length_map]
 obtain ⟨lb,bvs,rfl,hSb,hdb⟩:Ex2 fun lb bvs=>vb = .ref lb∧SqL K H lb bvs∧Dens K H (bk.map fun q => .tuple [.str q.1, .str q.2]) bvs:=by
  unfold bookD at hb
  unfold Den at hb
  exact hb
 have hbv:bvs.length=bk.length:=by rw [hdb.len,List.length_map]
 refine ⟨_,rfl,_,rfl,false,false,lu,lb,rfl,⟨_,hSu⟩,⟨_,hSb⟩,?_⟩
 have zl:(us.zip bk).length=us.length:=by rw [List.length_zip]; (first|lia|omega)
 let fz:(Str×Int)×(Str×Str)→Int:=fun z=>z.1.2*((z.2.2.length:Nat):Int)
 refine comp_go (N:=us.length) (fun i ys H'=>Same H H'∧ys=natI (((us.zip bk).take i).map fz)) ⟨Same.refl _,rfl⟩ ?_ ?_
 ·rintro i ys H1 Nx hi ⟨sm1,rfl⟩ nx
  have hi2:i<bk.length:=by (first|lia|omega)
  obtain ⟨x,hx,dx⟩:=hdu.get (i:=i) (d:=useE us[i]) (by rw [List.getElem?_map,List.getElem?_eq_getElem hi];rfl)
  refine Elim.el (dx.pairI) _ ?_
  rintro pa rfl hT
  obtain ⟨y,hy,dy⟩:=hdb.get (i:=i) (d := .tuple [.str bk[i].1, .str bk[i].2]) (by rw [List.getElem?_map,List.getElem?_eq_getElem hi2];rfl)
  refine Elim.el (dy.pairT) _ ?_
  rintro pb rfl hTb
  have q1:SqK false K H1 lu uvs:=sm1.seq hSu
  have q2:SqK false K H1 lb bvs:=sm1.seq hSb
  refine ⟨⟨_,_,_,_,q1,q2,hx,hy⟩,Nat.lt_of_le_of_lt (show _≤1000 by rw [List.length_map,List.length_map,List.length_take];exact Nat.le_trans (Nat.min_le_left _ _) (by first|lia|omega)) (by decide),?_⟩
  rintro x' H2 ⟨T',rfl,hN⟩
  have n2:=hN _ _ _ _ q1 q2 hx hy
  have sm2:=sm1.trans n2.same
  refine ⟨T',_,rfl,SqT.of n2.at,rfl,_,_,rfl,⟨pa,_,rfl,sm2.seqT hT,rfl,_,_,rfl,_,_,rfl,rfl,_,_,rfl,⟨pb,_,rfl,sm2.seqT hTb,rfl,_,_,rfl,_,_,rfl,rfl,rfl,?_⟩⟩⟩
  have ub:=uo _ (List.getElem_mem hi)
  have bb:=bo _ (List.getElem_mem hi2)
  refine ⟨_,rfl,_,rfl,_,_,rfl,⟨Nat.le_trans bb (by decide),rfl⟩, .inl ⟨_,_,rfl,rfl, .inl ⟨by first|lia|omega,by first|lia|omega⟩,nx _ _ ⟨sm2,?_⟩⟩⟩
  rw [List.take_succ_eq_append_getElem (by first|lia|omega),List.getElem_zip]
  simp only [natI,List.map_append,List.map_cons,List.map_nil]
  rfl
 ·rintro ys H1 ⟨sm1,rfl⟩
  refine ⟨⟨_,_,(show SqK false K H1 lu uvs from sm1.seq hSu),(show SqK false K H1 lb bvs from sm1.seq hSb), .inl (by first|lia|omega)⟩,fun p hp => ?_⟩
  obtain ⟨H2,n2⟩:∃H2,New H1 p (.lst (natI (((us.zip bk).take us.length).map fz))) H2:=⟨_,hp,rfl⟩
  rw [←n2.eq]
  rw [←zl,List.take_length] at n2
  refine ⟨p,(us.zip bk).map fz,rfl,SqL.of n2.at,?_⟩
  exact q _ (sm1.trans n2.same)
end
end Z
namespace Z
open PySem L2
def restV (a b:Str):V:=if Txt.startswith a b=true then .str (Txt.slice a (some (b.length:Nat)) none) else if Txt.startswith b a=true then .str (Txt.slice b (some (a.length:Nat)) none) else .non
def spRest:Sp:=fun vs H Q _=>∃a b:Str,vs=[.str a, .str b]∧a.length≤1000000∧b.length≤1000000∧Q (restV a b) H
section
variable {P:Program} {w:World} {K:PySem.W.Frag} {mg:Str→Option Value} {base:Heap} {f:Addr} {fd:FuncData}
theorem sc_rest:FnScope ["one", "other"] ["one", "other"] (defScope (top i_rest_of)):=⟨rfl,rfl,rfl,by decide +kernel,rfl,by decide +kernel,by decide +kernel⟩
theorem ok_rest (F:Fun K "rest_of" "rest_of" (top i_rest_of) f fd) (T:Nm mg):FnOk P w K mg base CX0 1 f fd ["one", "other"] spRest:=by
 refine F.ok sc_rest (fun vs H Q E h => ?_) (fun cdv A outer s H vs Q E hr h => ?_)
 ·obtain ⟨a,b,rfl,_⟩:=h
  rfl
 obtain ⟨a,b,rfl,ha,hb,q⟩:=h
 refine ⟨_,(pss_cons (ps_if (pt_val (bmK K PySem.F.plainAttrs_str PySem.F.slot_str_startswith PySem.F.type_str_startswith mt_startswith (pv 0) (pa_cons (pv 1) pa_nil))) (pss_one (ps_ret (pe_slice (slK K) (pv 0) (po_some (pe_callB (lenK K) rfl T.n_len (by rfl) (pa_cons (pv 1) pa_nil))) po_none))) pss_nil)
  (pss_cons (ps_if (pt_val (bmK K PySem.F.plainAttrs_str PySem.F.slot_str_startswith PySem.F.type_str_startswith mt_startswith (pv 1) (pa_cons (pv 0) pa_nil))) (pss_one (ps_ret (pe_slice (slK K) (pv 1) (po_some (pe_callB (lenK K) rfl T.n_len (by rfl) (pa_cons (pv 0) pa_nil))) po_none))) pss_nil)
  (pss_one (ps_ret pe_non)))),?_⟩
 unfold restV at q
 refine ⟨_,rfl,rfl,_,rfl,a,b,rfl,rfl,_,rfl,?_⟩
 refine ite2 (fun c => ?_) (fun c => ?_)
 ·rw [if_pos c] at q
  exact ⟨_,rfl,_,rfl,_,_,rfl,⟨sizeOk (Nat.le_trans hb (by decide)),rfl⟩,_,rfl, .inr ⟨a,rfl,sizeOk (Nat.le_trans ha (by decide)),q⟩⟩
 ·rw [if_neg c] at q
  refine ⟨_,rfl,rfl,_,rfl,b,a,rfl,rfl,_,rfl,?_⟩
  refine ite2 (fun c => ?_) (fun c => ?_)
  ·rw [if_pos c] at q
   exact ⟨_,rfl,_,rfl,_,_,rfl,⟨sizeOk (Nat.le_trans ha (by decide)),rfl⟩,_,rfl, .inr ⟨b,rfl,sizeOk (Nat.le_trans hb (by decide)),q⟩⟩
  ·rw [if_neg c] at q
   exact q
end
end Z
namespace Z
open PySem L2
def NoC (bk:List (Str×Str)) (j:Nat):Prop:=∀(i' j':Nat) a b,i'<j'→j'<j→bk[i']? = some a→bk[j']? = some b→restV a.2 b.2 = .non
def spClash (K:PySem.W.Frag):Sp:=fun vs H Q _=>Ex2 fun (v:V) (bk:List (Str×Str))=>vs=[v]∧Den K H (bookD bk) v∧bk.length≤1000∧(∀q∈bk,q.2.length≤1000) ∧
 (NoC bk bk.length→∀H',Same H H'→Q .non H') ∧
 ∀(i j:Nat) a b,bk[i]? = some a→bk[j]? = some b→i<j→NoC bk j→(∀(i':Nat) a',i'<i→bk[i']? = some a'→restV a'.2 b.2 = .non)→restV a.2 b.2 ≠ .non →
  ∀p H',Same H H'→H p=none→H' p=some (.tup [.str a.1, .str b.1])→Q (.ref p) H'
section
variable {P:Program} {w:World} {K:PySem.W.Frag} {mg:Str→Option Value} {base:Heap} {f:Addr} {fd:FuncData}
theorem sc_cl:FnScope ["book", "at", "other", "code", "one", "code_ahead"] ["book"] (defScope (top i_clash)):=⟨rfl,rfl,rfl,by decide +kernel,rfl,by decide +kernel,by decide +kernel⟩
theorem cut_take (vs:List V) (j:Nat) (h:j≤vs.length):cutV vs none (some (j:Int))=vs.take j:=by
 unfold cutV
 have e:HT.sIx vs.length vs.length (some (j:Int))=j:=by
  unfold HT.sIx
  dsimp only
  rw [if_neg (show ¬((j:Int)<0) by first|lia|omega)]
  (first|lia|omega)
 rw [e]
 show ((vs.drop 0).take (j-0))=_
 simp
theorem ok_cl (F:Fun K "clash" "clash" (top i_clash) f fd) (T:Nm mg) (f_rest:Fn P w K mg base 1 "rest_of" ["one", "other"] spRest):FnOk P w K mg base CX0 2 f fd ["book"] (spClash K):=by
 refine F.ok sc_cl (fun vs H Q E h => ?_) (fun cdv A outer s H vs Q E hr h => ?_)
 ·obtain ⟨v,bk,rfl,_⟩:=h
  rfl
 obtain ⟨v,bk,rfl,hD,hlen,hle,q0,q1⟩:=h
 refine ⟨_,(pss_cons (ps_for PassesOwn.never rfl (pi_enum rfl T.n_enumerate (pa_cons (pv 0) pa_nil)) (tupK K 2 rfl (pgs_cons (pg_name (i:=1) sc_cl.nd rfl (Or.inl rfl)) (pgs_cons (tupK K 2 rfl (pgs_cons (pg_name (i:=2) sc_cl.nd rfl (Or.inl rfl)) (pgs_cons (pg_name (i:=3) sc_cl.nd rfl (Or.inl rfl)) pgs_nil))) pgs_nil))) (pss_one (ps_for PassesOwn.never rfl (piK K (pe_slice (slK K) (pv 0) po_none (po_some (pv 1)))) (tupK K 2 rfl (pgs_cons (pg_name (i:=4) sc_cl.nd rfl (Or.inl rfl)) (pgs_cons (pg_name (i:=5) sc_cl.nd rfl (Or.inl rfl)) pgs_nil))) (pss_one (ps_if (pt_cmpR g_isnot (pe_fn f_rest hr rfl (pa_cons (pv 5) (pa_cons (pv 3) pa_nil))) pe_non (nomark _)) (pss_one (ps_ret (pe_tup (pa_cons (pv 4) (pa_cons (pv 2) pa_nil))))) pss_nil)))))
  (pss_one (ps_ret pe_non))),?_⟩
 unfold bookD at hD
 unfold Den at hD
 refine Elim.el (hD) _ ?_
 rintro l vs rfl hS hDs
 have hvl:vs.length=bk.length:=by rw [hDs.len,List.length_map]
 have item:∀i (hi:i<bk.length),∃a,vs[i]? = some (.ref a)∧SqT K H a [.str bk[i].1, .str bk[i].2]:=fun i hi=>by
  obtain ⟨x,hx,dx⟩:=hDs.get (i:=i) (d := .tuple [.str bk[i].1, .str bk[i].2]) (by rw [List.getElem?_map,List.getElem?_eq_getElem hi];rfl)
  refine Elim.el (dx.pair) _ ?_
  rintro a rfl hT
  exact ⟨a,hx,hT⟩
 have hcl:∀i (hi:i<bk.length),bk[i].2.length≤1000000:=fun i hi=>Nat.le_trans (hle _ (List.getElem_mem hi)) (by decide)
 refine ⟨_,rfl,l,rfl,⟨_,hS⟩,?_⟩
 refine for_go (N:=bk.length) (fun j σ H'=>Same H H'∧NoC bk j∧∃x1 x2 x3 x4 x5, σ=[some (.ref l),x1,x2,x3,x4,x5]) ⟨Same.refl _,fun i' j' a b _ h=>absurd h (Nat.not_lt_zero _),_,_,_,_,_,rfl⟩ ?_ ?_
 ·intro j σ H' hj hz_
  refine Elim.el hz_ _ ?_
  clear hz_
  rintro sm nc x1 x2 x3 x4 x5 rfl
  refine Elim.el (item j hj) _ ?_
  rintro a hx hT
  refine ⟨⟨_,_,sm.seq hS,hx⟩,?_⟩
  rintro x H2 ⟨t1,rfl,ht1,hy⟩
  have e:=hy _ _ (sm.seq hS) hx
  subst e
  have sm2:=sm.trans (same_new ht1 (.tup [.int j, .ref a]))
  refine ⟨t1,_,rfl,SqT.of upd_same,rfl,_,_,rfl,_,_,rfl,a,_,rfl,sm2.seqT hT,rfl,_,_,rfl,_,_,rfl,rfl,rfl,?_⟩
  refine ⟨_,rfl,_,rfl,_,rfl, .inl ⟨l,_,rfl,sm2.seq hS,fun p hp => ?_⟩⟩
  rw [cut_take vs j (by first|lia|omega)]
  have sm3:=sm2.trans (same_new hp (.lst (vs.take j)))
  refine ⟨p,rfl,⟨_,SqL.of upd_same⟩,?_⟩
  refine for_list (xs:=vs.take j) (fun i σ H4=>Same (upd (upd H' t1 (.tup [.int j, .ref a])) p (.lst (vs.take j))) H4∧(∀(i':Nat) a',i'<i→bk[i']? = some a'→restV a'.2 bk[j].2 = .non)∧∃y4 y5, σ=[some (.ref l),some (.int j),some (.str bk[j].1),some (.str bk[j].2),y4,y5]) ⟨Same.refl _,fun i' a' h=>absurd h (Nat.not_lt_zero _),_,_,rfl⟩ ?_ ?_ ?_
  ·rintro i σ H4 hi ⟨sm4,_,_⟩
   exact sm4.seq (SqL.of upd_same)
  ·intro i x σ H4 hix hz_
   refine Elim.el hz_ _ ?_
   clear hz_
   rintro sm4 ng y4 y5 rfl
   have hij:i<j:=by
    have:=(List.getElem?_eq_some_iff.mp hix).1
    rw [List.length_take] at this; (first|lia|omega)
   have hib:i<bk.length:=by (first|lia|omega)
   refine Elim.el (item i hib) _ ?_
   rintro a' hx' hT'
   rw [List.getElem?_take_of_lt hij,hx'] at hix
   cases hix
   have sm5:=sm3.trans sm4
   refine ⟨a',_,rfl,sm5.seqT hT',rfl,_,_,rfl,_,_,rfl,rfl,?_⟩
   refine ⟨_,rfl,_,rfl,bk[i].2,bk[j].2,rfl,hcl i hib,hcl j hj, .inl ⟨rfl,_,rfl,?_⟩⟩
   refine ite2 (fun c => ?_) (fun c => ?_)
   ·have hr:restV bk[i].2 bk[j].2 ≠ .non:=by simpa using c
    refine ⟨_,rfl,_,rfl,by show 2≤sizeLine;decide,fun t2 ht2 => ?_⟩
    exact q1 i j bk[i] bk[j] (List.getElem?_eq_getElem hib) (List.getElem?_eq_getElem hj) hij nc ng hr t2 _ (sm5.trans (same_new ht2 _)) (sm5.free ht2) upd_same
   ·have hr:restV bk[i].2 bk[j].2 = .non:=by simpa using c
    refine ⟨sm4,fun i' b' hi' hb' => ?_,_,_,rfl⟩
    by_cases z:i'<i
    ·exact ng i' b' z hb'
    ·have:i'=i:=by (first|lia|omega)
     subst this
     rw [List.getElem?_eq_getElem hib] at hb';cases hb'
     exact hr
  ·intro σ H4 hz_
   refine Elim.el hz_ _ ?_
   clear hz_
   rintro sm4 ng y4 y5 rfl
   refine ⟨sm3.trans sm4,fun i' j' a1 b1 h1 h2 e1 e2 => ?_,_,_,_,_,_,rfl⟩
   by_cases z:j'<j
   ·exact nc i' j' a1 b1 h1 z e1 e2
   ·have:j'=j:=by (first|lia|omega)
    subst this
    rw [List.getElem?_eq_getElem hj] at e2;cases e2
    exact ng i' a1 (by rw [List.length_take]; (first|lia|omega)) e1
 ·intro σ H' hz_
  refine Elim.el hz_ _ ?_
  clear hz_
  rintro sm nc x1 x2 x3 x4 x5 rfl
  exact ⟨⟨_,sm.seq hS,by rw [hvl];exact Nat.le_refl _⟩,q0 nc H' sm⟩
end
end Z
namespace Z
open PySem L2
theorem starts_iff (x y:Str):Txt.startswith x y=true ↔ sg y <+: sg x:=by
 have hl:y.length=(sg y).length:=str_len y
 have hx:x.length=(sg x).length:=str_len x
 have e:(x.cps.extract 0 (0+y.length) == y.cps)=true ↔ (sg x).take y.length=sg y:=by
  rw [beq_iff_eq, ←Array.toList_inj]
  simp [Array.toList_extract]
 show (decide (0+y.length≤x.length)&&(x.cps.extract 0 (0+y.length) == y.cps))=true ↔ _
 rw [Bool.and_eq_true,decide_eq_true_iff,e]
 constructor
 ·rintro ⟨_,h⟩
  rw [←h]
  exact List.take_prefix _ _
 ·intro h
  exact ⟨by have:=h.length_le; (first|lia|omega),by rw [hl];exact (List.prefix_iff_eq_take.mp h).symm⟩
theorem restV_non {a b:Str} : restV a b = .non ↔ RF a b:=by
 unfold restV RF
 by_cases h1:Txt.startswith a b=true
 ·rw [if_pos h1]
  exact ⟨(fun z=>nomatch z),fun z=>absurd ((starts_iff a b).mp h1) z.2⟩
 ·rw [if_neg h1]
  by_cases h2:Txt.startswith b a=true
  ·rw [if_pos h2]
   exact ⟨(fun z=>nomatch z),fun z=>absurd ((starts_iff b a).mp h2) z.1⟩
  ·rw [if_neg h2]
   exact ⟨fun _=>⟨fun z=>h2 ((starts_iff b a).mpr z),fun z=>h1 ((starts_iff a b).mpr z)⟩,fun _=>rfl⟩
theorem noC_iff (bk:List (Str×Str)):NoC bk bk.length ↔ Free (bk.map (·.2)):=by
 constructor
 ·intro h
  refine List.pairwise_iff_getElem.mpr fun i j hi hj hij => ?_
  rw [List.length_map] at hi hj
  rw [List.getElem_map,List.getElem_map]
  exact restV_non.mp (h i j _ _ hij hj (List.getElem?_eq_getElem hi) (List.getElem?_eq_getElem hj))
 ·intro h i j a b hij hj ha hb
  obtain ⟨hi',rfl⟩:=List.getElem?_eq_some_iff.mp ha
  obtain ⟨hj',rfl⟩:=List.getElem?_eq_some_iff.mp hb
  have z:=List.pairwise_iff_getElem.mp h i j (by rw [List.length_map];exact hi') (by rw [List.length_map];exact hj') hij
  rw [List.getElem_map,List.getElem_map] at z
  exact restV_non.mpr z
def spFree (K:PySem.W.Frag):Sp:=fun vs H Q _=>Ex2 fun (v:V) (bk:List (Str×Str))=>vs=[v]∧Den K H (bookD bk) v∧bk.length≤1000∧(∀q∈bk,q.2.length≤1000) ∧
 (Free (bk.map (·.2))→∀H',Same H H'→Q (.bl true) H')∧(¬Free (bk.map (·.2))→∀H',Same H H'→Q (.bl false) H')
section
variable {P:Program} {w:World} {K:PySem.W.Frag} {mg:Str→Option Value} {base:Heap} {f:Addr} {fd:FuncData}
theorem sc_free:FnScope ["book"] ["book"] (defScope (top i_free)):=⟨rfl,rfl,rfl,by decide +kernel,rfl,by decide +kernel,by decide +kernel⟩
theorem ok_free (F:Fun K "free" "free" (top i_free) f fd) (T:Nm mg) (f_clash:Fn P w K mg base 2 "clash" ["book"] (spClash K)):FnOk P w K mg base CX0 3 f fd ["book"] (spFree K):=by
 refine F.ok sc_free (fun vs H Q E h => ?_) (fun cdv A outer s H vs Q E hr h => ?_)
 ·obtain ⟨v,bk,rfl,_⟩:=h
  rfl
 obtain ⟨v,bk,rfl,hD,hl,hc,q1,q2⟩:=h
 refine ⟨_,(pss_one (ps_ret (pe_cmpR g_is (pe_fn (f_clash.mono (by first|decide|exact Nat.le_refl _|(first|lia|omega))) hr rfl (pa_cons (pv 0) pa_nil)) pe_non (nomark _)))),?_⟩
 refine ⟨_,rfl,v,bk,rfl,hD,hl,hc,fun nc H' sm => .inl ⟨rfl,q1 ((noC_iff bk).mp nc) H' sm⟩,fun i j a b ha hb hij _ _ hne p H' sm hp hp' => .inl ⟨rfl,q2 (fun fr => ?_) H' sm⟩⟩
 exact hne ((noC_iff bk).mpr fr i j a b hij (List.getElem?_eq_some_iff.mp hb).1 ha hb)
end
end Z
namespace Z
open PySem L2
abbrev sSigns:Str := "01"
abbrev sSmall:Str := "abcdefghijklmnopqrstuvwxyz"
def madeOf (x y:Str):Bool:=decide (V.str (Txt.stripChars x y)=V.str (Str.ofString ""))
def isNameD:PyData→Bool
 | .str x=>decide ((1:Int)≤(x.length:Nat))&&(decide (((x.length:Nat):Int)≤8)&&madeOf x sSmall)
 | _=>false
def isCodeD:PyData→Bool
 | .str x => !decide (V.str x=V.str (Str.ofString ""))&&madeOf x sSigns
 | _=>false
def isEntryD:PyData→Bool
 | .tuple [a,b]=>isNameD a&&isCodeD b
 | _=>false
def nameD:PyData→Str
 | .tuple (.str x :: _)=>x
 | _=>Str.empty
def isBookD:PyData→Bool
 | .list ds => !ds.isEmpty&&(ds.all isEntryD&&decide ((metKeys (fun i=>(ds.map nameD).getD i Str.empty) ds.length).length=ds.length))
 | _=>false
def spIsBook (K:PySem.W.Frag):Sp:=fun vs H Q _=>Ex2 fun (v:V) (d:PyData)=>vs=[v]∧Den K H d v∧d.weight≤40000∧SeqAt.shaped d=true∧(∀ds,d = .list ds→ds.length≤4000)∧∀H',Same H H'→Q (.bl (isBookD d)) H'
def spMade:Sp:=fun vs H Q _=>∃x y:Str,vs=[.str x, .str y]∧x.length≤1000000∧Q (.bl (madeOf x y)) H
def spAsk (K:PySem.W.Frag) (f:PyData→Bool):Sp:=fun vs H Q _=>Ex2 fun (v:V) (d:PyData)=>vs=[v]∧Den K H d v∧d.weight≤1000000∧∀H',Same H H'→Q (.bl (f d)) H'
section
variable {P:Program} {w:World} {K:PySem.W.Frag} {mg:Str→Option Value} {base:Heap} {f:Addr} {fd:FuncData} {t1 t2 t3:Tok}
theorem sc_made_of:FnScope ["text", "signs"] ["text", "signs"] (defScope (top i_made_of)):=⟨rfl,rfl,rfl,by decide +kernel,rfl,by decide +kernel,by decide +kernel⟩
theorem ok_made (F:Fun K "made_of" "made_of" (top i_made_of) f fd) (T:Nm mg):FnOk P w K mg base CX0 1 f fd ["text", "signs"] spMade:=by
 refine F.ok sc_made_of (fun vs H Q E h => ?_) (fun cdv A outer s H vs Q E hr h => ?_)
 ·obtain ⟨x,y,rfl,_⟩:=h
  rfl
 obtain ⟨x,y,rfl,hx,q⟩:=h
 have hu6:=hr.units
 refine ⟨_,(pss_one (ps_ret (pe_cmpR (eqK K hu6) (bmK K PySem.F.plainAttrs_str PySem.F.slot_str_strip PySem.F.type_str_strip mt_strip1 (pv 0) (pa_cons (pv 1) pa_nil)) pe_str (nomark _)))),?_⟩
 exact ⟨_,rfl,rfl,_,rfl,x,y,rfl,rfl,sizeOk (Nat.le_trans hx (by decide)), .inl ⟨rfl,q⟩⟩
theorem sc_is_name:FnScope ["thing"] ["thing"] (defScope (top i_is_name)):=⟨rfl,rfl,rfl,by decide +kernel,rfl,by decide +kernel,by decide +kernel⟩
theorem ok_isname (F:Fun K "is_name" "is_name" (top i_is_name) f fd) (T:Nm mg) (v_LONGEST_NAME:mg "LONGEST_NAME" = some (.int 8 t1)) (v_SMALL_LETTERS:mg "SMALL_LETTERS" = some (.str sSmall t2)) (f_made_of:Fn P w K mg base 1 "made_of" ["text", "signs"] spMade):FnOk P w K mg base CX0 2 f fd ["thing"] (spAsk K isNameD):=by
 refine F.ok sc_is_name (fun vs H Q E h => ?_) (fun cdv A outer s H vs Q E hr h => ?_)
 ·obtain ⟨v,d,rfl,_⟩:=h
  rfl
 obtain ⟨v,d,rfl,hd,hw,q⟩:=h
 have hu6:=hr.units
 have hq:=q H (Same.refl _)
 refine ⟨_,(pss_one (ps_ret (pe_and (pe_callB (isiK K) rfl T.n_isinstance (by rfl) (pa_cons (pv 0) (pa_cons (pe_bltn rfl T.n_str (by rfl) (v := .ty "str") rfl) pa_nil))) (pe_and (pe_chain op_le op_le pe_int (pe_callB (lenK K) rfl T.n_len (by rfl) (pa_cons (pv 0) pa_nil)) (pe_gint rfl v_LONGEST_NAME)) (pe_one (pe_fn (f_made_of.mono (by first|decide|exact Nat.le_refl _|(first|lia|omega))) hr rfl (pa_cons (pv 0) (pa_cons (pe_gstr rfl v_SMALL_LETTERS) pa_nil)))))))),?_⟩
 refine ⟨_,rfl, .inl ⟨_, "str",d,_,rfl,hd,(kitT K d).2.2.1,_,rfl,?_⟩⟩
 cases d with
 | str x=>
  have e:=hd
  unfold Den at e
  subst e
  have hxl:x.length≤1000000:=hw
  refine iteT ⟨_,rfl,_,_,rfl,⟨sizeOk (Nat.le_trans hxl (by decide)),rfl⟩,_,_,rfl,rfl,_,rfl,?_⟩
  have hq:Q (.bl (decide ((1:Int)≤(x.length:Nat))&&(decide (((x.length:Nat):Int)≤8)&&madeOf x sSmall))) H:=hq
  refine ite2 (fun c1 => ?_) (fun c1 => ?_)
  ·rw [c1,Bool.true_and] at hq
   refine ⟨_,_,rfl,rfl,_,rfl,ite2 (fun c2 => ?_) (fun c2 => ?_)⟩
   ·rw [c2,Bool.true_and] at hq
    exact ⟨_,rfl,x,_,rfl,hxl,hq⟩
   ·rw [Bool.eq_false_iff.mpr c2,Bool.false_and] at hq
    exact hq
  ·rw [Bool.eq_false_iff.mpr c1,Bool.false_and] at hq
   exact ⟨_,rfl,iteF hq⟩
 | _=>exact iteF hq
theorem sc_is_code:FnScope ["thing"] ["thing"] (defScope (top i_is_code)):=⟨rfl,rfl,rfl,by decide +kernel,rfl,by decide +kernel,by decide +kernel⟩
theorem ok_iscode (F:Fun K "is_code" "is_code" (top i_is_code) f fd) (T:Nm mg) (v_SIGNS:mg "SIGNS" = some (.str sSigns t3)) (f_made_of:Fn P w K mg base 1 "made_of" ["text", "signs"] spMade):FnOk P w K mg base CX0 2 f fd ["thing"] (spAsk K isCodeD):=by
 refine F.ok sc_is_code (fun vs H Q E h => ?_) (fun cdv A outer s H vs Q E hr h => ?_)
 ·obtain ⟨v,d,rfl,_⟩:=h
  rfl
 obtain ⟨v,d,rfl,hd,hw,q⟩:=h
 have hu6:=hr.units
 have hq:=q H (Same.refl _)
 refine ⟨_,(pss_one (ps_ret (pe_and (pe_callB (isiK K) rfl T.n_isinstance (by rfl) (pa_cons (pv 0) (pa_cons (pe_bltn rfl T.n_str (by rfl) (v := .ty "str") rfl) pa_nil))) (pe_and (pe_cmpR (neK K hu6) (pv 0) pe_str (nomark _)) (pe_one (pe_fn (f_made_of.mono (by first|decide|exact Nat.le_refl _|(first|lia|omega))) hr rfl (pa_cons (pv 0) (pa_cons (pe_gstr rfl v_SIGNS) pa_nil)))))))),?_⟩
 refine ⟨_,rfl, .inl ⟨_, "str",d,_,rfl,hd,(kitT K d).2.2.1,_,rfl,?_⟩⟩
 cases d with
 | str x=>
  have e:=hd
  unfold Den at e
  subst e
  have hxl:x.length≤1000000:=hw
  have hq:Q (.bl (!decide (V.str x=V.str (Str.ofString ""))&&madeOf x sSigns)) H:=hq
  refine iteT ⟨_,rfl, .inl ⟨rfl,_,rfl,ite2 (fun c1 => ?_) (fun c1 => ?_)⟩⟩
  ·rw [c1,Bool.true_and] at hq
   exact ⟨_,rfl,x,_,rfl,hxl,hq⟩
  ·rw [Bool.eq_false_iff.mpr c1,Bool.false_and] at hq
   exact hq
 | _=>exact iteF hq
theorem sc_is_entry:FnScope ["thing"] ["thing"] (defScope (top i_is_entry)):=⟨rfl,rfl,rfl,by decide +kernel,rfl,by decide +kernel,by decide +kernel⟩
theorem ok_isentry (F:Fun K "is_entry" "is_entry" (top i_is_entry) f fd) (T:Nm mg) (f_is_name:Fn P w K mg base 2 "is_name" ["thing"] (spAsk K isNameD)) (f_is_code:Fn P w K mg base 2 "is_code" ["thing"] (spAsk K isCodeD)):FnOk P w K mg base CX0 3 f fd ["thing"] (spAsk K isEntryD):=by
 refine F.ok sc_is_entry (fun vs H Q E h => ?_) (fun cdv A outer s H vs Q E hr h => ?_)
 ·obtain ⟨v,d,rfl,_⟩:=h
  rfl
 obtain ⟨v,d,rfl,hd,hw,q⟩:=h
 have hu6:=hr.units
 refine ⟨_,(pss_one (ps_ret (pe_and (pe_callB (isiK K) rfl T.n_isinstance (by rfl) (pa_cons (pv 0) (pa_cons (pe_bltn rfl T.n_tuple (by rfl) (v := .ty "tuple") rfl) pa_nil))) (pe_and (pe_cmpR (eqK K hu6) (pe_callB (lenK K) rfl T.n_len (by rfl) (pa_cons (pv 0) pa_nil)) pe_int (nomark _)) (pe_and (pe_fn (f_is_name.mono (by first|decide|exact Nat.le_refl _|(first|lia|omega))) hr rfl (pa_cons (pe_ix (ixK K) (pv 0) pe_int (fun _ _=>rfl)) pa_nil)) (pe_one (pe_fn (f_is_code.mono (by first|decide|exact Nat.le_refl _|(first|lia|omega))) hr rfl (pa_cons (pe_ix (ixK K) (pv 0) pe_int (fun _ _=>rfl)) pa_nil)))))))),?_⟩
 refine ⟨_,rfl, .inl ⟨_, "tuple",d,_,rfl,hd,(kitT K d).2.2.2.2,_,rfl,?_⟩⟩
 cases d with
 | tuple ds=>
  have e:=hd
  unfold Den at e
  obtain ⟨a,us,rfl,hT,hds⟩:=e
  have hl:=hds.len
  refine iteT ⟨_,rfl,_,_,rfl, .inr ⟨_,hT,rfl⟩, .inl ⟨rfl,_,rfl,ite2 (fun c1 => ?_) (fun c1 => ?_)⟩⟩
  ·have c1:V.int ((us.length:Nat):Int)=V.int 2:=of_decide_eq_true c1
   have c1:us.length=2:=by injection c1 with c1; (first|lia|omega)
   rw [hl] at c1
   match ds,c1,hds,hw,q with
   | [d1,d2],_,hds,hw,q=>
    unfold Dens at hds
    obtain ⟨v1,r1,rfl,h1,hds⟩:=hds
    unfold Dens at hds
    obtain ⟨v2,r2,rfl,h2,hds⟩:=hds
    unfold Dens at hds
    subst hds
    have hw:PyData.weight d1+1+(PyData.weight d2+1+0)≤1000000:=by simpa only [PyData.weight,PyData.weightAll] using hw
    have q:∀H',Same H H'→Q (.bl (isNameD d1&&isCodeD d2)) H':=q
    refine ⟨_,rfl, .inr (.inl ⟨a,_,0,_,rfl,rfl,hT,rfl,v1,d1,rfl,h1,by first|lia|omega,fun H1 sm1=>⟨_,rfl,ite2 (fun c2 => ?_) (fun c2 => ?_)⟩⟩)⟩
    ·refine ⟨_,rfl, .inr (.inl ⟨a,_,1,_,rfl,rfl,sm1.seqT hT,rfl,v2,d2,rfl,h2.same sm1,by first|lia|omega,fun H2 sm2 => ?_⟩)⟩
     have z:=q H2 (sm1.trans sm2)
     rw [c2,Bool.true_and] at z
     exact z
    ·have z:=q H1 sm1
     rw [Bool.eq_false_iff.mpr c2,Bool.false_and] at z
     exact z
  ·have c1:¬(V.int ((us.length:Nat):Int)=V.int 2):=of_decide_eq_false (Bool.eq_false_iff.mpr c1)
   have z:=q H (Same.refl _)
   have e:isEntryD (.tuple ds)=false:=by
    match ds,hl with
    | [],_=>rfl
    | [_],_=>rfl
    | [_,_],hl=>exact absurd (by rw [hl];rfl) c1
    | _ :: _ :: _ :: _,_=>rfl
   rw [e] at z
   exact z
 | _=>exact iteF (q H (Same.refl _))
theorem name_str {d:PyData} (h:isNameD d=true):∃x,d = .str x:=by
 cases d <;> first|exact ⟨_,rfl⟩|(simp [isNameD] at h)
theorem code_str {d:PyData} (h:isCodeD d=true):∃x,d = .str x:=by
 cases d <;> first|exact ⟨_,rfl⟩|(simp [isCodeD] at h)
theorem entry_of {d:PyData} (h:isEntryD d=true):∃x y:Str,d = .tuple [.str x, .str y]:=by
 cases d with
 | tuple ds=>
  match ds,h with
  | [],h=>simp [isEntryD] at h
  | [_],h=>simp [isEntryD] at h
  | [a,b],h=>
   have h:(isNameD a&&isCodeD b)=true:=h
   rw [Bool.and_eq_true] at h
   obtain ⟨x,rfl⟩:=name_str h.1
   obtain ⟨y,rfl⟩:=code_str h.2
   exact ⟨x,y,rfl⟩
  | _ :: _ :: _ :: _,h=>simp [isEntryD] at h
 | _=>simp [isEntryD] at h
theorem eqv_nil (ds:List PyData):PyData.eqv (.list ds) (.list [])=ds.isEmpty:=by
 cases ds <;> simp [PyData.eqv,PyData.eqvAll]
theorem sc_is_book:FnScope ["thing"] ["thing"] (defScope (top i_is_book)):=⟨rfl,rfl,rfl,by decide +kernel,rfl,by decide +kernel,by decide +kernel⟩
theorem ok_isbook (F:Fun K "is_book" "is_book" (top i_is_book) f fd) (T:Nm mg) (f_is_entry:Fn P w K mg base 3 "is_entry" ["thing"] (spAsk K isEntryD)):FnOk P w K mg base CX0 4 f fd ["thing"] (spIsBook K):=by
 refine F.ok sc_is_book (fun vs H Q E h => ?_) (fun cdv A outer s H vs Q E hr h => ?_)
 ·obtain ⟨v,d,rfl,_⟩:=h
  rfl
 obtain ⟨v,d,rfl,hd,hw,hsh,hfew,q⟩:=h
 have hu6:=hr.units
 refine ⟨_,(pss_cons (ps_if (PW.pt (pw_or (pt_not (pt_val (pe_callB (isiK K) rfl T.n_isinstance (by rfl) (pa_cons (pv 0) (pa_cons (pe_bltn rfl T.n_list (by rfl) (v := .ty "list") rfl) pa_nil))))) (pw_or1 (pt_cmpR (eqK K hu6) (pv 0) (lstN pa_nil) (nomark _))))) (pss_one (ps_ret pe_bl)) pss_nil)
  (pss_cons (ps_if (pt_not (pt_val (pe_callB (allK K rfl) rfl T.n_all (by rfl) (pa_cons (pe_lcomp rfl (comp_ok (Nc:=["part"]) (Fc:=[]) (js:=[])) (piK K (pv 0)) (gk_name (i:=0) (n:=1) (by decide)) (fun _ _ _ _ _=>(pg_name (i:=0) (show (["part"]:List Str).Nodup by decide +kernel) rfl (Or.inl rfl))) (fun _ _ _ _ _=>pts_nil) (fun _ _ _ _ _=>(pe_fn (f_is_entry.mono (by first|decide|exact Nat.le_refl _|(first|lia|omega))) hr rfl (pa_cons (pv 0) pa_nil)))) pa_nil)))) (pss_one (ps_ret pe_bl)) pss_nil)
  (pss_one (ps_ret (pe_cmpR (eqK K hu6) (pe_callB (call_lenK (strV P w)) rfl T.n_len (by rfl) (pa_cons (pe_scomp (strV P w) rfl (comp_ok (Nc:=["name", "code"]) (Fc:=[]) (js:=[])) (piK K (pv 0)) (gk_tup (gks_cons (gk_name (i:=0) (n:=2) (by decide)) (gks_cons (gk_name (i:=1) (n:=2) (by decide)) gks_nil gm_name gms_nil) gm_name (gms_cons gm_name gms_nil))) (fun _ _ _ _ _=>(tupK K 2 rfl (pgs_cons (pg_name (i:=0) (show (["name", "code"]:List Str).Nodup by decide +kernel) rfl (Or.inl rfl)) (pgs_cons (pg_name (i:=1) (show (["name", "code"]:List Str).Nodup by decide +kernel) rfl (Or.inl rfl)) pgs_nil)))) (fun _ _ _ _ _=>pts_nil) (fun _ _ _ _ _=>(pv 0))) pa_nil)) (pe_callB (lenK K) rfl T.n_len (by rfl) (pa_cons (pv 0) pa_nil)) (nomark _)))))),?_⟩
 refine ⟨_,rfl, .inl ⟨_, "list",d,_,rfl,hd,(kitT K d).2.2.2.1,_,rfl,?_⟩⟩
 cases d with
 | list ds=>
  have e:=hd
  unfold Den at e
  obtain ⟨a,us,rfl,hS,hds⟩:=e
  have hl:=hds.len
  have hfew:=hfew ds rfl
  have hwt:PyData.weightAll ds≤40000:=by simpa only [PyData.weight] using hw
  refine iteF ⟨_,rfl,by show 0≤sizeLine;decide,fun pe H1 n1 => ?_⟩
  have den0:Den K H1 (.list []) (.ref pe):=Den.list (SqL.of n1.at) (Den.strs [])
  refine .inr ⟨_,_,hd.same n1.same,den0,hsh,by decide +kernel,_,rfl,?_⟩
  rw [eqv_nil]
  cases hem:ds.isEmpty with
  | true=>
   have z:=q H1 n1.same
   have e:isBookD (.list ds)=false:=by simp [isBookD,hem]
   rw [e] at z
   exact iteT z
  | false=>
   refine iteF ?_
   have hS1:=n1.same.seq hS
   have hds1:=hds.same n1.same
   have lw:=len_weight ds
   refine ⟨_,rfl,a,rfl,⟨_,hS1⟩,?_⟩
   refine comp_go (N:=ds.length) (fun i ys H'=>Same H1 H'∧ys=((ds.take i).map isEntryD).map V.bl) ⟨Same.refl _,rfl⟩ ?_ ?_
   ·rintro i ys H2 Nx hi ⟨sm2,rfl⟩ nx
    obtain ⟨x,hx,dx⟩:=hds1.get (i:=i) (List.getElem?_eq_getElem hi)
    refine ⟨⟨_,_,sm2.seq hS1,hx⟩,Nat.lt_of_le_of_lt (show _≤40000 by rw [List.length_map,List.length_map,List.length_take];exact Nat.le_trans (Nat.min_le_left _ _) (by first|lia|omega)) (by decide),?_⟩
    rintro x' H3 ⟨rfl,hy⟩
    have e:=hy _ (sm2.seq hS1)
    rw [hx] at e;cases e
    refine gn ⟨_,rfl,_,_,rfl,dx.same sm2,Nat.le_trans (weight_at (n:=40000) hwt (List.getElem_mem hi)) (by decide),fun H4 sm4=>nx _ _ ⟨sm2.trans sm4,?_⟩⟩
    rw [List.take_succ_eq_append_getElem hi,List.map_append,List.map_append]
    rfl
   ·rintro ys H2 ⟨sm2,rfl⟩
    refine ⟨⟨_,sm2.seq hS1,by rw [hl];exact Nat.le_refl _⟩,fun p hp => ?_⟩
    rw [List.take_length]
    refine ⟨p,_,rfl,SqL.of upd_same,_,rfl,?_⟩
    have smp:Same H1 (upd H2 p (.lst ((ds.map isEntryD).map V.bl))):=sm2.trans (same_new hp _)
    have eall:(ds.map isEntryD).any id=ds.any isEntryD:=by rw [List.any_map];rfl
    have eall:(ds.map isEntryD).all id=ds.all isEntryD:=by rw [List.all_map];rfl
    rw [eall]
    cases hall:ds.all isEntryD with
    | false=>
     have z:=q _ (n1.same.trans smp)
     have e:isBookD (.list ds)=false:=by simp [isBookD,hem,hall]
     rw [e] at z
     exact iteT z
    | true=>
     refine iteF ?_
     generalize upd H2 p (.lst ((ds.map isEntryD).map V.bl))=H3 at smp
     have ent:∀i (hi:i<ds.length),∃x y:Str,ds[i] = .tuple [.str x, .str y]:=fun i hi=>entry_of (List.all_eq_true.mp hall _ (List.getElem_mem hi))
     refine ⟨_,rfl,a,rfl,⟨_,smp.seq hS1⟩,fun D hD => ?_⟩
     refine scomp_go (N:=ds.length) (fun i H'=>H' D=some (setK (strV P w) D (metKeys (fun i=>(ds.map nameD).getD i Str.empty) i))∧∀a u,a≠D→H3 a=some u→H' a=some u) ⟨upd_same,fun a u h e=>by rw [upd_ne h];exact e⟩ ?_ ?_
     ·rintro i H4 Nx hi ⟨hD4,kp⟩ nx
      obtain ⟨x,hx,dx⟩:=(hds1.same smp).get (i:=i) (List.getElem?_eq_getElem hi)
      obtain ⟨nm,cd,ed⟩:=ent i hi
      rw [ed] at dx
      obtain ⟨pa,rfl,hT⟩:=dx.pair
      have sm4:Same H3 H4:=fun a u e=>kp a u (ne_of_none e hD) e
      refine ⟨⟨_,_,sm4.seq (smp.seq hS1),hx⟩,?_⟩
      rintro x' H5 ⟨rfl,hy⟩
      have e:=hy _ (sm4.seq (smp.seq hS1))
      rw [hx] at e;cases e
      have enm:(ds.map nameD).getD i Str.empty=nm:=by
       rw [show (ds.map nameD).getD i Str.empty=((ds.map nameD)[i]?).getD Str.empty from rfl,List.getElem?_map,List.getElem?_eq_getElem hi,ed]
       rfl
      have ml:=metKeys_le (fun i=>(ds.map nameD).getD i Str.empty) i
      refine ⟨pa,_,rfl,sm4.seqT hT,rfl,_,_,rfl,_,_,rfl,rfl,_,rfl,_,nm,hD4,rfl,by first|lia|omega,nx _ ⟨?_,fun a u h e => ?_⟩⟩
      ·rw [upd_same]
       show _=some (setK (strV P w) D (oneMore (metKeys (fun i=>(ds.map nameD).getD i Str.empty) i) ((ds.map nameD).getD i Str.empty)))
       rw [enm]
       rfl
      ·rw [upd_ne h]
       exact kp a u h e
     ·rintro H4 ⟨hD4,kp⟩
      have sm4:Same H3 H4:=fun a u e=>kp a u (ne_of_none e hD) e
      refine ⟨⟨_,sm4.seq (smp.seq hS1),by rw [hl];exact Nat.le_refl _⟩,?_⟩
      refine ⟨D,_,rfl,hD4,_,rfl,_,_,rfl, .inl ⟨_,sm4.seq (smp.seq hS1),rfl⟩, .inl ⟨rfl,?_⟩⟩
      have z:=q H4 (n1.same.trans (smp.trans sm4))
      have e:isBookD (.list ds)=decide (V.int ((metKeys (fun i=>(ds.map nameD).getD i Str.empty) ds.length).length:Nat)=V.int (us.length:Nat)):=by
       show (!ds.isEmpty&&(ds.all isEntryD&&decide ((metKeys (fun i=>(ds.map nameD).getD i Str.empty) ds.length).length=ds.length)))=_
       rw [hem,hall,Bool.not_false,Bool.true_and,Bool.true_and,Bool.eq_iff_iff,decide_eq_true_iff,decide_eq_true_iff,hl]
       constructor
       ·intro z;rw [z]
       ·intro z;injection z with z; (first|lia|omega)
      rw [e] at z
      exact z
 | _=>exact iteT (q H (Same.refl _))
end
end Z
namespace Z
open PySem L2
def spHalves (K:PySem.W.Frag):Sp:=fun vs H Q _=>Ex2 fun (v:V) (bk:List (Str×Str))=>vs=[v]∧Den K H (bookD bk) v∧bk≠[]∧bk.length≤1000∧(∀q∈bk,q.2.length≤1000) ∧
 ∀(M:Nat) (p:Addr) (H':Hp),M∈bk.map (·.2.length)→(∀q∈bk,q.2.length≤M)→Same H H'→H p=none→H' p=some (.tup [.int ((bk.map fun q=>(2:Int) ^ (M-q.2.length)).sum), .int (2 ^ M)])→Q (.ref p) H'
section
variable {P:Program} {w:World} {K:PySem.W.Frag} {mg:Str→Option Value} {base:Heap} {f:Addr} {fd:FuncData}
theorem sc_hv:FnScope ["book"] ["book"] (defScope (top i_halves)):=⟨rfl,rfl,rfl,by decide +kernel,rfl,by decide +kernel,by decide +kernel⟩
theorem ok_hv (F:Fun K "halves" "halves" (top i_halves) f fd) (T:Nm mg) (f_hb:Fn P w K mg base 2 "halves_by" ["lengths"] (spHalvesBy K)):FnOk P w K mg base CX0 3 f fd ["book"] (spHalves K):=by
 refine F.ok sc_hv (fun vs H Q E h => ?_) (fun cdv A outer s H vs Q E hr h => ?_)
 ·obtain ⟨l,ns,rfl,_⟩:=h
  rfl
 obtain ⟨v,bk,rfl,hD,hne,hlen,hle,q⟩:=h
 refine ⟨_,(pss_one (ps_ret (pe_fn f_hb hr rfl (pa_cons (pe_lcomp rfl (comp_ok (Nc:=["name", "code"]) (Fc:=[]) (js:=[])) (piK K (pv 0)) (gk_tup (gks_cons (gk_name (i:=0) (n:=2) (by decide)) (gks_cons (gk_name (i:=1) (n:=2) (by decide)) gks_nil gm_name gms_nil) gm_name (gms_cons gm_name gms_nil))) (fun _ _ _ _ _=>(tupK K 2 rfl (pgs_cons (pg_name (i:=0) (show (["name", "code"]:List Str).Nodup by decide +kernel) rfl (Or.inl rfl)) (pgs_cons (pg_name (i:=1) (show (["name", "code"]:List Str).Nodup by decide +kernel) rfl (Or.inl rfl)) pgs_nil)))) (fun _ _ _ _ _=>pts_nil) (fun _ _ _ _ _=>(pe_callB (lenK K) rfl T.n_len (by rfl) (pa_cons (pv 1) pa_nil)))) pa_nil)))),?_⟩
 unfold bookD at hD
 unfold Den at hD
 obtain ⟨l,vs,rfl,hS,hDs⟩:=hD
 have hvl:vs.length=bk.length:=by rw [hDs.len,List.length_map]
 refine ⟨_,rfl,l,rfl,⟨_,hS⟩,?_⟩
 refine comp_go (N:=bk.length) (fun i ys H'=>H'=H∧ys=((bk.take i).map fun q=>V.int (q.2.length:Nat))) ⟨rfl,rfl⟩ ?_ ?_
 ·rintro i ys H' Nx hi ⟨rfl,rfl⟩ nx
  obtain ⟨x,hx,dx⟩:=hDs.get (i:=i) (d := .tuple [.str bk[i].1, .str bk[i].2]) (by rw [List.getElem?_map,List.getElem?_eq_getElem hi];rfl)
  obtain ⟨a,rfl,hT⟩:=dx.pair
  refine ⟨⟨_,_,hS,hx⟩,Nat.lt_of_le_of_lt (by rw [List.length_map,List.length_take];exact Nat.le_trans (Nat.min_le_left _ _) (by first|lia|omega)) (show 1000<sizeLine by decide),?_⟩
  rintro x' H2 ⟨rfl,hy⟩
  have e:=hy _ hS
  rw [hx] at e;cases e
  refine ⟨a,_,rfl,hT,rfl,_,_,rfl,_,_,rfl,rfl,?_⟩
  refine ⟨_,rfl,_,_,rfl,⟨sizeOk (Nat.le_trans (hle bk[i] (List.getElem_mem hi)) (by decide)),rfl⟩,nx _ _ ⟨rfl,?_⟩⟩
  rw [List.take_succ_eq_append_getElem hi,List.map_append];rfl
 ·rintro ys H' ⟨rfl,rfl⟩
  refine ⟨⟨_,hS,by rw [hvl];exact Nat.le_refl _⟩,fun p hp => ?_⟩
  refine ⟨p,bk.map (·.2.length),rfl,SqL.of ?_,by simpa using hne,by simpa using hlen,fun n hn => ?_,fun M t H2 hM hmx sm ht0 ht => ?_⟩
  ·rw [upd_same,List.take_length,List.map_map];rfl
  ·obtain ⟨c,hc,rfl⟩:=List.mem_map.mp hn
   exact hle c hc
  ·refine q M t H2 hM (fun c hc=>hmx _ (List.mem_map.mpr ⟨c,hc,rfl⟩)) ((same_new hp _).trans sm) ?_ (by rw [ht,List.map_map];rfl)
   cases z:H' t with
   | none=>rfl
   | some o=>rw [upd_ne (ne_of_none z hp)] at ht0;rw [z] at ht0;cases ht0
end
end Z
namespace Z
open PySem L2
structure U24 (us:List (Str×Int)):Prop where
 nm:∀q∈us,Low q.1∧q.1.length≤8
 us:∀q∈us,0≤q.2∧q.2≤1000000000000
theorem U24.of {us:List (Str×Int)} (h:UsesOk us):U24 us:=⟨h.nm,fun q hq=>by have:=h.us q hq; (first|lia|omega)⟩
theorem U24.rise {us:List (Str×Int)} (h:U24 us):∀x∈srtI (us.map (·.2)),0≤x∧x≤1000000000000:=fun x hx=>by
 obtain ⟨q,hq,rfl⟩:=List.mem_map.mp ((srtI_perm _).subset hx)
 exact h.us q hq
theorem pairS_bd {B:Int} : ∀{l:List Int},(∀x∈l,0≤x∧x≤B)→∀x∈pairS l,0≤x∧x≤2*B
 | [],_,x,hx=>by simp [pairS] at hx
 | [_],_,x,hx=>by simp [pairS] at hx
 | a :: b :: r,h,x,hx=>by
  simp only [pairS,List.mem_cons] at hx
  rcases hx with rfl|hx
  ·have:=h a (by simp)
   have:=h b (by simp)
   (first|lia|omega)
  ·exact pairS_bd (l:=r) (fun y hy=>h y (by simp [hy])) x hx
theorem lay_b24 {r:List Int} (h:∀x∈r,0≤x∧x≤1000000000000):∀n,∀x∈lay r n,0≤x∧x≤1000000000000*2 ^ n
 | 0,x,hx=>by have:=h x hx;simpa using this
 | n+1,x,hx=>by
  have ih:=lay_b24 h n
  have hx:x∈r++pairS (lay r n):=(srtI_perm _).subset hx
  have e:(1000000000000:Int)*2 ^ (n+1)=2*(1000000000000*2 ^ n):=by rw [Int.pow_succ]; (first|lia|omega)
  have p:(1:Int)≤2 ^ n:=by
   have e:((1:Nat):Int)≤((2 ^ n:Nat):Int):=by exact_mod_cast Nat.one_le_two_pow
   simpa using e
  rw [e]
  rcases List.mem_append.mp hx with hx|hx
  ·have:=h x hx; (first|lia|omega)
  ·exact pairS_bd ih x hx
theorem lay_b30 {r:List Int} (h:∀x∈r,0≤x∧x≤1000000000000) {n:Nat} (hn:n≤30):∀x∈lay r n,0≤x∧x≤1000000000000*2 ^ 30:=fun x hx=>by
 obtain ⟨h1,h2⟩:=lay_b24 h n x hx
 have:(2:Int) ^ n≤2 ^ 30:=by
  have e:((2 ^ n:Nat):Int)≤((2 ^ 30:Nat):Int):=by exact_mod_cast Nat.pow_le_pow_right (by decide) hn
  simpa using e
 exact ⟨h1,by first|lia|omega⟩
theorem sum_bd {B:Int} (hB:0≤B):∀{l:List Int},(∀x∈l,0≤x∧x≤B)→0≤l.sum∧l.sum≤l.length*B
 | [],_=>by simp
 | a :: l,h=>by
  obtain ⟨h1,h2⟩:=sum_bd hB (l:=l) fun x hx=>h x (List.mem_cons_of_mem _ hx)
  have:=h a List.mem_cons_self
  have e:((l.length+1:Nat):Int)*B=l.length*B+B:=by rw [Int.natCast_succ,Int.add_mul,Int.one_mul]
  simp only [List.sum_cons,List.length_cons]
  rw [e]
  (first|lia|omega)
theorem sumBy_b24 {xs:List Int} {m:Nat} (h:∀x∈xs,0≤x∧x≤1000000000000*2 ^ 30) (hl:xs.length≤95):0≤sumBy xs m∧sumBy xs m≤10 ^ 24:=by
 unfold sumBy
 split
 ·cases xs with
  | nil=>decide
  | cons x xs=>have:=h x List.mem_cons_self;simp; (first|lia|omega)
 ·obtain ⟨h1,h2⟩:=sum_bd (B:=1000000000000*2 ^ 30) (by decide) (l:=xs.take (2*m-2)) fun x hx=>h x (List.mem_of_mem_take hx)
  refine ⟨h1,?_⟩
  have hl2:(xs.take (2*m-2)).length≤95:=by rw [List.length_take]; (first|lia|omega)
  (first|lia|omega)
theorem sum_ok {us:List (Str×Int)} (h:U24 us) (ul:us.length≤48) {most:Nat} (hm:most≤30):(PyData.int (sumBy (lay (srtI (us.map (·.2))) (most-1)) us.length)).weight≤1000000:=by
 have rl:(srtI (us.map (·.2))).length≤48:=by rw [(srtI_perm _).length_eq,List.length_map]; (first|lia|omega)
 have:=sumBy_b24 (m:=us.length) (lay_b30 h.rise (show most-1≤30 by first|lia|omega)) (lay_len rl (most-1))
 have:=weight_int (i:=sumBy (lay (srtI (us.map (·.2))) (most-1)) us.length) (by first|lia|omega)
 (first|lia|omega)
end Z
namespace Z
open PySem L2
theorem split_not {g:Nat→Bool} : ∀(l:List Nat),l.all g=false→∃p c r,l=p++c :: r∧(∀a∈p,g a=true)∧g c=false
 | [],h=>by cases h
 | a :: l,h=>by
  cases ha:g a with
  | false=>exact ⟨[],a,l,rfl,(fun _ z=>nomatch z),ha⟩
  | true=>
   rw [List.all_cons,ha,Bool.true_and] at h
   refine Elim.el (split_not l h) _ ?_
   rintro p c r rfl hp hc
   refine ⟨a :: p,c,r,rfl,fun x hx => ?_,hc⟩
   rcases List.mem_cons.mp hx with rfl|hx
   ·exact ha
   ·exact hp x hx
theorem madeOf_all (x y:Str):madeOf x y=x.cps.toList.all y.cps.contains:=by
 unfold madeOf Txt.stripChars
 rw [PyProof.Rows.stripBy_eq]
 generalize y.cps.contains=g
 unfold stripHi stripLo
 simp only [if_true]
 have sub:∀i j:Nat,decide (V.str (Builtin.Str.strSub x i j)=V.str (Str.ofString ""))=decide (min j x.length≤i):=fun i j=>by
  congr 1
  refine propext ⟨fun h => ?_,fun h => ?_⟩
  ·injection h with h
   have h:=congrArg (fun s:Str=>s.cps.size) h
   have e0:(Str.ofString "").cps.size=0:=rfl
   simp only [Builtin.Str.strSub,Array.size_extract,e0] at h
   have:x.cps.size=x.length:=rfl
   (first|lia|omega)
  ·congr 1
   unfold Builtin.Str.strSub
   have e:x.cps.extract i j = #[]:=by
    apply Array.eq_empty_of_size_eq_zero
    rw [Array.size_extract]
    have:x.cps.size=x.length:=rfl
    (first|lia|omega)
   rw [e]
   rfl
 rw [sub]
 have hlen:x.length=x.cps.toList.length:=by simp [Str.length]
 rw [hlen]
 generalize x.cps.toList=l
 by_cases h:l.all g=true
 ·rw [h]
  have e:l.takeWhile g=l:=by
   clear sub hlen
   induction l with
   | nil=>rfl
   | cons a l ih=>
    rw [List.all_cons,Bool.and_eq_true] at h
    rw [List.takeWhile_cons,if_pos h.1,ih h.2]
  rw [e]
  exact decide_eq_true (by first|lia|omega)
 ·have hf:l.all g=false:=by simpa using h
  rw [hf]
  apply decide_eq_false
  intro z
  refine Elim.el (split_not l hf) _ ?_
  rintro p c r rfl hp hc
  have e:(p++c :: r).takeWhile g=p:=by
   clear z hlen sub h hf
   induction p with
   | nil=>rw [List.nil_append,List.takeWhile_cons,hc];rfl
   | cons a p ih=>
    rw [List.cons_append,List.takeWhile_cons,if_pos (hp a List.mem_cons_self),ih fun x hx=>hp x (List.mem_cons_of_mem _ hx)]
  have ed:(p++c :: r).drop p.length=c :: r:=List.drop_left
  rw [e,ed] at z
  have hl:(p++c :: r).length=p.length+(r.length+1):=by rw [List.length_append,List.length_cons]
  have tl:((c :: r).reverse.takeWhile g).length≤r.length:=by
   rw [List.reverse_cons]
   have:((r.reverse++[c]).takeWhile g).length≤r.reverse.length:=by
    rw [List.takeWhile_append]
    split
    ·rw [List.length_append]
     have e:[c].takeWhile g=[]:=by simp [List.takeWhile,hc]
     rw [e];simp
    ·exact (List.takeWhile_prefix g).length_le
   rw [List.length_reverse] at this
   exact this
  (first|lia|omega)
end Z
namespace Z
open PySem L2
theorem met_mem {α:Type} [DecidableEq α] {f:Nat → α} {k : α} : ∀{i:Nat},k∈metKeys f i ↔ ∃j,j<i∧f j=k
 | 0=>by simp [metKeys]
 | i+1=>by
  unfold metKeys oneMore
  have ih:=met_mem (f:=f) (k:=k) (i:=i)
  by_cases h:f i∈metKeys f i
  ·rw [if_pos h,ih]
   constructor
   ·rintro ⟨j,hj,e⟩;exact ⟨j,by first|lia|omega,e⟩
   ·rintro ⟨j,hj,e⟩
    by_cases hji:j=i
    ·subst hji
     obtain ⟨m,hm,em⟩:=(met_mem (f:=f) (k:=f j) (i:=j)).mp h
     exact ⟨m,hm,em.trans e⟩
    ·exact ⟨j,by first|lia|omega,e⟩
  ·rw [if_neg h,List.mem_append,ih,List.mem_singleton]
   constructor
   ·rintro (⟨j,hj,e⟩|e)
    ·exact ⟨j,by first|lia|omega,e⟩
    ·exact ⟨i,by first|lia|omega,e.symm⟩
   ·rintro ⟨j,hj,e⟩
    by_cases hji:j=i
    ·subst hji;exact .inr e.symm
    ·exact .inl ⟨j,by first|lia|omega,e⟩
theorem met_full {α:Type} [DecidableEq α] {f:Nat → α} : ∀{i:Nat},(metKeys f i).length=i ↔ ∀a b,a<b→b<i→f a≠f b
 | 0=>⟨fun _ a b _ h=>absurd h (Nat.not_lt_zero _),fun _=>rfl⟩
 | i+1=>by
  have ih:=met_full (f:=f) (i:=i)
  have le:=metKeys_le f i
  unfold metKeys oneMore
  by_cases h:f i∈metKeys f i
  ·rw [if_pos h]
   refine ⟨fun z=>by first|lia|omega,fun z => ?_⟩
   obtain ⟨j,hj,e⟩:=met_mem.mp h
   exact absurd e (z j i hj (by first|lia|omega))
  ·rw [if_neg h,List.length_append,List.length_singleton]
   constructor
   ·intro z a b hab hb e
    by_cases hbi:b=i
    ·subst hbi
     exact h (met_mem.mpr ⟨a,hab,e⟩)
    ·exact ih.mp (by first|lia|omega) a b hab (by first|lia|omega) e
   ·intro z
    have:=ih.mpr fun a b hab hb=>z a b hab (by first|lia|omega)
    (first|lia|omega)
theorem met_nodup {l:List Str} : (metKeys (fun i=>l.getD i Str.empty) l.length).length=l.length ↔ l.Nodup:=by
 rw [met_full,List.nodup_iff_pairwise_ne,List.pairwise_iff_getElem]
 constructor
 ·intro h i j hi hj hij e
  refine h i j hij hj ?_
  simp only [List.getD_eq_getElem?_getD,List.getElem?_eq_getElem hi,List.getElem?_eq_getElem hj]
  exact e
 ·intro h a b hab hb e
  refine h a b (by first|lia|omega) hb hab ?_
  simpa only [List.getD_eq_getElem?_getD,List.getElem?_eq_getElem hb,List.getElem?_eq_getElem (show a<l.length by first|lia|omega),Option.getD_some] using e
end Z
namespace Z
open PySem L2
abbrev ent (q:Str×Str):PyData := .tuple [.str q.1, .str q.2]
theorem str_nil (x:Str):decide (V.str x=V.str (Str.ofString ""))=decide (x.length=0):=by
 congr 1
 refine propext ⟨fun h => ?_,fun h => ?_⟩
 ·injection h with h
  rw [h];rfl
 ·congr 1
  cases x with
  | mk c=>
   have:c = #[]:=Array.eq_empty_of_size_eq_zero h
   rw [this];rfl
theorem small_has:∀c<123,97≤c→sSmall.cps.contains c=true:=by decide +kernel
theorem low_made {x:Str} (h:Low x):madeOf x sSmall=true:=by
 rw [madeOf_all,List.all_eq_true]
 intro c hc
 have:=h c hc
 exact small_has c (by first|lia|omega) (by first|lia|omega)
theorem bin_made {x:Str} (h:Bin x):madeOf x sSigns=true:=by
 rw [madeOf_all,List.all_eq_true]
 intro c hc
 rcases h c hc with rfl|rfl <;> decide +kernel
theorem book_true {n:Nat} {bk:List (Str×Str)} (h:BookOk n bk) (nm:∀q∈bk,1≤q.1.length∧q.1.length≤8) (un:(bk.map (·.1)).Nodup):isBookD (bookD bk)=true:=by
 show (!(bk.map ent).isEmpty&&((bk.map ent).all isEntryD&&decide ((metKeys (fun i=>((bk.map ent).map nameD).getD i Str.empty) (bk.map ent).length).length=(bk.map ent).length)))=true
 have e1:(bk.map ent).isEmpty=false:=by
  cases hb:bk with
  | nil=>exact absurd hb h.ne
  | cons _ _=>rfl
 have e2:(bk.map ent).all isEntryD=true:=by
  rw [List.all_eq_true]
  intro e he
  obtain ⟨q,hq,rfl⟩:=List.mem_map.mp he
  obtain ⟨n1,n2⟩:=nm q hq
  have cd:=h.cd q hq
  show (isNameD (.str q.1)&&isCodeD (.str q.2))=true
  have a1:isNameD (.str q.1)=true:=by
   show (decide ((1:Int)≤(q.1.length:Nat))&&(decide (((q.1.length:Nat):Int)≤8)&&madeOf q.1 sSmall))=true
   rw [decide_eq_true (show (1:Int)≤(q.1.length:Nat) by first|lia|omega),decide_eq_true (show ((q.1.length:Nat):Int)≤8 by first|lia|omega),low_made (h.nm q hq)]
   rfl
  have a2:isCodeD (.str q.2)=true:=by
   show (!decide (V.str q.2=V.str (Str.ofString ""))&&madeOf q.2 sSigns)=true
   have:=cd.pos
   rw [str_nil,decide_eq_false (show ¬q.2.length=0 by first|lia|omega),bin_made cd.bin]
   rfl
  rw [a1,a2];rfl
 have e3:(bk.map ent).map nameD=bk.map (·.1):=by rw [List.map_map];rfl
 rw [e1,e2,e3]
 have:=met_nodup (l:=bk.map (·.1))
 rw [List.length_map] at this
 rw [List.length_map,decide_eq_true (this.mpr un)]
 rfl
theorem bookSh {n:Nat} {bk:List (Str×Str)} (ok:BookOk n bk):Sh 2 (bookD bk):=Sh.list fun d hd=>by
 obtain ⟨q,hq,rfl⟩:=List.mem_map.mp hd
 refine Sh.tuple (n:=0) fun e he => ?_
 simp at he
 rcases he with rfl|rfl
 ·exact Sh.str (canLay_small fun ch h=>by have:=ok.nm q hq ch h; (first|lia|omega))
 ·exact Sh.str (canLay_small fun ch h=>by rcases (ok.cd q hq).bin ch h with e|e <;> (first|lia|omega))
theorem lb_book {ls:List Nat} {cs:List Str} {xs:List Str} {most:Nat} (hc:LcR ls cs) (hx:xs.length=ls.length) (hne:ls≠[]) (h60:ls.length≤60) (hl:∀n∈ls,1≤n∧n≤most) (hm:most≤30) (low:∀x∈xs,Low x):BookOk 30 (xs.zip cs):=by
 have cl:cs.length=ls.length:=hc.1
 have zl:(xs.zip cs).length=ls.length:=by rw [List.length_zip]; (first|lia|omega)
 refine ⟨fun z=>hne (List.eq_nil_of_length_eq_zero (by rw [←zl,z];rfl)),by first|lia|omega,fun q hq=>low _ (List.of_mem_zip hq).1,fun q hq => ?_⟩
 obtain ⟨i,hi⟩:=List.mem_iff_getElem?.mp (List.of_mem_zip hq).2
 obtain ⟨b,e⟩:=hc.len i _ hi
 have:=hl _ (List.mem_iff_getElem?.mpr ⟨i,e⟩)
 exact ⟨b,by first|lia|omega,by first|lia|omega⟩
end Z
namespace Z
open PySem L2
def spLaw (K:PySem.W.Frag):Sp:=fun vs H Q _=>Ex2 fun (a:Addr) (ns:List Int)=>vs=[.ref a]∧SqL K H a (ns.map V.int)∧ns.length≤63∧∀H',Q (.bl true) H'
def spLbB (K:PySem.W.Frag):Sp:=fun vs H Q _=>Ex3 fun (vu:V) (us:List (Str×Int)) (most:Nat)=>vs=[vu, .int (most:Nat)]∧Den K H (usesD us) vu∧1≤most∧most≤30∧us≠[]∧(∀q∈us,0≤q.2)∧us.length≤48∧us.length≤2 ^ most ∧
 ∀(ls:List Nat) (cs:List Str) (v:V) (H':Hp),LensR (us.map (·.2)) most ls→LcR ls cs→Same H H'→Den K H' (bookD ((us.map (·.1)).zip cs)) v→Q v H'
theorem spLbB_of {K:PySem.W.Frag} {vs:List V} {H:Hp} {Q:VK} {E:XK} (h:spLbB K vs H Q E):spLbF K vs H Q E:=by
 obtain ⟨vu,us,most,e,h1,h2,h3,h4,h5,h6,h7,q⟩:=h
 refine ⟨vu,us,most,e,h1,h2,h3,h4,h5,h6,h7,fun ls cs as p H' hL hc sm hp0 hp al hat => ?_⟩
 have ll:ls.length=us.length:=by rw [hL.1,List.length_map]
 have cl:cs.length=us.length:=by rw [hc.1,ll]
 refine q ls cs _ H' hL hc sm (Den.list (SqL.of hp) (Dens.of_get ?_ fun j d v hd hv => ?_))
 ·rw [List.length_map,List.length_map,List.length_zip,List.length_map]; (first|lia|omega)
 ·rw [List.getElem?_map] at hd hv
  cases ea:as[j]? with
  | none=>rw [ea] at hv;cases hv
  | some a'=>
   rw [ea] at hv;cases hv
   have hj:j<us.length:=by have:=(List.getElem?_eq_some_iff.mp ea).1; (first|lia|omega)
   have ez:((us.map (·.1)).zip cs)[j]? = some (us[j].1,cs[j]'(by first|lia|omega)):=by
    rw [List.getElem?_eq_getElem (by rw [List.length_zip,List.length_map]; (first|lia|omega))]
    simp
   rw [ez] at hd;cases hd
   exact Den.pairOf (hat j a' us[j] _ ea (List.getElem?_eq_getElem hj) (List.getElem?_eq_getElem (by first|lia|omega)))
theorem lenP_anti {r:List Int} {L i j:Nat} (hij:i≤j) (hj:j<r.length):(lenP r L).getD j 0≤(lenP r L).getD i 0:=by
 unfold lenP
 by_cases h1:r.length=1
 ·rw [if_pos h1,show i=j by first|lia|omega];exact Nat.le_refl _
 ·rw [if_neg h1]
  have gi:∀k,k<r.length→((List.range r.length).map fun i=>(List.range L).countP fun k=>decide (i<mny r L k)).getD k 0=(List.range L).countP fun m=>decide (k<mny r L m):=fun k hk=>by
   simp [List.getD,hk]
  rw [gi j hj,gi i (by first|lia|omega)]
  exact List.countP_mono_left fun x _ h=>by
   have h:=of_decide_eq_true h
   exact decide_eq_true (by first|lia|omega)
theorem lens_anti {us:List Int} {most:Nat} {ls:List Nat} (h:LensR us most ls) (h64:us.length<64) {i j:Nat} {a b:Nat} (hi:ls[i]? = some a) (hj:ls[j]? = some b) (hlt:us.getD j 0<us.getD i 0):a≤b:=by
 obtain ⟨hl,o,po,pw,ho⟩:=h
 have ol:o.length=us.length:=by rw [po.length_eq,List.length_range]
 have pl:(lenP (srtI us) most).length=us.length:=by rw [lenP_len,(srtI_perm us).length_eq]
 have hi':=(List.getElem?_eq_some_iff.mp hi).1
 have hj':=(List.getElem?_eq_some_iff.mp hj).1
 obtain ⟨k,hk,ek⟩:=List.mem_iff_getElem.mp (po.symm.subset (List.mem_range.mpr (show i<us.length by first|lia|omega)))
 obtain ⟨m,hm,em⟩:=List.mem_iff_getElem.mp (po.symm.subset (List.mem_range.mpr (show j<us.length by first|lia|omega)))
 have e1:=ho k i (by rw [List.getElem?_eq_getElem hk,ek])
 have e2:=ho m j (by rw [List.getElem?_eq_getElem hm,em])
 have hmk:m<k:=by
  apply Classical.byContradiction
  intro z
  by_cases e:m=k
  ·subst e
   rw [ek] at em;subst em; (first|lia|omega)
  ·have:=List.pairwise_iff_getElem.mp pw k m hk hm (by first|lia|omega)
   rw [ek,em] at this
   unfold useK at this
   (first|lia|omega)
 have:=lenP_anti (r:=srtI us) (L:=most) (i:=m) (j:=k) (by first|lia|omega) (by rw [(srtI_perm us).length_eq]; (first|lia|omega))
 rw [hi] at e1
 rw [hj] at e2
 rw [List.getD_eq_getElem?_getD,List.getD_eq_getElem?_getD, ←e1, ←e2] at this
 exact this
theorem small23 {n:Nat} (h:n≤1000):n<sizeLine:=Nat.lt_of_le_of_lt h (by decide)
theorem usSh {us:List (Str×Int)} (h:U24 us):Sh 2 (usesD us):=Sh.list fun d hd=>by
 refine Elim.el (List.mem_map.mp hd) _ ?_
 rintro q hq rfl
 refine Sh.tuple fun d hd => ?_
 have hd:d = .str q.1∨d = .int q.2:=by simpa using hd
 rcases hd with rfl|rfl
 ·exact Sh.str (canLay_small fun ch hc=>by have:=(h.nm q hq).1 ch hc; (first|lia|omega))
 ·exact Sh.int
theorem nmSh {xs:List Str} (h:∀x∈xs,Low x):Sh 1 (.list (xs.map PyData.str)):=Sh.list fun d hd=>by
 refine Elim.el (List.mem_map.mp hd) _ ?_
 rintro x hx rfl
 exact Sh.str (canLay_small fun ch hc=>by have:=h x hx ch hc; (first|lia|omega))
section
variable {P:Program} {w:World} {K:PySem.W.Frag} {mg:Str→Option Value} {base:Heap} {f:Addr} {fd:FuncData}
theorem sc_law:FnScope ["_law_script", "_law_box", "_law_turn", "_law_uses_here", "_law_most", "_law_kept", "_law_book", "_law_names_here", "_law_total", "_law_entire", "_law_one", "_law_other", "_law_more"] ["_law_script"] (defScope (top i_law)):=⟨rfl,rfl,rfl,by decide +kernel,rfl,by decide +kernel,by decide +kernel⟩
theorem ok_law (F:Fun K "law" "law" (top i_law) f fd) (T:Nm mg) (f_law_begin:Fn P w K mg base 1 "_law_begin" ["_law_script"] (spBegin K)) (f_law_case:Fn P w K mg base 4 "_law_case" ["_law_box", "_law_few", "_law_great"] (spCase23 K)) (f_law_take:Fn P w K mg base 1 "_law_take" ["_law_box", "_law_many"] spTk) (f_least_book:Fn P w K mg base 4 "least_book" ["uses", "most"] (spLbB K)) (f_is_book:Fn P w K mg base 4 "is_book" ["thing"] (spIsBook K)) (f_free:Fn P w K mg base 3 "free" ["book"] (spFree K)) (f_halves:Fn P w K mg base 3 "halves" ["book"] (spHalves K)) (f_law_sum:Fn P w K mg base 1 "_law_sum" ["_law_uses_here", "_law_book"] (spSum26 K)) (f_law_least:Fn P w K mg base 2 "_law_least" ["_law_uses_here", "_law_most"] (spLe K)) (f_least_sum:Fn P w K mg base 3 "least_sum" ["uses", "most"] (spLsF K)) (f_law_same:Fn P w K mg base 4 "_law_same" ["_law_found", "_law_due"] (spSame K 4)):FnOk P w K mg base CX0 5 f fd ["_law_script"] (spLaw K):=by
 refine F.ok sc_law (fun vs H Q E h => ?_) (fun cdv A outer s H vs Q E hr h => ?_)
 ·obtain ⟨a,ns,rfl,_⟩:=h
  rfl
 obtain ⟨a,ns,rfl,hS,hlen,q⟩:=h
 have hu6:=hr.units
 have hu:=hu_of hr
 refine ⟨_,(pss_cons (ps_set (i:=1) sc_law.nd rfl (Or.inl rfl) (pe_fn (f_law_begin.mono (by first|decide|exact Nat.le_refl _|(first|lia|omega))) hr rfl (pa_cons (pv 0) pa_nil)))
  (pss_cons (ps_for PassesOwn.never rfl (pi_range1 rfl T.n_range (pa_cons pe_int pa_nil)) (pg_name (i:=2) sc_law.nd rfl (Or.inl rfl)) (pss_cons (ps_asg (pe_fn (f_law_case.mono (by first|decide|exact Nat.le_refl _|(first|lia|omega))) hr rfl (pa_cons (pv 1) (pa_cons pe_int (pa_cons pe_int pa_nil)))) (tupK K 2 rfl (pgs_cons (pg_name (i:=3) sc_law.nd rfl (Or.inl rfl)) (pgs_cons (pg_name (i:=4) sc_law.nd rfl (Or.inl rfl)) pgs_nil))))
  (pss_cons (ps_if (pt_cmpR (eqK K hu6) (pe_fn (f_law_take.mono (by first|decide|exact Nat.le_refl _|(first|lia|omega))) hr rfl (pa_cons (pv 1) (pa_cons pe_int pa_nil))) pe_int (nomark _)) (pss_one (ps_asg (tupN (pa_cons (pe_ix (ixK K) (pe_ix (ixK K) (pv 3) pe_int (fun _ _=>rfl)) pe_int (fun _ _=>rfl)) (pa_cons (pe_op op_pow pe_int pe_int) pa_nil))) (pg_sub (pv 3) pe_int set_list))) pss_nil)
  (pss_cons (ps_set (i:=5) sc_law.nd rfl (Or.inl rfl) (pe_callTy (listN K) rfl T.n_list (by rfl) (pa_cons (pv 3) pa_nil)))
  (pss_cons (ps_set (i:=6) sc_law.nd rfl (Or.inl rfl) (pe_fn (f_least_book.mono (by first|decide|exact Nat.le_refl _|(first|lia|omega))) hr rfl (pa_cons (pv 3) (pa_cons (pv 4) pa_nil))))
  (pss_cons (ps_setcomp (i:=7) sc_law.nd rfl (Or.inl rfl) rfl (comp_ok (Nc:=["_law_name", "_law_code"]) (Fc:=[]) (js:=[])) (piK K (pv 6)) (gk_tup (gks_cons (gk_name (i:=0) (n:=2) (by decide)) (gks_cons (gk_name (i:=1) (n:=2) (by decide)) gks_nil gm_name gms_nil) gm_name (gms_cons gm_name gms_nil))) (fun _ _ _ _ _=>(tupK K 2 rfl (pgs_cons (pg_name (i:=0) (show (["_law_name", "_law_code"]:List Str).Nodup by decide +kernel) rfl (Or.inl rfl)) (pgs_cons (pg_name (i:=1) (show (["_law_name", "_law_code"]:List Str).Nodup by decide +kernel) rfl (Or.inl rfl)) pgs_nil)))) (fun _ _ _ _ _=>pts_nil) (fun _ _ _ _ _=>(pv 0)))
  (pss_cons (ps_if (PW.pt (pw_or (pt_cmpR g_isnot (pe_fn (f_is_book.mono (by first|decide|exact Nat.le_refl _|(first|lia|omega))) hr rfl (pa_cons (pv 6) pa_nil)) pe_bl (nomark _)) (pw_or (pt_cmpR (neK K hu6) (pv 7) (pe_lcomp rfl (comp_ok (Nc:=["_law_name", "_law_use"]) (Fc:=[]) (js:=[])) (piK K (pv 3)) (gk_tup (gks_cons (gk_name (i:=0) (n:=2) (by decide)) (gks_cons (gk_name (i:=1) (n:=2) (by decide)) gks_nil gm_name gms_nil) gm_name (gms_cons gm_name gms_nil))) (fun _ _ _ _ _=>(tupK K 2 rfl (pgs_cons (pg_name (i:=0) (show (["_law_name", "_law_use"]:List Str).Nodup by decide +kernel) rfl (Or.inl rfl)) (pgs_cons (pg_name (i:=1) (show (["_law_name", "_law_use"]:List Str).Nodup by decide +kernel) rfl (Or.inl rfl)) pgs_nil)))) (fun _ _ _ _ _=>pts_nil) (fun _ _ _ _ _=>(pv 0))) (nomark _)) (pw_or1 (pt_cmpR (neK K hu6) (pv 3) (pv 5) (nomark _)))))) (pss_one (ps_ret pe_bl)) pss_nil)
  (pss_cons (ps_if (PW.pt (pw_or (pt_cmpR g_isnot (pe_fn (f_free.mono (by first|decide|exact Nat.le_refl _|(first|lia|omega))) hr rfl (pa_cons (pv 6) pa_nil)) pe_bl (nomark _)) (pw_or1 (pt_cmpR op_gt (pe_callB (maxK K rfl) rfl T.n_max (by rfl) (pa_cons (pe_lcomp rfl (comp_ok (Nc:=["_law_name", "_law_code"]) (Fc:=[]) (js:=[])) (piK K (pv 6)) (gk_tup (gks_cons (gk_name (i:=0) (n:=2) (by decide)) (gks_cons (gk_name (i:=1) (n:=2) (by decide)) gks_nil gm_name gms_nil) gm_name (gms_cons gm_name gms_nil))) (fun _ _ _ _ _=>(tupK K 2 rfl (pgs_cons (pg_name (i:=0) (show (["_law_name", "_law_code"]:List Str).Nodup by decide +kernel) rfl (Or.inl rfl)) (pgs_cons (pg_name (i:=1) (show (["_law_name", "_law_code"]:List Str).Nodup by decide +kernel) rfl (Or.inl rfl)) pgs_nil)))) (fun _ _ _ _ _=>pts_nil) (fun _ _ _ _ _=>(pe_callB (lenK K) rfl T.n_len (by rfl) (pa_cons (pv 1) pa_nil)))) pa_nil)) (pv 4) (nomark _))))) (pss_one (ps_ret pe_bl)) pss_nil)
  (pss_cons (ps_asg (pe_fn (f_halves.mono (by first|decide|exact Nat.le_refl _|(first|lia|omega))) hr rfl (pa_cons (pv 6) pa_nil)) (tupK K 2 rfl (pgs_cons (pg_name (i:=8) sc_law.nd rfl (Or.inl rfl)) (pgs_cons (pg_name (i:=9) sc_law.nd rfl (Or.inl rfl)) pgs_nil))))
  (pss_cons (ps_if (PW.pt (pw_or (pt_cmpR op_gt (pv 8) (pv 9) (nomark _)) (pw_or1 (pt_cmpR (neK K hu6) (pe_fn (f_law_sum.mono (by first|decide|exact Nat.le_refl _|(first|lia|omega))) hr rfl (pa_cons (pv 3) (pa_cons (pv 6) pa_nil))) (pe_fn (f_law_least.mono (by first|decide|exact Nat.le_refl _|(first|lia|omega))) hr rfl (pa_cons (pv 3) (pa_cons (pv 4) pa_nil))) (nomark _))))) (pss_one (ps_ret pe_bl)) pss_nil)
  (pss_cons (ps_if (pt_not (pt_val (pe_fn (f_law_same.mono (by first|decide|exact Nat.le_refl _|(first|lia|omega))) hr rfl (pa_cons (pe_fn (f_least_sum.mono (by first|decide|exact Nat.le_refl _|(first|lia|omega))) hr rfl (pa_cons (pv 3) (pa_cons (pv 4) pa_nil))) (pa_cons (pe_fn (f_law_sum.mono (by first|decide|exact Nat.le_refl _|(first|lia|omega))) hr rfl (pa_cons (pv 3) (pa_cons (pv 6) pa_nil))) pa_nil))))) (pss_one (ps_ret pe_bl)) pss_nil)
  (pss_one (ps_for PassesOwn.never rfl (pi_range1 rfl T.n_range (pa_cons (pe_callB (lenK K) rfl T.n_len (by rfl) (pa_cons (pv 3) pa_nil)) pa_nil)) (pg_name (i:=10) sc_law.nd rfl (Or.inl rfl)) (pss_one (ps_for PassesOwn.never rfl (pi_range1 rfl T.n_range (pa_cons (pv 10) pa_nil)) (pg_name (i:=11) sc_law.nd rfl (Or.inl rfl)) (pss_cons (ps_set (i:=12) sc_law.nd rfl (Or.inl rfl) (pe_op op_sub (pe_ix (ixK K) (pe_ix (ixK K) (pv 3) (pv 10) (fun _ _=>rfl)) pe_int (fun _ _=>rfl)) (pe_ix (ixK K) (pe_ix (ixK K) (pv 3) (pv 11) (fun _ _=>rfl)) pe_int (fun _ _=>rfl))))
  (pss_one (ps_if (pt_cmpR op_gt (pe_op mulN (pv 12) (pe_op op_sub (pe_callB (lenK K) rfl T.n_len (by rfl) (pa_cons (pe_ix (ixK K) (pe_ix (ixK K) (pv 6) (pv 10) (fun _ _=>rfl)) pe_int (fun _ _=>rfl)) pa_nil)) (pe_callB (lenK K) rfl T.n_len (by rfl) (pa_cons (pe_ix (ixK K) (pe_ix (ixK K) (pv 6) (pv 11) (fun _ _=>rfl)) pe_int (fun _ _=>rfl)) pa_nil)))) pe_int (nomark _)) (pss_one (ps_ret pe_bl)) pss_nil))))))))))))))))))
  (pss_one (ps_ret pe_bl)))),?_⟩
 refine ⟨_,rfl,a,ns,rfl,hS,hlen,fun b c H1 bx hb hc sm1=>gn ?_⟩
 clear sm1 hS hlen
 dsimp only
 refine seqCut (t:=tFor _ _ _) (fun _ _=>True) (fun Nx0 nx0 => ?_) (fun _ H2 _=>q H2)
 refine ⟨3,rfl,by decide,by decide,?_⟩
 refine for_range (lo:=0) (n:=3) (fun i σ H'=>Ex12 fun (t':Int) (x2 x3 x4 x5 x6 x7 x8 x9 x10 x11 x12:Option V) => σ=[some (.ref a),some (.ref b),x2,x3,x4,x5,x6,x7,x8,x9,x10,x11,x12]∧Step b c H1 H' 0 t' (1300*i)) ⟨0,_,_,_,_,_,_,_,_,_,_,_,rfl,by simpa using Step.refl bx⟩ ?_ (fun _ _ _=>nx0 _ _ trivial)
 intro i σ H2 hi hz_
 refine Elim.el hz_ _ ?_
 clear hz_
 rintro t2 x2 x3 x4 x5 x6 x7 x8 x9 x10 x11 x12 rfl st2
 have ub2:=st2.ub
 have lo2:=st2.le
 refine ⟨_,rfl,b,c,t2,10,24,rfl,by decide,by decide,by decide,by decide,st2.bx,by first|lia|omega,by first|lia|omega,fun us0 most p lu as0 H3 t3 u1 u40 uo0 und m1 m2 fit lu0 ur0 hp st3=>⟨p,_,rfl,SqT.of hp,rfl,_,_,rfl,_,_,rfl,rfl,?_⟩⟩
 have st13:=st2.trans st3
 have ub3:=st13.ub
 have lo3:=st13.le
 have lu1:H1 lu=none:=st2.fresh bx lu0
 dsimp only
 refine seqCut (t:=tIfS _ _ _) (fun σ H'=>Ex3 fun (us:List (Str×Int)) (as:List Addr) (t':Int) => σ=[some (.ref a),some (.ref b),some (.int (0+i)),some (.ref lu),some (.int (most:Nat)),x5,x6,x7,x8,x9,x10,x11,x12]∧us.map (·.1)=us0.map (·.1)∧U24 us∧UsR H' b c lu as us∧Step b c H1 H' 0 t' (1300*i+1201)) (fun Nx nx => ?_) ?_
 ·refine ⟨_,rfl,b,c,t3,8,rfl,st3.bx,by first|lia|omega,by first|lia|omega,by decide,by decide,fun r H4 r0 r1 st4 => ?_⟩
  have ur4:=ur0.step st4
  obtain ⟨n1,n2,hlu,al,ua⟩:=ur4
  refine .inl ⟨rfl,_,rfl,ite2 (fun _ => ?_) (fun _ => ?_)⟩
  ·have e0:as0[0]? = some (as0[0]'(by first|lia|omega)):=List.getElem?_eq_getElem _
   have eu:us0[0]? = some (us0[0]'(by first|lia|omega)):=List.getElem?_eq_getElem _
   refine Elim.el (ua 0 _ _ e0 eu) _ ?_
   rintro g1 g2 g3
   refine ⟨_,rfl, .inl ⟨lu,_,0, .ref (as0[0]'(by first|lia|omega)),rfl,rfl,SqL.of hlu,at_nat (by decide) (by show (as0.map V.ref)[0]? = _;rw [List.getElem?_map,e0];rfl), .inr (.inl ⟨as0[0]'(by first|lia|omega),_,0,_,rfl,rfl,SqT.of g1,rfl,?_⟩)⟩⟩
   refine ⟨_,_,rfl,rfl,⟨by decide,by decide,by decide⟩,by show 2≤sizeLine;decide,fun pt H5 n5 => ?_⟩
   have ept:H5 pt=some (.tup [.str (us0[0]'(by first|lia|omega)).1, .int 1000000000000]):=n5.at
   have hlu5:=n5.same _ _ hlu
   have ptlu:pt≠lu:=Ne.symm (ne_of_none hlu n5.nn)
   have pbc:=st4.bx.ne_new n5.nn
   refine ⟨_,rfl,lu,_,0,0,rfl,rfl,hlu5,?_,nx _ _ ⟨us0.set 0 ((us0[0]'(by first|lia|omega)).1,1000000000000),as0.set 0 pt,t3+1,rfl,?_,⟨fun q hq => ?_,fun q hq => ?_⟩,⟨n1,n2,?_,by rw [List.length_set,List.length_set];exact al,fun j a q e1 e2 => ?_⟩,(((st13.trans st4).newN n5).chg lu1 n1 n2 _).more (by first|lia|omega)⟩⟩
   ·exact ixN_of (by decide) (by rw [List.length_map]; (first|lia|omega))
   ·rw [List.map_set]
    have:=List.set_getElem_self (as:=us0.map (·.1)) (i:=0) (by rw [List.length_map]; (first|lia|omega))
    rw [List.getElem_map] at this
    exact this
   ·rcases List.mem_or_eq_of_mem_set hq with h|h
    ·exact uo0.nm q h
    ·rw [h]
     exact uo0.nm (us0[0]'(by first|lia|omega)) (List.getElem_mem _)
   ·rcases List.mem_or_eq_of_mem_set hq with h|h
    ·have:=uo0.us q h; (first|lia|omega)
    ·rw [h]
     show (0:Int)≤1000000000000∧(1000000000000:Int)≤1000000000000
     decide
   ·rw [upd_same,List.map_set]
   ·by_cases hj:j=0
    ·subst hj
     rw [List.getElem?_set_self (by first|lia|omega)] at e1 e2
     cases e1;cases e2
     exact ⟨by rw [upd_ne ptlu];exact ept,pbc.1,pbc.2⟩
    ·rw [List.getElem?_set_ne (Ne.symm hj)] at e1 e2
     refine Elim.el (ua j a q e1 e2) _ ?_
     rintro h1 h2 h3
     exact ⟨by rw [upd_ne (fun z=>by rw [z,hlu] at h1;cases h1)];exact n5.same _ _ h1,h2,h3⟩
  ·exact nx _ _ ⟨us0,as0,_,rfl,rfl,U24.of uo0,⟨n1,n2,hlu,al,ua⟩,(st13.trans st4).more (by first|lia|omega)⟩
 intro σ H5 hz_
 refine Elim.el hz_ _ ?_
 clear hz_
 rintro us as t5 rfl unm uo ur st5
 have ul:us.length=us0.length:=by have:=congrArg List.length unm;rwa [List.length_map,List.length_map] at this
 have une:us≠[]:=fun z=>by rw [z] at ul;simp at ul; (first|lia|omega)
 rw [←ul] at fit
 rw [←unm] at und
 have u48:us.length≤40:=by (first|lia|omega)
 have nlow:∀x∈us.map (·.1),Low x∧1≤x.length∧x.length≤8:=fun x hx=>by
  rw [unm] at hx
  refine Elim.el (List.mem_map.mp hx) _ ?_
  rintro q hq rfl
  exact ⟨(uo0.nm q hq).1,uo0.po q hq,(uo0.nm q hq).2⟩
 clear uo0 ur0 hp st3 st13 unm lu0
 have dU5:Den K H5 (usesD us) (.ref lu):=(ur.den (K:=K)).same hid_same
 obtain ⟨n1,n2,hlu,al,ua⟩:=id ur
 refine ⟨_,rfl,lu,_,rfl, .inl (SqL.of hlu),fun lk H6 n6=>gn ?_⟩
 have dU6:=dU5.same n6.same
 have nk:=st5.bx.ne_new n6.nn
 have urk:UsR H6 b c lk as us:=⟨nk.1,nk.2,n6.at,al,(ur.same n6.same).2.2.2.2⟩
 have dk6:Den K H6 (usesD us) (.ref lk):=(urk.den (K:=K)).same hid_same
 refine ⟨_,rfl,_,rfl, .ref lu,us,most,rfl,dU6,m1,m2,une,fun q hq=>(uo.us q hq).1,by first|lia|omega,fit,fun ls cs vb H7 hL hc sm7 dB7=>gn ?_⟩
 have ll:ls.length=us.length:=by rw [hL.1,List.length_map]
 have cl:cs.length=us.length:=by rw [hc.1,ll]
 have lok:=hL.ok (fun u hu'=>by obtain ⟨q,hq,rfl⟩:=List.mem_map.mp hu';exact (uo.us q hq).1) (by rw [List.length_map]; (first|lia|omega)) m1 (by rw [List.length_map];exact fit)
 have lne:ls≠[]:=fun z=>by rw [z] at ll;simp at ll; (first|lia|omega)
 have ok:=lb_book (xs:=us.map (·.1)) hc (by rw [List.length_map]; (first|lia|omega)) lne (by first|lia|omega) lok.1 m2 (fun x hx=>(nlow x hx).1)
 have bk1:((us.map (·.1)).zip cs).map (·.1)=us.map (·.1):=List.map_fst_zip (by rw [List.length_map]; (first|lia|omega))
 have bk2:((us.map (·.1)).zip cs).map (·.2)=cs:=List.map_snd_zip (by rw [List.length_map]; (first|lia|omega))
 have bl:((us.map (·.1)).zip cs).length=us.length:=by rw [List.length_zip,List.length_map]; (first|lia|omega)
 have hfree:=hc.free lne lok.2 (fun n hn=>by have:=lok.1 n hn; (first|lia|omega)) (by first|lia|omega)
 have bcd:∀q∈(us.map (·.1)).zip cs,q.2.length≤30:=fun q hq=>(ok.cd q hq).le
 have blen:(((us.map (·.1)).zip cs).map fun q=>q.2.length)=ls:=by
  have:=congrArg (List.map (·.length)) bk2
  rw [List.map_map,hc.lens] at this
  exact this
 have hbt:isBookD (bookD ((us.map (·.1)).zip cs))=true:=book_true ok (fun q hq=>(nlow _ (List.of_mem_zip hq).1).2) (by rw [bk1];exact und)
 have hcost:cst us ((us.map (·.1)).zip cs)=sumBy (lay (srtI (us.map (·.2))) (most-1)) us.length:=by
  rw [cst_q]
  have e:lnQ us ((us.map (·.1)).zip cs)=(us.map (·.2)).zip ls:=by
   have e1:=lnQ_fst (us:=us) (bk:=(us.map (·.1)).zip cs) bl.symm
   have e2:=lnQ_snd (us:=us) (bk:=(us.map (·.1)).zip cs) bl.symm
   rw [blen] at e2
   have:=List.zip_unzip (lnQ us ((us.map (·.1)).zip cs))
   rw [List.unzip_eq_map] at this
   rw [←this]
   show (List.map Prod.fst _).zip (List.map Prod.snd _)=_
   rw [show List.map Prod.fst (lnQ us ((us.map (·.1)).zip cs))=us.map (·.2) from e1,show List.map Prod.snd (lnQ us ((us.map (·.1)).zip cs))=ls from e2]
  rw [e,lens_cost hL (fun u hu'=>by obtain ⟨q,hq,rfl⟩:=List.mem_map.mp hu';exact (uo.us q hq).1) (by rw [List.length_map]; (first|lia|omega)) (by rw [List.length_map]; (first|lia|omega)) m1 (by rw [List.length_map];exact fit)]
  unfold pmS
  rw [List.length_map]
 have hanti:∀(i j:Nat) (x y:Int) (m n:Str),us[i]? = some (m,x)→us[j]? = some (n,y)→∀ci cj,cs[i]? = some ci→cs[j]? = some cj→(x-y)*(((ci.length:Nat):Int)-((cj.length:Nat):Int))≤0:=fun i j x y m n e1 e2 ci cj e3 e4=>by
  have l1:=(hc.len i ci e3).2
  have l2:=(hc.len j cj e4).2
  have g1:(us.map (·.2)).getD i 0=x:=by rw [List.getD_eq_getElem?_getD,List.getElem?_map,e1];rfl
  have g2:(us.map (·.2)).getD j 0=y:=by rw [List.getD_eq_getElem?_getD,List.getElem?_map,e2];rfl
  rcases Int.lt_trichotomy x y with h|h|h
  ·have:=lens_anti hL (by rw [List.length_map]; (first|lia|omega)) l2 l1 (by rw [g1,g2];exact h)
   exact Int.mul_nonpos_of_nonpos_of_nonneg (by first|lia|omega) (by first|lia|omega)
  ·rw [h,Int.sub_self,Int.zero_mul];exact Int.le_refl _
  ·have:=lens_anti hL (by rw [List.length_map]; (first|lia|omega)) l1 l2 (by rw [g1,g2];exact h)
   exact Int.mul_nonpos_of_nonneg_of_nonpos (by first|lia|omega) (by first|lia|omega)
 have bne:=ok.ne
 generalize hbk:(us.map (·.1)).zip cs=bk at *
 dsimp only
 obtain ⟨lb,bvs,rfl,hSb,hdb⟩:Ex2 fun lb bvs=>vb = .ref lb∧SqL K H7 lb bvs∧Dens K H7 (bk.map fun q => .tuple [.str q.1, .str q.2]) bvs:=by
  have h:=dB7
  unfold bookD at h
  unfold Den at h
  exact h
 have bvl:bvs.length=bk.length:=by rw [hdb.len,List.length_map]
 have entry:∀{J:Hp},Same H7 J→∀k (hk:k<bk.length),∃pa,bvs[k]? = some (.ref pa)∧SqT K J pa [.str bk[k].1, .str bk[k].2]:=fun {J} sJ k hk=>by
  obtain ⟨x,hx,dx⟩:=hdb.get (i:=k) (d := .tuple [.str bk[k].1, .str bk[k].2]) (by rw [List.getElem?_map,List.getElem?_eq_getElem hk];rfl)
  refine Elim.el (dx.pairT) _ ?_
  rintro pa rfl hT
  exact ⟨pa,hx,sJ.seqT hT⟩
 refine asgCut (te:=tComp _ _ _ _ _ _) (fun v' H'=>∃np,v' = .ref np∧New H7 np (.lst ((bk.map (·.1)).map V.str)) H') (fun Qn qn => ?_) ?_
 ·refine ⟨_,rfl,lb,rfl,⟨_,hSb⟩,?_⟩
  refine comp_goN (N:=bk.length) (fun k ys H'=>H'=H7∧ys=((bk.take k).map (·.1)).map V.str) ⟨rfl,rfl⟩ ?_ ?_
  ·rintro k ys JB Nz hk ⟨rfl,rfl⟩ nz
   refine Elim.el (entry (Same.refl _) k hk) _ ?_
   rintro pa hx hT
   refine ⟨⟨_,_,hSb,hx⟩,small23 (by rw [List.length_map,List.length_map,List.length_take,bl];exact Nat.le_trans (Nat.min_le_right _ _) (Nat.le_trans u48 (by decide))),?_⟩
   rintro x' JC ⟨rfl,hy⟩
   have e:=hy _ hSb
   rw [hx] at e;cases e
   refine ⟨pa,_,rfl,hT,rfl,_,_,rfl,_,_,rfl,rfl,_,rfl,nz _ _ ⟨rfl,?_⟩⟩
   rw [List.take_succ_eq_append_getElem hk,List.map_append,List.map_append]
   rfl
  ·rintro ys JB ⟨rfl,rfl⟩
   rw [List.take_length]
   exact ⟨⟨_,hSb,by first|lia|omega⟩,fun np JC nC=>qn _ _ ⟨np,rfl,nC⟩⟩
 intro v' H8 hz_
 refine Elim.el hz_ _ ?_
 clear hz_
 rintro np rfl n8
 refine gn ?_
 have sm78:=n8.same
 have sm68:=sm7.trans sm78
 have dB8:=dB7.same sm78
 have dU8:=dU6.same sm68
 have dk8:=dk6.same sm68
 have hlu8:=sm68 _ _ (n6.same _ _ hlu)
 have ua8:UsAt H8 b c as us:=(ur.same (n6.same.trans sm68)).2.2.2.2
 have st8:Step b c H1 H8 0 t5 (1300*i+1201):=(st5.trans (Step.same st5.bx (n6.same.trans sm68))).more (by first|lia|omega)
 have nsh:=nmSh (xs:=us.map (·.1)) fun x hx=>(nlow x hx).1
 have use:∀{J:Hp},Same H8 J→∀k (hk:k<us.length),∃pa,(as.map V.ref)[k]? = some (.ref pa)∧SqT K J pa [.str us[k].1, .int us[k].2]:=fun {J} sJ k hk=>by
  have ea:as[k]? = some (as[k]'(by first|lia|omega)):=List.getElem?_eq_getElem _
  obtain ⟨g1,_,_⟩:=ua8 k _ _ ea (List.getElem?_eq_getElem hk)
  exact ⟨_,by rw [List.getElem?_map,ea];rfl,SqT.of (sJ _ _ g1)⟩
 refine seqCut (t:=tIfS _ _ _) (fun σ H' => σ=[some (.ref a),some (.ref b),some (.int (0+i)),some (.ref lu),some (.int (most:Nat)),some (.ref lk),some (.ref lb),some (.ref np),x8,x9,x10,x11,x12]∧Same H8 H') (fun Nx nx => ?_) ?_
 ·refine ⟨_,rfl, .ref lb,bookD bk,rfl,dB8,?_,(bookSh ok).shaped (by decide),fun ds e => ?_,fun H9 sm9 => .inr ⟨_,_,rfl,rfl,_,rfl,?_⟩⟩
  ·have:=bookW (bk:=bk) fun q hq=>⟨(by rw [←hbk] at hq;exact (nlow _ (List.of_mem_zip hq).1).2.2),by have:=bcd q hq; (first|lia|omega)⟩
   have hlen:bk.length≤40:=by rw [bl];exact u48
   unfold bookD
   simp only [PyData.weight]
   (first|lia|omega)
  ·cases e
   rw [List.length_map]; (first|lia|omega)
  rw [hbt]
  refine iteF ?_
  refine ⟨_,rfl,?_⟩
  refine cutE (t:=tComp _ _ _ _ _ _) (fun v' H'=>∃p9,v' = .ref p9∧New H9 p9 (.lst ((us.map (·.1)).map V.str)) H') (fun Qn qn => ?_) ?_
  ·refine ⟨_,rfl,lu,rfl,⟨_,SqL.of (sm9 _ _ hlu8)⟩,?_⟩
   refine comp_goN (N:=us.length) (fun k ys H'=>H'=H9∧ys=((us.take k).map (·.1)).map V.str) ⟨rfl,rfl⟩ ?_ ?_
   ·rintro k ys JB Nz hk ⟨rfl,rfl⟩ nz
    refine Elim.el (use sm9 k hk) _ ?_
    rintro pa hx hT
    refine ⟨⟨_,_,SqL.of (sm9 _ _ hlu8),hx⟩,small23 (by rw [List.length_map,List.length_map,List.length_take];exact Nat.le_trans (Nat.min_le_right _ _) (Nat.le_trans u48 (by decide))),?_⟩
    rintro x' JC ⟨rfl,hy⟩
    have e:=hy _ (SqL.of (sm9 _ _ hlu8))
    rw [hx] at e;cases e
    refine ⟨pa,_,rfl,hT,rfl,_,_,rfl,_,_,rfl,rfl,_,rfl,nz _ _ ⟨rfl,?_⟩⟩
    rw [List.take_succ_eq_append_getElem hk,List.map_append,List.map_append]
    rfl
   ·rintro ys JB ⟨rfl,rfl⟩
    rw [List.take_length]
    exact ⟨⟨_,SqL.of (sm9 _ _ hlu8),by rw [List.length_map]; (first|lia|omega)⟩,fun np JC nC=>qn _ _ ⟨np,rfl,nC⟩⟩
  intro v' H10 hz_
  refine Elim.el hz_ _ ?_
  clear hz_
  rintro p10 rfl n10
  have sm10:=sm9.trans n10.same
  refine .inr ⟨.list ((us.map (·.1)).map PyData.str), .list ((us.map (·.1)).map PyData.str),Den.list (SqL.of (sm10 _ _ n8.at)) (by rw [bk1];exact Den.strs _),Den.list (SqL.of n10.at) (Den.strs _),nsh.shaped (by decide),nsh.shaped (by decide),_,rfl,?_⟩
  rw [eqv_refl _ nsh.1]
  refine iteF ?_
  refine ⟨_,rfl,_,rfl, .inr ⟨usesD us,usesD us,dU8.same sm10,dk8.same sm10,(usSh uo).shaped (by decide),(usSh uo).shaped (by decide),_,rfl,?_⟩⟩
  rw [eqv_refl _ (usSh uo).1]
  exact iteF (nx _ _ ⟨rfl,sm10⟩)
 rintro σ H9 ⟨rfl,sm9⟩
 have fr:Free (bk.map (·.2)):=by rw [bk2];exact hfree
 refine seqCut (t:=tIfS _ _ _) (fun σ H' => σ=[some (.ref a),some (.ref b),some (.int (0+i)),some (.ref lu),some (.int (most:Nat)),some (.ref lk),some (.ref lb),some (.ref np),x8,x9,x10,x11,x12]∧Same H8 H') (fun Nx nx => ?_) ?_
 ·refine ⟨_,rfl, .ref lb,bk,rfl,dB8.same sm9,by rw [bl];exact Nat.le_trans u48 (by decide),fun q hq=>Nat.le_trans (bcd q hq) (by decide),fun _ H10 sm10 => .inr ⟨_,_,rfl,rfl,_,rfl,iteF ?_⟩,fun nf=>absurd fr nf⟩
  have s710:=(sm78.trans sm9).trans sm10
  unfold tTest tOp tCB tCons
  refine cutE (t:=tComp _ _ _ _ _ _) (fun v' H'=>∃p9,v' = .ref p9∧New H10 p9 (.lst ((bk.map fun q=>((q.2.length:Nat):Int)).map V.int)) H') (fun Qn qn => ?_) ?_
  ·refine ⟨_,rfl,lb,rfl,⟨_,s710.seq hSb⟩,?_⟩
   refine comp_goN (N:=bk.length) (fun k ys H'=>H'=H10∧ys=((bk.take k).map fun q=>((q.2.length:Nat):Int)).map V.int) ⟨rfl,rfl⟩ ?_ ?_
   ·rintro k ys JB Nz hk ⟨rfl,rfl⟩ nz
    refine Elim.el (entry s710 k hk) _ ?_
    rintro pa hx hT
    refine ⟨⟨_,_,s710.seq hSb,hx⟩,small23 (by rw [List.length_map,List.length_map,List.length_take,bl];exact Nat.le_trans (Nat.min_le_right _ _) (Nat.le_trans u48 (by decide))),?_⟩
    rintro x' JC ⟨rfl,hy⟩
    have e:=hy _ (s710.seq hSb)
    rw [hx] at e;cases e
    refine ⟨pa,_,rfl,hT,rfl,_,_,rfl,_,_,rfl,rfl,_,rfl,_,_,rfl,⟨sizeOk (Nat.le_trans (bcd _ (List.getElem_mem hk)) (by decide)),rfl⟩,nz _ _ ⟨rfl,?_⟩⟩
    rw [List.take_succ_eq_append_getElem hk,List.map_append,List.map_append]
    rfl
   ·rintro ys JB ⟨rfl,rfl⟩
    rw [List.take_length]
    exact ⟨⟨_,s710.seq hSb,by first|lia|omega⟩,fun np JC nC=>qn _ _ ⟨np,rfl,nC⟩⟩
  intro v' H11 hz_
  refine Elim.el hz_ _ ?_
  clear hz_
  rintro p11 rfl n11
  refine ⟨p11,_,rfl,SqL.of n11.at,fun z=>bne (List.map_eq_nil_iff.mp z),fun M hM _=>⟨_,rfl,_,_,rfl,rfl,_,rfl,ite2 (fun z => ?_) (fun _=>nx _ _ ⟨rfl,sm9.trans (sm10.trans n11.same)⟩)⟩⟩
  have z:=of_decide_eq_true z
  refine Elim.el (List.mem_map.mp hM) _ ?_
  rintro q hq rfl
  have:=lok.1 q.2.length (by rw [←blen];exact List.mem_map.mpr ⟨q,hq,rfl⟩)
  (first|lia|omega)
 rintro σ H10 ⟨rfl,sm10⟩
 refine ⟨_,rfl, .ref lb,bk,rfl,dB8.same sm10,bne,by rw [bl];exact Nat.le_trans u48 (by decide),fun q hq=>Nat.le_trans (bcd q hq) (by decide),fun M ph H11 hM hmx sm11 _ hph=>⟨ph,_,rfl,SqT.of hph,rfl,_,_,rfl,_,_,rfl,rfl,?_⟩⟩
 have s811:=sm10.trans sm11
 have hhalf:(bk.map fun q=>(2:Int) ^ (M-q.2.length)).sum≤2 ^ M:=by
  have hM':M∈ls:=by rw [←blen];exact hM
  have:=lok.2 M hM' (fun n hn=>by rw [←blen] at hn;obtain ⟨q,hq,rfl⟩:=List.mem_map.mp hn;exact hmx q hq)
  rw [←blen,List.map_map] at this
  exact this
 generalize (bk.map fun q=>(2:Int) ^ (M-q.2.length)).sum=S at hhalf
 have hul:us.length=bk.length:=bl.symm
 have bc100:∀q∈bk,q.2.length≤100:=fun q hq=>Nat.le_trans (bcd q hq) (by decide)
 dsimp only
 refine seqCut (t:=tIfS _ _ _) (fun σ H' => σ=[some (.ref a),some (.ref b),some (.int (0+i)),some (.ref lu),some (.int (most:Nat)),some (.ref lk),some (.ref lb),some (.ref np),some (.int S),some (.int (2 ^ M)),x10,x11,x12]∧Same H8 H') (fun Nx nx => ?_) ?_
 ·refine ⟨_,rfl,_,rfl,_,_,rfl,rfl,_,rfl,ite2 (fun z => ?_) (fun _ => ?_)⟩
  ·have z:=of_decide_eq_true z
   (first|lia|omega)
  refine ⟨_,rfl,_,rfl, .ref lu, .ref lb,us,bk,rfl,dU8.same s811,dB8.same s811,hul,Nat.le_trans u48 (by decide),uo.us,bc100,fun H12 sm12 => ?_⟩
  have s812:=s811.trans sm12
  refine ⟨_,rfl,_,rfl, .ref lu,us,most,rfl,dU8.same s812,Nat.le_trans u48 (by decide),une,m1,m2,fun H13 sm13 => .inl ⟨rfl,_,rfl,?_⟩⟩
  rw [hcost,decide_eq_true rfl]
  exact iteF (nx _ _ ⟨rfl,s812.trans sm13⟩)
 rintro σ H12 ⟨rfl,sm12⟩
 have sok:=sum_ok uo (Nat.le_trans u48 (by decide)) m2
 refine seqCut (t:=tIfS _ _ _) (fun σ H' => σ=[some (.ref a),some (.ref b),some (.int (0+i)),some (.ref lu),some (.int (most:Nat)),some (.ref lk),some (.ref lb),some (.ref np),some (.int S),some (.int (2 ^ M)),x10,x11,x12]∧Same H8 H') (fun Nx nx => ?_) ?_
 ·refine ⟨_,rfl,_,rfl, .ref lu,us,most,rfl,dU8.same sm12,m1,m2,une,Nat.le_trans u48 (by decide),fit,fun H13 sm13 => ?_⟩
  have s813:=sm12.trans sm13
  refine ⟨_,rfl,_,rfl, .ref lu, .ref lb,us,bk,rfl,dU8.same s813,dB8.same s813,hul,Nat.le_trans u48 (by decide),uo.us,bc100,fun H14 sm14 => ?_⟩
  refine ⟨_,_,_,rfl,eint,by rw [hcost];exact eint,by simp [PyData.depth],sok,fun H15 sm15=>⟨_,rfl,iteF ?_⟩⟩
  exact nx _ _ ⟨rfl,(s813.trans sm14).trans sm15⟩
 rintro σ H13 ⟨rfl,sm13⟩
 have cat:∀k (hk:k<bk.length),cs[k]? = some bk[k].2:=fun k hk=>by
  have e:=congrArg (fun l:List Str=>l[k]?) bk2
  simp only [List.getElem?_map,List.getElem?_eq_getElem hk] at e
  exact e.symm
 have hlu13:=sm13 _ _ hlu8
 have hSb13:=(sm78.trans sm13).seq hSb
 have asl:(as.map V.ref).length=us.length:=by rw [List.length_map];exact al
 refine ⟨_,rfl,_,us.length,rfl, .inl ⟨_,SqL.of hlu13,asl.symm⟩,_,rfl,by first|lia|omega,by first|lia|omega,?_⟩
 refine for_range (lo:=0) (n:=((us.length:Nat):Int).toNat) (fun _ σ H'=>∃x10 x11 x12:Option V, σ=[some (.ref a),some (.ref b),some (.int (0+i)),some (.ref lu),some (.int (most:Nat)),some (.ref lk),some (.ref lb),some (.ref np),some (.int S),some (.int (2 ^ M)),x10,x11,x12]∧H'=H13) ⟨_,_,_,rfl,rfl⟩ ?_ ?_
 ·intro j σ J hj hz_
  refine Elim.el hz_ _ ?_
  clear hz_
  rintro y10 y11 y12 rfl rfl
  refine ⟨_,rfl,_,rfl,by first|lia|omega,by first|lia|omega,?_⟩
  refine for_range (lo:=0) (n:=((0:Int)+j).toNat) (fun _ σ H'=>∃x11 x12:Option V, σ=[some (.ref a),some (.ref b),some (.int (0+i)),some (.ref lu),some (.int (most:Nat)),some (.ref lk),some (.ref lb),some (.ref np),some (.int S),some (.int (2 ^ M)),some (.int (0+j)),x11,x12]∧H'=J) ⟨_,_,rfl,rfl⟩ ?_ ?_
  ·intro k σ J2 hk hz_
   refine Elim.el hz_ _ ?_
   clear hz_
   rintro y11 y12 rfl rfl
   have e0j:((0:Int)+j).toNat=j:=by rw [Int.zero_add,Int.toNat_natCast]
   have hju:j<us.length:=by rw [Int.toNat_natCast] at hj;exact hj
   have hku:k<us.length:=by rw [e0j] at hk;exact Nat.lt_trans hk hju
   have hjb:j<bk.length:=by rw [bl];exact hju
   have hkb:k<bk.length:=by rw [bl];exact hku
   refine Elim.el (use sm13 j hju) _ ?_
   rintro pj ej tj
   refine Elim.el (use sm13 k hku) _ ?_
   rintro pk ek tk
   refine Elim.el (entry (sm78.trans sm13) j hjb) _ ?_
   rintro qj fj uj
   refine Elim.el (entry (sm78.trans sm13) k hkb) _ ?_
   rintro qk fk uk
   have e0k:((0:Int)+k).toNat=k:=by rw [Int.zero_add,Int.toNat_natCast]
   have tot:=hanti j k us[j].2 us[k].2 us[j].1 us[k].1 (List.getElem?_eq_getElem hju) (List.getElem?_eq_getElem hku) (bk[j]'hjb).2 (bk[k]'hkb).2 (cat j hjb) (cat k hkb)
   have lj:=bcd _ (List.getElem_mem (l:=bk) (n:=j) hjb)
   have lk':=bcd _ (List.getElem_mem (l:=bk) (n:=k) hkb)
   refine ⟨_,rfl,_,rfl, .inl ⟨lu,_,_,_,rfl,rfl,SqL.of hlu13,at_nat (by first|lia|omega) (by rw [e0j];exact ej), .inr (.inl ⟨pj,_,1,_,rfl,rfl,tj,rfl,?_⟩)⟩⟩
   refine ⟨_,rfl,_,rfl, .inl ⟨lu,_,_,_,rfl,rfl,SqL.of hlu13,at_nat (by first|lia|omega) (by rw [e0k];exact ek), .inr (.inl ⟨pk,_,1,_,rfl,rfl,tk,rfl,_,_,rfl,rfl,gn ?_⟩)⟩⟩
   refine ⟨_,rfl,_,rfl,_,rfl, .inl ⟨lb,_,_,_,rfl,rfl,hSb13,at_nat (by first|lia|omega) (by rw [e0j];exact fj), .inr (.inl ⟨qj,_,1,_,rfl,rfl,uj,rfl,_,_,rfl,⟨sizeOk (Nat.le_trans lj (by decide)),rfl⟩,?_⟩)⟩⟩
   refine ⟨_,rfl,_,rfl, .inl ⟨lb,_,_,_,rfl,rfl,hSb13,at_nat (by first|lia|omega) (by rw [e0k];exact fk), .inr (.inl ⟨qk,_,1,_,rfl,rfl,uk,rfl,_,_,rfl,⟨sizeOk (Nat.le_trans lk' (by decide)),rfl⟩,_,_,rfl,rfl,?_⟩)⟩⟩
   refine .inl ⟨_,_,rfl,rfl, .inr ⟨by first|lia|omega,by first|lia|omega⟩,_,_,rfl,rfl,_,rfl,ite2 (fun z => ?_) (fun _=>⟨_,_,rfl,rfl⟩)⟩
   have z:=of_decide_eq_true z
   (first|lia|omega)
  ·intro σ J2 hz_
   refine Elim.el hz_ _ ?_
   clear hz_
   rintro y11 y12 rfl rfl
   exact ⟨_,_,_,rfl,rfl⟩
 ·intro σ J hz_
  refine Elim.el hz_ _ ?_
  clear hz_
  rintro y10 y11 y12 rfl rfl
  exact ⟨t5,_,_,_,_,_,_,_,_,_,_,_,rfl,(st8.trans (Step.same st8.bx sm13)).more (by first|lia|omega)⟩
end
end Z
namespace Z
open PySem L2
theorem lenZ {α:Type} {P:List α→Prop} (h:P []):∀us:List α,us.length=0→P us:=fun us e=>List.eq_nil_of_length_eq_zero e ▸ h
theorem lenS {α:Type} {P:List α→Prop} {n:Nat} (h:∀a (us:List α),us.length=n→P (a :: us)) (us:List α) (e:us.length=n+1):P us:=by
 cases us with|nil=>cases e|cons a us=>exact h a us (Nat.succ.inj e)
theorem all_mk {l:PySem.W.OpenLaw} {w:World} {K:PySem.W.Frag} {h:Heap} {mg:Str→Option Value} {fa f1 f2 f3 f4 f5 f6 f7 f8 f9 f10 f11 f12 f13 f14 f15 f16 f17 f18 f19 f20 f21 f22 f23 f24 f25 f26 f27 f28 f29 f30 f31:Addr} (X:K.In h) (G:h.Ns mainGlobals mg) (hfa:mg "law" = some (.ref fa))
  {od1 an1:Option Addr} {sl1:Array (Option Value)} {oc1 kV1 dc1 pm1 cd1 ct1:Value}
  {od2 an2:Option Addr} {sl2:Array (Option Value)} {oc2 kV2 dc2 pm2 cd2 ct2:Value}
  {od3 an3:Option Addr} {sl3:Array (Option Value)} {oc3 kV3 dc3 pm3 cd3 ct3:Value}
  {od4 an4:Option Addr} {sl4:Array (Option Value)} {oc4 kV4 dc4 pm4 cd4 ct4:Value}
  {od5 an5:Option Addr} {sl5:Array (Option Value)} {oc5 kV5 dc5 pm5 cd5 ct5:Value}
  {od6 an6:Option Addr} {sl6:Array (Option Value)} {oc6 kV6 dc6 pm6 cd6 ct6:Value}
  {od7 an7:Option Addr} {sl7:Array (Option Value)} {oc7 kV7 dc7 pm7 cd7 ct7:Value}
  {od8 an8:Option Addr} {sl8:Array (Option Value)} {oc8 kV8 dc8 pm8 cd8 ct8:Value}
  {od9 an9:Option Addr} {sl9:Array (Option Value)} {oc9 kV9 dc9 pm9 cd9 ct9:Value}
  {od10 an10:Option Addr} {sl10:Array (Option Value)} {oc10 kV10 dc10 pm10 cd10 ct10:Value}
  {od11 an11:Option Addr} {sl11:Array (Option Value)} {oc11 kV11 dc11 pm11 cd11 ct11:Value}
  {od12 an12:Option Addr} {sl12:Array (Option Value)} {oc12 kV12 dc12 pm12 cd12 ct12:Value}
  {od13 an13:Option Addr} {sl13:Array (Option Value)} {oc13 kV13 dc13 pm13 cd13 ct13:Value}
  {od14 an14:Option Addr} {sl14:Array (Option Value)} {oc14 kV14 dc14 pm14 cd14 ct14:Value}
  {od15 an15:Option Addr} {sl15:Array (Option Value)} {oc15 kV15 dc15 pm15 cd15 ct15:Value}
  {od16 an16:Option Addr} {sl16:Array (Option Value)} {oc16 kV16 dc16 pm16 cd16 ct16:Value}
  {od17 an17:Option Addr} {sl17:Array (Option Value)} {oc17 kV17 dc17 pm17 cd17 ct17:Value}
  {od18 an18:Option Addr} {sl18:Array (Option Value)} {oc18 kV18 dc18 pm18 cd18 ct18:Value}
  {od19 an19:Option Addr} {sl19:Array (Option Value)} {oc19 kV19 dc19 pm19 cd19 ct19:Value}
  {od20 an20:Option Addr} {sl20:Array (Option Value)} {oc20 kV20 dc20 pm20 cd20 ct20:Value}
  {od21 an21:Option Addr} {sl21:Array (Option Value)} {oc21 kV21 dc21 pm21 cd21 ct21:Value}
  {od22 an22:Option Addr} {sl22:Array (Option Value)} {oc22 kV22 dc22 pm22 cd22 ct22:Value}
  {od23 an23:Option Addr} {sl23:Array (Option Value)} {oc23 kV23 dc23 pm23 cd23 ct23:Value}
  {od24 an24:Option Addr} {sl24:Array (Option Value)} {oc24 kV24 dc24 pm24 cd24 ct24:Value}
  {od25 an25:Option Addr} {sl25:Array (Option Value)} {oc25 kV25 dc25 pm25 cd25 ct25:Value}
  {od26 an26:Option Addr} {sl26:Array (Option Value)} {oc26 kV26 dc26 pm26 cd26 ct26:Value}
  {od27 an27:Option Addr} {sl27:Array (Option Value)} {oc27 kV27 dc27 pm27 cd27 ct27:Value}
  {od28 an28:Option Addr} {sl28:Array (Option Value)} {oc28 kV28 dc28 pm28 cd28 ct28:Value}
  {od29 an29:Option Addr} {sl29:Array (Option Value)} {oc29 kV29 dc29 pm29 cd29 ct29:Value}
  {od30 an30:Option Addr} {sl30:Array (Option Value)} {oc30 kV30 dc30 pm30 cd30 ct30:Value}
  {od31 an31:Option Addr} {sl31:Array (Option Value)} {oc31 kV31 dc31 pm31 cd31 ct31:Value}
  {tkc0:Tok}
  {tkc1:Tok}
  {tkc2:Tok}
  (a1:PySem.W.nsIn K mainGlobals "made_of" = some (some (.ref f1))) (l1:K.lookup f1=some ⟨oc1,od1, .func (PySem.W.fnOf "made_of" "made_of" (defArgs (top i_made_of)) (defBody (top i_made_of)) (defScope (top i_made_of)) .none kV1 dc1 pm1 an1 cd1 ct1),sl1⟩) (c1:PySem.W.codeIn K cd1 "made_of" = true) (k1:PySem.W.keepIn K (.ref f1)=true)
  (a2:PySem.W.nsIn K mainGlobals "is_name" = some (some (.ref f2))) (l2:K.lookup f2=some ⟨oc2,od2, .func (PySem.W.fnOf "is_name" "is_name" (defArgs (top i_is_name)) (defBody (top i_is_name)) (defScope (top i_is_name)) .none kV2 dc2 pm2 an2 cd2 ct2),sl2⟩) (c2:PySem.W.codeIn K cd2 "is_name" = true) (k2:PySem.W.keepIn K (.ref f2)=true)
  (a3:PySem.W.nsIn K mainGlobals "is_code" = some (some (.ref f3))) (l3:K.lookup f3=some ⟨oc3,od3, .func (PySem.W.fnOf "is_code" "is_code" (defArgs (top i_is_code)) (defBody (top i_is_code)) (defScope (top i_is_code)) .none kV3 dc3 pm3 an3 cd3 ct3),sl3⟩) (c3:PySem.W.codeIn K cd3 "is_code" = true) (k3:PySem.W.keepIn K (.ref f3)=true)
  (a4:PySem.W.nsIn K mainGlobals "is_entry" = some (some (.ref f4))) (l4:K.lookup f4=some ⟨oc4,od4, .func (PySem.W.fnOf "is_entry" "is_entry" (defArgs (top i_is_entry)) (defBody (top i_is_entry)) (defScope (top i_is_entry)) .none kV4 dc4 pm4 an4 cd4 ct4),sl4⟩) (c4:PySem.W.codeIn K cd4 "is_entry" = true) (k4:PySem.W.keepIn K (.ref f4)=true)
  (a5:PySem.W.nsIn K mainGlobals "is_book" = some (some (.ref f5))) (l5:K.lookup f5=some ⟨oc5,od5, .func (PySem.W.fnOf "is_book" "is_book" (defArgs (top i_is_book)) (defBody (top i_is_book)) (defScope (top i_is_book)) .none kV5 dc5 pm5 an5 cd5 ct5),sl5⟩) (c5:PySem.W.codeIn K cd5 "is_book" = true) (k5:PySem.W.keepIn K (.ref f5)=true)
  (a6:PySem.W.nsIn K mainGlobals "two_to" = some (some (.ref f6))) (l6:K.lookup f6=some ⟨oc6,od6, .func (PySem.W.fnOf "two_to" "two_to" (defArgs (top i_two_to)) (defBody (top i_two_to)) (defScope (top i_two_to)) .none kV6 dc6 pm6 an6 cd6 ct6),sl6⟩) (c6:PySem.W.codeIn K cd6 "two_to" = true) (k6:PySem.W.keepIn K (.ref f6)=true)
  (a7:PySem.W.nsIn K mainGlobals "figures_of" = some (some (.ref f7))) (l7:K.lookup f7=some ⟨oc7,od7, .func (PySem.W.fnOf "figures_of" "figures_of" (defArgs (top i_figures_of)) (defBody (top i_figures_of)) (defScope (top i_figures_of)) .none kV7 dc7 pm7 an7 cd7 ct7),sl7⟩) (c7:PySem.W.codeIn K cd7 "figures_of" = true) (k7:PySem.W.keepIn K (.ref f7)=true)
  (a8:PySem.W.nsIn K mainGlobals "rest_of" = some (some (.ref f8))) (l8:K.lookup f8=some ⟨oc8,od8, .func (PySem.W.fnOf "rest_of" "rest_of" (defArgs (top i_rest_of)) (defBody (top i_rest_of)) (defScope (top i_rest_of)) .none kV8 dc8 pm8 an8 cd8 ct8),sl8⟩) (c8:PySem.W.codeIn K cd8 "rest_of" = true) (k8:PySem.W.keepIn K (.ref f8)=true)
  (a9:PySem.W.nsIn K mainGlobals "clash" = some (some (.ref f9))) (l9:K.lookup f9=some ⟨oc9,od9, .func (PySem.W.fnOf "clash" "clash" (defArgs (top i_clash)) (defBody (top i_clash)) (defScope (top i_clash)) .none kV9 dc9 pm9 an9 cd9 ct9),sl9⟩) (c9:PySem.W.codeIn K cd9 "clash" = true) (k9:PySem.W.keepIn K (.ref f9)=true)
  (a10:PySem.W.nsIn K mainGlobals "free" = some (some (.ref f10))) (l10:K.lookup f10=some ⟨oc10,od10, .func (PySem.W.fnOf "free" "free" (defArgs (top i_free)) (defBody (top i_free)) (defScope (top i_free)) .none kV10 dc10 pm10 an10 cd10 ct10),sl10⟩) (c10:PySem.W.codeIn K cd10 "free" = true) (k10:PySem.W.keepIn K (.ref f10)=true)
  (a11:PySem.W.nsIn K mainGlobals "next_layer" = some (some (.ref f11))) (l11:K.lookup f11=some ⟨oc11,od11, .func (PySem.W.fnOf "next_layer" "next_layer" (defArgs (top i_next_layer)) (defBody (top i_next_layer)) (defScope (top i_next_layer)) .none kV11 dc11 pm11 an11 cd11 ct11),sl11⟩) (c11:PySem.W.codeIn K cd11 "next_layer" = true) (k11:PySem.W.keepIn K (.ref f11)=true)
  (a12:PySem.W.nsIn K mainGlobals "sum_by" = some (some (.ref f12))) (l12:K.lookup f12=some ⟨oc12,od12, .func (PySem.W.fnOf "sum_by" "sum_by" (defArgs (top i_sum_by)) (defBody (top i_sum_by)) (defScope (top i_sum_by)) .none kV12 dc12 pm12 an12 cd12 ct12),sl12⟩) (c12:PySem.W.codeIn K cd12 "sum_by" = true) (k12:PySem.W.keepIn K (.ref f12)=true)
  (a13:PySem.W.nsIn K mainGlobals "halves_by" = some (some (.ref f13))) (l13:K.lookup f13=some ⟨oc13,od13, .func (PySem.W.fnOf "halves_by" "halves_by" (defArgs (top i_halves_by)) (defBody (top i_halves_by)) (defScope (top i_halves_by)) .none kV13 dc13 pm13 an13 cd13 ct13),sl13⟩) (c13:PySem.W.codeIn K cd13 "halves_by" = true) (k13:PySem.W.keepIn K (.ref f13)=true)
  (a14:PySem.W.nsIn K mainGlobals "halves" = some (some (.ref f14))) (l14:K.lookup f14=some ⟨oc14,od14, .func (PySem.W.fnOf "halves" "halves" (defArgs (top i_halves)) (defBody (top i_halves)) (defScope (top i_halves)) .none kV14 dc14 pm14 an14 cd14 ct14),sl14⟩) (c14:PySem.W.codeIn K cd14 "halves" = true) (k14:PySem.W.keepIn K (.ref f14)=true)
  (a15:PySem.W.nsIn K mainGlobals "least_codes" = some (some (.ref f15))) (l15:K.lookup f15=some ⟨oc15,od15, .func (PySem.W.fnOf "least_codes" "least_codes" (defArgs (top i_least_codes)) (defBody (top i_least_codes)) (defScope (top i_least_codes)) .none kV15 dc15 pm15 an15 cd15 ct15),sl15⟩) (c15:PySem.W.codeIn K cd15 "least_codes" = true) (k15:PySem.W.keepIn K (.ref f15)=true)
  (a16:PySem.W.nsIn K mainGlobals "codes_by" = some (some (.ref f16))) (l16:K.lookup f16=some ⟨oc16,od16, .func (PySem.W.fnOf "codes_by" "codes_by" (defArgs (top i_codes_by)) (defBody (top i_codes_by)) (defScope (top i_codes_by)) .none kV16 dc16 pm16 an16 cd16 ct16),sl16⟩) (c16:PySem.W.codeIn K cd16 "codes_by" = true) (k16:PySem.W.keepIn K (.ref f16)=true)
  (a17:PySem.W.nsIn K mainGlobals "layers_of" = some (some (.ref f17))) (l17:K.lookup f17=some ⟨oc17,od17, .func (PySem.W.fnOf "layers_of" "layers_of" (defArgs (top i_layers_of)) (defBody (top i_layers_of)) (defScope (top i_layers_of)) .none kV17 dc17 pm17 an17 cd17 ct17),sl17⟩) (c17:PySem.W.codeIn K cd17 "layers_of" = true) (k17:PySem.W.keepIn K (.ref f17)=true)
  (a18:PySem.W.nsIn K mainGlobals "least_sum" = some (some (.ref f18))) (l18:K.lookup f18=some ⟨oc18,od18, .func (PySem.W.fnOf "least_sum" "least_sum" (defArgs (top i_least_sum)) (defBody (top i_least_sum)) (defScope (top i_least_sum)) .none kV18 dc18 pm18 an18 cd18 ct18),sl18⟩) (c18:PySem.W.codeIn K cd18 "least_sum" = true) (k18:PySem.W.keepIn K (.ref f18)=true)
  (a19:PySem.W.nsIn K mainGlobals "uses_among" = some (some (.ref f19))) (l19:K.lookup f19=some ⟨oc19,od19, .func (PySem.W.fnOf "uses_among" "uses_among" (defArgs (top i_uses_among)) (defBody (top i_uses_among)) (defScope (top i_uses_among)) .none kV19 dc19 pm19 an19 cd19 ct19),sl19⟩) (c19:PySem.W.codeIn K cd19 "uses_among" = true) (k19:PySem.W.keepIn K (.ref f19)=true)
  (a20:PySem.W.nsIn K mainGlobals "lengths_by" = some (some (.ref f20))) (l20:K.lookup f20=some ⟨oc20,od20, .func (PySem.W.fnOf "lengths_by" "lengths_by" (defArgs (top i_lengths_by)) (defBody (top i_lengths_by)) (defScope (top i_lengths_by)) .none kV20 dc20 pm20 an20 cd20 ct20),sl20⟩) (c20:PySem.W.codeIn K cd20 "lengths_by" = true) (k20:PySem.W.keepIn K (.ref f20)=true)
  (a21:PySem.W.nsIn K mainGlobals "least_book" = some (some (.ref f21))) (l21:K.lookup f21=some ⟨oc21,od21, .func (PySem.W.fnOf "least_book" "least_book" (defArgs (top i_least_book)) (defBody (top i_least_book)) (defScope (top i_least_book)) .none kV21 dc21 pm21 an21 cd21 ct21),sl21⟩) (c21:PySem.W.codeIn K cd21 "least_book" = true) (k21:PySem.W.keepIn K (.ref f21)=true)
  (a22:PySem.W.nsIn K mainGlobals "_law_begin" = some (some (.ref f22))) (l22:K.lookup f22=some ⟨oc22,od22, .func (PySem.W.fnOf "_law_begin" "_law_begin" (defArgs (top i_law_begin)) (defBody (top i_law_begin)) (defScope (top i_law_begin)) .none kV22 dc22 pm22 an22 cd22 ct22),sl22⟩) (c22:PySem.W.codeIn K cd22 "_law_begin" = true) (k22:PySem.W.keepIn K (.ref f22)=true)
  (a23:PySem.W.nsIn K mainGlobals "_law_take" = some (some (.ref f23))) (l23:K.lookup f23=some ⟨oc23,od23, .func (PySem.W.fnOf "_law_take" "_law_take" (defArgs (top i_law_take)) (defBody (top i_law_take)) (defScope (top i_law_take)) .none kV23 dc23 pm23 an23 cd23 ct23),sl23⟩) (c23:PySem.W.codeIn K cd23 "_law_take" = true) (k23:PySem.W.keepIn K (.ref f23)=true)
  (a24:PySem.W.nsIn K mainGlobals "_law_same" = some (some (.ref f24))) (l24:K.lookup f24=some ⟨oc24,od24, .func (PySem.W.fnOf "_law_same" "_law_same" (defArgs (top i_law_same)) (defBody (top i_law_same)) (defScope (top i_law_same)) .none kV24 dc24 pm24 an24 cd24 ct24),sl24⟩) (c24:PySem.W.codeIn K cd24 "_law_same" = true) (k24:PySem.W.keepIn K (.ref f24)=true)
  (a25:PySem.W.nsIn K mainGlobals "_law_names" = some (some (.ref f25))) (l25:K.lookup f25=some ⟨oc25,od25, .func (PySem.W.fnOf "_law_names" "_law_names" (defArgs (top i_law_names)) (defBody (top i_law_names)) (defScope (top i_law_names)) .none kV25 dc25 pm25 an25 cd25 ct25),sl25⟩) (c25:PySem.W.codeIn K cd25 "_law_names" = true) (k25:PySem.W.keepIn K (.ref f25)=true)
  (a26:PySem.W.nsIn K mainGlobals "_law_uses" = some (some (.ref f26))) (l26:K.lookup f26=some ⟨oc26,od26, .func (PySem.W.fnOf "_law_uses" "_law_uses" (defArgs (top i_law_uses)) (defBody (top i_law_uses)) (defScope (top i_law_uses)) .none kV26 dc26 pm26 an26 cd26 ct26),sl26⟩) (c26:PySem.W.codeIn K cd26 "_law_uses" = true) (k26:PySem.W.keepIn K (.ref f26)=true)
  (a27:PySem.W.nsIn K mainGlobals "_law_case" = some (some (.ref f27))) (l27:K.lookup f27=some ⟨oc27,od27, .func (PySem.W.fnOf "_law_case" "_law_case" (defArgs (top i_law_case)) (defBody (top i_law_case)) (defScope (top i_law_case)) .none kV27 dc27 pm27 an27 cd27 ct27),sl27⟩) (c27:PySem.W.codeIn K cd27 "_law_case" = true) (k27:PySem.W.keepIn K (.ref f27)=true)
  (a28:PySem.W.nsIn K mainGlobals "_law_layers" = some (some (.ref f28))) (l28:K.lookup f28=some ⟨oc28,od28, .func (PySem.W.fnOf "_law_layers" "_law_layers" (defArgs (top i_law_layers)) (defBody (top i_law_layers)) (defScope (top i_law_layers)) .none kV28 dc28 pm28 an28 cd28 ct28),sl28⟩) (c28:PySem.W.codeIn K cd28 "_law_layers" = true) (k28:PySem.W.keepIn K (.ref f28)=true)
  (a29:PySem.W.nsIn K mainGlobals "_law_least" = some (some (.ref f29))) (l29:K.lookup f29=some ⟨oc29,od29, .func (PySem.W.fnOf "_law_least" "_law_least" (defArgs (top i_law_least)) (defBody (top i_law_least)) (defScope (top i_law_least)) .none kV29 dc29 pm29 an29 cd29 ct29),sl29⟩) (c29:PySem.W.codeIn K cd29 "_law_least" = true) (k29:PySem.W.keepIn K (.ref f29)=true)
  (a30:PySem.W.nsIn K mainGlobals "_law_sum" = some (some (.ref f30))) (l30:K.lookup f30=some ⟨oc30,od30, .func (PySem.W.fnOf "_law_sum" "_law_sum" (defArgs (top i_law_sum)) (defBody (top i_law_sum)) (defScope (top i_law_sum)) .none kV30 dc30 pm30 an30 cd30 ct30),sl30⟩) (c30:PySem.W.codeIn K cd30 "_law_sum" = true) (k30:PySem.W.keepIn K (.ref f30)=true)
  (a31:PySem.W.nsIn K mainGlobals "law" = some (some (.ref f31))) (l31:K.lookup f31=some ⟨oc31,od31, .func (PySem.W.fnOf "law" "law" (defArgs (top i_law)) (defBody (top i_law)) (defScope (top i_law)) .none kV31 dc31 pm31 an31 cd31 ct31),sl31⟩) (c31:PySem.W.codeIn K cd31 "law" = true) (k31:PySem.W.keepIn K (.ref f31)=true)
  (vc0:PySem.W.nsIn K mainGlobals "LONGEST_NAME" = some (some (.int 8 tkc0)))
  (vc1:PySem.W.nsIn K mainGlobals "SMALL_LETTERS" = some (some (.str "abcdefghijklmnopqrstuvwxyz" tkc1)))
  (vc2:PySem.W.nsIn K mainGlobals "SIGNS" = some (some (.str "01" tkc2)))
  (y0:PySem.W.nsIn K mainGlobals "sorted" = some none)
  (y1:PySem.W.nsIn K mainGlobals "reversed" = some none)
  (z0:PySem.W.nsIn K mainGlobals "len" = some none) (z1:PySem.W.nsIn K mainGlobals "range" = some none) (z2:PySem.W.nsIn K mainGlobals "max" = some none) (z3:PySem.W.nsIn K mainGlobals "min" = some none) (z4:PySem.W.nsIn K mainGlobals "sum" = some none) (z5:PySem.W.nsIn K mainGlobals "all" = some none) (z6:PySem.W.nsIn K mainGlobals "any" = some none) (z7:PySem.W.nsIn K mainGlobals "list" = some none) (z8:PySem.W.nsIn K mainGlobals "tuple" = some none) (z9:PySem.W.nsIn K mainGlobals "int" = some none) (z10:PySem.W.nsIn K mainGlobals "str" = some none) (z11:PySem.W.nsIn K mainGlobals "bool" = some none) (z12:PySem.W.nsIn K mainGlobals "zip" = some none) (z13:PySem.W.nsIn K mainGlobals "enumerate" = some none) (z14:PySem.W.nsIn K mainGlobals "isinstance" = some none) (z15:PySem.W.nsIn K mainGlobals "divmod" = some none) :
  ∃fd:FuncData,(∀(s:Shared) (v:Value),BindsTo s fd ⟨[v],[]⟩ [("_law_script",v)])∧∀base:Heap,K.In base→base.Ns mainGlobals mg→FnOk l.prog w K mg base CX0 5 fa fd ["_law_script"] (spLaw K):=by
 have e:=hfa.symm.trans (PySem.W.mg_of X G a31)
 cases e
 have T:Nm mg:=⟨PySem.W.mg_none_of X G z0,PySem.W.mg_none_of X G z1,PySem.W.mg_none_of X G z2,PySem.W.mg_none_of X G z3,PySem.W.mg_none_of X G z4,PySem.W.mg_none_of X G z5,PySem.W.mg_none_of X G z6,PySem.W.mg_none_of X G z7,PySem.W.mg_none_of X G z8,PySem.W.mg_none_of X G z9,PySem.W.mg_none_of X G z10,PySem.W.mg_none_of X G z11,PySem.W.mg_none_of X G z12,PySem.W.mg_none_of X G z13,PySem.W.mg_none_of X G z14,PySem.W.mg_none_of X G z15⟩
 have n_sorted:=PySem.W.mg_none_of X G y0
 have n_reversed:=PySem.W.mg_none_of X G y1
 have v_LONGEST_NAME:=PySem.W.mg_of X G vc0
 have v_SMALL_LETTERS:=PySem.W.mg_of X G vc1
 have v_SIGNS:=PySem.W.mg_of X G vc2
 have F1:=fun_mk (st:=top i_made_of) l1 c1 k1
 have b1:=F1.binds (ps:=["text", "signs"]) fun _ _ _ _ _ _=>lenS fun _=>lenS fun _=>lenZ rfl
 have F2:=fun_mk (st:=top i_is_name) l2 c2 k2
 have b2:=F2.binds (ps:=["thing"]) fun _ _ _ _ _ _=>lenS fun _=>lenZ rfl
 have F3:=fun_mk (st:=top i_is_code) l3 c3 k3
 have b3:=F3.binds (ps:=["thing"]) fun _ _ _ _ _ _=>lenS fun _=>lenZ rfl
 have F4:=fun_mk (st:=top i_is_entry) l4 c4 k4
 have b4:=F4.binds (ps:=["thing"]) fun _ _ _ _ _ _=>lenS fun _=>lenZ rfl
 have F5:=fun_mk (st:=top i_is_book) l5 c5 k5
 have b5:=F5.binds (ps:=["thing"]) fun _ _ _ _ _ _=>lenS fun _=>lenZ rfl
 have F6:=fun_mk (st:=top i_two_to) l6 c6 k6
 have b6:=F6.binds (ps:=["power"]) fun _ _ _ _ _ _=>lenS fun _=>lenZ rfl
 have F7:=fun_mk (st:=top i_figures_of) l7 c7 k7
 have b7:=F7.binds (ps:=["number", "many"]) fun _ _ _ _ _ _=>lenS fun _=>lenS fun _=>lenZ rfl
 have F8:=fun_mk (st:=top i_rest_of) l8 c8 k8
 have b8:=F8.binds (ps:=["one", "other"]) fun _ _ _ _ _ _=>lenS fun _=>lenS fun _=>lenZ rfl
 have F9:=fun_mk (st:=top i_clash) l9 c9 k9
 have b9:=F9.binds (ps:=["book"]) fun _ _ _ _ _ _=>lenS fun _=>lenZ rfl
 have F10:=fun_mk (st:=top i_free) l10 c10 k10
 have b10:=F10.binds (ps:=["book"]) fun _ _ _ _ _ _=>lenS fun _=>lenZ rfl
 have F11:=fun_mk (st:=top i_next_layer) l11 c11 k11
 have b11:=F11.binds (ps:=["rising", "layer"]) fun _ _ _ _ _ _=>lenS fun _=>lenS fun _=>lenZ rfl
 have F12:=fun_mk (st:=top i_sum_by) l12 c12 k12
 have b12:=F12.binds (ps:=["last_layer", "many"]) fun _ _ _ _ _ _=>lenS fun _=>lenS fun _=>lenZ rfl
 have F13:=fun_mk (st:=top i_halves_by) l13 c13 k13
 have b13:=F13.binds (ps:=["lengths"]) fun _ _ _ _ _ _=>lenS fun _=>lenZ rfl
 have F14:=fun_mk (st:=top i_halves) l14 c14 k14
 have b14:=F14.binds (ps:=["book"]) fun _ _ _ _ _ _=>lenS fun _=>lenZ rfl
 have F15:=fun_mk (st:=top i_least_codes) l15 c15 k15
 have b15:=F15.binds (ps:=["lengths"]) fun _ _ _ _ _ _=>lenS fun _=>lenZ rfl
 have F16:=fun_mk (st:=top i_codes_by) l16 c16 k16
 have b16:=F16.binds (ps:=["lengths"]) fun _ _ _ _ _ _=>lenS fun _=>lenZ rfl
 have F17:=fun_mk (st:=top i_layers_of) l17 c17 k17
 have b17:=F17.binds (ps:=["uses", "most"]) fun _ _ _ _ _ _=>lenS fun _=>lenS fun _=>lenZ rfl
 have F18:=fun_mk (st:=top i_least_sum) l18 c18 k18
 have b18:=F18.binds (ps:=["uses", "most"]) fun _ _ _ _ _ _=>lenS fun _=>lenS fun _=>lenZ rfl
 have F19:=fun_mk (st:=top i_uses_among) l19 c19 k19
 have b19:=F19.binds (ps:=["rising", "layer", "taken"]) fun _ _ _ _ _ _=>lenS fun _=>lenS fun _=>lenS fun _=>lenZ rfl
 have F20:=fun_mk (st:=top i_lengths_by) l20 c20 k20
 have b20:=F20.binds (ps:=["rising", "layers"]) fun _ _ _ _ _ _=>lenS fun _=>lenS fun _=>lenZ rfl
 have F21:=fun_mk (st:=top i_least_book) l21 c21 k21
 have b21:=F21.binds (ps:=["uses", "most"]) fun _ _ _ _ _ _=>lenS fun _=>lenS fun _=>lenZ rfl
 have F22:=fun_mk (st:=top i_law_begin) l22 c22 k22
 have b22:=F22.binds (ps:=["_law_script"]) fun _ _ _ _ _ _=>lenS fun _=>lenZ rfl
 have F23:=fun_mk (st:=top i_law_take) l23 c23 k23
 have b23:=F23.binds (ps:=["_law_box", "_law_many"]) fun _ _ _ _ _ _=>lenS fun _=>lenS fun _=>lenZ rfl
 have F24:=fun_mk (st:=top i_law_same) l24 c24 k24
 have b24:=F24.binds (ps:=["_law_found", "_law_due"]) fun _ _ _ _ _ _=>lenS fun _=>lenS fun _=>lenZ rfl
 have F25:=fun_mk (st:=top i_law_names) l25 c25 k25
 have b25:=F25.binds (ps:=["_law_box", "_law_many"]) fun _ _ _ _ _ _=>lenS fun _=>lenS fun _=>lenZ rfl
 have F26:=fun_mk (st:=top i_law_uses) l26 c26 k26
 have b26:=F26.binds (ps:=["_law_box", "_law_many"]) fun _ _ _ _ _ _=>lenS fun _=>lenS fun _=>lenZ rfl
 have F27:=fun_mk (st:=top i_law_case) l27 c27 k27
 have b27:=F27.binds (ps:=["_law_box", "_law_few", "_law_great"]) fun _ _ _ _ _ _=>lenS fun _=>lenS fun _=>lenS fun _=>lenZ rfl
 have F28:=fun_mk (st:=top i_law_layers) l28 c28 k28
 have b28:=F28.binds (ps:=["_law_uses_here", "_law_most"]) fun _ _ _ _ _ _=>lenS fun _=>lenS fun _=>lenZ rfl
 have F29:=fun_mk (st:=top i_law_least) l29 c29 k29
 have b29:=F29.binds (ps:=["_law_uses_here", "_law_most"]) fun _ _ _ _ _ _=>lenS fun _=>lenS fun _=>lenZ rfl
 have F30:=fun_mk (st:=top i_law_sum) l30 c30 k30
 have b30:=F30.binds (ps:=["_law_uses_here", "_law_book"]) fun _ _ _ _ _ _=>lenS fun _=>lenS fun _=>lenZ rfl
 have F31:=fun_mk (st:=top i_law) l31 c31 k31
 refine ⟨PySem.W.fnOf "law" "law" (defArgs (top i_law)) (defBody (top i_law)) (defScope (top i_law)) .none kV31 dc31 pm31 an31 cd31 ct31,fun s v => .of_eq rfl,fun base hB hG => ?_⟩
 have fMade:Fn l.prog w K mg base 1 "made_of" ["text", "signs"] (spMade):=⟨f1,_,ok_made F1 T,b1,k1,PySem.W.mg_of X G a1⟩
 have fIsN:Fn l.prog w K mg base 2 "is_name" ["thing"] (spAsk K isNameD):=⟨f2,_,ok_isname F2 T v_LONGEST_NAME v_SMALL_LETTERS fMade,b2,k2,PySem.W.mg_of X G a2⟩
 have fIsC:Fn l.prog w K mg base 2 "is_code" ["thing"] (spAsk K isCodeD):=⟨f3,_,ok_iscode F3 T v_SIGNS fMade,b3,k3,PySem.W.mg_of X G a3⟩
 have fIsE:Fn l.prog w K mg base 3 "is_entry" ["thing"] (spAsk K isEntryD):=⟨f4,_,ok_isentry F4 T fIsN fIsC,b4,k4,PySem.W.mg_of X G a4⟩
 have fIsB:Fn l.prog w K mg base 4 "is_book" ["thing"] (spIsBook K):=⟨f5,_,ok_isbook F5 T fIsE,b5,k5,PySem.W.mg_of X G a5⟩
 have fTwo:Fn l.prog w K mg base 1 "two_to" ["power"] (spTwo):=⟨f6,_,ok_two F6 T,b6,k6,PySem.W.mg_of X G a6⟩
 have fFig:Fn l.prog w K mg base 1 "figures_of" ["number", "many"] (spFig):=⟨f7,_,ok_fig F7 T,b7,k7,PySem.W.mg_of X G a7⟩
 have fRest:Fn l.prog w K mg base 1 "rest_of" ["one", "other"] (spRest):=⟨f8,_,ok_rest F8 T,b8,k8,PySem.W.mg_of X G a8⟩
 have fCl:Fn l.prog w K mg base 2 "clash" ["book"] (spClash K):=⟨f9,_,ok_cl F9 T fRest,b9,k9,PySem.W.mg_of X G a9⟩
 have fFr:Fn l.prog w K mg base 3 "free" ["book"] (spFree K):=⟨f10,_,ok_free F10 T fCl,b10,k10,PySem.W.mg_of X G a10⟩
 have fNl:Fn l.prog w K mg base 1 "next_layer" ["rising", "layer"] (spNl K):=⟨f11,_,ok_nl F11 T n_sorted,b11,k11,PySem.W.mg_of X G a11⟩
 have fSb:Fn l.prog w K mg base 1 "sum_by" ["last_layer", "many"] (spSb K):=⟨f12,_,ok_sb F12 T,b12,k12,PySem.W.mg_of X G a12⟩
 have fHb:Fn l.prog w K mg base 2 "halves_by" ["lengths"] (spHalvesBy K):=⟨f13,_,ok_hb F13 T fTwo,b13,k13,PySem.W.mg_of X G a13⟩
 have fHv:Fn l.prog w K mg base 3 "halves" ["book"] (spHalves K):=⟨f14,_,ok_hv F14 T fHb,b14,k14,PySem.W.mg_of X G a14⟩
 have fLc:Fn l.prog w K mg base 2 "least_codes" ["lengths"] (spLC K LcR):=⟨f15,_,ok_lc F15 T n_sorted fTwo fFig,b15,k15,PySem.W.mg_of X G a15⟩
 have fCBf:Fn l.prog w K mg base 3 "codes_by" ["lengths"] (spCBf K):=⟨f16,_,ok_cby F16 T (fun _ _ h=>h.1) fHb fLc,b16,k16,PySem.W.mg_of X G a16⟩
 have fLy:Fn l.prog w K mg base 2 "layers_of" ["uses", "most"] (spLyF K):=⟨f17,_,ok_lyf F17 T n_sorted fTwo fNl,b17,k17,PySem.W.mg_of X G a17⟩
 have fLsF:Fn l.prog w K mg base 3 "least_sum" ["uses", "most"] (spLsF K):=⟨f18,_,ok_lsf F18 T fLy fSb,b18,k18,PySem.W.mg_of X G a18⟩
 have fUa:Fn l.prog w K mg base 1 "uses_among" ["rising", "layer", "taken"] (spUa K):=⟨f19,_,ok_ua F19 T,b19,k19,PySem.W.mg_of X G a19⟩
 have fLnb:Fn l.prog w K mg base 2 "lengths_by" ["rising", "layers"] (spLnb K):=⟨f20,_,ok_lnb F20 T n_reversed fUa,b20,k20,PySem.W.mg_of X G a20⟩
 have fLb:Fn l.prog w K mg base 4 "least_book" ["uses", "most"] (spLbF K):=⟨f21,_,ok_lbf F21 T n_sorted fLy fLnb fCBf,b21,k21,PySem.W.mg_of X G a21⟩
 have fLbB:Fn l.prog w K mg base 4 "least_book" ["uses", "most"] (spLbB K):=Fn.imp fLb (fun _ _ _ _ h=>spLbB_of h)
 have fBegin:Fn l.prog w K mg base 1 "_law_begin" ["_law_script"] (spBegin K):=⟨f22,_,ok_begin F22 T,b22,k22,PySem.W.mg_of X G a22⟩
 have fTake:Fn l.prog w K mg base 1 "_law_take" ["_law_box", "_law_many"] (spTake):=⟨f23,_,ok_take F23 T,b23,k23,PySem.W.mg_of X G a23⟩
 have fTk:Fn l.prog w K mg base 1 "_law_take" ["_law_box", "_law_many"] (spTk):=Fn.imp fTake (fun _ _ _ _ h=>spTk_of h)
 have fSame:∀n:Nat,Fn l.prog w K mg base (n+0) "_law_same" ["_law_found", "_law_due"] (spSame K n):=fun n=>by
  induction n with
  | zero=>exact ⟨f24,_,⟨fun vs H Q E h=>absurd h (by rintro ⟨_,_,_,_,_,_,z,_⟩;exact absurd z (Nat.not_lt_zero _)),fun A outer s H args us vs Q E _ _ _ _ h=>absurd h (by rintro ⟨_,_,_,_,_,_,z,_⟩;exact absurd z (Nat.not_lt_zero _))⟩,b24,k24,PySem.W.mg_of X G a24⟩
  | succ n ih=>exact ⟨f24,_,ok_same F24 T ih,b24,k24,PySem.W.mg_of X G a24⟩
 have fNames:Fn l.prog w K mg base 2 "_law_names" ["_law_box", "_law_many"] (spNm23):=⟨f25,_,ok_nm23 F25 T fTk,b25,k25,PySem.W.mg_of X G a25⟩
 have fUs:Fn l.prog w K mg base 3 "_law_uses" ["_law_box", "_law_many"] (spUsR K):=⟨f26,_,ok_us F26 T fTk fNames,b26,k26,PySem.W.mg_of X G a26⟩
 have fCase:Fn l.prog w K mg base 4 "_law_case" ["_law_box", "_law_few", "_law_great"] (spCase23 K):=⟨f27,_,ok_case23 F27 T fTk fUs,b27,k27,PySem.W.mg_of X G a27⟩
 have fLl:Fn l.prog w K mg base 1 "_law_layers" ["_law_uses_here", "_law_most"] (spLl K):=⟨f28,_,ok_ll F28 T,b28,k28,PySem.W.mg_of X G a28⟩
 have fLd:Fn l.prog w K mg base 1 "_law_layers" ["_law_uses_here", "_law_most"] (spLd K):=Fn.imp fLl (fun _ _ _ _ h=>spLd_of h)
 have fLe:Fn l.prog w K mg base 2 "_law_least" ["_law_uses_here", "_law_most"] (spLe K):=⟨f29,_,ok_le F29 T fLd,b29,k29,PySem.W.mg_of X G a29⟩
 have fSum:Fn l.prog w K mg base 1 "_law_sum" ["_law_uses_here", "_law_book"] (spSum26 K):=⟨f30,_,ok_sum26 F30 T,b30,k30,PySem.W.mg_of X G a30⟩
 exact ok_law F31 T fBegin fCase fTk fLbB fIsB fFr fHv fSum fLe fLsF (fSame 4)
theorem walk {l:PySem.W.OpenLaw} {q:Program} {loose:List Str} {XP:(Str→Option Value)→Heap→Prop} {YP:World→Heap→Prop} {d:DefRec} {K:Params→PySem.W.Frag} (hn:l.most=some 63) (hdf:d.params.defaults=[])
  (hY:∀(w:World) (h:Heap),YP w h→(K w.params).In h)
  (F:∀(w:World) (mg:Str→Option Value) (fa:Addr) (h:Heap),(K w.params).In h→h.Ns mainGlobals mg→mg d.name=some (.ref fa) →
   ∃fd:FuncData,(∀(s:Shared) (u:Value),BindsTo s fd ⟨[u],[]⟩ [("_law_script",u)])∧∀base:Heap,(K w.params).In base→base.Ns mainGlobals mg→FnOk l.prog w (K w.params) mg base CX0 5 fa fd ["_law_script"] (spLaw (K w.params))) :
  PySem.W.WalkO q loose XP YP l.row.toRowW d [] (fun f vs=>PySem.call f vs):=
 L2.walk_of (n:=63) (k:=5) (x := "_law_script") (CX:=fun _=>CX0) (sp:=fun w=>spLaw (K w.params)) hn (by decide) hdf ⟨rfl,by decide,by decide,rfl⟩ hY F (fun _ _ a ns hl _ hS=>⟨a,ns,rfl,hS,hl,fun _=>rfl⟩) fun _ _ _ _ _ z=>z
end Z
open PySem PySem.W PyProof.Rows L2
set_option maxRecDepth 100000 in
set_option maxHeartbeats 0 in
theorem PySem.Challenge.cw_oddlong_k23_least_books_holds : PySem.Challenge.rw_oddlong_k23_least_books.Holds := by
  w_on; o_law; k_head; (case hw => w_witness2)
  k_fill
  refine Z.walk (l := PySem.Challenge.rw_oddlong_k23_least_books) rfl rfl (fun w h Y => PySem.W.kIn_of Y) ?F
  case F =>
    intro w mg fa h KX G hmg
    refine' Z.all_mk KX G hmg ?a1 ?l1 ?c1 ?k1 ?a2 ?l2 ?c2 ?k2 ?a3 ?l3 ?c3 ?k3 ?a4 ?l4 ?c4 ?k4 ?a5 ?l5 ?c5 ?k5 ?a6 ?l6 ?c6 ?k6 ?a7 ?l7 ?c7 ?k7 ?a8 ?l8 ?c8 ?k8 ?a9 ?l9 ?c9 ?k9 ?a10 ?l10 ?c10 ?k10 ?a11 ?l11 ?c11 ?k11 ?a12 ?l12 ?c12 ?k12 ?a13 ?l13 ?c13 ?k13 ?a14 ?l14 ?c14 ?k14 ?a15 ?l15 ?c15 ?k15 ?a16 ?l16 ?c16 ?k16 ?a17 ?l17 ?c17 ?k17 ?a18 ?l18 ?c18 ?k18 ?a19 ?l19 ?c19 ?k19 ?a20 ?l20 ?c20 ?k20 ?a21 ?l21 ?c21 ?k21 ?a22 ?l22 ?c22 ?k22 ?a23 ?l23 ?c23 ?k23 ?a24 ?l24 ?c24 ?k24 ?a25 ?l25 ?c25 ?k25 ?a26 ?l26 ?c26 ?k26 ?a27 ?l27 ?c27 ?k27 ?a28 ?l28 ?c28 ?k28 ?a29 ?l29 ?c29 ?k29 ?a30 ?l30 ?c30 ?k30 ?a31 ?l31 ?c31 ?k31 ?vc0 ?vc1 ?vc2 ?y0 ?y1 ?z0 ?z1 ?z2 ?z3 ?z4 ?z5 ?z6 ?z7 ?z8 ?z9 ?z10 ?z11 ?z12 ?z13 ?z14 ?z15
    (case a1 => k_is); (case l1 => k_is); (case c1 => k_is); (case k1 => k_is); (case a2 => k_is); (case l2 => k_is); (case c2 => k_is); (case k2 => k_is)
    (case a3 => k_is); (case l3 => k_is); (case c3 => k_is); (case k3 => k_is); (case a4 => k_is); (case l4 => k_is); (case c4 => k_is); (case k4 => k_is)
    (case a5 => k_is); (case l5 => k_is); (case c5 => k_is); (case k5 => k_is); (case a6 => k_is); (case l6 => k_is); (case c6 => k_is); (case k6 => k_is)
    (case a7 => k_is); (case l7 => k_is); (case c7 => k_is); (case k7 => k_is); (case a8 => k_is); (case l8 => k_is); (case c8 => k_is); (case k8 => k_is)
    (case a9 => k_is); (case l9 => k_is); (case c9 => k_is); (case k9 => k_is); (case a10 => k_is); (case l10 => k_is); (case c10 => k_is); (case k10 => k_is)
    (case a11 => k_is); (case l11 => k_is); (case c11 => k_is); (case k11 => k_is); (case a12 => k_is); (case l12 => k_is); (case c12 => k_is); (case k12 => k_is)
    (case a13 => k_is); (case l13 => k_is); (case c13 => k_is); (case k13 => k_is); (case a14 => k_is); (case l14 => k_is); (case c14 => k_is); (case k14 => k_is)
    (case a15 => k_is); (case l15 => k_is); (case c15 => k_is); (case k15 => k_is); (case a16 => k_is); (case l16 => k_is); (case c16 => k_is); (case k16 => k_is)
    (case a17 => k_is); (case l17 => k_is); (case c17 => k_is); (case k17 => k_is); (case a18 => k_is); (case l18 => k_is); (case c18 => k_is); (case k18 => k_is)
    (case a19 => k_is); (case l19 => k_is); (case c19 => k_is); (case k19 => k_is); (case a20 => k_is); (case l20 => k_is); (case c20 => k_is); (case k20 => k_is)
    (case a21 => k_is); (case l21 => k_is); (case c21 => k_is); (case k21 => k_is); (case a22 => k_is); (case l22 => k_is); (case c22 => k_is); (case k22 => k_is)
    (case a23 => k_is); (case l23 => k_is); (case c23 => k_is); (case k23 => k_is); (case a24 => k_is); (case l24 => k_is); (case c24 => k_is); (case k24 => k_is)
    (case a25 => k_is); (case l25 => k_is); (case c25 => k_is); (case k25 => k_is); (case a26 => k_is); (case l26 => k_is); (case c26 => k_is); (case k26 => k_is)
    (case a27 => k_is); (case l27 => k_is); (case c27 => k_is); (case k27 => k_is); (case a28 => k_is); (case l28 => k_is); (case c28 => k_is); (case k28 => k_is)
    (case a29 => k_is); (case l29 => k_is); (case c29 => k_is); (case k29 => k_is); (case a30 => k_is); (case l30 => k_is); (case c30 => k_is); (case k30 => k_is)
    (case a31 => k_is); (case l31 => k_is); (case c31 => k_is); (case k31 => k_is); (case vc0 => k_is); (case vc1 => k_is); (case vc2 => k_is); (case y0 => k_is)
    (case y1 => k_is); (case z0 => k_is); (case z1 => k_is); (case z2 => k_is); (case z3 => k_is); (case z4 => k_is); (case z5 => k_is); (case z6 => k_is)
    (case z7 => k_is); (case z8 => k_is); (case z9 => k_is); (case z10 => k_is); (case z11 => k_is); (case z12 => k_is); (case z13 => k_is); (case z14 => k_is)
    (case z15 => k_is)
